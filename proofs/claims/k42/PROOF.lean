import PyProof.Rows.All
import Wide.All
import OpenK.AllK
import Wide.FinOn
import Lean
import PyProof.EqAt
import PyProof.EqKinds
import PyProof.TupleCall
import PySem.Challenge.RW_sealhouse_k42_seals
set_option Elab.async false
set_option linter.all false
set_option maxRecDepth 100000
namespace L2
open PySem PySem.Spec PyProof.Rows
abbrev Key:=Sum Int Str
def keyIs:Key→Value→Bool
 |.inl k,v=>Value.isInt k v
 |.inr x,v=>Value.isStrOf x v
def keyH(w:World):Key→Int
 |.inl k=>hashInt k
 |.inr x=>hashStr w x
theorem keyIs_shape:∀{k:Key} {v:Value},keyIs k v=true→(∃i t,k=Sum.inl i∧v=Value.int i t)∨(∃x t,k=Sum.inr x∧v=Value.str x t)
 |.inl i,v,h=>by
  obtain⟨t,e⟩:=Value.isInt_shape (k:=i) (v:=v) h
  exact .inl ⟨i,t,rfl,e⟩
 |.inr x,v,h=>by
  obtain⟨t,e⟩:=Value.isStrOf_shape (x:=x) (v:=v) h
  exact .inr ⟨x,t,rfl,e⟩
theorem keyIs_int(i:Int)(t:Tok):keyIs (.inl i) (.int i t)=true:=by simp [keyIs,Value.isInt]
theorem keyIs_str(x:Str)(t:Tok):keyIs (.inr x) (.str x t)=true:=by simp [keyIs,Value.isStrOf]
theorem key_ll(a b:Int):decide ((Sum.inl a:Key)=Sum.inl b)=(a==b):=by
 by_cases e:a=b
 ·subst e;simp
 ·have h:¬(Sum.inl a:Key)=Sum.inl b:=fun q=>e (Sum.inl.inj q)
  rw [decide_eq_false h]
  exact(beq_eq_false_iff_ne.mpr e).symm
theorem key_rr(a b:Str):decide ((Sum.inr a:Key)=Sum.inr b)=decide (a=b):=by
 by_cases e:a=b
 ·subst e;simp
 ·have h:¬(Sum.inr a:Key)=Sum.inr b:=fun q=>e (Sum.inr.inj q)
  rw [decide_eq_false h,decide_eq_false e]
theorem key_lr(a:Int)(b:Str):decide ((Sum.inl a:Key)=Sum.inr b)=false:=decide_eq_false (fun q=>nomatch q)
theorem key_rl(a:Str)(b:Int):decide ((Sum.inr a:Key)=Sum.inl b)=false:=decide_eq_false (fun q=>nomatch q)
def mixKind(prog:Program)(w:World):PySem.KeyKind prog w Key where
 is:=keyIs
 hash:=keyH w
 inj:=fun v a b ha hb=>by
  rcases keyIs_shape ha with ⟨i,t,rfl,rfl⟩|⟨x,t,rfl,rfl⟩
  ·rcases keyIs_shape hb with ⟨j,u,rfl,e⟩|⟨y,u,rfl,e⟩
   ·injection e with e1 _;rw [e1]
   ·exact nomatch e
  ·rcases keyIs_shape hb with ⟨j,u,rfl,e⟩|⟨y,u,rfl,e⟩
   ·exact nomatch e
   ·injection e with e1 _;rw [e1]
 byValue:=fun k v h=>by
  rcases keyIs_shape h with ⟨i,t,rfl,rfl⟩|⟨x,t,rfl,rfl⟩<;>rfl
 pyHash:=fun hv h=>by
  rcases keyIs_shape hv with ⟨i,t,rfl,rfl⟩|⟨x,t,rfl,rfl⟩
  ·exact wpAny_pyHash_int h
  ·exact wpAny_pyHash_str h
 eqBool:=fun hu hv h=>by
  rcases keyIs_shape hu with ⟨i,t,rfl,rfl⟩|⟨x,t,rfl,rfl⟩
  ·rcases keyIs_shape hv with ⟨j,u,rfl,rfl⟩|⟨y,u,rfl,rfl⟩
   ·rw [key_ll] at h;exact wpAny_eqBool_int h
   ·rw [key_lr] at h;exact SeqAt.EqAt.int_str i t y u _ _ _ _ h
  ·rcases keyIs_shape hv with ⟨j,u,rfl,rfl⟩|⟨y,u,rfl,rfl⟩
   ·rw [key_rl] at h;exact SeqAt.EqAt.str_int x t j u _ _ _ _ h
   ·rw [key_rr] at h;exact wpAny_eqBool_str h
 «strs»:=fun k x t v h=>by
  rcases keyIs_shape h with ⟨i,u,rfl,e⟩|⟨y,u,rfl,e⟩
  ·exact nomatch e
  ·injection e with e1 _
   subst e1
   cases v<;>rfl
theorem mixKind_is(prog:Program)(w:World)(k:Key)(v:Value):(mixKind prog w).is k v=keyIs k v:=rfl
theorem mixKind_int(prog:Program)(w:World)(i:Int)(t:Tok):(mixKind prog w).is (.inl i) (.int i t)=true:=keyIs_int i t
theorem mixKind_str(prog:Program)(w:World)(x:Str)(t:Tok):(mixKind prog w).is (.inr x) (.str x t)=true:=keyIs_str x t
end L2
namespace L2
open PySem PySem.Spec PyProof.Rows
inductive V where
 |non|bl (b:Bool)|int (i:Int)|str (x:Str)|byt (b:Array UInt8)|flt (b:UInt64)|ref (a:Addr)|ty (n:String)
 deriving DecidableEq
def RelV:V→Value→Prop
 |.non,u=>u=Value.none
 |.bl b,u=>u=Value.bool b
 |.int i,u=>∃t,u=Value.int i t
 |.str x,u=>∃t,u=Value.str x t
 |.byt b,u=>∃t,u=Value.bytes b t
 |.flt b,u=>∃t,u=Value.float b t
 |.ref a,u=>u=Value.ref a
 |.ty n,u=>u=Value.type n
abbrev Vals:List V→List Value→Prop:=Paired RelV
theorem Vals.length{xs:List V}{us:List Value}(r:Vals xs us):xs.length=us.length:=Paired.length r
theorem Vals.get:∀{xs:List V} {us:List Value} {i:Nat} {x:V},Vals xs us→xs[i]?=some x→∃u,us[i]?=some u∧RelV x u
 |_,_,_,_,.nil,e=>by simp at e
 |_,_,0,_,.cons r _,e=>by simp at e;subst e;exact⟨_,rfl,r⟩
 |_,_,i+1,x,.cons _ t,e=>by
  obtain⟨u,h1,h2⟩:=Vals.get (i:=i) (x:=x) t (by simpa using e)
  exact⟨u,by simpa using h1,h2⟩
theorem Vals.append:∀{xs ys:List V} {us ws:List Value},Vals xs us→Vals ys ws→Vals (xs++ys) (us++ws)
 |_,_,_,_,.nil,s=>s
 |_,_,_,_,.cons r t,s=>.cons r (Vals.append t s)
theorem Vals.take:∀{xs:List V} {us:List Value} (n:Nat),Vals xs us→Vals (xs.take n) (us.take n)
 |_,_,0,_=>.nil
 |_,_,_+1,.nil=>.nil
 |_,_,n+1,.cons r t=>.cons r (Vals.take n t)
theorem Vals.drop:∀{xs:List V} {us:List Value} (n:Nat),Vals xs us→Vals (xs.drop n) (us.drop n)
 |_,_,0,r=>r
 |_,_,_+1,.nil=>.nil
 |_,_,n+1,.cons _ t=>Vals.drop n t
def RelO:Option V→Option Value→Prop
 |some v,some u=>RelV v u
 |none,none=>True
 |_,_=>False
def KV{κ:Type}:List (κ × V)→List (κ × Value)→Prop:=Paired fun(p:κ × V) (q:κ × Value)=>p.1=q.1∧RelV p.2 q.2
def kV:Key→V
 |.inl i=>.int i
 |.inr x=>.str x
inductive HO where
 |lst (xs:List V)
 |tup (xs:List V)
 |dK (kvs:List (Key × V))|dT (kvs:List (List Key × V))
 |set (S:Int→Bool) (n:Nat)
 |ins (C dx:Addr) (fs:List (Str × V))
 |own (x:Addr)
 |xd (fs:List (Str × V))
 |met (f x:Addr)
 |rng (lo hi:Int)
 |frz (o:Obj) (u:HO)
 |tbl (ps:Array Value)
 |ext (φ:Heap→Prop)
abbrev Hp:=Addr→Option HO
def upd(H:Hp)(a:Addr)(o:HO):Hp:=fun b=>if b=a then some o else H b
theorem upd_same{H:Hp}{a:Addr}{o:HO}:upd H a o a=some o:=by unfold upd;rw [if_pos rfl]
theorem upd_ne{H:Hp}{a b:Addr}{o:HO}(h:b≠a):upd H a o b=H b:=by unfold upd;rw [if_neg h]
theorem upd_upd{H:Hp}{a:Addr}{o u:HO}:upd (upd H a o) a u=upd H a u:=by
 funext b;unfold upd;split<;>rfl
theorem ne_of{H:Hp}{a b:Addr}{o u:HO}(h:H a=some o)(h':H b=some u)(d:o≠u):a≠b:=by
 intro e;subst e;rw [h] at h';exact d (Option.some.inj h')
theorem ne_of_none{H:Hp}{a b:Addr}{o:HO}(h:H a=some o)(h':H b=none):a≠b:=by
 intro e;subst e;rw [h] at h';cases h'
section
variable(P:Program)(w:World)
def ObjOk(H:Hp)(h:Heap)(a:Addr):HO→Prop
 |.lst xs=>xs.length≤sizeLine∧∃(its:List Value) (n:Nat),Vals xs its∧h.get? a=some { cls:=.type "list",data:=.seq its.toArray n }
 |.tup xs=>xs.length≤sizeLine∧∃its:List Value,Vals xs its∧IsTup h a its.toArray
 |.dK kvs=>kvs.length≤sizeLine∧(a==sysModules)=false∧∃vs,KV kvs vs∧h.DictOf (mixKind P w) a vs
 |.dT kvs=>kvs.length≤sizeLine∧(a==sysModules)=false∧∃xs:List (List Key × Addr × Value),
   Paired (fun(p:List Key × V) (q:List Key × Addr × Value)=>p.1=q.1∧H q.2.1=some (.tup (p.1.map kV))∧RelV p.2 q.2.2) kvs xs ∧
   ∃o es ep,h.get? a=some o∧o.ExactDict∧o.data=.dict es ep∧es.toList=xs.map (entryOfKey (tupleKind (mixKind P w)))∧(xs.map (·.1)).Nodup
 |.set S n=>h.SetOf (intKind P w) a S n
 |.ins C dx fs=>H dx=some (.own a)∧fs.length≤1000∧dx≠a∧h.get? a=some (PySem.W.instObj C dx) ∧
   ∃mA,h.Ns1 dx mA∧(∀f,RelO (fs.lookup f) (mA f))∧PySem.Within mA (fs.map (·.1))
 |.own _=>∃o,h.get? a=some o
 |.xd fs=>∃mA,h.Ns1 a mA∧∀f,RelO (fs.lookup f) (mA f)
 |.rng lo hi=>∃t u v,h.get? a=some { cls:=.type "range",data:=.fields #[.int lo t,.int hi u,.int 1 v] }
 |.frz o u=>h.get? a=some o∧ObjOk H h a u
 |.tbl ps=>h.get? a=some { cls:=.none,data:=.fields ps }
 |.met f x=>h.get? a=some (PySem.W.methodObj (.ref f) (.ref x))
 |.ext φ=>φ h∧(∃o,h.get? a=some o)∧∀h1 h2:Heap,φ h1→(∀o,h1.get? a=some o→h2.get? a=some o)→φ h2
def HOk(H:Hp)(h:Heap):Prop:=∀a o,H a=some o→ObjOk P w H h a o
end
section
variable{P:Program}{w:World}{H H':Hp}{h h':Heap}{a:Addr}{o:HO}
theorem ObjOk.lt(x:ObjOk P w H h a o):a < h.objs.size:=by
 cases o with
 |lst xs=>obtain⟨_,_,_,_,e⟩:=x;exact Heap.lt_size e
 |tup xs=>obtain⟨_,_,_,p⟩:=x;exact p.lt
 |dK kvs=>obtain⟨_,_,_,_,o,_,_,e,_⟩:=x;exact Heap.lt_size e
 |dT kvs=>obtain⟨_,_,_,_,o,_,_,e,_⟩:=x;exact Heap.lt_size e
 |set S n=>obtain⟨o,_,_,_,e,_⟩:=x;exact Heap.lt_size e
 |ins C dx fs=>obtain⟨_,_,_,e,_⟩:=x;exact Heap.lt_size e
 |own y=>obtain⟨_,e⟩:=x;exact Heap.lt_size e
 |xd fs=>obtain⟨_,⟨_,_,_,e,_⟩,_⟩:=x;exact Heap.lt_size e
 |rng lo hi=>obtain⟨_,_,_,e⟩:=x;exact Heap.lt_size e
 |frz ob u=>obtain⟨e,_⟩:=x;exact Heap.lt_size e
 |tbl ps=>exact Heap.lt_size (show h.get? a=some _ from x)
 |met f y=>exact Heap.lt_size (show h.get? a=some _ from x)
 |ext φ=>obtain⟨_,⟨_,e⟩,_⟩:=x;exact Heap.lt_size e
theorem Paired.mapP{α β:Type}{F G:α→β→Prop}:∀{l₁:List α} {l₂:List β},Paired F l₁ l₂→(∀a b,F a b→G a b)→Paired G l₁ l₂
 |_,_,.nil,_=>.nil
 |_,_,.cons r t,f=>.cons (f _ _ r) (Paired.mapP t f)
theorem Paired.imp'{α β:Type}{F G:α→β→Prop}(f:∀a b,F a b→G a b){l₁:List α}{l₂:List β}(r:Paired F l₁ l₂):Paired G l₁ l₂:=Paired.mapP r f
theorem ObjOk.stay(x:ObjOk P w H h a o)(k:∀b u,(b=a∨H b=some (.own a))→h.get? b=some u→h'.get? b=some u)
  (ho:∀b,H b=some (.own a)→H' b=some (.own a)) (ht:∀b xs,H b=some (.tup xs)→H' b=some (.tup xs)):ObjOk P w H' h' a o:=by
 induction o with
 |lst xs=>obtain⟨z,its,n,r,e⟩:=x;exact⟨z,its,n,r,k _ _ (.inl rfl) e⟩
 |tup xs=>obtain⟨z,its,r,ob,e,c⟩:=x;exact⟨z,its,r,ob,k _ _ (.inl rfl) e,c⟩
 |dK kvs=>obtain⟨z,y,vs,r,ob,es,ep,e,c⟩:=x;exact⟨z,y,vs,r,ob,es,ep,k _ _ (.inl rfl) e,c⟩
 |dT kvs =>
  obtain⟨z,y,xs,r,ob,es,ep,e,c⟩:=x
  exact⟨z,y,xs,Paired.mapP r fun p q z=>⟨z.1,ht _ _ z.2.1,z.2.2⟩,ob,es,ep,k _ _ (.inl rfl) e,c⟩
 |set S n=>obtain⟨ob,es,ep,t,e,c⟩:=x;exact⟨ob,es,ep,t,k _ _ (.inl rfl) e,c⟩
 |ins C dx fs =>
  obtain⟨d,z,ne,e,mA,⟨od,es,ep,e2,c⟩,r⟩:=x
  exact⟨ho _ d,z,ne,k _ _ (.inl rfl) e,mA,⟨od,es,ep,k _ _ (.inr d) e2,c⟩,r⟩
 |own y=>obtain⟨ob,e⟩:=x;exact⟨ob,k _ _ (.inl rfl) e⟩
 |xd fs=>obtain⟨mA,⟨od,es,ep,e,c⟩,r⟩:=x;exact⟨mA,⟨od,es,ep,k _ _ (.inl rfl) e,c⟩,r⟩
 |rng lo hi=>obtain⟨t,u,v,e⟩:=x;exact⟨t,u,v,k _ _ (.inl rfl) e⟩
 |frz ob u ih=>obtain⟨e,q⟩:=x;exact⟨k _ _ (.inl rfl) e,ih q⟩
 |tbl ps =>
  have e:h.get? a=some { cls:=.none,data:=.fields ps }:=x
  show h'.get? a=some { cls:=.none,data:=.fields ps }
  exact k a _ (.inl rfl) e
 |met f y =>
  have e:h.get? a=some (PySem.W.methodObj (.ref f) (.ref y)):=x
  show h'.get? a=some (PySem.W.methodObj (.ref f) (.ref y))
  exact k a _ (.inl rfl) e
 |ext φ=>obtain⟨p,⟨o,e⟩,st⟩:=x;exact⟨st _ _ p fun o q=>k _ _ (.inl rfl) q,⟨o,k _ _ (.inl rfl) e⟩,st⟩
theorem HOk.lt(x:HOk P w H h)(e:H a=some o):a < h.objs.size:=(x a o e).lt
theorem HOk.fresh(x:HOk P w H h)(e:h.objs.size≤a):H a=none:=by
 cases q:H a with
 |none=>rfl
 |some u=>exact absurd (Nat.lt_of_lt_of_le (x.lt q) e) (Nat.lt_irrefl _)
theorem HOk.kept(x:HOk P w H h)(k:∀b u,h.get? b=some u→h'.get? b=some u):HOk P w H h':=fun a o e =>
 (x a o e).stay (fun b u _ q=>k b u q) (fun _ q=>q) fun _ _ q=>q
theorem HOk.laid(x:HOk P w H h)(k:∀b u,h.get? b=some u→h'.get? b=some u)(hp:h.objs.size≤a)(new:ObjOk P w (upd H a o) h' a o):HOk P w (upd H a o) h':=fun b u e=>by
 have hn:=x.fresh hp
 by_cases hb:b=a
 ·subst hb;rw [upd_same] at e;cases e;exact new
 ·rw [upd_ne hb] at e
  exact(x b u e).stay (fun c v _ q=>k c v q) (fun c q=>by rw [upd_ne (ne_of_none q hn)];exact q) fun c xs q=>by rw [upd_ne (ne_of_none q hn)];exact q
end
def Rd(H:Hp)(a:Addr)(u:HO):Prop:=H a=some u∨∃o,H a=some (.frz o u)
theorem Rd.ok{P:Program}{w:World}{H:Hp}{h:Heap}{a:Addr}{u:HO}(r:Rd H a u)(x:HOk P w H h):ObjOk P w H h a u:=by
 rcases r with r|⟨o,r⟩
 ·exact x a u r
 ·obtain⟨_,q⟩:=x a _ r
  exact q
def Mut:Option HO→Prop
 |some (.lst _)=>True
 |some (.dK _)=>True
 |some (.dT _)=>True
 |some (.set _ _)=>True
 |some (.ins _ _ _)=>True
 |some (.ext _)=>True
 |_=>False
section
variable{P:Program}{w:World}{H:Hp}{h h':Heap}{x e:Addr}{o':HO}
theorem HOk.write(ok:HOk P w H h)(mu:Mut (H x))(he:e=x∨H e=some (.own x))(k:∀b u,b≠e→h.get? b=some u→h'.get? b=some u)(heo:∃u,h'.get? e=some u)
  (new:ObjOk P w (upd H x o') h' x o'):HOk P w (upd H x o') h':=fun b u q=>by
 have nown:∀c y,H c=some (.own y)→c≠x:=fun c y r z=>by subst z;rw [r] at mu;exact mu
 have ntup:∀c xs,H c=some (.tup xs)→c≠x:=fun c xs r z=>by subst z;rw [r] at mu;exact mu
 by_cases hb:b=x
 ·subst hb;rw [upd_same] at q;cases q;exact new
 ·rw [upd_ne hb] at q
  by_cases hbe:b=e
  ·have q':H b=some (.own x):=by
    rcases he with z|z
    ·exact absurd (hbe.trans z) hb
    ·rw [hbe];exact z
   rw [q] at q';cases q'
   obtain⟨v,hv⟩:=heo
   exact⟨v,by rw [hbe];exact hv⟩
  ·refine(ok b u q).stay (fun c v hc r=>k c v ?_ r) (fun c r=>by rw [upd_ne (nown c b r)];exact r) fun c xs r=>by rw [upd_ne (ntup c xs r)];exact r
   rcases hc with rfl|hc
   ·exact hbe
   ·rintro rfl
    rcases he with z|z
    ·exact nown c b hc z
    ·rw [hc] at z;cases z;exact hb rfl
end
structure Un(fs ex:List Addr)(H H':Hp)(h h':Heap):Prop where
 keep:∀b o,h.get? b=some o→H b=none→b∉fs→b∉ex→h'.get? b=some o
 slot:∀b o,h.get? b=some o→H b=none→b∈fs→b∉ex→∃sl,h'.get? b=some { o with slots:=sl }
 free:∀b o,h.get? b=some o→H b=none→b∉ex→H' b=none
 there:∀b o,h.get? b=some o→b∉ex→∃o',h'.get? b=some o'
 tups:∀b xs,H b=some (.tup xs)→H' b=some (.tup xs)
 frzs:∀b o u,H b=some (.frz o u)→H' b=some (.frz o u)
 tbls:∀b ps,H b=some (.tbl ps)→∃more,H' b=some (.tbl (ps++more))
section
variable{fs fs' ex ex':List Addr}{H H1 H2:Hp}{h h1 h2 h':Heap}{a x e:Addr}{o:HO}
theorem Un.any(u:Un fs ex H H1 h h1){b:Addr}{ob:Obj}(q:h.get? b=some ob)(n:H b=none)(hx:b∉ex):∃sl,h1.get? b=some { ob with slots:=sl }:=by
 by_cases hb:b∈fs
 ·exact u.slot b ob q n hb hx
 ·exact⟨ob.slots,u.keep b ob q n hb hx⟩
theorem Un.kept(k:∀b u,h.get? b=some u→h'.get? b=some u):Un fs ex H H h h' :=
 ⟨fun b ob q _ _ _=>k b ob q,fun b ob q _ _ _=>⟨ob.slots,k b ob q⟩,fun _ _ _ n _=>n,fun b ob q _=>⟨ob,k b ob q⟩,fun _ _ q=>q,fun _ _ _ q=>q,fun _ ps q=>⟨#[],by rw [q];simp⟩⟩
theorem Un.refl:Un fs ex H H h h:=Un.kept fun _ _ q=>q
theorem Un.laid(k:∀b u,h.get? b=some u→h'.get? b=some u)(hp:h.objs.size≤a)(hn:H a=none):Un fs ex H (upd H a o) h h' where
 keep:=fun b u q _ _ _=>k b u q
 slot:=fun b u q _ _ _=>⟨u.slots,k b u q⟩
 free:=fun b u q n _=>by rw [upd_ne (Nat.ne_of_lt (Nat.lt_of_lt_of_le (Heap.lt_size q) hp))];exact n
 there:=fun b u q _=>⟨u,k b u q⟩
 tups:=fun b xs q=>by rw [upd_ne (ne_of_none q hn)];exact q
 frzs:=fun b u xs q=>by rw [upd_ne (ne_of_none q hn)];exact q
 tbls:=fun b ps q=>⟨#[],by rw [upd_ne (ne_of_none q hn),q];simp⟩
theorem Un.write(mu:Mut (H x))(he:e=x∨H e=some (.own x))(k:∀b u,b≠e→h.get? b=some u→h'.get? b=some u)(heo:∃u,h'.get? e=some u):Un fs ex H (upd H x o) h h':=by
 have hx:∀b,H b=none→b≠x:=fun b n z=>by subst z;rw [n] at mu;exact mu
 have hb:∀b,H b=none→b≠e:=fun b n z=>by
  subst z
  rcases he with r|r
  ·exact hx b n r
  ·rw [n] at r;cases r
 have hm:∀b u,H b=some u→¬Mut (some u)→b≠x:=fun b u q nm z=>by subst z;rw [q] at mu;exact nm mu
 refine⟨fun b u q n _ _=>k b u (hb b n) q,fun b u q n _ _=>⟨u.slots,k b u (hb b n) q⟩,fun b u q n _=>by rw [upd_ne (hx b n)];exact n,fun b u q _=>?_,
  fun b xs q=>by rw [upd_ne (hm b _ q fun z=>z)];exact q,fun b u xs q=>by rw [upd_ne (hm b _ q fun z=>z)];exact q,fun b ps q=>⟨#[],by rw [upd_ne (hm b _ q fun z=>z),q];simp⟩⟩
 by_cases hbe:b=e
 ·subst hbe;exact heo
 ·exact⟨u,k b u hbe q⟩
end
def trk(h:Heap)(H:Hp):List Addr:=(List.range h.objs.size).filter fun a=>(H a).isSome
def hidT(h:Heap)(H:Hp):Heap:=PySem.W.hideAll h (trk h H)
theorem hidT_size(h:Heap)(H:Hp):(hidT h H).objs.size=h.objs.size:=PySem.W.hideAll_size _ _
theorem hidT_get{h:Heap}{H:Hp}{b:Addr}{o:Obj}(e:h.get? b=some o)(n:H b=none):(hidT h H).get? b=some o :=
 PySem.W.hideAll_get _ e fun hm=>by
  have q:(H b).isSome=true:=(List.mem_filter.mp hm).2
  rw [n] at q;simp at q
theorem of_hidT{h:Heap}{H:Hp}{b:Addr}{o:Obj}(e:(hidT h H).get? b=some o):h.get? b=some o∧H b=none:=by
 have e':h.get? b=some o:=PySem.W.of_hideAll (trk h H) e
 refine⟨e',?_⟩
 cases q:H b with
 |none=>rfl
 |some x =>
  have hm:b∈trk h H:=List.mem_filter.mpr ⟨List.mem_range.mpr (Heap.lt_size e'),by simp [q]⟩
  have z:(hidT h H).get? b=none:=PySem.W.hideAll_none (trk h H) hm
  rw [z] at e;cases e
def allNews(g h:Heap)(L:Addr):List (Addr × Obj):=(List.range h.objs.size).filterMap fun a=>if a=L∨(g.get? a).isSome=true then none else (h.get? a).map fun o=>(a,o)
def rest(g h:Heap)(L d:Addr):List (Addr × Obj):=(allNews g h L).filter fun p=>decide (p.1≠d)
end L2
namespace L2
open PySem PySem.Spec PyProof.Rows
structure Mod(K:PySem.W.Frag)(mg:Str→Option Value)(base:Heap):Prop where
 kin:K.In base
 glob:base.Ns mainGlobals mg
 blt:∃mb,base.Ns builtinsNs mb∧∀x:Str,x≠"__name__"→mb x=bootBuiltins x
 nolimit:base.NoLimit
structure Cx where
 prog:Program
 w:World
 K:PySem.W.Frag
 mg:Str→Option Value
 base:Heap
 A:Around
 N:List Str
 s₀:Shared
 H₀:Hp
 env:Env
 outer:List Env
 stack:List Env
 ex:List Addr
 fn:Str→Bool
 calm:Bool
 pn:List (Addr × Obj)
 xe:Value→Shared→Prop
def frs(l:List Env):List Addr:=l.filterMap (·.frame)
abbrev Cx.fs(X:Cx):List Addr:=frs X.outer
def Vis(sc:Scope)(x:Str):Prop:=sc.names.lookup x=some .local∨sc.names.lookup x=some .cell∨sc.names.lookup x=some .free
def Loc(sc:Scope)(x:Str):Prop:=sc.names.lookup x=some .local∨sc.names.lookup x=some .cell
def Look(env:Env)(h:Heap)(m:Str→Option Value)(x:Str)(u:Value):Prop :=
 (env.kindOf x=some .local∧m x=some u)∨((env.kindOf x=some .cell∨env.kindOf x=some .free)∧∃c,env.cells.lookup x=some c∧h.IsCell c (some u))
structure Cx.Ok(X:Cx):Prop where
 mod:Mod X.K X.mg X.base
 kind:X.env.scope.kind=.function
 glob:X.env.globals=mainGlobals
 blt:X.env.builtins=builtinsNs
 above:X.s₀.heap.objs.size≤X.env.locals
 inj:∀x y c,X.env.cells.lookup x=some c→X.env.cells.lookup y=some c→x=y
 has:∀x,(X.env.kindOf x=some .cell∨X.env.kindOf x=some .free)→∃c,X.env.cells.lookup x=some c
 cab:∀x c,X.fn x=true→X.env.cells.lookup x=some c→X.s₀.heap.objs.size≤c
 hd:X.calm=true→X.A.handled=none
 frames:X.A.frames=some X.stack
 stk:X.stack=X.outer∨(X.stack=X.env::X.outer∧X.env.frame=some X.env.locals)
 exf:∀b∈X.ex,b≠X.env.locals∧∀x c,X.env.cells.lookup x=some c→c≠b
 bs:∀b o,X.base.get? b=some o→X.s₀.heap.get? b=some o∧X.H₀ b=none
 bsz:X.base.objs.size≤X.s₀.heap.objs.size
 noex:∀b o,X.base.get? b=some o→b∉X.ex
 exfs:∀b∈X.ex,b∉X.fs
 funs:X.s₀.heap.FunFrames X.base X.outer
 frf:∀b∈X.fs,X.H₀ b=none
structure Inv(X:Cx)(pins:List (Addr × Obj))(σ:List (Option V))(H:Hp)(s:Shared):Prop where
 ok:X.Ok
 os:s.os=X.s₀.os
 bare:AllBare s.gens
 base:Un X.fs X.ex X.H₀ H X.s₀.heap s.heap
 loc:∃m,s.heap.Ns X.env.locals m∧∀(i:Nat) (x:Str) (v:V),X.N[i]?=some x→σ[i]?=some (some v)→Vis X.env.scope x→∃u,RelV v u∧Look X.env s.heap m x u
 cell:∀x c,X.env.cells.lookup x=some c→∃v,s.heap.IsCell c v
 free:H X.env.locals=none
 freeC:∀x c,X.env.cells.lookup x=some c→H c=none
 pin:∀p∈X.pn++pins,s.heap.get? p.1=some p.2∧H p.1=none∧p.1≠X.env.locals∧p.1∉X.fs∧∀v,p.2.data≠.cell v
 hok:HOk X.prog X.w H s.heap
 len:σ.length=X.N.length
section
variable{X:Cx}{pins:List (Addr × Obj)}{σ:List (Option V)}{H H':Hp}{s:Shared}{h':Heap}
theorem Cx.Ok.nofr(ok:X.Ok){b:Addr}{o:Obj}(e:X.base.get? b=some o):b∉X.fs:=fun hb=>by
 have:=(ok.funs.mem hb).1
 rw [e] at this;cases this
theorem Inv.bs(I:Inv X pins σ H s):∀b o,X.base.get? b=some o→s.heap.get? b=some o∧H b=none:=fun b o e =>
 ⟨I.base.keep b o (I.ok.bs b o e).1 (I.ok.bs b o e).2 (I.ok.nofr e) (I.ok.noex b o e),I.base.free b o (I.ok.bs b o e).1 (I.ok.bs b o e).2 (I.ok.noex b o e)⟩
theorem Inv.bk(I:Inv X pins σ H s):∀b o,X.base.get? b=some o→s.heap.get? b=some o:=fun b o e=>(I.bs b o e).1
theorem Inv.mod(I:Inv X pins σ H s):Mod X.K X.mg X.base:=I.ok.mod
theorem Inv.kIn(I:Inv X pins σ H s):X.K.In s.heap:=I.ok.mod.kin.keeps I.bk
theorem Inv.lt(I:Inv X pins σ H s):X.env.locals < s.heap.objs.size:=let ⟨_,hn,_⟩:=I.loc;hn.lt
theorem Inv.sz(I:Inv X pins σ H s):X.s₀.heap.objs.size≤s.heap.objs.size:=Nat.le_trans I.ok.above (Nat.le_of_lt I.lt)
theorem Inv.nofs(I:Inv X pins σ H s){a:Addr}(h:s.heap.objs.size≤a):a∉X.fs:=fun hb=>by
 obtain⟨_,o,ho,_⟩:=I.ok.funs.mem hb
 exact absurd (Nat.lt_of_lt_of_le (Heap.lt_size ho) (Nat.le_trans I.sz h)) (Nat.lt_irrefl _)
theorem Inv.cne(I:Inv X pins σ H s):∀x c,X.env.cells.lookup x=some c→c≠X.env.locals:=fun x c e z=>by
 obtain⟨v,o,ho,hd⟩:=I.cell x c e
 obtain⟨m,⟨o',es,ep,ho',hd',_⟩,_⟩:=I.loc
 rw [z,ho'] at ho;cases ho;rw [hd'] at hd;cases hd
theorem Inv.funs(I:Inv X pins σ H s):s.heap.FunFrames X.base X.outer:=by
 have all:∀(l:List Env),(∀b∈frs l,b∈X.fs)→X.s₀.heap.FunFrames X.base l→s.heap.FunFrames X.base l:=by
  intro l
  induction l with
  |nil=>intro _ _;trivial
  |cons env r ih =>
   intro hs hl
   obtain⟨hk,⟨L,o,hf,hn,ho,hd⟩,hr⟩:=hl
   have hL:L∈X.fs:=hs L (by unfold frs;rw [List.filterMap_cons,hf];exact List.mem_cons_self)
   obtain⟨sl,e⟩:=I.base.slot L o ho (I.ok.frf L hL) hL fun z=>I.ok.exfs L z hL
   exact⟨hk,⟨L,_,hf,hn,e,hd⟩,ih (fun b hb=>hs b (by unfold frs;rw [List.filterMap_cons,hf];exact List.mem_cons_of_mem _ hb)) hr⟩
 exact all X.outer (fun _ hb=>hb) I.ok.funs
theorem Inv.stack(I:Inv X pins σ H s):s.heap.FunFrames X.base X.stack:=by
 rcases I.ok.stk with e|⟨e,hf⟩
 ·rw [e];exact I.funs
 ·rw [e]
  obtain⟨m,hn,_⟩:=I.loc
  refine .cons (by rw [I.ok.kind];decide) hf hn ?_ I.funs
  exact Heap.get?_none_of_le (Nat.le_trans I.ok.bsz I.ok.above)
theorem Inv.stkSub(I:Inv X pins σ H s):∀b∈frs X.stack,b∈X.env.locals::X.fs:=fun b hb=>by
 rcases I.ok.stk with e|⟨e,hf⟩
 ·rw [e] at hb;exact List.mem_cons_of_mem _ hb
 ·rw [e] at hb
  unfold frs at hb
  rw [List.filterMap_cons,hf] at hb
  exact hb
theorem Inv.stkFree(I:Inv X pins σ H s):∀b∈frs X.stack,H b=none:=fun b hb=>by
 rcases List.mem_cons.mp (I.stkSub b hb) with e|hb
 ·rw [e];exact I.free
 ·obtain⟨_,o,ho,_⟩:=I.ok.funs.mem hb
  exact I.base.free b o ho (I.ok.frf b hb) fun z=>I.ok.exfs b z hb
theorem Inv.step{g':Array GenState}{t':Nat}{d':Drawn}{ch:List Addr}(I:Inv X pins σ H s)
  (hch:∀b∈ch,(b∈X.ex∨X.s₀.heap.objs.size≤b)∧b≠X.env.locals∧(∀x c,X.env.cells.lookup x=some c→c≠b)∧∀p∈X.pn++pins,p.1≠b)
  (keep:∀b o,b≠X.env.locals→b∉X.fs→b∉ch→s.heap.get? b=some o→H b=none→h'.get? b=some o)
  (slot:∀b o,b≠X.env.locals→b∈X.fs→b∉ch→s.heap.get? b=some o→H b=none→∃sl,h'.get? b=some { o with slots:=sl }) (free:∀b o,b∉ch→s.heap.get? b=some o→H b=none→H' b=none)
  (there:∀b o,b∉ch→s.heap.get? b=some o→∃o',h'.get? b=some o')
  (tups:∀b xs,H b=some (.tup xs)→H' b=some (.tup xs)) (frzs:∀b o u,H b=some (.frz o u)→H' b=some (.frz o u)) (tbls:∀b ps,H b=some (.tbl ps)→∃more,H' b=some (.tbl (ps++more)))
  (ns:∀m,s.heap.Ns X.env.locals m→h'.Ns X.env.locals m) (hok:HOk X.prog X.w H' h') (hg:AllBare g') :
  Inv X pins σ H' { s with heap:=h',gens:=g',drawn:=d',toks:=t' }:=by
 have neL:∀b o,X.s₀.heap.get? b=some o→b≠X.env.locals:=fun b o e=>Nat.ne_of_lt (Nat.lt_of_lt_of_le (Heap.lt_size e) I.ok.above)
 have neC:∀b o,X.s₀.heap.get? b=some o→b∉X.ex→b∉ch:=fun b o e hx hb=>by
  rcases (hch b hb).1 with z|z
  ·exact hx z
  ·exact absurd (Nat.lt_of_lt_of_le (Heap.lt_size e) z) (Nat.lt_irrefl _)
 have cellK:∀x c,X.env.cells.lookup x=some c→∀v,s.heap.IsCell c v→h'.IsCell c v:=fun x c e v ⟨o,ho,hd⟩=>by
  have nch:c∉ch:=fun z=>(hch c z).2.2.1 x c e rfl
  by_cases hc:c∈X.fs
  ·obtain⟨sl,q⟩:=slot c o (I.cne x c e) hc nch ho (I.freeC x c e)
   exact⟨_,q,hd⟩
  ·exact⟨o,keep c o (I.cne x c e) hc nch ho (I.freeC x c e),hd⟩
 refine⟨I.ok,I.os,hg,⟨fun b o e n hb hx=>?_,fun b o e n hb hx=>?_,fun b o e n hx=>?_,fun b o e hx=>?_,fun b xs e=>tups b xs (I.base.tups b xs e),fun b o xs e=>frzs b o xs (I.base.frzs b o xs e),fun b ps e=>?_⟩,?_,fun x c e=>?_,?_,fun x c e=>?_,fun p hp=>?_,hok,I.len⟩
 ·exact keep b o (neL b o e) hb (neC b o e hx) (I.base.keep b o e n hb hx) (I.base.free b o e n hx)
 ·obtain⟨sl,e1⟩:=I.base.slot b o e n hb hx
  obtain⟨sl',e2⟩:=slot b _ (neL b o e) hb (neC b o e hx) e1 (I.base.free b o e n hx)
  exact⟨sl',e2⟩
 ·obtain⟨o',e1⟩:=I.base.there b o e hx
  exact free b o' (neC b o e hx) e1 (I.base.free b o e n hx)
 ·obtain⟨o',e1⟩:=I.base.there b o e hx
  exact there b o' (neC b o e hx) e1
 ·obtain⟨m1,e1⟩:=I.base.tbls b ps e
  obtain⟨m2,e2⟩:=tbls b _ e1
  exact⟨m1++m2,by rw [e2,Array.append_assoc]⟩
 ·obtain⟨m,hn,hl⟩:=I.loc
  refine⟨m,ns m hn,fun i x v e1 e2 e3=>?_⟩
  obtain⟨u,r,l⟩:=hl i x v e1 e2 e3
  refine⟨u,r,?_⟩
  rcases l with l|⟨k,c,e,z⟩
  ·exact .inl l
  ·exact .inr ⟨k,c,e,cellK x c e _ z⟩
 ·obtain⟨v,z⟩:=I.cell x c e
  exact⟨v,cellK x c e v z⟩
 ·obtain⟨m,⟨o,_,_,ho,_⟩,_⟩:=I.loc
  exact free _ o (fun z=>(hch _ z).2.1 rfl) ho I.free
 ·obtain⟨v,o,ho,hd⟩:=I.cell x c e
  exact free c o (fun z=>(hch c z).2.2.1 x c e rfl) ho (I.freeC x c e)
 ·obtain⟨e,n,ne,nf,d⟩:=I.pin p hp
  have nch:p.1∉ch:=fun z=>(hch p.1 z).2.2.2 p hp rfl
  exact⟨keep p.1 p.2 ne nf nch e n,free p.1 p.2 nch e n,ne,nf,d⟩
theorem Inv.un{t':Nat}(I:Inv X pins σ H s)(u:Un X.fs [] H H' s.heap h')(hok:HOk X.prog X.w H' h'):Inv X pins σ H' { s with heap:=h',toks:=t' }:=by
 obtain⟨m,⟨o,es,ep,ho,r⟩,_⟩:=id I.loc
 obtain⟨sl,hL⟩:=u.any ho I.free (by simp)
 exact I.step (g':=s.gens) (d':=s.drawn) (ch:=[]) (fun _ z=>nomatch z) (fun b o _ hb _ e n=>u.keep b o e n hb (by simp)) (fun b o _ hb _ e n=>u.slot b o e n hb (by simp)) (fun b o _ e n=>u.free b o e n (by simp)) (fun b o _ e=>u.there b o e (by simp)) u.tups u.frzs u.tbls (fun m' hm=>by
  obtain⟨o',es',ep',ho',r'⟩:=hm
  rw [ho] at ho';cases ho'
  exact⟨_,es',ep',hL,r'⟩) hok I.bare
theorem Inv.call{g':Array GenState}{t':Nat}{d':Drawn}{ch:List Addr}(I:Inv X pins σ H s)(u:Un (frs X.stack) ch H H' s.heap h')(hok:HOk X.prog X.w H' h')(hg:AllBare g')
  (hch:∀b∈ch,(b∈X.ex∨X.s₀.heap.objs.size≤b)∧b≠X.env.locals∧(∀x c,X.env.cells.lookup x=some c→c≠b)∧∀p∈X.pn++pins,p.1≠b) :
  Inv X pins σ H' { s with heap:=h',gens:=g',drawn:=d',toks:=t' }:=by
 obtain⟨m,⟨o,es,ep,ho,r⟩,_⟩:=id I.loc
 obtain⟨sl,hL⟩:=u.any ho I.free fun z=>(hch _ z).2.1 rfl
 exact I.step (ch:=ch) hch (fun b o hL hb hc e n=>u.keep b o e n (fun z=>(List.mem_cons.mp (I.stkSub b z)).elim hL hb) hc) (fun b o _ _ hc e n=>u.any e n hc) (fun b o hc e n=>u.free b o e n hc) (fun b o hc e=>u.there b o e hc) u.tups u.frzs u.tbls (fun m' hm=>by
  obtain⟨o',es',ep',ho',r'⟩:=hm
  rw [ho] at ho';cases ho'
  exact⟨_,es',ep',hL,r'⟩) hok hg
theorem Inv.turned{t':Nat}{it:Addr}(I:Inv X pins σ H s)(k:∀b o,b≠it→s.heap.get? b=some o→h'.get? b=some o)(hn:H it=none)(hL:it≠X.env.locals)
  (h1:it∈X.ex∨X.s₀.heap.objs.size≤it) (h2:∀x c,X.env.cells.lookup x=some c→c≠it) (h3:∀p∈X.pn++pins,p.1≠it):Inv X pins σ H { s with heap:=h',toks:=t' }:=by
 have nit:∀b u,H b=some u→b≠it:=fun b u e z=>by rw [z,hn] at e;cases e
 refine I.step (g':=s.gens) (d':=s.drawn) (ch:=[it]) (fun b hb=>?_) (fun b o _ _ hc e _=>k b o (fun z=>hc (by simp [z])) e) (fun b o _ _ hc e _=>⟨o.slots,k b o (fun z=>hc (by simp [z])) e⟩) (fun _ _ _ _ n=>n)
  (fun b o hc e=>⟨o,k b o (fun z=>hc (by simp [z])) e⟩) (fun _ _ e=>e) (fun _ _ _ e=>e) (fun b ps e=>⟨#[],by rw [e];simp⟩) (fun m hm=>?_) (fun b u e=>?_) I.bare
 ·have e:b=it:=by simpa using hb
  subst e
  exact⟨h1,hL,h2,h3⟩
 ·obtain⟨o,es,ep,ho,r⟩:=hm
  exact⟨o,es,ep,k _ o (Ne.symm hL) ho,r⟩
 ·refine(I.hok b u e).stay (fun c v hc q=>k c v ?_ q) (fun _ q=>q) fun _ _ q=>q
  rcases hc with z|z
  ·rw [z];exact nit b u e
  ·exact nit c _ z
theorem Inv.tok(I:Inv X pins σ H s)(t:Nat):Inv X pins σ H { s with toks:=t }:=I.un (h':=s.heap) (t':=t) Un.refl I.hok
theorem Inv.kept{t':Nat}(I:Inv X pins σ H s)(k:∀b u,s.heap.get? b=some u→h'.get? b=some u):Inv X pins σ H { s with heap:=h',toks:=t' }:=I.un (Un.kept k) (I.hok.kept k)
theorem Inv.laid{a:Addr}{o:HO}{t':Nat}(I:Inv X pins σ H s)(k:∀b u,s.heap.get? b=some u→h'.get? b=some u)(hp:s.heap.objs.size≤a)(new:ObjOk X.prog X.w (upd H a o) h' a o) :
  Inv X pins σ (upd H a o) { s with heap:=h',toks:=t' }:=I.un (Un.laid k hp (I.hok.fresh hp)) (I.hok.laid k hp new)
theorem Inv.write{x e:Addr}{o:HO}{t':Nat}(I:Inv X pins σ H s)(mu:Mut (H x))(he:e=x∨H e=some (.own x))(k:∀b u,b≠e→s.heap.get? b=some u→h'.get? b=some u)(heo:∃u,h'.get? e=some u)
  (new:ObjOk X.prog X.w (upd H x o) h' x o):Inv X pins σ (upd H x o) { s with heap:=h',toks:=t' }:=I.un (Un.write mu he k heo) (I.hok.write mu he k heo new)
theorem Inv.weak{σ':List (Option V)}(I:Inv X pins σ H s)(hl:σ'.length=σ.length)(w:∀(i:Nat) v,σ'[i]?=some (some v)→σ[i]?=some (some v)):Inv X pins σ' H s :=
 ⟨I.ok,I.os,I.bare,I.base,let ⟨m,hn,hl'⟩:=I.loc;⟨m,hn,fun i x v e1 e2 e3=>hl' i x v e1 (w i v e2) e3⟩,I.cell,I.free,I.freeC,I.pin,I.hok,hl.trans I.len⟩
theorem Inv.pins_of{pins':List (Addr × Obj)}(I:Inv X pins σ H s)(h:∀p∈pins',s.heap.get? p.1=some p.2∧H p.1=none∧p.1≠X.env.locals∧p.1∉X.fs∧∀v,p.2.data≠.cell v):Inv X pins' σ H s :=
 ⟨I.ok,I.os,I.bare,I.base,I.loc,I.cell,I.free,I.freeC,fun p hp=>(List.mem_append.mp hp).elim (fun z=>I.pin p (List.mem_append_left _ z)) (h p),I.hok,I.len⟩
theorem nodup_ix{N:List Str}(hN:N.Nodup){i j:Nat}{x:Str}(a:N[i]?=some x)(b:N[j]?=some x):i=j:=by
 obtain⟨h1,e1⟩:=List.getElem?_eq_some_iff.mp a
 obtain⟨h2,e2⟩:=List.getElem?_eq_some_iff.mp b
 exact(List.getElem_inj hN).mp (e1.trans e2.symm)
theorem store_ok2{M:Model}{A:Around}{E:Value→Shared→Prop}{i:Nat}{x:Str}{v:V}{u:Value}{Q:Unit→Shared→Prop}(I:Inv X pins σ H s)(hN:X.N.Nodup)(hi:X.N[i]?=some x)(hx:Loc X.env.scope x)(r:RelV v u)
  (h:∀s',Inv X pins (σ.set i (some v)) H s'→(∃a,Heap.SameBut a s.heap s'.heap∧(a=X.env.locals∨X.env.cells.lookup x=some a))→Q () s') (hf:X.fn x=true∨X.env.scope.names.lookup x=some .local:=by first|exact .inl rfl|exact .inr rfl|assumption):wpAny M A (storeName X.env x u) Q E s:=by
 obtain⟨m,hn,hl⟩:=id I.loc
 have hcls:(X.env.scope.kind==.class||(X.env.scope.kind==.module&&X.env.locals != X.env.globals))=false:=by rw [I.ok.kind];rfl
 have hiσ:i < σ.length:=by rw [I.len];exact(List.getElem?_eq_some_iff.mp hi).1
 have cne:=I.cne
 have tracked:∀{a:Addr} {h':Heap},(∃o,s.heap.get? a=some o∧H a=none)→Heap.SameBut a s.heap h'→HOk X.prog X.w H h':=fun {a h'} ha hs b ob e=>by
  obtain⟨_,_,hfree⟩:=ha
  refine(I.hok b ob e).stay (fun c w' hc q=>(hs.2 c ?_).trans q) (fun _ q=>q) fun _ _ q=>q
  rintro rfl
  rcases hc with rfl|hc
  ·rw [hfree] at e;cases e
  ·rw [hfree] at hc;cases hc
 rcases hx with hk|hk
 ·refine wpAny_storeName_local hk hn (fun h' hn' hs=>?_) hcls
  obtain⟨oL,_,_,hoL,_⟩:=id hn
  refine h _ ⟨I.ok,I.os,I.bare,⟨fun b o e n hb hx=>?_,fun b o e n hb hx=>?_,I.base.free,fun b o e hx=>?_,I.base.tups,I.base.frzs,I.base.tbls⟩,⟨_,hn',fun j y v' e1 e2 e3=>?_⟩,fun y c e=>?_,I.free,I.freeC,fun p hp=>?_,tracked ⟨oL,hoL,I.free⟩ hs,by simpa using I.len⟩ ⟨_,hs,.inl rfl⟩
  ·exact(hs.2 b (Nat.ne_of_lt (Nat.lt_of_lt_of_le (Heap.lt_size e) I.ok.above))).trans (I.base.keep b o e n hb hx)
  ·obtain⟨sl,e1⟩:=I.base.slot b o e n hb hx
   exact⟨sl,(hs.2 b (Nat.ne_of_lt (Nat.lt_of_lt_of_le (Heap.lt_size e) I.ok.above))).trans e1⟩
  ·obtain⟨o',e1⟩:=I.base.there b o e hx
   exact⟨o',(hs.2 b (Nat.ne_of_lt (Nat.lt_of_lt_of_le (Heap.lt_size e) I.ok.above))).trans e1⟩
  ·by_cases hj:j=i
   ·subst hj
    rw [hi] at e1;cases e1
    rw [List.getElem?_set_self hiσ] at e2
    cases e2
    exact⟨u,r,.inl ⟨hk,by simp⟩⟩
   ·rw [List.getElem?_set_ne (Ne.symm hj)] at e2
    obtain⟨u',r',q⟩:=hl j y v' e1 e2 e3
    refine⟨u',r',?_⟩
    rcases q with ⟨k,e⟩|⟨k,c,e,z⟩
    ·refine .inl ⟨k,?_⟩
     have:y≠x:=fun e=>hj (nodup_ix hN e1 (e▸hi))
     simp [this,e]
    ·exact .inr ⟨k,c,e,z.sameBut hs (cne y c e)⟩
  ·obtain⟨w',z⟩:=I.cell y c e
   exact⟨w',z.sameBut hs (cne y c e)⟩
  ·obtain⟨e,n,ne,nf,d⟩:=I.pin p hp
   exact⟨(hs.2 p.1 ne).trans e,n,ne,nf,d⟩
 ·have hfn:X.fn x=true:=by
   rcases hf with z|z
   ·exact z
   ·rw [z] at hk;cases hk
  obtain⟨c,hc⟩:=I.ok.has x (.inl hk)
  obtain⟨w',z⟩:=I.cell x c hc
  refine wpAny_storeName_cell I.ok.kind hk hc z (fun h' hc' hs=>?_)
  obtain⟨oc,hoc,hocd⟩:=id z
  refine h { s with heap:=h' } ⟨I.ok,I.os,I.bare,⟨fun b o e n hb hx=>?_,fun b o e n hb hx=>?_,I.base.free,fun b o e hx=>?_,I.base.tups,I.base.frzs,I.base.tbls⟩,⟨m,hn.sameBut hs (Ne.symm (cne x c hc)),fun j y v' e1 e2 e3=>?_⟩,fun y c' e=>?_,I.free,I.freeC,fun p hp=>?_,tracked ⟨oc,hoc,I.freeC x c hc⟩ hs,by simpa using I.len⟩ ⟨c,hs,.inr hc⟩
  ·exact(hs.2 b (Nat.ne_of_lt (Nat.lt_of_lt_of_le (Heap.lt_size e) (I.ok.cab x c hfn hc)))).trans (I.base.keep b o e n hb hx)
  ·obtain⟨sl,e1⟩:=I.base.slot b o e n hb hx
   exact⟨sl,(hs.2 b (Nat.ne_of_lt (Nat.lt_of_lt_of_le (Heap.lt_size e) (I.ok.cab x c hfn hc)))).trans e1⟩
  ·obtain⟨o',e1⟩:=I.base.there b o e hx
   exact⟨o',(hs.2 b (Nat.ne_of_lt (Nat.lt_of_lt_of_le (Heap.lt_size e) (I.ok.cab x c hfn hc)))).trans e1⟩
  ·by_cases hj:j=i
   ·subst hj
    rw [hi] at e1;cases e1
    rw [List.getElem?_set_self hiσ] at e2
    cases e2
    exact⟨u,r,.inr ⟨.inl hk,c,hc,hc'⟩⟩
   ·rw [List.getElem?_set_ne (Ne.symm hj)] at e2
    obtain⟨u',r',q⟩:=hl j y v' e1 e2 e3
    refine⟨u',r',?_⟩
    rcases q with q|⟨k,c',e,z'⟩
    ·exact .inl q
    ·refine .inr ⟨k,c',e,z'.sameBut hs ?_⟩
     rintro rfl
     exact hj (nodup_ix hN e1 (I.ok.inj _ _ _ e hc▸hi))
  ·by_cases hcc:c'=c
   ·subst hcc;exact⟨_,hc'⟩
   ·obtain⟨w2,z2⟩:=I.cell y c' e
    exact⟨w2,z2.sameBut hs hcc⟩
  ·obtain⟨e,n,ne,nf,d⟩:=I.pin p hp
   refine⟨(hs.2 p.1 ?_).trans e,n,ne,nf,d⟩
   intro q
   rw [q,hoc] at e
   have q':oc=p.2:=Option.some.inj e
   exact d w' (by rw [←q'];exact hocd)
theorem store_ok{M:Model}{A:Around}{E:Value→Shared→Prop}{i:Nat}{x:Str}{v:V}{u:Value}{Q:Unit→Shared→Prop}(I:Inv X pins σ H s)(hN:X.N.Nodup)(hi:X.N[i]?=some x)(hx:Loc X.env.scope x)(r:RelV v u)
  (h:∀s',Inv X pins (σ.set i (some v)) H s'→Q () s') (hf:X.fn x=true∨X.env.scope.names.lookup x=some .local:=by first|exact .inl rfl|exact .inr rfl|assumption):wpAny M A (storeName X.env x u) Q E s :=
 store_ok2 I hN hi hx r (fun s' I' _=>h s' I') hf
theorem Inv.call'{s':Shared}{ch:List Addr}(I:Inv X pins σ H s)(ho:s'.os=s.os)(u:Un (frs X.stack) ch H H' s.heap s'.heap)(hok:HOk X.prog X.w H' s'.heap)(hg:AllBare s'.gens)
  (hch:∀b∈ch,(b∈X.ex∨X.s₀.heap.objs.size≤b)∧b≠X.env.locals∧(∀x c,X.env.cells.lookup x=some c→c≠b)∧∀p∈X.pn++pins,p.1≠b):Inv X pins σ H' s':=by
 obtain⟨h',g',d',t',o'⟩:=s'
 have e:o'=s.os:=ho
 subst e
 exact I.call (g':=g') (t':=t') (d':=d') u hok hg hch
end
abbrev XK:=Value→Option Addr→Hp→Prop
abbrev St:=List (Option V)
abbrev VK:=V→Hp→Prop
abbrev TE:=St→Hp→VK→Prop
abbrev TT:=St→Hp→(Bool→Hp→Prop)→Prop
abbrev TA:=St→Hp→(List V→Hp→Prop)→Prop
structure Ends where
 nx:St→Hp→Prop
 rt:VK
 bk:St→Hp→Prop:=fun _ _=>False
 ct:St→Hp→Prop:=fun _ _=>False
abbrev TS:=Ends→St→Hp→Prop
def EP(X:Cx)(pins:List (Addr × Obj))(σ:St)(Q:VK)(u:Value)(s':Shared):Prop:=∃v H',Inv X pins σ H' s'∧RelV v u∧Q v H'
def TP(X:Cx)(pins:List (Addr × Obj))(σ:St)(Q:Bool→Hp→Prop)(b:Bool)(s':Shared):Prop:=∃H',Inv X pins σ H' s'∧Q b H'
def AP(X:Cx)(pins:List (Addr × Obj))(σ:St)(Q:List V→Hp→Prop)(us:List Value)(s':Shared):Prop:=∃vs H',Inv X pins σ H' s'∧Vals vs us∧Q vs H'
def SP(X:Cx)(pins:List (Addr × Obj))(D:Ends)(f:Flow)(s':Shared):Prop :=
 match f with
 |.next=>∃σ' H',Inv X pins σ' H' s'∧D.nx σ' H'
 |.brk=>∃σ' H',Inv X pins σ' H' s'∧D.bk σ' H'
 |.cont=>∃σ' H',Inv X pins σ' H' s'∧D.ct σ' H'
 |.ret u=>∃v σ' H',Inv X pins σ' H' s'∧RelV v u∧D.rt v H'
def PE(X:Cx)(e:Expr)(t:TE):Prop :=
 ∀(pins:List (Addr × Obj)) (s:Shared) (σ:St) (H:Hp) (Q:VK),Inv X pins σ H s→t σ H Q→wpAny (model X.prog X.w) X.A (eval e X.env) (EP X pins σ Q) X.xe s
def PT(X:Cx)(e:Expr)(t:TT):Prop :=
 ∀(pins:List (Addr × Obj)) (s:Shared) (σ:St) (H:Hp) (Q:Bool→Hp→Prop),Inv X pins σ H s→t σ H Q→wpAny (model X.prog X.w) X.A (isTrue e X.env (eval e X.env)) (TP X pins σ Q) X.xe s
def PW(X:Cx)(e:Expr)(t:TT):Prop :=
 ∀(whole:Sem Value) (pins:List (Addr × Obj)) (s:Shared) (σ:St) (H:Hp) (Q:Bool→Hp→Prop),Inv X pins σ H s→t σ H Q→wpAny (model X.prog X.w) X.A (isTrue e X.env whole) (TP X pins σ Q) X.xe s
theorem PW.pt{X:Cx}{e:Expr}{t:TT}(h:PW X e t):PT X e t:=h _
def PA(X:Cx)(es:List Expr)(t:TA):Prop :=
 ∀(pos:Pos) (pins:List (Addr × Obj)) (s:Shared) (σ:St) (H:Hp) (Q:List V→Hp→Prop),Inv X pins σ H s→t σ H Q→wpAny (model X.prog X.w) X.A (spliced (backTo pos (starEach es X.env))) (AP X pins σ Q) X.xe s
def PS(X:Cx)(st:Stmt)(t:TS):Prop :=
 ∀(pins:List (Addr × Obj)) (s:Shared) (σ:St) (H:Hp) (D:Ends),Inv X pins σ H s→t D σ H→wpAny (model X.prog X.w) X.A (exec st X.env) (SP X pins D) X.xe s
def PSs(X:Cx)(st:List Stmt)(t:TS):Prop :=
 ∀(pins:List (Addr × Obj)) (s:Shared) (σ:St) (H:Hp) (D:Ends),Inv X pins σ H s→t D σ H→wpAny (model X.prog X.w) X.A (execs st X.env) (SP X pins D) X.xe s
theorem thn{α:Type}{t:Sem α}{Q Q':α→Shared→Prop}{M:Model}{A:Around}{E:Value→Shared→Prop}{s:Shared}(h:wpAny M A t Q E s)(hQ:∀a s,Q a s→Q' a s):wpAny M A t Q' E s:=wpAny_mono h hQ fun _ _ x=>x
end L2
namespace L2
open PySem PySem.Spec PyProof.Rows
section
variable{X:Cx}
def tVar(i:Nat):TE:=fun σ H Q=>∃v,σ[i]?=some (some v)∧Q v H
def tC(v:V):TE:=fun _ H Q=>Q v H
theorem pe_var{i:Nat}{x:Str}{pos:Pos}(hN:X.N[i]?=some x)(hv:Vis X.env.scope x) (hd:(x==("__debug__":Str))=false:=by decide) (hcd:(x==("__classdict__":Str))=false:=by decide):PE X (.Name x pos) (tVar i):=by
 intro pins s σ H Q I h
 obtain⟨v,e,h⟩:=h
 obtain⟨m,hn,hl⟩:=I.loc
 obtain⟨u,r,l⟩:=hl i x v hN e hv
 have fin:EP X pins σ Q u s:=⟨v,H,I,r,h⟩
 rcases l with ⟨hk,hm⟩|⟨hk,c,hc,hcell⟩
 ·exact wpAny_Name (wpAny_loadName_local I.ok.kind hk hn hm fin) hd
 ·rcases hk with hk|hk
  ·exact wpAny_Name (wpAny_loadName_cell I.ok.kind hk hc hcell fin) hd
  ·exact wpAny_Name (wpAny_loadName_free I.ok.kind hk hc hcell fin hcd) hd
theorem pe_int{i j pos}:PE X (.Constant (.int i) j pos) (tC (.int i)):=fun _ _ _ H _ I h=>wpAny_Constant_int ⟨.int i,H,I.tok _,⟨_,rfl⟩,h⟩
theorem pe_bl{b j pos}:PE X (.Constant (.bool b) j pos) (tC (.bl b)):=fun _ _ _ H _ I h=>Constant_bool ⟨.bl b,H,I,rfl,h⟩
theorem pe_non{j pos}:PE X (.Constant .none j pos) (tC .non):=fun _ _ _ H _ I h=>Constant_none ⟨.non,H,I,rfl,h⟩
theorem pe_str{x j pos}:PE X (.Constant (.str x) j pos) (tC (.str x)):=fun _ _ _ H _ I h=>Calls.Constant_str ⟨.str x,H,I.tok _,⟨_,rfl⟩,h⟩
def Gl(X:Cx)(x:Str):Prop:=X.env.kindOf x=some .globalImplicit
theorem ld_glob{E:Value→Shared→Prop}{pins:List (Addr × Obj)}{s:Shared}{σ:St}{H:Hp}{x:Str}{u:Value}{pos:Pos}{Q:Value→Shared→Prop}(I:Inv X pins σ H s)(hg:Gl X x)(hm:X.mg x=some u)(h:Q u s)
  (hd:(x==("__debug__":Str))=false:=by decide):wpAny (model X.prog X.w) X.A (eval (.Name x pos) X.env) Q E s :=
 Calls.Name_function_global I.ok.kind hg (Calls.loadGlobal_global (by rw [I.ok.glob];exact I.mod.glob.keeps I.bk) hm h) hd
theorem ld_blt{E:Value→Shared→Prop}{pins:List (Addr × Obj)}{s:Shared}{σ:St}{H:Hp}{x:Str}{u:Value}{pos:Pos}{Q:Value→Shared→Prop}(I:Inv X pins σ H s)(hg:Gl X x)(hm:X.mg x=none)(hv:bootBuiltins x=some u)(h:Q u s)
  (hn:x≠"__name__":=by decide) (hd:(x==("__debug__":Str))=false:=by decide):wpAny (model X.prog X.w) X.A (eval (.Name x pos) X.env) Q E s:=by
 obtain⟨mb,h1,h2⟩:=I.mod.blt
 exact Calls.Name_function_global I.ok.kind hg (Calls.loadGlobal_builtin (by rw [I.ok.glob];exact I.mod.glob.keeps I.bk) hm (by rw [I.ok.blt];exact h1.keeps I.bk) ((h2 x hn).trans hv) h) hd
theorem pe_glob{x:Str}{v:V}{u:Value}{pos:Pos}(hg:Gl X x)(hm:X.mg x=some u)(r:RelV v u) (hd:(x==("__debug__":Str))=false:=by decide):PE X (.Name x pos) (tC v) :=
 fun _ _ _ H _ I h=>ld_glob I hg hm ⟨v,H,I,r,h⟩ hd
theorem pe_bltn{x:Str}{v:V}{u:Value}{pos:Pos}(hg:Gl X x)(hm:X.mg x=none)(hv:bootBuiltins x=some u)(r:RelV v u) (hn:x≠"__name__":=by decide) (hd:(x==("__debug__":Str))=false:=by decide):PE X (.Name x pos) (tC v) :=
 fun _ _ _ H _ I h=>ld_blt I hg hm hv ⟨v,H,I,r,h⟩ hn hd
variable{a b:Expr}{ta tb:TE}{pos:Pos}
def PC(X:Cx)(op:CmpOp)(a b:Expr)(t:TE):Prop :=
 ∀(pins:List (Addr × Obj)) (s:Shared) (σ:St) (H:Hp) (Q:VK),Inv X pins σ H s→t σ H Q →
  wpAny (model X.prog X.w) X.A (eval a X.env) (fun v s₁=>wpAny (model X.prog X.w) X.A (eval b X.env) (fun u s₂=>wpAny (model X.prog X.w) X.A (compareOp op v u) (EP X pins σ Q) X.xe s₂) X.xe s₁) X.xe s
def tB(t:TE):TT:=fun σ H Q=>t σ H fun x H1=>∃c,x=.bl c∧Q c H1
theorem pt_cmp{op:CmpOp}{t:TE}(h:PC X op a b t)(h1:behindInMarks op b=false:=by first|exact nobehind _ (by decide) (by decide)|rfl):PT X (.Compare a [op] [b] pos) (tB t):=by
 intro pins s σ H Q I hw
 refine wpAny_isTrue_Compare1 (thn (h pins s σ H _ I hw) fun v s1 h1=>thn h1 fun u s2 h2=>thn h2 fun c s3 ⟨x,H1,I1,r1,q1⟩=>?_) h1
 obtain⟨d,rfl,q⟩:=q1
 cases r1
 exact wpAny_truthy_bool ⟨H1,I1,q⟩
theorem pt_val{e:Expr}{t:TE}(h:PE X e t)(he:∀whole,isTrue e X.env whole=(do let v ←whole;standAt e.pos;holding [v] (truthy v)):=by intro _;rfl):PT X e (tB t):=by
 intro pins s σ H Q I hw
 refine isTrue_plain (thn (h pins s σ H _ I hw) fun v s1 ⟨x,H1,I1,r1,q1⟩=>?_) (he _)
 obtain⟨d,rfl,q⟩:=q1
 cases r1
 exact wpAny_truthy_bool ⟨H1,I1,q⟩
variable{tA tB':TT}{rest:List Expr}
def tAnd(t u:TT):TT:=fun σ H Q=>t σ H fun c H1=>if c=true then u σ H1 Q else Q false H1
def tOr(t u:TT):TT:=fun σ H Q=>t σ H fun c H1=>if c=true then Q true H1 else u σ H1 Q
def tNot(t:TT):TT:=fun σ H Q=>t σ H fun c H1=>Q (!c) H1
theorem pw_and1(ha:PT X a tA):PW X (.BoolOp .And [a] pos) tA:=by
 intro wh pins s σ H Q I h
 refine isTrue_and (thn (ha pins s σ H Q I h) fun c s1 e=>?_)
 cases c with
 |true=>exact isTrue_and_nil e
 |false=>exact e
theorem pw_or1(ha:PT X a tA):PW X (.BoolOp .Or [a] pos) tA:=by
 intro wh pins s σ H Q I h
 refine isTrue_or (thn (ha pins s σ H Q I h) fun c s1 e=>?_)
 cases c with
 |false=>exact isTrue_or_nil e
 |true=>exact e
theorem pw_and(ha:PT X a tA)(hb:PW X (.BoolOp .And (b::rest) pos) tB'):PW X (.BoolOp .And (a::b::rest) pos) (tAnd tA tB'):=by
 intro wh pins s σ H Q I h
 refine isTrue_and (thn (ha pins s σ H _ I h) fun c s1 ⟨H1,I1,q1⟩=>?_)
 cases c with
 |true=>exact hb wh pins s1 σ H1 Q I1 q1
 |false=>exact⟨H1,I1,q1⟩
theorem pw_or(ha:PT X a tA)(hb:PW X (.BoolOp .Or (b::rest) pos) tB'):PW X (.BoolOp .Or (a::b::rest) pos) (tOr tA tB'):=by
 intro wh pins s σ H Q I h
 refine isTrue_or (thn (ha pins s σ H _ I h) fun c s1 ⟨H1,I1,q1⟩=>?_)
 cases c with
 |true=>exact⟨H1,I1,q1⟩
 |false=>exact hb wh pins s1 σ H1 Q I1 q1
theorem pt_not(ha:PT X a tA):PT X (.UnaryOp .Not a pos) (tNot tA):=by
 intro pins s σ H Q I h
 exact isTrue_not (ha pins s σ H (fun c H1=>Q (!c) H1) I h)
def tAndV(ta tb:TE):TE:=fun σ H Q=>ta σ H fun x H1=>∃c,x=.bl c∧if c=true then tb σ H1 Q else Q (.bl false) H1
def tNotV(ta:TE):TE:=fun σ H Q=>ta σ H fun x H1=>∃c,x=.bl c∧Q (.bl (!c)) H1
theorem pe_one{op}{t:TE}(h:PE X a t):PE X (.BoolOp op [a] pos) t:=fun pins s σ H Q I hw=>BoolOp_one (h pins s σ H Q I hw)
theorem pe_and(ha:PE X a ta)(hb:PE X (.BoolOp .And (b::rest) pos) tb):PE X (.BoolOp .And (a::b::rest) pos) (tAndV ta tb):=by
 intro pins s σ H Q I h
 refine BoolOp_and (thn (ha pins s σ H _ I h) fun v s1 ⟨x,H1,I1,r1,q1⟩=>?_)
 obtain⟨c,rfl,q1⟩:=q1
 cases r1
 refine wpAny_truthy_bool ?_
 cases c with
 |true=>exact hb pins s1 σ H1 Q I1 q1
 |false=>exact⟨.bl false,H1,I1,rfl,q1⟩
theorem pe_not(ha:PE X a ta):PE X (.UnaryOp .Not a pos) (tNotV ta):=by
 intro pins s σ H Q I h
 refine UnaryOp_ (thn (ha pins s σ H _ I h) fun v s1 ⟨x,H1,I1,r1,q1⟩=>?_)
 obtain⟨c,rfl,q1⟩:=q1
 cases r1
 exact not_of (wpAny_truthy_bool ⟨.bl (!c),H1,I1,rfl,q1⟩)
end
end L2
namespace L2
open PySem PySem.Spec PyProof.Rows
def SqL(K:PySem.W.Frag)(H:Hp)(a:Addr)(xs:List V):Prop :=
 Rd H a (.lst xs) ∨
  ∃(o:Obj) (its:Array Value) (n:Nat),K.lookup a=some o∧o.cls=.type "list"∧o.dict=none∧o.data=.seq its n∧its.size≤sizeLine∧Vals xs its.toList
def SqT(K:PySem.W.Frag)(H:Hp)(a:Addr)(xs:List V):Prop :=
 Rd H a (.tup xs) ∨
  ∃(o:Obj) (its:Array Value) (n:Nat),K.lookup a=some o∧o.cls=.type "tuple"∧o.data=.seq its n∧its.size≤sizeLine∧Vals xs its.toList
def absV:Value→Option V
 |.none=>some .non
 |.bool b=>some (.bl b)
 |.int i _=>some (.int i)
 |.str x _=>some (.str x)
 |.bytes b _=>some (.byt b)
 |.float b _=>some (.flt b)
 |.ref a=>some (.ref a)
 |.type n=>some (.ty n)
 |_=>none
theorem RelV.abs{x:V}{u:Value}(r:RelV x u):absV u=some x:=by
 cases x with
 |non=>cases r;rfl
 |bl _=>cases r;rfl
 |int _=>obtain⟨t,rfl⟩:=r;rfl
 |str _=>obtain⟨t,rfl⟩:=r;rfl
 |byt _=>obtain⟨t,rfl⟩:=r;rfl
 |flt _=>obtain⟨t,rfl⟩:=r;rfl
 |ref _=>cases r;rfl
 |ty _=>cases r;rfl
theorem RelV.inj{x y:V}{u:Value}(r:RelV x u)(q:RelV y u):x=y:=Option.some.inj (r.abs.symm.trans q.abs)
theorem Vals.inj:∀{xs ys:List V} {us:List Value},Vals xs us→Vals ys us→xs=ys
 |_,_,_,.nil,.nil=>rfl
 |_,_,_,.cons r t,.cons r' t'=>by rw [r.inj r',Vals.inj t t']
section
variable{X:Cx}{pins:List (Addr × Obj)}{σ:St}{H:Hp}{s:Shared}{a:Addr}{xs ys:List V}
theorem SqL.of{K:PySem.W.Frag}(h:H a=some (.lst xs)):SqL K H a xs:=.inl (.inl h)
theorem SqT.of{K:PySem.W.Frag}(h:H a=some (.tup xs)):SqT K H a xs:=.inl (.inl h)
theorem Inv.list(I:Inv X pins σ H s)(h:SqL X.K H a xs):∃its:List Value,Vals xs its∧PlainL s.heap a its.toArray∧xs.length≤sizeLine:=by
 rcases h with h|⟨o,its,n,hk,hc,hd,hs,hz,r⟩
 ·obtain⟨z,its,n,r,e⟩:=h.ok I.hok
  exact⟨its,r,⟨_,n,e,rfl,rfl,rfl⟩,z⟩
 ·refine⟨its.toList,r,⟨o,n,I.kIn a o hk,hc,hd,by simpa using hs⟩,?_⟩
  have e:=r.length
  simp only [Array.length_toList] at e
  omega
theorem Inv.tuple(I:Inv X pins σ H s)(h:SqT X.K H a xs):∃its:List Value,Vals xs its∧IsTup s.heap a its.toArray∧xs.length≤sizeLine:=by
 rcases h with h|⟨o,its,n,hk,hc,hs,hz,r⟩
 ·obtain⟨z,its,r,p⟩:=h.ok I.hok
  exact⟨its,r,p,z⟩
 ·refine⟨its.toList,r,⟨o,I.kIn a o hk,hc,n,by simpa using hs⟩,?_⟩
  have e:=r.length
  simp only [Array.length_toList] at e
  omega
theorem Inv.list_inj(I:Inv X pins σ H s)(h:SqL X.K H a xs)(h':SqL X.K H a ys):xs=ys:=by
 obtain⟨its,r,⟨o,n,e,_,_,d⟩,_⟩:=I.list h
 obtain⟨its',r',⟨o',n',e',_,_,d'⟩,_⟩:=I.list h'
 rw [e] at e';cases e'
 rw [d] at d'
 injection d' with d1 _
 have:its=its':=by simpa using congrArg Array.toList d1
 subst this
 exact r.inj r'
theorem Inv.tuple_inj(I:Inv X pins σ H s)(h:SqT X.K H a xs)(h':SqT X.K H a ys):xs=ys:=by
 obtain⟨its,r,⟨o,e,_,n,d⟩,_⟩:=I.tuple h
 obtain⟨its',r',⟨o',e',_,n',d'⟩,_⟩:=I.tuple h'
 rw [e] at e';cases e'
 rw [d] at d'
 injection d' with d1 _
 have:its=its':=by simpa using congrArg Array.toList d1
 subst this
 exact r.inj r'
end
abbrev Cx.wish(X:Cx)(E:Value→Shared→Prop):Cx:={ X with xe:=E }
abbrev Cx.nox(X:Cx):Cx:=X.wish fun _ _=>False
theorem Cx.Ok.wish{X:Cx}(ok:X.Ok)(E:Value→Shared→Prop):(X.wish E).Ok :=
 ⟨ok.mod,ok.kind,ok.glob,ok.blt,ok.above,ok.inj,ok.has,ok.cab,ok.hd,ok.frames,ok.stk,ok.exf,ok.bs,ok.bsz,ok.noex,ok.exfs,ok.funs,ok.frf⟩
theorem Cx.Ok.unwish{X:Cx}{E:Value→Shared→Prop}(ok:(X.wish E).Ok):X.Ok :=
 ⟨ok.mod,ok.kind,ok.glob,ok.blt,ok.above,ok.inj,ok.has,ok.cab,ok.hd,ok.frames,ok.stk,ok.exf,ok.bs,ok.bsz,ok.noex,ok.exfs,ok.funs,ok.frf⟩
section
variable{X:Cx}{pins:List (Addr × Obj)}{σ:St}{H:Hp}{s:Shared}{E:Value→Shared→Prop}
theorem Inv.wish(I:Inv X pins σ H s)(E:Value→Shared→Prop):Inv (X.wish E) pins σ H s:=⟨I.ok.wish E,I.os,I.bare,I.base,I.loc,I.cell,I.free,I.freeC,I.pin,I.hok,I.len⟩
theorem Inv.unwish(I:Inv (X.wish E) pins σ H s):Inv X pins σ H s:=⟨I.ok.unwish,I.os,I.bare,I.base,I.loc,I.cell,I.free,I.freeC,I.pin,I.hok,I.len⟩
theorem SP.unwish{D:Ends}{f:Flow}{s':Shared}(h:SP (X.wish E) pins D f s'):SP X pins D f s':=by
 cases f with
 |next=>obtain⟨σ',H',I,q⟩:=h;exact⟨σ',H',I.unwish,q⟩
 |brk=>obtain⟨σ',H',I,q⟩:=h;exact⟨σ',H',I.unwish,q⟩
 |cont=>obtain⟨σ',H',I,q⟩:=h;exact⟨σ',H',I.unwish,q⟩
 |ret u=>obtain⟨v,σ',H',I,r,q⟩:=h;exact⟨v,σ',H',I.unwish,r,q⟩
theorem PSs.nox{st:List Stmt}{t:TS}(h:PSs X.nox st t):PSs X st t:=fun pins s σ H D I hw =>
 wpAny_mono (h pins s σ H D (I.wish _) hw) (fun _ _ q=>q.unwish) fun _ _ z=>False.elim z
end
section
variable{X:Cx}{st:Stmt}{rest:List Stmt}{t u:TS}{e:Expr}{te:TE}{pos:Pos}
def tNext:TS:=fun D σ H=>D.nx σ H
def tSeq(t u:TS):TS:=fun D σ H=>t { D with nx:=u D } σ H
theorem pss_nil:PSs X [] tNext:=fun _ _ σ H _ I h=>wpAny_execs_nil ⟨σ,H,I,h⟩
theorem pss_cons(h1:PS X st t)(h2:PSs X rest u):PSs X (st::rest) (tSeq t u):=by
 intro pins s σ H D I h
 refine wpAny_execs_cons (thn (h1 pins s σ H { D with nx:=u D } I h) fun f s1 q=>?_)
 cases f with
 |next =>
  obtain⟨σ',H',I',q⟩:=q
  exact h2 pins s1 σ' H' D I' q
 |ret v=>exact q
 |brk=>exact q
 |cont=>exact q
theorem pss_one(h1:PS X st t):PSs X [st] t:=by
 intro pins s σ H D I h
 refine wpAny_execs_cons (thn (h1 pins s σ H D I h) fun f s1 q=>?_)
 cases f with
 |next=>exact wpAny_execs_nil q
 |ret v=>exact q
 |brk=>exact q
 |cont=>exact q
theorem Inv.quiet{pins:List (Addr × Obj)}{σ:St}{H:Hp}{s:Shared}(I:Inv X pins σ H s):interactive X.env=false:=by simp [interactive,I.ok.kind]
def tDrop(te:TE):TS:=fun D σ H=>te σ H fun _ H1=>D.nx σ H1
theorem ps_expr(he:PE X e te)(hs:swapsWith e none pos.line X.env=pure false:=by rfl):PS X (.Expr e pos) (tDrop te):=by
 intro pins s σ H D I h
 exact wpAny_Expr_any (thn (he pins s σ H _ I h) fun v s1 ⟨x,H1,I1,r1,q1⟩=>⟨σ,H1,I1,q1⟩) I.quiet hs
def tRet(te:TE):TS:=fun D σ H=>te σ H D.rt
theorem ps_ret(he:PE X e te):PS X (.Return (some e) pos) (tRet te):=by
 intro pins s σ H D I h
 exact wpAny_Return_some (thn (he pins s σ H _ I h) fun v s1 ⟨x,H1,I1,r1,q1⟩=>⟨x,σ,H1,I1,r1,q1⟩)
def tIfS(c:TT)(t u:TS):TS:=fun D σ H=>c σ H fun b H1=>if b=true then t D σ H1 else u D σ H1
theorem ps_if{c:Expr}{a b:List Stmt}{tc:TT}(hc:PT X c tc)(ha:PSs X a t)(hb:PSs X b u):PS X (.If c a b pos) (tIfS tc t u):=by
 intro pins s σ H D I h
 refine wpAny_If (thn (hc pins s σ H _ I h) fun d s1 ⟨H1,I1,q1⟩=>?_)
 cases d with
 |true=>exact ha pins s1 σ H1 D I1 q1
 |false=>exact hb pins s1 σ H1 D I1 q1
end
abbrev TG:=V→St→Hp→(St→Hp→Prop)→Prop
abbrev TGs:=List V→St→Hp→(St→Hp→Prop)→Prop
def PG(X:Cx)(target:Expr)(t:TG):Prop :=
 ∀(pins:List (Addr × Obj)) (s:Shared) (σ:St) (H:Hp) (v:V) (u:Value) (Q:St→Hp→Prop),Inv X pins σ H s→RelV v u→t v σ H Q →
  wpAny (model X.prog X.w) X.A (assign target X.env u) (fun _ s'=>∃σ' H',Inv X pins σ' H' s'∧Q σ' H') X.xe s
def PGs(X:Cx)(ts:List Expr)(t:TGs):Prop :=
 ∀(pins:List (Addr × Obj)) (s:Shared) (σ:St) (H:Hp) (vs:List V) (us:List Value) (Q:St→Hp→Prop),Inv X pins σ H s→Vals vs us→t vs σ H Q →
  wpAny (model X.prog X.w) X.A (assignInOrder ((assignEach ts X.env).map (·.2)) us) (fun _ s'=>∃σ' H',Inv X pins σ' H' s'∧Q σ' H') X.xe s
abbrev TIp:=V→V→Hp→VK→Prop
def PIp(X:Cx)(op:Operator)(t:TIp):Prop :=
 ∀(pins:List (Addr × Obj)) (s:Shared) (σ:St) (H:Hp) (x y:V) (v u:Value) (Q:VK),Inv X pins σ H s→RelV x v→RelV y u→t x y H Q →
  wpAny (model X.prog X.w) X.A (inplaceOp op v u) (EP X pins σ Q) X.xe s
section
variable{X:Cx}{pos:Pos}
def gName(i:Nat):TG:=fun v σ H Q=>Q (σ.set i (some v)) H
theorem pg_name{i:Nat}{x:Str}(hN:X.N.Nodup)(hi:X.N[i]?=some x)(hx:Loc X.env.scope x)(hf:X.fn x=true∨X.env.scope.names.lookup x=some .local:=by first|exact .inl rfl|exact .inr rfl|assumption):PG X (.Name x pos) (gName i):=by
 intro pins s σ H v u Q I r h
 exact wpAny_assign_Name (store_ok I hN hi hx r (fun s' I'=>⟨_,H,I',h⟩) hf)
def gNil:TGs:=fun vs σ H Q=>vs=[]∧Q σ H
def gCons(t:TG)(u:TGs):TGs:=fun vs σ H Q=>∃v r,vs=v::r∧t v σ H fun σ' H'=>u r σ' H' Q
theorem pgs_nil:PGs X [] gNil:=by
 intro pins s σ H vs us Q I r h
 obtain⟨e,h⟩:=h
 subst e
 cases r
 exact assignInOrder_nil ⟨σ,H,I,h⟩
theorem pgs_cons{e:Expr}{es:List Expr}{t:TG}{u:TGs}(h1:PG X e t)(h2:PGs X es u)
  (hs:(assignEach (e::es) X.env).map (·.2)=assign e X.env::(assignEach es X.env).map (·.2):=by rfl):PGs X (e::es) (gCons t u):=by
 intro pins s σ H vs us Q I r h
 obtain⟨v,vr,e1,h⟩:=h
 subst e1
 cases r with
 |cons r rr =>
  rw [hs]
  refine assignInOrder_cons (thn (h1 pins s σ H _ _ _ I r h) fun _ s1 ⟨σ1,H1,I1,q1⟩=>?_)
  exact h2 pins s1 σ1 H1 _ _ Q I1 rr q1
def gTup(K:PySem.W.Frag)(n:Nat)(t:TGs):TG:=fun v σ H Q=>∃a xs,v=.ref a∧SqT K H a xs∧xs.length=n∧t xs σ H Q
theorem pg_tup{es:List Expr}{k:Nat}{t:TGs}{n:Nat}(hc:X.calm=true)(h:PGs X es t)
  (hn:(assignEach es X.env).length=n:=by rfl) (hst:(assignEach es X.env).findIdx? (·.1)=none:=by rfl):PG X (.Tuple es k pos) (gTup X.K n t):=by
 intro pins s σ H v u Q I r hw
 obtain⟨a,xs,e1,hq,hl,hw⟩:=hw
 subst e1
 cases r
 obtain⟨its,rv,ht,hz⟩:=I.tuple hq
 refine assign_Tuple_tuple (I.ok.hd hc) ht (by simp [hn,←hl,rv.length]) hst fun h' hx=>?_
 have I1:Inv X pins σ H { s with heap:=h' }:=I.kept (t':=s.toks) fun b o e=>hx b o (Nat.ne_of_lt (Heap.lt_size e)) e
 exact h pins _ σ H xs _ Q I1 (by simpa using rv) hw
def tAsg(te:TE)(g:TG):TS:=fun D σ H=>te σ H fun x H1=>g x σ H1 D.nx
theorem ps_asg{tg e:Expr}{te:TE}{g:TG}(he:PE X e te)(hg:PG X tg g)(hs:swapsWithSole [tg] e pos.line X.env=pure false:=by rfl)(hw:swappedStores [tg] e X.env=pure none:=by rfl)
  (h1:(assignEach [tg] X.env).map (·.2)=[assign tg X.env]:=by rfl):PS X (.Assign [tg] e pos) (tAsg te g):=by
 intro pins s σ H D I h
 refine wpAny_Assign_stores (thn (he pins s σ H _ I h) fun v s1 ⟨x,H1,I1,r1,q1⟩=>?_) hs hw
 rw [h1]
 exact thn (hg pins s1 σ H1 x v _ I1 r1 q1) fun _ s2 q=>q
theorem ps_set{i:Nat}{x:Str}{e:Expr}{te:TE}{pos':Pos}(hN:X.N.Nodup)(hi:X.N[i]?=some x)(hx:Loc X.env.scope x)(he:PE X e te)(hs:swapsWith e (some (.Name x pos')) pos.line X.env=pure false:=by rfl)(hf:X.fn x=true∨X.env.scope.names.lookup x=some .local:=by first|exact .inl rfl|exact .inr rfl|assumption) :
  PS X (.Assign [.Name x pos'] e pos) (tAsg te (gName i)):=by
 intro pins s σ H D I h
 refine wpAny_Assign_Name (thn (he pins s σ H _ I h) fun v s1 ⟨y,H1,I1,r1,q1⟩=>?_) hs
 exact store_ok I1 hN hi hx r1 (fun s2 I2=>⟨_,H1,I2,q1⟩) hf
def tAug(i:Nat)(te:TE)(ti:TIp):TS:=fun D σ H=>∃x,σ[i]?=some (some x)∧te σ H fun y H1=>ti x y H1 fun z H2=>D.nx (σ.set i (some z)) H2
theorem ps_aug{i:Nat}{x:Str}{e:Expr}{te:TE}{op:Operator}{ti:TIp}{pos':Pos}(hN:X.N.Nodup)(hi:X.N[i]?=some x)(hx:Loc X.env.scope x)(he:PE X e te)(ho:PIp X op ti)(hf:X.fn x=true∨X.env.scope.names.lookup x=some .local:=by first|exact .inl rfl|exact .inr rfl|assumption) :
  PS X (.AugAssign (.Name x pos') op e pos) (tAug i te ti):=by
 intro pins s σ H D I h
 obtain⟨v,e1,h⟩:=h
 obtain⟨m,hn,hl⟩:=I.loc
 have vis:Vis X.env.scope x:=by rcases hx with k|k;exact .inl k;exact .inr (.inl k)
 obtain⟨u,r,l⟩:=hl i x v hi e1 vis
 refine wpAny_AugAssign_Name ?_
 have go:wpAny (model X.prog X.w) X.A (eval e X.env) (fun w s₂=>wpAny (model X.prog X.w) X.A (inplaceOp op u w) (fun r s₃=>wpAny (model X.prog X.w) X.A (storeName X.env x r) (fun _=>SP X pins D .next) X.xe s₃) X.xe s₂) X.xe s:=by
  refine thn (he pins s σ H _ I h) fun w s1 ⟨y,H1,I1,r1,q1⟩=>?_
  refine thn (ho pins s1 σ H1 v y u w _ I1 r r1 q1) fun z s2 ⟨zv,H2,I2,r2,q2⟩=>?_
  exact store_ok I2 hN hi hx r2 (fun s3 I3=>⟨_,H2,I3,q2⟩) hf
 rcases l with ⟨hk,hm⟩|⟨hk,c,hc,hcell⟩
 ·exact wpAny_loadName_local I.ok.kind hk hn hm go
 ·rcases hk with hk|hk
  ·exact wpAny_loadName_cell I.ok.kind hk hc hcell go
  ·rcases hx with k|k
   ·have:X.env.scope.names.lookup x=some .free:=hk
    rw [k] at this;cases this
   ·have:X.env.scope.names.lookup x=some .free:=hk
    rw [k] at this;cases this
def ipI(f:Int→Int→Int):TIp:=fun x y H Q=>∃i j,x=.int i∧y=.int j∧Q (.int (f i j)) H
theorem ip_add:PIp X .Add (ipI fun i j=>i+j):=by
 intro pins s σ H x y v u Q I r1 r2 h
 obtain⟨i,j,e1,e2,q⟩:=h
 subst e1;subst e2
 obtain⟨t,rfl⟩:=r1
 obtain⟨t',rfl⟩:=r2
 exact iadd_int ⟨.int _,H,I.tok _,⟨_,rfl⟩,q⟩
end
section
variable{X:Cx}{pos:Pos}
def tWhile(c:TT)(tb:TS):TS:=fun D σ H=>∃W:Nat→St→Hp→Prop,(∃m,W m σ H)∧∀m σ H,W m σ H →
 c σ H fun b H1=>if b=true then ∃N:St→Hp→Prop,(∀σ' H',N σ' H'→∃m',m' < m∧W m' σ' H')∧tb { D with nx:=N,ct:=N,bk:=D.nx } σ H1 else D.nx σ H1
theorem ps_while{c:Expr}{body:List Stmt}{tc:TT}{tb:TS}(hp:PassesOwn (model X.prog X.w) X.A X.env X.xe)(hc:PT X c tc)(hb:PSs X body tb):PS X (.While c body [] pos) (tWhile tc tb):=by
 intro pins s σ H D I h
 obtain⟨W,⟨m0,w0⟩,turn⟩:=h
 refine wpAny_While (codeAny_whileLoop (fun n s'=>∃σ' H',Inv X pins σ' H' s'∧W n σ' H') ?_ m0 ⟨σ,H,I,w0⟩)
 rintro n s1 ⟨σ1,H1,I1,w1⟩
 refine wpAny_passesOwn hp (thn (hc pins s1 σ1 H1 _ I1 (turn n σ1 H1 w1)) fun b s2 ⟨H2,I2,q2⟩=>?_)
 cases b with
 |true =>
  obtain⟨N,hN,q2⟩:=q2
  rw [if_pos rfl]
  refine wpAny_passesOwn hp (thn (hb pins s2 σ1 H2 _ I2 q2) fun f s3 q3=>?_)
  cases f with
  |next =>
   obtain⟨σ3,H3,I3,n3⟩:=q3
   obtain⟨m',hm,w3⟩:=hN σ3 H3 n3
   exact⟨m',hm,σ3,H3,I3,w3⟩
  |cont =>
   obtain⟨σ3,H3,I3,n3⟩:=q3
   obtain⟨m',hm,w3⟩:=hN σ3 H3 n3
   exact⟨m',hm,σ3,H3,I3,w3⟩
  |brk=>exact q3
  |ret v=>exact q3
 |false =>
  rw [if_neg Bool.false_ne_true]
  exact wpAny_execs_nil ⟨σ1,H2,I2,q2⟩
end
structure It where
 go:Nat→Hp→Prop
 yld:Nat→Hp→V→Hp→Prop
 stop:Nat→Hp→Prop
def FpOk(X:Cx)(pins:List (Addr × Obj))(H:Hp)(b:Addr):Prop :=
 H b=none∧b≠X.env.locals∧b∉X.fs∧(b∈X.ex∨X.s₀.heap.objs.size≤b)∧(∀x c,X.env.cells.lookup x=some c→c≠b)∧∀p∈X.pn++pins,p.1≠b
theorem Inv.fpOk{X:Cx}{pins:List (Addr × Obj)}{σ:St}{H H':Hp}{s:Shared}{b:Addr}(I:Inv X pins σ H s)(hb:s.heap.objs.size≤b)(hn:H' b=none):FpOk X pins H' b:=by
 refine⟨hn,Nat.ne_of_gt (Nat.lt_of_lt_of_le I.lt hb),I.nofs hb,.inr (Nat.le_trans I.sz hb),fun x c e z=>?_,fun p hp z=>?_⟩
 ·obtain⟨v,q⟩:=I.cell x c e
  exact absurd (Nat.lt_of_lt_of_le q.lt (by rw [z];exact hb)) (Nat.lt_irrefl _)
 ·exact absurd (Nat.lt_of_lt_of_le (Heap.lt_size (I.pin p hp).1) (by rw [z];exact hb)) (Nat.lt_irrefl _)
structure Turn(P:Program)(w:World)(K:PySem.W.Frag)(tg:Expr)(J:It)(fp:List Addr)(it:Addr)(tn:Nat→Heap→Prop):Prop where
 mem:it∈fp
 obj:∀i h,tn i h→∀b∈fp,∃o,h.get? b=some o∧∀v,o.data≠.cell v
 keep:∀i h h',tn i h→(∀b∈fp,∀o,h.get? b=some o→h'.get? b=some o)→tn i h'
 item:∀(X:Cx),X.prog=P→X.w=w→X.K=K→X.calm=true→∀(i:Nat) (pins:List (Addr × Obj)) (s:Shared) (σ:St) (H:Hp) (E:Value→Shared→Prop),Inv X pins σ H s→(∀b∈fp,FpOk X pins H b)→tn i s.heap→J.go i H →
  wpAny (model P w) X.A (pyNext (.ref it)) (fun r s1=>∃u,r=some u ∧
   wpAny (model P w) X.A (letOwnedTupleGo tg (.ref it) u) (fun _ s2=>∃x H',Inv X pins σ H' s2∧RelV x u∧J.yld i H x H'∧tn (i+1) s2.heap∧∀b∈fp,H' b=none) E s1) E s
 done:∀(X:Cx),X.prog=P→X.w=w→X.K=K→X.calm=true→∀(i:Nat) (pins:List (Addr × Obj)) (s:Shared) (σ:St) (H:Hp) (E:Value→Shared→Prop),Inv X pins σ H s→(∀b∈fp,FpOk X pins H b)→tn i s.heap→J.stop i H →
  wpAny (model P w) X.A (pyNext (.ref it)) (fun r s1=>r=none∧Inv X pins σ H s1) E s
 self:∀(A:Around) (i:Nat) (s:Shared) (Q:Value→Shared→Prop) (E:Value→Shared→Prop),tn i s.heap→Q (.ref it) s→wpAny (model P w) A (pyIter (.ref it)) Q E s
abbrev TI:=St→Hp→(It→Hp→Prop)→Prop
def PIE(X:Cx)(pins:List (Addr × Obj))(σ:St)(tg:Expr)(R:It→Hp→Prop)(itv:Value)(s2:Shared):Prop :=
 ∃(it:Addr) (fp:List Addr) (tn:Nat→Heap→Prop) (J:It) (H':Hp),itv=.ref it∧Inv X pins σ H' s2∧Turn X.prog X.w X.K tg J fp it tn∧tn 0 s2.heap∧(∀b∈fp,FpOk X pins H' b)∧R J H'
def PI(X:Cx)(tg iter:Expr)(wi:TI):Prop :=
 ∀(pins:List (Addr × Obj)) (s:Shared) (σ:St) (H:Hp) (R:It→Hp→Prop),Inv X pins σ H s→wi σ H R →
  wpAny (model X.prog X.w) X.A (eval iter X.env) (fun v s1=>wpAny (model X.prog X.w) X.A (pyIter v) (PIE X pins σ tg R) X.xe s1) X.xe s
theorem go_of{M:Model}{A:Around}{E:Value→Shared→Prop}{s:Shared}{tg:Expr}{it:Addr}{u:Value}{o:Obj}{n:String}{vs:Array Value}{Q:Unit→Shared→Prop}(ho:s.heap.get? it=some o)(hc:o.cls=.type n)(hd:o.data=.fields vs)
    (hn:["enumerate","zip","dict_itemiterator","dict_reverseitemiterator","odict_iterator","itertools.zip_longest","itertools.pairwise"].contains n=false) (hQ:Q () s):wpAny M A (letOwnedTupleGo tg (.ref it) u) Q E s:=by
  unfold letOwnedTupleGo
  cases tg<;>first
    | exact wpAny_pure hQ
    | (cases u<;>first
        | exact wpAny_pure hQ
        | (refine wpAny_bind (wpAny_load ho ?_)
           rw [hc,hd]
           show wpAny M A (if (["enumerate","zip","dict_itemiterator","dict_reverseitemiterator","odict_iterator","itertools.zip_longest","itertools.pairwise"].contains n&&vs[0]?==some (rawInt _))=true then _ else _) Q E s
           rw [if_neg (by intro h;rw [hn,Bool.false_and] at h;cases h)]
           exact wpAny_pure hQ))
def Itl(K:PySem.W.Frag)(a:Addr):It :=
 ⟨fun i H=>∃xs x,SqL K H a xs∧xs[i]?=some x,fun i H x H'=>H'=H∧∀xs,SqL K H a xs→xs[i]?=some x,fun i H=>∃xs,SqL K H a xs∧xs.length≤i⟩
def Itt(K:PySem.W.Frag)(a:Addr):It :=
 ⟨fun i H=>∃xs x,SqT K H a xs∧xs[i]?=some x,fun i H x H'=>H'=H∧∀xs,SqT K H a xs→xs[i]?=some x,fun i H=>∃xs,SqT K H a xs∧xs.length≤i⟩
def Itr(lo:Int)(n:Nat):It:=⟨fun i _=>i < n,fun i H x H'=>H'=H∧x=.int (lo+i),fun i _=>n≤i⟩
theorem turn_list{P:Program}{w:World}{K:PySem.W.Frag}{tg:Expr}(a it:Addr):Turn P w K tg (Itl K a) [it] it (fun i h=>h.IsListIter it a i) where
 mem:=by simp
 obj:=fun i h st b hb=>by
  have e:b=it:=by simpa using hb
  subst e
  obtain⟨o,e,c,d⟩:=st
  exact⟨o,e,fun v z=>by rw [d] at z;cases z⟩
 keep:=fun i h h' st k=>st.at fun o e=>k it (by simp) o e
 item:=by
  intro X hP hw hK hc i pins s σ H E I hf st hg
  subst hP hw hK
  obtain⟨xs,x,hq,hx⟩:=hg
  obtain⟨its,rv,p,hz⟩:=I.list hq
  obtain⟨u,hu,ru⟩:=rv.get hx
  obtain⟨f0,f1,f2,f3,f4,f5⟩:=hf it (by simp)
  refine wpAny_pyNext_list_item st p.isList (x:=u) (by simpa using hu) fun h' st' sb=>?_
  have I1:Inv X pins σ H { s with heap:=h' }:=I.turned (t':=s.toks) (fun b o hb e=>(sb.2 b hb).trans e) f0 f1 f3 f4 f5
  obtain⟨o,e,c,d⟩:=id st'
  exact⟨u,rfl,go_of (s:={ s with heap:=h' }) e c d (by decide) ⟨x,H,I1,ru,⟨rfl,fun ys hy=>by rw [I.list_inj hy hq];exact hx⟩,st',fun b hb=>(hf b hb).1⟩⟩
 done:=by
  intro X hP hw hK hc i pins s σ H E I hf st hg
  subst hP hw hK
  obtain⟨xs,hq,hx⟩:=hg
  obtain⟨its,rv,p,hz⟩:=I.list hq
  obtain⟨f0,f1,f2,f3,f4,f5⟩:=hf it (by simp)
  have hl:=rv.length
  exact wpAny_pyNext_list_end (I.ok.hd hc) st p.isList (by simp;omega) fun h' eb=>⟨rfl,I.turned (t':=s.toks) (fun b o hb e=>eb b o hb e) f0 f1 f3 f4 f5⟩
 self:=fun _ _ _ _ _ st h=>wpAny_pyIter_listiter st h
theorem turn_tuple{P:Program}{w:World}{K:PySem.W.Frag}{tg:Expr}(a it:Addr):Turn P w K tg (Itt K a) [it] it (fun i h=>h.IsTupleIter it a i) where
 mem:=by simp
 obj:=fun i h st b hb=>by
  have e:b=it:=by simpa using hb
  subst e
  obtain⟨o,e,c,d⟩:=st
  exact⟨o,e,fun v z=>by rw [d] at z;cases z⟩
 keep:=fun i h h' st k=>st.at fun o e=>k it (by simp) o e
 item:=by
  intro X hP hw hK hc i pins s σ H E I hf st hg
  subst hP hw hK
  obtain⟨xs,x,hq,hx⟩:=hg
  obtain⟨its,rv,p,hz⟩:=I.tuple hq
  obtain⟨u,hu,ru⟩:=rv.get hx
  obtain⟨f0,f1,f2,f3,f4,f5⟩:=hf it (by simp)
  refine wpAny_pyNext_tuple_item st (show s.heap.IsTuple a its.toArray from p) (x:=u) (by simpa using hu) fun h' st' sb=>?_
  have I1:Inv X pins σ H { s with heap:=h' }:=I.turned (t':=s.toks) (fun b o hb e=>(sb.2 b hb).trans e) f0 f1 f3 f4 f5
  obtain⟨o,e,c,d⟩:=id st'
  exact⟨u,rfl,go_of (s:={ s with heap:=h' }) e c d (by decide) ⟨x,H,I1,ru,⟨rfl,fun ys hy=>by rw [I.tuple_inj hy hq];exact hx⟩,st',fun b hb=>(hf b hb).1⟩⟩
 done:=by
  intro X hP hw hK hc i pins s σ H E I hf st hg
  subst hP hw hK
  obtain⟨xs,hq,hx⟩:=hg
  obtain⟨its,rv,p,hz⟩:=I.tuple hq
  obtain⟨f0,f1,f2,f3,f4,f5⟩:=hf it (by simp)
  have hl:=rv.length
  exact wpAny_pyNext_tuple_end (I.ok.hd hc) st (show s.heap.IsTuple a its.toArray from p) (by simp;omega) fun h' eb=>⟨rfl,I.turned (t':=s.toks) (fun b o hb e=>eb b o hb e) f0 f1 f3 f4 f5⟩
 self:=fun _ _ _ _ _ st h=>wpAny_pyIter_tupleiter st h
theorem turn_range{P:Program}{w:World}{K:PySem.W.Frag}{tg:Expr}(it:Addr)(lo:Int)(n:Nat):Turn P w K tg (Itr lo n) [it] it (fun i h=>IsRangeIter h it (lo+(i:Nat)*1) ((n:Int) - (i:Nat)) 1) where
 mem:=by simp
 obj:=fun i h st b hb=>by
  have e:b=it:=by simpa using hb
  subst e
  exact⟨_,st,fun v z=>by
   have z':Data.fields _=Data.cell v:=z
   cases z'⟩
 keep:=fun i h h' st k=>k it (by simp) _ st
 item:=by
  intro X hP hw hK hc i pins s σ H E I hf st hg
  subst hP hw hK
  obtain⟨f0,f1,f2,f3,f4,f5⟩:=hf it (by simp)
  have W:=Walks.range (prog:=X.prog) (w:=X.w) (I.ok.hd hc) it lo 1 n
  refine W.item i s _ _ hg st fun v h' tk hv st' kk=>?_
  obtain⟨t,rfl⟩:=hv
  have I1:Inv X pins σ H { s with heap:=h',toks:=tk }:=I.turned (fun b o hb e=>kk b o (by simpa using hb) e) f0 f1 f3 f4 f5
  refine⟨_,rfl,go_of (s:={ s with heap:=h',toks:=tk }) (n:="range_iterator") st' rfl rfl (by decide) ⟨.int (lo+i),H,I1,⟨t,?_⟩,⟨rfl,rfl⟩,st',fun b hb=>(hf b hb).1⟩⟩
  rw [Int.mul_one]
 done:=by
  intro X hP hw hK hc i pins s σ H E I hf st hg
  subst hP hw hK
  obtain⟨f0,f1,f2,f3,f4,f5⟩:=hf it (by simp)
  exact wpAny_pyNext_range_end (I.ok.hd hc) st (by have:n≤i:=hg;omega) fun h' eb=>⟨rfl,I.turned (t':=s.toks) (fun b o hb e=>eb b o hb e) f0 f1 f3 f4 f5⟩
 self:=fun _ _ _ _ _ st h=>wpAny_pyIter_rangeiter st h
end L2
namespace L2
open PySem PySem.Spec PyProof.Rows
section
variable{X:Cx}{tg:Expr}
def iList(K:PySem.W.Frag)(tl:TE):TI:=fun σ H R=>tl σ H fun x H1=>∃a,x=.ref a∧(∃xs,SqL K H1 a xs)∧R (Itl K a) H1
def iTup(K:PySem.W.Frag)(tl:TE):TI:=fun σ H R=>tl σ H fun x H1=>∃a,x=.ref a∧(∃xs,SqT K H1 a xs)∧R (Itt K a) H1
theorem pi_list{l:Expr}{tl:TE}(hl:PE X l tl):PI X tg l (iList X.K tl):=by
 intro pins s σ H R I h
 refine thn (hl pins s σ H _ I h) fun v s1 ⟨x,H1,I1,r1,q1⟩=>?_
 obtain⟨a,e,⟨xs,hq⟩,q⟩:=q1
 subst e
 cases r1
 obtain⟨its,rv,p,hz⟩:=I1.list hq
 refine wpAny_pyIter_list p.isList ?_
 refine⟨s1.heap.objs.size,[s1.heap.objs.size],_,_,H1,rfl,I1.kept (t':=s1.toks) fun b o e=>Heap.get?_push_of_some _ e,turn_list a _,⟨_,Heap.get?_push_size _ rfl,rfl,rfl⟩,fun b hb=>?_,q⟩
 have e:b=s1.heap.objs.size:=by simpa using hb
 subst e
 exact I1.fpOk (Nat.le_refl _) (I1.hok.fresh (Nat.le_refl _))
theorem pi_tup{l:Expr}{tl:TE}(hl:PE X l tl):PI X tg l (iTup X.K tl):=by
 intro pins s σ H R I h
 refine thn (hl pins s σ H _ I h) fun v s1 ⟨x,H1,I1,r1,q1⟩=>?_
 obtain⟨a,e,⟨xs,hq⟩,q⟩:=q1
 subst e
 cases r1
 obtain⟨its,rv,p,hz⟩:=I1.tuple hq
 refine wpAny_pyIter_tuple (show s1.heap.IsTuple a its.toArray from p) ?_
 refine⟨s1.heap.objs.size,[s1.heap.objs.size],_,_,H1,rfl,I1.kept (t':=s1.toks) fun b o e=>Heap.get?_push_of_some _ e,turn_tuple a _,⟨_,Heap.get?_push_size _ rfl,rfl,rfl⟩,fun b hb=>?_,q⟩
 have e:b=s1.heap.objs.size:=by simpa using hb
 subst e
 exact I1.fpOk (Nat.le_refl _) (I1.hok.fresh (Nat.le_refl _))
theorem range_it{pins:List (Addr × Obj)}{σ:St}{H:Hp}{s:Shared}{R:It→Hp→Prop}{E:Value→Shared→Prop}{lo hi:Int}{t u v:Tok}{tk:Nat}(I:Inv X pins σ H s)(h1:-(2 ^ 62)≤lo)(h2:lo < 2 ^ 62)(h3:-(2 ^ 62)≤hi)(h4:hi < 2 ^ 62)
  (q:R (Itr lo (hi - lo).toNat) H):wpAny (model X.prog X.w) X.A (pyIter (.ref s.heap.objs.size)) (PIE X pins σ tg R) E { s with heap:=s.heap.push { cls:=.type "range",data:=.fields #[.int lo t,.int hi u,.int 1 v] },toks:=tk }:=by
 refine wpAny_pyIter_range (IsRange.new ..) (small_one h1 h2 h3 h4) ?_
 have I1:Inv X pins σ H { s with heap:=s.heap.push { cls:=.type "range",data:=.fields #[.int lo t,.int hi u,.int 1 v] },toks:=tk }:=I.kept fun b o e=>Heap.get?_push_of_some _ e
 refine⟨(s.heap.push { cls:=.type "range",data:=.fields #[.int lo t,.int hi u,.int 1 v] }).objs.size,[(s.heap.push { cls:=.type "range",data:=.fields #[.int lo t,.int hi u,.int 1 v] }).objs.size],_,_,H,rfl,
  I1.kept (t':=tk) fun b o e=>Heap.get?_push_of_some _ e,turn_range _ lo (hi - lo).toNat,?_,fun b hb=>?_,q⟩
 ·have e1:lo+((0:Nat):Int)*1=lo:=by simp
  have e2:(((hi - lo).toNat:Nat):Int) - ((0:Nat):Int)=Builtin.Range.rangeSize lo hi 1:=by rw [rangeSize_one];split<;>omega
  show IsRangeIter _ _ (lo+((0:Nat):Int)*1) ((((hi - lo).toNat:Nat):Int) - ((0:Nat):Int)) 1
  rw [e1,e2]
  exact Heap.get?_push_size _ rfl
 ·have e:b=(s.heap.push { cls:=.type "range",data:=.fields #[.int lo t,.int hi u,.int 1 v] }).objs.size:=by simpa using hb
  subst e
  exact I1.fpOk (Nat.le_refl _) (I1.hok.fresh (Nat.le_refl _))
def iRng1(ta:TA):TI:=fun σ H R=>ta σ H fun vs H1=>∃j:Int,vs=[.int j]∧-(2 ^ 62)≤j∧j < 2 ^ 62∧R (Itr 0 j.toNat) H1
theorem pi_range1{a:Expr}{ta:TA}{p pos:Pos} (hg:Gl X "range") (hm:X.mg "range"=none) (ha:PA X [a] ta) (hs:starEach [a] X.env=[(false,eval a X.env)]:=by rfl):PI X tg (.Call (.Name "range" p) [a] [] pos) (iRng1 ta):=by
 intro pins s σ H R I h
 refine Call_ (ld_blt I hg hm boot_range (PyProof.Rows.callWith_type1 (thn (ha pos pins s σ H _ I h) fun us s1 ⟨vs,H1,I1,r1,q1⟩=>?_) hs rfl))
 obtain⟨j,e,q1,q2,q⟩:=q1
 subst e
 cases r1 with
 |cons r rr =>
  cases rr
  obtain⟨t,rfl⟩:=r
  exact call_range_1 (range_it I1 (by omega) (by omega) q1 q2 (by simpa using q))
def tFor(wi:TI)(g:TG)(tb:TS):TS:=fun D σ H=>wi σ H fun J H1=>∃W:Nat→Nat→St→Hp→Prop,(∃m,W 0 m σ H1)∧∀i m σ H,W i m σ H →
 (J.stop i H∧D.nx σ H)∨(J.go i H∧∃N:St→Hp→Prop,(∀σ' H',N σ' H'→∃m',m' < m∧W (i+1) m' σ' H')∧∀x H',J.yld i H x H'→g x σ H' fun σ2 H2=>tb { D with nx:=N,ct:=N,bk:=D.nx } σ2 H2)
def pinsAt(fp:List Addr)(h:Heap):List (Addr × Obj):=fp.filterMap fun b=>(h.get? b).map fun o=>(b,o)
theorem mem_pinsAt{fp:List Addr}{h:Heap}{b:Addr}{o:Obj}(hb:b∈fp)(e:h.get? b=some o):(b,o)∈pinsAt fp h:=List.mem_filterMap.mpr ⟨b,hb,by rw [e];rfl⟩
theorem of_pinsAt{fp:List Addr}{h:Heap}{p:Addr × Obj}(hp:p∈pinsAt fp h):p.1∈fp∧h.get? p.1=some p.2:=by
 obtain⟨b,hb,e⟩:=List.mem_filterMap.mp hp
 cases q:h.get? b with
 |none=>rw [q] at e;cases e
 |some o =>
  rw [q] at e
  have e':(b,o)=p:=Option.some.inj e
  subst e'
  exact⟨hb,q⟩
theorem Inv.pinned{pins:List (Addr × Obj)}{σ:St}{H:Hp}{s:Shared}{fp:List Addr}(I:Inv X pins σ H s)(hf:∀b∈fp,FpOk X pins H b)(ho:∀b∈fp,∃o,s.heap.get? b=some o∧∀v,o.data≠.cell v):Inv X (pins++pinsAt fp s.heap) σ H s :=
 I.pins_of fun p hp=>(List.mem_append.mp hp).elim (fun z=>I.pin p (List.mem_append_right _ z)) fun z=>by
  obtain⟨hb,e⟩:=of_pinsAt z
  obtain⟨f0,f1,f2,_⟩:=hf p.1 hb
  obtain⟨o,e',d⟩:=ho p.1 hb
  rw [e] at e';cases e'
  exact⟨e,f0,f1,f2,d⟩
theorem Inv.unpinned{pins pl:List (Addr × Obj)}{σ:St}{H:Hp}{s:Shared}(I:Inv X (pins++pl) σ H s):Inv X pins σ H s:=I.pins_of fun p hp=>I.pin p (List.mem_append_right _ (List.mem_append_left _ hp))
theorem ps_for{iter:Expr}{body:List Stmt}{wi:TI}{g:TG}{tb:TS}{pos:Pos}(hp:PassesOwn (model X.prog X.w) X.A X.env X.xe)(hc:X.calm=true)(hi:PI X tg iter wi)(hg:PG X tg g)(hb:PSs X body tb)
  (hs:∀x,foldedSetIterable iter X.env x=pure x:=by intro _;rfl):PS X (.For tg iter body [] pos) (tFor wi g tb):=by
 intro pins s σ H D I h
 refine wpAny_For (thn (hi pins s σ H _ I h) fun v s1 h1=>thn h1 fun itv s2 h2=>?_) hs
 obtain⟨it,fp,tn,J,H2,e,I2,T,st2,f2,W,⟨m0,w0⟩,turn⟩:=h2
 subst e
 have stat:∀{H':Hp},(∀b∈fp,H' b=none)→∀b∈fp,FpOk X pins H' b:=fun hn b hb=>⟨hn b hb,(f2 b hb).2⟩
 refine codeAny_forLoop_any (fun n s'=>∃i σ' H',Inv X pins σ' H' s'∧tn i s'.heap∧(∀b∈fp,H' b=none)∧W i n σ' H') ?_ m0 ⟨0,σ,H2,I2,st2,fun b hb=>(f2 b hb).1,w0⟩
 rintro n s3 ⟨i,σ3,H3,I3,st3,fr3,w3⟩
 rcases turn i n σ3 H3 w3 with ⟨stop,qn⟩|⟨go,N,hN,step⟩
 ·refine wpAny_passesOwn hp (thn (T.done X rfl rfl rfl hc i pins s3 σ3 H3 X.xe I3 (stat fr3) st3 stop) fun r s4 ⟨hr,I4⟩=>?_)
  subst hr
  exact wpAny_execs_nil ⟨σ3,H3,I4,qn⟩
 ·refine wpAny_passesOwn hp (thn (T.item X rfl rfl rfl hc i pins s3 σ3 H3 X.xe I3 (stat fr3) st3 go) fun r s4 ⟨u,hr,h4⟩=>?_)
  subst hr
  refine wpAny_passesOwn hp (thn h4 fun _ s5 ⟨x,H5,I5,r5,y5,st5,fr5⟩=>?_)
  have I5':=I5.pinned (stat fr5) (T.obj _ _ st5)
  refine wpAny_passesOwn hp (thn (hg _ s5 σ3 H5 x u _ I5' r5 (step x H5 y5)) fun _ s6 ⟨σ6,H6,I6,q6⟩=>?_)
  refine wpAny_passesOwn hp (thn (hb _ s6 σ6 H6 _ I6 q6) fun f s7 q7=>?_)
  have again:∀{σ7:St} {H7:Hp},Inv X (pins++pinsAt fp s5.heap) σ7 H7 s7→N σ7 H7→∃m,m < n∧∃i σ' H',Inv X pins σ' H' s7∧tn i s7.heap∧(∀b∈fp,H' b=none)∧W i m σ' H':=fun {σ7 H7} I7 n7=>by
   obtain⟨m',hm,w7⟩:=hN σ7 H7 n7
   refine⟨m',hm,i+1,σ7,H7,I7.unpinned,T.keep _ _ _ st5 fun b hb o e=>(I7.pin (b,o) (List.mem_append_right _ (List.mem_append_right _ (mem_pinsAt hb e)))).1,fun b hb=>?_,w7⟩
   obtain⟨o,e,d⟩:=T.obj _ _ st5 b hb
   exact(I7.pin (b,o) (List.mem_append_right _ (List.mem_append_right _ (mem_pinsAt hb e)))).2.1
  cases f with
  |next=>obtain⟨σ7,H7,I7,n7⟩:=q7;exact again I7 n7
  |cont=>obtain⟨σ7,H7,I7,n7⟩:=q7;exact again I7 n7
  |brk=>obtain⟨σ7,H7,I7,q7⟩:=q7;exact⟨σ7,H7,I7.unpinned,q7⟩
  |ret v=>obtain⟨x7,σ7,H7,I7,r7,q7⟩:=q7;exact⟨x7,σ7,H7,I7.unpinned,r7,q7⟩
end
theorem for_list{K:PySem.W.Frag}{a:Addr}{xs:List V}{g:TG}{tb:TS}{D:Ends}{σ:St}{H:Hp}(Pv:Nat→St→Hp→Prop)(h0:Pv 0 σ H)(hl:∀i σ H,i≤xs.length→Pv i σ H→SqL K H a xs)
  (hs:∀i x σ H,xs[i]?=some x→Pv i σ H→g x σ H fun σ2 H2=>tb { D with nx:=Pv (i+1),ct:=Pv (i+1),bk:=D.nx } σ2 H2) (hd:∀σ H,Pv xs.length σ H→D.nx σ H) :
  ∃W:Nat→Nat→St→Hp→Prop,(∃m,W 0 m σ H)∧∀i m σ H,W i m σ H →
   ((Itl K a).stop i H∧D.nx σ H)∨((Itl K a).go i H∧∃N:St→Hp→Prop,(∀σ' H',N σ' H'→∃m',m' < m∧W (i+1) m' σ' H')∧∀x H',(Itl K a).yld i H x H'→g x σ H' fun σ2 H2=>tb { D with nx:=N,ct:=N,bk:=D.nx } σ2 H2):=by
 refine⟨fun i m σ H=>m=xs.length - i∧i≤xs.length∧Pv i σ H,⟨xs.length,by simp,Nat.zero_le _,h0⟩,?_⟩
 rintro i m σ H ⟨rfl,hi,p⟩
 have q:=hl i σ H hi p
 by_cases hlt:i < xs.length
 ·refine .inr ⟨⟨xs,xs[i],q,by simp [hlt]⟩,Pv (i+1),fun σ' H' p'=>⟨xs.length - (i+1),by omega,rfl,hlt,p'⟩,fun x H' y=>?_⟩
  obtain⟨e,y⟩:=y
  subst e
  exact hs i x σ _ (y xs q) p
 ·have e:i=xs.length:=by omega
  subst e
  exact .inl ⟨⟨xs,q,Nat.le_refl _⟩,hd σ H p⟩
theorem for_tup{K:PySem.W.Frag}{a:Addr}{xs:List V}{g:TG}{tb:TS}{D:Ends}{σ:St}{H:Hp}(Pv:Nat→St→Hp→Prop)(h0:Pv 0 σ H)(hl:∀i σ H,i≤xs.length→Pv i σ H→SqT K H a xs)
  (hs:∀i x σ H,xs[i]?=some x→Pv i σ H→g x σ H fun σ2 H2=>tb { D with nx:=Pv (i+1),ct:=Pv (i+1),bk:=D.nx } σ2 H2) (hd:∀σ H,Pv xs.length σ H→D.nx σ H) :
  ∃W:Nat→Nat→St→Hp→Prop,(∃m,W 0 m σ H)∧∀i m σ H,W i m σ H →
   ((Itt K a).stop i H∧D.nx σ H)∨((Itt K a).go i H∧∃N:St→Hp→Prop,(∀σ' H',N σ' H'→∃m',m' < m∧W (i+1) m' σ' H')∧∀x H',(Itt K a).yld i H x H'→g x σ H' fun σ2 H2=>tb { D with nx:=N,ct:=N,bk:=D.nx } σ2 H2):=by
 refine⟨fun i m σ H=>m=xs.length - i∧i≤xs.length∧Pv i σ H,⟨xs.length,by simp,Nat.zero_le _,h0⟩,?_⟩
 rintro i m σ H ⟨rfl,hi,p⟩
 have q:=hl i σ H hi p
 by_cases hlt:i < xs.length
 ·refine .inr ⟨⟨xs,xs[i],q,by simp [hlt]⟩,Pv (i+1),fun σ' H' p'=>⟨xs.length - (i+1),by omega,rfl,hlt,p'⟩,fun x H' y=>?_⟩
  obtain⟨e,y⟩:=y
  subst e
  exact hs i x σ _ (y xs q) p
 ·have e:i=xs.length:=by omega
  subst e
  exact .inl ⟨⟨xs,q,Nat.le_refl _⟩,hd σ H p⟩
theorem for_range{lo:Int}{n:Nat}{g:TG}{tb:TS}{D:Ends}{σ:St}{H:Hp}(Pv:Nat→St→Hp→Prop)(h0:Pv 0 σ H)
  (hs:∀i σ H,i < n→Pv i σ H→g (.int (lo+i)) σ H fun σ2 H2=>tb { D with nx:=Pv (i+1),ct:=Pv (i+1),bk:=D.nx } σ2 H2) (hd:∀σ H,Pv n σ H→D.nx σ H) :
  ∃W:Nat→Nat→St→Hp→Prop,(∃m,W 0 m σ H)∧∀i m σ H,W i m σ H →
   ((Itr lo n).stop i H∧D.nx σ H)∨((Itr lo n).go i H∧∃N:St→Hp→Prop,(∀σ' H',N σ' H'→∃m',m' < m∧W (i+1) m' σ' H')∧∀x H',(Itr lo n).yld i H x H'→g x σ H' fun σ2 H2=>tb { D with nx:=N,ct:=N,bk:=D.nx } σ2 H2):=by
 refine⟨fun i m σ H=>m=n - i∧i≤n∧Pv i σ H,⟨n,by simp,Nat.zero_le _,h0⟩,?_⟩
 rintro i m σ H ⟨rfl,hi,p⟩
 by_cases hlt:i < n
 ·refine .inr ⟨hlt,Pv (i+1),fun σ' H' p'=>⟨n - (i+1),by omega,rfl,hlt,p'⟩,fun x H' y=>?_⟩
  obtain⟨e,y⟩:=y
  subst e y
  exact hs i σ _ hlt p
 ·have e:i=n:=by omega
  subst e
  exact .inl ⟨Nat.le_refl _,hd σ H p⟩
theorem while_by{c:TT}{tb:TS}{D:Ends}{σ:St}{H:Hp}(Pv:St→Hp→Prop)(μ:St→Hp→Nat)(h0:Pv σ H)
  (hs:∀σ H,Pv σ H→c σ H fun b H1=>if b=true then tb { D with nx:=fun σ' H'=>Pv σ' H'∧μ σ' H' < μ σ H,ct:=fun σ' H'=>Pv σ' H'∧μ σ' H' < μ σ H,bk:=D.nx } σ H1 else D.nx σ H1)
  (mono:∀σ H Q Q',(∀b H1,Q b H1→Q' b H1)→c σ H Q→c σ H Q'):tWhile c tb D σ H:=by
 refine⟨fun m σ H=>m=μ σ H∧Pv σ H,⟨_,rfl,h0⟩,?_⟩
 rintro m σ H ⟨rfl,p⟩
 refine mono σ H _ _ (fun b H1 q=>?_) (hs σ H p)
 cases b with
 |true=>exact⟨_,fun σ' H' ⟨p',l⟩=>⟨_,l,rfl,p'⟩,q⟩
 |false=>exact q
end L2
namespace L2
open PySem PySem.Spec PyProof.Rows
abbrev R2:=V→V→Hp→VK→Prop
def OpR(X:Cx)(f:Value→Value→Sem Value)(r:R2):Prop :=
 ∀(pins:List (Addr × Obj)) (s:Shared) (σ:St) (H:Hp) (x y:V) (v u:Value) (Q:VK),Inv X pins σ H s→RelV x v→RelV y u→r x y H Q →
  wpAny (model X.prog X.w) X.A (f v u) (EP X pins σ Q) X.xe s
def UnR(X:Cx)(f:Value→Sem Value)(r:V→Hp→VK→Prop):Prop :=
 ∀(pins:List (Addr × Obj)) (s:Shared) (σ:St) (H:Hp) (x:V) (v:Value) (Q:VK),Inv X pins σ H s→RelV x v→r x H Q →
  wpAny (model X.prog X.w) X.A (f v) (EP X pins σ Q) X.xe s
def CallR(X:Cx)(f:Value)(r:List V→Hp→VK→Prop):Prop :=
 ∀(pins:List (Addr × Obj)) (s:Shared) (σ:St) (H:Hp) (xs:List V) (us:List Value) (Q:VK),Inv X pins σ H s→Vals xs us→r xs H Q →
  wpAny (model X.prog X.w) X.A (call f us) (EP X pins σ Q) X.xe s
def tOp(r:R2)(ta tb:TE):TE:=fun σ H Q=>ta σ H fun x H1=>tb σ H1 fun y H2=>r x y H2 Q
def tUn(r:V→Hp→VK→Prop)(ta:TE):TE:=fun σ H Q=>ta σ H fun x H1=>r x H1 Q
def rI(C:Int→Int→Prop)(g:Int→Int→V):R2:=fun x y H Q=>∃i j,x=.int i∧y=.int j∧C i j∧Q (g i j) H
def rI0(g:Int→Int→V):R2:=fun x y H Q=>∃i j,x=.int i∧y=.int j∧Q (g i j) H
def rU(g:Int→V):V→Hp→VK→Prop:=fun x H Q=>∃i,x=.int i∧Q (g i) H
section
variable{X:Cx}{a b c:Expr}{ta tb tc:TE}{pos:Pos}
theorem binT(ha:PE X a ta)(hb:PE X b tb){pins:List (Addr × Obj)}{s:Shared}{σ:St}{H:Hp}{R:V→V→Hp→Prop}(I:Inv X pins σ H s)
  (h:ta σ H fun x H1=>tb σ H1 fun y H2=>R x y H2) {Q:Value→Shared→Prop} {f:Value→Value→Sem Value}
  (hf:∀v u s2 x y H2,Inv X pins σ H2 s2→RelV x v→RelV y u→R x y H2→wpAny (model X.prog X.w) X.A (f v u) Q X.xe s2) :
  wpAny (model X.prog X.w) X.A (eval a X.env) (fun v s₁=>wpAny (model X.prog X.w) X.A (eval b X.env) (fun u s₂=>wpAny (model X.prog X.w) X.A (f v u) Q X.xe s₂) X.xe s₁) X.xe s:=by
 refine thn (ha pins s σ H _ I h) fun v s1 ⟨x,H1,I1,r1,q1⟩=>?_
 refine thn (hb pins s1 σ H1 _ I1 q1) fun u s2 ⟨y,H2,I2,r2,q2⟩=>?_
 exact hf v u s2 x y H2 I2 r1 r2 q2
theorem pe_op{op:Operator}{r:R2}(ho:OpR X (binaryOp op) r)(ha:PE X a ta)(hb:PE X b tb):PE X (.BinOp a op b pos) (tOp r ta tb):=by
 intro pins s σ H Q I h
 exact wpAny_BinOp (binT ha hb I h fun v u s2 x y H2 I2 rx ry q=>ho pins s2 σ H2 x y v u Q I2 rx ry q)
theorem pe_un{op:UnaryOp}{r:V→Hp→VK→Prop}(ho:UnR X (unaryOp op) r)(ha:PE X a ta):PE X (.UnaryOp op a pos) (tUn r ta):=by
 intro pins s σ H Q I h
 exact UnaryOp_ (thn (ha pins s σ H _ I h) fun v s1 ⟨x,H1,I1,r1,q1⟩=>ho pins s1 σ H1 x v Q I1 r1 q1)
theorem opI{f:Value→Value→Sem Value}{C:Int→Int→Prop}{g:Int→Int→Int}
  (rule:∀(i j:Int) (t u:Tok) (s:Shared) (Q:Value→Shared→Prop) (E:Value→Shared→Prop),C i j→Q (.int (g i j) s.toks) { s with toks:=s.toks+1 }→wpAny (model X.prog X.w) X.A (f (.int i t) (.int j u)) Q E s) :
  OpR X f (rI C fun i j=>.int (g i j)):=by
 intro pins s σ H x y v u Q I rx ry h
 obtain⟨i,j,rfl,rfl,hc,q⟩:=h
 obtain⟨t,rfl⟩:=rx
 obtain⟨t',rfl⟩:=ry
 exact rule i j t t' s _ _ hc ⟨.int (g i j),H,I.tok _,⟨_,rfl⟩,q⟩
theorem opI0{f:Value→Value→Sem Value}{g:Int→Int→Int}
  (rule:∀(i j:Int) (t u:Tok) (s:Shared) (Q:Value→Shared→Prop) (E:Value→Shared→Prop),Q (.int (g i j) s.toks) { s with toks:=s.toks+1 }→wpAny (model X.prog X.w) X.A (f (.int i t) (.int j u)) Q E s) :
  OpR X f (rI0 fun i j=>.int (g i j)):=by
 intro pins s σ H x y v u Q I rx ry h
 obtain⟨i,j,rfl,rfl,q⟩:=h
 obtain⟨t,rfl⟩:=rx
 obtain⟨t',rfl⟩:=ry
 exact rule i j t t' s _ _ ⟨.int (g i j),H,I.tok _,⟨_,rfl⟩,q⟩
theorem opB0{f:Value→Value→Sem Value}{g:Int→Int→Bool}
  (rule:∀(i j:Int) (t u:Tok) (s:Shared) (Q:Value→Shared→Prop) (E:Value→Shared→Prop),Q (.bool (g i j)) s→wpAny (model X.prog X.w) X.A (f (.int i t) (.int j u)) Q E s) :
  OpR X f (rI0 fun i j=>.bl (g i j)):=by
 intro pins s σ H x y v u Q I rx ry h
 obtain⟨i,j,rfl,rfl,q⟩:=h
 obtain⟨t,rfl⟩:=rx
 obtain⟨t',rfl⟩:=ry
 exact rule i j t t' s _ _ ⟨.bl (g i j),H,I,rfl,q⟩
def CDiv(i j:Int):Prop:=0 < j∧j < 1073741824
def CPow(i j:Int):Prop:=0≤j∧j≤1000000∧i.natAbs < 2 ^ 64
def CMul(i j:Int):Prop:=(-(2 ^ 64) < i∧i < 2 ^ 64)∨(-(2 ^ 64) < j∧j < 2 ^ 64)
theorem CMul.ok{i j:Int}(h:CMul i j):IntMulOk i j:=by
 rcases h with ⟨h1,h2⟩|⟨h1,h2⟩
 ·exact .of_left (intBits_le_64 h1 h2)
 ·exact .of_right (intBits_le_64 h1 h2)
theorem op_add:OpR X (binaryOp .Add) (rI0 fun i j=>.int (i+j)):=opI0 fun _ _ _ _ _ _ _ q=>add_int q
theorem op_mul:OpR X (binaryOp .Mult) (rI CMul fun i j=>.int (i*j)):=opI fun _ _ _ _ _ _ _ hc q=>mul_int q hc.ok
theorem op_fdiv:OpR X (binaryOp .FloorDiv) (rI CDiv fun i j=>.int (i / j)):=opI fun i j _ _ _ _ _ hc q=>by
 have h1:(0:Int) < j:=hc.1
 have h2:j < 1073741824:=hc.2
 exact floordiv_int (by omega) (by rw [Int.fdiv_eq_ediv_of_nonneg i (by omega)];exact q) (.inl (PyProof.noPylong_small (by omega)))
theorem op_mod:OpR X (binaryOp .Mod) (rI (fun _ j=>0 < j) fun i j=>.int (i%j)):=opI fun i j _ _ _ _ _ hc q=>by
 have h1:(0:Int) < j:=hc
 exact mod_int' (by omega) (by rw [Int.fmod_eq_emod_of_nonneg i (by omega)];exact q)
theorem op_pow:OpR X (binaryOp .Pow) (rI CPow fun i j=>.int (i ^ j.toNat)):=opI fun _ _ _ _ _ _ _ hc q=>pow_int_small hc.1 hc.2.1 hc.2.2 q
theorem unI{f:Value→Sem Value}{g:Int→Int}
  (rule:∀(i:Int) (t:Tok) (s:Shared) (Q:Value→Shared→Prop) (E:Value→Shared→Prop),Q (.int (g i) s.toks) { s with toks:=s.toks+1 }→wpAny (model X.prog X.w) X.A (f (.int i t)) Q E s) :
  UnR X f (rU fun i=>.int (g i)):=by
 intro pins s σ H x v Q I rx h
 obtain⟨i,rfl,q⟩:=h
 obtain⟨t,rfl⟩:=rx
 exact rule i t s _ _ ⟨.int (g i),H,I.tok _,⟨_,rfl⟩,q⟩
theorem un_neg:UnR X (unaryOp .USub) (rU fun i=>.int (-i)):=unI fun _ _ _ _ _ q=>neg_int q
end
def scal:V→V→Bool
 |.non,.non=>true|.non,.int _=>true|.int _,.non=>true|.non,.bl _=>true|.bl _,.non=>true|.non,.str _=>true|.str _,.non=>true
 |.int _,.int _=>true|.bl _,.bl _=>true|.str _,.str _=>true|.byt _,.byt _=>true
 |.int _,.str _=>true|.str _,.int _=>true|.bl _,.str _=>true|.str _,.bl _=>true
 |_,_=>false
def rEq:R2:=fun x y H Q=>scal x y=true∧Q (.bl (decide (x=y))) H
def rNe:R2:=fun x y H Q=>scal x y=true∧Q (.bl (!decide (x=y))) H
theorem dec_int{i j:Int}:decide (V.int i=V.int j)=(i==j):=by
 rw [Bool.eq_iff_iff]
 simp
theorem dec_bl{i j:Bool}:decide (V.bl i=V.bl j)=(i==j):=by
 rw [Bool.eq_iff_iff]
 simp
theorem dec_str{i j:Str}:decide (V.str i=V.str j)=(i==j):=by
 rw [Bool.eq_iff_iff]
 simp
theorem dec_byt{i j:Array UInt8}:decide (V.byt i=V.byt j)=(i.toList==j.toList):=by
 rw [Bool.eq_iff_iff]
 cases i
 cases j
 simp
section
variable{X:Cx}{a b c:Expr}{ta tb tc:TE}{pos:Pos}
theorem fin_bl{pins:List (Addr × Obj)}{σ:St}{H:Hp}{s:Shared}{Q:VK}{k k':Bool}(I:Inv X pins σ H s)(q:Q (.bl k) H)(e:k=k'):EP X pins σ Q (.bool k') s:=by
 subst e
 exact⟨.bl k,H,I,rfl,q⟩
theorem op_eq:OpR X (compareOp .Eq) rEq:=by
 intro pins s σ H x y v u Q I rx ry h
 obtain⟨hs,q⟩:=h
 cases x with
 |non =>
  cases rx
  cases y with
  |non=>cases ry;exact PySem.EqNone.eq_none_none (fin_bl I q (by simp))
  |bl j=>cases ry;exact PySem.EqNone.eq_none_bool (fin_bl I q (by simp))
  |int j=>obtain⟨t',rfl⟩:=ry;exact PySem.EqNone.eq_none_int (fin_bl I q (by simp))
  |str j=>obtain⟨t',rfl⟩:=ry;exact PySem.EqNone.eq_none_str (fin_bl I q (by simp))
  |_=>exact absurd (show false=true from hs) Bool.false_ne_true
 |bl i =>
  cases rx
  cases y with
  |non=>cases ry;exact PySem.EqNone.eq_bool_none (fin_bl I q (by simp))
  |bl j=>cases ry;exact eq_bool (fin_bl I q dec_bl)
  |str j=>obtain⟨t',rfl⟩:=ry;exact PySem.EqMixed.eq_bool_str (fin_bl I q (by simp))
  |_=>exact absurd (show false=true from hs) Bool.false_ne_true
 |int i =>
  obtain⟨t,rfl⟩:=rx
  cases y with
  |non=>cases ry;exact PySem.EqNone.eq_int_none (fin_bl I q (by simp))
  |int j=>obtain⟨t',rfl⟩:=ry;exact eq_int (fin_bl I q dec_int)
  |str j=>obtain⟨t',rfl⟩:=ry;exact PySem.EqMixed.eq_int_str (fin_bl I q (by simp))
  |_=>exact absurd (show false=true from hs) Bool.false_ne_true
 |str i =>
  obtain⟨t,rfl⟩:=rx
  cases y with
  |non=>cases ry;exact PySem.EqNone.eq_str_none (fin_bl I q (by simp))
  |bl j=>cases ry;exact PySem.EqMixed.eq_str_bool (fin_bl I q (by simp))
  |int j=>obtain⟨t',rfl⟩:=ry;exact PySem.EqMixed.eq_str_int (fin_bl I q (by simp))
  |str j=>obtain⟨t',rfl⟩:=ry;exact eq_str (fin_bl I q dec_str)
  |_=>exact absurd (show false=true from hs) Bool.false_ne_true
 |byt i =>
  obtain⟨t,rfl⟩:=rx
  cases y with
  |byt j=>obtain⟨t',rfl⟩:=ry;exact PySem.W.eq_bytes (fin_bl I q dec_byt)
  |_=>exact absurd (show false=true from hs) Bool.false_ne_true
 |_=>cases y<;>exact absurd (show false=true from hs) Bool.false_ne_true
theorem op_ne:OpR X (compareOp .NotEq) rNe:=by
 intro pins s σ H x y v u Q I rx ry h
 obtain⟨hs,q⟩:=h
 cases x with
 |non =>
  cases rx
  cases y with
  |non=>cases ry;exact PySem.EqNone.ne_none_none (fin_bl I q (by simp))
  |bl j=>cases ry;exact PySem.EqNone.ne_none_bool (fin_bl I q (by simp))
  |int j=>obtain⟨t',rfl⟩:=ry;exact PySem.EqNone.ne_none_int (fin_bl I q (by simp))
  |str j=>obtain⟨t',rfl⟩:=ry;exact PySem.EqNone.ne_none_str (fin_bl I q (by simp))
  |_=>exact absurd (show false=true from hs) Bool.false_ne_true
 |bl i =>
  cases rx
  cases y with
  |non=>cases ry;exact PySem.EqNone.ne_bool_none (fin_bl I q (by simp))
  |bl j=>cases ry;exact ne_bool (fin_bl I q (congrArg not dec_bl))
  |str j=>obtain⟨t',rfl⟩:=ry;exact PySem.EqMixed.ne_bool_str (fin_bl I q (by simp))
  |_=>exact absurd (show false=true from hs) Bool.false_ne_true
 |int i =>
  obtain⟨t,rfl⟩:=rx
  cases y with
  |non=>cases ry;exact PySem.EqNone.ne_int_none (fin_bl I q (by simp))
  |int j=>obtain⟨t',rfl⟩:=ry;exact ne_int (fin_bl I q (congrArg not dec_int))
  |str j=>obtain⟨t',rfl⟩:=ry;exact PySem.EqMixed.ne_int_str (fin_bl I q (by simp))
  |_=>exact absurd (show false=true from hs) Bool.false_ne_true
 |str i =>
  obtain⟨t,rfl⟩:=rx
  cases y with
  |non=>cases ry;exact PySem.EqNone.ne_str_none (fin_bl I q (by simp))
  |bl j=>cases ry;exact PySem.EqMixed.ne_str_bool (fin_bl I q (by simp))
  |int j=>obtain⟨t',rfl⟩:=ry;exact PySem.EqMixed.ne_str_int (fin_bl I q (by simp))
  |str j=>obtain⟨t',rfl⟩:=ry;exact ne_str (fin_bl I q (congrArg not dec_str))
  |_=>exact absurd (show false=true from hs) Bool.false_ne_true
 |byt i =>
  obtain⟨t,rfl⟩:=rx
  cases y with
  |byt j=>obtain⟨t',rfl⟩:=ry;exact PySem.W.ne_bytes (fin_bl I q (congrArg not dec_byt))
  |_=>exact absurd (show false=true from hs) Bool.false_ne_true
 |_=>cases y<;>exact absurd (show false=true from hs) Bool.false_ne_true
theorem op_lt:OpR X (compareOp .Lt) (rI0 fun i j=>.bl (decide (i < j))):=opB0 fun _ _ _ _ _ _ _ q=>lt_int q
theorem op_gt:OpR X (compareOp .Gt) (rI0 fun i j=>.bl (decide (j < i))):=opB0 fun _ _ _ _ _ _ _ q=>gt_int q
theorem op_isN:OpR X (compareOp .Is) (fun x y H Q=>y=.non∧Q (.bl (decide (x=.non))) H):=by
 intro pins s σ H x y v u Q I rx ry h
 obtain⟨rfl,q⟩:=h
 cases ry
 refine is_none_gen (fin_bl I q ?_)
 cases x<;>first
  |(cases rx;rfl)
  |(obtain⟨t,rfl⟩:=rx;rfl)
theorem op_notN:OpR X (compareOp .IsNot) (fun x y H Q=>y=.non∧Q (.bl (!decide (x=.non))) H):=by
 intro pins s σ H x y v u Q I rx ry h
 obtain⟨rfl,q⟩:=h
 cases ry
 refine isnot_none_gen (fin_bl I q ?_)
 cases x<;>first
  |(cases rx;rfl)
  |(obtain⟨t,rfl⟩:=rx;rfl)
theorem nomark(b:Expr){op:CmpOp}(h:op≠.In:=by decide)(h2:op≠.NotIn:=by decide):behindInMarks op b=false:=by
 have e1:(op==CmpOp.In)=false:=by cases op<;>first|rfl|exact absurd rfl h
 have e2:(op==CmpOp.NotIn)=false:=by cases op<;>first|rfl|exact absurd rfl h2
 cases b<;>simp [behindInMarks,e1,e2]
theorem pe_cmpR{op:CmpOp}{r:R2}(ho:OpR X (compareOp op) r)(ha:PE X a ta)(hb:PE X b tb)(hm:behindInMarks op b=false):PE X (.Compare a [op] [b] pos) (tOp r ta tb):=by
 intro pins s σ H Q I h
 exact wpAny_Compare1 (binT ha hb I h fun v u s2 x y H2 I2 rx ry q=>ho pins s2 σ H2 x y v u Q I2 rx ry q) hm
def tTest(t:TE):TT:=fun σ H Q=>t σ H fun x H'=>∃k,x=.bl k∧Q k H'
theorem pt_cmpR{op:CmpOp}{r:R2}(ho:OpR X (compareOp op) r)(ha:PE X a ta)(hb:PE X b tb)(hm:behindInMarks op b=false):PT X (.Compare a [op] [b] pos) (tTest (tOp r ta tb)):=by
 intro pins s σ H Q I h
 refine wpAny_isTrue_Compare1 (thn (ha pins s σ H _ I h) fun v s1 ⟨x,H1,I1,r1,q1⟩=>thn (hb pins s1 σ H1 _ I1 q1) fun u s2 ⟨y,H2,I2,r2,q2⟩ =>
  thn (ho pins s2 σ H2 x y v u _ I2 r1 r2 q2) fun c s3 ⟨z,H3,I3,r3,k,e,q3⟩=>?_) hm
 subst e
 cases r3
 exact wpAny_truthy_bool ⟨H3,I3,q3⟩
theorem line63:(sizeLine:Nat) < 2 ^ 63:=by rw [sizeLine_eq];decide
theorem op_add_str:OpR X (binaryOp .Add) (fun x y H Q=>∃i j,x=.str i∧y=.str j∧i.length+j.length≤sizeLine∧Q (.str (i++j)) H):=by
 intro pins s σ H x y v u Q I rx ry h
 obtain⟨i,j,rfl,rfl,hz,q⟩:=h
 obtain⟨t,rfl⟩:=rx
 obtain⟨t',rfl⟩:=ry
 exact add_str (fun t' tk=>⟨.str (i++j),H,I.tok _,⟨_,rfl⟩,q⟩) hz
theorem vals1{x:V}{us:List Value}(r:Vals [x] us):∃u,us=[u]∧RelV x u:=by
 cases r with
 |cons r1 r2=>cases r2;exact⟨_,rfl,r1⟩
theorem vals2{x y:V}{us:List Value}(r:Vals [x,y] us):∃u w',us=[u,w']∧RelV x u∧RelV y w':=by
 cases r with
 |cons r1 r2 =>
  cases r2 with
  |cons r3 r4=>cases r4;exact⟨_,_,rfl,r1,r3⟩
theorem call_int1:CallR X (.type "int") (fun xs H Q=>(∃i,xs=[.int i]∧Q (.int i) H)∨∃k,xs=[.bl k]∧Q (.int (if k then 1 else 0)) H):=by
 intro pins s σ H xs us Q I r h
 rcases h with ⟨i,rfl,q⟩|⟨k,rfl,q⟩
 ·obtain⟨u,rfl,t,rfl⟩:=vals1 r
  exact call_int_int ⟨.int i,H,I,⟨_,rfl⟩,q⟩
 ·obtain⟨u,rfl,r1⟩:=vals1 r
  cases r1
  exact call_int_bool ⟨.int (if k then 1 else 0),H,I.tok _,⟨_,rfl⟩,q⟩
end
end L2
namespace L2
open PySem PySem.Spec PyProof.Rows
structure ObjM(h:Heap)(x dx C:Addr)(mA:Str→Option Value):Prop where
 obj:h.get? x=some (PySem.W.instObj C dx)
 ns:h.Ns1 dx mA
 ne:dx≠x
theorem lookIn_ns{h:Heap}{dx:Addr}{mA:Str→Option Value}(n:h.Ns1 dx mA):∃od,h.get? dx=some od∧∀name,PySem.W.lookIn name od=some (mA name):=by
 obtain⟨o,es,ep,ho,hd,hk,_,hm⟩:=n
 refine⟨o,ho,fun name=>?_⟩
 have e:=hm name
 unfold nsFind findBy at e
 rw [←Array.find?_toList] at e
 unfold PySem.W.lookIn
 rw [hd]
 dsimp only
 split
 ·rename_i y q
  rw [q] at e
  exact congrArg some e
 ·rename_i q
  rw [q] at e
  have a:es.toList.any (·.refKey)=false:=by
   rw [List.any_eq_false]
   intro y hy
   obtain⟨z,t,hkey⟩:=hk y (Array.mem_toList_iff.mp hy)
   simp [DictEntry.refKey,hkey]
  have a':¬es.toList.any (·.refKey)=true:=by rw [a];exact Bool.false_ne_true
  rw [if_neg a']
  exact congrArg some e
theorem ObjM.look{h:Heap}{x dx C:Addr}{mA:Str→Option Value}(I:ObjM h x dx C mA):∃od,PySem.W.InstAt h x (PySem.W.instObj C dx) C (some od)∧∀name,PySem.W.lookIn name od=some (mA name) :=
 let ⟨od,ho,hl⟩:=lookIn_ns I.ns
 ⟨od,⟨I.obj,rfl,rfl,ho⟩,hl⟩
section
variable{prog:Program}{w:World}{A:Around}{E:Value→Shared→Prop}{s:Shared}{K:PySem.W.Frag}{x dx C f:Addr}{mA:Str→Option Value}{name:Str}{v:Value}
theorem get_map{expr:Bool}{Q:Value→Shared→Prop}(X:K.In s.heap)(I:ObjM s.heap x dx C mA)(hg:PySem.W.plainGet K C name=true)(hh:PySem.W.hasDictIn K C=true)
  (ha:PySem.W.findIn K (.ref C) name=some none) (hv:mA name=some v) (hv':PySem.W.handedIn v=true) (h:Q v { s with toks:=s.toks+1 }) :
  wpAny (model prog w) A (getAttr (.ref x) name expr) Q E s:=by
 obtain⟨od,J,hl⟩:=I.look
 exact PySem.W.get_value X J (PySem.W.plainGet_of hg).1 (PySem.W.findObj_own hh ha rfl (by rw [hl,hv])) hv' h
theorem get_meth{pl:Sem Bool}{Q:Value × List Value→Shared→Prop}(X:K.In s.heap)(I:ObjM s.heap x dx C mA)(hg:PySem.W.plainGet K C name=true)
  (hf:PySem.W.findIn K (.ref C) name=some (some (.ref f))) (ht:PySem.W.isFn K (.ref f)=true) (hv:mA name=none) (h:Q (.ref f,[.ref x]) s) :
  wpAny (model prog w) A (getMethod (.ref x) name pl) Q E s:=by
 obtain⟨od,J,hl⟩:=I.look
 exact PySem.W.method_fn X J (PySem.W.plainGet_of hg).1 (PySem.W.plainGet_of hg).2 hf (beq_iff_eq.mp ht) (by show(PySem.W.lookIn name od).map (·.isSome)=some false;rw [hl,hv];rfl) h
theorem set_map{ns:List Str}{Q:Unit→Shared→Prop}(X:K.In s.heap)(I:ObjM s.heap x dx C mA)
  (hs:PySem.W.findIn K (.ref C) "__setattr__"=some (some (.builtin "object.__setattr__"))) (hp:PySem.W.plainOver K C=true) (ht:PySem.W.takerIn K C name=some none) (hh:PySem.W.hasDictIn K C=true)
  (hw:PySem.Within mA ns) (hsz:ns.length≤sizeLine)
  (h:∀h',ObjM h' x dx C (fun y=>if y=name then some v else mA y)→Heap.SameBut dx s.heap h'→Q () { s with heap:=h',toks:=s.toks+2 }) :
  wpAny (model prog w) A (setAttr (.ref x) name v) Q E s:=by
 obtain⟨od,J,hl⟩:=I.look
 refine PySem.W.set_plain X J hs (PySem.W.osa_open (s:={ s with toks:=s.toks+1 }) (r:=none) X J hp ht fun b=>?_)
 obtain⟨cd,hc,hd'⟩:=PySem.W.any_some hh
 have hx:s.heap.get? x=some ⟨.ref C,some dx,.plain,#[]⟩:=I.obj
 refine wpAny_bind (wpAny_pure (wpAny_bind (wpAny_bind (wpAny_loadPart hx (wpAny_bind (PySem.W.Looks.here (s:={ s with toks:=s.toks+1 }) (PySem.W.looks_clsIn X hc) ?_))))))
 rw [hd']
 refine wpAny_pure (a:=some dx) (wpAny_bind (wpAny_pure (wpAny_bind ?_)))
 refine wpAny_nsSet1 (s:={ s with toks:=s.toks+1 }) I.ns fun h' hn2 hs2=>?_
 obtain⟨oD,esD,epD,hoD,hdD,hcD⟩:=hn2.count (PySem.Within.cons name v hw)
 refine wpAny_bind (wpAny_lookBehind hoD (by rw [hdD];exact pastItsLine_dict (Nat.le_trans hcD (by rw [List.length_cons];omega))) ?_)
 exact wpAny_pure (h _ ⟨(hs2.2 _ (Ne.symm I.ne)).trans I.obj,hn2,I.ne⟩ hs2)
theorem make_map{R:Result→Shared→Prop}{vs:List Value}{kw:List (Str × Value)}(X:K.In s.heap)(hm:PySem.W.makesIn K C=true)
  (hi:PySem.W.findIn K (.ref C) "__init__"=some (some (.ref f))) (hf:PySem.W.typeIn K (.ref f)=some (.type "function"))
  (h:codeAny (model prog w) (A.under (.builtin "type.__call__" ⟨.ref C::vs,kw⟩)) (.call (.ref f) ⟨.ref (s.heap.objs.size+1)::vs,kw⟩) (PySem.W.InitBack (s.heap.objs.size+1) R)
   { s with heap:=(s.heap.push PySem.W.emptyDict).push (PySem.W.instObj C s.heap.objs.size) }) :
  codeAny (model prog w) A (.call (.ref C) ⟨vs,kw⟩) R s:=by
 obtain⟨hh,g,d,t,os⟩:=s
 exact PySem.W.make_core (PySem.W.makes_of X hm) (PySem.W.looks_findIn X hi) (fun self=>PySem.W.bind_fn X self hf) (.inl rfl) h
end
def putF(f:Str)(v:V):List (Str × V)→List (Str × V)
 |[]=>[(f,v)]
 |(g,x)::r=>if g=f then (g,v)::r else (g,x)::putF f v r
theorem lookup_putF(f g:Str)(v:V):∀fs:List (Str × V),(putF f v fs).lookup g=if g=f then some v else fs.lookup g
 |[]=>by
  show List.lookup g [(f,v)]=_
  by_cases h:g=f
  ·have hb:(g==f)=true:=beq_iff_eq.mpr h
   simp only [List.lookup,hb,if_pos h]
  ·have hb:(g==f)=false:=beq_eq_false_iff_ne.mpr h
   simp only [List.lookup,hb,if_neg h]
 |(k,x)::r=>by
  have ih:=lookup_putF f g v r
  rw [show putF f v ((k,x)::r)=(if k=f then (k,v)::r else (k,x)::putF f v r) from rfl]
  by_cases hk:k=f
  ·rw [if_pos hk]
   by_cases h:g=k
   ·have hb:(g==k)=true:=beq_iff_eq.mpr h
    simp only [List.lookup,hb,if_pos (h.trans hk)]
   ·have hb:(g==k)=false:=beq_eq_false_iff_ne.mpr h
    simp only [List.lookup,hb,if_neg (fun e:g=f=>h (e.trans hk.symm))]
  ·rw [if_neg hk]
   by_cases h:g=k
   ·have hb:(g==k)=true:=beq_iff_eq.mpr h
    simp only [List.lookup,hb,if_neg (fun e:g=f=>hk (h.symm.trans e))]
   ·have hb:(g==k)=false:=beq_eq_false_iff_ne.mpr h
    simp only [List.lookup,hb]
    exact ih
theorem keys_putF(f:Str)(v:V):∀fs:List (Str × V),f∈(putF f v fs).map (·.1)∧∀g,g∈fs.map (·.1)→g∈(putF f v fs).map (·.1)
 |[]=>⟨by simp [putF],fun g h=>by simp at h⟩
 |(k,x)::r=>by
  obtain⟨i1,i2⟩:=keys_putF f v r
  rw [show putF f v ((k,x)::r)=(if k=f then (k,v)::r else (k,x)::putF f v r) from rfl]
  by_cases hk:k=f
  ·rw [if_pos hk]
   subst hk
   exact⟨by simp,fun g h=>by simpa using h⟩
  ·rw [if_neg hk]
   refine⟨?_,fun g h=>?_⟩
   ·rw [List.map_cons]
    exact List.mem_cons_of_mem _ i1
   ·rw [List.map_cons] at h ⊢
    rcases List.mem_cons.mp h with e|e
    ·exact List.mem_cons.mpr (.inl e)
    ·exact List.mem_cons_of_mem _ (i2 g e)
theorem length_putF(f:Str)(v:V):∀fs:List (Str × V),(putF f v fs).length≤fs.length+1
 |[]=>by simp [putF]
 |(k,x)::r=>by
  have ih:=length_putF f v r
  rw [show putF f v ((k,x)::r)=(if k=f then (k,v)::r else (k,x)::putF f v r) from rfl]
  by_cases hk:k=f
  ·rw [if_pos hk,List.length_cons,List.length_cons];omega
  ·rw [if_neg hk,List.length_cons,List.length_cons];omega
theorem RelO.some_of{v:V}{o:Option Value}(r:RelO (some v) o):∃u,o=some u∧RelV v u:=by
 cases o with
 |none=>exact(show False from r).elim
 |some u=>exact⟨u,rfl,r⟩
theorem RelO.none_of{o:Option Value}(r:RelO none o):o=none:=by
 cases o with
 |none=>rfl
 |some u=>exact(show False from r).elim
theorem handed_of{v:V}{u:Value}(r:RelV v u):PySem.W.handedIn u=true:=by
 cases v with
 |non=>cases (show u=Value.none from r);rfl
 |bl b=>cases (show u=Value.bool b from r);rfl
 |int i=>obtain⟨t,e⟩:=(show ∃t,u=Value.int i t from r);cases e;rfl
 |str x=>obtain⟨t,e⟩:=(show ∃t,u=Value.str x t from r);cases e;rfl
 |byt b=>obtain⟨t,e⟩:=(show ∃t,u=Value.bytes b t from r);cases e;rfl
 |flt b=>obtain⟨t,e⟩:=(show ∃t,u=Value.float b t from r);cases e;rfl
 |ref a=>cases (show u=Value.ref a from r);rfl
 |ty n=>cases (show u=Value.type n from r);rfl
section
variable{P:Program}{w:World}{H H':Hp}{h h':Heap}{a C dx:Addr}{fs fs':List (Str × V)}
theorem ins_get(hok:HOk P w H h)(e:H a=some (.ins C dx fs)):∃mA,ObjM h a dx C mA∧(∀f,RelO (fs.lookup f) (mA f))∧PySem.Within mA (fs.map (·.1))∧fs.length≤1000∧H dx=some (.own a):=by
 obtain⟨d,z,ne,ob,mA,n,r,q⟩:=(show ObjOk P w H h a (.ins C dx fs) from hok a _ e)
 exact⟨mA,⟨ob,n,ne⟩,r,q,z,d⟩
end
structure Cls(K:PySem.W.Frag)(C:Addr):Prop where
 pg:PySem.W.plainGet K C Str.empty=true
 hd:PySem.W.hasDictIn K C=true
 po:PySem.W.plainOver K C=true
 sa:PySem.W.findIn K (.ref C) "__setattr__"=some (some (.builtin "object.__setattr__"))
theorem Cls.get{K:PySem.W.Frag}{C:Addr}(c:Cls K C)(f:Str):PySem.W.plainGet K C f=true:=c.pg
def NoAttr(K:PySem.W.Frag)(C:Addr)(f:Str):Prop:=PySem.W.findIn K (.ref C) f=some none
theorem NoAttr.taker{K:PySem.W.Frag}{C:Addr}{f:Str}(n:NoAttr K C f):PySem.W.takerIn K C f=some none:=by
 unfold PySem.W.takerIn
 rw [show PySem.W.findIn K (.ref C) f=some none from n]
 rfl
structure Con(K:PySem.W.Frag)(C:Addr)(f:Str)(v:V)(u:Value):Prop where
 at_:PySem.W.findIn K (.ref C) f=some (some u)
 rel:RelV v u
 get:PySem.W.specialIn K u "__get__"=some none
 cp:PySem.W.copiedNames.contains f=false
structure Meth(K:PySem.W.Frag)(C:Addr)(m:Str)(f:Addr):Prop where
 at_:PySem.W.findIn K (.ref C) m=some (some (.ref f))
 fn:PySem.W.isFn K (.ref f)=true
 kp:PySem.W.keepIn K (.ref f)=true
section
variable{X:Cx}{pins:List (Addr × Obj)}{σ:St}{H:Hp}{s:Shared}{a C dx:Addr}{fs:List (Str × V)}{f:Str}{v:V}{A:Around}{E:Value→Shared→Prop}
theorem getattr_ok{b:Bool}{Q:Value→Shared→Prop}(I:Inv X pins σ H s)(e:H a=some (.ins C dx fs))(c:Cls X.K C)(n:NoAttr X.K C f)(l:fs.lookup f=some v)
  (h:∀u s',Inv X pins σ H s'→RelV v u→Q u s'):wpAny (model X.prog X.w) A (getAttr (.ref a) f b) Q E s:=by
 obtain⟨mA,O,r,_,_,_⟩:=ins_get I.hok e
 obtain⟨u,hu,ru⟩:=RelO.some_of (v:=v) (o:=mA f) (by rw [←l];exact r f)
 exact get_map I.kIn O (c.get f) c.hd n hu (handed_of ru) (h u _ (I.tok _) ru)
theorem getmeth_ok{m:Str}{g:Addr}{pl:Sem Bool}{Q:Value × List Value→Shared→Prop}(I:Inv X pins σ H s)(e:H a=some (.ins C dx fs))(c:Cls X.K C)(k:Meth X.K C m g)(l:fs.lookup m=none)
  (h:Q (.ref g,[.ref a]) s):wpAny (model X.prog X.w) A (getMethod (.ref a) m pl) Q E s:=by
 obtain⟨mA,O,r,_,_,_⟩:=ins_get I.hok e
 have hn:mA m=none:=RelO.none_of (by rw [←l];exact r m)
 exact get_meth I.kIn O (c.get m) k.at_ k.fn hn h
theorem setattr_ok{y:V}{u:Value}{Q:Unit→Shared→Prop}(I:Inv X pins σ H s)(e:H a=some (.ins C dx fs))(c:Cls X.K C)(n:NoAttr X.K C f)(hl:fs.length < 1000)(ry:RelV y u)
  (h:∀s',Inv X pins σ (upd H a (.ins C dx (putF f y fs))) s'→Q () s'):wpAny (model X.prog X.w) A (setAttr (.ref a) f u) Q E s:=by
 obtain⟨mA,O,r,wi,_,ho⟩:=ins_get I.hok e
 have hz:(fs.map (·.1)).length≤sizeLine:=by rw [List.length_map,sizeLine_eq];omega
 refine set_map I.kIn O c.sa c.po n.taker c.hd wi hz fun h' O' sb=>h _ ?_
 have hd:∃o,h'.get? dx=some o:=let ⟨o,_,_,e',_⟩:=O'.ns;⟨o,e'⟩
 refine I.write (x:=a) (e:=dx) (by rw [e];exact True.intro) (.inr ho) (fun b q hb z=>(sb.2 b hb).trans z) hd ?_
 refine⟨by rw [upd_ne O.ne];exact ho,?_,O.ne,O'.obj,_,O'.ns,fun g=>?_,fun g hg=>?_⟩
 ·have:=length_putF f y fs;omega
 ·show RelO ((putF f y fs).lookup g) (if g=f then some u else mA g)
  rw [lookup_putF]
  by_cases q:g=f
  ·rw [if_pos q,if_pos q];exact ry
  ·rw [if_neg q,if_neg q];exact r g
 ·by_cases q:g=f
  ·rw [q];exact(keys_putF f y fs).1
  ·refine(keys_putF f y fs).2 g (wi g fun z=>hg ?_)
   show(if g=f then some u else mA g)=none
   rw [if_neg q];exact z
theorem Inv.made(I:Inv X pins σ H s):Inv X pins σ (upd (upd H s.heap.objs.size (.own (s.heap.objs.size+1))) (s.heap.objs.size+1) (.ins C s.heap.objs.size []))
  { s with heap:=(s.heap.push PySem.W.emptyDict).push (PySem.W.instObj C s.heap.objs.size) }:=by
 have e1:(s.heap.push PySem.W.emptyDict).get? s.heap.objs.size=some PySem.W.emptyDict:=Heap.get?_push_size s.heap rfl
 have e2:((s.heap.push PySem.W.emptyDict).push (PySem.W.instObj C s.heap.objs.size)).get? (s.heap.objs.size+1)=some (PySem.W.instObj C s.heap.objs.size):=by
  have:=Heap.get?_push_size (s.heap.push PySem.W.emptyDict) (o:=PySem.W.instObj C s.heap.objs.size) rfl
  rwa [Heap.size_push] at this
 have e3:(s.heap.push PySem.W.emptyDict).Ns s.heap.objs.size (fun _=>none):=⟨PySem.W.emptyDict,#[],_,e1,rfl,(fun e he=>absurd he (by simp)),fun _=>rfl⟩
 have I1:=I.laid (a:=s.heap.objs.size) (o:=.own (s.heap.objs.size+1)) (h':=s.heap.push PySem.W.emptyDict) (t':=s.toks) (fun b u q=>Heap.get?_push_of_some _ q) (Nat.le_refl _) ⟨_,e1⟩
 refine I1.laid (a:=s.heap.objs.size+1) (o:=.ins C s.heap.objs.size []) (t':=s.toks) (fun b u q=>Heap.get?_push_of_some _ q) (Nat.le_of_eq (Heap.size_push _ _)) ?_
 have ne:s.heap.objs.size≠s.heap.objs.size+1:=Nat.ne_of_lt (Nat.lt_succ_self _)
 refine⟨by rw [upd_ne ne,upd_same],Nat.zero_le _,ne,e2,fun _=>none,(Heap.Ns1.of_empty e3).at fun o q=>Heap.get?_push_of_some _ q,fun _=>True.intro,fun y hy=>absurd rfl hy⟩
theorem attr_of{prog:Program}{w:World}{env:Env}{e:Expr}{f:Str}{pos:Pos}{s:Shared}{Q:Value→Shared→Prop}(hb:attributeBase e f env (eval e env)=eval e env)
  (h:wpAny (model prog w) A (eval e env) (fun o s₁=>wpAny (model prog w) A (getAttr o f true) Q E s₁) E s):wpAny (model prog w) A (eval (.Attribute e f pos) env) Q E s :=
 Attribute_any_ h (by rw [arm_eval_Attribute,hb])
end
def tFld(K:PySem.W.Frag)(ta:TE)(f:Str):TE:=fun σ H Q=>ta σ H fun x H1=>∃a C dx fs v,x=.ref a∧H1 a=some (.ins C dx fs)∧Cls K C∧NoAttr K C f∧fs.lookup f=some v∧Q v H1
def sFld(K:PySem.W.Frag)(ta tv:TE)(f:Str):TS:=fun D σ H=>tv σ H fun y H1=>ta σ H1 fun x H2=>∃a C dx fs,x=.ref a∧H2 a=some (.ins C dx fs)∧Cls K C∧NoAttr K C f∧fs.length < 1000 ∧
 D.nx σ (upd H2 a (.ins C dx (putF f y fs)))
section
variable{X:Cx}{o e value:Expr}{f:Str}{pos pos' tpos:Pos}{ta tv:TE}
theorem pe_fld(he:PE X e ta)(hb:attributeBase e f X.env (eval e X.env)=eval e X.env):PE X (.Attribute e f pos) (tFld X.K ta f):=by
 intro pins s σ H Q I h
 refine attr_of hb (thn (he pins s σ H _ I h) fun u s1 ⟨x,H1,I1,rx,a,C,dx,fs,v,ex,ea,c,n,l,q⟩=>?_)
 subst ex
 obtain rfl:u=Value.ref a:=rx
 exact getattr_ok I1 ea c n l fun u' s2 I2 ru=>⟨v,H1,I2,ru,q⟩
theorem ps_fld(ha:PE X o ta)(hv:PE X value tv)(hs:swapsWith value (some (.Attribute o f pos')) pos.line X.env=pure false):PS X (.Assign [.Attribute o f pos'] value pos) (sFld X.K ta tv f):=by
 intro pins s σ H D I h
 refine plainObj_wpAny_Assign_Attribute (thn (hv pins s σ H _ I h) fun u s1 ⟨y,H1,I1,ry,q⟩=>thn (ha pins s1 σ H1 _ I1 q) fun ov s2 ⟨x,H2,I2,rx,a,C,dx,fs,ex,ea,c,n,l,q2⟩=>?_) hs
 subst ex
 obtain rfl:ov=Value.ref a:=rx
 exact setattr_ok I2 ea c n l ry fun s3 I3=>⟨σ,_,I3,q2⟩
end
section
variable{X:Cx}{pins:List (Addr × Obj)}{σ:St}{H:Hp}{s:Shared}{A:Around}{E:Value→Shared→Prop}{Q:Value→Shared→Prop}{c:Value}{b:Bool}
inductive TyOf (K:PySem.W.Frag) (H:Hp):V→Value→Prop where
 |non:TyOf K H .non (.type "NoneType")
 |bl (x:Bool):TyOf K H (.bl x) (.type "bool")
 |int (i:Int):TyOf K H (.int i) (.type "int")
 |str (x:Str):TyOf K H (.str x) (.type "str")
 |flt (x:UInt64):TyOf K H (.flt x) (.type "float")
 |lst {a:Addr} {xs:List V} (e:H a=some (.lst xs)):TyOf K H (.ref a) (.type "list")
 |frz {a:Addr} {o:Obj} {xs:List V} (e:H a=some (.frz o (.lst xs))):TyOf K H (.ref a) (.type "list")
 |tup {a:Addr} {xs:List V} (e:H a=some (.tup xs)):TyOf K H (.ref a) (.type "tuple")
 |dK {a:Addr} {kvs:List (Key × V)} (e:H a=some (.dK kvs)):TyOf K H (.ref a) (.type "dict")
 |dT {a:Addr} {kvs:List (List Key × V)} (e:H a=some (.dT kvs)):TyOf K H (.ref a) (.type "dict")
 |ins {a C dx:Addr} {fs:List (Str × V)} (e:H a=some (.ins C dx fs)) (cl:Cls K C) (ha:PySem.W.findIn K (.ref C) "__class__"=some (some (.builtin "object.__class__")))
   (hn:PySem.W.specialIn K (.builtin "object.__class__") "__get__"=some (some (.builtin "getset_descriptor.__get__"))) (htk:PySem.W.takesIn K (.builtin "object.__class__")=some true)
   (hm:PySem.W.mroIn K C (.type "object")=some true):TyOf K H (.ref a) (.ref C)
theorem isinst_ok{x:V}{u t:Value}(I:Inv X pins σ H s)(rx:RelV x u)(ty:TyOf X.K H x t)(e:PySem.W.kitOne X.K t c=some b)(h:∀tk,Q (.bool b) { s with toks:=tk }) :
  wpAny (model X.prog X.w) A (call (.builtin "isinstance") [u,c]) Q E s:=by
 cases ty with
 |non=>cases (show u=Value.none from rx);exact PySem.W.kia_one PySem.W.kitx_none I.kIn True.intro e (fun z=>nomatch z) h
 |bl y=>cases (show u=Value.bool y from rx);exact PySem.W.kia_one PySem.W.kitx_bool I.kIn True.intro e (fun z=>nomatch z) h
 |int i=>obtain⟨t,q⟩:=(show ∃t,u=Value.int i t from rx);cases q;exact PySem.W.kia_one PySem.W.kitx_int I.kIn True.intro e (fun z=>nomatch z) h
 |str y=>obtain⟨t,q⟩:=(show ∃t,u=Value.str y t from rx);cases q;exact PySem.W.kia_one PySem.W.kitx_str I.kIn True.intro e (fun z=>nomatch z) h
 |flt y=>obtain⟨t,q⟩:=(show ∃t,u=Value.float y t from rx);cases q;exact PySem.W.kia_one PySem.W.kitx_float I.kIn True.intro e (fun z=>nomatch z) h
 |@lst a xs ea =>
  cases (show u=Value.ref a from rx)
  obtain⟨_,_,n,_,h1⟩:=(show ObjOk X.prog X.w H s.heap a (.lst xs) from I.hok a _ ea)
  exact PySem.W.kia_one PySem.W.kitx_list I.kIn ⟨_,h1,rfl⟩ e (fun z=>nomatch z) h
 |@frz a ob xs ea =>
  cases (show u=Value.ref a from rx)
  obtain⟨_,_,_,n,_,h1⟩:=(show ObjOk X.prog X.w H s.heap a (.frz ob (.lst xs)) from I.hok a _ ea)
  exact PySem.W.kia_one PySem.W.kitx_list I.kIn ⟨_,h1,rfl⟩ e (fun z=>nomatch z) h
 |@tup a xs ea =>
  cases (show u=Value.ref a from rx)
  obtain⟨_,_,_,p⟩:=(show ObjOk X.prog X.w H s.heap a (.tup xs) from I.hok a _ ea)
  obtain⟨o,h1,h2,_⟩:=p
  exact PySem.W.kia_one PySem.W.kitx_tuple I.kIn ⟨o,h1,h2⟩ e (fun z=>nomatch z) h
 |@dK a kvs ea =>
  cases (show u=Value.ref a from rx)
  obtain⟨_,_,vs,_,p⟩:=(show ObjOk X.prog X.w H s.heap a (.dK kvs) from I.hok a _ ea)
  obtain⟨o,es,ep,h1,h2,_⟩:=p
  exact PySem.W.kia_one PySem.W.kitx_dict I.kIn ⟨o,h1,h2.1⟩ e (fun z=>nomatch z) h
 |@dT a kvs ea =>
  cases (show u=Value.ref a from rx)
  obtain⟨_,_,xs,_,o,es,ep,h1,h2,_⟩:=(show ObjOk X.prog X.w H s.heap a (.dT kvs) from I.hok a _ ea)
  exact PySem.W.kia_one PySem.W.kitx_dict I.kIn ⟨o,h1,h2.1⟩ e (fun z=>nomatch z) h
 |@ins a C dx fs ea cl ha hn htk hm =>
  cases (show u=Value.ref a from rx)
  obtain⟨mA,O,_⟩:=ins_get I.hok ea
  obtain⟨od,J,_⟩:=O.look
  exact PySem.W.kia_one (PySem.W.kitx_own (cl.get _) cl.hd ha hn htk hm) I.kIn J e (fun z=>nomatch z) h
end
end L2
namespace L2
open PySem PySem.Spec PyProof.Rows
structure Room(k:Nat)(A:Around):Prop where
 hd:A.handled=none
 dp:A.depth+3*k+5 < recursionLimit
 un:A.units+16*k+200 < cLine
 gd:A.guards=some []
theorem Room.mono{j k:Nat}{A:Around}(r:Room k A)(h:j≤k):Room j A:=⟨r.hd,by have:=r.dp;omega,by have:=r.un;omega,r.gd⟩
theorem Room.deeper{k:Nat}{A:Around}(r:Room (k+1) A)(env:Env):Room k (A.deeper env) :=
 ⟨r.hd,by have:=r.dp;show A.depth+1+3*k+5 < _;omega,by have:=r.un;show A.units+3+16*k+200 < _;omega,r.gd⟩
theorem make_depth{A:Around}{C:Addr}{us:List Value}{kw:List (Str × Value)}:(A.under (.builtin "type.__call__" ⟨.ref C::us,kw⟩)).depth=A.depth+1:=by
 first|rfl|simp [Around.under,Code.weight,Code.isCreation,Code.isGuard,Code.isCaller,Code.frames,Code.isFrame,guardIds]
theorem make_units{A:Around}{C:Addr}{us:List Value}{kw:List (Str × Value)}:(A.under (.builtin "type.__call__" ⟨.ref C::us,kw⟩)).units=A.units+1:=by
 first|rfl|simp [Around.under,Code.cUnits,Code.frames,Code.isFrame]
theorem make_guards{A:Around}{C:Addr}{us:List Value}{kw:List (Str × Value)}:(A.under (.builtin "type.__call__" ⟨.ref C::us,kw⟩)).guards=A.guards:=by
 first|rfl|simp [Around.under,Code.guards,Code.isGuard,guardIds,pushGuards]
theorem Room.make{k:Nat}{A:Around}(r:Room (k+1) A)(C:Addr)(us:List Value)(kw:List (Str × Value)):Room k (A.under (.builtin "type.__call__" ⟨.ref C::us,kw⟩)) :=
 ⟨r.hd,by have:=r.dp;rw [make_depth];omega,by have:=r.un;rw [make_units];omega,make_guards.trans r.gd⟩
theorem Room.depth{k:Nat}{A:Around}(r:Room k A):A.depth < recursionLimit:=by have:=r.dp;omega
theorem Room.units{k:Nat}{A:Around}(r:Room k A):A.units+64 < cLine:=by have:=r.un;omega
def tNil:TA:=fun _ H Q=>Q [] H
def tCons(ta:TE)(tr:TA):TA:=fun σ H Q=>ta σ H fun x H1=>tr σ H1 fun xs H2=>Q (x::xs) H2
section
variable{X:Cx}{e:Expr}{es:List Expr}{te:TE}{t:TA}{pos:Pos}
theorem pa_nil:PA X [] tNil:=fun _ _ _ _ H Q I h=>Calls.spliced_nil ⟨[],H,I,.nil,h⟩
theorem pa_cons(ha:PE X e te)(hr:PA X es t)(hs:starEach (e::es) X.env=(false,eval e X.env)::starEach es X.env:=by rfl):PA X (e::es) (tCons te t):=by
 intro pos pins s σ H Q I h
 rw [hs]
 show wpAny _ _ (spliced ((false,eval e X.env)::backTo pos (starEach es X.env))) _ _ s
 refine Calls.spliced_cons (thn (ha pins s σ H _ I h) fun u s1 ⟨x,H1,I1,r1,q1⟩=>?_)
 exact thn (hr pos pins s1 σ H1 _ I1 q1) fun us s2 ⟨xs,H2,I2,r2,q2⟩=>⟨x::xs,H2,I2,.cons r1 r2,q2⟩
def tTup(t:TA):TE:=fun σ H Q=>t σ H fun xs H1=>xs.length≤sizeLine∧∀p,H1 p=none→Q (.ref p) (upd H1 p (.tup xs))
def tLst(t:TA):TE:=fun σ H Q=>t σ H fun xs H1=>xs.length≤sizeLine∧∀p,H1 p=none→Q (.ref p) (upd H1 p (.lst xs))
theorem pe_tup{x1}(h:PA X es t):PE X (.Tuple es x1 pos) (tTup t):=by
 intro pins s σ H Q I hq
 refine wpAny_Tuple_spliced (thn (h pos pins s σ H _ I hq) fun us s1 ⟨xs,H1,I1,r,z,q⟩=>⟨by rw [←r.length];exact z,?_⟩)
 have hf:H1 s1.heap.objs.size=none:=I1.hok.fresh (Nat.le_refl _)
 refine⟨.ref s1.heap.objs.size,upd H1 s1.heap.objs.size (.tup xs),I1.laid (t':=s1.toks) (fun b u e=>Heap.get?_push_of_some _ e) (Nat.le_refl _) ?_,rfl,q _ hf⟩
 exact⟨z,us,r,⟨_,Heap.get?_push_size _ rfl,rfl,_,rfl⟩⟩
theorem pe_lst(h:PA X es t):PE X (.List es pos) (tLst t):=by
 intro pins s σ H Q I hq
 refine wpAny_List_spliced (thn (h pos pins s σ H _ I hq) fun us s1 ⟨xs,H1,I1,r,z,q⟩=>⟨by rw [←r.length];exact z,?_⟩)
 have hf:H1 s1.heap.objs.size=none:=I1.hok.fresh (Nat.le_refl _)
 refine⟨.ref s1.heap.objs.size,upd H1 s1.heap.objs.size (.lst xs),I1.laid (t':=s1.toks) (fun b u e=>Heap.get?_push_of_some _ e) (Nat.le_refl _) ?_,rfl,q _ hf⟩
 exact⟨z,us,0,r,Heap.get?_push_size _ rfl⟩
end
abbrev Sp:=List V→Hp→VK→XK→Prop
abbrev CXT:=List Env→Hp→Shared→XK→Value→Shared→Prop
structure Env0(P:Program)(w:World)(K:PySem.W.Frag)(mg:Str→Option Value)(base:Heap)(A:Around)(outer:List Env)(s:Shared)(H:Hp):Prop where
 frames:A.frames=some outer
 mod:Mod K mg base
 bs:∀b o,base.get? b=some o→s.heap.get? b=some o∧H b=none
 bsz:base.objs.size≤s.heap.objs.size
 funs:s.heap.FunFrames base outer
 frf:∀b∈frs outer,H b=none
 hok:HOk P w H s.heap
 bare:AllBare s.gens
def CE(outer:List Env)(P:Program)(w:World)(H:Hp)(s:Shared)(Q:VK)(u:Value)(s':Shared):Prop :=
 ∃v H',s'.os=s.os∧AllBare s'.gens∧Un (frs outer) [] H H' s.heap s'.heap∧HOk P w H' s'.heap∧RelV v u∧Q v H'
def CR(CX:CXT)(outer:List Env)(P:Program)(w:World)(H:Hp)(s:Shared)(Q:VK)(E:XK)(r:Result)(s':Shared):Prop :=
 match r with
 |.ok (.ret u)=>CE outer P w H s Q u s'
 |.ok _=>False
 |.error e=>CX outer H s E e s'
structure FnOk(P:Program)(w:World)(K:PySem.W.Frag)(mg:Str→Option Value)(base:Heap)(CX:CXT)(k:Nat)(f:Addr)(fd:FuncData)(ps:List Str)(sp:Sp):Prop where
 len:∀vs H Q E,sp vs H Q E→vs.length=ps.length
 run:∀(A:Around) (outer:List Env) (s:Shared) (H:Hp) (args:Args) (us:List Value) (vs:List V) (Q:VK) (E:XK),Room k A→Env0 P w K mg base A outer s H→BindsTo s fd args (ps.zip us)→Vals vs us→sp vs H Q E →
  codeAny (model P w) A (.call (.ref f) args) (CR CX outer P w H s Q E) s
theorem Env0.make{P:Program}{w:World}{K:PySem.W.Frag}{mg:Str→Option Value}{base:Heap}{A:Around}{outer:List Env}{s:Shared}{H:Hp}(e:Env0 P w K mg base A outer s H)(C:Addr)(us:List Value)(kw:List (Str × Value)) :
  Env0 P w K mg base (A.under (.builtin "type.__call__" ⟨.ref C::us,kw⟩)) outer s H:=⟨by first|exact e.frames|(simpa [Around.under,Code.envs,Code.isFrame,pushEnvs] using e.frames),e.mod,e.bs,e.bsz,e.funs,e.frf,e.hok,e.bare⟩
section
variable{X:Cx}{pins:List (Addr × Obj)}{σ:St}{H:Hp}{s s':Shared}
theorem Inv.env0(I:Inv X pins σ H s):Env0 X.prog X.w X.K X.mg X.base X.A X.stack s H :=
 ⟨I.ok.frames,I.ok.mod,I.bs,Nat.le_trans I.ok.bsz I.sz,I.stack,I.stkFree,I.hok,I.bare⟩
theorem Inv.after{Q:VK}{u:Value}(I:Inv X pins σ H s)(h:CE X.stack X.prog X.w H s Q u s'):EP X pins σ Q u s':=by
 obtain⟨v,H',os,bare,un,hok,r,q⟩:=h
 obtain⟨hh,g,d,t,os'⟩:=s'
 obtain rfl:os'=s.os:=os
 exact⟨v,H',I.call (h':=hh) (g':=g) (d':=d) (t':=t) (ch:=[]) un hok bare (fun b z=>absurd z (by simp)),r,q⟩
end
def tCall(sp:Sp)(dvs:List V)(E:XK)(t:TA):TE:=fun σ H Q=>t σ H fun vs H1=>sp (vs++dvs) H1 Q E
def tMeth(C:Addr)(m:Str)(sp:Sp)(dvs:List V)(E:XK)(ta:TE)(t:TA):TE:=fun σ H Q=>ta σ H fun x H1=>∃a dx fs,x=.ref a∧H1 a=some (.ins C dx fs)∧fs.lookup m=none ∧
 t σ H1 fun vs H2=>sp (x::(vs++dvs)) H2 Q E
def tMake(C:Addr)(sp:Sp)(dvs:List V)(E:XK)(t:TA):TE:=fun σ H Q=>t σ H fun vs H1=>∀x dx,H1 x=none→H1 dx=none→dx≠x →
 sp (.ref x::(vs++dvs)) (upd (upd H1 dx (.own x)) x (.ins C dx [])) (fun v H2=>v=.non∧Q (.ref x) H2) E
def Binds(K:PySem.W.Frag)(fd:FuncData)(ps:List Str)(ds:List Value):Prop :=
 ∀(s:Shared) (us:List Value),K.In s.heap→(us++ds).length=ps.length→BindsTo s fd ⟨us,[]⟩ (ps.zip (us++ds))
theorem Binds.all{K:PySem.W.Frag}{fd:FuncData}{ps:List Str}(h:∀us:List Value,us.length=ps.length→bindArgs fd ⟨us,[]⟩=pure (ps.zip us)):Binds K fd ps []:=fun s us _ hl=>by
 rw [List.append_nil] at hl ⊢
 exact .of_eq (h us hl)
def Passes(CX:CXT)(X:Cx)(E:XK):Prop:=∀(pins:List (Addr × Obj)) (σ:St) (H:Hp) (s:Shared) (e:Value) (s':Shared),Inv X pins σ H s→CX X.stack H s E e s'→X.xe e s'
section
variable{X:Cx}{CX:CXT}{k:Nat}{f C:Addr}{fd:FuncData}{ps:List Str}{sp:Sp}{dvs:List V}{ds:List Value}{E:XK}{x m:Str}{p pos apos:Pos}{e o:Expr}{es:List Expr}{ta:TE}{t:TA}
theorem run_fn{pins:List (Addr × Obj)}{σ:St}{H:Hp}{s:Shared}{Q:VK}{us:List Value}{vs:List V}(F:FnOk X.prog X.w X.K X.mg X.base CX k f fd ps sp)(hr:Room k X.A)(hb:Binds X.K fd ps ds)(hd:Vals dvs ds)(hx:Passes CX X E)
  (I:Inv X pins σ H s) (r:Vals vs us) (h:sp (vs++dvs) H Q E):wpAny (model X.prog X.w) X.A (call (.ref f) us) (EP X pins σ Q) X.xe s:=by
 have r2:Vals (vs++dvs) (us++ds):=r.append hd
 have hl:(us++ds).length=ps.length:=by rw [←r2.length];exact F.len _ _ _ _ h
 refine wpAny_call (codeAny_mono (F.run X.A X.stack s H ⟨us,[]⟩ (us++ds) (vs++dvs) Q E hr I.env0 (hb s us I.kIn hl) r2 h) fun r s' hq=>?_)
 cases r with
 |error e=>exact hx pins σ H s e s' I hq
 |ok fl =>
  cases fl with
  |ret u=>exact I.after hq
  |next=>exact False.elim hq
  |brk=>exact False.elim hq
  |cont=>exact False.elim hq
theorem pe_call(F:FnOk X.prog X.w X.K X.mg X.base CX k f fd ps sp)(hr:Room k X.A)(hg:Gl X x)(hm:X.mg x=some (.ref f))(hk:PySem.W.keepIn X.K (.ref f)=true)(hb:Binds X.K fd ps ds)(hd:Vals dvs ds)(hx:Passes CX X E)
  (ha:PA X (e::es) t) (hdb:(x==("__debug__":Str))=false:=by decide) (he:starEach (e::es) X.env=(false,eval e X.env)::starEach es X.env:=by rfl) (hpl:(backTo pos (starEach es X.env)).any (·.1)=false:=by rfl) :
  PE X (.Call (.Name x p) (e::es) [] pos) (tCall sp dvs E t):=by
 intro pins s σ H Q I h
 refine wpAny_Call_Name_kw (ld_glob I hg hm ?_ hdb)
 refine PySem.W.callWith_K (h₀:=X.base) I.ok.mod.kin hk (thn (ha pos pins s σ H _ I h) fun us s1 ⟨vs,H1,I1,r,q⟩=>⟨I1.kIn,?_⟩) he hpl
 exact run_fn F hr hb hd hx I1 r q
theorem pe_meth{pl:Sem Bool}(he:PE X o ta)(c:Cls X.K C)(hm:Meth X.K C m f)(F:FnOk X.prog X.w X.K X.mg X.base CX k f fd ps sp)(hr:Room k X.A)(hb:Binds X.K fd ps ds)(hd:Vals dvs ds)(hx:Passes CX X E)(ha:PA X (e::es) t)
  (hst:starEach (e::es) X.env=(false,eval e X.env)::starEach es X.env:=by rfl) (hpl:(backTo pos (starEach es X.env)).any (·.1)=false:=by rfl)
  (ht:eval (.Call (.Attribute o m apos) (e::es) [] pos) X.env=(do
   let ov ←eval o X.env
   standAt apos.atName
   let (f,first) ←holding [ov] (getMethod ov m pl)
   callWith pos f first (backTo pos (starEach (e::es) X.env)) (backToKw pos (keywordEach [] X.env))):=by rfl) :
  PE X (.Call (.Attribute o m apos) (e::es) [] pos) (tMeth C m sp dvs E ta t):=by
 intro pins s σ H Q I h
 refine PySem.W.methodCall_KW (pl:=pl) (thn (he pins s σ H _ I h) fun u s1 ⟨x,H1,I1,rx,a,dx,fs,ex,ea,l,q⟩=>?_) ht
 subst ex
 obtain rfl:u=Value.ref a:=rx
 refine getmeth_ok I1 ea c hm l ?_
 refine PySem.W.callWith_K (first:=[.ref a]) (h₀:=X.base) I.ok.mod.kin hm.kp (thn (ha pos pins s1 σ H1 _ I1 q) fun us s2 ⟨vs,H2,I2,r,q2⟩=>⟨I2.kIn,?_⟩) hst hpl
 exact run_fn (us:=.ref a::us) (vs:=.ref a::vs) F hr hb hd hx I2 (.cons rfl r) q2
theorem pe_meth0{pl:Sem Bool}(he:PE X o ta)(c:Cls X.K C)(hm:Meth X.K C m f)(F:FnOk X.prog X.w X.K X.mg X.base CX k f fd ps sp)(hr:Room k X.A)(hb:Binds X.K fd ps ds)(hd:Vals dvs ds)(hx:Passes CX X E)
  (ht:eval (.Call (.Attribute o m apos) [] [] pos) X.env=(do
   let ov ←eval o X.env
   standAt apos.atName
   let (f,first) ←holding [ov] (getMethod ov m pl)
   callWith pos f first (backTo pos (starEach [] X.env)) (backToKw pos (keywordEach [] X.env))):=by rfl) :
  PE X (.Call (.Attribute o m apos) [] [] pos) (tMeth C m sp dvs E ta tNil):=by
 intro pins s σ H Q I h
 refine PySem.W.methodCall_KW (pl:=pl) (thn (he pins s σ H _ I h) fun u s1 ⟨x,H1,I1,rx,a,dx,fs,ex,ea,l,q⟩=>?_) ht
 subst ex
 obtain rfl:u=Value.ref a:=rx
 refine getmeth_ok I1 ea c hm l ?_
 exact PySem.W.callWith_K0 (first:=[.ref a]) I1.kIn hm.kp (run_fn (us:=[.ref a]) (vs:=[.ref a]) F hr hb hd hx I1 (.cons rfl .nil) q)
structure Mk(K:PySem.W.Frag)(C f:Addr):Prop where
 makes:PySem.W.makesIn K C=true
 init:PySem.W.findIn K (.ref C) "__init__"=some (some (.ref f))
 fn:PySem.W.isFn K (.ref f)=true
 kp:PySem.W.keepIn K (.ref C)=true
theorem run_make{pins:List (Addr × Obj)}{σ:St}{H:Hp}{s:Shared}{Q:VK}{us:List Value}{vs:List V}(M:Mk X.K C f)(F:FnOk X.prog X.w X.K X.mg X.base CX k f fd ps sp)(hr:Room (k+1) X.A)(hb:Binds X.K fd ps ds)(hd:Vals dvs ds)
  (hx:Passes CX X E) (I:Inv X pins σ H s) (r:Vals vs us)
  (h:∀x dx,H x=none→H dx=none→dx≠x→sp (.ref x::(vs++dvs)) (upd (upd H dx (.own x)) x (.ins C dx [])) (fun v H2=>v=.non∧Q (.ref x) H2) E) :
  wpAny (model X.prog X.w) X.A (call (.ref C) us) (EP X pins σ Q) X.xe s:=by
 have hq:=h (s.heap.objs.size+1) s.heap.objs.size (I.hok.fresh (Nat.le_succ _)) (I.hok.fresh (Nat.le_refl _)) (Nat.ne_of_lt (Nat.lt_succ_self _))
 have I2:=Inv.made (C:=C) I
 have r2:Vals (V.ref (s.heap.objs.size+1)::(vs++dvs)) (Value.ref (s.heap.objs.size+1)::(us++ds)):=.cons rfl (r.append hd)
 have hl:(Value.ref (s.heap.objs.size+1)::us++ds).length=ps.length:=by
  have e:=r2.length
  rw [F.len _ _ _ _ hq] at e
  exact e.symm
 refine wpAny_call (make_map (f:=f) I.kIn M.makes M.init (beq_iff_eq.mp M.fn) (codeAny_mono (F.run _ X.stack _ _ ⟨Value.ref (s.heap.objs.size+1)::us,[]⟩ (Value.ref (s.heap.objs.size+1)::(us++ds)) _ _ E (hr.make C us [])
  (I2.env0.make C us []) (hb _ (Value.ref (s.heap.objs.size+1)::us) I2.kIn hl) r2 hq) fun r s' hq'=>?_))
 cases r with
 |error e=>exact hx pins σ _ _ e s' I2 hq'
 |ok fl =>
  cases fl with
  |ret u =>
   obtain⟨v,H',I3,rv,ev,q3⟩:=I2.after hq'
   subst ev
   exact⟨rv,⟨V.ref (s.heap.objs.size+1),H',I3,rfl,q3⟩⟩
  |next=>exact False.elim hq'
  |brk=>exact False.elim hq'
  |cont=>exact False.elim hq'
theorem pe_make(M:Mk X.K C f)(F:FnOk X.prog X.w X.K X.mg X.base CX k f fd ps sp)(hr:Room (k+1) X.A)(hg:Gl X x)(hm:X.mg x=some (.ref C))(hb:Binds X.K fd ps ds)(hd:Vals dvs ds)(hx:Passes CX X E)
  (ha:PA X (e::es) t) (hdb:(x==("__debug__":Str))=false:=by decide) (he:starEach (e::es) X.env=(false,eval e X.env)::starEach es X.env:=by rfl) (hpl:(backTo pos (starEach es X.env)).any (·.1)=false:=by rfl) :
  PE X (.Call (.Name x p) (e::es) [] pos) (tMake C sp dvs E t):=by
 intro pins s σ H Q I h
 refine wpAny_Call_Name_kw (ld_glob I hg hm ?_ hdb)
 refine PySem.W.callWith_K (h₀:=X.base) I.ok.mod.kin M.kp (thn (ha pos pins s σ H _ I h) fun us s1 ⟨vs,H1,I1,r,q⟩=>⟨I1.kIn,?_⟩) he hpl
 exact run_make M F hr hb hd hx I1 r q
end
section
variable{X:Cx}{CX:CXT}{k:Nat}{f C:Addr}{fd:FuncData}{ps ks:List Str}{sp:Sp}{E:XK}{x m:Str}{p pos apos kpos:Pos}{e o:Expr}{es:List Expr}{kws:List Keyword}{te ta:TE}{t tk:TA}{nm:Option Str}
structure KBinds(K:PySem.W.Frag)(fd:FuncData)(ps ks:List Str)(g:List Value→List Value→List Value)(gV:List V→List V→List V):Prop where
 to:∀(s:Shared) (us ws:List Value),K.In s.heap→(g us ws).length=ps.length→BindsTo s fd ⟨us,ks.zip ws⟩ (ps.zip (g us ws))
 rel:∀{vs:List V} {us:List Value} {zs:List V} {ws:List Value},Vals vs us→Vals zs ws→Vals (gV vs zs) (g us ws)
variable{g:List Value→List Value→List Value}{gV:List V→List V→List V}
end
structure FnScope(N P:List Str)(sc:Scope):Prop where
 kind:sc.kind=.function
 co:sc.isCoroutine=false
 gen:sc.isGenerator=false
 nd:N.Nodup
 pre:N.take P.length=P
 par:∀x∈P,sc.names.lookup x=some .local∨sc.names.lookup x=some .cell
 nofree:∀y∈sc.names,y.2≠.free
theorem bindL_out{kindOf:Str→Option NameKind}{x:Str}:∀{binds:List (Str × Value)} {m:Str→Option Value},(∀v,(x,v)∉binds)→bindL kindOf binds m x=m x
 |[],_,_=>rfl
 |(n,v)::r,m,h=>by
  unfold bindL
  rw [bindL_out fun w hw=>h w (List.mem_cons_of_mem _ hw)]
  split
  ·have:x≠n:=by rintro rfl;exact h v List.mem_cons_self
   simp [this]
  ·rfl
theorem bindC_out{kindOf:Str→Option NameKind}{x:Str}:∀{binds:List (Str × Value)} {m:Str→Option Value},(∀v,(x,v)∉binds)→bindC kindOf binds m x=m x
 |[],_,_=>rfl
 |(n,v)::r,m,h=>by
  unfold bindC
  rw [bindC_out fun w hw=>h w (List.mem_cons_of_mem _ hw)]
  split
  ·rfl
  ·have:x≠n:=by rintro rfl;exact h v List.mem_cons_self
   simp [this]
theorem bindL_get{kindOf:Str→Option NameKind}{x:Str}{v:Value}:∀{P:List Str} {vs:List Value} {i:Nat} {m:Str→Option Value},P.Nodup→P[i]?=some x→vs[i]?=some v→kindOf x=some .local →
  bindL kindOf (P.zip vs) m x=some v
 |[],_,_,_,_,h,_,_=>by simp at h
 |_::_,[],_,_,_,_,h,_=>by simp at h
 |p::P,w::vs,0,m,nd,h1,h2,hk=>by
  simp at h1 h2;subst h1;subst h2
  show bindL kindOf ((p,w)::P.zip vs) m p=_
  unfold bindL
  rw [bindL_out fun v hv=>(List.nodup_cons.mp nd).1 (List.of_mem_zip hv).1,if_pos hk]
  simp
 |p::P,w::vs,i+1,m,nd,h1,h2,hk=>by
  show bindL kindOf ((p,w)::P.zip vs) m x=_
  unfold bindL
  exact bindL_get (i:=i) (List.nodup_cons.mp nd).2 (by simpa using h1) (by simpa using h2) hk
theorem bindC_get{kindOf:Str→Option NameKind}{x:Str}{v:Value}:∀{P:List Str} {vs:List Value} {i:Nat} {m:Str→Option Value},P.Nodup→P[i]?=some x→vs[i]?=some v→kindOf x≠some .local →
  bindC kindOf (P.zip vs) m x=some v
 |[],_,_,_,_,h,_,_=>by simp at h
 |_::_,[],_,_,_,_,h,_=>by simp at h
 |p::P,w::vs,0,m,nd,h1,h2,hk=>by
  simp at h1 h2;subst h1;subst h2
  show bindC kindOf ((p,w)::P.zip vs) m p=_
  unfold bindC
  rw [bindC_out fun v hv=>(List.nodup_cons.mp nd).1 (List.of_mem_zip hv).1,if_neg hk]
  simp
 |p::P,w::vs,i+1,m,nd,h1,h2,hk=>by
  show bindC kindOf ((p,w)::P.zip vs) m x=_
  unfold bindC
  exact bindC_get (i:=i) (List.nodup_cons.mp nd).2 (by simpa using h1) (by simpa using h2) hk
def start(N:List Str)(vs:List V):St:=vs.map some++List.replicate (N.length - vs.length) none
def cxOf(CX:CXT)(P:Program)(w:World)(K:PySem.W.Frag)(mg:Str→Option Value)(base:Heap)(N:List Str)(qual:Str)(scope:Scope)(f:Addr)(cd:Value)(A:Around)(outer:List Env)(s:Shared)(H:Hp)(E:XK):Cx where
 prog:=P
 w:=w
 K:=K
 mg:=mg
 base:=base
 A:=A.deeper (envOfC qual scope s.heap.objs.size f cd)
 N:=N
 s₀:=s
 H₀:=H
 env:=envOfC qual scope s.heap.objs.size f cd
 outer:=outer
 stack:=envOfC qual scope s.heap.objs.size f cd::outer
 ex:=[]
 calm:=true
 fn:=fun _=>true
 pn:=[]
 xe:=fun e s'=>wpAny (model P w) (A.deeper (envOfC qual scope s.heap.objs.size f cd)) (leaving (envOfC qual scope s.heap.objs.size f cd) e) (fun _ s''=>CX outer H s E e s'') (fun e' s''=>CX outer H s E e' s'') s'
theorem cell_has{sc:Scope}{n:Nat}{x:Str}(h:sc.names.lookup x=some .cell):∃c,(cellsFrom n sc.names []).lookup x=some c:=by
 have q:=PySem.W.cellsFrom_some sc.names n [] (.inl h)
 exact Option.isSome_iff_exists.mp q
theorem inv_start{CX:CXT}{P:Program}{w:World}{K:PySem.W.Frag}{mg:Str→Option Value}{base:Heap}{N ps:List Str}{qual:Str}{scope:Scope}{f:Addr}{cd:Value}{A:Around}{outer:List Env}{s s1:Shared}{H:Hp}{E:XK}{us:List Value}{vs:List V}
  (S:FnScope N ps scope) (hd:A.handled=none) (e0:Env0 P w K mg base A outer s H) (hl:vs.length=ps.length) (r:Vals vs us)
  (x:InCallC s s.heap.objs.size (bindL (envOfC qual scope s.heap.objs.size f cd).kindOf (ps.zip us) fun _=>none) (cellsFrom (s.heap.objs.size+1) scope.names []) (bindC (envOfC qual scope s.heap.objs.size f cd).kindOf (ps.zip us) fun _=>none) s1) :
  Inv (cxOf CX P w K mg base N qual scope f cd A outer s H E) [] (start N vs) H s1:=by
 have hpl:ps.length≤N.length:=by have:=congrArg List.length S.pre;rw [List.length_take] at this;omega
 obtain⟨h1,tk,rfl,hk⟩:=x.done
 have noA:∀b:Addr,b∉(cxOf CX P w K mg base N qual scope f cd A outer s H E).ex:=fun b z=>absurd (show b∈([]:List Addr) from z) (by simp)
 refine⟨⟨e0.mod,S.kind,rfl,rfl,Nat.le_refl _,fun y z c h1 h2=>?_,fun y hy=>?_,fun y c _ h=>?_,fun _=>hd,Around.frames_deeper e0.frames,.inr ⟨rfl,rfl⟩,fun b z=>absurd z (noA b),e0.bs,e0.bsz,fun b _ _=>noA b,fun b z=>absurd z (noA b),e0.funs,e0.frf⟩,
  rfl,e0.bare,Un.kept hk,⟨_,x.toInCall.ns,fun i y v h1 h2 h3=>?_⟩,fun y c h=>⟨_,x.cell y c h⟩,e0.hok.fresh (Nat.le_refl _),fun y c h=>?_,fun p hp=>absurd (show p∈([]:List (Addr × Obj)) from hp) (by simp),e0.hok.kept hk,?_⟩
 ·exact name_of_addr x.apart (PySem.mem_of_lookup h1) (PySem.mem_of_lookup h2)
 ·have hy:scope.names.lookup y=some .cell∨scope.names.lookup y=some .free:=hy
  rcases hy with hy|hy
  ·exact cell_has hy
  ·exact absurd rfl (S.nofree _ (PySem.mem_of_lookup hy))
 ·exact Nat.le_of_lt (x.above y c (PySem.mem_of_lookup h))
 ·have hi:i < vs.length:=by
   unfold start at h2
   by_cases hi:i < vs.length
   ·exact hi
   ·rw [List.getElem?_append_right (by simpa using hi)] at h2
    rw [List.getElem?_replicate] at h2
    split at h2<;>cases h2
  have ha:vs[i]?=some v:=by
   unfold start at h2
   rw [List.getElem?_append_left (by simpa using hi),List.getElem?_map] at h2
   cases e:vs[i]? with
   |none=>rw [e] at h2;cases h2
   |some a=>rw [e] at h2;cases h2;rfl
  obtain⟨u,hu,rv⟩:=r.get ha
  have hp:ps[i]?=some y:=by
   rw [←S.pre,List.getElem?_take_of_lt (by omega)];exact h1
  have ndP:ps.Nodup:=by rw [←S.pre];exact S.nd.sublist (List.take_sublist _ _)
  refine⟨u,rv,?_⟩
  rcases S.par y (List.mem_of_getElem? hp) with k|k
  ·exact .inl ⟨k,bindL_get ndP hp hu k⟩
  ·obtain⟨c,e⟩:=cell_has (n:=s.heap.objs.size+1) k
   refine .inr ⟨.inl k,c,e,?_⟩
   have q:=x.cell y c e
   rw [bindC_get ndP hp hu (by show scope.names.lookup y≠_;rw [k];decide)] at q
   exact q
 ·exact e0.hok.fresh (Nat.le_of_lt (x.above y c (PySem.mem_of_lookup h)))
 ·unfold start
  show _=N.length
  rw [List.length_append,List.length_map,List.length_replicate]
  omega
theorem fn_of{CX:CXT}{P:Program}{w:World}{K:PySem.W.Frag}{mg:Str→Option Value}{base:Heap}{k:Nat}{f:Addr}{name qual:Str}{params:Arguments}{body:List Stmt}{scope:Scope}{dV kV doc pm cdv ct oc:Value}{an od:Option Addr}
  {osl:Array (Option Value)} {N ps:List Str} {sp:Sp} (lk:K.lookup f=some ⟨oc,od,.func (PySem.W.fnOf name qual params body scope dV kV doc pm an cdv ct),osl⟩) (hcd:PySem.W.codeIn K cdv qual=true) (S:FnScope N ps scope)
  (len:∀vs H Q E,sp vs H Q E→vs.length=ps.length)
  (hbody:∀(A:Around) (outer:List Env) (s:Shared) (H:Hp) (vs:List V) (Q:VK) (E:XK),Room k (A.deeper (envOfC qual scope s.heap.objs.size f cdv))→sp vs H Q E →
   ∃t,PSs (cxOf CX P w K mg base N qual scope f cdv A outer s H E) body t∧t { nx:=fun _ H'=>Q .non H',rt:=Q } (start N vs) H) :
  FnOk P w K mg base CX (k+1) f (PySem.W.fnOf name qual params body scope dV kV doc pm an cdv ct) ps sp:=by
 refine⟨len,fun A outer s H args us vs Q E hr e0 hb r hsp=>?_⟩
 have hl:=len _ _ _ _ hsp
 have KX:K.In s.heap:=e0.mod.kin.keeps fun b o e=>(e0.bs b o e).1
 have lim:s.heap.NoLimit:=e0.mod.nolimit.keeps fun b o e=>(e0.bs b o e).1
 have hkind:∀y∈ps.zip us,scope.names.lookup y.1=some .local∨(scope.names.lookup y.1=some .cell∧((cellsFrom (s.heap.objs.size+1) scope.names []).lookup y.1).isSome=true):=fun⟨n,v⟩ hy=>by
  rcases S.par n (List.of_mem_zip hy).1 with q|q
  ·exact .inl q
  ·exact .inr ⟨q,PySem.W.cellsFrom_some _ _ _ (.inl q)⟩
 refine codeAny_call_function hr.depth (KX _ _ lk) rfl S.co S.gen rfl (PySem.W.codeRec_of KX hcd) (hb _ _ _ _ ?_)
 refine wpAny_newFunctionEnv_cells S.kind hkind fun env he s1 x=>?_
 subst he
 refine⟨lim.keeps x.toInCall.keep,codeAny_func ?_⟩
 obtain⟨t,ht,hq⟩:=hbody A outer s H vs Q E (hr.deeper _) hsp
 have I:Inv (cxOf CX P w K mg base N qual scope f cdv A outer s H E) [] (start N vs) H s1:=inv_start S hr.hd e0 hl r x
 refine wpAny_mono (ht [] s1 (start N vs) H _ I hq) (fun fl s' hs=>?_) fun e s' hs=>hs
 have fin:∀{σ':St} {H':Hp} {v:V} {u:Value},Inv (cxOf CX P w K mg base N qual scope f cdv A outer s H E) [] σ' H' s'→RelV v u→Q v H'→CE outer P w H s Q u s' :=
  fun {σ' H' v u} J rv q=>⟨v,H',J.os,J.bare,J.base,J.hok,rv,q⟩
 cases fl with
 |ret u =>
  obtain⟨v,σ',H',J,rv,q⟩:=hs
  exact fin J rv q
 |next =>
  obtain⟨σ',H',J,q⟩:=hs
  exact fin (v:=V.non) (u:=Value.none) J rfl q
 |brk =>
  obtain⟨_,_,_,q⟩:=hs
  exact False.elim q
 |cont =>
  obtain⟨_,_,_,q⟩:=hs
  exact False.elim q
end L2
namespace L2
open PySem PySem.Spec PyProof.Rows
section
variable{X:Cx}{x:Str}{p pos:Pos}{e:Expr}{es:List Expr}{t:TA}{id T:String}{r:List V→Hp→VK→Prop}
def tCB(r:List V→Hp→VK→Prop)(t:TA):TE:=fun σ H Q=>t σ H fun vs H1=>r vs H1 Q
theorem pe_callB(hc:CallR X (.builtin id) r)(hg:Gl X x)(hm:X.mg x=none)(hv:bootBuiltins x=some (.builtin id))(ha:PA X (e::es) t) (hn:x≠"__name__":=by decide) (hdb:(x==("__debug__":Str))=false:=by decide)
  (he:starEach (e::es) X.env=(false,eval e X.env)::starEach es X.env:=by rfl) (hpl:(backTo pos (starEach es X.env)).any (·.1)=false:=by rfl):PE X (.Call (.Name x p) (e::es) [] pos) (tCB r t):=by
 intro pins s σ H Q I h
 refine wpAny_Call_Name_kw (ld_blt I hg hm hv ?_ hn hdb)
 exact PyProof.Rows.callWith_builtin1 (thn (ha pos pins s σ H _ I h) fun us s1 ⟨vs,H1,I1,r1,q1⟩=>hc pins s1 σ H1 vs us Q I1 r1 q1) he hpl
theorem pe_callTy(hc:CallR X (.type T) r)(hg:Gl X x)(hm:X.mg x=none)(hv:bootBuiltins x=some (.type T))(ha:PA X (e::es) t) (hn:x≠"__name__":=by decide) (hdb:(x==("__debug__":Str))=false:=by decide)
  (he:starEach (e::es) X.env=(false,eval e X.env)::starEach es X.env:=by rfl) (hpl:(backTo pos (starEach es X.env)).any (·.1)=false:=by rfl):PE X (.Call (.Name x p) (e::es) [] pos) (tCB r t):=by
 intro pins s σ H Q I h
 refine wpAny_Call_Name_kw (ld_blt I hg hm hv ?_ hn hdb)
 exact PyProof.Rows.callWith_type1 (thn (ha pos pins s σ H _ I h) fun us s1 ⟨vs,H1,I1,r1,q1⟩=>hc pins s1 σ H1 vs us Q I1 r1 q1) he hpl
end
end L2
namespace HT
open PySem PyProof.Rows
section
open PySem.SeqAt
open PySem.AutoSeq1 (wpAny_loadPart')
open PySem.MeetsSeq PySem.MeetsSeq2 PySem.MeetsSeq3
end
section
variable{prog:Program}{w:World}{A:Around}{E:Value→Shared→Prop}{s:Shared}
theorem cat_tup{t b:Addr}{vs ws:List Value}{Q:Value→Shared→Prop}(ht:IsTup s.heap t vs.toArray)(hb:IsTup s.heap b ws.toArray)(hv:vs≠[])
  (h1:ws=[]→Q (.ref t) s) (h2:ws≠[]→Q (.ref s.heap.objs.size) { s with heap:=s.heap.push { cls:=.type "tuple",data:=.seq (vs++ws).toArray } })
  (hsz:vs.length+ws.length≤sizeLine):wpAny (model prog w) A (binaryOp .Add (.ref t) (.ref b)) Q E s:=by
 obtain⟨⟨cls,dd,data,sl⟩,ho,hc,n,hd⟩:=id ht
 obtain⟨⟨cls2,dd2,data2,sl2⟩,ho2,hc2,n2,hd2⟩:=id hb
 simp only at hc hd hc2 hd2
 subst hc hd hc2 hd2
 have e:vs.toArray++ws.toArray=(vs++ws).toArray:=by simp
 by_cases hw:ws=[]
 ·exact concat_meets ⟨_,ho,rfl⟩ ⟨_,ho2,rfl⟩ noFill_tuple_add seq_tuple_add PySem.F.slot_tuple_add PySem.F.entry_tuple_add (PySem.F.args_tuple_add_2 _ _)
   (tuple_addW1 t b vs.toArray ws.toArray n n2 dd dd2 sl sl2 (by simpa using hv) (by simp [hw])) ⟨ho,ho2,h1 hw⟩
 ·refine concat_meets ⟨_,ho,rfl⟩ ⟨_,ho2,rfl⟩ noFill_tuple_add seq_tuple_add PySem.F.slot_tuple_add PySem.F.entry_tuple_add (PySem.F.args_tuple_add_2 _ _)
   (tuple_addW2 t b vs.toArray ws.toArray n n2 dd dd2 sl sl2 (by simpa using hv) (by simpa using hw) (by rw [List.size_toArray,List.size_toArray];exact hsz)) ⟨ho,ho2,?_⟩
  rw [e]
  exact h2 hw
def sIx(n d:Nat):Option Int→Nat
 |none=>d
 |some v=>if v < 0 then (v+(n:Int)).toNat else min v.toNat n
theorem sIx_none(n d:Nat):sIx n d none=d:=rfl
theorem sIx_nat(n d k:Nat):sIx n d (some (k:Int))=min k n:=by
 show(if (k:Int) < 0 then ((k:Int)+(n:Int)).toNat else min (k:Int).toNat n)=min k n
 rw [if_neg (by omega),Int.toNat_natCast]
end
end HT
namespace L2
open PySem PySem.Spec PyProof.Rows
abbrev TO:=St→Hp→(Option Int→Hp→Prop)→Prop
def PO(X:Cx)(e:Option Expr)(t:TO):Prop :=
 ∀(pins:List (Addr × Obj)) (s:Shared) (σ:St) (H:Hp) (Q:Option Int→Hp→Prop),Inv X pins σ H s→t σ H Q →
  wpAny (model X.prog X.w) X.A (evalPart e X.env) (fun u s'=>∃o H',Inv X pins σ H' s'∧IsPart u o∧Q o H') X.xe s
def tNoPart:TO:=fun _ H Q=>Q none H
def tPart(t:TE):TO:=fun σ H Q=>t σ H fun x H1=>∃i,x=.int i∧Q (some i) H1
section
variable{X:Cx}{e:Expr}{te:TE}{lo hi:Option Expr}{tl th:TO}{pos p2:Pos}
theorem po_none:PO X none tNoPart:=by
 intro pins s σ H Q I h
 rw [evalPart_none]
 exact wpAny_pure ⟨none,H,I,.none,h⟩
theorem po_some(h:PE X e te):PO X (some e) (tPart te):=by
 intro pins s σ H Q I hw
 rw [evalPart_some]
 refine thn (h pins s σ H _ I hw) fun u s1 ⟨x,H1,I1,r1,q1⟩=>?_
 obtain⟨i,rfl,q⟩:=q1
 obtain⟨t,rfl⟩:=r1
 exact⟨some i,H1,I1,.int i t,q⟩
def SlR(X:Cx)(r:V→Option Int→Option Int→Hp→VK→Prop):Prop :=
 ∀(pins:List (Addr × Obj)) (s:Shared) (σ:St) (H:Hp) (x:V) (v vl vu:Value) (lo hi:Option Int) (sl:Addr) (Q:VK),Inv X pins σ H s→RelV x v→s.heap.IsSliceOf sl vl vu .none→IsPart vl lo→IsPart vu hi→r x lo hi H Q →
  ∃T id,typeLookup (.type T) "__getitem__"=pure (some (.builtin id))∧s.TypeIs v T∧wpAny (model X.prog X.w) X.A (getItem v (.ref sl)) (EP X pins σ Q) X.xe s
def tSl(r:V→Option Int→Option Int→Hp→VK→Prop)(te:TE)(tl th:TO):TE:=fun σ H Q=>te σ H fun x H1=>tl σ H1 fun l H2=>th σ H2 fun u H3=>r x l u H3 Q
theorem pe_slice{r:V→Option Int→Option Int→Hp→VK→Prop}(hr:SlR X r)(he:PE X e te)(hl:PO X lo tl)(hu:PO X hi th):PE X (.Subscript e (.Slice lo hi none p2) pos) (tSl r te tl th):=by
 intro pins s σ H Q I h
 refine Subscript_ (thn (he pins s σ H _ I h) fun v s1 ⟨x,H1,I1,r1,q1⟩=>?_)
 refine wpAny_Slice (thn (hl pins s1 σ H1 _ I1 q1) fun vl s2 ⟨l,H2,I2,pl,q2⟩=>thn (hu pins s2 σ H2 _ I2 q2) fun vu s3 ⟨u,H3,I3,pu,q3⟩=>?_)
 rw [evalPart_none]
 refine wpAny_pure ?_
 have I4:Inv X pins σ H3 { s3 with heap:=s3.heap.push { cls:=.type "slice",data:=.fields #[vl,vu,.none] } }:=I3.kept (t':=s3.toks) fun b ob q=>Heap.get?_push_of_some _ q
 obtain⟨T,id,hT,ht,hg⟩:=hr pins { s3 with heap:=s3.heap.push { cls:=.type "slice",data:=.fields #[vl,vu,.none] } } σ H3 x v vl vu l u s3.heap.objs.size Q I4 r1 (Heap.IsSliceOf.new ..) pl pu q3
 show wpAny (model X.prog X.w) X.A (subscriptTail e (.Slice lo hi none p2) v (.ref s3.heap.objs.size)) (EP X pins σ Q) X.xe { s3 with heap:=s3.heap.push { cls:=.type "slice",data:=.fields #[vl,vu,.none] } }
 exact tail_any (ops:=[.ref s3.heap.objs.size,v]) ht hT hg (by with_unfolding_all rfl)
def cutV(xs:List V)(lo hi:Option Int):List V:=(xs.drop (HT.sIx xs.length 0 lo)).take (HT.sIx xs.length xs.length hi - HT.sIx xs.length 0 lo)
theorem cutV_length(xs:List V)(lo hi:Option Int):(cutV xs lo hi).length≤xs.length:=by
 unfold cutV
 rw [List.length_take,List.length_drop]
 omega
def rCatT(K:PySem.W.Frag):R2:=fun x y H Q=>∃a b xs ys,x=.ref a∧y=.ref b∧SqT K H a xs∧SqT K H b ys∧xs≠[]∧xs.length+ys.length≤sizeLine ∧
 (ys=[]→Q (.ref a) H)∧(ys≠[]→∀p,H p=none→Q (.ref p) (upd H p (.tup (xs++ys))))
theorem Vals.nil_iff{xs:List V}{us:List Value}(r:Vals xs us):us=[]↔xs=[]:=by
 cases r with
 |nil=>simp
 |cons _ _=>simp
theorem op_catT:OpR X (binaryOp .Add) (rCatT X.K):=by
 intro pins s σ H x y v u Q I rx ry h
 obtain⟨a,b,xs,ys,rfl,rfl,ha,hb,hx,hz,q1,q2⟩:=h
 cases rx
 cases ry
 obtain⟨its,r1,p1,_⟩:=I.tuple ha
 obtain⟨its2,r2,p2,_⟩:=I.tuple hb
 refine HT.cat_tup p1 p2 (fun z=>hx (r1.nil_iff.mp z)) (fun z=>⟨.ref a,H,I,rfl,q1 (r2.nil_iff.mp z)⟩) (fun z=>?_) (by rw [←r1.length,←r2.length];exact hz)
 refine⟨.ref s.heap.objs.size,_,I.laid (t':=s.toks) (o:=.tup (xs++ys)) (fun b ob q=>Heap.get?_push_of_some _ q) (Nat.le_refl _) ?_,rfl,q2 (fun w=>z (r2.nil_iff.mpr w)) _ (I.hok.fresh (Nat.le_refl _))⟩
 exact⟨by rw [List.length_append];exact hz,_,r1.append r2,IsTup.new _ _⟩
end
end L2
namespace L2
open PySem PySem.Spec PyProof.Rows
def ixN(n:Nat)(i:Int):Option Nat:=if 0≤i then (if i < n then some i.toNat else none) else if -(n:Int)≤i then some (i+n).toNat else none
def atI{α:Type}(xs:List α)(i:Int):Option α:=(ixN xs.length i).bind fun j=>xs[j]?
theorem ixN_seq{n:Nat}{i:Int}{j:Nat}(h:ixN n i=some j):seqIndex? i n=some j∧j < n∧-(n:Int)≤i∧i < n:=by
 unfold ixN at h
 by_cases h0:0≤i
 ·rw [if_pos h0] at h
  by_cases h1:i < n
  ·rw [if_pos h1] at h
   have e:i.toNat=j:=Option.some.inj h
   exact⟨by rw [seqIndex_of h0 h1,e],by omega,by omega,h1⟩
  ·rw [if_neg h1] at h;cases h
 ·rw [if_neg h0] at h
  by_cases h1:-(n:Int)≤i
  ·rw [if_pos h1] at h
   have e:(i+n).toNat=j:=Option.some.inj h
   exact⟨by rw [seqIndex_neg (by omega) h1,e],by omega,h1,by omega⟩
  ·rw [if_neg h1] at h;cases h
theorem atI_get{α:Type}{xs:List α}{i:Int}{v:α}(h:atI xs i=some v):∃j,seqIndex? i xs.length=some j∧xs[j]?=some v∧j < xs.length∧-(xs.length:Int)≤i∧i < xs.length:=by
 unfold atI at h
 cases e:ixN xs.length i with
 |none=>rw [e] at h;cases h
 |some j =>
  rw [e] at h
  obtain⟨h1,h2,h3,h4⟩:=ixN_seq e
  exact⟨j,h1,h,h2,h3,h4⟩
theorem atI_nat{α:Type}{xs:List α}{j:Nat}{v:α}(h:xs[j]?=some v):atI xs (j:Int)=some v:=by
 have hj:j < xs.length:=(List.getElem?_eq_some_iff.mp h).1
 have e:ixN xs.length (j:Int)=some j:=by
  unfold ixN
  rw [if_pos (by omega),if_pos (by omega)];simp
 unfold atI;rw [e];exact h
def PlainIx(b:Expr):Prop:=∀o i,subscripted b false o i=operate [o,i] (getItem o i)
def IxR(X:Cx)(r:R2):Prop :=
 ∀(value slice:Expr) (pins:List (Addr × Obj)) (s:Shared) (σ:St) (H:Hp) (x y:V) (v u:Value) (Q:VK),Inv X pins σ H s→RelV x v→RelV y u→r x y H Q →
  subscripted slice false v u=operate [v,u] (getItem v u)→wpAny (model X.prog X.w) X.A (subscriptTail value slice v u) (EP X pins σ Q) X.xe s
def MtR(X:Cx)(id:String)(r:V→List V→Hp→VK→Prop):Prop :=
 ∀(pins:List (Addr × Obj)) (s:Shared) (σ:St) (H:Hp) (x:V) (xs:List V) (v:Value) (us:List Value) (Q:VK),Inv X pins σ H s→RelV x v→Vals xs us→r x xs H Q →
  wpAny (model X.prog X.w) X.A (call (.builtin id) (v::us)) (EP X pins σ Q) X.xe s
section
variable{X:Cx}{a b:Expr}{ta tb:TE}{pos:Pos}
theorem pe_ix{r:R2}(hr:IxR X r)(ha:PE X a ta)(hb:PE X b tb)(hs:PlainIx b):PE X (.Subscript a b pos) (tOp r ta tb):=by
 intro pins s σ H Q I h
 exact Subscript_ (binT ha hb I h fun v u s2 x y H2 I2 rx ry q=>hr a b pins s2 σ H2 x y v u Q I2 rx ry q (hs _ _))
def rIxL(K:PySem.W.Frag):R2:=fun x y H Q=>∃p xs i v,x=.ref p∧y=.int i∧SqL K H p xs∧atI xs i=some v∧Q v H
def rIxT(K:PySem.W.Frag):R2:=fun x y H Q=>∃p xs i v,x=.ref p∧y=.int i∧SqT K H p xs∧atI xs i=some v∧Q v H
def rIxS:R2:=fun x y H Q=>∃z i c,x=.str z∧y=.int i∧z.length≤sizeLine∧atI z.cps.toList i=some c∧Q (.str ⟨#[c]⟩) H
theorem ix_list:IxR X (rIxL X.K):=by
 intro value slice pins s σ H x y v u Q I rx ry h hs
 obtain⟨p,xs,i,z,rfl,rfl,hq,he,q⟩:=h
 cases rx
 obtain⟨t,rfl⟩:=ry
 obtain⟨its,r,pl,hz⟩:=I.list hq
 obtain⟨j,h1,h2,h3,h4,h5⟩:=atI_get he
 obtain⟨w,ew,rw'⟩:=r.get h2
 have hl:=r.length
 have hn:=line63
 have fin:EP X pins σ Q w s:=⟨z,H,I,rw',q⟩
 by_cases h0:0≤i
 ·have hj:i.toNat=j:=by
   rw [seqIndex_of h0 h5] at h1
   exact Option.some.inj h1
  exact item_listR pl.isList h0 (by omega) (by rw [hj];simpa using ew) fin hs
 ·have hj:(i+(its.toArray.size:Int)).toNat=j:=by
   rw [seqIndex_neg (by omega) h4] at h1
   rw [List.size_toArray,←hl]
   exact Option.some.inj h1
  exact subscriptTail_builtinR (x:=w) pl.isList.typeIs slot_list_getitem.lookup
   (wpAny_getItem_list_neg (Q:=fun r s'=>r=w∧EP X pins σ Q r s') pl.isList (by omega) (by rw [List.size_toArray]<;>omega) (by omega) (by rw [hj];simpa using ew) ⟨rfl,fin⟩) hs
theorem ix_tup:IxR X (rIxT X.K):=by
 intro value slice pins s σ H x y v u Q I rx ry h hs
 obtain⟨p,xs,i,z,rfl,rfl,hq,he,q⟩:=h
 cases rx
 obtain⟨t,rfl⟩:=ry
 obtain⟨its,r,pl,hz⟩:=I.tuple hq
 obtain⟨j,h1,h2,h3,h4,h5⟩:=atI_get he
 obtain⟨w,ew,rw'⟩:=r.get h2
 have hl:=r.length
 have hn:=line63
 have fin:EP X pins σ Q w s:=⟨z,H,I,rw',q⟩
 exact subscriptTail_builtinR (x:=w) pl.typeIs slot_tuple_getitem.lookup
  (getItem_tuple (j:=j) (Q:=fun r s'=>r=w∧EP X pins σ Q r s') pl (by omega) (by omega) (by rw [List.size_toArray,←hl];exact h1) (by simpa using ew) ⟨rfl,fin⟩) hs
theorem ix_str:IxR X rIxS:=by
 intro value slice pins s σ H x y v u Q I rx ry h hs
 obtain⟨z,i,c,rfl,rfl,hz,he,q⟩:=h
 obtain⟨t,rfl⟩:=rx
 obtain⟨t',rfl⟩:=ry
 obtain⟨j,h1,h2,h3,h4,h5⟩:=atI_get he
 have hl:z.cps.toList.length=z.length:=by simp [Str.length]
 rw [hl] at h1 h4 h5
 have hn:=line63
 exact tail_any (typeIs_str s z t) slot_str_getitem.lookup (getItem_str (c:=c) (by
  have e1:decide (i < -(2 ^ 63:Int))=false:=decide_eq_false (by omega)
  have e2:decide (i≥2 ^ 63)=false:=decide_eq_false (by omega)
  rw [e1,e2,Bool.or_false]) (by rw [h1];simpa using h2) ⟨.str ⟨#[c]⟩,H,I.tok _,⟨_,rfl⟩,q⟩) hs
theorem slice_bounds(lo hi:Option Int)(n:Nat):(sliceBounds lo hi none n).1=((HT.sIx n 0 lo:Nat):Int)∧(sliceBounds lo hi none n).2.1=((HT.sIx n n hi:Nat):Int)∧(sliceBounds lo hi none n).2.2=1:=by
 refine⟨?_,?_,rfl⟩
 ·cases lo with
  |none=>simp [sliceBounds,HT.sIx]
  |some i =>
   simp only [sliceBounds,HT.sIx,Option.getD_none,show(1:Int) > 0 by decide,if_true]
   by_cases h:i < 0
   ·simp only [h,if_true]<;>omega
   ·simp only [h,if_false]<;>omega
 ·cases hi with
  |none=>simp [sliceBounds,HT.sIx]
  |some i =>
   simp only [sliceBounds,HT.sIx,Option.getD_none,show(1:Int) > 0 by decide,if_true]
   by_cases h:i < 0
   ·simp only [h,if_true]<;>omega
   ·simp only [h,if_false]<;>omega
theorem slicePick_cut(its:List Value)(lo hi:Option Int):slicePick its.toArray lo hi none=((its.drop (HT.sIx its.length 0 lo)).take (HT.sIx its.length its.length hi - HT.sIx its.length 0 lo)).toArray:=by
 obtain⟨h1,h2,h3⟩:=slice_bounds lo hi its.toArray.size
 unfold slicePick
 rw [h1,h2,h3]
 simp only [sliceRange_one,pick_run,List.size_toArray]<;>rfl
def rSlL(K:PySem.W.Frag):V→Option Int→Option Int→Hp→VK→Prop:=fun x lo hi H Q=>∃a xs,x=.ref a∧SqL K H a xs∧∀p,H p=none→Q (.ref p) (upd H p (.lst (cutV xs lo hi)))
theorem sl_list:SlR X (rSlL X.K):=by
 intro pins s σ H x v vl vu lo hi sl Q I rx hs pl pu h
 obtain⟨a,xs,rfl,hx,q⟩:=h
 cases rx
 obtain⟨its,r,ht,hz⟩:=I.list hx
 have hlen:=r.length
 refine⟨"list",_,slot_list_getitem.lookup,ht.isList.typeIs,?_⟩
 refine wpAny_getItem_list_slice ht.isList hs pl pu .none (by simp) ?_ (by rw [List.size_toArray]<;>omega)
 rw [slicePick_cut,←hlen]
 refine⟨.ref s.heap.objs.size,_,I.laid (t':=s.toks) (o:=.lst (cutV xs lo hi)) (fun b ob q=>Heap.get?_push_of_some _ q) (Nat.le_refl _) ?_,rfl,q _ (I.hok.fresh (Nat.le_refl _))⟩
 exact⟨Nat.le_trans (cutV_length xs lo hi) hz,_,0,(r.drop (HT.sIx xs.length 0 lo)).take (HT.sIx xs.length xs.length hi - HT.sIx xs.length 0 lo),Heap.get?_push_size _ rfl⟩
def flatV:V→Bool
 |.non=>true
 |.bl _=>true
 |.int _=>true
 |.str _=>true
 |_=>false
def eqV:V→V→Bool
 |.non,.non=>true
 |.bl a,.bl b=>a==b
 |.bl a,.int b=>(if a then 1 else 0)==b
 |.int a,.bl b=>a==(if b then 1 else 0)
 |.int a,.int b=>a==b
 |.str a,.str b=>a==b
 |_,_=>false
theorem eqAt_V{A:Around}{s:Shared}{y x:V}{u v:Value}(ry:RelV y u)(rx:RelV x v)(fy:flatV y=true)(fx:flatV x=true):SeqAt.EqAt A s u v (eqV y x):=by
 cases y with
 |non =>
  cases ry
  cases x with
  |non=>cases rx;exact SeqAt.EqAt.same _
  |bl b=>cases rx;exact SeqAt.EqAt.none_bool b
  |int b=>obtain⟨t,rfl⟩:=rx;exact SeqAt.EqAt.none_int b t
  |str b=>obtain⟨t,rfl⟩:=rx;exact SeqAt.EqAt.none_str b t
  |_=>exact absurd (show false=true from fx) Bool.false_ne_true
 |bl a =>
  cases ry
  cases x with
  |non=>cases rx;exact SeqAt.EqAt.bool_none a
  |bl b=>cases rx;exact SeqAt.EqAt.bool_bool a b
  |int b=>obtain⟨t,rfl⟩:=rx;exact SeqAt.EqAt.bool_int a b t
  |str b=>obtain⟨t,rfl⟩:=rx;exact SeqAt.EqAt.bool_str a b t
  |_=>exact absurd (show false=true from fx) Bool.false_ne_true
 |int a =>
  obtain⟨t',rfl⟩:=ry
  cases x with
  |non=>cases rx;exact SeqAt.EqAt.int_none a t'
  |bl b=>cases rx;exact SeqAt.EqAt.int_bool a t' b
  |int b=>obtain⟨t,rfl⟩:=rx;exact SeqAt.EqAt.int_int a t' b t
  |str b=>obtain⟨t,rfl⟩:=rx;exact SeqAt.EqAt.int_str a t' b t
  |_=>exact absurd (show false=true from fx) Bool.false_ne_true
 |str a =>
  obtain⟨t',rfl⟩:=ry
  cases x with
  |non=>cases rx;exact SeqAt.EqAt.str_none a t'
  |bl b=>cases rx;exact SeqAt.EqAt.str_bool a t' b
  |int b=>obtain⟨t,rfl⟩:=rx;exact SeqAt.EqAt.str_int a t' b t
  |str b=>obtain⟨t,rfl⟩:=rx;exact SeqAt.EqAt.str_str a t' b t
  |_=>exact absurd (show false=true from fx) Bool.false_ne_true
 |_=>exact absurd (show false=true from fy) Bool.false_ne_true
def eqU(x:V)(u:Value):Bool:=match u with
 |.none=>eqV .non x
 |.bool b=>eqV (.bl b) x
 |.int i _=>eqV (.int i) x
 |.str z _=>eqV (.str z) x
 |_=>false
theorem eqU_of{x y:V}{u:Value}(r:RelV y u)(f:flatV y=true):eqU x u=eqV y x:=by
 cases y with
 |non=>cases r;rfl
 |bl b=>cases r;rfl
 |int i=>obtain⟨t,rfl⟩:=r;rfl
 |str z=>obtain⟨t,rfl⟩:=r;rfl
 |_=>exact absurd (show false=true from f) Bool.false_ne_true
theorem any_eqU{x:V}:∀{xs:List V} {us:List Value},Vals xs us→xs.all flatV=true→us.any (eqU x)=xs.any fun y=>eqV y x
 |_,_,.nil,_=>rfl
 |y::xs,u::us,.cons r t,f=>by
  rw [List.all_cons,Bool.and_eq_true] at f
  rw [List.any_cons,List.any_cons,eqU_of r f.1,any_eqU t f.2]
theorem mem_eqAt{A:Around}{s:Shared}{x:V}{v:Value}(rx:RelV x v)(fx:flatV x=true):∀{xs:List V} {us:List Value},Vals xs us→xs.all flatV=true→∀u∈us,SeqAt.EqAt A s u v (eqU x u)
 |_,_,.nil,_=>fun u hu=>by cases hu
 |y::xs,u::us,.cons r t,f=>fun u' hu=>by
  rw [List.all_cons,Bool.and_eq_true] at f
  rcases List.mem_cons.mp hu with rfl|hu
  ·rw [eqU_of r f.1];exact eqAt_V r rx f.1 fx
  ·exact mem_eqAt rx fx t f.2 u' hu
def inV(x:V)(xs:List V):Bool:=xs.any fun y=>eqV y x
def rIn(K:PySem.W.Frag)(neg:Bool):R2:=fun x y H Q=>∃p xs,y=.ref p∧(SqL K H p xs∨SqT K H p xs)∧flatV x=true∧xs.all flatV=true∧Q (.bl (if neg then !inV x xs else inV x xs)) H
theorem op_notIn_seq:OpR X (compareOp .NotIn) (rIn X.K true):=by
 intro pins s σ H x y v u Q I rx ry h
 obtain⟨p,xs,rfl,hq,fx,fs,q⟩:=h
 cases ry
 rcases hq with hq|hq
 ·obtain⟨its,r,pl,hz⟩:=I.list hq
  refine SeqAt.notIn_listAt (eqU x) pl.isList (fun w hw=>mem_eqAt rx fx r fs w (by simpa using hw)) ⟨.bl _,H,I,rfl,?_⟩
  rw [show its.toArray.any (eqU x)=its.any (eqU x) by simp,any_eqU r fs]
  exact q
 ·obtain⟨its,r,pl,hz⟩:=I.tuple hq
  refine SeqAt.notIn_tupleAt (eqU x) pl (fun w hw=>mem_eqAt rx fx r fs w (by simpa using hw)) ⟨.bl _,H,I,rfl,?_⟩
  rw [show its.toArray.any (eqU x)=its.any (eqU x) by simp,any_eqU r fs]
  exact q
theorem call_len_seq:CallR X (.builtin "len") (fun xs H Q=>∃p ys,xs=[.ref p]∧(SqL X.K H p ys∨SqT X.K H p ys)∧Q (.int ys.length) H):=by
 intro pins s σ H xs us Q I r h
 obtain⟨p,ys,rfl,hq,q⟩:=h
 obtain⟨u,rfl,rx⟩:=vals1 r
 cases rx
 have hn:=line63
 rcases hq with hq|hq
 ·obtain⟨its,r',pl,hz⟩:=I.list hq
  have hlen:=r'.length
  exact Calls.call_len_list pl.isList (by simp only [List.size_toArray]<;>omega) ⟨.int ys.length,H,I.tok _,⟨s.toks+1,by rw [List.size_toArray,hlen]⟩,q⟩
 ·obtain⟨its,r',pl,hz⟩:=I.tuple hq
  have hlen:=r'.length
  exact len_tuple pl (by simp only [List.size_toArray]<;>omega) ⟨.int ys.length,H,I.tok _,⟨s.toks+1,by rw [List.size_toArray,hlen]⟩,q⟩
theorem call_tuple_of:CallR X (.type "tuple") (fun xs H Q=>∃p ys,xs=[.ref p]∧((SqL X.K H p ys∧∀l,H l=none→Q (.ref l) (upd H l (.tup ys)))∨(SqT X.K H p ys∧Q (.ref p) H))):=by
 intro pins s σ H xs us Q I r h
 obtain⟨p,ys,rfl,h⟩:=h
 obtain⟨u,rfl,rx⟩:=vals1 r
 cases rx
 rcases h with ⟨hq,q⟩|⟨hq,q⟩
 ·obtain⟨its,r',pl,hz⟩:=I.list hq
  have hlen:=r'.length
  refine call_tuple_list pl.isList (fun h' kp=>?_) (by simp only [List.size_toArray]<;>omega)
  have I1:Inv X pins σ H { s with heap:=h' }:=I.kept (t':=s.toks) kp
  have I2:Inv X pins σ (upd H h'.objs.size (.tup ys)) { s with heap:=h'.push { cls:=.type "tuple",data:=.seq its.toArray } } :=
   I1.laid (t':=s.toks) (fun b o e=>Heap.get?_push_of_some _ e) (Nat.le_refl _) (show ObjOk X.prog X.w _ _ _ (.tup ys) from⟨hz,its,r',IsTup.new _ _⟩)
  exact⟨.ref h'.objs.size,_,I2,rfl,q _ (I1.hok.fresh (Nat.le_refl _))⟩
 ·obtain⟨its,r',pl,hz⟩:=I.tuple hq
  exact call_tuple_same pl ⟨.ref p,H,I,rfl,q⟩
def tyV(K:PySem.W.Frag)(T:String)(x:V)(H:Hp):Prop:=match x with
 |.str _=>T="str"
 |.int _=>T="int"
 |.ref p=>(T="list"∧∃xs,SqL K H p xs)∨(T="tuple"∧∃o,K.lookup p=some o∧o.cls=.type "tuple"∧o.dict=none) ∨
   (T="dict"∧((∃kvs,H p=some (.dK kvs))∨∃kvs,H p=some (.dT kvs)))∨(T="set"∧∃S n,H p=some (.set S n))
 |_=>False
theorem tyV_is{pins:List (Addr × Obj)}{σ:St}{H:Hp}{s:Shared}{T:String}{x:V}{v:Value}(I:Inv X pins σ H s)(r:RelV x v)(ty:tyV X.K T x H) :
  s.TypeIs v T∧∀a,v=.ref a→∃ob,s.heap.get? a=some ob∧ob.dict=none:=by
 cases x with
 |str z =>
  obtain⟨t,rfl⟩:=r
  cases (show T="str" from ty)
  exact⟨typeIs_str s z t,fun _ e=>nomatch e⟩
 |int i =>
  obtain⟨t,rfl⟩:=r
  cases (show T="int" from ty)
  exact⟨typeIs_int s i t,fun _ e=>nomatch e⟩
 |ref p =>
  cases r
  rcases ty with ⟨rfl,xs,hq⟩|⟨rfl,o,hk,hc,hd⟩|⟨rfl,hk⟩|⟨rfl,S,n,hk⟩
  ·obtain⟨its,_,pl,_⟩:=I.list hq
   refine⟨pl.isList.typeIs,fun a e=>?_⟩
   cases e
   obtain⟨o,n,e,c,hd,_⟩:=pl
   exact⟨o,e,hd⟩
  ·refine⟨⟨o,I.kIn p o hk,hc⟩,fun a e=>?_⟩
   cases e
   exact⟨o,I.kIn _ o hk,hd⟩
  ·have z:∃o,s.heap.get? p=some o∧o.ExactDict:=by
    rcases hk with ⟨kvs,hk⟩|⟨kvs,hk⟩
    ·obtain⟨_,_,_,_,o,_,_,e,ex,_⟩:=I.hok p _ hk
     exact⟨o,e,ex⟩
    ·obtain⟨_,_,_,_,o,_,_,e,ex,_⟩:=I.hok p _ hk
     exact⟨o,e,ex⟩
   obtain⟨o,e,ex⟩:=z
   refine⟨⟨o,e,ex.1⟩,fun a e2=>?_⟩
   cases e2
   exact⟨o,e,ex.2.1⟩
  ·obtain⟨o,_,_,_,e,ex,_⟩:=I.hok p _ hk
   refine⟨⟨o,e,ex.1⟩,fun a e2=>?_⟩
   cases e2
   exact⟨o,e,ex.2.1⟩
 |_=>exact False.elim ty
def tBM0(K:PySem.W.Frag)(T:String)(r:V→List V→Hp→VK→Prop)(to:TE):TE:=fun σ H Q=>to σ H fun x H1=>tyV K T x H1∧r x [] H1 Q
def tBM(K:PySem.W.Frag)(T:String)(r:V→List V→Hp→VK→Prop)(to:TE)(t:TA):TE:=fun σ H Q=>to σ H fun x H1=>tyV K T x H1∧t σ H1 fun xs H2=>r x xs H2 Q
variable{o e:Expr}{es:List Expr}{to:TE}{t:TA}{name:Str}{apos cpos:Pos}{T id:String}{r:V→List V→Hp→VK→Prop}
theorem pe_bm0(pa:PlainAttrs T)(slot:Slot T name id) (hty:typeOf (.builtin id)=pure (.type "method_descriptor")) (hm:MtR X id r) (ho:PE X o to)
  (hbase:attributeBase o name X.env (eval o X.env)=eval o X.env:=by rfl) (hline:(apos.endLine==cpos.line)=true:=by rfl):PE X (.Call (.Attribute o name apos) [] [] cpos) (tBM0 X.K T r to):=by
 intro pins s σ H Q I h
 refine wpAny_Call_method0_late hbase hline (thn (ho pins s σ H _ I h) fun v s1 ⟨x,H1,I1,r1,ty,q1⟩=>?_)
 obtain⟨h1,h2⟩:=tyV_is I1 r1 ty
 exact⟨T,id,pa,slot,hty,h1,h2,Calls.callWith_builtin rfl (PySem.evalArgs_none (hm pins s1 σ H1 x [] v [] Q I1 r1 .nil q1))⟩
theorem pe_bm(pa:PlainAttrs T)(slot:Slot T name id) (hty:typeOf (.builtin id)=pure (.type "method_descriptor")) (hm:MtR X id r) (ho:PE X o to) (ha:PA X (e::es) t)
  (hbase:attributeBase o name X.env (eval o X.env)=eval o X.env:=by rfl)
  (hfew:((backTo cpos (starEach (e::es) X.env)).all (fun x=>!x.1)&&(backToKw cpos (keywordEach [] X.env)).all (fun x=>x.1.isSome)
   && decide ((e::es).length+([]:List Keyword).length+(if ([]:List Keyword).isEmpty then 0 else 1) < 30))=true:=by rfl)
  (hline:(apos.endLine==cpos.line)=true:=by rfl) (hs:starEach (e::es) X.env=(false,eval e X.env)::starEach es X.env:=by rfl) (hplain:(backTo cpos (starEach es X.env)).any (·.1)=false:=by rfl) :
  PE X (.Call (.Attribute o name apos) (e::es) [] cpos) (tBM X.K T r to t):=by
 intro pins s σ H Q I h
 refine wpAny_Call_method_late hbase hfew hline rfl (thn (ho pins s σ H _ I h) fun v s1 ⟨x,H1,I1,r1,ty,q1⟩=>?_)
 obtain⟨h1,h2⟩:=tyV_is I1 r1 ty
 refine⟨T,id,pa,slot,hty,h1,h2,?_⟩
 have hA:=ha cpos pins s1 σ H1 _ I1 q1
 rw [hs] at hA ⊢
 refine Calls.callWith_builtin (by show(false||(backTo cpos (starEach es X.env)).any (·.1))=false;rw [hplain]<;>rfl) (Calls.evalArgs_plain ?_)
 exact thn hA fun us s2 ⟨vs,H2,I2,r2,q2⟩=>hm pins s2 σ H2 x vs v us Q I2 r1 r2 q2
/- xs.append(e),list.index on a module's tuple .. are MtR facts of 06m -/
end
end L2
namespace L2
open PySem PySem.Spec PyProof.Rows
def MtM(X:Cx)(id:String)(r:V→List V→Hp→VK→Prop):Prop :=
 ∀(pins:List (Addr × Obj)) (s:Shared) (σ:St) (H:Hp) (x:V) (xs:List V) (v:Value) (us:List Value) (Q:VK),Inv X pins σ H s→RelV x v→Vals xs us→r x xs H Q →
  wpAny (model X.prog X.w) X.A (call (.builtin id) (v::us)) (EP X pins σ Q) X.xe s
theorem Vals.one:∀{x:V} {us:List Value},Vals [x] us→∃u,us=[u]∧RelV x u
 |_,_,.cons r .nil=>⟨_,rfl,r⟩
theorem Vals.two:∀{x y:V} {us:List Value},Vals [x,y] us→∃u v,us=[u,v]∧RelV x u∧RelV y v
 |_,_,_,.cons r (.cons q .nil)=>⟨_,_,rfl,r,q⟩
theorem Vals.zero:∀{us:List Value},Vals [] us→us=[]
 |_,.nil=>rfl
theorem Vals.dropLast{xs:List V}{us:List Value}(h:Vals xs us):Vals xs.dropLast us.dropLast:=by
 induction h with
 |nil=>exact .nil
 |cons r t ih =>
  cases t with
  |nil=>exact .nil
  |cons q t'=>exact .cons r ih
theorem Vals.rep{xs:List V}{us:List Value}(h:Vals xs us):∀k:Nat,Vals (List.replicate k xs).flatten (List.replicate k us).flatten
 |0=>.nil
 |k+1=>by
  rw [List.replicate_succ,List.replicate_succ,List.flatten_cons,List.flatten_cons]
  exact Vals.append h (Vals.rep h k)
theorem erase_last{α:Type}(l:List α):l.eraseIdx (l.length - 1)=l.dropLast:=by
 induction l with
 |nil=>rfl
 |cons a r ih =>
  cases r with
  |nil=>rfl
  |cons b r =>
   have e:(a::b::r).length - 1=((b::r).length - 1)+1:=by
    have h1:(a::b::r).length=r.length+2:=rfl
    have h2:(b::r).length=r.length+1:=rfl
    omega
   rw [e,List.eraseIdx_cons_succ,ih]
   all_goals rfl
theorem foldl_rep(its:List Value):∀(k:Nat) (acc:List Value),
  List.foldl (fun x1 x2=>x1++x2) acc.toArray (List.replicate k its.toArray)=(acc++(List.replicate k its).flatten).toArray
 |0,acc=>by simp
 |k+1,acc=>by
  have e:acc.toArray++its.toArray=(acc++its).toArray:=by simp
  have e2:(acc++its)++(List.replicate k its).flatten=acc++(List.replicate (k+1) its).flatten:=by
   rw [List.replicate_succ,List.flatten_cons,List.append_assoc]
  rw [←e2,←foldl_rep its k (acc++its),←e,List.replicate_succ,List.foldl_cons]
section
variable{X:Cx}{pins:List (Addr × Obj)}{σ:St}{H:Hp}{s:Shared}{l b:Addr}{xs ys zs:List V}
theorem Inv.lset{its its':List Value}{n:Nat}{f:Array Value→Array Value}{t':Nat}(I:Inv X pins σ H s)(hH:H l=some (.lst xs))
  (e:s.heap.get? l=some { cls:=.type "list",data:=.seq its.toArray n }) (hf:f its.toArray=its'.toArray) (hv:Vals ys its') (hz:ys.length≤sizeLine) :
  Inv X pins σ (upd H l (.lst ys)) { s with heap:=s.heap.update l (Obj.mapSeq f),toks:=t' }:=by
 have q:=PySem.IsL.update e f
 rw [hf] at q
 refine I.write (x:=l) (e:=l) (by rw [hH];exact trivial) (.inl rfl) (fun b' u hb hu=>(Heap.get?_update_other s.heap (Obj.mapSeq f) (Ne.symm hb)).trans hu) ⟨_,q⟩ ?_
 exact⟨hz,its',_,hv,q⟩
theorem Inv.lnew{its:List Value}{t':Nat}(I:Inv X pins σ H s)(hv:Vals ys its)(hz:ys.length≤sizeLine) :
  Inv X pins σ (upd H s.heap.objs.size (.lst ys)) { s with heap:=s.heap.push { cls:=.type "list",data:=.seq its.toArray },toks:=t' } :=
 I.laid (fun _ _ q=>Heap.get?_push_of_some _ q) (Nat.le_refl _) ⟨hz,its,0,hv,Heap.get?_push_size _ rfl⟩
theorem Inv.fresh(I:Inv X pins σ H s):H s.heap.objs.size=none:=I.hok.fresh (Nat.le_refl _)
theorem Inv.lstM(I:Inv X pins σ H s)(hH:H l=some (.lst xs)):xs.length≤sizeLine∧∃(its:List Value) (n:Nat),Vals xs its∧xs.length=its.length∧s.heap.get? l=some { cls:=.type "list",data:=.seq its.toArray n }:=by
 obtain⟨z,its,n,r,e⟩:=I.hok l _ hH
 exact⟨z,its,n,r,r.length,e⟩
end
section
variable{X:Cx}
def rAppend:V→List V→Hp→VK→Prop:=fun x vs H Q=>∃l xs y,x=.ref l∧vs=[y]∧H l=some (.lst xs)∧xs.length < sizeLine∧Q .non (upd H l (.lst (xs++[y])))
theorem mt_append:MtM X "list.append" rAppend:=by
 intro pins s σ H x vs v us Q I rx rv h
 obtain⟨l,xs,y,rfl,rfl,hH,hz,q⟩:=h
 cases rx
 obtain⟨u,rfl,ru⟩:=rv.one
 obtain⟨z,its,n,r,hl,e⟩:=I.lstM hH
 refine call_meets F.slot_list_append ⟨_,e,rfl⟩ F.entry_list_append (F.args_list_append_2 _ _) (PySem.list_append l its.toArray n u (by rw [List.size_toArray];omega)) ⟨e,?_⟩
 refine⟨.non,_,I.lset (its':=its++[u]) hH e (by simp) (r.append (.cons ru .nil)) ?_,rfl,q⟩
 rw [List.length_append,List.length_singleton]
 omega
def rPop:V→List V→Hp→VK→Prop:=fun x vs H Q=>∃l xs y,x=.ref l∧vs=[]∧H l=some (.lst xs)∧xs[xs.length - 1]?=some y∧Q y (upd H l (.lst xs.dropLast))
theorem mt_pop:MtM X "list.pop" rPop:=by
 intro pins s σ H x vs v us Q I rx rv h
 obtain⟨l,xs,y,rfl,rfl,hH,hy,q⟩:=h
 cases rx
 have hus:=rv.zero
 subst hus
 obtain⟨z,its,n,r,hl,e⟩:=I.lstM hH
 obtain⟨u,hu,ru⟩:=r.get hy
 have hy':its.toArray[its.toArray.size - 1]?=some u:=by
  show its.toArray[its.length - 1]?=some u
  rw [←Array.getElem?_toList,←hl]
  exact hu
 refine call_meets F.slot_list_pop ⟨_,e,rfl⟩ F.entry_list_pop (F.args_list_pop_1 _) (MeetsSeq.list_pop_last l its.toArray n u hy' (by rw [List.size_toArray];omega)) ⟨e,?_⟩
 refine⟨y,_,I.lset (its':=its.dropLast) hH e ?_ r.dropLast ?_,ru,q⟩
 ·show its.toArray.eraseIdxIfInBounds (its.toArray.size - 1)=its.dropLast.toArray
  rw [List.size_toArray,List.eraseIdxIfInBounds_toArray,erase_last]
 ·rw [List.length_dropLast]
  omega
def rCat:R2:=fun x y H Q=>∃l b xs zs,x=.ref l∧y=.ref b∧H l=some (.lst xs)∧H b=some (.lst zs)∧xs.length+zs.length≤sizeLine∧∀p,H p=none→Q (.ref p) (upd H p (.lst (xs++zs)))
theorem op_cat:OpR X (binaryOp .Add) rCat:=by
 intro pins s σ H x y v u Q I rx ry h
 obtain⟨l,b,xs,zs,rfl,rfl,hH,hB,hz,q⟩:=h
 cases rx
 cases ry
 obtain⟨z,its,n,r,hl,e⟩:=I.lstM hH
 obtain⟨z2,its2,n2,r2,hl2,e2⟩:=I.lstM hB
 refine PySem.P.add_list e e2 ?_ (by rw [List.size_toArray,List.size_toArray];omega)
 have ea:its.toArray++its2.toArray=(its++its2).toArray:=by simp
 rw [ea]
 exact⟨.ref _,_,I.lnew (t':=s.toks) (r.append r2) (by rw [List.length_append];omega),rfl,q _ I.fresh⟩
theorem len_rep{α:Type}(xs:List α)(k:Nat):(List.replicate k xs).flatten.length=k*xs.length:=by
 induction k with
 |zero=>simp
 |succ k ih=>rw [List.replicate_succ,List.flatten_cons,List.length_append,ih,Nat.succ_mul,Nat.add_comm]
end
section
variable{prog:Program}{w:World}{A:Around}{E:Value→Shared→Prop}{s:Shared}
end
section
variable{X:Cx}
end
end L2
namespace L2
open PySem PySem.Spec PyProof.Rows
section
variable{κ:Type}[DecidableEq κ]
def valV(kvs:List (κ × V))(k:κ):Option V:=(kvs.find? fun kv=>decide (kv.1=k)).map (·.2)
def putK(kvs:List (κ × V))(k:κ)(v:V):List (κ × V) :=
 if (kvs.any fun kv=>decide (kv.1=k))=true then kvs.map (fun kv=>if kv.1=k then (kv.1,v) else kv) else kvs++[(k,v)]
theorem valV_pos{p:κ × V}{r:List (κ × V)}{k:κ}(e:p.1=k):valV (p::r) k=some p.2:=by simp [valV,List.find?_cons,e]
theorem valV_neg{p:κ × V}{r:List (κ × V)}{k:κ}(e:¬p.1=k):valV (p::r) k=valV r k:=by simp [valV,List.find?_cons,e]
theorem valV_any(k:κ):∀kvs:List (κ × V),(kvs.any fun kv=>decide (kv.1=k))=(valV kvs k).isSome
 |[]=>rfl
 |p::r=>by
  rw [List.any_cons]
  by_cases e:p.1=k
  ·simp only [valV_pos e,decide_eq_true e,Bool.true_or,Option.isSome_some]
  ·rw [valV_neg e,decide_eq_false e,Bool.false_or];exact valV_any k r
theorem valV_map(k j:κ)(y:V):∀kvs:List (κ × V),valV (kvs.map fun kv=>if kv.1=k then (kv.1,y) else kv) j=(valV kvs j).map fun x=>if j=k then y else x
 |[]=>rfl
 |p::r=>by
  have ih:=valV_map k j y r
  rw [List.map_cons]
  by_cases h:p.1=k
  ·rw [if_pos h]
   by_cases e:p.1=j
   ·rw [valV_pos (p:=(p.1,y)) e,valV_pos e,Option.map_some,if_pos (e.symm.trans h)]
   ·rw [valV_neg (p:=(p.1,y)) e,valV_neg e,ih]
  ·rw [if_neg h]
   by_cases e:p.1=j
   ·rw [valV_pos (p:=p) e,valV_pos e,Option.map_some,if_neg (fun z=>h (e.trans z))]
   ·rw [valV_neg (p:=p) e,valV_neg e,ih]
theorem valV_snoc(k j:κ)(y:V):∀kvs:List (κ × V),valV kvs k=none→valV (kvs++[(k,y)]) j=if j=k then some y else valV kvs j
 |[],_=>by
  by_cases e:k=j
  ·rw [if_pos e.symm];exact valV_pos (p:=(k,y)) e
  ·rw [if_neg (fun z=>e z.symm)];exact valV_neg (p:=(k,y)) e
 |p::r,hn=>by
  rw [List.cons_append]
  have hk:¬p.1=k:=fun z=>by rw [valV_pos z] at hn;cases hn
  rw [valV_neg hk] at hn
  have ih:=valV_snoc k j y r hn
  by_cases e:p.1=j
  ·rw [valV_pos e,valV_pos e,if_neg (fun z=>hk (e.trans z))]
  ·rw [valV_neg e,valV_neg e,ih]
theorem valV_put(kvs:List (κ × V))(k j:κ)(y:V):valV (putK kvs k y) j=if j=k then some y else valV kvs j:=by
 unfold putK
 by_cases a:(kvs.any fun kv=>decide (kv.1=k))=true
 ·rw [if_pos a,valV_map]
  rw [valV_any] at a
  by_cases e:j=k
  ·obtain⟨x,hx⟩:=Option.isSome_iff_exists.mp a
   rw [if_pos e,e,hx,Option.map_some,if_pos rfl]
  ·rw [if_neg e]
   cases valV kvs j with
   |none=>rfl
   |some x=>rw [Option.map_some,if_neg e]
 ·rw [if_neg a]
  refine valV_snoc k j y kvs ?_
  rw [valV_any] at a
  cases q:valV kvs k with
  |none=>rfl
  |some x=>rw [q] at a;exact(a rfl).elim
theorem length_putK(kvs:List (κ × V))(k:κ)(v:V):(putK kvs k v).length≤kvs.length+1:=by
 unfold putK
 split
 ·rw [List.length_map];omega
 ·rw [List.length_append,List.length_cons,List.length_nil];omega
theorem putK_new{kvs:List (κ × V)}{k:κ}(v:V)(h:valV kvs k=none):putK kvs k v=kvs++[(k,v)]:=by
 unfold putK
 rw [valV_any,h]
 exact if_neg (by decide)
theorem RelO.isSome_eq{o:Option V}{u:Option Value}(r:RelO o u):o.isSome=u.isSome:=by
 cases o with
 |none=>cases u with
  |none=>rfl
  |some _=>exact(show False from r).elim
 |some _=>cases u with
  |none=>exact(show False from r).elim
  |some _=>rfl
theorem RelO.getD{o:Option V}{u:Option Value}{d:V}{d':Value}(r:RelO o u)(rd:RelV d d'):RelV (o.getD d) (u.getD d'):=by
 cases o with
 |none=>cases u with
  |none=>exact rd
  |some _=>exact(show False from r).elim
 |some _=>cases u with
  |none=>exact(show False from r).elim
  |some _=>exact r
theorem KV.val{kvs:List (κ × V)}{vs:List (κ × Value)}(r:KV kvs vs)(k:κ):RelO (valV kvs k) (valueAt vs k):=by
 unfold KV at r
 induction r with
 |nil=>exact True.intro
 |@cons p q ps qs h t ih =>
  obtain⟨h1,h2⟩:=h
  by_cases e:p.1=k
  ·have e':q.1=k:=h1.symm.trans e
   have b:valueAt (q::qs) k=some q.2:=by simp [valueAt,List.find?_cons,e']
   rw [valV_pos e,b];exact h2
  ·have e':¬q.1=k:=fun z=>e (h1.trans z)
   have b:valueAt (q::qs) k=valueAt qs k:=by simp [valueAt,List.find?_cons,e']
   rw [valV_neg e,b];exact ih
theorem KV.any{kvs:List (κ × V)}{vs:List (κ × Value)}(r:KV kvs vs)(k:κ):(kvs.any fun kv=>decide (kv.1=k))=vs.any fun kv=>decide (kv.1=k):=by
 unfold KV at r
 induction r with
 |nil=>rfl
 |cons h t ih=>rw [List.any_cons,List.any_cons,ih,h.1]
theorem KV.repl{kvs:List (κ × V)}{vs:List (κ × Value)}(r:KV kvs vs)(k:κ){y:V}{u:Value}(ry:RelV y u) :
  KV (kvs.map fun kv=>if kv.1=k then (kv.1,y) else kv) (vs.map fun kv=>if kv.1=k then (kv.1,u) else kv):=by
 unfold KV at r ⊢
 induction r with
 |nil=>exact .nil
 |@cons p q ps qs h t ih =>
  rw [List.map_cons,List.map_cons]
  refine .cons ?_ ih
  obtain⟨h1,h2⟩:=h
  by_cases e:p.1=k
  ·rw [if_pos e,if_pos (h1.symm.trans e)];exact⟨h1,ry⟩
  ·rw [if_neg e,if_neg (fun z=>e (h1.trans z))];exact⟨h1,h2⟩
theorem KV.put{kvs:List (κ × V)}{vs:List (κ × Value)}(r:KV kvs vs)(k:κ){y:V}{u:Value}(ry:RelV y u):KV (putK kvs k y) (stored vs k u):=by
 unfold putK stored
 rw [r.any k]
 by_cases e:(vs.any fun kv=>decide (kv.1=k))=true
 ·rw [if_pos e,if_pos e];exact r.repl k ry
 ·rw [if_neg e,if_neg e];exact Paired.snoc r ⟨rfl,ry⟩
theorem KV.length{kvs:List (κ × V)}{vs:List (κ × Value)}(r:KV kvs vs):kvs.length=vs.length:=Paired.length r
end
theorem kV_is{P:Program}{w:World}{k:Key}{u:Value}(r:RelV (kV k) u):(mixKind P w).is k u=true:=by
 cases k with
 |inl i=>obtain⟨t,e⟩:=(show ∃t,u=Value.int i t from r);subst e;exact mixKind_int P w i t
 |inr x=>obtain⟨t,e⟩:=(show ∃t,u=Value.str x t from r);subst e;exact mixKind_str P w x t
theorem items_are{P:Program}{w:World}:∀{ks:List Key} {us:List Value},Vals (ks.map kV) us→ItemsAre (mixKind P w) ks us
 |[],_,r=>by rw [List.map_nil] at r;cases r;exact .nil
 |k::ks,_,r=>by
  rw [List.map_cons] at r
  cases r with
  |cons h t=>exact .cons (kV_is h) (items_are t)
abbrev KT(H:Hp):List (List Key × V)→List (List Key × Addr × Value)→Prop:=Paired fun p q=>p.1=q.1∧H q.2.1=some (.tup (p.1.map kV))∧RelV p.2 q.2.2
theorem KT.val{H:Hp}{kvs:List (List Key × V)}{xs:List (List Key × Addr × Value)}(r:KT H kvs xs)(k:List Key):RelO (valV kvs k) ((atKey xs k).map (·.2)):=by
 induction r with
 |nil=>exact True.intro
 |@cons p q ps qs h t ih =>
  obtain⟨h1,_,h2⟩:=h
  by_cases e:p.1=k
  ·have e':q.1=k:=h1.symm.trans e
   have b:atKey (q::qs) k=some q.2:=by simp [atKey,List.find?_cons,e']
   rw [valV_pos e,b];exact h2
  ·have e':¬q.1=k:=fun z=>e (h1.trans z)
   have b:atKey (q::qs) k=atKey qs k:=by simp [atKey,List.find?_cons,e']
   rw [valV_neg e,b];exact ih
theorem KT.repl{H:Hp}{kvs:List (List Key × V)}{xs:List (List Key × Addr × Value)}(r:KT H kvs xs)(k:List Key){y:V}{u:Value}(ry:RelV y u) :
  KT H (kvs.map fun kv=>if kv.1=k then (kv.1,y) else kv) (xs.map (putAt k u)):=by
 induction r with
 |nil=>exact .nil
 |@cons p q ps qs h t ih =>
  rw [List.map_cons,List.map_cons]
  refine .cons ?_ ih
  obtain⟨h1,h2,h3⟩:=h
  unfold putAt
  by_cases e:p.1=k
  ·rw [if_pos e,if_pos (h1.symm.trans e)];exact⟨h1,h2,ry⟩
  ·rw [if_neg e,if_neg (fun z=>e (h1.trans z))];exact⟨h1,h2,h3⟩
theorem KT.put{H:Hp}{kvs:List (List Key × V)}{xs:List (List Key × Addr × Value)}(r:KT H kvs xs)(k:List Key){b:Addr}{y:V}{u:Value}(hb:H b=some (.tup (k.map kV)))(ry:RelV y u) :
  KT H (putK kvs k y) (storedH xs k b u):=by
 have e:(kvs.any fun kv=>decide (kv.1=k))=(atKey xs k).isSome:=by
  rw [valV_any,(r.val k).isSome_eq,Option.isSome_map]
 unfold putK storedH
 rw [e]
 by_cases q:(atKey xs k).isSome=true
 ·rw [if_pos q,if_pos q];exact r.repl k ry
 ·rw [if_neg q,if_neg q];exact Paired.snoc r ⟨rfl,hb,ry⟩
theorem KT.keeps{H H':Hp}{kvs:List (List Key × V)}{xs:List (List Key × Addr × Value)}(r:KT H kvs xs)(ht:∀b ys,H b=some (.tup ys)→H' b=some (.tup ys)):KT H' kvs xs :=
 Paired.mapP r fun _ _ z=>⟨z.1,ht _ _ z.2.1,z.2.2⟩
section
variable{P:Program}{w:World}{H:Hp}{h:Heap}{a:Addr}
theorem rd_of{u:HO}(ok:HOk P w H h)(e:Rd H a u):ObjOk P w H h a u:=e.ok ok
theorem dk_rd{kvs:List (Key × V)}(ok:HOk P w H h)(e:Rd H a (.dK kvs)):kvs.length≤sizeLine∧(a==sysModules)=false∧∃vs,KV kvs vs∧h.DictOf (mixKind P w) a vs :=
 show ObjOk P w H h a (.dK kvs) from rd_of ok e
theorem dk_of{kvs:List (Key × V)}(ok:HOk P w H h)(e:H a=some (.dK kvs)):kvs.length≤sizeLine∧(a==sysModules)=false∧∃vs,KV kvs vs∧h.DictOf (mixKind P w) a vs:=dk_rd ok (.inl e)
theorem key_of{ks:List Key}(ok:HOk P w H h)(e:H a=some (.tup (ks.map kV))):(tupleKind (mixKind P w)).is h ks a:=by
 obtain⟨_,its,r,o,h1,h2,n,h3⟩:=(show ObjOk P w H h a (.tup (ks.map kV)) from ok a _ e)
 exact⟨o,its.toArray,n,h1,h2,h3,by simpa using items_are r⟩
theorem dt_rd{kvs:List (List Key × V)}(ok:HOk P w H h)(e:Rd H a (.dT kvs)):kvs.length≤sizeLine∧(a==sysModules)=false ∧
  ∃xs,KT H kvs xs∧h.DictOfH (tupleKind (mixKind P w)) a xs:=by
 obtain⟨z,y,xs,r,o,es,ep,h1,h2,h3,h4,h5⟩:=(show ObjOk P w H h a (.dT kvs) from rd_of ok e)
 refine⟨z,y,xs,r,o,es,ep,h1,h2,h3,h4,fun x hx=>?_,h5⟩
 have all:∀{l:List (List Key × V)} {m:List (List Key × Addr × Value)},KT H l m→∀x∈m,(tupleKind (mixKind P w)).is h x.1 x.2.1:=by
  intro l m q
  induction q with
  |nil=>intro x hx;exact nomatch hx
  |@cons p q ps qs hq t ih =>
   intro x hx
   rcases List.mem_cons.mp hx with e|hx
   ·subst e
    exact key_of ok (by rw [←hq.1];exact hq.2.1)
   ·exact ih x hx
 exact all r x hx
theorem dt_of{kvs:List (List Key × V)}(ok:HOk P w H h)(e:H a=some (.dT kvs)):kvs.length≤sizeLine∧(a==sysModules)=false ∧
  ∃xs,KT H kvs xs∧h.DictOfH (tupleKind (mixKind P w)) a xs:=dt_rd ok (.inl e)
end
def DGet(H:Hp)(a:Addr)(y:V)(r:Option V):Prop :=
 (∃kvs k,Rd H a (.dK kvs)∧y=kV k∧r=valV kvs k)∨∃kvs k b,Rd H a (.dT kvs)∧y=.ref b∧H b=some (.tup (k.map kV))∧r=valV kvs k
def DPut(H:Hp)(a:Addr)(y v:V)(H':Hp):Prop :=
 (∃kvs k,H a=some (.dK kvs)∧y=kV k∧kvs.length < sizeLine∧H'=upd H a (.dK (putK kvs k v))) ∨
 ∃kvs k b,H a=some (.dT kvs)∧y=.ref b∧H b=some (.tup (k.map kV))∧kvs.length < sizeLine∧H'=upd H a (.dT (putK kvs k v))
theorem DGet.k{H:Hp}{a:Addr}{kvs:List (Key × V)}{k:Key}(e:H a=some (.dK kvs)):DGet H a (kV k) (valV kvs k):=.inl ⟨kvs,k,.inl e,rfl,rfl⟩
theorem DGet.t{H:Hp}{a b:Addr}{kvs:List (List Key × V)}{k:List Key}(e:H a=some (.dT kvs))(eb:H b=some (.tup (k.map kV))):DGet H a (.ref b) (valV kvs k):=.inr ⟨kvs,k,b,.inl e,rfl,eb,rfl⟩
theorem DPut.k{H:Hp}{a:Addr}{kvs:List (Key × V)}{k:Key}{v:V}(e:H a=some (.dK kvs))(hl:kvs.length < sizeLine):DPut H a (kV k) v (upd H a (.dK (putK kvs k v))):=.inl ⟨kvs,k,e,rfl,hl,rfl⟩
theorem DPut.t{H:Hp}{a b:Addr}{kvs:List (List Key × V)}{k:List Key}{v:V}(e:H a=some (.dT kvs))(eb:H b=some (.tup (k.map kV)))(hl:kvs.length < sizeLine) :
  DPut H a (.ref b) v (upd H a (.dT (putK kvs k v))):=.inr ⟨kvs,k,b,e,rfl,eb,hl,rfl⟩
section
variable{X:Cx}{pins:List (Addr × Obj)}{σ:St}{H:Hp}{s:Shared}{a:Addr}{y v:V}{u r:Value}{o:Option V}{A:Around}{E:Value→Shared→Prop}
theorem Inv.big(I:Inv X pins σ H s):sysModules < s.heap.objs.size:=by
 have h:mainGlobals < s.heap.objs.size:=(I.mod.glob.keeps I.bk).lt
 exact Nat.lt_trans (by decide) h
theorem d_getItem{Q:Value→Shared→Prop}(hu:A.units+1 < cLine)(I:Inv X pins σ H s)(g:DGet H a y (some v))(ry:RelV y u)(h:∀w' s',Inv X pins σ H s'→RelV v w'→Q w' s') :
  wpAny (model X.prog X.w) A (getItem (.ref a) u) Q E s:=by
 rcases g with ⟨kvs,k,e,ey,l⟩|⟨kvs,k,b,e,ey,eb,l⟩
 ·subst ey
  obtain⟨z,hd,vs,rel,dd⟩:=dk_rd I.hok e
  obtain⟨w',hw,rw'⟩:=RelO.some_of (v:=v) (o:=valueAt vs k) (by rw [l];exact rel.val k)
  exact wpAny_getItem_of (kV_is ry) dd.mapOf hw (h w' _ (I.tok _) rw')
 ·subst ey
  cases (show u=Value.ref b from ry)
  obtain⟨z,hd,xs,rel,dd⟩:=dt_rd I.hok e
  obtain⟨w',hw,rw'⟩:=RelO.some_of (v:=v) (o:=(atKey xs k).map (·.2)) (by rw [l];exact rel.val k)
  obtain⟨p,hp,hp2⟩:=Option.map_eq_some_iff.mp hw
  refine wpAny_getItem_heap (tupleKind_room_in1 hu) (key_of I.hok eb) dd hp ?_
  rw [hp2]
  exact h w' _ (I.tok _) rw'
theorem d_in{Q:Value→Shared→Prop}(hu:A.units+1 < cLine)(I:Inv X pins σ H s)(g:DGet H a y o)(ry:RelV y u)(h:∀s',Inv X pins σ H s'→Q (.bool o.isSome) s') :
  wpAny (model X.prog X.w) A (compareOp .In u (.ref a)) Q E s:=by
 rcases g with ⟨kvs,k,e,ey,l⟩|⟨kvs,k,b,e,ey,eb,l⟩
 ·subst ey
  obtain⟨z,hd,vs,rel,dd⟩:=dk_rd I.hok e
  refine wpAny_in_of (kV_is ry) hd dd.mapOf ?_
  rw [←(rel.val k).isSome_eq,←l]
  exact h _ (I.tok _)
 ·subst ey
  cases (show u=Value.ref b from ry)
  obtain⟨z,hd,xs,rel,dd⟩:=dt_rd I.hok e
  refine wpAny_in_heap (tupleKind_room_in1 hu) (key_of I.hok eb) hd dd ?_
  have q:=(rel.val k).isSome_eq
  rw [Option.isSome_map] at q
  rw [←q,←l]
  exact h _ (I.tok _)
theorem d_notIn{Q:Value→Shared→Prop}(hu:A.units+1 < cLine)(I:Inv X pins σ H s)(g:DGet H a y o)(ry:RelV y u)(h:∀s',Inv X pins σ H s'→Q (.bool (!o.isSome)) s') :
  wpAny (model X.prog X.w) A (compareOp .NotIn u (.ref a)) Q E s:=by
 rcases g with ⟨kvs,k,e,ey,l⟩|⟨kvs,k,b,e,ey,eb,l⟩
 ·subst ey
  obtain⟨z,hd,vs,rel,dd⟩:=dk_rd I.hok e
  refine wpAny_notIn_of (kV_is ry) hd dd.mapOf ?_
  rw [←(rel.val k).isSome_eq,←l]
  exact h _ (I.tok _)
 ·subst ey
  cases (show u=Value.ref b from ry)
  obtain⟨z,hd,xs,rel,dd⟩:=dt_rd I.hok e
  refine wpAny_notIn_heap (tupleKind_room_in1 hu) (key_of I.hok eb) hd dd ?_
  have q:=(rel.val k).isSome_eq
  rw [Option.isSome_map] at q
  rw [←q,←l]
  exact h _ (I.tok _)
theorem d_write{h':Heap}{t':Nat}{ob:HO}(I:Inv X pins σ H s)(mu:Mut (H a))(hs:Heap.SameBut a s.heap h')(he:∃q,h'.get? a=some q)(new:ObjOk X.prog X.w (upd H a ob) h' a ob) :
  Inv X pins σ (upd H a ob) { s with heap:=h',toks:=t' } :=
 I.write (x:=a) (e:=a) mu (.inl rfl) (fun b q hb z=>(hs.2 b hb).trans z) he new
theorem dk_new{P:Program}{w:World}{H':Hp}{h':Heap}{kvs:List (Key × V)}{vs:List (Key × Value)}(z:kvs.length≤sizeLine)(hd:(a==sysModules)=false)(rel:KV kvs vs)(dd:h'.DictOf (mixKind P w) a vs) :
  ObjOk P w H' h' a (.dK kvs):=⟨z,hd,vs,rel,dd⟩
theorem d_setItem{H':Hp}{Q:Unit→Shared→Prop}(hu:A.units+1 < cLine)(I:Inv X pins σ H s)(g:DPut H a y v H')(ry:RelV y u)(rv:RelV v r)(h:∀s',Inv X pins σ H' s'→Q () s') :
  wpAny (model X.prog X.w) A (setItem (.ref a) u r) Q E s:=by
 rcases g with ⟨kvs,k,e,ey,l,eH⟩|⟨kvs,k,b,e,ey,eb,l,eH⟩
 ·subst ey eH
  obtain⟨z,hd,vs,rel,dd⟩:=dk_of I.hok e
  have hz:vs.length≤sizeLine:=by rw [←rel.length];exact z
  have hl:(putK kvs k v).length≤sizeLine:=by have:=length_putK kvs k v;omega
  refine wpAny_setItem_pairs (hsz:=hz) (kV_is ry) dd fun h' dd' hs=>h _ ?_
  have he:∃q,h'.get? a=some q:=let ⟨q,_,_,hq,_⟩:=dd';⟨q,hq⟩
  exact d_write I (by rw [e];exact True.intro) hs he (dk_new hl hd (rel.put k rv) dd')
 ·subst ey eH
  cases (show u=Value.ref b from ry)
  obtain⟨z,hd,xs,rel,dd⟩:=dt_of I.hok e
  have hz:xs.length≤sizeLine:=by rw [←Paired.length rel];exact z
  have hl:(putK kvs k v).length≤sizeLine:=by have:=length_putK kvs k v;omega
  refine wpAny_setItem_heap (hsz:=hz) (tupleKind_room_in1 hu) (key_of I.hok eb) dd fun h' dd' hs=>h _ ?_
  obtain⟨q,es,ep,hq,h2,h3,h4,_,h5⟩:=dd'
  refine d_write I (by rw [e];exact True.intro) hs ⟨q,hq⟩ ⟨hl,hd,_,(rel.put k eb rv).keeps fun c ys ec=>?_,q,es,ep,hq,h2,h3,h4,h5⟩
  rw [upd_ne (ne_of ec e (fun z=>nomatch z))]
  exact ec
end
section
variable{X:Cx}{pins:List (Addr × Obj)}{σ:St}{H:Hp}{s:Shared}{a:Addr}{kvs:List (Key × V)}{k:Key}{u:Value}{A:Around}{E:Value→Shared→Prop}
theorem d_clear{Q:Value→Shared→Prop}(I:Inv X pins σ H s)(e:H a=some (.dK kvs))(h:∀s',Inv X pins σ (upd H a (.dK [])) s'→Q .none s'):wpAny (model X.prog X.w) A (call (.builtin "dict.clear") [.ref a]) Q E s:=by
 obtain⟨z,hd,vs,rel,dd⟩:=dk_of I.hok e
 refine call_meetsIn PySem.F.slot_dict_clear dd.typeIs PySem.F.entry_dict_clear (PySem.F.args_dict_clear_1 _) (meets_dict_clear (mixKind X.prog X.w) a) ⟨vs,dd,by rw [←rel.length];exact z,fun h' dd' hs=>h _ ?_⟩
 have he:∃q,h'.get? a=some q:=let ⟨q,_,_,hq,_⟩:=dd';⟨q,hq⟩
 exact d_write (t':=s.toks) I (by rw [e];exact True.intro) hs he (dk_new (Nat.zero_le _) hd .nil dd')
end
def NoSl(i:Expr):Prop:=∀ov iv,subscripted i false ov iv=operate [ov,iv] (getItem ov iv)
theorem subD_of{prog:Program}{w:World}{A:Around}{E:Value→Shared→Prop}{s:Shared}{env:Env}{value slice:Expr}{pos:Pos}{T id:String}{Q:Value→Shared→Prop}
  (hl:typeLookup (.type T) "__getitem__"=pure (some (.builtin id))) (hs:NoSl slice)
  (h:wpAny (model prog w) A (eval value env) (fun o s₁=>wpAny (model prog w) A (eval slice env) (fun i s₂=>s₂.TypeIs o T∧wpAny (model prog w) A (getItem o i) Q E s₂) E s₁) E s) :
  wpAny (model prog w) A (eval (.Subscript value slice pos) env) Q E s:=by
 refine Subscript_ (wpAny_mono h (fun o s₁ h₁=>wpAny_mono h₁ (fun i s₂ h₂=>?_) fun _ _ x=>x) fun _ _ x=>x)
 obtain⟨hT,h₂⟩:=h₂
 unfold subscriptTail
 refine wpAny_bind ?_
 rw [getitemInPython_of_ne hT.not_modules]
 refine wpAny_bind (wpAny_specialOf hT hl ?_)
 have fin:wpAny (model prog w) A (subscripted slice false o i) (fun r s₃=>wpAny (model prog w) A (letTemporaryGo value o r >>= fun _=>pure r) Q E s₃) E s₂:=by
  rw [hs o i]
  exact wpAny_operating (wpAny_mono h₂ (fun r s₃ h₃=>wpAny_bind (wpAny_letTemporaryGo (wpAny_pure h₃))) fun _ _ x=>x)
 first
  |exact wpAny_pure (wpAny_bind fin)
  |exact wpAny_bind (wpAny_pure (wpAny_bind fin))
  |exact wpAny_bind fin
theorem dict_typeIs{X:Cx}{pins:List (Addr × Obj)}{σ:St}{H:Hp}{s:Shared}{a:Addr}{y:V}{o:Option V}(I:Inv X pins σ H s)(g:DGet H a y o):s.TypeIs (.ref a) "dict":=by
 rcases g with ⟨kvs,k,e,_,_⟩|⟨kvs,k,b,e,_,_,_⟩
 ·obtain⟨_,_,vs,_,dd⟩:=dk_rd I.hok e
  exact dd.typeIs
 ·obtain⟨_,_,xs,_,dd⟩:=dt_rd I.hok e
  exact dd.typeIs
def tDGet(td ty:TE):TE:=fun σ H Q=>td σ H fun x H1=>ty σ H1 fun y H2=>∃a v,x=.ref a∧DGet H2 a y (some v)∧Q v H2
def tDIn(ty td:TE):TE:=fun σ H Q=>ty σ H fun y H1=>td σ H1 fun x H2=>∃a o,x=.ref a∧DGet H2 a y o∧Q (.bl o.isSome) H2
def tDNotIn(ty td:TE):TE:=fun σ H Q=>ty σ H fun y H1=>td σ H1 fun x H2=>∃a o,x=.ref a∧DGet H2 a y o∧Q (.bl (!o.isSome)) H2
def sDPut(td ty tv:TE):TS:=fun D σ H=>tv σ H fun v H1=>td σ H1 fun x H2=>ty σ H2 fun y H3=>∃a H4,x=.ref a∧DPut H3 a y v H4∧D.nx σ H4
section
variable{X:Cx}{o i e value:Expr}{pos pos' tpos:Pos}{td ty tv:TE}
theorem pe_dget(hu:X.A.units+1 < cLine)(ho:PE X o td)(hi:PE X i ty)(hs:NoSl i):PE X (.Subscript o i pos) (tDGet td ty):=by
 intro pins s σ H Q I h
 refine subD_of PySem.F.slot_dict_getitem.lookup hs (thn (ho pins s σ H _ I h) fun u s1 ⟨x,H1,I1,rx,q1⟩=>thn (hi pins s1 σ H1 _ I1 q1) fun iv s2 ⟨y,H2,I2,ry,a,v,ex,g,q2⟩=>?_)
 subst ex
 obtain rfl:u=Value.ref a:=rx
 exact⟨dict_typeIs I2 g,d_getItem hu I2 g ry fun w' s3 I3 rw'=>⟨v,H2,I3,rw',q2⟩⟩
theorem pc_din(hu:X.A.units+1 < cLine)(hi:PE X i ty)(ho:PE X o td):PC X .In i o (tDIn ty td):=by
 intro pins s σ H Q I h
 refine thn (hi pins s σ H _ I h) fun iv s1 ⟨y,H1,I1,ry,q1⟩=>thn (ho pins s1 σ H1 _ I1 q1) fun u s2 ⟨x,H2,I2,rx,a,ov,ex,g,q2⟩=>?_
 subst ex
 obtain rfl:u=Value.ref a:=rx
 exact d_in hu I2 g ry fun s3 I3=>⟨.bl ov.isSome,H2,I3,rfl,q2⟩
theorem pc_dnotin(hu:X.A.units+1 < cLine)(hi:PE X i ty)(ho:PE X o td):PC X .NotIn i o (tDNotIn ty td):=by
 intro pins s σ H Q I h
 refine thn (hi pins s σ H _ I h) fun iv s1 ⟨y,H1,I1,ry,q1⟩=>thn (ho pins s1 σ H1 _ I1 q1) fun u s2 ⟨x,H2,I2,rx,a,ov,ex,g,q2⟩=>?_
 subst ex
 obtain rfl:u=Value.ref a:=rx
 exact d_notIn hu I2 g ry fun s3 I3=>⟨.bl (!ov.isSome),H2,I3,rfl,q2⟩
theorem ps_dput(hu:X.A.units+1 < cLine)(ho:PE X o td)(hi:PE X i ty)(hv:PE X value tv)(hs:swapsWith value (some (.Subscript o i pos')) pos.line X.env=pure false) :
  PS X (.Assign [.Subscript o i pos'] value pos) (sDPut td ty tv):=by
 intro pins s σ H D I h
 refine wpAny_Assign_Subscript (thn (hv pins s σ H _ I h) fun r s1 ⟨v,H1,I1,rv,q1⟩=>thn (ho pins s1 σ H1 _ I1 q1) fun u s2 ⟨x,H2,I2,rx,q2⟩=>thn (hi pins s2 σ H2 _ I2 q2) fun iv s3 ⟨y,H3,I3,ry,a,H4,ex,g,q3⟩=>?_) hs
 subst ex
 obtain rfl:u=Value.ref a:=rx
 exact d_setItem hu I3 g ry rv fun s4 I4=>⟨σ,H4,I4,q3⟩
end
theorem dk_empty{P:Program}{w:World}{H:Hp}(h:Heap)(hb:sysModules < h.objs.size):ObjOk P w H (h.push { cls:=.type "dict",data:=.dict #[] }) h.objs.size (.dK []) :=
 ⟨Nat.zero_le _,beq_eq_false_iff_ne.mpr (Ne.symm (Nat.ne_of_lt hb)),[],.nil,Heap.DictOf.new h⟩
theorem dt_empty{P:Program}{w:World}{H:Hp}(h:Heap)(hb:sysModules < h.objs.size):ObjOk P w H (h.push { cls:=.type "dict",data:=.dict #[] }) h.objs.size (.dT []) :=
 ⟨Nat.zero_le _,beq_eq_false_iff_ne.mpr (Ne.symm (Nat.ne_of_lt hb)),[],.nil,_,#[],0,Heap.get?_push_size _ rfl,⟨rfl,rfl,rfl⟩,rfl,rfl,List.nodup_nil⟩
def tDNewK:TE:=fun _ H Q=>∀p,H p=none→Q (.ref p) (upd H p (.dK []))
def tDNewT:TE:=fun _ H Q=>∀p,H p=none→Q (.ref p) (upd H p (.dT []))
section
variable{X:Cx}{pos:Pos}
theorem pe_dnewK:PE X (.Dict [] [] pos) tDNewK:=fun pins s σ H Q I h =>
 wpAny_Dict_empty ⟨.ref s.heap.objs.size,_,I.laid (a:=s.heap.objs.size) (o:=.dK []) (t':=s.toks) (fun _ _ q=>Heap.get?_push_of_some _ q) (Nat.le_refl _) (dk_empty s.heap I.big),rfl,h _ (I.hok.fresh (Nat.le_refl _))⟩
theorem pe_dnewT:PE X (.Dict [] [] pos) tDNewT:=fun pins s σ H Q I h =>
 wpAny_Dict_empty ⟨.ref s.heap.objs.size,_,I.laid (a:=s.heap.objs.size) (o:=.dT []) (t':=s.toks) (fun _ _ q=>Heap.get?_push_of_some _ q) (Nat.le_refl _) (dt_empty s.heap I.big),rfl,h _ (I.hok.fresh (Nat.le_refl _))⟩
end
def tPairs:List (TE × TE)→St→Hp→(List (V × V)→Hp→Prop)→Prop
 |[],_,H,Q=>Q [] H
 |(tk,tv)::r,σ,H,Q=>tk σ H fun x H1=>tv σ H1 fun y H2=>tPairs r σ H2 fun ps H3=>Q ((x,y)::ps) H3
abbrev VV:List (V × V)→List (Value × Value)→Prop:=Paired fun p q=>RelV p.1 q.1∧RelV p.2 q.2
def PPs(X:Cx)(pos:Pos)(keys:List (Option Expr))(values:List Expr)(trs:List (TE × TE)):Prop :=
 ∀(pins:List (Addr × Obj)) (s:Shared) (σ:St) (H:Hp) (Q:List (V × V)→Hp→Prop),Inv X pins σ H s→tPairs trs σ H Q →
  wpAny (model X.prog X.w) X.A (evalPairs (pairTrees keys values X.env pos)) (fun vs s'=>∃ps H',Inv X pins σ H' s'∧VV ps vs∧Q ps H') X.xe s
theorem pps_nil{X:Cx}{pos:Pos}:PPs X pos [] [] []:=fun pins s σ H Q I h=>pairTrees_nil_walk ⟨[],H,I,.nil,h⟩
theorem pps_cons{X:Cx}{pos:Pos}{k v:Expr}{ks:List (Option Expr)}{vs:List Expr}{tk tv:TE}{trs:List (TE × TE)}(hk:PE X k tk)(hv:PE X v tv)(hr:PPs X pos ks vs trs) :
  PPs X pos (some k::ks) (v::vs) ((tk,tv)::trs):=fun pins s σ H Q I h =>
 pairTrees_cons_walk (thn (hk pins s σ H _ I h) fun u s1 ⟨x,H1,I1,rx,q1⟩=>thn (hv pins s1 σ H1 _ I1 q1) fun w2 s2 ⟨y,H2,I2,ry,q2⟩ =>
  thn (hr pins s2 σ H2 _ I2 q2) fun ws s3 ⟨ps,H3,I3,rel,q3⟩=>⟨(x,y)::ps,H3,I3,.cons ⟨rx,ry⟩ rel,q3⟩)
def mergeK(kvs more:List (Key × V)):List (Key × V):=more.foldl (fun acc kv=>putK acc kv.1 kv.2) kvs
theorem KV.merge:∀{more:List (Key × V)} {rs:List (Key × Value)} {kvs:List (Key × V)} {vs:List (Key × Value)},KV more rs→KV kvs vs→KV (mergeK kvs more) (merged vs rs):=by
 intro more rs kvs vs r
 unfold KV at r
 induction r generalizing kvs vs with
 |nil=>intro q;exact q
 |@cons p q ps qs h t ih =>
  intro r0
  have e:KV (putK kvs p.1 p.2) (stored vs q.1 q.2):=by
   have:=r0.put p.1 h.2
   rw [←h.1];exact this
  exact ih e
theorem length_mergeK:∀(more kvs:List (Key × V)),(mergeK kvs more).length≤kvs.length+more.length
 |[],kvs=>by show kvs.length≤kvs.length+0;omega
 |p::r,kvs=>by
  have h1:=length_mergeK r (putK kvs p.1 p.2)
  have h2:=length_putK kvs p.1 p.2
  show(mergeK (putK kvs p.1 p.2) r).length≤_
  rw [List.length_cons];omega
theorem carries_of{P:Program}{w:World}:∀{kvs:List (Key × V)} {ws:List (Value × Value)},VV (kvs.map fun kv=>(kV kv.1,kv.2)) ws→∃rs,Carries (mixKind P w) ws rs∧KV kvs rs
 |[],_,r=>by rw [List.map_nil] at r;cases r;exact⟨[],True.intro,.nil⟩
 |p::kvs,_,r=>by
  rw [List.map_cons] at r
  cases r with
  |@cons a b as bs h t =>
   obtain⟨rs,c,q⟩:=carries_of (P:=P) (w:=w) t
   obtain⟨b1,b2⟩:=b
   exact⟨(p.1,b2)::rs,⟨kV_is h.1,rfl,c⟩,.cons ⟨rfl,h.2⟩ q⟩
def tDisp(trs:List (TE × TE)):TE:=fun σ H Q=>∀p,H p=none→tPairs trs σ (upd H p (.dK [])) fun ps H2=>H2 p=some (.dK [])∧∃kvs:List (Key × V),ps=kvs.map (fun kv=>(kV kv.1,kv.2))∧kvs.length≤15∧Q (.ref p) (upd H2 p (.dK (mergeK [] kvs)))
theorem pe_disp{X:Cx}{pos:Pos}{keys:List (Option Expr)}{values:List Expr}{trs:List (TE × TE)}(h:PPs X pos keys values trs)(hall:keys.all (·.isSome)=true)(hl:keys.length=values.length)(h0:keys≠[])
  (h15:keys.length≤15):PE X (.Dict keys values pos) (tDisp trs):=by
 intro pins s σ H Q I q
 have hn:=I.hok.fresh (Nat.le_refl s.heap.objs.size)
 have I1:=I.laid (a:=s.heap.objs.size) (o:=.dK []) (h':=s.heap.push { cls:=.type "dict",data:=.dict #[] }) (t':=s.toks) (fun _ _ q=>Heap.get?_push_of_some _ q) (Nat.le_refl _) (dk_empty s.heap I.big)
 refine wpAny_Dict_walk (knd:=mixKind X.prog X.w) hall hl h0 h15 (thn (h pins _ σ _ _ I1 (q _ hn)) fun ws s2 ⟨ps,H2,I2,rel,e,kvs,ep,lk,q2⟩=>?_)
 subst ep
 obtain⟨rs,c,rk⟩:=carries_of (P:=X.prog) (w:=X.w) rel
 obtain⟨z,hd,vs0,r0,dd⟩:=dk_of I2.hok e
 cases r0
 refine⟨rs,c,dd,fun h' dd' hs=>⟨.ref s.heap.objs.size,_,?_,rfl,q2⟩⟩
 have hz:(mergeK [] kvs).length≤sizeLine:=by
  have h1:=length_mergeK kvs []
  rw [List.length_nil] at h1
  rw [sizeLine_eq];omega
 have he:∃q,h'.get? s.heap.objs.size=some q:=let ⟨q,_,_,hq,_⟩:=dd';⟨q,hq⟩
 exact d_write I2 (by rw [e];exact True.intro) hs he (dk_new hz hd (rk.merge .nil) dd')
structure M1(X:Cx)(o:Expr)(m:Str)(apos:Pos)(e:Expr)(cpos:Pos):Prop where
 base:attributeBase o m X.env (eval o X.env)=eval o X.env
 few:((backTo cpos (starEach [e] X.env)).all (fun x=>!x.1)&&(backToKw cpos (keywordEach [] X.env)).all (fun x=>x.1.isSome)
  && decide (([e]:List Expr).length+([]:List Keyword).length+(if ([]:List Keyword).isEmpty then 0 else 1) < 30))=true
 line:(apos.endLine==cpos.line)=true
 trees:backTo cpos (starEach [e] X.env)=[(false,eval e X.env)]
structure M2(X:Cx)(o:Expr)(m:Str)(apos:Pos)(e f:Expr)(cpos:Pos):Prop where
 base:attributeBase o m X.env (eval o X.env)=eval o X.env
 few:((backTo cpos (starEach [e,f] X.env)).all (fun x=>!x.1)&&(backToKw cpos (keywordEach [] X.env)).all (fun x=>x.1.isSome)
  && decide (([e,f]:List Expr).length+([]:List Keyword).length+(if ([]:List Keyword).isEmpty then 0 else 1) < 30))=true
 line:(apos.endLine==cpos.line)=true
 trees:backTo cpos (starEach [e,f] X.env)=[(false,eval e X.env),(false,eval f X.env)]
def IsD(H:Hp)(a:Addr):Prop:=(∃kvs,Rd H a (.dK kvs))∨∃kvs,Rd H a (.dT kvs)
theorem isD_at{X:Cx}{pins:List (Addr × Obj)}{σ:St}{H:Hp}{s:Shared}{a:Addr}(I:Inv X pins σ H s)(d:IsD H a) :
  s.TypeIs (.ref a) "dict"∧(∀b,Value.ref a=.ref b→∃ob,s.heap.get? b=some ob∧ob.dict=none)∧(a==sysModules)=false:=by
 rcases d with ⟨kvs,e⟩|⟨kvs,e⟩
 ·obtain⟨_,hd,vs,_,dd⟩:=dk_rd I.hok e
  refine⟨dd.typeIs,fun b q=>?_,hd⟩
  cases q
  obtain⟨ob,_,_,h1,h2,_⟩:=dd
  exact⟨ob,h1,h2.2.1⟩
 ·obtain⟨_,hd,xs,_,dd⟩:=dt_rd I.hok e
  refine⟨dd.typeIs,fun b q=>?_,hd⟩
  cases q
  obtain⟨ob,_,_,h1,h2,_⟩:=dd
  exact⟨ob,h1,h2.2.1⟩
section
variable{X:Cx}{pins:List (Addr × Obj)}{σ:St}{H:Hp}{s:Shared}{a:Addr}{y d:V}{u r:Value}{o:Option V}{A:Around}{E:Value→Shared→Prop}
theorem d_get1{Q:Value→Shared→Prop}(hu:A.units+1 < cLine)(I:Inv X pins σ H s)(g:DGet H a y o)(ry:RelV y u)(h:∀w' s',Inv X pins σ H s'→RelV (o.getD .non) w'→Q w' s') :
  wpAny (model X.prog X.w) A (call (.builtin "dict.get") [.ref a,u]) Q E s:=by
 rcases g with ⟨kvs,k,e,ey,l⟩|⟨kvs,k,b,e,ey,eb,l⟩
 ·subst ey
  obtain⟨z,hd,vs,rel,dd⟩:=dk_rd I.hok e
  refine call_meetsIn PySem.F.slot_dict_get dd.typeIs PySem.F.entry_dict_get (PySem.F.args_dict_get_2 _ _) (meets_dict_get (mixKind X.prog X.w) a (kV_is ry) hd) ⟨_,dd.mapOf,h _ _ (I.tok _) ?_⟩
  rw [l]
  exact(rel.val k).getD rfl
 ·subst ey
  cases (show u=Value.ref b from ry)
  obtain⟨z,hd,xs,rel,dd⟩:=dt_rd I.hok e
  refine call_meetsIn PySem.F.slot_dict_get dd.typeIs PySem.F.entry_dict_get (PySem.F.args_dict_get_2 _ _) (meetsH_dict_get (tupleKind (mixKind X.prog X.w)) a b hd) ⟨tupleKind_room_in1 hu,k,xs,key_of I.hok eb,dd,h _ _ (I.tok _) ?_⟩
  rw [l]
  exact(rel.val k).getD rfl
theorem d_get2{Q:Value→Shared→Prop}(hu:A.units+1 < cLine)(I:Inv X pins σ H s)(g:DGet H a y o)(ry:RelV y u)(rd:RelV d r)(h:∀w' s',Inv X pins σ H s'→RelV (o.getD d) w'→Q w' s') :
  wpAny (model X.prog X.w) A (call (.builtin "dict.get") [.ref a,u,r]) Q E s:=by
 rcases g with ⟨kvs,k,e,ey,l⟩|⟨kvs,k,b,e,ey,eb,l⟩
 ·subst ey
  obtain⟨z,hd,vs,rel,dd⟩:=dk_rd I.hok e
  refine call_meetsIn PySem.F.slot_dict_get dd.typeIs PySem.F.entry_dict_get (PySem.F.args_dict_get_3 _ _ _) (meets_dict_get_default (mixKind X.prog X.w) a (kV_is ry) hd r) ⟨_,dd.mapOf,h _ _ (I.tok _) ?_⟩
  rw [l]
  exact(rel.val k).getD rd
 ·subst ey
  cases (show u=Value.ref b from ry)
  obtain⟨z,hd,xs,rel,dd⟩:=dt_rd I.hok e
  refine call_meetsIn PySem.F.slot_dict_get dd.typeIs PySem.F.entry_dict_get (PySem.F.args_dict_get_3 _ _ _) (meetsH_dict_get_default (tupleKind (mixKind X.prog X.w)) a b hd r) ⟨tupleKind_room_in1 hu,k,xs,key_of I.hok eb,dd,h _ _ (I.tok _) ?_⟩
  rw [l]
  exact(rel.val k).getD rd
end
def tDGet1(td ty:TE):TE:=fun σ H Q=>td σ H fun x H1=>∃a,x=.ref a∧IsD H1 a∧ty σ H1 fun y H2=>∃o,DGet H2 a y o∧Q (o.getD .non) H2
def tDGet2(td ty tx:TE):TE:=fun σ H Q=>td σ H fun x H1=>∃a,x=.ref a∧IsD H1 a∧ty σ H1 fun y H2=>tx σ H2 fun z H3=>∃o,DGet H3 a y o∧Q (o.getD z) H3
section
variable{X:Cx}{o e f:Expr}{apos cpos:Pos}{td ty tx:TE}
theorem pe_dget1(hu:X.A.units+1 < cLine)(ho:PE X o td)(he:PE X e ty) (m:M1 X o "get" apos e cpos):PE X (.Call (.Attribute o "get" apos) [e] [] cpos) (tDGet1 td ty):=by
 intro pins s σ H Q I h
 refine wpAny_Call_method m.base m.few m.line PySem.F.plainAttrs_dict PySem.F.slot_dict_get PySem.F.type_dict_get (thn (ho pins s σ H _ I h) fun u s1 ⟨x,H1,I1,rx,a,ex,d,q1⟩=>?_)
 subst ex
 obtain rfl:u=Value.ref a:=rx
 obtain⟨t1,t2,_⟩:=isD_at I1 d
 refine⟨t1,t2,?_⟩
 rw [m.trees]
 refine Calls.callWith_builtin rfl (Calls.evalArgs_plain (Calls.spliced_cons (thn (he pins s1 σ H1 _ I1 q1) fun iv s2 ⟨y,H2,I2,ry,ov,g,q2⟩=>Calls.spliced_nil ?_)))
 exact d_get1 hu I2 g ry fun w' s3 I3 rw'=>⟨_,H2,I3,rw',q2⟩
theorem pe_dget2(hu:X.A.units+1 < cLine)(ho:PE X o td)(he:PE X e ty)(hf:PE X f tx) (m:M2 X o "get" apos e f cpos):PE X (.Call (.Attribute o "get" apos) [e,f] [] cpos) (tDGet2 td ty tx):=by
 intro pins s σ H Q I h
 refine wpAny_Call_method m.base m.few m.line PySem.F.plainAttrs_dict PySem.F.slot_dict_get PySem.F.type_dict_get (thn (ho pins s σ H _ I h) fun u s1 ⟨x,H1,I1,rx,a,ex,d,q1⟩=>?_)
 subst ex
 obtain rfl:u=Value.ref a:=rx
 obtain⟨t1,t2,_⟩:=isD_at I1 d
 refine⟨t1,t2,?_⟩
 rw [m.trees]
 refine Calls.callWith_builtin rfl (Calls.evalArgs_plain (Calls.spliced_cons (thn (he pins s1 σ H1 _ I1 q1) fun iv s2 ⟨y,H2,I2,ry,q2⟩ =>
  Calls.spliced_cons (thn (hf pins s2 σ H2 _ I2 q2) fun fv s3 ⟨z,H3,I3,rz,ov,g,q3⟩=>Calls.spliced_nil ?_))))
 exact d_get2 hu I3 g ry rz fun w' s4 I4 rw'=>⟨_,H3,I4,rw',q3⟩
end
section
variable{X:Cx}{pins:List (Addr × Obj)}{σ:St}{H:Hp}{s:Shared}{a:Addr}{kvs:List (Key × V)}{A:Around}{E:Value→Shared→Prop}
end
section
variable{X:Cx}{pins:List (Addr × Obj)}{σ:St}{H:Hp}{s:Shared}{a:Addr}{y:V}{u:Value}{A:Around}{E:Value→Shared→Prop}
end
end L2
namespace Att
open PySem PySem.W PySem.Calls PyProof.Rows
theorem ints_of_wellAll{P:Params}{h:Heap}:∀(ns:List Int) (vs:List Value),WellAll P h vs (ns.map WData.int)→IntsAre vs ns:=by
 intro ns
 induction ns with
 |nil =>
  intro vs w
  rw [List.map_nil] at w
  cases w
  exact .nil
 |cons n ns ih =>
  intro vs w
  rw [List.map_cons] at w
  cases w with
  |cons a b =>
   cases a
   exact .cons _ _ (ih _ b)
theorem script_of{l:OpenLaw}{n:Nat}(hn:l.most=some n){P:Params}{h:Heap}{args:List WData}{vals:List Value}
  (hpre:l.row.toRowW.claim.pre args=true) (hwl:WellAll P h vals args) :
  ∃a vs ns,vals=[Value.ref a]∧args=[WData.list (ns.map WData.int)]∧h.get? a=some { cls:=.type "list",data:=.seq vs.toArray }∧IntsAre vs ns∧ns.length≤n:=by
 have hsh:WShape.hasAll [] args [.list .int]=true:=(pre_splitW hpre).1
 have hc:l.pre.holds [] { args:=args }=true:=(pre_splitW hpre).2
 obtain⟨d,r,rfl,h1,h2⟩:=hasAllW_cons hsh
 obtain rfl:=hasAllW_nil h2
 obtain⟨xs,rfl,h3⟩:=hasW_list h1
 obtain⟨ns,rfl⟩:=items_int h3
 have hlen:ns.length≤n:=by
  unfold OpenLaw.pre at hc
  have h4:(WTm.not (.lt (.lit (.int (n:Int))) (.len (.arg 0)))).holds [] { args:=[.list (ns.map .int)] }=true:=by
   have h4:=(holds_andW hc).1
   rw [hn] at h4
   exact h4
  have h5:=condW_of h4 (w_not (w_lt w_lit (w_len_list (w_arg rfl))))
  rw [List.length_map] at h5
  refine Nat.le_of_not_lt fun q=>?_
  have q':(n:Int) < ((ns.length:Nat):Int):=by omega
  first
   |(rw [decide_eq_true q'] at h5;exact absurd h5 (by decide))
   |(simp at h5;omega)
 cases hwl with
 |cons w1 w2 =>
  cases w2
  cases w1 with
  |list ho hall=>exact⟨_,_,ns,rfl,rfl,ho,ints_of_wellAll ns _ hall,hlen⟩
theorem post_true(l:OpenLaw)(args:List WData):l.row.toRowW.claim.post args (.bool true) args=true :=
 postW_of (r:=l.row.toRowW) (X:=(true==true))
  (show WShape.has [] (.bool true) .bool=true by first|rfl|decide|simp [WShape.has,WShape.arms,WShape.armsAll])
  (show(WTm.eq .res (.lit (.bool true))).value [] { args:=args,res:=some (.bool true),after:=args }=some (.bool (true==true)) from w_eq_bool (w_res rfl) w_lit) rfl
theorem attach_call{l:OpenLaw}{n:Nat}{q:Program}{loose:List Str}{XP:(Str→Option Value)→Heap→Prop}{YP:World→Heap→Prop}{d:DefRec}
  (hn:l.most=some n) (hdf:d.params.defaults=[])
  (call:∀(w:World) (s₀ s₁:Shared) (mg mb:Str→Option Value) (fa:Addr) (o:Obj) (pm cd doc:Value) (a:Addr) (vs:List Value) (ns:List Int),
   Ground q loose [] XP w s₀ mg mb s₁.heap→YP w s₁.heap →
   s₁.heap.get? fa=some o→o.data=.func (docDef d.name d.params d.body d.scope pm cd doc)→s₁.heap.CodeRec cd d.name→mg d.name=some (.ref fa) →
   s₁.heap.get? a=some { cls:=.type "list",data:=.seq vs.toArray }→IntsAre vs ns→ns.length≤n→s₁.gens=#[] →
   codeAny (model l.prog w) callerA (.call (.ref fa) ⟨[.ref a],[]⟩) (fun r s'=>r=.ok (.ret (.bool true))∧OldK s₁.heap s'.heap∧s'.os=s₁.os∧AllBare s'.gens) s₁) :
  WalkO q loose XP YP l.row.toRowW d [] (fun f vs=>PySem.call f vs):=by
 intro w s₀ s₁ mg mb G Y fa o pm cd doc dV kV ho hd hcd hD hmg hg args vals as hpre hlay hrd hwl hlo
 obtain rfl:dV=.none:=Dflts.none hD hdf
 obtain rfl:kV=.none:=Dflts.noKw hD
 obtain⟨a,vs,ns,rfl,rfl,hobj,hints,hlen⟩:=script_of hn hpre hwl
 refine enter_call (codeAny_mono (call w s₀ s₁ mg mb fa o pm cd doc a vs ns G Y ho (fd_plain hd) hcd hmg hobj hints hlen hg) fun r s' hq=>?_)
 obtain⟨rfl,h2,h3,h4⟩:=hq
 exact⟨.inl ⟨.bool true,.bool true,[],rfl,fun _=>rfl,.bool true,post_true l _,fun _=>⟨List.Pairwise.nil,fun _ hm=>(nomatch hm)⟩⟩,h2,h3,h4⟩
section
variable{prog:Program}{w:World}{A:Around}{E:Value→Shared→Prop}{s:Shared}{K:Frag}
def ledger(h:Heap)(L d:Addr):List (Addr × Obj):=(List.range h.objs.size).filterMap fun a=>if a=L∨a=d then none else (h.get? a).map fun o=>(a,o)
end
end Att
namespace L2
open PySem PySem.Spec PyProof.Rows
theorem vals_ints:∀{vs:List Value} {ns:List Int},IntsAre vs ns→Vals (ns.map V.int) vs
 |_,_,.nil=>.nil
 |_,_,.cons n t h=>.cons ⟨t,rfl⟩ (vals_ints h)
def Only(H:Hp):Prop:=∀b,H b=none∨∃o xs,H b=some (.frz o (.lst xs))
theorem law_call{P:Program}{w:World}{K:PySem.W.Frag}{mg mb:Str→Option Value}{CX:CXT}{k:Nat}{fa a:Addr}{fd:FuncData}{x:Str}{sp:Sp}{s₁:Shared}{vs:List Value}{ns:List Int}
  (KX:K.In s₁.heap) (hns:s₁.heap.Ns mainGlobals mg) (hb:s₁.heap.Ns builtinsNs mb) (hbb:∀x:Str,x≠"__name__"→mb x=bootBuiltins x) (hlim:s₁.heap.NoLimit) (hg:s₁.gens=#[])
  (ha:s₁.heap.get? a=some { cls:=.type "list",data:=.seq vs.toArray }) (hi:IntsAre vs ns) (hl:ns.length≤sizeLine) (hr:Room k callerA)
  (F:∀base:Heap,K.In base→base.Ns mainGlobals mg→FnOk P w K mg base CX k fa fd [x] sp) (hbind:∀(s:Shared) (u:Value),BindsTo s fd ⟨[u],[]⟩ [(x,u)])
  (hsp:∀H:Hp,Only H→SqL K H a (ns.map V.int)→sp [.ref a] H (fun v _=>v=.bl true) fun _ _ _=>False)
  (hCX:∀H e s',CX [] H s₁ (fun _ _ _=>False) e s'→False) :
  codeAny (model P w) callerA (.call (.ref fa) ⟨[.ref a],[]⟩) (fun r s'=>r=.ok (.ret (.bool true))∧OldK s₁.heap s'.heap∧s'.os=s₁.os∧AllBare s'.gens) s₁:=by
 have rv:=vals_ints hi
 have lenV:=hi.length
 have core:∀H:Hp,Only H→SqL K H a (ns.map V.int)→HOk P w H s₁.heap→(∀b,H b≠none→b=a)→(H a≠none→K.lookup a=none) →
   codeAny (model P w) callerA (.call (.ref fa) ⟨[.ref a],[]⟩) (fun r s'=>r=.ok (.ret (.bool true))∧OldK s₁.heap s'.heap∧s'.os=s₁.os∧AllBare s'.gens) s₁:=by
  intro H hO hS hok hA hK
  have base_of:∀{b:Addr} {o:Obj},s₁.heap.get? b=some o→H b=none→(hidT s₁.heap H).get? b=some o:=fun e n=>hidT_get e n
  have noA:∀{b:Addr} {o:Obj} {es:Array DictEntry} {ep:Nat},s₁.heap.get? b=some o→o.data=.dict es ep→H b=none:=fun {b o es ep} e d=>by
   cases q:H b with
   |none=>rfl
   |some u =>
    have e':b=a:=hA b (by rw [q];simp)
    subst e'
    rw [ha] at e;cases e
    have d':Data.seq vs.toArray _=Data.dict es ep:=d
    cases d'
  have nsK:∀{b:Addr} {m:Str→Option Value},s₁.heap.Ns b m→(hidT s₁.heap H).Ns b m:=fun {b m} ⟨o,es,ep,e,d,r⟩=>⟨o,es,ep,base_of e (noA e d),d,r⟩
  have hKb:K.In (hidT s₁.heap H):=fun b o e=>base_of (KX b o e) (by
   cases q:H b with
   |none=>rfl
   |some u =>
    have e':b=a:=hA b (by rw [q];simp)
    subst e'
    rw [hK (by rw [q];simp)] at e;cases e)
  have hM:Mod K mg (hidT s₁.heap H):=⟨hKb,nsK hns,⟨mb,nsK hb,hbb⟩,let ⟨mc,h1,h2⟩:=hlim;⟨mc,nsK h1,h2⟩⟩
  have e0:Env0 P w K mg (hidT s₁.heap H) callerA [] s₁ H:=⟨rfl,hM,fun b o e=>of_hidT e,Nat.le_of_eq (hidT_size _ _),trivial,fun b hb=>absurd (show b∈([]:List Addr) from hb) (by simp),hok,.of_eq hg⟩
  refine codeAny_mono ((F _ hKb (nsK hns)).run callerA [] s₁ H ⟨[.ref a],[]⟩ [.ref a] [.ref a] _ _ hr e0 (hbind s₁ (.ref a)) (.cons rfl .nil) (hsp H hO hS)) fun r s' h=>?_
  cases r with
  |error e=>exact(hCX H e s' h).elim
  |ok fl =>
   cases fl with
   |next=>exact False.elim h
   |brk=>exact False.elim h
   |cont=>exact False.elim h
   |ret u =>
    obtain⟨v,H',os,bare,un,hok',r',q⟩:=h
    have q':v=.bl true:=q
    subst q'
    obtain rfl:u=Value.bool true:=r'
    refine⟨rfl,OldK.of_keep fun b o e=>?_,os,bare⟩
    cases q:H b with
    |none=>exact un.keep b o e q (by intro z;exact absurd (show b∈([]:List Addr) from z) (by simp)) (by simp)
    |some u =>
     rcases hO b with z|⟨ob,xs,z⟩
     ·rw [q] at z;cases z
     ·have z2:=un.frzs b ob _ z
      obtain⟨e1,_⟩:=hok b _ z
      obtain⟨e2,_⟩:=hok' b _ z2
      rw [e] at e1;cases e1
      exact e2
 cases hk:K.lookup a with
 |some o =>
  have e:=KX a o hk
  rw [ha] at e
  cases e
  refine core (fun _=>none) (fun _=>.inl rfl) (.inr ⟨_,vs.toArray,_,hk,rfl,rfl,rfl,by rw [List.size_toArray,lenV];exact hl,by simpa using rv⟩) (fun b u z=>by have z':(none:Option HO)=some u:=z;cases z') (fun b z=>absurd rfl z) fun z=>absurd rfl z
 |none =>
  refine core (fun b=>if b=a then some (.frz { cls:=.type "list",data:=.seq vs.toArray } (.lst (ns.map V.int))) else none) (fun b=>?_) (.inl (.inr ⟨{ cls:=.type "list",data:=.seq vs.toArray },if_pos rfl⟩)) (fun b u z=>?_) (fun b z=>?_) fun _=>hk
  ·by_cases hb:b=a
   ·exact .inr ⟨_,_,if_pos hb⟩
   ·exact .inl (if_neg hb)
  ·by_cases hb:b=a
   ·have z':=(if_pos hb).symm.trans z
    cases z'
    subst hb
    exact⟨ha,by rw [List.length_map];exact hl,vs,_,rv,ha⟩
   ·have z':=(if_neg hb).symm.trans z
    cases z'
  ·by_cases hb:b=a
   ·exact hb
   ·exact absurd (if_neg hb) z
end L2
namespace L2
open PySem PySem.Spec PyProof.Rows
abbrev KOf{K:PySem.W.Frag}{h:Heap}(_:K.In h):PySem.W.Frag:=K
theorem walk_of{l:PySem.W.OpenLaw}{n k:Nat}{q:Program}{loose:List Str}{XP:(Str→Option Value)→Heap→Prop}{YP:World→Heap→Prop}{d:DefRec}{K:Params→PySem.W.Frag}{CX:World→CXT}{sp:World→Sp}{x:Str}
  (hn:l.most=some n) (hn2:n≤sizeLine) (hdf:d.params.defaults=[]) (hr:Room k callerA)
  (hY:∀(w:World) (h:Heap),YP w h→(K w.params).In h)
  (F:∀(w:World) (mg:Str→Option Value) (fa:Addr) (h:Heap),(K w.params).In h→h.Ns mainGlobals mg→mg d.name=some (.ref fa) →
   ∃fd:FuncData,(∀(s:Shared) (u:Value),BindsTo s fd ⟨[u],[]⟩ [(x,u)]) ∧
    ∀base:Heap,(K w.params).In base→base.Ns mainGlobals mg→FnOk l.prog w (K w.params) mg base (CX w) k fa fd [x] (sp w))
  (hsp:∀(w:World) (H:Hp) (a:Addr) (ns:List Int),ns.length≤n→Only H→SqL (K w.params) H a (ns.map V.int)→sp w [.ref a] H (fun v _=>v=.bl true) fun _ _ _=>False)
  (hCX:∀(w:World) (H:Hp) (s:Shared) (e:Value) (s':Shared),CX w [] H s (fun _ _ _=>False) e s'→False) :
  PySem.W.WalkO q loose XP YP l.row.toRowW d [] (fun f vs=>PySem.call f vs):=by
 refine Att.attach_call hn hdf fun w s₀ s₁ mg mb fa o pm cd doc a vs ns G Y ho hd hcd hmg hobj hints hlen hg=>?_
 have KX:=hY w _ Y
 obtain⟨fd,hb,hF⟩:=F w mg fa _ KX G.T.g hmg
 exact law_call KX G.T.g G.T.b G.T.builtins G.T.nolimit hg hobj hints (Nat.le_trans hlen hn2) hr hF hb (fun H hO hS=>hsp w H a ns hlen hO hS) fun H e s'=>hCX w H s₁ e s'
end L2
/- THE LAST THEOREM (shape;LID,My.* are yours):
   My.Adr: a structure of the addresses that your layer names (classes,functions);My.Txt K t: a structure (Prop) of the equations over K;
   My.txt_mk:{K} {implicit addresses ..} (e1:nsIn K mainGlobals "law"=some (some (.ref f))) (e2:K.lookup f=some ⟨oc,od,.func (fnOf "law" "law" params body scope dV kV doc pm an cdv ct),sl⟩) (e3:codeIn K cdv "law"=true) ..:∃t,My.Txt K t
set_option maxRecDepth 100000 in
set_option maxHeartbeats 0 in
theorem PySem.Challenge.cw_LID_holds : PySem.Challenge.rw_LID.Holds := by
 w_on;o_law;k_head;(case hw=>w_witness2)
 k_fill
 refine L2.walk_of (l:=PySem.Challenge.rw_LID) (n:=63) (k:=40) (x:="script") (CX:=fun w=>..) (sp:=fun _=>My.sp_law) rfl (by decide) rfl ⟨rfl,by decide,by decide⟩ (fun w h Y=>PySem.W.kIn_of Y) ?F ?S ?C
 case F =>
  intro w mg fa h KX G hmg
  have T:∃t,My.Txt (L2.KOf KX) t:=by
   dsimp only [L2.KOf]                          -- K must stand as «<heap const> w.params» for k_is
   refine' My.txt_mk ?e1 ?e2 ?e3 ..
   (case e1=>PySem.W.k_is)                    -- in the order: a name -> its address -> its object -> its parts
   (case e2=>PySem.W.k_is)
   ..
  obtain⟨t,T⟩:=T
  have e0:=hmg.symm.trans (PySem.W.mg_of KX G T.law)
  cases e0                                       -- fa is the law's own address
  exact⟨_,fun s u=>.of_eq rfl,fun base kb nb=>My.law_fn T kb nb⟩     -- if «.of_eq rfl» comes too early: refine' ⟨_,?b,fun base kb nb=>My.law_fn T kb nb⟩;exact fun s u=>.of_eq rfl
 case S=>exact fun w H a ns hl hO hS=>..
 case C=>exact ..
(the tactic k_is has no namespace: write k_is) -/
namespace L2
open PySem PySem.Spec PyProof.Rows
def inClass(s:Stmt)(j:Nat):Stmt:=match s with
 |.ClassDef _ _ _ body _ _ _ _ _ _ _=>body.getD j (.Pass ⟨0,0,0,0⟩)
 |_=>.Pass ⟨0,0,0,0⟩
def defArgs(s:Stmt):Arguments:=match s with
 |.FunctionDef _ a _ _ _ _ _ _ _ _=>a
 |_=>{ posonlyargs:=[],args:=[],vararg:=none,kwonlyargs:=[],kw_defaults:=[],kwarg:=none,defaults:=[] }
def defBody(s:Stmt):List Stmt:=match s with
 |.FunctionDef _ _ b _ _ _ _ _ _ _=>b
 |_=>[]
def defScope(s:Stmt):Scope:=match s with
 |.FunctionDef _ _ _ _ _ _ sc _ _ _=>sc
 |_=>{ kind:=.function,names:=[],isGenerator:=false,isCoroutine:=false }
abbrev CX0:CXT:=fun _ _ _ _ _ _=>False
abbrev E0:XK:=fun _ _ _=>False
theorem pass0{X:Cx}:Passes CX0 X E0:=fun _ _ _ _ _ _ _ h=>h.elim
structure Fun(K:PySem.W.Frag)(x qual:Str)(st:Stmt)(f:Addr)(fd:FuncData):Prop where
 ex:∃(oc:Value) (od:Option Addr) (kV doc pm:Value) (an:Option Addr) (cdv ct:Value) (osl:Array (Option Value)),
  fd=PySem.W.fnOf x qual (defArgs st) (defBody st) (defScope st) .none kV doc pm an cdv ct∧K.lookup f=some ⟨oc,od,.func fd,osl⟩∧PySem.W.codeIn K cdv qual=true
 kp:PySem.W.keepIn K (.ref f)=true
section
variable{P:Program}{w:World}{K:PySem.W.Frag}{mg:Str→Option Value}{base:Heap}
theorem Fun.ok{x qual:Str}{st:Stmt}{f:Addr}{fd:FuncData}{N ps:List Str}{k:Nat}{sp:Sp}(F:Fun K x qual st f fd)(S:FnScope N ps (defScope st))(len:∀vs H Q E,sp vs H Q E→vs.length=ps.length)
  (hbody:∀(cdv:Value) (A:Around) (outer:List Env) (s:Shared) (H:Hp) (vs:List V) (Q:VK) (E:XK),Room k (A.deeper (envOfC qual (defScope st) s.heap.objs.size f cdv))→sp vs H Q E →
   ∃t,PSs (cxOf CX0 P w K mg base N qual (defScope st) f cdv A outer s H E).nox (defBody st) t∧t { nx:=fun _ H'=>Q .non H',rt:=Q } (start N vs) H):FnOk P w K mg base CX0 (k+1) f fd ps sp:=by
 obtain⟨oc,od,kV,doc,pm,an,cdv,ct,osl,rfl,lk,hcd⟩:=F.ex
 refine fn_of lk hcd S len fun A outer s H vs Q E hr hsp=>?_
 obtain⟨t,h,q⟩:=hbody cdv A outer s H vs Q E hr hsp
 exact⟨t,h.nox,q⟩
theorem Fun.binds{x qual:Str}{st:Stmt}{f:Addr}{fd:FuncData}{ps:List Str}(F:Fun K x qual st f fd)
  (h:∀(kV doc pm:Value) (an:Option Addr) (cdv ct:Value) (us:List Value),us.length=ps.length→bindArgs (PySem.W.fnOf x qual (defArgs st) (defBody st) (defScope st) .none kV doc pm an cdv ct) ⟨us,[]⟩=pure (ps.zip us)):Binds K fd ps []:=by
 obtain⟨oc,od,kV,doc,pm,an,cdv,ct,osl,rfl,lk,hcd⟩:=F.ex
 exact .all (h kV doc pm an cdv ct)
theorem fun_mk{x qual:Str}{st:Stmt}{f:Addr}{oc:Value}{od an:Option Addr}{osl:Array (Option Value)}{kV doc pm cdv ct:Value}(l:K.lookup f=some ⟨oc,od,.func (PySem.W.fnOf x qual (defArgs st) (defBody st) (defScope st) .none kV doc pm an cdv ct),osl⟩)
  (c:PySem.W.codeIn K cdv qual=true) (k:PySem.W.keepIn K (.ref f)=true):Fun K x qual st f (PySem.W.fnOf x qual (defArgs st) (defBody st) (defScope st) .none kV doc pm an cdv ct):=⟨⟨oc,od,kV,doc,pm,an,cdv,ct,osl,rfl,l,c⟩,k⟩
end
theorem hu_of{A:Around}{k:Nat}(hr:Room k A):A.units+1 < cLine:=Nat.lt_of_le_of_lt (Nat.add_le_add_left (by decide:1≤64) _) hr.units
theorem small1000{n:Nat}(h:n≤1000):n < sizeLine:=Nat.lt_of_le_of_lt h (by decide)
section
variable{X:Cx}
theorem pv(i:Nat){x:Str}{pos:Pos}(hN:X.N[i]?=some x:=by rfl)(hv:Vis X.env.scope x:=by first|exact Or.inl rfl|exact Or.inr (Or.inl rfl)|exact Or.inr (Or.inr rfl)) (hd:(x==("__debug__":Str))=false:=by decide)
  (hcd:(x==("__classdict__":Str))=false:=by decide):PE X (.Name x pos) (tVar i):=pe_var hN hv hd hcd
end
theorem iteF{A B:Prop}(h:B):if false=true then A else B:=by
 rw [if_neg Bool.false_ne_true]
 exact h
theorem iteT{A B:Prop}(h:A):if true=true then A else B:=by
 rw [if_pos rfl]
 exact h
theorem ite2{c A B:Prop}[Decidable c](h1:c→A)(h2:¬c→B):if c then A else B:=by
 by_cases h:c
 ·rw [if_pos h]
  exact h1 h
 ·rw [if_neg h]
  exact h2 h
def Same(H H':Hp):Prop:=∀b o,H b=some o→H' b=some o
theorem Same.refl(H:Hp):Same H H:=fun _ _ h=>h
theorem Same.trans{H H1 H2:Hp}(a:Same H H1)(b:Same H1 H2):Same H H2:=fun c o h=>b c o (a c o h)
theorem Same.free{H H':Hp}(e:Same H H'){l:Addr}(h:H' l=Option.none):H l=Option.none:=by
 cases q:H l with
 |none=>rfl
 |some o =>
  rw [e l o q] at h
  cases h
theorem Same.seq{K:PySem.W.Frag}{H H':Hp}{a:Addr}{xs:List V}(e:Same H H')(h:SqL K H a xs):SqL K H' a xs:=by
 rcases h with (h|⟨o,h⟩)|h
 ·exact .inl (.inl (e _ _ h))
 ·exact .inl (.inr ⟨o,e _ _ h⟩)
 ·exact .inr h
end L2
namespace L2
open PySem PySem.Spec PyProof.Rows
section
variable{X:Cx}
end
end L2
namespace L2
open PySem PySem.Spec PyProof.Rows
section
variable{κ:Type}[DecidableEq κ]
end
end L2
namespace L2
open PySem PySem.Spec PyProof.Rows
section
variable{X:Cx}{tg:Expr}
end
abbrev blk(X:Cx)(N':List Str)(sc:Scope)(cl:List (Str × Addr))(s₀:Shared)(H₀:Hp)(C:Addr)(ex:List Addr):Cx :=
 { X with N:=N',s₀:=s₀,H₀:=H₀,env:=compEnvC sc cl C X.env,outer:=X.stack,ex:=ex,fn:=fun _=>false,xe:=fun _ _=>False }
structure BlkSc(X:Cx)(caps:List Str)(sc:Scope)(cl:List (Str × Addr)):Prop where
 kind:sc.kind=.function
 nocell:∀y∈sc.names,y.2≠.cell
 names:∀y∈sc.names,y.2=.local→sc.names.lookup y.1=some .local
 clos:closureFor sc X.env=pure cl
 has:(sc.names.all fun y=>y.2 != .free||(cl.lookup y.1).isSome)=true
 sub:∀y∈cl,X.env.cells.lookup y.1=some y.2
 caps:∀x∈caps,(X.env.kindOf x=some .cell∨X.env.kindOf x=some .free)∧(cl.lookup x).isSome=true∧((relabel sc X.env).names.lookup x=some .cell∨(relabel sc X.env).names.lookup x=some .free)
theorem relabel_inv{env:Env}:∀{names:List (Str × NameKind)} {x:Str} {k:NameKind},(names.map fun(n,k)=>if (k==NameKind.free&&env.scope.kind==.function&&env.kindOf n==some .cell) then (n,NameKind.cell) else (n,k)).lookup x=some k →
  ∃k',(x,k')∈names∧(k'=k∨k'=.free)
 |[],_,_,h=>by simp at h
 |(n,k0)::r,x,k,h=>by
  have h':List.lookup x ((if (k0==NameKind.free&&env.scope.kind==.function&&env.kindOf n==some .cell)=true then (n,NameKind.cell) else (n,k0))::(r.map fun(n,k)=>if (k==NameKind.free&&env.scope.kind==.function&&env.kindOf n==some .cell) then (n,NameKind.cell) else (n,k)))=some k:=h
  by_cases hx:x=n
  ·subst hx
   refine⟨k0,List.mem_cons_self,?_⟩
   by_cases hc:(k0==NameKind.free&&env.scope.kind==.function&&env.kindOf x==some .cell)=true
   ·have hf:(k0==NameKind.free)=true:=by
     rw [Bool.and_eq_true,Bool.and_eq_true] at hc
     exact hc.1.1
    exact .inr (by cases k0<;>first|rfl|exact absurd hf (by decide))
   ·rw [if_neg hc,List.lookup_cons_self] at h'
    exact .inl (Option.some.inj h')
  ·have hb:(x==n)=false:=beq_eq_false_iff_ne.mpr hx
   have h2:(r.map fun(n,k)=>if (k==NameKind.free&&env.scope.kind==.function&&env.kindOf n==some .cell) then (n,NameKind.cell) else (n,k)).lookup x=some k:=by
    split at h'<;>simpa [List.lookup_cons,hb] using h'
   obtain⟨k',hm,hk⟩:=relabel_inv h2
   exact⟨k',List.mem_cons_of_mem _ hm,hk⟩
theorem BlkSc.hasc{X:Cx}{caps:List Str}{sc:Scope}{cl:List (Str × Addr)}(S:BlkSc X caps sc cl){x:Str}(h:(relabel sc X.env).names.lookup x=some .cell∨(relabel sc X.env).names.lookup x=some .free):∃c,cl.lookup x=some c:=by
 have key:(x,NameKind.free)∈sc.names:=by
  rcases h with h|h
  ·obtain⟨k',hm,hk⟩:=relabel_inv h
   rcases hk with rfl|rfl
   ·exact absurd rfl (S.nocell _ hm)
   ·exact hm
  ·obtain⟨k',hm,hk⟩:=relabel_inv h
   rcases hk with rfl|rfl<;>exact hm
 have q:=List.all_eq_true.mp S.has _ key
 have q2:(cl.lookup x).isSome=true:=by simpa using q
 exact Option.isSome_iff_exists.mp q2
theorem BlkSc.subc{X:Cx}{caps:List Str}{sc:Scope}{cl:List (Str × Addr)}(S:BlkSc X caps sc cl){x:Str}{c:Addr}(h:cl.lookup x=some c):X.env.cells.lookup x=some c:=S.sub _ (PySem.mem_of_lookup h)
def blkSt(n:Nat)(κ:List Nat)(σ:St):St:=List.replicate n none++κ.map fun k=>(σ[k]?).join
def CompRun(n:Nat)(κ:List Nat)(g:TG)(tc:TT)(te:TE)(σ:St)(J:It)(H1:Hp)(Q:VK):Prop :=
 ∃W:Nat→Nat→List V→Hp→Prop,(∃m,W 0 m [] H1)∧∀i m ys H2,W i m ys H2 →
  (J.stop i H2∧∀D,H2 D=none→Q (.ref D) (upd H2 D (.lst ys))) ∨
  (J.go i H2∧ys.length < sizeLine∧∀x H3,J.yld i H2 x H3→g x (blkSt n κ σ) H3 fun σ4 H4=>σ4.drop n=(blkSt n κ σ).drop n ∧
   tc σ4 H4 fun b H5=>if b=true then te σ4 H5 fun v H6=>∃m',m' < m∧W (i+1) m' (ys++[v]) H6 else ∃m',m' < m∧W (i+1) m' ys H5)
def tComp(n:Nat)(κ:List Nat)(wi:TI)(g:TG)(tc:TT)(te:TE):TE:=fun σ H Q=>wi σ H fun J H1=>CompRun n κ g tc te σ J H1 Q
def tYes:TT:=fun _ H Q=>Q true H
theorem tYes_go{σ:St}{H:Hp}{A B:Hp→Prop}(h:A H):tYes σ H fun b H5=>if b=true then A H5 else B H5:=by
 show(if true=true then A H else B H)
 rw [if_pos rfl]
 exact h
section
variable{X:Cx}{pins:List (Addr × Obj)}{σ:St}{H:Hp}{s:Shared}
theorem Inv.block{caps:List Str}{own:List Str}{κ:List Nat}{sc:Scope}{cl:List (Str × Addr)}{fp:List Addr}{h₁:Heap}{tk:Nat}(S:BlkSc X caps sc cl)(hκ:κ.map (fun k=>X.N[k]?)=caps.map some)(I:Inv X pins σ H s)
  (f2:∀b∈fp,FpOk X pins H b) (hfp:∀b∈fp,b < s.heap.objs.size)
  {hp:Heap} {ol:Obj} (ehp:hp=s.heap.push ol) (hns:h₁.Ns hp.objs.size fun _=>none) (old:∀b o,hp.get? b=some o→h₁.get? b=some o) :
  Inv (blk X (own++caps) sc cl { s with heap:=hp } H hp.objs.size (s.heap.objs.size::fp)) pins (blkSt own.length κ σ) H { s with heap:=h₁,toks:=tk }:=by
 have hsz:hp.objs.size=s.heap.objs.size+1:=by rw [ehp,Heap.size_push]
 have up:∀b o,s.heap.get? b=some o→hp.get? b=some o:=fun b o e=>by rw [ehp];exact Heap.get?_push_of_some _ e
 have I3:Inv X pins σ H { s with heap:=hp }:=I.kept (t':=s.toks) up
 have stk:∀b,b≠X.env.locals→b∉X.fs→b∉frs X.stack:=fun b h1 h2 z=>(List.mem_cons.mp (I.stkSub b z)).elim h1 h2
 have dD:s.heap.objs.size≠X.env.locals:=Nat.ne_of_gt I.lt
 have cellLt:∀x c,X.env.cells.lookup x=some c→c < s.heap.objs.size:=fun x c e=>by
  obtain⟨v,q⟩:=I.cell x c e
  exact q.lt
 have ltC:∀b,b < s.heap.objs.size→b≠hp.objs.size:=fun b hb=>by rw [hsz];exact Nat.ne_of_lt (Nat.lt_succ_of_lt hb)
 have cellK:∀c v,s.heap.IsCell c v→h₁.IsCell c v:=fun c v ⟨o,ho,hd⟩=>⟨o,old _ _ (up _ _ ho),hd⟩
 refine⟨⟨I.ok.mod,?_,I.ok.glob,I.ok.blt,Nat.le_refl _,fun x y c h1 h2=>I.ok.inj x y c (S.subc h1) (S.subc h2),fun x h=>S.hasc h,fun _ _ z=>absurd z Bool.false_ne_true,I.ok.hd,I.ok.frames,.inl rfl,fun b hb=>?_,fun b o e=>⟨up _ _ (I.bs b o e).1,(I.bs b o e).2⟩,
   Nat.le_trans (Nat.le_trans I.ok.bsz I.sz) (by show s.heap.objs.size≤hp.objs.size;rw [hsz];exact Nat.le_succ _),fun b o e hb=>?_,fun b hb=>?_,I3.stack,I.stkFree⟩,
  rfl,I.bare,Un.kept old,⟨_,hns,fun i x v e1 e2 e3=>?_⟩,fun x c h=>?_,I.hok.fresh (by rw [hsz];exact Nat.le_succ _),fun x c h=>I.freeC x c (S.subc h),fun p hp'=>?_,I.hok.kept fun b u e=>old _ _ (up _ _ e),?_⟩
 ·show(relabel sc X.env).kind=.function
  exact S.kind
 ·show b≠hp.objs.size∧∀x c,cl.lookup x=some c→c≠b
  rcases List.mem_cons.mp hb with rfl|hb
  ·exact⟨by rw [hsz];exact Nat.ne_of_lt (Nat.lt_succ_self _),fun x c h=>Nat.ne_of_lt (cellLt x c (S.subc h))⟩
  ·exact⟨ltC b (hfp b hb),fun x c h=>(f2 b hb).2.2.2.2.1 x c (S.subc h)⟩
 ·have hlt:b < X.s₀.heap.objs.size:=Nat.lt_of_lt_of_le (Heap.lt_size e) I.ok.bsz
  rcases List.mem_cons.mp hb with rfl|hb
  ·exact absurd (Nat.lt_of_lt_of_le hlt I.sz) (Nat.lt_irrefl _)
  ·rcases (f2 b hb).2.2.2.1 with z|z
   ·exact I.ok.noex b o e z
   ·exact absurd (Nat.lt_of_lt_of_le hlt z) (Nat.lt_irrefl _)
 ·rcases List.mem_cons.mp hb with rfl|hb
  ·exact stk _ dD (I.nofs (Nat.le_refl _))
  ·exact stk _ (f2 b hb).2.1 (f2 b hb).2.2.1
 ·have e1':(own++caps)[i]?=some x:=e1
  have hlen:(List.replicate own.length (none:Option V)).length=own.length:=List.length_replicate
  have hge:own.length≤i:=by
   refine Nat.le_of_not_lt fun hlt=>?_
   unfold blkSt at e2
   rw [List.getElem?_append_left (by rw [hlen];exact hlt),List.getElem?_replicate,if_pos hlt] at e2
   cases e2
  unfold blkSt at e2
  rw [List.getElem?_append_right (by rw [hlen];exact hge),hlen,List.getElem?_map] at e2
  rw [List.getElem?_append_right hge] at e1'
  cases ek:κ[i - own.length]? with
  |none=>rw [ek] at e2;cases e2
  |some k =>
   rw [ek] at e2
   have e2':(σ[k]?).join=some v:=Option.some.inj e2
   have e4:σ[k]?=some (some v):=by
    cases eσ:σ[k]? with
    |none=>rw [eσ] at e2';cases e2'
    |some w=>rw [eσ] at e2';exact congrArg some e2'
   have e5:X.N[k]?=some x:=by
    have z:=congrArg (fun l=>l[i - own.length]?) hκ
    simp only [List.getElem?_map,ek,e1',Option.map_some] at z
    exact Option.some.inj z
   obtain⟨c1,c2,c3⟩:=S.caps x (List.mem_of_getElem? e1')
   obtain⟨m,hn,hl⟩:=I.loc
   obtain⟨u,r,l⟩:=hl k x v e5 e4 (c1.elim (fun z=>.inr (.inl z)) fun z=>.inr (.inr z))
   refine⟨u,r,?_⟩
   rcases l with ⟨hk,_⟩|⟨_,c,hc,hcell⟩
   ·rcases c1 with z|z<;>(rw [hk] at z;cases z)
   ·obtain⟨c',hc'⟩:=Option.isSome_iff_exists.mp c2
    have ecc:c'=c:=Option.some.inj ((S.subc hc').symm.trans hc)
    subst ecc
    exact .inr ⟨c3,c',hc',cellK _ _ hcell⟩
 ·obtain⟨v,q⟩:=I.cell x c (S.subc h)
  exact⟨v,cellK c v q⟩
 ·obtain⟨e,n,ne,nf,d⟩:=I.pin p hp'
  exact⟨old _ _ (up _ _ e),n,ltC _ (Heap.lt_size e),stk _ ne nf,d⟩
 ·show(blkSt own.length κ σ).length=(own++caps).length
  have z:=congrArg List.length hκ
  rw [List.length_map,List.length_map] at z
  unfold blkSt
  rw [List.length_append,List.length_append,List.length_replicate,List.length_map,z]
theorem Inv.unblock{own caps:List Str}{sc:Scope}{cl:List (Str × Addr)}{fp:List Addr}{H':Hp}{s4:Shared}{σ':St}{pins':List (Addr × Obj)}{hp h':Heap}{ol:Obj}{ys:List V}{its:List Value}{cap:Nat}(I:Inv X pins σ H s)
  (f2:∀b∈fp,FpOk X pins H b) (ehp:hp=s.heap.push ol)
  (J:Inv (blk X (own++caps) sc cl { s with heap:=hp } H hp.objs.size (s.heap.objs.size::fp)) pins' σ' H' s4)
  (hD:s4.heap.get? s.heap.objs.size=some { cls:=.type "list",data:=.seq its.toArray cap }) (nD:H' s.heap.objs.size=none) (r:Vals ys its) (hz:ys.length≤sizeLine) (sb:Heap.SameBut hp.objs.size s4.heap h') :
  Inv X pins σ (upd H' s.heap.objs.size (.lst ys)) { s4 with heap:=h' }:=by
 have hsz:hp.objs.size=s.heap.objs.size+1:=by rw [ehp,Heap.size_push]
 have up:∀b o,s.heap.get? b=some o→hp.get? b=some o:=fun b o e=>by rw [ehp];exact Heap.get?_push_of_some _ e
 have nDs:H s.heap.objs.size=none:=I.hok.fresh (Nat.le_refl _)
 have neD:∀b o,s.heap.get? b=some o→b≠s.heap.objs.size:=fun b o e=>Nat.ne_of_lt (Heap.lt_size e)
 have neC:∀b o,s.heap.get? b=some o→b≠hp.objs.size:=fun b o e=>by rw [hsz];exact Nat.ne_of_lt (Nat.lt_succ_of_lt (Heap.lt_size e))
 have nex:∀b o,s.heap.get? b=some o→b∉fp→b∉s.heap.objs.size::fp:=fun b o e hb z=>(List.mem_cons.mp z).elim (neD b o e) hb
 have u:=J.base
 have hDC:s.heap.objs.size≠hp.objs.size:=by rw [hsz];exact Nat.ne_of_lt (Nat.lt_succ_self _)
 have eD:h'.get? s.heap.objs.size=some { cls:=.type "list",data:=.seq its.toArray cap }:=(sb.2 _ hDC).trans hD
 refine I.call' (ch:=fp) J.os ⟨fun b o e n hb hx=>?_,fun b o e n hb hx=>?_,fun b o e n hx=>?_,fun b o e hx=>?_,fun b xs e=>?_,fun b o x e=>?_,fun b ps e=>?_⟩ (fun b o e=>?_) J.bare fun b hb=>?_
 ·exact(sb.2 b (neC b o e)).trans (u.keep b o (up _ _ e) n hb (nex b o e hx))
 ·obtain⟨sl,q⟩:=u.slot b o (up _ _ e) n hb (nex b o e hx)
  exact⟨sl,(sb.2 b (neC b o e)).trans q⟩
 ·rw [upd_ne (neD b o e)]
  exact u.free b o (up _ _ e) n (nex b o e hx)
 ·obtain⟨o',q⟩:=u.there b o (up _ _ e) (nex b o e hx)
  exact⟨o',(sb.2 b (neC b o e)).trans q⟩
 ·rw [upd_ne (ne_of_none e nDs)]
  exact u.tups b xs e
 ·rw [upd_ne (ne_of_none e nDs)]
  exact u.frzs b o x e
 ·rw [upd_ne (ne_of_none e nDs)]
  exact u.tbls b ps e
 ·by_cases hb:b=s.heap.objs.size
  ·subst hb
   rw [upd_same] at e
   cases e
   exact⟨hz,its,cap,r,eD⟩
  ·rw [upd_ne hb] at e
   have nC:∀c w,H' c=some w→c≠hp.objs.size:=fun c w q=>ne_of_none q J.free
   refine(J.hok b o e).stay (fun c v hc q=>(sb.2 c ?_).trans q) (fun c q=>by rw [upd_ne (ne_of_none q nD)];exact q) fun c xs q=>by rw [upd_ne (ne_of_none q nD)];exact q
   rcases hc with rfl|hc
   ·exact nC c o e
   ·exact nC c _ hc
 ·obtain⟨_,f1,_,f3,f4,f5⟩:=f2 b hb
  exact⟨f3,f1,f4,f5⟩
end
section
variable{X:Cx}
theorem pe_compG{tg elt iter:Expr}{ifs:List Expr}{own caps:List Str}{κ:List Nat}{sc:Scope}{cl:List (Str × Addr)}{pos:Pos}{wi:TI}{g:TG}{tc:TT}{te:TE}(hcalm:X.calm=true)(S:BlkSc X caps sc cl)(hκ:κ.map (fun k=>X.N[k]?)=caps.map some)
  (hi:PI X tg iter wi) (hg:∀s₀ H₀ C ex,PG (blk X (own++caps) sc cl s₀ H₀ C ex) tg g)
  (hc:∀s₀ H₀ C ex (pins:List (Addr × Obj)) (s:Shared) (σ:St) (H:Hp) (Q:Bool→Hp→Prop),Inv (blk X (own++caps) sc cl s₀ H₀ C ex) pins σ H s→tc σ H Q →
   wpAny (model X.prog X.w) X.A (forIn ifs true fun c r=>if r=true then do let ok ←isTrue c (compEnvC sc cl C X.env) (eval c (compEnvC sc cl C X.env));pure (ForInStep.yield ok) else pure (ForInStep.yield r)) (TP (blk X (own++caps) sc cl s₀ H₀ C ex) pins σ Q) (fun _ _=>False) s)
  (he:∀s₀ H₀ C ex,PE (blk X (own++caps) sc cl s₀ H₀ C ex) elt te)
  (hs:∀x,foldedSetIterable iter X.env x=pure x:=by intro _;rfl):PE X (.ListComp elt [⟨tg,iter,ifs,0⟩] sc pos) (tComp own.length κ wi g tc te):=by
 intro pins s σ H Q I h
 rw [eval_ListComp]
 refine wpAny_comprehension_free (use:=none) rfl hs S.clos S.kind S.names (thn (hi pins s σ H _ I h) fun v s1 h1=>thn h1 fun itv s2 h2=>?_)
 obtain⟨it,fp,tn,J,H2,e,I2,T,st2,f2,W,⟨m0,w0⟩,turn⟩:=h2
 subst e
 have hfp:∀b∈fp,b < s2.heap.objs.size:=fun b hb=>by
  obtain⟨o,e,_⟩:=T.obj _ _ st2 b hb
  exact Heap.lt_size e
 refine wpAny_newObj_type (wpAny_newFunctionEnv S.nocell (fun y hy=>nomatch hy) (fun h₁ hns hsb=>?_) S.kind)
 generalize ehp:s2.heap.push { cls:=.type "list",dict:=none,data:=.seq ([]:List Value).toArray }=hp at hns hsb ⊢
 have hsz:hp.objs.size=s2.heap.objs.size+1:=by rw [←ehp,Heap.size_push]
 have hDC:s2.heap.objs.size≠hp.objs.size:=by rw [hsz];exact Nat.ne_of_lt (Nat.lt_succ_self _)
 have old:∀b o,hp.get? b=some o→h₁.get? b=some o:=fun b o e=>(hsb.2 b (Nat.ne_of_lt (Heap.lt_size e))).trans (Heap.get?_push_of_some _ e)
 have eD:h₁.get? s2.heap.objs.size=some { cls:=.type "list",data:=.seq ([]:List Value).toArray }:=old _ _ (by rw [←ehp];exact Heap.get?_push_size _ rfl)
 have I0:=Inv.block (own:=own) (h₁:=h₁) (tk:=s2.toks+([]:List (Str × Value)).length) S hκ I2 f2 hfp ehp.symm hns old
 have stkD:s2.heap.objs.size∉frs X.stack:=fun z=>(List.mem_cons.mp (I2.stkSub _ z)).elim (Nat.ne_of_gt I2.lt) (I2.nofs (Nat.le_refl _))
 have cellD:∀x c,cl.lookup x=some c→c≠s2.heap.objs.size:=fun x c q=>by
  obtain⟨v,z⟩:=I2.cell x c (S.subc q)
  exact Nat.ne_of_lt z.lt
 have pinD:∀p∈X.pn++pins,p.1≠s2.heap.objs.size:=fun p hp=>Nat.ne_of_lt (Heap.lt_size (I2.pin p hp).1)
 have stkF:∀b∈fp,b∉frs X.stack:=fun b hb z=>(List.mem_cons.mp (I2.stkSub _ z)).elim (f2 b hb).2.1 (f2 b hb).2.2.1
 have loop:codeAny (model X.prog X.w) X.A (.compLoop (.ListComp elt [⟨tg,iter,ifs,0⟩] sc pos) 0 (.ref it) (.ref s2.heap.objs.size) (compEnvC sc cl hp.objs.size X.env))
   (compPost (model X.prog X.w) X.A X.xe none (EP X pins σ Q) (.ref s2.heap.objs.size) hp.objs.size) { s2 with heap:=h₁,toks:=s2.toks+([]:List (Str × Value)).length }:=by
  refine codeAny_loop rfl (fun n s'=>∃(i:Nat) (ys:List V) (its:List Value) (cap:Nat) (H':Hp),Inv (blk X (own++caps) sc cl { s2 with heap:=hp } H2 hp.objs.size (s2.heap.objs.size::fp)) pins (blkSt own.length κ σ) H' s'∧tn i s'.heap∧(∀b∈fp,H' b=none) ∧
   s'.heap.get? s2.heap.objs.size=some { cls:=.type "list",data:=.seq its.toArray cap }∧H' s2.heap.objs.size=none∧Vals ys its∧ys.length≤sizeLine∧W i n ys H') (fun n s3 hI=>?_) m0
   ⟨0,[],[],0,H2,I0,T.keep _ _ _ st2 fun b hb o e=>old _ _ (by rw [←ehp];exact Heap.get?_push_of_some _ e),fun b hb=>(f2 b hb).1,eD,I2.hok.fresh (Nat.le_refl _),.nil,Nat.zero_le _,w0⟩
  obtain⟨i,ys,its,cap,H3,I3,st3,fr3,eD3,nD3,rv,hz,w3⟩:=hI
  show wpAny _ X.A ((compTurn (.ListComp elt [⟨tg,iter,ifs,0⟩] sc pos) 0 (.ref it) (.ref s2.heap.objs.size) (compEnvC sc cl hp.objs.size X.env)).onRaise fun x=>do noteFrame x (compEnvC sc cl hp.objs.size X.env);theTreesLotGoes x) _ _ s3
  refine wpAny_noted ?_
  rw [compTurn_list]
  have I3':Inv (blk X (own++caps) sc cl { s2 with heap:=hp } H2 hp.objs.size (s2.heap.objs.size::fp)) (pins++[(s2.heap.objs.size,{ cls:=.type "list",data:=.seq its.toArray cap })]) (blkSt own.length κ σ) H3 s3:=by
   refine I3.pins_of fun p hp=>(List.mem_append.mp hp).elim (fun z=>I3.pin p (List.mem_append_right _ z)) fun z=>?_
   obtain rfl:=List.mem_singleton.mp z
   exact⟨eD3,nD3,hDC,stkD,fun v q=>by cases q⟩
  have fpk:∀{H':Hp},(∀b∈fp,H' b=none)→∀b∈fp,FpOk (blk X (own++caps) sc cl { s2 with heap:=hp } H2 hp.objs.size (s2.heap.objs.size::fp)) (pins++[(s2.heap.objs.size,{ cls:=.type "list",data:=.seq its.toArray cap })]) H' b:=fun {H'} hn b hb =>
   ⟨hn b hb,by show b≠hp.objs.size;rw [hsz];exact Nat.ne_of_lt (Nat.lt_succ_of_lt (hfp b hb)),stkF b hb,.inl (List.mem_cons_of_mem _ hb),fun x c q=>(f2 b hb).2.2.2.2.1 x c (S.subc q),fun p hp=>by
    rw [←List.append_assoc] at hp
    rcases List.mem_append.mp hp with z|z
    ·exact(f2 b hb).2.2.2.2.2 p z
    ·obtain rfl:=List.mem_singleton.mp z
     exact Nat.ne_of_gt (hfp b hb)⟩
  rcases turn i n ys H3 w3 with ⟨stop,fin⟩|⟨go,hlt,step⟩
  ·refine wpAny_bind (wpAny_standAt (wpAny_bind (thn (T.done (blk X (own++caps) sc cl { s2 with heap:=hp } H2 hp.objs.size (s2.heap.objs.size::fp)) rfl rfl rfl hcalm i _ s3 _ H3 _ I3' (fpk fr3) st3 stop) fun r s4 ⟨hr,I4⟩=>?_)))
   subst hr
   refine wpAny_pure ?_
   obtain⟨m,hm,_⟩:=I4.loc
   refine⟨m,hm,fun h' sb=>?_⟩
   have eD4:=(I4.pin (s2.heap.objs.size,{ cls:=.type "list",data:=.seq its.toArray cap }) (List.mem_append_right _ (List.mem_append_right _ (List.mem_singleton.mpr rfl)))).1
   exact⟨.ref s2.heap.objs.size,_,Inv.unblock I2 f2 ehp.symm I4 eD4 nD3 rv hz sb,rfl,fin _ nD3⟩
  ·refine wpAny_bind (wpAny_standAt (wpAny_bind (thn (T.item (blk X (own++caps) sc cl { s2 with heap:=hp } H2 hp.objs.size (s2.heap.objs.size::fp)) rfl rfl rfl hcalm i _ s3 _ H3 _ I3' (fpk fr3) st3 go) fun r s4 ⟨u,hr,h4⟩=>?_)))
   subst hr
   refine wpAny_bind (thn h4 fun _ s5 ⟨x,H5,I5,r5,y5,st5,fr5⟩=>?_)
   have I5':=I5.pinned (fpk fr5) (T.obj _ _ st5)
   refine wpAny_bind (wpAny_mono (hg _ _ _ _ _ s5 _ H5 x u _ I5' r5 (step x H5 y5)) (fun _ s6 ⟨σ6,H6,I6,eσ,q6⟩=>?_) fun _ _ z=>z.elim)
   refine wpAny_bind (wpAny_mono (hc _ _ _ _ _ s6 σ6 H6 _ I6 q6) (fun ok s7 ⟨H7,I7,q7⟩=>?_) fun _ _ z=>z.elim)
   have back:∀{s8:Shared} {H8:Hp},Inv (blk X (own++caps) sc cl { s2 with heap:=hp } H2 hp.objs.size (s2.heap.objs.size::fp)) ((pins++[(s2.heap.objs.size,{ cls:=.type "list",data:=.seq its.toArray cap })])++pinsAt fp s5.heap) σ6 H8 s8 →
     Inv (blk X (own++caps) sc cl { s2 with heap:=hp } H2 hp.objs.size (s2.heap.objs.size::fp)) pins (blkSt own.length κ σ) H8 s8∧tn (i+1) s8.heap∧(∀b∈fp,H8 b=none)∧s8.heap.get? s2.heap.objs.size=some { cls:=.type "list",data:=.seq its.toArray cap }∧H8 s2.heap.objs.size=none:=by
    intro s8 H8 I8
    have pk:∀b∈fp,∀o,s5.heap.get? b=some o→s8.heap.get? b=some o∧H8 b=none:=fun b hb o e=>by
     have z:=I8.pin (b,o) (List.mem_append_right _ (List.mem_append_right _ (mem_pinsAt hb e)))
     exact⟨z.1,z.2.1⟩
    have zD:=I8.pin (s2.heap.objs.size,{ cls:=.type "list",data:=.seq its.toArray cap }) (List.mem_append_right _ (List.mem_append_left _ (List.mem_append_right _ (List.mem_singleton.mpr rfl))))
    refine⟨(I8.pins_of fun p hp=>I8.pin p (List.mem_append_right _ (List.mem_append_left _ (List.mem_append_left _ hp)))).weak ?_ fun j v e=>?_,T.keep _ _ _ st5 fun b hb o e=>(pk b hb o e).1,fun b hb=>?_,zD.1,zD.2.1⟩
    ·exact I3.len.trans I8.len.symm
    ·have hge:own.length≤j:=by
      refine Nat.le_of_not_lt fun q=>?_
      unfold blkSt at e
      rw [List.getElem?_append_left (by rw [List.length_replicate];exact q),List.getElem?_replicate,if_pos q] at e
      cases e
     have z:=congrArg (fun l=>l[j - own.length]?) eσ
     simp only [List.getElem?_drop] at z
     rw [show own.length+(j - own.length)=j by omega] at z
     rw [z]
     exact e
    ·obtain⟨o,e,_⟩:=T.obj _ _ st5 b hb
     exact(pk b hb o e).2
   cases ok with
   |false =>
    obtain⟨m',hm,w7⟩:=(if_neg Bool.false_ne_true)▸q7
    obtain⟨I8,st8,fr8,e8,n8⟩:=back I7
    exact wpAny_pure ⟨rfl,m',hm,i+1,ys,its,cap,H7,I8,st8,fr8,e8,n8,rv,hz,w7⟩
   |true =>
    have q7':=(if_pos rfl)▸q7
    refine wpAny_bind (wpAny_bind (wpAny_mono (he _ _ _ _ _ s7 σ6 H7 _ I7 q7') (fun y s8 ⟨v8,H8,I8,r8,m',hm,w8⟩=>?_) fun _ _ z=>z.elim))
    obtain⟨I9,st9,fr9,e9,n9⟩:=back I8
    have hl:=rv.length
    refine wpAny_bind (wpAny_list_append_plain (items:=its.toArray) ⟨cap,e9⟩ (fun h' hl' sb=>?_) (by rw [List.size_toArray,←hl];exact hz))
    obtain⟨cap',e'⟩:=hl'
    refine wpAny_pure (wpAny_pure ⟨rfl,m',hm,i+1,ys++[v8],its++[y],cap',H8,?_,?_,fr9,?_,n9,Vals.append rv (.cons r8 .nil),?_,w8⟩)
    ·exact I9.turned (t':=s8.toks) (fun b o hb e=>(sb.2 b hb).trans e) n9 hDC (.inl List.mem_cons_self) cellD pinD
    ·exact T.keep _ _ _ st9 fun b hb o e=>(sb.2 b (Nat.ne_of_lt (hfp b hb))).trans e
    ·rw [e']
     congr 3
     simp
    ·rw [List.length_append]
     exact hlt
 exact codeAny_compStart_list loop (T.self _ 0 _ _ _ (T.keep _ _ _ st2 fun b hb o e=>old _ _ (by rw [←ehp];exact Heap.get?_push_of_some _ e)) loop)
theorem pe_comp{tg elt iter:Expr}{own caps:List Str}{κ:List Nat}{sc:Scope}{cl:List (Str × Addr)}{pos:Pos}{wi:TI}{g:TG}{te:TE}(hcalm:X.calm=true)(S:BlkSc X caps sc cl)(hκ:κ.map (fun k=>X.N[k]?)=caps.map some)
  (hi:PI X tg iter wi) (hg:∀s₀ H₀ C ex,PG (blk X (own++caps) sc cl s₀ H₀ C ex) tg g) (he:∀s₀ H₀ C ex,PE (blk X (own++caps) sc cl s₀ H₀ C ex) elt te)
  (hs:∀x,foldedSetIterable iter X.env x=pure x:=by intro _;rfl):PE X (.ListComp elt [⟨tg,iter,[],0⟩] sc pos) (tComp own.length κ wi g tYes te) :=
 pe_compG hcalm S hκ hi hg (fun s₀ H₀ C ex pins s σ H Q I h=>wpAny_tests_nil ⟨H,I,h⟩) he hs
theorem pe_comp_if{tg elt iter c:Expr}{own caps:List Str}{κ:List Nat}{sc:Scope}{cl:List (Str × Addr)}{pos:Pos}{wi:TI}{g:TG}{tc:TT}{te:TE}(hcalm:X.calm=true)(S:BlkSc X caps sc cl)(hκ:κ.map (fun k=>X.N[k]?)=caps.map some)
  (hi:PI X tg iter wi) (hg:∀s₀ H₀ C ex,PG (blk X (own++caps) sc cl s₀ H₀ C ex) tg g) (hc:∀s₀ H₀ C ex,PT (blk X (own++caps) sc cl s₀ H₀ C ex) c tc) (he:∀s₀ H₀ C ex,PE (blk X (own++caps) sc cl s₀ H₀ C ex) elt te)
  (hs:∀x,foldedSetIterable iter X.env x=pure x:=by intro _;rfl):PE X (.ListComp elt [⟨tg,iter,[c],0⟩] sc pos) (tComp own.length κ wi g tc te) :=
 pe_compG hcalm S hκ hi hg (fun s₀ H₀ C ex pins s σ H Q I h=>wpAny_tests_one (hc s₀ H₀ C ex pins s σ H Q I h)) he hs
end
end L2
namespace L2
open PySem PySem.Spec PyProof.Rows
section
variable{X:Cx}
theorem bootAll:bootBuiltins "all"=some (.builtin "all"):=by decide +kernel
theorem bootStr:bootBuiltins "str"=some (.type "str"):=by decide +kernel
theorem bootIsi:bootBuiltins "isinstance"=some (.builtin "isinstance"):=by decide +kernel
theorem bools_of:∀{bs:List Bool} {us:List Value},Vals (bs.map V.bl) us→LSm.BoolsAre us bs
 |[],_,r=>by cases r;exact .nil
 |b::bs,_,r=>by
  cases r with
  |cons r1 r2 =>
   cases r1
   exact .cons b (bools_of r2)
theorem call_allB(hc:X.calm=true):CallR X (.builtin "all") (fun xs H Q=>∃(p:Addr) (bs:List Bool),xs=[.ref p]∧SqL X.K H p (bs.map V.bl)∧Q (.bl (bs.all id)) H):=by
 intro pins s σ H xs us Q I r h
 obtain⟨p,bs,rfl,hq,q⟩:=h
 obtain⟨u,rfl,rx⟩:=vals1 r
 cases rx
 obtain⟨its,rv,pl,hz⟩:=I.list hq
 have hb:=bools_of rv
 have hlt:p < s.heap.objs.size:=by obtain⟨_,e,_⟩:=pl.isList;exact Heap.lt_size e
 refine call_all_walk (wpAny_pyIter_list pl.isList ?_)
 refine⟨s.heap.objs.size,[s.heap.objs.size,p],[s.heap.objs.size],its.toArray.size,_,_,fun i=>(bs[i]?).getD true,rfl,Walks.list (A:=X.A.in1) (I.ok.hd hc) _ p (Nat.ne_of_lt hlt) its.toArray,
  ⟨⟨_,Heap.get?_push_size _ rfl,rfl,rfl⟩,pl.isList.push _⟩,fun i v s' Q' E' hP hQ=>?_,fun h' tk hk=>?_⟩
 ·obtain⟨b,e,rfl⟩:=hb.get i v (by simpa using hP)
  have hQ':Q' ((bs[i]?).getD true) s':=hQ
  rw [e] at hQ'
  exact wpAny_truthy_bool hQ'
 ·have e:((List.range its.toArray.size).all fun i=>(bs[i]?).getD true)=bs.all id:=by
   rw [List.size_toArray,hb.length]
   exact LSm.range_all bs
  rw [e]
  exact⟨.bl (bs.all id),H,I.kept (LSm.kept_iter hk),rfl,q⟩
end
end L2
namespace L2
open PySem PySem.Spec PyProof.Rows
end L2
namespace L2
open PySem PySem.Spec PyProof.Rows
theorem comp_by{J:It}{xs:List V}{n:Nat}{κ:List Nat}{g:TG}{tc:TT}{te:TE}{σ:St}{H:Hp}{Q:VK}(Pv:Nat→List V→Hp→Prop)(h0:Pv 0 [] H)(hz:xs.length≤sizeLine)(hlen:∀i ys H2,Pv i ys H2→ys.length≤i)
  (hgo:∀i x ys H2,xs[i]?=some x→Pv i ys H2→J.go i H2) (hyl:∀i ys x H2 H',i < xs.length→Pv i ys H2→J.yld i H2 x H'→H'=H2∧xs[i]?=some x) (hst:∀ys H2,Pv xs.length ys H2→J.stop xs.length H2)
  (hs:∀i x ys H2 (N:List V→Hp→Prop),(∀ys' H',Pv (i+1) ys' H'→N ys' H')→xs[i]?=some x→Pv i ys H2→g x (blkSt n κ σ) H2 fun σ4 H4=>σ4.drop n=(blkSt n κ σ).drop n∧tc σ4 H4 fun b H5=>if b=true then te σ4 H5 fun v H6=>N (ys++[v]) H6 else N ys H5)
  (hQ:∀ys H2 D,Pv xs.length ys H2→H2 D=none→Q (.ref D) (upd H2 D (.lst ys))) :
  CompRun n κ g tc te σ J H Q:=by
 refine⟨fun i m ys H2=>m=xs.length - i∧i≤xs.length∧Pv i ys H2,⟨xs.length,rfl,Nat.zero_le _,h0⟩,?_⟩
 rintro i m ys H2 ⟨rfl,hi,p⟩
 by_cases hlt:i < xs.length
 ·have e:xs[i]?=some xs[i]:=List.getElem?_eq_getElem hlt
  refine .inr ⟨hgo i _ ys H2 e p,Nat.lt_of_le_of_lt (hlen i ys H2 p) (Nat.lt_of_lt_of_le hlt hz),fun x H3 y=>?_⟩
  obtain⟨rfl,ex⟩:=hyl i ys x H2 H3 hlt p y
  exact hs i x ys _ (fun ys' H'=>∃m',m' < xs.length - i∧m'=xs.length - (i+1)∧i+1≤xs.length∧Pv (i+1) ys' H') (fun ys' H' p'=>⟨xs.length - (i+1),by omega,rfl,hlt,p'⟩) ex p
 ·obtain rfl:i=xs.length:=by omega
  exact .inl ⟨hst ys H2 p,fun D hD=>hQ ys H2 D p hD⟩
def rangeV(lo:Int)(n:Nat):List V:=(List.range n).map fun i=>V.int (lo+(i:Nat))
theorem rangeV_len(lo:Int)(n:Nat):(rangeV lo n).length=n:=by simp [rangeV]
theorem rangeV_get{lo:Int}{n i:Nat}{x:V}:(rangeV lo n)[i]?=some x↔i < n∧x=.int (lo+i):=by
 unfold rangeV
 rw [List.getElem?_map]
 by_cases h:i < n
 ·rw [List.getElem?_range h]
  simp [h,eq_comm]
 ·rw [List.getElem?_eq_none (by simp;omega)]
  simp [h]
theorem itr_go{lo:Int}{n:Nat}{H:Hp}{i:Nat}{x:V}(h:(rangeV lo n)[i]?=some x):(Itr lo n).go i H:=(rangeV_get.mp h).1
theorem itr_yld'{lo:Int}{n:Nat}{H H':Hp}{i:Nat}{x:V}(hi:i < n)(h:(Itr lo n).yld i H x H'):H'=H∧(rangeV lo n)[i]?=some x:=⟨h.1,rangeV_get.mpr ⟨hi,h.2⟩⟩
section
variable{X:Cx}
end
end L2
namespace L2
open PySem PySem.Spec PyProof.Rows
mutual
inductive Dat (K:PySem.W.Frag) (H:Hp):V→PyData→Prop
 |non:Dat K H .non .none
 |bl (b:Bool):Dat K H (.bl b) (.bool b)
 |int (i:Int):Dat K H (.int i) (.int i)
 |str (x:Str):Dat K H (.str x) (.str x)
 |tup {a:Addr} {xs:List V} {ds:List PyData}:SqT K H a xs→Dats K H xs ds→Dat K H (.ref a) (.tuple ds)
 |lst {a:Addr} {xs:List V} {ds:List PyData}:SqL K H a xs→Dats K H xs ds→Dat K H (.ref a) (.list ds)
inductive Dats (K:PySem.W.Frag) (H:Hp):List V→List PyData→Prop
 |nil:Dats K H [] []
 |cons {x:V} {d:PyData} {xs:List V} {ds:List PyData}:Dat K H x d→Dats K H xs ds→Dats K H (x::xs) (d::ds)
end
theorem Same.tup{K:PySem.W.Frag}{H H':Hp}{a:Addr}{xs:List V}(e:Same H H')(h:SqT K H a xs):SqT K H' a xs:=by
 rcases h with (h|⟨o,h⟩)|h
 ·exact .inl (.inl (e _ _ h))
 ·exact .inl (.inr ⟨o,e _ _ h⟩)
 ·exact .inr h
mutual
theorem Dat.same{K:PySem.W.Frag}{H H':Hp}(e:Same H H'):∀{x:V} {d:PyData},Dat K H x d→Dat K H' x d
 |_,_,.non=>.non
 |_,_,.bl b=>.bl b
 |_,_,.int i=>.int i
 |_,_,.str x=>.str x
 |_,_,.tup h r=>.tup (e.tup h) (Dats.same e r)
 |_,_,.lst h r=>.lst (e.seq h) (Dats.same e r)
theorem Dats.same{K:PySem.W.Frag}{H H':Hp}(e:Same H H'):∀{xs:List V} {ds:List PyData},Dats K H xs ds→Dats K H' xs ds
 |_,_,.nil=>.nil
 |_,_,.cons h r=>.cons (Dat.same e h) (Dats.same e r)
end
section
variable{X:Cx}{pins:List (Addr × Obj)}{σ:St}{H:Hp}{s:Shared}
mutual
theorem Dat.reads(I:Inv X pins σ H s):∀{x:V} {d:PyData} {v:Value},Dat X.K H x d→RelV x v→∃as,Reads s.heap v d as
 |_,_,_,.non,r=>by cases r;exact⟨_,.none⟩
 |_,_,_,.bl b,r=>by cases r;exact⟨_,.bool b⟩
 |_,_,_,.int i,r=>by obtain⟨t,rfl⟩:=r;exact⟨_,.int i t⟩
 |_,_,_,.str x,r=>by obtain⟨t,rfl⟩:=r;exact⟨_,.str x t⟩
 |_,_,_,.tup hq ds,r=>by
  cases r
  obtain⟨its,rv,p,_⟩:=I.tuple hq
  obtain⟨as,q⟩:=Dats.reads I ds rv
  obtain⟨o,e,c,n,dt⟩:=p
  exact⟨as,.tuple e c dt (by simpa using q)⟩
 |_,_,_,.lst hq ds,r=>by
  cases r
  obtain⟨its,rv,p,_⟩:=I.list hq
  obtain⟨as,q⟩:=Dats.reads I ds rv
  obtain⟨o,n,e,c,_,dt⟩:=p
  exact⟨_,.list e c dt (by simpa using q)⟩
theorem Dats.reads(I:Inv X pins σ H s):∀{xs:List V} {ds:List PyData} {vs:List Value},Dats X.K H xs ds→Vals xs vs→∃as,ReadsAll s.heap vs ds as
 |_,_,_,.nil,r=>by cases r;exact⟨_,.nil⟩
 |_,_,_,.cons h t,r=>by
  cases r with
  |cons r1 r2 =>
   obtain⟨as,q⟩:=Dat.reads I h r1
   obtain⟨bs,q2⟩:=Dats.reads I t r2
   exact⟨_,.cons q q2⟩
end
end
section
variable{X:Cx}
def rEqD(K:PySem.W.Frag)(neg:Bool):R2:=fun x y H Q=>∃dx dy,Dat K H x dx∧Dat K H y dy∧SeqAt.shaped dx=true∧SeqAt.shaped dy=true∧Q (.bl (if neg then !PyData.eqv dx dy else PyData.eqv dx dy)) H
theorem op_eqD(hu:X.A.units+64 < cLine):OpR X (compareOp .Eq) (rEqD X.K false):=by
 intro pins s σ H x y v u Q I rx ry h
 obtain⟨dx,dy,hx,hy,sx,sy,q⟩:=h
 obtain⟨as,ra⟩:=Dat.reads I hx rx
 obtain⟨bs,rb⟩:=Dat.reads I hy ry
 exact eq_dataH ra rb sx sy hu ⟨.bl _,H,I,rfl,q⟩
theorem op_neD(hu:X.A.units+64 < cLine):OpR X (compareOp .NotEq) (rEqD X.K true):=by
 intro pins s σ H x y v u Q I rx ry h
 obtain⟨dx,dy,hx,hy,sx,sy,q⟩:=h
 obtain⟨as,ra⟩:=Dat.reads I hx rx
 obtain⟨bs,rb⟩:=Dat.reads I hy ry
 exact ne_dataH ra rb sx sy hu ⟨.bl _,H,I,rfl,q⟩
end
end L2
namespace L2
open PySem PySem.Spec PyProof.Rows
section
variable{X:Cx}
open Classical in
end
end L2
namespace L2
open PySem PySem.Spec PyProof.Rows
def RawD(h:Heap)(d:Addr)(es:Array DictEntry)(ep:Nat):Prop:=∃o,h.get? d=some o∧o.ExactDict∧o.data=.dict es ep
theorem RawD.at{h h':Heap}{d:Addr}{es:Array DictEntry}{ep:Nat}(x:RawD h d es ep)(k:∀o,h.get? d=some o→h'.get? d=some o):RawD h' d es ep:=let ⟨o,e,r⟩:=x;⟨o,k _ e,r⟩
theorem RawD.lt{h:Heap}{d:Addr}{es:Array DictEntry}{ep:Nat}(x:RawD h d es ep):d < h.objs.size:=let ⟨_,e,_⟩:=x;Heap.lt_size e
section
variable{prog:Program}{w:World}{A:Around}{E:Value→Shared→Prop}{s:Shared}
theorem raw_iter{d:Addr}{es:Array DictEntry}{ep:Nat}{Q:Value→Shared→Prop}(hd:(d==sysModules)=false)(hm:RawD s.heap d es ep)
  (hQ:Q (.ref s.heap.objs.size) { s with heap:=s.heap.push { cls:=.type "dict_keyiterator",data:=.fields #[.ref d,.int 0 0,.int es.size 0,.int ep 0] } }):wpAny (model prog w) A (pyIter (.ref d)) Q E s:=by
 obtain⟨o,ho,hx,hdat⟩:=hm
 have tyD:s.TypeIs (.ref d) "dict":=⟨o,ho,hx.1⟩
 refine wpAny_pyIter_slot tyD F.slot_dict_iter (wpAny_call_entry F.slot_dict_iter tyD F.entry_dict_iter ?_ (F.args_dict_iter_1 _))
 unfold Builtin.«dict.__iter__» Builtin.Dict.dictSlotNone
 refine wpAny_bind (wpAny_bind (wpAny_notOrdered_dict tyD ?_))
 refine wpAny_pure (show wpAny _ _ (Builtin.Dict.showsAll d >>= _) _ _ s from ?_)
 unfold Builtin.Dict.showsAll
 rw [if_neg (fun z=>Bool.false_ne_true (hd.symm.trans z))]
 refine wpAny_bind (wpAny_pure (wpAny_bind (wpAny_dictEntries ho hdat (wpAny_bind (wpAny_dictEpoch ho hdat ?_)))))
 exact wpAny_bind (wpAny_newObj_type (wpAny_pure ⟨_,rfl,"dict_keyiterator",_,⟨_,Heap.get?_push_size _ rfl,rfl⟩,F.slot_dict_keyiterator_next.lookup,hQ⟩))
theorem raw_item{it d:Addr}{i ep:Nat}{es:Array DictEntry}{Q:Option Value→Shared→Prop}(hit:s.heap.IsKeyIter it d i es.size ep)(hm:RawD s.heap d es ep)(hi:i < es.size)
  (hQ:∀h',h'.IsKeyIter it d (i+1) es.size ep→Heap.SameBut it s.heap h'→Q (some es[i].key) { s with heap:=h' }):wpAny (model prog w) A (pyNext (.ref it)) Q E s:=by
 have tyI:=hit.typeIs
 obtain⟨oi,hoi,hci,hdi⟩:=id hit
 obtain⟨od,hod,_,hdd⟩:=hm
 unfold pyNext
 refine wpAny_bind (wpAny_attempt (wpAny_callSpecial?_slot (name:=Str.ofString "__next__") tyI F.slot_dict_keyiterator_next (wpAny_call_entry F.slot_dict_keyiterator_next tyI F.entry_dict_keyiterator_next ?_ (F.args_dict_keyiterator_next_1 _))))
 refine wpAny_bind (wpAny_pure (wpAny_bind (wpAny_bind ?_)))
 first|refine wpAny_bind (wpAny_typeNameOfWhole_keyiter tyI (wpAny_pure ?_))|refine wpAny_bind (wpAny_typeNameOf_keyiter tyI (wpAny_pure ?_))
 refine wpAny_bind (wpAny_fieldsOf hoi hdi ?_)
 simp only [show Builtin.Dict_items.ownsTuple "dict_keyiterator"=false from by decide,Bool.false_eq_true,if_false]
 show wpAny _ _ (if (Value.ref d==.none)=true then _ else _) _ _ s
 have ne0:¬((Value.ref d==Value.none)=true):=fun z=>Bool.false_ne_true z
 rw [if_neg ne0]
 refine wpAny_bind (wpAny_pure (wpAny_bind (wpAny_dictEntries hod hdd ?_)))
 rw [if_neg (by simp)]
 refine wpAny_bind (wpAny_pure (wpAny_bind (wpAny_dictEpoch hod hdd ?_)))
 rw [if_neg (by simp)]
 refine wpAny_pure ?_
 simp only [show ¬((i:Int) < 0) from Int.not_lt.mpr (Int.natCast_nonneg i),if_false,Int.toNat_natCast,Array.getElem?_eq_getElem hi]
 refine wpAny_bind ?_
 first|refine wpAny_bind (wpAny_typeNameOfWhole_keyiter tyI (wpAny_pure ?_))|refine wpAny_bind (wpAny_typeNameOf_keyiter tyI (wpAny_pure ?_))
 refine wpAny_bind (wpAny_isOneOf_keyiter tyI ?_)
 refine(show wpAny _ _ (setField (.ref it) 1 (rawInt ((i:Int)+1)) >>= _) _ _ s from wpAny_bind (wpAny_setField hoi hdi (by simp) ?_))
 have new:(s.heap.update it (Obj.mapFields (·.setIfInBounds 1 (rawInt ((i:Int)+1))))).IsKeyIter it d (i+1) es.size ep :=
  ⟨_,Heap.get?_update_self _ hoi (Obj.isFreed_of_fields (Obj.data_mapFields hdi _)),(Obj.cls_mapFields ..).trans hci,by rw [Obj.data_mapFields hdi];simp [rawInt]⟩
 refine wpAny_bind (wpAny_holding (wpAny_bind (wpAny_isOneOf_keyiter (s:={ s with heap:=s.heap.update it (Obj.mapFields (·.setIfInBounds 1 (rawInt ((i:Int)+1)))) }) new.typeIs ?_)))
 exact(show wpAny _ _ (pure es[i].key) _ _ _ from wpAny_pure (wpAny_pure ⟨_,rfl,wpAny_pure (hQ _ new (Heap.SameBut.update ..))⟩))
theorem raw_end{it d:Addr}{i ep:Nat}{es:Array DictEntry}{Q:Option Value→Shared→Prop}(hh:A.handled=none)(hit:s.heap.IsKeyIter it d i es.size ep)(hm:RawD s.heap d es ep)(hi:es.size≤i)
  (hF:∀h',Heap.ExtBut it s.heap h'→Q none { s with heap:=h' }):wpAny (model prog w) A (pyNext (.ref it)) Q E s:=by
 have tyI:=hit.typeIs
 obtain⟨oi,hoi,hci,hdi⟩:=id hit
 obtain⟨od,hod,_,hdd⟩:=hm
 unfold pyNext
 refine wpAny_bind (wpAny_attempt (wpAny_callSpecial?_slot (name:=Str.ofString "__next__") tyI F.slot_dict_keyiterator_next (wpAny_call_entry F.slot_dict_keyiterator_next tyI F.entry_dict_keyiterator_next ?_ (F.args_dict_keyiterator_next_1 _))))
 refine wpAny_bind (wpAny_pure (wpAny_bind (wpAny_bind ?_)))
 first|refine wpAny_bind (wpAny_typeNameOfWhole_keyiter tyI (wpAny_pure ?_))|refine wpAny_bind (wpAny_typeNameOf_keyiter tyI (wpAny_pure ?_))
 refine wpAny_bind (wpAny_fieldsOf hoi hdi ?_)
 simp only [show Builtin.Dict_items.ownsTuple "dict_keyiterator"=false from by decide,Bool.false_eq_true,if_false]
 show wpAny _ _ (if (Value.ref d==.none)=true then _ else _) _ _ s
 have ne0:¬((Value.ref d==Value.none)=true):=fun z=>Bool.false_ne_true z
 rw [if_neg ne0]
 refine wpAny_bind (wpAny_pure (wpAny_bind (wpAny_dictEntries hod hdd ?_)))
 rw [if_neg (by simp)]
 refine wpAny_bind (wpAny_pure (wpAny_bind (wpAny_dictEpoch hod hdd ?_)))
 rw [if_neg (by simp)]
 refine wpAny_pure ?_
 simp only [show ¬((i:Int) < 0) from Int.not_lt.mpr (Int.natCast_nonneg i),if_false,Int.toNat_natCast,Array.getElem?_eq_none hi]
 refine wpAny_bind ?_
 first|refine wpAny_bind (wpAny_typeNameOfWhole_keyiter tyI (wpAny_pure ?_))|refine wpAny_bind (wpAny_typeNameOf_keyiter tyI (wpAny_pure ?_))
 refine(show wpAny _ _ (setField (.ref it) 0 .none >>= _) _ _ s from wpAny_bind (wpAny_setField hoi hdi (by simp) ?_))
 refine(show wpAny _ _ (newExc (.type "StopIteration") [] >>= _) _ _ _ from wpAny_bind ?_)
 simp only [newExc,newTuple]
 refine wpAny_bind (wpAny_newObj_type (dict:=none) ?_ (by size_fits))
 refine wpAny_bind (m:=firstArgMember _ _) (wpAny_of_eq (a:=Value.none) (by first|rfl|(simp only [firstArgMember];rfl)) (wpAny_newObj_type ?_ (by size_fits)))
 simp only [raiseNew]
 refine wpAny_bind (m:=_) (wpAny_handled ?_)
 rw [(show A.in1.handled=none from hh)]
 refine wpAny_bind (wpAny_pure (wpAny_throw (wpAny_bind ?_)))
 refine wpAny_isInstance (b:=true) (T:="StopIteration") ⟨_,Heap.get?_push_size _ rfl,rfl⟩ isSubtype_stop ?_
 exact wpAny_pure (hF _ (((Heap.SameBut.update ..).extBut.push _).push _))
theorem Walks.raw(hh:A.handled=none)(I d:Addr)(hne:d≠I)(es:Array DictEntry)(ep:Nat) :
  Walks prog w A I [I,d] [I] es.size (fun i v=>∃e,es[i]?=some e∧v=e.key) (fun i h=>h.IsKeyIter I d i es.size ep∧RawD h d es ep) where
 sub:=fun b hb=>List.mem_cons.mpr (.inl (List.mem_singleton.mp hb))
 frame:=fun _ _ _ st hk=>⟨st.1.at fun o e=>hk I List.mem_cons_self o e,st.2.at fun o e=>hk d (List.mem_cons_of_mem _ List.mem_cons_self) o e⟩
 item:=fun i s Q E hi st hQ=>raw_item st.1 st.2 hi fun h' new sb=>hQ _ h' s.toks ⟨es[i],Array.getElem?_eq_getElem hi,rfl⟩ ⟨new,st.2.at fun o e=>sb.extBut d o hne e⟩ fun b o hb e=>sb.extBut b o (fun z=>hb (List.mem_singleton.mpr z)) e
 done:=fun s Q E st hQ=>raw_end hh st.1 st.2 (Nat.le_refl _) fun h' eb=>hQ h' s.toks fun b o hb e=>eb b o (fun z=>hb (List.mem_singleton.mpr z)) e
 self:=fun _ _ _ _ st q=>wpAny_pyIter_keyiter st.1 q
theorem kdl_raw{d:Addr}{es:Array DictEntry}{ep:Nat}(lo:(d==sysModules)=false):PySem.W.KdlSrc prog w "dict" d d es.size (fun i v=>∃e,es[i]?=some e∧v=e.key) (fun h=>RawD h d es ep) where
 type:=fun _ hm=>let ⟨o,e,x,_⟩:=hm;⟨o,e,x.1⟩
 there:=fun _ hm=>⟨hm.lt,hm.lt⟩
 keep:=fun _ _ hm hk=>hm.at fun o e=>hk d (.inl rfl) o e
 notList:=by decide
 notTuple:=by decide
 hint:=fun _ _ _ _ hm hq=>PySem.W.kdl_hint_dict (let ⟨o,e,x,_⟩:=hm;⟨o,e,x.1⟩) hq
 iter:=fun _ _ hh hm=>⟨_,_,(fun _ _ hq=>raw_iter lo hm hq),Walks.raw hh _ d (Nat.ne_of_lt hm.lt) es ep,⟨⟨_,Heap.get?_push_size _ rfl,rfl,rfl⟩,hm.at fun o e=>Heap.get?_push_of_some _ e⟩⟩
end
end L2
namespace L2
open PySem PySem.Spec PyProof.Rows
section
variable{X:Cx}
theorem call_list_dT(hc:X.calm=true):CallR X (.type "list") (fun xs H Q=>∃a kvs,xs=[.ref a]∧H a=some (.dT kvs) ∧
  ∀(ks:List Addr) l,H l=none→Paired (fun(p:List Key × V) (k:Addr)=>H k=some (.tup (p.1.map kV))) kvs ks→Q (.ref l) (upd H l (.lst (ks.map V.ref)))):=by
 intro pins s σ H xs us Q I r h
 obtain⟨a,kvs,rfl,ha,q⟩:=h
 obtain⟨u,rfl,ru⟩:=vals1 r
 cases ru
 obtain⟨z,hd,ys,rel,o,es,ep,e,ex,dt,eqs,_⟩:=I.hok a _ ha
 have hlen:es.size=ys.length:=by
  have:=congrArg List.length eqs
  rw [List.length_map] at this
  simpa using this
 have hl2:kvs.length=ys.length:=Paired.length rel
 refine PySem.W.kdl_call (kdl_raw hd) (I.ok.hd hc) ⟨o,e,ex,dt⟩ (by rw [hlen,←hl2];exact z) fun h' tk acc' c' hk hD hacc=>?_
 have eacc:acc'.toList=ys.map fun y=>Value.ref y.2.1:=by
  apply List.ext_getElem?
  intro j
  rw [List.getElem?_map]
  by_cases hj:j < ys.length
  ·have hj2:j < acc'.size:=by rw [hacc.1,hlen];exact hj
   obtain⟨en,hen,hv⟩:=hacc.2 j acc'[j] (Array.getElem?_eq_getElem hj2)
   have e1:es.toList[j]?=some en:=by rw [←hen];simp
   rw [eqs,List.getElem?_map,List.getElem?_eq_getElem hj] at e1
   have e2:=Option.some.inj e1
   rw [show acc'.toList[j]?=some acc'[j] by simp [hj2],hv,←e2,List.getElem?_eq_getElem hj]
   rfl
  ·rw [List.getElem?_eq_none (by rw [Array.length_toList,hacc.1,hlen];omega),List.getElem?_eq_none (by omega)]
   rfl
 have rk:∀{kvs:List (List Key × V)} {ys:List (List Key × Addr × Value)},Paired (fun(p:List Key × V) (q:List Key × Addr × Value)=>p.1=q.1∧H q.2.1=some (.tup (p.1.map kV))∧RelV p.2 q.2.2) kvs ys →
   Paired (fun(p:List Key × V) (k:Addr)=>H k=some (.tup (p.1.map kV))) kvs (ys.map fun y=>y.2.1):=fun {kvs ys} p=>by
  induction p with
  |nil=>exact .nil
  |cons h _ ih=>exact .cons h.2.1 ih
 have vr:∀ks:List Addr,Vals (ks.map V.ref) (ks.map Value.ref):=fun ks=>by
  induction ks with
  |nil=>exact .nil
  |cons k ks ih=>exact .cons rfl ih
 refine⟨.ref s.heap.objs.size,_,I.laid (o:=.lst ((ys.map fun y=>y.2.1).map V.ref)) hk (Nat.le_refl _) ?_,rfl,q _ _ (I.hok.fresh (Nat.le_refl _)) (rk rel)⟩
 refine⟨by rw [List.length_map,List.length_map,←hl2];exact z,_,c',vr _,?_⟩
 rw [hD,show acc'=((ys.map fun y=>y.2.1).map Value.ref).toArray from by rw [List.map_map,←Array.toArray_toList (xs:=acc'),eacc];rfl]
end
end L2
namespace Kk
open PySem L2
inductive Kd where
 |num (n:Int)
 |name (q t:Str)
 |pair (a b:Kd)
 deriving DecidableEq
def Kd.words:Kd→Nat
 |.num _=>1
 |.name _ _=>1
 |.pair a b=>1+a.words+b.words
def Kd.leaves:Kd→List Kd
 |.num n=>[.num n]
 |.name q t=>[.name q t]
 |.pair a b=>a.leaves++b.leaves
def Kd.leaf:Kd→Bool
 |.pair _ _=>false
 |_=>true
theorem words_leaves:∀k:Kd,k.words+1=2*k.leaves.length
 |.num _=>rfl
 |.name _ _=>rfl
 |.pair a b=>by
  have h1:=words_leaves a
  have h2:=words_leaves b
  show 1+a.words+b.words+1=2*(a.leaves++b.leaves).length
  rw [List.length_append]
  omega
theorem leaves_pos:∀k:Kd,0 < k.leaves.length
 |.num _=>Nat.zero_lt_one
 |.name _ _=>Nat.zero_lt_one
 |.pair a b=>by
  have h1:=leaves_pos a
  show 0 < (a.leaves++b.leaves).length
  rw [List.length_append]
  omega
theorem leaves_of_leaf{k:Kd}(h:k.leaf=true):k.leaves=[k]:=by
 cases k with
 |num _=>rfl
 |name _ _=>rfl
 |pair _ _=>cases h
inductive KdAt (K:PySem.W.Frag) (H:Hp):V→Kd→Prop
 |num {a:Addr} {n:Int}:SqT K H a [.str "num",.int n]→KdAt K H (.ref a) (.num n)
 |name {a:Addr} {q t:Str}:SqT K H a [.str "name",.str q,.str t]→KdAt K H (.ref a) (.name q t)
 |pair {a:Addr} {x y:V} {k l:Kd}:SqT K H a [.str "pair",x,y]→KdAt K H x k→KdAt K H y l→KdAt K H (.ref a) (.pair k l)
theorem KdAt.same{K:PySem.W.Frag}{H H':Hp}(e:Same H H'):∀{x:V} {k:Kd},KdAt K H x k→KdAt K H' x k
 |_,_,.num h=>.num (e.tup h)
 |_,_,.name h=>.name (e.tup h)
 |_,_,.pair h a b=>.pair (e.tup h) (a.same e) (b.same e)
inductive KdsAt (K:PySem.W.Frag) (H:Hp):List V→List Kd→Prop
 |nil:KdsAt K H [] []
 |cons {x:V} {k:Kd} {xs:List V} {ks:List Kd}:KdAt K H x k→KdsAt K H xs ks→KdsAt K H (x::xs) (k::ks)
theorem KdsAt.same{K:PySem.W.Frag}{H H':Hp}(e:Same H H'):∀{xs:List V} {ks:List Kd},KdsAt K H xs ks→KdsAt K H' xs ks
 |_,_,.nil=>.nil
 |_,_,.cons a b=>.cons (a.same e) (b.same e)
theorem KdsAt.length{K:PySem.W.Frag}{H:Hp}:∀{xs:List V} {ks:List Kd},KdsAt K H xs ks→xs.length=ks.length
 |_,_,.nil=>rfl
 |_,_,.cons _ b=>congrArg (·+1) b.length
theorem KdsAt.append{K:PySem.W.Frag}{H:Hp}:∀{xs ys:List V} {ks ls:List Kd},KdsAt K H xs ks→KdsAt K H ys ls→KdsAt K H (xs++ys) (ks++ls)
 |_,_,_,_,.nil,h=>h
 |_,_,_,_,.cons a b,h=>.cons a (b.append h)
theorem KdsAt.get{K:PySem.W.Frag}{H:Hp}:∀{xs:List V} {ks:List Kd} {i:Nat} {x:V},KdsAt K H xs ks→xs[i]?=some x→∃k,ks[i]?=some k∧KdAt K H x k
 |_,_,_,_,.nil,e=>by simp at e
 |_,_,0,_,.cons a _,e=>by
  obtain rfl:=Option.some.inj e
  exact⟨_,rfl,a⟩
 |_,_,i+1,x,.cons _ b,e=>KdsAt.get (i:=i) b e
end Kk
namespace L2
open PySem PySem.Spec PyProof.Rows
section
variable{α β:Type}{P:Shared→Prop}
def Keeps(P:Shared→Prop)(t:Sem α):Prop:=∀(M:Model) (Γ:PySem.Ctx) (Q:α→Pos→Shared→Prop) (E:Value→Pos→Shared→Prop) (p:Pos) (s:Shared),P s→Sem.wp M Γ t Q E p s →
 Sem.wp M Γ t (fun a p' s'=>Q a p' s'∧P s') (fun e p' s'=>E e p' s'∧P s') p s
theorem Keeps.ret(a:α):Keeps P (Pure.pure a:Sem α):=fun _ _ _ _ _ _ h q=>⟨q,h⟩
theorem Keeps.no(x:String):Keeps P (unsupported x:Sem α):=fun _ _ _ _ _ _ _ q=>False.elim q
theorem Keeps.then{m:Sem α}{f:α→Sem β}(hm:Keeps P m)(hf:∀a,Keeps P (f a)):Keeps P (m >>= f):=fun M Γ Q E p s h q=>by
 rw [Sem.wp_bind'] at q ⊢
 exact Sem.wp_mono M Γ m (fun a p' s' z=>hf a M Γ Q E p' s' z.2 z.1) (fun _ _ _ z=>z) p s (hm M Γ _ E p s h q)
theorem Keeps.ld(a:Addr):Keeps P (load a):=fun _ _ _ _ _ _ h ⟨o,e,q⟩=>⟨o,e,q,h⟩
theorem Keeps.stk:Keeps P stack:=fun _ _ _ _ _ _ h q=>⟨q,h⟩
theorem Keeps.ite{c:Prop}[Decidable c]{a b:Sem α}(ha:Keeps P a)(hb:Keeps P b):Keeps P (if c then a else b):=by split<;>assumption
theorem Keeps.wpAny{t:Sem α}(k:Keeps P t){M:Model}{A:Around}{Q:α→Shared→Prop}{E:Value→Shared→Prop}{s:Shared}(hp:P s)(h:wpAny M A t Q E s):wpAny M A t (fun a s'=>Q a s'∧P s') (fun e s'=>E e s'∧P s') s :=
 fun Γ p hΓ=>k M Γ _ _ p s hp (h Γ p hΓ)
def DictIs(x:Addr)(d:Option Addr)(s:Shared):Prop:=∃ob,s.heap.get? x=some ob∧ob.dict=d
variable{x:Addr}{d:Option Addr}
theorem Keeps.up{a:Addr}{f:Obj→Obj}(hf:∀o:Obj,o.isFreed=false→(f o).dict=o.dict∧(f o).isFreed=false):Keeps (DictIs x d) (update a f):=fun _ _ _ _ _ s h q=>by
 refine⟨q.1,q.2,?_⟩
 obtain⟨ob,e,hd⟩:=h
 have hfr:=(Heap.get?_some_iff.mp e).2
 by_cases hx:a=x
 ·subst hx
  exact⟨_,Heap.get?_update_self f e (hf ob hfr).2,(hf ob hfr).1.trans hd⟩
 ·exact⟨ob,(Heap.get?_update_other _ f hx).trans e,hd⟩
theorem Keeps.new{o:Obj}:Keeps (DictIs x d) (alloc o):=fun _ _ _ _ _ s h q=>by
 obtain⟨ob,e,hd⟩:=h
 exact⟨q,ob,Heap.get?_push_of_some _ e,hd⟩
theorem Keeps.flds{v:Value}:Keeps P (fieldsOf v):=by
 unfold fieldsOf
 split
 ·refine Keeps.then (Keeps.ld _) fun o=>?_
  split
  ·exact Keeps.ret _
  ·exact Keeps.no _
 ·exact Keeps.no _
theorem Keeps.fld{v:Value}{i:Nat}:Keeps P (field v i):=by
 unfold field
 refine Keeps.then Keeps.flds fun vs=>?_
 split
 ·exact Keeps.ret _
 ·exact Keeps.no _
theorem Keeps.setF{v u:Value}{i:Nat}:Keeps (DictIs x d) (setField v i u):=by
 unfold setField
 split
 ·unfold updateField
  refine Keeps.then (Keeps.ld _) fun o=>?_
  split
  ·refine Keeps.ite (Keeps.up fun o ho=>?_) (Keeps.no _)
   obtain⟨c,dd,dt,sl⟩:=o
   cases dt<;>exact⟨rfl,ho⟩
  ·exact Keeps.no _
 ·exact Keeps.no _
theorem Keeps.flight{e:Value}{f:Option Addr}:Keeps (DictIs x d) (setFlight e f):=by
 unfold setFlight
 exact Keeps.then Keeps.fld fun tb=>Keeps.ite Keeps.setF (Keeps.ret _)
theorem Keeps.ready:∀l:List Env,Keeps (DictIs x d) (readyFrames l)
 |[]=>Keeps.ret _
 |env::outer=>by
  unfold readyFrames
  split
  ·refine Keeps.then (Keeps.ld _) fun o=>Keeps.ite (Keeps.ret _) (Keeps.then ?_ fun im=>Keeps.then ?_ fun bk=>Keeps.then (Keeps.up fun o ho=>⟨rfl,by obtain⟨c,dd,dt,sl⟩:=o;cases dt<;>first|rfl|exact ho⟩) fun _=>Keeps.ready outer)
   ·unfold behindIsImport
    exact Keeps.ite (Keeps.ret _) (Keeps.ite (Keeps.ret _) (Keeps.then Keeps.fld fun _=>Keeps.ret _))
   ·cases outer with
    |nil =>
     unfold keptBack
     refine Keeps.ite (Keeps.ret _) (Keeps.then ?_ fun _=>Keeps.ret _)
     unfold underTheClaimsCaller
     exact Keeps.then Keeps.stk fun _=>Keeps.ret _
    |cons c r=>exact Keeps.ret _
  ·exact Keeps.no _
theorem Keeps.frame{env:Env}:Keeps (DictIs x d) (PySem.frameOf env):=by
 unfold PySem.frameOf
 refine Keeps.then (Keeps.then Keeps.stk fun _=>Keeps.ret _) fun l=>Keeps.then ?_ fun r=>?_
 ·generalize l.dropWhile (fun y=>y.frame != env.frame)=l2
  cases l2 with
  |nil=>exact Keeps.ret _
  |cons e r=>exact Keeps.then (Keeps.ready (e::r)) fun _=>Keeps.ret _
 ·split
  ·exact Keeps.ret _
  ·exact Keeps.no _
theorem Keeps.entry{a b c e f:Value}{pl:List Value}:Keeps (DictIs x d) (EntryCells.newEntry a b c e f pl):=by
 unfold EntryCells.newEntry newFields newObj
 have st:∀(dt:Data) (dd:Option Addr),Keeps (DictIs x d) (newObjAsIs (.type "traceback") dt dd):=fun dt dd=>by
  unfold newObjAsIs
  exact Keeps.then Keeps.new fun a=>Keeps.ret _
 exact Keeps.ite (Keeps.then (Keeps.no _) fun _=>st _ _) (st _ _)
theorem Keeps.note{e:Value}{env:Env}:Keeps (DictIs x d) (noteFrame e env):=by
 unfold noteFrame
 split
 ·rename_i fr _
  refine Keeps.then Keeps.fld fun hd=>?_
  have go:Keeps (DictIs x d) (do setField e 1 (←EntryCells.newEntry hd (←PySem.frameOf env) .none (rawInt fr) .none (←entryPlaceOf fr (hd != .none)))) :=
   Keeps.then Keeps.frame fun _=>Keeps.then (by
    unfold entryPlaceOf
    refine Keeps.then Keeps.stk fun _=>?_
    split
    ·exact Keeps.ret _
    ·exact Keeps.ret _) fun _=>Keeps.then Keeps.entry fun _=>Keeps.setF
  exact Keeps.ite (Keeps.then Keeps.fld fun _=>Keeps.ite (Keeps.ret _) (Keeps.then Keeps.setF fun _=>go)) go
 ·exact Keeps.no _
theorem Keeps.leave{e:Value}{env:Env}:Keeps (DictIs x d) (leaving env e):=by
 unfold leaving
 exact Keeps.then Keeps.note fun _=>Keeps.flight
end
end L2
namespace L2
open PySem PySem.Spec PyProof.Rows
section
variable{P:Program}{w:World}
theorem ObjOk.there{H:Hp}{h:Heap}{a:Addr}{o:HO}(x:ObjOk P w H h a o):∃u,h.get? a=some u:=by
 cases o with
 |lst xs=>obtain⟨_,_,_,_,e⟩:=x;exact⟨_,e⟩
 |tup xs=>obtain⟨_,_,_,ob,e,_⟩:=x;exact⟨_,e⟩
 |dK kvs=>obtain⟨_,_,_,_,o,_,_,e,_⟩:=x;exact⟨_,e⟩
 |dT kvs=>obtain⟨_,_,_,_,o,_,_,e,_⟩:=x;exact⟨_,e⟩
 |set S n=>obtain⟨o,_,_,_,e,_⟩:=x;exact⟨_,e⟩
 |ins C dx fs=>obtain⟨_,_,_,e,_⟩:=x;exact⟨_,e⟩
 |own y=>exact x
 |xd fs=>obtain⟨_,⟨_,_,_,e,_⟩,_⟩:=x;exact⟨_,e⟩
 |rng lo hi=>obtain⟨_,_,_,e⟩:=x;exact⟨_,e⟩
 |frz ob u=>obtain⟨e,_⟩:=x;exact⟨_,e⟩
 |tbl ps=>exact⟨_,(show h.get? a=some _ from x)⟩
 |met f y=>exact⟨_,(show h.get? a=some _ from x)⟩
 |ext φ=>obtain⟨_,e,_⟩:=x;exact e
structure Fly(P:Program)(w:World)(outer:List Env)(H:Hp)(s:Shared)(x:Addr)(cls:Value)(H':Hp)(s':Shared):Prop where
 os:s'.os=s.os
 bare:AllBare s'.gens
 un:Un (frs outer) [] H H' s.heap s'.heap
 hok:HOk P w H' s'.heap
 fl:∃B a0,Heap.FlyingW B outer x cls a0 s'.heap∧(∀b o,H' b=some o→∃u,B.get? b=some u)∧∀b o,s.heap.get? b=some o→b∉frs outer→∃u,B.get? b=some u
 free:H' x=none
def CX1(P:Program)(w:World):CXT:=fun outer H s E e s'=>∃x cls d H',e=.ref x∧Fly P w outer H s x cls H' s'∧DictIs x d s'∧E cls d H'
end
section
variable{X:Cx}{pins:List (Addr × Obj)}{σ:St}{H H':Hp}{s s':Shared}{x:Addr}{cls:Value}{E:Value→Shared→Prop}{Q:Unit→Shared→Prop}
theorem Inv.notSt(I:Inv X pins σ H s){b:Addr}(h1:b≠X.env.locals)(h2:b∉X.fs):b∉frs X.stack:=fun z=>(List.mem_cons.mp (I.stkSub b z)).elim h1 h2
theorem Inv.oldL(I:Inv X pins σ H s){b:Addr}{o:Obj}(e:X.s₀.heap.get? b=some o):b≠X.env.locals:=Nat.ne_of_lt (Nat.lt_of_lt_of_le (Heap.lt_size e) I.ok.above)
theorem Fly.leave(I:Inv X pins σ H s)(hst:X.stack=X.env::X.outer)(hfr:X.env.frame=some X.env.locals)(hex:X.ex=[])(f:Fly X.prog X.w X.stack H s x cls H' s'){d:Option Addr}(hdi:DictIs x d s')
  (hQ:∀s'',Fly X.prog X.w X.outer X.H₀ X.s₀ x cls H' s''→DictIs x d s''→Q () s''):wpAny (model X.prog X.w) X.A (leaving X.env (.ref x)) Q E s':=by
 refine wpAny_mono (Keeps.leave.wpAny (E:=E) (Q:=fun _ s''=>Fly X.prog X.w X.outer X.H₀ X.s₀ x cls H' s'') hdi ?_) (fun _ s'' z=>hQ s'' z.1 z.2) fun _ _ z=>z.1
 obtain⟨B,a0,fl,c1,c2⟩:=f.fl
 rw [hst] at fl
 have nx:∀b:Addr,b∉X.ex:=fun b=>by rw [hex];simp
 refine wpAny_leaves_onW (by rw [I.ok.frames,hst]) hfr fl fun h' fl' up=>?_
 have st:∀b o,B.get? b=some o→h'.get? b=some o:=fl'.1
 have same:∀b u v,B.get? b=some u→s'.heap.get? b=some v→u=v:=fun b u v h1 h2=>by
  have h3:=fl.1 b u h1
  rw [h2] at h3
  exact(Option.some.inj h3).symm
 have slot:∀b o,X.s₀.heap.get? b=some o→X.H₀ b=none→b∈X.fs→∃sl,h'.get? b=some { o with slots:=sl }:=fun b o e n hb=>by
  obtain⟨sl,e1⟩:=I.base.slot b o e n hb (nx b)
  obtain⟨sl2,e2⟩:=f.un.any e1 (I.base.free b o e n (nx b)) (by simp)
  obtain⟨_,of,ho,hnf⟩:=I.ok.funs.mem hb
  rw [e] at ho
  cases ho
  obtain⟨sl3,e3⟩:=up b _ e2 hnf
  exact⟨sl3,e3⟩
 refine⟨f.os.trans I.os,f.bare,⟨fun b o e n hb _=>?_,fun b o e n hb _=>slot b o e n hb,fun b o e n _=>?_,fun b o e _=>?_,fun b xs e=>f.un.tups b xs (I.base.tups b xs e),fun b o u e=>f.un.frzs b o u (I.base.frzs b o u e),fun b ps e=>?_⟩,fun a o e=>?_,⟨B,a0,fl',c1,fun b o e hb=>?_⟩,f.free⟩
 ·have e1:=I.base.keep b o e n hb (nx b)
  have n1:=I.base.free b o e n (nx b)
  have hb':=I.notSt (I.oldL e) hb
  have e2:=f.un.keep b o e1 n1 hb' (by simp)
  obtain⟨u,hu⟩:=c2 b o e1 hb'
  exact same b u o hu e2▸st b u hu
 ·obtain⟨o',e1⟩:=I.base.there b o e (nx b)
  exact f.un.free b o' e1 (I.base.free b o e n (nx b)) (by simp)
 ·by_cases hb:b∈X.fs
  ·obtain⟨sl,e1⟩:=slot b o e (I.ok.frf b hb) hb
   exact⟨_,e1⟩
  ·obtain⟨o',e1⟩:=I.base.there b o e (nx b)
   obtain⟨u,hu⟩:=c2 b o' e1 (I.notSt (I.oldL e) hb)
   exact⟨u,st b u hu⟩
 ·obtain⟨m1,e1⟩:=I.base.tbls b ps e
  obtain⟨m2,e2⟩:=f.un.tbls b _ e1
  exact⟨m1++m2,by rw [e2,Array.append_assoc]⟩
 ·refine(f.hok a o e).stay (fun b u hb q=>?_) (fun _ q=>q) fun _ _ q=>q
  have t:∃o',H' b=some o':=by
   rcases hb with z|z
   ·exact⟨o,by rw [z];exact e⟩
   ·exact⟨_,z⟩
  obtain⟨o',e'⟩:=t
  obtain⟨v,hv⟩:=c1 b o' e'
  exact same b v u hv q▸st b v hv
 ·obtain⟨o',e1⟩:=I.base.there b o e (nx b)
  exact c2 b o' e1 (I.notSt (I.oldL e) hb)
theorem Fly.first{oe:Obj}{vs:Array Value}{a0:Value}(I:Inv X pins σ H s)(hst:X.stack=X.env::X.outer)(hfr:X.env.frame=some X.env.locals)(hex:X.ex=[])(hx:s.heap.get? x=some oe)(hcl:oe.cls=cls)(hdt:oe.data=.fields vs)
  (h1:vs[1]?=some .none) (h0:vs[0]?=some a0) (hn:X.s₀.heap.get? x=none) (hH:H x=none)
  (hQ:∀s'',Fly X.prog X.w X.outer X.H₀ X.s₀ x cls H s''→DictIs x oe.dict s''→Q () s''):wpAny (model X.prog X.w) X.A (leaving X.env (.ref x)) Q E s:=by
 have nx:∀b:Addr,b∉X.ex:=fun b=>by rw [hex];simp
 refine wpAny_mono (Keeps.leave.wpAny (E:=E) (Q:=fun _ s''=>Fly X.prog X.w X.outer X.H₀ X.s₀ x cls H s'') ⟨oe,hx,rfl⟩ ?_) (fun _ s'' z=>hQ s'' z.1 z.2) fun _ _ z=>z.1
 have hl:s.heap.FunFrames (PySem.W.hideAll s.heap (x::frs X.stack)) (X.env::X.outer) :=
  PySem.W.funFrames_hide (base:=X.base) (by rw [←hst];exact I.stack) fun env he a hf=>by
   rw [hst]
   exact .tail _ (List.mem_filterMap.mpr ⟨env,he,hf⟩)
 have hen:(PySem.W.hideAll s.heap (x::frs X.stack)).get? x=none:=PySem.W.hideAll_none _ (.head _)
 refine wpAny_leaving_firstW (a0:=a0) (by rw [I.ok.frames,hst]) hl hfr hx (fun b o q=>PySem.W.of_hideAll _ q) hen hdt h1 h0 fun h' hL=>?_
 obtain⟨k1,⟨_,_,k2⟩,k3,up⟩:=hL
 rw [hcl] at k3
 have st:∀b o,s.heap.get? b=some o→b∉frs X.stack→b≠x→h'.get? b=some o:=fun b o e hb hbx=>k1 b o (PySem.W.hideAll_get _ e fun z=>(List.mem_cons.mp z).elim hbx hb)
 have old:∀b o,X.s₀.heap.get? b=some o→b≠x:=fun b o e z=>by rw [z,hn] at e;cases e
 have slot:∀b o,X.s₀.heap.get? b=some o→X.H₀ b=none→b∈X.fs→∃sl,h'.get? b=some { o with slots:=sl }:=fun b o e n hb=>by
  obtain⟨sl,e1⟩:=I.base.slot b o e n hb (nx b)
  obtain⟨_,of,ho,hnf⟩:=I.ok.funs.mem hb
  rw [e] at ho
  cases ho
  obtain⟨sl3,e3⟩:=up b _ e1 hnf
  exact⟨sl3,e3⟩
 have trk:∀b o,H b=some o→b∉frs X.stack∧b≠x:=fun b o e=>⟨fun z=>(by rw [I.stkFree b z] at e;cases e),fun z=>(by rw [z,hH] at e;cases e)⟩
 refine⟨I.os,I.bare,⟨fun b o e n hb _=>st b o (I.base.keep b o e n hb (nx b)) (I.notSt (I.oldL e) hb) (old b o e),fun b o e n hb _=>slot b o e n hb,fun b o e n _=>I.base.free b o e n (nx b),fun b o e _=>?_,I.base.tups,I.base.frzs,I.base.tbls⟩,fun a o e=>?_,⟨_,_,⟨k1,hen,k2,k3⟩,fun b o e=>?_,fun b o e hb=>?_⟩,hH⟩
 ·by_cases hb:b∈X.fs
  ·obtain⟨sl,e1⟩:=slot b o e (I.ok.frf b hb) hb
   exact⟨_,e1⟩
  ·obtain⟨o',e1⟩:=I.base.there b o e (nx b)
   exact⟨o',st b o' e1 (I.notSt (I.oldL e) hb) (old b o e)⟩
 ·refine(I.hok a o e).stay (fun b u hb q=>?_) (fun _ q=>q) fun _ _ q=>q
  have hb':∃o',H b=some o':=by
   rcases hb with z|z
   ·exact⟨o,by rw [z];exact e⟩
   ·exact⟨_,z⟩
  obtain⟨o',e'⟩:=hb'
  exact st b u q (trk b o' e').1 (trk b o' e').2
 ·obtain⟨u,hu⟩:=(I.hok b o e).there
  exact⟨u,PySem.W.hideAll_get _ hu fun z=>(List.mem_cons.mp z).elim (trk b o e).2 (trk b o e).1⟩
 ·obtain⟨o',e1⟩:=I.base.there b o e (nx b)
  exact⟨o',PySem.W.hideAll_get _ e1 fun z=>(List.mem_cons.mp z).elim (old b o e) (I.notSt (I.oldL e) hb)⟩
theorem Fly.made{h1:Heap}{vs:List Value}(I:Inv X pins σ H s)(hst:X.stack=X.env::X.outer)(hfr:X.env.frame=some X.env.locals)(hex:X.ex=[])(hx:Heap.MadeExcOf s.heap h1 x cls vs)
  (hQ:∀s'',Fly X.prog X.w X.outer X.H₀ X.s₀ x cls H s''→DictIs x none s''→Q () s''):wpAny (model X.prog X.w) X.A (leaving X.env (.ref x)) Q E { s with heap:=h1 }:=by
 obtain⟨t,he,_,_⟩:=hx.there
 have I1:Inv X pins σ H { s with heap:=h1 }:=I.kept hx.keeps
 refine Fly.first I1 hst hfr hex he rfl rfl rfl rfl ?_ ?_ hQ
 ·cases q:X.s₀.heap.get? x with
  |none=>rfl
  |some o =>
   obtain⟨u,hu⟩:=I.base.there x o q (by rw [hex];simp)
   have:=hx.new
   rw [hu] at this
   cases this
 ·cases q:H x with
  |none=>rfl
  |some o =>
   obtain⟨u,hu⟩:=(I.hok x o q).there
   have:=hx.new
   rw [hu] at this
   cases this
end
section
variable{P:Program}{w:World}{K:PySem.W.Frag}{mg:Str→Option Value}{base:Heap}{N:List Str}{qual:Str}{scope:Scope}{f:Addr}{cd:Value}{A:Around}{outer:List Env}{s:Shared}{H:Hp}{E:XK}
theorem pass1:Passes (CX1 P w) (cxOf (CX1 P w) P w K mg base N qual scope f cd A outer s H E) E:=fun pins σ H1 s1 e s' I h=>by
 obtain⟨x,cls,d,H',rfl,fl,hd,hE⟩:=h
 exact Fly.leave I rfl rfl rfl fl hd fun s'' g gd=>⟨x,cls,d,H',rfl,g,gd,hE⟩
end
theorem ownExc_of{K:PySem.W.Frag}{h:Heap}{mg:Str→Option Value}{c:Str}{C:Addr}{bmB:List Value}{newId:String}(kin:K.In h)(hm:mg c=some (.ref C))(q:PySem.W.excIn K C bmB newId=true):OwnCls c C bmB newId mg h:=by
 refine⟨hm,?_⟩
 unfold PySem.W.excIn at q
 split at q
 next ddx cdx slx look =>
  split at q
  next C2 tl z0 z1 z2 z3 nn z5 hmro hsl =>
   simp only [Bool.not_eq_true',Bool.and_eq_true,beq_iff_eq] at q
   obtain⟨⟨⟨⟨⟨e1,e2⟩,hdel⟩,htl⟩,hok⟩,hni⟩:=q
   obtain⟨nm,bs,mro,ns,qn,hd,sn,sub,ab,col,del⟩:=cdx
   obtain⟨sll⟩:=slx
   dsimp only at hmro hdel hok hni hsl
   subst e1 e2 hmro hdel hsl
   exact⟨tl,ns,nm,qn,bs,hd,sn,sub,ab,col,ddx,z0,z1,z2,z3,z5,_,kin _ _ look,.of_isNs (PySem.W.isNs_of_in kin hok),PySem.W.nsMap_none_of_in kin hok hni,PySem.W.tail_of_in kin htl⟩
  next=>cases q
 next=>cases q
abbrev bmVE:List Value:=[.type "ValueError",.type "Exception",.type "BaseException",.type "object"]
theorem ps_raise{X:Cx}{c:Str}{C:Addr}{e₀:Expr}{es:List Expr}{np cpos pos:Pos}{ta:TA}{W:St→Hp→Prop}(hc:X.calm=true)(hg:Gl X c)(hm:X.mg c=some (.ref C)) (q:PySem.W.excIn X.K C bmVE "ValueError.__new__"=true)
  (ha:PA X (e₀::es) ta) (hW:∀(pins:List (Addr × Obj)) (σ:St) (H:Hp) (s:Shared) (e:Addr) (h1:Heap) (vs:List Value),Inv X pins σ H s→W σ H→Heap.MadeExcOf s.heap h1 e (.ref C) vs→X.xe (.ref e) { s with heap:=h1 })
  (hd:(c==("__debug__":Str))=false:=by decide) (he:starEach (e₀::es) X.env=(false,eval e₀ X.env)::starEach es X.env:=by rfl) (hpl:(backTo cpos (starEach es X.env)).any (·.1)=false:=by rfl) :
  PS X (.Raise (some (.Call (.Name c np) (e₀::es) [] cpos)) none pos) (fun _ σ H=>ta σ H fun vs H1=>vs.length≤sizeLine∧W σ H1):=by
 intro pins s σ H D I h
 obtain⟨tl,N,nm,qq,bs,hdct,sn,sub,ab,col,dd,k0,k1,k2,k3,k5,mN,hC,hN,hni,T⟩:=(ownExc_of I.mod.kin hm q).obj
 refine wpAny_Raise_call_subU (C:=C) (nm:=nm) (q:=qq) (N:=N) (bs:=bs) (bm:=tl) (hdct:=hdct) (sn:=sn) (sub:=sub) (ab:=ab) (col:=col) (dd:=dd) (k0:=k0) (k1:=k1) (k2:=k2) (k3:=k3) (k5:=k5)
  PySem.F.excBase_ValueError (by decide +kernel) PySem.F.excBase_ValueError (mN:=mN) (T.hasType PySem.F.excBase_ValueError.hasBase) (I.ok.hd hc) ?_ hni (ld_glob I hg hm ⟨rfl,?_⟩ hd)
 ·rw [he]
  show(false||(backTo cpos (starEach es X.env)).any (·.1))=false
  rw [hpl]
  rfl
 ·have h2:=ha cpos pins s σ H _ I h
  rw [he] at h2 ⊢
  refine Calls.evalArgs_plain (wpAny_mono h2 (fun us s2 ⟨vs,H1,I1,rv,hl,hw⟩=>⟨rfl,?_,I1.bk _ _ hC,hN.keeps I1.bk,T.keeps I1.bk,fun h' e hx=>hW pins σ H1 s2 e h' us I1 hw hx⟩) fun _ _ z=>z)
  rw [←rv.length]
  exact hl
section
variable{P:Program}{w:World}{K:PySem.W.Frag}{mg:Str→Option Value}{base:Heap}
theorem ps_raise1{N:List Str}{qual:Str}{scope:Scope}{f:Addr}{cd:Value}{A:Around}{outer:List Env}{s:Shared}{H:Hp}{E:XK}{c:Str}{C:Addr}{e₀:Expr}{es:List Expr}{np cpos pos:Pos}{ta:TA}
  (hg:Gl (cxOf (CX1 P w) P w K mg base N qual scope f cd A outer s H E) c) (hm:mg c=some (.ref C)) (q:PySem.W.excIn K C bmVE "ValueError.__new__"=true) (ha:PA (cxOf (CX1 P w) P w K mg base N qual scope f cd A outer s H E) (e₀::es) ta)
  (hd:(c==("__debug__":Str))=false:=by decide) (he:starEach (e₀::es) (envOfC qual scope s.heap.objs.size f cd)=(false,eval e₀ (envOfC qual scope s.heap.objs.size f cd))::starEach es (envOfC qual scope s.heap.objs.size f cd):=by rfl)
  (hpl:(backTo cpos (starEach es (envOfC qual scope s.heap.objs.size f cd))).any (·.1)=false:=by rfl) :
  PS (cxOf (CX1 P w) P w K mg base N qual scope f cd A outer s H E) (.Raise (some (.Call (.Name c np) (e₀::es) [] cpos)) none pos) (fun _ σ H=>ta σ H fun vs H1=>vs.length≤sizeLine∧E (.ref C) none H1) :=
 ps_raise (X:=cxOf (CX1 P w) P w K mg base N qual scope f cd A outer s H E) (W:=fun _ H1=>E (.ref C) none H1) rfl hg hm q ha (fun pins σ H s e h1 vs I hw hx=>Fly.made I rfl rfl rfl hx fun s'' g gd=>⟨e,.ref C,none,H,rfl,g,gd,hw⟩) hd he hpl
theorem Fun.okX{x qual:Str}{st:Stmt}{f:Addr}{fd:FuncData}{N ps:List Str}{k:Nat}{sp:Sp}(F:Fun K x qual st f fd)(S:FnScope N ps (defScope st))(len:∀vs H Q E,sp vs H Q E→vs.length=ps.length)
  (hbody:∀(cdv:Value) (A:Around) (outer:List Env) (s:Shared) (H:Hp) (vs:List V) (Q:VK) (E:XK),Room k (A.deeper (envOfC qual (defScope st) s.heap.objs.size f cdv))→sp vs H Q E →
   ∃t,PSs (cxOf (CX1 P w) P w K mg base N qual (defScope st) f cdv A outer s H E) (defBody st) t∧t { nx:=fun _ H'=>Q .non H',rt:=Q } (start N vs) H):FnOk P w K mg base (CX1 P w) (k+1) f fd ps sp:=by
 obtain⟨oc,od,kV,doc,pm,an,cdv,ct,osl,rfl,lk,hcd⟩:=F.ex
 exact fn_of lk hcd S len fun A outer s H vs Q E hr hsp=>hbody cdv A outer s H vs Q E hr hsp
end
end L2
namespace L2
open PySem PySem.Spec PyProof.Rows
section
variable{X:Cx}{pins:List (Addr × Obj)}{σ:St}{H H':Hp}{s s':Shared}{x:Addr}{cls:Value}
end
abbrev Cx.inE(X:Cx)(e:Addr):Cx:={ X with A:=X.A.mark (some (.ref e)),calm:=false }
section
variable{X:Cx}{pins:List (Addr × Obj)}{σ:St}{H:Hp}{s:Shared}
end
def etry(X:Cx)(hs:List ExceptHandler)(pins:List (Addr × Obj))(D:Ends):Value→Shared→Prop:=fun e s1 =>
 wpAny (model X.prog X.w) X.A (noteFrame e X.env) (fun _ s2=>wpAny (model X.prog X.w) X.A (setFlight e none) (fun _ s3=>wpAny (model X.prog X.w) X.A (handleBy e X.env hs) (SP X pins D) X.xe s3) X.xe s2) X.xe s1
abbrev Cx.tryIn(X:Cx)(hs:List ExceptHandler)(pins:List (Addr × Obj))(D:Ends):Cx:={ X with pn:=X.pn++pins,xe:=etry X hs pins D }
section
variable{X:Cx}{hs:List ExceptHandler}{pins pins':List (Addr × Obj)}{D D':Ends}{σ:St}{H:Hp}{s:Shared}
end
section
variable{X:Cx}{CX:CXT}{k:Nat}{f C:Addr}{fd:FuncData}{ps:List Str}{sp:Sp}{dvs:List V}{ds:List Value}{E:St→XK}{x m:Str}{p pos apos:Pos}{e o:Expr}{es:List Expr}{ta:TE}{t:TA}
end
end L2
namespace L2
open PySem PySem.Spec PyProof.Rows
section
variable{X:Cx}{pos:Pos}{e:Expr}{es:List Expr}{te:TE}
abbrev TJ:=St→Hp→(Hp→Prop)→Prop
def PJ(X:Cx)(es:List Expr)(t:TJ):Prop :=
 ∀(pins:List (Addr × Obj)) (s:Shared) (σ:St) (H:Hp) (acc:Str) (Z:Hp→Prop),acc.length+2000000*es.length≤sizeLine→Inv X pins σ H s→t σ H Z →
  Joins (model X.prog X.w) X.A X.xe (evalEach es X.env) acc (fun out s1=>out.length≤sizeLine∧∃H1,Inv X pins σ H1 s1∧Z H1) s
theorem pj_nil:PJ X [] (fun _ H Z=>Z H):=fun _ _ _ H _ _ hz I h=>⟨Nat.le_trans (Nat.le_add_right _ _) hz,H,I,h⟩
theorem pj_cons{tj:TJ}(he:PE X e te)(hr:PJ X es tj):PJ X (e::es) (fun σ H Z=>te σ H fun v H1=>∃y:Str,v=.str y∧y.length≤2000000∧tj σ H1 Z):=by
 intro pins s σ H acc Z hz I h
 refine thn (he pins s σ H _ I h) fun u s1 ⟨v,H1,I1,r,y,hv,hy,q⟩=>?_
 subst hv
 obtain⟨t,rfl⟩:=r
 have e1:(acc++y).length=acc.length+y.length:=by
  show Array.size (acc.cps++y.cps)=_
  rw [Array.size_append]
  rfl
 have e2:(e::es).length=es.length+1:=rfl
 rw [e2] at hz
 refine⟨y,t,rfl,by omega,hr pins s1 σ H1 (acc++y) Z (by omega) I1 q⟩
theorem pe_fstr{v1 v2:Expr}{rest:List Expr}{tj:TJ}(hj:PJ X (v1::v2::rest) tj)(hl:(v1::v2::rest).length≤8) :
  PE X (.JoinedStr (v1::v2::rest) pos) (fun σ H Q=>tj σ H fun H1=>∀z:Str,z.length≤sizeLine→Q (.str z) H1):=by
 intro pins s σ H Q I h
 have hz:Str.empty.length+2000000*(v1::v2::rest).length≤sizeLine:=by
  have e0:Str.empty.length=0:=rfl
  rw [sizeLine_eq,e0]
  rw [Nat.zero_add]
  exact Nat.le_trans (Nat.mul_le_mul_left _ hl) (Nat.le_of_ble_eq_true rfl)
 refine wpAny_JoinedStr ?_
 have j:=hj pins s σ H Str.empty _ hz I h
 exact joins_mono _ _ (fun out s1 ⟨h1,H1,I1,q⟩=>⟨h1,.str out,H1,I1.tok _,⟨_,rfl⟩,q out h1⟩) _ j
where joins_mono {M:Model} {A:Around} {E:Value→Shared→Prop}:∀(parts:List (Sem Value)) (acc:Str) {Q Q':Str→Shared→Prop},(∀out s,Q out s→Q' out s)→∀s,Joins M A E parts acc Q s→Joins M A E parts acc Q' s
 |[],acc,_,_,hq,s,h=>hq _ _ h
 |x::rest,acc,_,_,hq,s,h=>thn (show wpAny _ _ _ _ _ _ from h) fun v s1 ⟨y,t,e1,e2,e3⟩=>⟨y,t,e1,e2,joins_mono rest (acc++y) hq s1 e3⟩
theorem pe_fv(he:PE X e te):PE X (.FormattedValue e (-1) none pos) (fun σ H Q=>te σ H fun v H1=>(∃y:Str,v=.str y∧y.length≤sizeLine∧Q (.str y) H1)∨∃i:Int,v=.int i∧i.natAbs.log2 < 1920∧Q (.str (toString i)) H1):=by
 intro pins s σ H Q I h
 refine FormattedValue_plain (thn (he pins s σ H _ I h) fun u s1 ⟨v,H1,I1,r,q⟩=>?_)
 rcases q with ⟨y,rfl,hy,q⟩|⟨i,rfl,hi,q⟩
 ·obtain⟨t,rfl⟩:=r
  exact formatField_str (fun t' tk=>⟨.str y,H1,I1.tok _,⟨_,rfl⟩,q⟩) hy
 ·obtain⟨t,rfl⟩:=r
  exact formatField_int_small hi ⟨.str _,H1,I1.tok _,⟨_,rfl⟩,q⟩
theorem pe_fr(he:PE X e te):PE X (.FormattedValue e 114 none pos) (fun σ H Q=>te σ H fun v H1=>∃y:Str,v=.str y∧PyData.strOk y=true∧y.length≤9000∧∀z:Str,z.length≤100000→Q (.str z) H1):=by
 intro pins s σ H Q I h
 refine wpAny_FormattedValue_repr (thn (he pins s σ H _ I h) fun u s1 ⟨v,H1,I1,r,y,hv,hok,hy,q⟩=>?_)
 subst hv
 obtain⟨t,rfl⟩:=r
 have hl:=StrLaws.reprText_len y fun c hc=>by
  have h1:y.cps.all (· < 0x110000)=true:=hok
  rw [Array.all_eq_true_iff_forall_mem] at h1
  have h2:=h1 c (by simpa using hc)
  have h3:c < 0x110000:=by simpa using h2
  exact Nat.lt_trans h3 (by decide)
 have hz:(reprText y).length≤sizeLine:=Nat.le_trans hl (by rw [sizeLine_eq];omega)
 refine wpAny_pyReprObj_str ?_ hz
 exact formatField_str (fun t' tk=>⟨.str _,H1,(I1.tok _).tok _,⟨_,rfl⟩,q _ (by omega)⟩) hz
end
end L2
namespace L2
open PySem PySem.Spec PyProof.Rows
section
variable{prog:Program}{w:World}{A:Around}{s:Shared}{E:Value→Shared→Prop}{K:Type}[DecidableEq K]{knd:KeyKind prog w K}
end
section
variable{X:Cx}
theorem call_dict_dK:CallR X (.type "dict") (fun xs H Q=>∃a kvs,xs=[.ref a]∧H a=some (.dK kvs)∧∀l,H l=none→Q (.ref l) (upd H l (.dK kvs))):=by
 intro pins s σ H xs us Q I r h
 obtain⟨a,kvs,rfl,ha,q⟩:=h
 obtain⟨u,rfl,ru⟩:=vals1 r
 cases ru
 obtain⟨z,hd,vs,rel,dd⟩:=dk_of I.hok ha
 refine PySem.kt_call_dict hd dd (by rw [←rel.length];exact z) fun h' dd' hs=>?_
 have keep:∀b o,s.heap.get? b=some o→h'.get? b=some o:=fun b o e=>(hs.2 b (Nat.ne_of_lt (Heap.lt_size e))).trans (Heap.get?_push_of_some _ e)
 refine⟨.ref s.heap.objs.size,_,I.laid (o:=.dK kvs) (t':=s.toks) keep (Nat.le_refl _) ⟨z,beq_eq_false_iff_ne.mpr (Ne.symm (Nat.ne_of_lt I.big)),vs,rel,dd'⟩,rfl,q _ (I.hok.fresh (Nat.le_refl _))⟩
end
end L2
namespace L2
open PySem PySem.Spec PyProof.Rows
structure ExcCls(K:PySem.W.Frag)(D:Addr):Prop where
 is:(match K.lookup D with|some ⟨_,_,.cls _,_⟩=>true|_=>false)=true
 ga:PySem.W.findIn K (.ref D) "__getattribute__"=some (some (.builtin "BaseException.__getattribute__"))
 gh:PySem.W.findIn K (.ref D) "__getattr__"=some none
 cl:PySem.W.findIn K (.ref D) "__class__"=some (some (.builtin "object.__class__"))
 sp:PySem.W.specialIn K (.builtin "object.__class__") "__get__"=some (some (.builtin "getset_descriptor.__get__"))
 tk:PySem.W.takesIn K (.builtin "object.__class__")=some true
 ob:PySem.W.mroIn K D (.type "object")=some true
 be:PySem.W.mroIn K D (.type "BaseException")=some true
section
variable{prog:Program}{w:World}{A:Around}{E:Value→Shared→Prop}{s:Shared}{K:PySem.W.Frag}{x D:Addr}
end
section
variable{X:Cx}
end
section
variable{X:Cx}{pins:List (Addr × Obj)}{σ:St}{H H':Hp}{s s':Shared}{x:Addr}{cls:Value}
theorem Inv.track{o:HO}(I:Inv X pins σ H s)(hn:X.s₀.heap.get? x=none)(hl:x≠X.env.locals)(hc:∀y c,X.env.cells.lookup y=some c→c≠x)(hp:∀p∈X.pn++pins,p.1≠x)(hx:H x=none)(ho:ObjOk X.prog X.w (upd H x o) s.heap x o) :
  Inv X pins σ (upd H x o) s:=by
 have ne:∀b u,H b=some u→b≠x:=fun b u e z=>by rw [z,hx] at e;cases e
 have old:∀b ob,X.s₀.heap.get? b=some ob→b≠x:=fun b ob e z=>by rw [z,hn] at e;cases e
 refine⟨I.ok,I.os,I.bare,⟨I.base.keep,I.base.slot,fun b ob e n hb=>by rw [upd_ne (old b ob e)];exact I.base.free b ob e n hb,I.base.there,fun b xs e=>?_,fun b ob u e=>?_,fun b ps e=>?_⟩,I.loc,I.cell,by rw [upd_ne (Ne.symm hl)];exact I.free,fun y c e=>by rw [upd_ne (hc y c e)];exact I.freeC y c e,fun p hpp=>?_,fun b u e=>?_,I.len⟩
 ·have z:=I.base.tups b xs e
  rw [upd_ne (ne _ _ z)]
  exact z
 ·have z:=I.base.frzs b ob u e
  rw [upd_ne (ne _ _ z)]
  exact z
 ·obtain⟨m,z⟩:=I.base.tbls b ps e
  exact⟨m,by rw [upd_ne (ne _ _ z)];exact z⟩
 ·obtain⟨a1,a2,a3,a4,a5⟩:=I.pin p hpp
  exact⟨a1,by rw [upd_ne (hp p hpp)];exact a2,a3,a4,a5⟩
 ·by_cases eb:b=x
  ·subst eb
   rw [upd_same] at e
   cases e
   exact ho
  ·rw [upd_ne eb] at e
   refine(I.hok b u e).stay (fun _ _ _ q=>q) (fun c q=>?_) fun c xs q=>?_
   ·rw [upd_ne (ne _ _ q)];exact q
   ·rw [upd_ne (ne _ _ q)];exact q
def Ends.gone(D:Ends)(i:Nat):Ends:={ nx:=fun σ H=>D.nx (σ.set i none) H,rt:=D.rt,bk:=fun σ H=>D.bk (σ.set i none) H,ct:=fun σ H=>D.ct (σ.set i none) H }
end
end L2
namespace L2
open PySem PySem.Spec PyProof.Rows
structure FunD(K:PySem.W.Frag)(x qual:Str)(st:Stmt)(dV:Value)(f:Addr)(fd:FuncData):Prop where
 ex:∃(oc:Value) (od:Option Addr) (kV doc pm:Value) (an:Option Addr) (cdv ct:Value) (osl:Array (Option Value)),
  fd=PySem.W.fnOf x qual (defArgs st) (defBody st) (defScope st) dV kV doc pm an cdv ct∧K.lookup f=some ⟨oc,od,.func fd,osl⟩∧PySem.W.codeIn K cdv qual=true
 kp:PySem.W.keepIn K (.ref f)=true
section
variable{P:Program}{w:World}{K:PySem.W.Frag}{mg:Str→Option Value}{base:Heap}
theorem FunD.okX{x qual:Str}{st:Stmt}{dV:Value}{f:Addr}{fd:FuncData}{N ps:List Str}{k:Nat}{sp:Sp}(F:FunD K x qual st dV f fd)(S:FnScope N ps (defScope st))(len:∀vs H Q E,sp vs H Q E→vs.length=ps.length)
  (hbody:∀(cdv:Value) (A:Around) (outer:List Env) (s:Shared) (H:Hp) (vs:List V) (Q:VK) (E:XK),Room k (A.deeper (envOfC qual (defScope st) s.heap.objs.size f cdv))→sp vs H Q E →
   ∃t,PSs (cxOf (CX1 P w) P w K mg base N qual (defScope st) f cdv A outer s H E) (defBody st) t∧t { nx:=fun _ H'=>Q .non H',rt:=Q } (start N vs) H):FnOk P w K mg base (CX1 P w) (k+1) f fd ps sp:=by
 obtain⟨oc,od,kV,doc,pm,an,cdv,ct,osl,rfl,lk,hcd⟩:=F.ex
 exact fn_of lk hcd S len fun A outer s H vs Q E hr hsp=>hbody cdv A outer s H vs Q E hr hsp
theorem FunD.binds{x qual:Str}{st:Stmt}{T:Addr}{f:Addr}{fd:FuncData}{ps:List Str}{oT:Value}{dT:Option Addr}{its:Array Value}{nT:Nat}{sT:Array (Option Value)}{ds:List Value}(F:FunD K x qual st (.ref T) f fd)(lT:K.lookup T=some ⟨oT,dT,.seq its nT,sT⟩)
  (h:∀(kV doc pm:Value) (an:Option Addr) (cdv ct:Value) (us:List Value),(us++ds).length=ps.length→∃k:Option (Array Value)→Sem (List (Str × Value)),
   bindArgs (PySem.W.fnOf x qual (defArgs st) (defBody st) (defScope st) (.ref T) kV doc pm an cdv ct) ⟨us,[]⟩=seqItems? (.ref T) >>= k∧k (some its)=pure (ps.zip (us++ds))):Binds K fd ps ds:=by
 obtain⟨oc,od,kV,doc,pm,an,cdv,ct,osl,rfl,lk,hcd⟩:=F.ex
 intro s us kin hl
 obtain⟨k,h1,h2⟩:=h kV doc pm an cdv ct us hl
 exact BindsTo.of_defaults rfl (kin _ _ lT) rfl h1 h2
end
end L2
namespace L2
open PySem PySem.Spec PyProof.Rows
section
variable{X:Cx}
theorem ps_compG{i0:Nat}{y0:Str}{py0 spos:Pos}{tg elt iter:Expr}{ifs:List Expr}{own caps:List Str}{κ:List Nat}{sc:Scope}{cl:List (Str × Addr)}{pos:Pos}{wi:TI}{g:TG}{tc:TT}{te:TE}(hN:X.N.Nodup)(hi0:X.N[i0]?=some y0)(hy0:Loc X.env.scope y0)(hcalm:X.calm=true)(S:BlkSc X caps sc cl)(hκ:κ.map (fun k=>X.N[k]?)=caps.map some)
  (hi:PI X tg iter wi) (hg:∀s₀ H₀ C ex,PG (blk X (own++caps) sc cl s₀ H₀ C ex) tg g)
  (hc:∀s₀ H₀ C ex (pins:List (Addr × Obj)) (s:Shared) (σ:St) (H:Hp) (Q:Bool→Hp→Prop),Inv (blk X (own++caps) sc cl s₀ H₀ C ex) pins σ H s→tc σ H Q →
   wpAny (model X.prog X.w) X.A (forIn ifs true fun c r=>if r=true then do let ok ←isTrue c (compEnvC sc cl C X.env) (eval c (compEnvC sc cl C X.env));pure (ForInStep.yield ok) else pure (ForInStep.yield r)) (TP (blk X (own++caps) sc cl s₀ H₀ C ex) pins σ Q) (fun _ _=>False) s)
  (he:∀s₀ H₀ C ex,PE (blk X (own++caps) sc cl s₀ H₀ C ex) elt te)
  (hs:∀x,foldedSetIterable iter X.env x=pure x:=by intro _;rfl) (hsw:swapsWith (.ListComp elt [⟨tg,iter,ifs,0⟩] sc pos) (some (.Name y0 py0)) spos.line X.env=pure true:=by rfl)
  (hf0:X.fn y0=true∨X.env.scope.names.lookup y0=some .local:=by first|exact .inl rfl|exact .inr rfl|assumption) :
  PS X (.Assign [.Name y0 py0] (.ListComp elt [⟨tg,iter,ifs,0⟩] sc pos) spos) (tAsg (tComp own.length κ wi g tc te) (gName i0)):=by
 intro pins s σ H D0 I h
 rw [exec_Assign_Name_used _ _ _ _ hsw]
 refine wpAny_bind (wpAny_standAt (wpAny_bind ?_))
 show wpAny _ X.A (do let _ ←comprehension (.ListComp elt [⟨tg,iter,ifs,0⟩] sc pos) sc X.env _ (newList []) false (eval iter X.env) (some (assign (.Name y0 py0) X.env))) _ _ s
 refine wpAny_bind (wpAny_mono (wpAny_comprehension_free (use:=some (assign (.Name y0 py0) X.env)) (Q:=fun _ s'=>SP X pins D0 .next s') rfl hs S.clos S.kind S.names (thn (hi pins s σ H _ I h) fun v s1 h1=>thn h1 fun itv s2 h2=>?_))
  (fun _ s' hq=>wpAny_pure (wpAny_pure hq)) fun _ _ e=>e)
 obtain⟨it,fp,tn,J,H2,e,I2,T,st2,f2,W,⟨m0,w0⟩,turn⟩:=h2
 subst e
 have hfp:∀b∈fp,b < s2.heap.objs.size:=fun b hb=>by
  obtain⟨o,e,_⟩:=T.obj _ _ st2 b hb
  exact Heap.lt_size e
 refine wpAny_newObj_type (wpAny_newFunctionEnv S.nocell (fun y hy=>nomatch hy) (fun h₁ hns hsb=>?_) S.kind)
 generalize ehp:s2.heap.push { cls:=.type "list",dict:=none,data:=.seq ([]:List Value).toArray }=hp at hns hsb ⊢
 have hsz:hp.objs.size=s2.heap.objs.size+1:=by rw [←ehp,Heap.size_push]
 have hDC:s2.heap.objs.size≠hp.objs.size:=by rw [hsz];exact Nat.ne_of_lt (Nat.lt_succ_self _)
 have old:∀b o,hp.get? b=some o→h₁.get? b=some o:=fun b o e=>(hsb.2 b (Nat.ne_of_lt (Heap.lt_size e))).trans (Heap.get?_push_of_some _ e)
 have eD:h₁.get? s2.heap.objs.size=some { cls:=.type "list",data:=.seq ([]:List Value).toArray }:=old _ _ (by rw [←ehp];exact Heap.get?_push_size _ rfl)
 have I0:=Inv.block (own:=own) (h₁:=h₁) (tk:=s2.toks+([]:List (Str × Value)).length) S hκ I2 f2 hfp ehp.symm hns old
 have stkD:s2.heap.objs.size∉frs X.stack:=fun z=>(List.mem_cons.mp (I2.stkSub _ z)).elim (Nat.ne_of_gt I2.lt) (I2.nofs (Nat.le_refl _))
 have cellD:∀x c,cl.lookup x=some c→c≠s2.heap.objs.size:=fun x c q=>by
  obtain⟨v,z⟩:=I2.cell x c (S.subc q)
  exact Nat.ne_of_lt z.lt
 have pinD:∀p∈X.pn++pins,p.1≠s2.heap.objs.size:=fun p hp=>Nat.ne_of_lt (Heap.lt_size (I2.pin p hp).1)
 have stkF:∀b∈fp,b∉frs X.stack:=fun b hb z=>(List.mem_cons.mp (I2.stkSub _ z)).elim (f2 b hb).2.1 (f2 b hb).2.2.1
 have loop:codeAny (model X.prog X.w) X.A (.compLoop (.ListComp elt [⟨tg,iter,ifs,0⟩] sc pos) 0 (.ref it) (.ref s2.heap.objs.size) (compEnvC sc cl hp.objs.size X.env))
   (compPost (model X.prog X.w) X.A X.xe (some (assign (.Name y0 py0) X.env)) (fun _ s'=>SP X pins D0 .next s') (.ref s2.heap.objs.size) hp.objs.size) { s2 with heap:=h₁,toks:=s2.toks+([]:List (Str × Value)).length }:=by
  refine codeAny_loop rfl (fun n s'=>∃(i:Nat) (ys:List V) (its:List Value) (cap:Nat) (H':Hp),Inv (blk X (own++caps) sc cl { s2 with heap:=hp } H2 hp.objs.size (s2.heap.objs.size::fp)) pins (blkSt own.length κ σ) H' s'∧tn i s'.heap∧(∀b∈fp,H' b=none) ∧
   s'.heap.get? s2.heap.objs.size=some { cls:=.type "list",data:=.seq its.toArray cap }∧H' s2.heap.objs.size=none∧Vals ys its∧ys.length≤sizeLine∧W i n ys H') (fun n s3 hI=>?_) m0
   ⟨0,[],[],0,H2,I0,T.keep _ _ _ st2 fun b hb o e=>old _ _ (by rw [←ehp];exact Heap.get?_push_of_some _ e),fun b hb=>(f2 b hb).1,eD,I2.hok.fresh (Nat.le_refl _),.nil,Nat.zero_le _,w0⟩
  obtain⟨i,ys,its,cap,H3,I3,st3,fr3,eD3,nD3,rv,hz,w3⟩:=hI
  show wpAny _ X.A ((compTurn (.ListComp elt [⟨tg,iter,ifs,0⟩] sc pos) 0 (.ref it) (.ref s2.heap.objs.size) (compEnvC sc cl hp.objs.size X.env)).onRaise fun x=>do noteFrame x (compEnvC sc cl hp.objs.size X.env);theTreesLotGoes x) _ _ s3
  refine wpAny_noted ?_
  rw [compTurn_list]
  have I3':Inv (blk X (own++caps) sc cl { s2 with heap:=hp } H2 hp.objs.size (s2.heap.objs.size::fp)) (pins++[(s2.heap.objs.size,{ cls:=.type "list",data:=.seq its.toArray cap })]) (blkSt own.length κ σ) H3 s3:=by
   refine I3.pins_of fun p hp=>(List.mem_append.mp hp).elim (fun z=>I3.pin p (List.mem_append_right _ z)) fun z=>?_
   obtain rfl:=List.mem_singleton.mp z
   exact⟨eD3,nD3,hDC,stkD,fun v q=>by cases q⟩
  have fpk:∀{H':Hp},(∀b∈fp,H' b=none)→∀b∈fp,FpOk (blk X (own++caps) sc cl { s2 with heap:=hp } H2 hp.objs.size (s2.heap.objs.size::fp)) (pins++[(s2.heap.objs.size,{ cls:=.type "list",data:=.seq its.toArray cap })]) H' b:=fun {H'} hn b hb =>
   ⟨hn b hb,by show b≠hp.objs.size;rw [hsz];exact Nat.ne_of_lt (Nat.lt_succ_of_lt (hfp b hb)),stkF b hb,.inl (List.mem_cons_of_mem _ hb),fun x c q=>(f2 b hb).2.2.2.2.1 x c (S.subc q),fun p hp=>by
    rw [←List.append_assoc] at hp
    rcases List.mem_append.mp hp with z|z
    ·exact(f2 b hb).2.2.2.2.2 p z
    ·obtain rfl:=List.mem_singleton.mp z
     exact Nat.ne_of_gt (hfp b hb)⟩
  rcases turn i n ys H3 w3 with ⟨stop,fin⟩|⟨go,hlt,step⟩
  ·refine wpAny_bind (wpAny_standAt (wpAny_bind (thn (T.done (blk X (own++caps) sc cl { s2 with heap:=hp } H2 hp.objs.size (s2.heap.objs.size::fp)) rfl rfl rfl hcalm i _ s3 _ H3 _ I3' (fpk fr3) st3 stop) fun r s4 ⟨hr,I4⟩=>?_)))
   subst hr
   refine wpAny_pure ?_
   obtain⟨m,hm,_⟩:=I4.loc
   have eD4:=(I4.pin (s2.heap.objs.size,{ cls:=.type "list",data:=.seq its.toArray cap }) (List.mem_append_right _ (List.mem_append_right _ (List.mem_singleton.mpr rfl)))).1
   have I5:Inv X pins σ (upd H3 s2.heap.objs.size (.lst ys)) { s4 with heap:=s4.heap }:=Inv.unblock I2 f2 ehp.symm I4 eD4 nD3 rv hz (Heap.SameBut.refl ..)
   have neL:hp.objs.size≠X.env.locals:=by rw [hsz];exact Nat.ne_of_gt (Nat.lt_succ_of_lt I2.lt)
   have neC:∀x c,X.env.cells.lookup x=some c→c≠hp.objs.size:=fun x c q=>by
    obtain⟨v,z⟩:=I2.cell x c q
    rw [hsz]
    exact Nat.ne_of_lt (Nat.lt_succ_of_lt z.lt)
   have frC:upd H3 s2.heap.objs.size (.lst ys) hp.objs.size=none:=by rw [upd_ne (Ne.symm hDC)];exact I4.free
   show wpAny (model X.prog X.w) X.A (assign (.Name y0 py0) X.env (.ref s2.heap.objs.size)) _ X.xe s4
   refine wpAny_assign_Name (store_ok2 (v:=.ref s2.heap.objs.size) I5 hN hi0 hy0 rfl (fun s5 I6 ⟨a,sb,ha⟩=>?_) hf0)
   have hCa:hp.objs.size≠a:=by
    rcases ha with ha|ha
    ·rw [ha];exact neL
    ·exact Ne.symm (neC _ _ ha)
   refine⟨m,hm.sameBut sb hCa,fun h' sb'=>⟨_,_,I6.turned (t':=s5.toks) (fun b o hb e=>(sb'.2 b hb).trans e) frC neL (.inr ?_) neC (fun p hp'=>?_),fin _ nD3⟩⟩
   ·exact Nat.le_trans I2.sz (by rw [hsz];exact Nat.le_succ _)
   ·have:=Heap.lt_size (I2.pin p hp').1
    rw [hsz]
    exact Nat.ne_of_lt (Nat.lt_succ_of_lt this)
  ·refine wpAny_bind (wpAny_standAt (wpAny_bind (thn (T.item (blk X (own++caps) sc cl { s2 with heap:=hp } H2 hp.objs.size (s2.heap.objs.size::fp)) rfl rfl rfl hcalm i _ s3 _ H3 _ I3' (fpk fr3) st3 go) fun r s4 ⟨u,hr,h4⟩=>?_)))
   subst hr
   refine wpAny_bind (thn h4 fun _ s5 ⟨x,H5,I5,r5,y5,st5,fr5⟩=>?_)
   have I5':=I5.pinned (fpk fr5) (T.obj _ _ st5)
   refine wpAny_bind (wpAny_mono (hg _ _ _ _ _ s5 _ H5 x u _ I5' r5 (step x H5 y5)) (fun _ s6 ⟨σ6,H6,I6,eσ,q6⟩=>?_) fun _ _ z=>z.elim)
   refine wpAny_bind (wpAny_mono (hc _ _ _ _ _ s6 σ6 H6 _ I6 q6) (fun ok s7 ⟨H7,I7,q7⟩=>?_) fun _ _ z=>z.elim)
   have back:∀{s8:Shared} {H8:Hp},Inv (blk X (own++caps) sc cl { s2 with heap:=hp } H2 hp.objs.size (s2.heap.objs.size::fp)) ((pins++[(s2.heap.objs.size,{ cls:=.type "list",data:=.seq its.toArray cap })])++pinsAt fp s5.heap) σ6 H8 s8 →
     Inv (blk X (own++caps) sc cl { s2 with heap:=hp } H2 hp.objs.size (s2.heap.objs.size::fp)) pins (blkSt own.length κ σ) H8 s8∧tn (i+1) s8.heap∧(∀b∈fp,H8 b=none)∧s8.heap.get? s2.heap.objs.size=some { cls:=.type "list",data:=.seq its.toArray cap }∧H8 s2.heap.objs.size=none:=by
    intro s8 H8 I8
    have pk:∀b∈fp,∀o,s5.heap.get? b=some o→s8.heap.get? b=some o∧H8 b=none:=fun b hb o e=>by
     have z:=I8.pin (b,o) (List.mem_append_right _ (List.mem_append_right _ (mem_pinsAt hb e)))
     exact⟨z.1,z.2.1⟩
    have zD:=I8.pin (s2.heap.objs.size,{ cls:=.type "list",data:=.seq its.toArray cap }) (List.mem_append_right _ (List.mem_append_left _ (List.mem_append_right _ (List.mem_singleton.mpr rfl))))
    refine⟨(I8.pins_of fun p hp=>I8.pin p (List.mem_append_right _ (List.mem_append_left _ (List.mem_append_left _ hp)))).weak ?_ fun j v e=>?_,T.keep _ _ _ st5 fun b hb o e=>(pk b hb o e).1,fun b hb=>?_,zD.1,zD.2.1⟩
    ·exact I3.len.trans I8.len.symm
    ·have hge:own.length≤j:=by
      refine Nat.le_of_not_lt fun q=>?_
      unfold blkSt at e
      rw [List.getElem?_append_left (by rw [List.length_replicate];exact q),List.getElem?_replicate,if_pos q] at e
      cases e
     have z:=congrArg (fun l=>l[j - own.length]?) eσ
     simp only [List.getElem?_drop] at z
     rw [show own.length+(j - own.length)=j by omega] at z
     rw [z]
     exact e
    ·obtain⟨o,e,_⟩:=T.obj _ _ st5 b hb
     exact(pk b hb o e).2
   cases ok with
   |false =>
    obtain⟨m',hm,w7⟩:=(if_neg Bool.false_ne_true)▸q7
    obtain⟨I8,st8,fr8,e8,n8⟩:=back I7
    exact wpAny_pure ⟨rfl,m',hm,i+1,ys,its,cap,H7,I8,st8,fr8,e8,n8,rv,hz,w7⟩
   |true =>
    have q7':=(if_pos rfl)▸q7
    refine wpAny_bind (wpAny_bind (wpAny_mono (he _ _ _ _ _ s7 σ6 H7 _ I7 q7') (fun y s8 ⟨v8,H8,I8,r8,m',hm,w8⟩=>?_) fun _ _ z=>z.elim))
    obtain⟨I9,st9,fr9,e9,n9⟩:=back I8
    have hl:=rv.length
    refine wpAny_bind (wpAny_list_append_plain (items:=its.toArray) ⟨cap,e9⟩ (fun h' hl' sb=>?_) (by rw [List.size_toArray,←hl];exact hz))
    obtain⟨cap',e'⟩:=hl'
    refine wpAny_pure (wpAny_pure ⟨rfl,m',hm,i+1,ys++[v8],its++[y],cap',H8,?_,?_,fr9,?_,n9,Vals.append rv (.cons r8 .nil),?_,w8⟩)
    ·exact I9.turned (t':=s8.toks) (fun b o hb e=>(sb.2 b hb).trans e) n9 hDC (.inl List.mem_cons_self) cellD pinD
    ·exact T.keep _ _ _ st9 fun b hb o e=>(sb.2 b (Nat.ne_of_lt (hfp b hb))).trans e
    ·rw [e']
     congr 3
     simp
    ·rw [List.length_append]
     exact hlt
 exact codeAny_compStart_list loop (T.self _ 0 _ _ _ (T.keep _ _ _ st2 fun b hb o e=>old _ _ (by rw [←ehp];exact Heap.get?_push_of_some _ e)) loop)
theorem ps_comp{i0:Nat}{y0:Str}{py0 spos:Pos}{tg elt iter:Expr}{own caps:List Str}{κ:List Nat}{sc:Scope}{cl:List (Str × Addr)}{pos:Pos}{wi:TI}{g:TG}{te:TE}(hN:X.N.Nodup)(hi0:X.N[i0]?=some y0)(hy0:Loc X.env.scope y0)(hcalm:X.calm=true)(S:BlkSc X caps sc cl)(hκ:κ.map (fun k=>X.N[k]?)=caps.map some)
  (hi:PI X tg iter wi) (hg:∀s₀ H₀ C ex,PG (blk X (own++caps) sc cl s₀ H₀ C ex) tg g) (he:∀s₀ H₀ C ex,PE (blk X (own++caps) sc cl s₀ H₀ C ex) elt te)
  (hs:∀x,foldedSetIterable iter X.env x=pure x:=by intro _;rfl) (hsw:swapsWith (.ListComp elt [⟨tg,iter,[],0⟩] sc pos) (some (.Name y0 py0)) spos.line X.env=pure true:=by rfl)
  (hf0:X.fn y0=true∨X.env.scope.names.lookup y0=some .local:=by first|exact .inl rfl|exact .inr rfl|assumption) :
  PS X (.Assign [.Name y0 py0] (.ListComp elt [⟨tg,iter,[],0⟩] sc pos) spos) (tAsg (tComp own.length κ wi g tYes te) (gName i0)) :=
 ps_compG hN hi0 hy0 hcalm S hκ hi hg (fun s₀ H₀ C ex pins s σ H Q I h=>wpAny_tests_nil ⟨H,I,h⟩) he hs hsw hf0
end
end L2
namespace L2
open PySem PySem.Spec PyProof.Rows
section
variable{X:Cx}{pins:List (Addr × Obj)}{σ:St}{H:Hp}{s:Shared}{h':Heap}
theorem Inv.turned2{t':Nat}{e j p:Addr}{o:HO}(I:Inv X pins σ H s)(k:∀b ob,b≠e→b≠j→s.heap.get? b=some ob→h'.get? b=some ob)(fe:FpOk X pins H e)(fj:FpOk X pins H j)(hp:s.heap.objs.size≤p)
  (new:ObjOk X.prog X.w (upd H p o) h' p o):Inv X pins σ (upd H p o) { s with heap:=h',toks:=t' }:=by
 have hn:H p=none:=I.hok.fresh hp
 have nn:∀b u,H b=some u→b≠e∧b≠j:=fun b u q=>⟨fun z=>(by rw [z,fe.1] at q;cases q),fun z=>(by rw [z,fj.1] at q;cases q)⟩
 have nc:∀b,b∉[e,j]→b≠e∧b≠j:=fun b hb=>⟨fun z=>hb (by simp [z]),fun z=>hb (by simp [z])⟩
 have lt:∀b ob,s.heap.get? b=some ob→b≠p:=fun b ob q z=>absurd (Nat.lt_of_lt_of_le (Heap.lt_size q) (by rw [z];exact hp)) (Nat.lt_irrefl _)
 refine I.step (g':=s.gens) (d':=s.drawn) (ch:=[e,j]) (fun b hb=>?_) (fun b ob _ _ hc q _=>k b ob (nc b hc).1 (nc b hc).2 q) (fun b ob _ _ hc q _=>⟨ob.slots,k b ob (nc b hc).1 (nc b hc).2 q⟩) (fun b ob hc q n=>by rw [upd_ne (lt b ob q)];exact n)
  (fun b ob hc q=>⟨ob,k b ob (nc b hc).1 (nc b hc).2 q⟩) (fun b xs q=>by rw [upd_ne (ne_of_none q hn)];exact q) (fun b ob u q=>by rw [upd_ne (ne_of_none q hn)];exact q) (fun b ps q=>⟨#[],by rw [upd_ne (ne_of_none q hn),q];simp⟩) (fun m hm=>?_) (fun b u q=>?_) I.bare
 ·rcases List.mem_cons.mp hb with rfl|hb
  ·exact⟨fe.2.2.2.1,fe.2.1,fe.2.2.2.2.1,fe.2.2.2.2.2⟩
  ·obtain rfl:=List.mem_singleton.mp hb
   exact⟨fj.2.2.2.1,fj.2.1,fj.2.2.2.2.1,fj.2.2.2.2.2⟩
 ·obtain⟨ob,es,ep,q,r⟩:=hm
  exact⟨ob,es,ep,k _ ob (Ne.symm fe.2.1) (Ne.symm fj.2.1) q,r⟩
 ·by_cases hb:b=p
  ·subst hb
   rw [upd_same] at q
   cases q
   exact new
  ·rw [upd_ne hb] at q
   refine(I.hok b u q).stay (fun c v hc z=>?_) (fun c z=>by rw [upd_ne (ne_of_none z hn)];exact z) fun c xs z=>by rw [upd_ne (ne_of_none z hn)];exact z
   rcases hc with hc|hc
   ·rw [hc] at z ⊢
    exact k b v (nn b u q).1 (nn b u q).2 z
   ·exact k c v (nn c _ hc).1 (nn c _ hc).2 z
end
section
variable{X:Cx}{tg:Expr}
end
section
variable{prog:Program}{w:World}{A:Around}{E:Value→Shared→Prop}{s:Shared}
open AutoSeq1 (wpAny_loadPart') in
end
section
variable{X:Cx}
end
end L2
namespace L2
open PySem PySem.Spec PyProof.Rows
theorem key_rel{P:Program}{w:World}{k:Key}{u:Value}(h:(mixKind P w).is k u=true):RelV (kV k) u:=by
 rw [mixKind_is] at h
 rcases keyIs_shape h with ⟨i,t,rfl,rfl⟩|⟨x,t,rfl,rfl⟩
 ·exact⟨t,rfl⟩
 ·exact⟨t,rfl⟩
section
variable{X:Cx}{pins:List (Addr × Obj)}{σ:St}{H H':Hp}{s:Shared}{h':Heap}
theorem Inv.laids{t':Nat}(I:Inv X pins σ H s)(k:∀b u,s.heap.get? b=some u→h'.get? b=some u)(old:∀b,b < s.heap.objs.size→H' b=H b)
  (new:∀b u,s.heap.objs.size≤b→H' b=some u→ObjOk X.prog X.w H' h' b u):Inv X pins σ H' { s with heap:=h',toks:=t' }:=by
 have lt:∀b u,H b=some u→b < s.heap.objs.size:=fun b u q=>Nat.lt_of_not_le fun z=>by rw [I.hok.fresh z] at q;cases q
 refine I.step (g':=s.gens) (d':=s.drawn) (ch:=[]) (fun _ z=>nomatch z) (fun b ob _ _ _ q _=>k b ob q) (fun b ob _ _ _ q _=>⟨ob.slots,k b ob q⟩) (fun b ob _ q n=>by rw [old b (Heap.lt_size q)];exact n)
  (fun b ob _ q=>⟨ob,k b ob q⟩) (fun b xs q=>by rw [old b (lt _ _ q)];exact q) (fun b ob u q=>by rw [old b (lt _ _ q)];exact q) (fun b ps q=>⟨#[],by rw [old b (lt _ _ q),q];simp⟩) (fun m hm=>?_) (fun b u q=>?_) I.bare
 ·obtain⟨ob,es,ep,q,r⟩:=hm
  exact⟨ob,es,ep,k _ ob q,r⟩
 ·by_cases hb:b < s.heap.objs.size
  ·rw [old b hb] at q
   exact(I.hok b u q).stay (fun c v _ z=>k c v z) (fun c z=>by rw [old c (lt _ _ z)];exact z) fun c xs z=>by rw [old c (lt _ _ z)];exact z
  ·exact new b u (Nat.le_of_not_lt hb) q
end
def layT(H:Hp):List Addr→List (Key × V)→Hp
 |a::as,p::ps=>upd (layT H as ps) a (.tup [kV p.1,p.2])
 |_,_=>H
theorem layT_old{H:Hp}{b:Addr}:∀{as:List Addr} {ps:List (Key × V)},b∉as→layT H as ps b=H b
 |[],_,_=>rfl
 |_::_,[],_=>rfl
 |a::as,p::ps,h=>by
  show upd (layT H as ps) a _ b=H b
  rw [upd_ne (fun e=>h (by rw [e];exact List.mem_cons_self))]
  exact layT_old fun z=>h (List.mem_cons_of_mem _ z)
theorem layT_at{H:Hp}:∀{as:List Addr} {ps:List (Key × V)} {b:Addr} {u:HO},b∈as→as.length=ps.length→layT H as ps b=some u→∃(j:Nat) (p:Key × V),as[j]?=some b∧ps[j]?=some p∧u=.tup [kV p.1,p.2]
 |[],_,_,_,h,_,_=>nomatch h
 |_::_,[],_,_,_,h,_=>nomatch h
 |a::as,p::ps,b,u,hb,hl,h=>by
  by_cases e:b=a
  ·subst e
   have h':upd (layT H as ps) b (.tup [kV p.1,p.2]) b=some u:=h
   rw [upd_same] at h'
   cases h'
   exact⟨0,p,rfl,rfl,rfl⟩
  ·have h':upd (layT H as ps) a (.tup [kV p.1,p.2]) b=some u:=h
   rw [upd_ne e] at h'
   have hb':b∈as:=(List.mem_cons.mp hb).resolve_left e
   obtain⟨j,p',h1,h2,h3⟩:=layT_at hb' (Nat.succ.inj hl) h'
   exact⟨j+1,p',h1,h2,h3⟩
theorem layT_pairs{H:Hp}:∀{as:List Addr} {ps:List (Key × V)},as.Pairwise (· < ·)→as.length=ps.length→Paired (fun(p:Key × V) (k:Addr)=>layT H as ps k=some (.tup [kV p.1,p.2])) ps as
 |[],[],_,_=>.nil
 |_::_,[],_,h=>nomatch h
 |[],_::_,_,h=>nomatch h
 |a::as,p::ps,hr,hl=>by
  cases hr with
  |cons h1 h2 =>
  refine .cons upd_same ?_
  have ih:=layT_pairs (H:=H) h2 (Nat.succ.inj hl)
  have go:∀{qs:List (Key × V)} {bs:List Addr},(∀b∈bs,a < b)→Paired (fun(p:Key × V) (k:Addr)=>layT H as ps k=some (.tup [kV p.1,p.2])) qs bs→Paired (fun(q:Key × V) (k:Addr)=>layT H (a::as) (p::ps) k=some (.tup [kV q.1,q.2])) qs bs:=fun {qs bs} hb z=>by
   induction z with
   |nil=>exact .nil
   |@cons x y xs ys e _ ih =>
    refine .cons ?_ (ih fun b hb'=>hb b (List.mem_cons_of_mem _ hb'))
    show upd (layT H as ps) a _ y=_
    rw [upd_ne (Nat.ne_of_gt (hb y List.mem_cons_self))]
    exact e
  exact go h1 ih
theorem pair_get{α β:Type}{F:α→β→Prop}:∀{as:List α} {bs:List β},Paired F as bs→∀{j:Nat} {a:α},as[j]?=some a→∃b,bs[j]?=some b∧F a b
 |_,_,.nil,j,a,h=>by simp at h
 |_,_,.cons x t,0,a,h=>by
  simp at h
  subst h
  exact⟨_,rfl,x⟩
 |_,_,.cons x t,j+1,a,h=>by
  simp at h
  obtain⟨b,hb,r⟩:=pair_get t h
  exact⟨b,by simpa using hb,r⟩
def itemsAt(v d:Addr)(h:Heap):Prop:=h.IsItemsView v d
section
variable{X:Cx}
def rItems:V→List V→Hp→VK→Prop:=fun x vs H Q=>∃d kvs,x=.ref d∧vs=[]∧H d=some (.dK kvs)∧∀v,H v=none→Q (.ref v) (upd H v (.ext (itemsAt v d)))
theorem mt_items:MtR X "dict.items" rItems:=by
 intro pins s σ H x vs v us Q I rx rv h
 obtain⟨d,kvs,rfl,rfl,hd,q⟩:=h
 cases rx
 cases rv
 obtain⟨z,hs,ys,rel,dd⟩:=dk_of I.hok hd
 refine call_meetsIn PySem.F.slot_dict_items dd.typeIs PySem.F.entry_dict_items (PySem.F.args_dict_items_1 _) (meets_dict_items (mixKind X.prog X.w) d hs) ⟨⟨ys,dd⟩,?_⟩
 have hv:(s.heap.push { cls:=.type "dict_items",data:=.fields #[.ref d] }).IsItemsView s.heap.objs.size d:=⟨_,Heap.get?_push_size _ rfl,rfl,rfl⟩
 refine⟨.ref s.heap.objs.size,_,I.laid (t':=s.toks) (o:=.ext (itemsAt s.heap.objs.size d)) (fun b o e=>Heap.get?_push_of_some _ e) (Nat.le_refl _) ⟨hv,⟨_,Heap.get?_push_size _ rfl⟩,fun h1 h2 p k=>?_⟩,rfl,q _ (I.hok.fresh (Nat.le_refl _))⟩
 obtain⟨o,ho,r⟩:=p
 exact⟨o,k o ho,r⟩
end
end L2
namespace L2
open PySem PySem.Spec PyProof.Rows
section
variable{X:Cx}{pins:List (Addr × Obj)}{σ:St}{H:Hp}{s:Shared}{d:Addr}{o:Obj}{u:HO}
theorem Inv.thaw(I:Inv X pins σ H s)(e:H d=some (.frz o u))(h0:∀o' u',X.H₀ d≠some (.frz o' u')):Inv X pins σ (upd H d u) s:=by
 have nd:∀b,H b=none→b≠d:=fun b n z=>by rw [z,e] at n;cases n
 have no:∀b v,H b=some v→(∀o u,v≠.frz o u)→b≠d:=fun b v q n z=>by rw [z,e] at q;cases q;exact n _ _ rfl
 refine⟨I.ok,I.os,I.bare,⟨I.base.keep,I.base.slot,fun b ob q n hx=>?_,I.base.there,fun b xs q=>?_,fun b ob v q=>?_,fun b ps q=>?_⟩,I.loc,I.cell,?_,fun x c q=>?_,fun p hp=>?_,fun b v q=>?_,I.len⟩
 ·have z:=I.base.free b ob q n hx
  rw [upd_ne (nd b z)]
  exact z
 ·have z:=I.base.tups b xs q
  rw [upd_ne (no b _ z (fun _ _=>nofun))]
  exact z
 ·have z:=I.base.frzs b ob v q
  rw [upd_ne (fun w=>h0 ob v (by rw [←w];exact q))]
  exact z
 ·obtain⟨more,z⟩:=I.base.tbls b ps q
  exact⟨more,by rw [upd_ne (no b _ z (fun _ _=>nofun))];exact z⟩
 ·rw [upd_ne (nd _ I.free)]
  exact I.free
 ·rw [upd_ne (nd _ (I.freeC x c q))]
  exact I.freeC x c q
 ·obtain⟨h1,h2,h3⟩:=I.pin p hp
  exact⟨h1,by rw [upd_ne (nd _ h2)];exact h2,h3⟩
 ·have own:∀a b,H b=some (.own a)→upd H d u b=some (.own a):=fun a b z=>by rw [upd_ne (no b _ z (fun _ _=>nofun))];exact z
  have tup:∀b xs,H b=some (.tup xs)→upd H d u b=some (.tup xs):=fun b xs z=>by rw [upd_ne (no b _ z (fun _ _=>nofun))];exact z
  by_cases hb:b=d
  ·subst hb
   rw [upd_same] at q
   cases q
   exact(I.hok b _ e).2.stay (fun _ _ _ z=>z) (own b) tup
  ·rw [upd_ne hb] at q
   exact(I.hok b v q).stay (fun _ _ _ z=>z) (own b) tup
end
def thawD(H₀:Hp)(D:Ends):Ends where
 nx:=fun σ H=>∃d o u,H d=some (.frz o u)∧(∀o' u',H₀ d≠some (.frz o' u'))∧D.nx σ (upd H d u)
 rt:=fun v H=>∃d o u,H d=some (.frz o u)∧(∀o' u',H₀ d≠some (.frz o' u'))∧D.rt v (upd H d u)
 bk:=D.bk
 ct:=D.ct
theorem ps_thaw{X:Cx}{st:Stmt}{t:TS}(h:PS X st t):PS X st (fun D σ H=>t (thawD X.H₀ D) σ H):=by
 intro pins s σ H D I q
 refine thn (h pins s σ H _ I q) fun f s1 z=>?_
 cases f with
 |next =>
  obtain⟨σ',H',I',d,o,u,e,h0,q'⟩:=z
  exact⟨σ',_,I'.thaw e h0,q'⟩
 |ret v =>
  obtain⟨σ',x,H',I',r,d,o,u,e,h0,q'⟩:=z
  exact⟨σ',x,_,I'.thaw e h0,r,q'⟩
 |brk=>exact z
 |cont=>exact z
def Itd(d:Addr)(o:Obj)(kvs:List (Key × V)):It :=
 ⟨fun i H=>H d=some (.frz o (.dK kvs))∧i < kvs.length,fun i H x H'=>∃a p,H a=none∧x=.ref a∧H'=upd H a (.tup [kV p.1,p.2])∧kvs[i]?=some p,fun i H=>H d=some (.frz o (.dK kvs))∧kvs.length≤i⟩
theorem turn_items{P:Program}{w:World}{K:PySem.W.Frag}{es:List Expr}{k:Nat}{pos:Pos}{d it:Addr}{o:Obj}{kvs:List (Key × V)}{ys:List (Key × Value)}{ep:Nat}(rel:KV kvs ys)(hat:∀h:Heap,h.get? d=some o→h.DictAt (mixKind P w) d ys ep) :
  Turn P w K (.Tuple es k pos) (Itd d o kvs) [it] it (fun i h=>∃ok ov,IsItemIter h it d i ys.length ep ok ov) where
 mem:=by simp
 obj:=fun i h st b hb=>by
  obtain rfl:b=it:=by simpa using hb
  obtain⟨ok,ov,e⟩:=st
  exact⟨_,e,fun v z=>by cases z⟩
 keep:=fun i h h' st k=>by
  obtain⟨ok,ov,e⟩:=st
  exact⟨ok,ov,k it (by simp) _ e⟩
 item:=by
  intro X hP hw hK hc i pins s σ H E I hf st hg
  subst hP hw hK
  obtain⟨ok,ov,st⟩:=st
  obtain⟨hd,hi⟩:=hg
  have fe:=hf it (by simp)
  obtain⟨f0,f1,f2,f3,f4,f5⟩:=id fe
  have ex:kvs[i]?=some kvs[i]:=List.getElem?_eq_getElem hi
  obtain⟨⟨k1,y⟩,hy,ek,ry⟩:=pair_get rel ex
  replace ek:kvs[i].1=k1:=ek
  replace ry:RelV kvs[i].2 y:=ry
  have lt:it < s.heap.objs.size:=Heap.lt_size st
  refine wpAny_pyNext_items_item st (hat _ (I.hok d _ hd).1) hy fun key h1 hkey io t1 hz k1'=>⟨_,rfl,?_⟩
  refine wpAny_letOwnedTupleGo_items io fun h2 i2 b2=>?_
  have t2:h2.get? s.heap.objs.size=some { cls:=.type "tuple",data:=.seq #[key,y] }:=(b2.2 _ (Nat.ne_of_gt lt)).trans t1
  have hn:H s.heap.objs.size=none:=I.hok.fresh (Nat.le_refl _)
  have I2:Inv X pins σ (upd H s.heap.objs.size (.tup [kV kvs[i].1,kvs[i].2])) { s with heap:=h2 } :=
   I.turned2 (t':=s.toks) (e:=it) (j:=it) (fun b ob x1 _ z=>(b2.2 b x1).trans (k1' b ob x1 z)) fe fe (Nat.le_refl _) ⟨by show 2≤sizeLine;decide,[key,y],.cons (by rw [ek];exact key_rel hkey) (.cons ry .nil),_,t2,rfl,_,rfl⟩
  refine⟨.ref s.heap.objs.size,_,I2,rfl,⟨_,kvs[i],hn,rfl,rfl,ex⟩,⟨_,_,i2⟩,fun b hb=>?_⟩
  obtain rfl:b=it:=by simpa using hb
  rw [upd_ne (Nat.ne_of_lt lt)]
  exact f0
 done:=by
  intro X hP hw hK hc i pins s σ H E I hf st hg
  subst hP hw hK
  obtain⟨ok,ov,st⟩:=st
  obtain⟨hd,hi⟩:=hg
  obtain⟨f0,f1,f2,f3,f4,f5⟩:=hf it (by simp)
  have hl:kvs.length=ys.length:=rel.length
  exact wpAny_pyNext_items_end (I.ok.hd hc) st (hat _ (I.hok d _ hd).1) (List.getElem?_eq_none (by omega)) fun h' eb=>⟨rfl,I.turned (t':=s.toks) (fun b o hb q=>eb b o hb q) f0 f1 f3 f4 f5⟩
 self:=fun _ _ _ _ _ st h=>by
  obtain⟨ok,ov,st⟩:=st
  exact PySem.W.kcp_self st h
section
variable{X:Cx}
def iItems(to:TE):TI:=fun σ H R=>to σ H fun x H1=>∃d kvs,x=.ref d∧H1 d=some (.dK kvs)∧∀o,R (Itd d o kvs) (upd H1 d (.frz o (.dK kvs)))
theorem pi_items{o:Expr}{to:TE}{es:List Expr}{k:Nat}{tp apos cpos:Pos}(ho:PE X o to) (hbase:attributeBase o "items" X.env (eval o X.env)=eval o X.env:=by rfl) (hline:(apos.endLine==cpos.line)=true:=by rfl) :
  PI X (.Tuple es k tp) (.Call (.Attribute o "items" apos) [] [] cpos) (iItems to):=by
 intro pins s σ H R I h
 refine wpAny_Call_method0_late hbase hline (thn (ho pins s σ H _ I h) fun v s1 ⟨x,H1,I1,r1,d,kvs,ex,hd,q⟩=>?_)
 subst ex
 obtain⟨h1,h2⟩:=tyV_is (T:="dict") I1 r1 (.inr (.inr (.inl ⟨rfl,.inl ⟨kvs,hd⟩⟩)))
 cases r1
 obtain⟨z,hs,ys,rel,dd⟩:=dk_of I1.hok hd
 refine⟨"dict","dict.items",PySem.F.plainAttrs_dict,PySem.F.slot_dict_items,PySem.F.type_dict_items,h1,h2,Calls.callWith_builtin rfl (PySem.evalArgs_none (call_meetsIn PySem.F.slot_dict_items dd.typeIs PySem.F.entry_dict_items (PySem.F.args_dict_items_1 _) (meets_dict_items (mixKind X.prog X.w) d hs) ⟨⟨ys,dd⟩,?_⟩))⟩
 have hv:(s1.heap.push { cls:=.type "dict_items",data:=.fields #[.ref d] }).IsItemsView s1.heap.objs.size d:=⟨_,Heap.get?_push_size _ rfl,rfl,rfl⟩
 obtain⟨ep,ob,en,e1,r1⟩:=dd.dictAt
 have hat:∀h:Heap,h.get? d=some ob→h.DictAt (mixKind X.prog X.w) d ys ep:=fun h e=>⟨ob,en,e,r1⟩
 refine wpAny_pyIter_items (s:={ s1 with heap:=s1.heap.push { cls:=.type "dict_items",data:=.fields #[.ref d] } }) hv (hat _ (Heap.get?_push_of_some _ e1)) ?_
 have hd2:((s1.heap.push { cls:=.type "dict_items",data:=.fields #[.ref d] }).push { cls:=.type "dict_itemiterator",data:=.fields #[.none,.bool false,.ref d,.int 0 0,.int ys.length 0,.int ep 0,.none,.none] }).get? d=some ob:=Heap.get?_push_of_some _ (Heap.get?_push_of_some _ e1)
 have I2:=I1.kept (t':=s1.toks) (h':=(s1.heap.push { cls:=.type "dict_items",data:=.fields #[.ref d] }).push { cls:=.type "dict_itemiterator",data:=.fields #[.none,.bool false,.ref d,.int 0 0,.int ys.length 0,.int ep 0,.none,.none] }) fun b u e=>Heap.get?_push_of_some _ (Heap.get?_push_of_some _ e)
 have I3:=I2.write (x:=d) (e:=d) (o:=.frz ob (.dK kvs)) (t':=s1.toks) (h':=(s1.heap.push { cls:=.type "dict_items",data:=.fields #[.ref d] }).push { cls:=.type "dict_itemiterator",data:=.fields #[.none,.bool false,.ref d,.int 0 0,.int ys.length 0,.int ep 0,.none,.none] }) (by rw [hd];trivial) (.inl rfl) (fun _ _ _ e=>e) ⟨ob,hd2⟩
  ⟨hd2,z,hs,ys,rel,dd.at fun o e=>Heap.get?_push_of_some _ (Heap.get?_push_of_some _ e)⟩
 have hn:H1 ((s1.heap.push { cls:=.type "dict_items",data:=.fields #[.ref d] }).objs.size)=none:=I1.hok.fresh (by rw [Heap.size_push];exact Nat.le_succ _)
 refine⟨_,[(s1.heap.push { cls:=.type "dict_items",data:=.fields #[.ref d] }).objs.size],_,_,_,rfl,I3,turn_items rel hat,⟨_,_,Heap.get?_push_size _ rfl⟩,fun b hb=>?_,q ob⟩
 obtain rfl:b=(s1.heap.push { cls:=.type "dict_items",data:=.fields #[.ref d] }).objs.size:=by simpa using hb
 refine I1.fpOk (by rw [Heap.size_push];exact Nat.le_succ _) ?_
 rw [upd_ne (fun e=>by rw [e,hd] at hn;cases hn)]
 exact hn
end
theorem for_items{d:Addr}{o:Obj}{kvs:List (Key × V)}{g:TG}{tb:TS}{D:Ends}{σ:St}{H:Hp}(Pv:Nat→St→Hp→Prop)(h0:Pv 0 σ H)(hl:∀i σ H,i≤kvs.length→Pv i σ H→H d=some (.frz o (.dK kvs)))
  (hs:∀i p a σ H,kvs[i]?=some p→H a=none→Pv i σ H→g (.ref a) σ (upd H a (.tup [kV p.1,p.2])) fun σ2 H2=>tb { D with nx:=Pv (i+1),ct:=Pv (i+1),bk:=D.nx } σ2 H2) (hd:∀σ H,Pv kvs.length σ H→D.nx σ H) :
  ∃W:Nat→Nat→St→Hp→Prop,(∃m,W 0 m σ H)∧∀i m σ H,W i m σ H →
   ((Itd d o kvs).stop i H∧D.nx σ H)∨((Itd d o kvs).go i H∧∃N:St→Hp→Prop,(∀σ' H',N σ' H'→∃m',m' < m∧W (i+1) m' σ' H')∧∀x H',(Itd d o kvs).yld i H x H'→g x σ H' fun σ2 H2=>tb { D with nx:=N,ct:=N,bk:=D.nx } σ2 H2):=by
 refine⟨fun i m σ H=>m=kvs.length - i∧i≤kvs.length∧Pv i σ H,⟨kvs.length,by simp,Nat.zero_le _,h0⟩,?_⟩
 rintro i m σ H ⟨rfl,hi,p⟩
 have q:=hl i σ H hi p
 by_cases hlt:i < kvs.length
 ·refine .inr ⟨⟨q,hlt⟩,Pv (i+1),fun σ' H' p'=>⟨kvs.length - (i+1),by omega,rfl,hlt,p'⟩,fun x H' y=>?_⟩
  obtain⟨b,z,hb,rfl,rfl,hz⟩:=y
  exact hs i z b σ H hz hb p
 ·obtain rfl:i=kvs.length:=by omega
  exact .inl ⟨⟨q,Nat.le_refl _⟩,hd σ H p⟩
end L2
namespace L2
open PySem PySem.Spec PyProof.Rows
def Itw(d:Addr)(o:Obj)(kvs:List (Key × V)):It :=
 ⟨fun i H=>H d=some (.frz o (.dK kvs))∧i < kvs.length,fun i H x H'=>H'=H∧∃p,kvs[i]?=some p∧x=p.2,fun i H=>H d=some (.frz o (.dK kvs))∧kvs.length≤i⟩
theorem turn_values{P:Program}{w:World}{K:PySem.W.Frag}{tg:Expr}{d it:Addr}{o:Obj}{kvs:List (Key × V)}{ys:List (Key × Value)}{ep:Nat}(rel:KV kvs ys)(hat:∀h:Heap,h.get? d=some o→h.DictAt (mixKind P w) d ys ep) :
  Turn P w K tg (Itw d o kvs) [it] it (fun i h=>h.IsValIter it d i ys.length ep) where
 mem:=by simp
 obj:=fun i h st b hb=>by
  obtain rfl:b=it:=by simpa using hb
  obtain⟨o,e,c,hd⟩:=st
  exact⟨o,e,fun v z=>by rw [hd] at z;cases z⟩
 keep:=fun i h h' st k=>by
  obtain⟨o,e,r⟩:=st
  exact⟨o,k it (by simp) _ e,r⟩
 item:=by
  intro X hP hw hK hc i pins s σ H E I hf st hg
  subst hP hw hK
  obtain⟨hd,hi⟩:=hg
  obtain⟨f0,f1,f2,f3,f4,f5⟩:=hf it (by simp)
  have ex:kvs[i]?=some kvs[i]:=List.getElem?_eq_getElem hi
  obtain⟨⟨k1,y⟩,hy,ek,ry⟩:=pair_get rel ex
  replace ry:RelV kvs[i].2 y:=ry
  refine wpAny_pyNext_values_item st (hat _ (I.hok d _ hd).1) hy fun h' st' sb=>?_
  have I1:Inv X pins σ H { s with heap:=h' }:=I.turned (t':=s.toks) (fun b o hb e=>(sb.2 b hb).trans e) f0 f1 f3 f4 f5
  obtain⟨o',e,c,dt⟩:=id st'
  exact⟨y,rfl,go_of (s:={ s with heap:=h' }) e c dt (by decide) ⟨kvs[i].2,H,I1,ry,⟨rfl,_,ex,rfl⟩,st',fun b hb=>(hf b hb).1⟩⟩
 done:=by
  intro X hP hw hK hc i pins s σ H E I hf st hg
  subst hP hw hK
  obtain⟨hd,hi⟩:=hg
  obtain⟨f0,f1,f2,f3,f4,f5⟩:=hf it (by simp)
  have hl:kvs.length=ys.length:=rel.length
  exact wpAny_pyNext_values_end (I.ok.hd hc) st (hat _ (I.hok d _ hd).1) (List.getElem?_eq_none (by omega)) fun h' eb=>⟨rfl,I.turned (t':=s.toks) (fun b o hb q=>eb b o hb q) f0 f1 f3 f4 f5⟩
 self:=fun _ _ _ _ _ st h=>wpAny_pyIter_valiter st h
section
variable{X:Cx}{tg:Expr}
def iValues(to:TE):TI:=fun σ H R=>to σ H fun x H1=>∃d kvs,x=.ref d∧H1 d=some (.dK kvs)∧∀o,R (Itw d o kvs) (upd H1 d (.frz o (.dK kvs)))
theorem pi_values{o:Expr}{to:TE}{apos cpos:Pos}(ho:PE X o to) (hbase:attributeBase o "values" X.env (eval o X.env)=eval o X.env:=by rfl) (hline:(apos.endLine==cpos.line)=true:=by rfl) :
  PI X tg (.Call (.Attribute o "values" apos) [] [] cpos) (iValues to):=by
 intro pins s σ H R I h
 refine wpAny_Call_method0_late hbase hline (thn (ho pins s σ H _ I h) fun v s1 ⟨x,H1,I1,r1,d,kvs,ex,hd,q⟩=>?_)
 subst ex
 obtain⟨h1,h2⟩:=tyV_is (T:="dict") I1 r1 (.inr (.inr (.inl ⟨rfl,.inl ⟨kvs,hd⟩⟩)))
 cases r1
 obtain⟨z,hs,ys,rel,dd⟩:=dk_of I1.hok hd
 refine⟨"dict","dict.values",PySem.F.plainAttrs_dict,PySem.F.slot_dict_values,PySem.F.type_dict_values,h1,h2,Calls.callWith_builtin rfl (PySem.evalArgs_none (call_meetsIn PySem.F.slot_dict_values dd.typeIs PySem.F.entry_dict_values (PySem.F.args_dict_values_1 _) (meets_dict_values (mixKind X.prog X.w) d hs) ⟨⟨ys,dd⟩,?_⟩))⟩
 have hv:(s1.heap.push { cls:=.type "dict_values",data:=.fields #[.ref d] }).IsValuesView s1.heap.objs.size d:=⟨_,Heap.get?_push_size _ rfl,rfl,rfl⟩
 obtain⟨ep,ob,en,e1,r1⟩:=dd.dictAt
 have hat:∀h:Heap,h.get? d=some ob→h.DictAt (mixKind X.prog X.w) d ys ep:=fun h e=>⟨ob,en,e,r1⟩
 refine wpAny_pyIter_values (s:={ s1 with heap:=s1.heap.push { cls:=.type "dict_values",data:=.fields #[.ref d] } }) hv (hat _ (Heap.get?_push_of_some _ e1)) ?_
 have hd2:((s1.heap.push { cls:=.type "dict_values",data:=.fields #[.ref d] }).push { cls:=.type "dict_valueiterator",data:=.fields #[.ref d,.int 0 0,.int ys.length 0,.int ep 0] }).get? d=some ob:=Heap.get?_push_of_some _ (Heap.get?_push_of_some _ e1)
 have I2:=I1.kept (t':=s1.toks) (h':=(s1.heap.push { cls:=.type "dict_values",data:=.fields #[.ref d] }).push { cls:=.type "dict_valueiterator",data:=.fields #[.ref d,.int 0 0,.int ys.length 0,.int ep 0] }) fun b u e=>Heap.get?_push_of_some _ (Heap.get?_push_of_some _ e)
 have I3:=I2.write (x:=d) (e:=d) (o:=.frz ob (.dK kvs)) (t':=s1.toks) (h':=(s1.heap.push { cls:=.type "dict_values",data:=.fields #[.ref d] }).push { cls:=.type "dict_valueiterator",data:=.fields #[.ref d,.int 0 0,.int ys.length 0,.int ep 0] }) (by rw [hd];trivial) (.inl rfl) (fun _ _ _ e=>e) ⟨ob,hd2⟩
  ⟨hd2,z,hs,ys,rel,dd.at fun o e=>Heap.get?_push_of_some _ (Heap.get?_push_of_some _ e)⟩
 have hn:H1 ((s1.heap.push { cls:=.type "dict_values",data:=.fields #[.ref d] }).objs.size)=none:=I1.hok.fresh (by rw [Heap.size_push];exact Nat.le_succ _)
 refine⟨_,[(s1.heap.push { cls:=.type "dict_values",data:=.fields #[.ref d] }).objs.size],_,_,_,rfl,I3,turn_values rel hat,⟨_,Heap.get?_push_size _ rfl,rfl,rfl⟩,fun b hb=>?_,q ob⟩
 obtain rfl:b=(s1.heap.push { cls:=.type "dict_values",data:=.fields #[.ref d] }).objs.size:=by simpa using hb
 refine I1.fpOk (by rw [Heap.size_push];exact Nat.le_succ _) ?_
 rw [upd_ne (fun e=>by rw [e,hd] at hn;cases hn)]
 exact hn
end
theorem for_values{d:Addr}{o:Obj}{kvs:List (Key × V)}{g:TG}{tb:TS}{D:Ends}{σ:St}{H:Hp}(Pv:Nat→St→Hp→Prop)(h0:Pv 0 σ H)(hl:∀i σ H,i≤kvs.length→Pv i σ H→H d=some (.frz o (.dK kvs)))
  (hs:∀i p σ H,kvs[i]?=some p→Pv i σ H→g p.2 σ H fun σ2 H2=>tb { D with nx:=Pv (i+1),ct:=Pv (i+1),bk:=D.nx } σ2 H2) (hd:∀σ H,Pv kvs.length σ H→D.nx σ H) :
  ∃W:Nat→Nat→St→Hp→Prop,(∃m,W 0 m σ H)∧∀i m σ H,W i m σ H →
   ((Itw d o kvs).stop i H∧D.nx σ H)∨((Itw d o kvs).go i H∧∃N:St→Hp→Prop,(∀σ' H',N σ' H'→∃m',m' < m∧W (i+1) m' σ' H')∧∀x H',(Itw d o kvs).yld i H x H'→g x σ H' fun σ2 H2=>tb { D with nx:=N,ct:=N,bk:=D.nx } σ2 H2):=by
 refine⟨fun i m σ H=>m=kvs.length - i∧i≤kvs.length∧Pv i σ H,⟨kvs.length,by simp,Nat.zero_le _,h0⟩,?_⟩
 rintro i m σ H ⟨rfl,hi,p⟩
 have q:=hl i σ H hi p
 by_cases hlt:i < kvs.length
 ·refine .inr ⟨⟨q,hlt⟩,Pv (i+1),fun σ' H' p'=>⟨kvs.length - (i+1),by omega,rfl,hlt,p'⟩,fun x H' y=>?_⟩
  obtain⟨rfl,z,hz,rfl⟩:=y
  exact hs i z σ _ hz p
 ·obtain rfl:i=kvs.length:=by omega
  exact .inl ⟨⟨q,Nat.le_refl _⟩,hd σ H p⟩
end L2
namespace L2
open PySem PySem.Spec PyProof.Rows
section
variable{X:Cx}{tg:Expr}
end
theorem pe_thaw{X:Cx}{e:Expr}{t:TE}(h:PE X e t):PE X e (fun σ H Q=>t σ H fun v H'=>∃d o u,H' d=some (.frz o u)∧(∀o' u',X.H₀ d≠some (.frz o' u'))∧Q v (upd H' d u)) :=
 fun pins s σ H _ I q=>thn (h pins s σ H _ I q) fun _ _ ⟨x,_,I',r,_,_,_,e,h0,q'⟩=>⟨x,_,I'.thaw e h0,r,q'⟩
end L2
namespace L2
open PySem PySem.Spec PyProof.Rows
theorem comp_items{d:Addr}{o:Obj}{kvs:List (Key × V)}{n:Nat}{κ:List Nat}{g:TG}{tc:TT}{te:TE}{σ:St}{H:Hp}{Q:VK}(Pv:Nat→List V→Hp→Prop)(h0:Pv 0 [] H)(hz:kvs.length≤sizeLine)(hlen:∀i ys H2,Pv i ys H2→ys.length≤i)
  (hl:∀i ys H2,Pv i ys H2→H2 d=some (.frz o (.dK kvs)))
  (hs:∀i p a ys H2 (N:List V→Hp→Prop),(∀ys' H',Pv (i+1) ys' H'→N ys' H')→kvs[i]?=some p→H2 a=none→Pv i ys H2→g (.ref a) (blkSt n κ σ) (upd H2 a (.tup [kV p.1,p.2])) fun σ4 H4=>σ4.drop n=(blkSt n κ σ).drop n∧tc σ4 H4 fun b H5=>if b=true then te σ4 H5 fun v H6=>N (ys++[v]) H6 else N ys H5)
  (hQ:∀ys H2 D,Pv kvs.length ys H2→H2 D=none→Q (.ref D) (upd H2 D (.lst ys))) :
  CompRun n κ g tc te σ (Itd d o kvs) H Q:=by
 refine⟨fun i m ys H2=>m=kvs.length - i∧i≤kvs.length∧Pv i ys H2,⟨kvs.length,rfl,Nat.zero_le _,h0⟩,?_⟩
 rintro i m ys H2 ⟨rfl,hi,p⟩
 have hd:=hl i ys H2 p
 by_cases hlt:i < kvs.length
 ·refine .inr ⟨⟨hd,hlt⟩,Nat.lt_of_le_of_lt (hlen i ys H2 p) (Nat.lt_of_lt_of_le hlt hz),fun x H3 y=>?_⟩
  obtain⟨a,z,ha,rfl,rfl,hz'⟩:=y
  exact hs i z a ys H2 (fun ys' H'=>∃m',m' < kvs.length - i∧m'=kvs.length - (i+1)∧i+1≤kvs.length∧Pv (i+1) ys' H') (fun ys' H' p'=>⟨kvs.length - (i+1),by omega,rfl,hlt,p'⟩) hz' ha p
 ·obtain rfl:i=kvs.length:=by omega
  exact .inl ⟨⟨hd,Nat.le_refl _⟩,fun D hD=>hQ ys H2 D p hD⟩
section
variable{X:Cx}
theorem call_isiT:CallR X (.builtin "isinstance") (fun xs H Q=>∃x y u t b,xs=[x,y]∧(∀u',RelV y u'→u'=u)∧TyOf X.K H x t∧PySem.W.kitOne X.K t u=some b∧Q (.bl b) H):=by
 intro pins s σ H xs us Q I rv h
 obtain⟨x,y,u,t,b,rfl,hu,ty,hk,q⟩:=h
 obtain⟨u1,u2,rfl,r1,r2⟩:=rv.two
 rw [hu u2 r2]
 exact isinst_ok I r1 ty hk fun tk=>⟨.bl b,H,I.tok _,rfl,q⟩
end
end L2
namespace L2
open PySem PySem.Spec PyProof.Rows
section
variable{X:Cx}{K:PySem.W.Frag}
theorem eqK(h:X.K=K)(hu:X.A.units+64 < cLine):OpR X (compareOp .Eq) (rEqD K false):=by subst h;exact op_eqD hu
theorem neK(h:X.K=K)(hu:X.A.units+64 < cLine):OpR X (compareOp .NotEq) (rEqD K true):=by subst h;exact op_neD hu
def rCatA(K:PySem.W.Frag):R2:=fun x y H Q=>∃a b xs ys,x=.ref a∧y=.ref b∧SqT K H a xs∧SqT K H b ys∧ys≠[]∧xs.length+ys.length≤sizeLine ∧
 ∀p H',Same H H'→SqT K H' p (xs++ys)→Q (.ref p) H'
theorem op_catA:OpR X (binaryOp .Add) (rCatA X.K):=by
 intro pins s σ H x y v u Q I rx ry h
 obtain⟨a,b,xs,ys,rfl,rfl,ha,hb,hy,hz,q⟩:=h
 by_cases hx:xs=[]
 ·subst hx
  cases rx
  cases ry
  obtain⟨its,r1,p1,_⟩:=I.tuple ha
  obtain⟨its2,r2,p2,_⟩:=I.tuple hb
  cases r1
  obtain⟨o1,e1,c1,n1,d1⟩:=p1
  obtain⟨o2,e2,c2,n2,d2⟩:=p2
  obtain⟨oc1,od1,dt1,sl1⟩:=o1
  obtain⟨oc2,od2,dt2,sl2⟩:=o2
  dsimp only at c1 d1 c2 d2
  subst c1 d1 c2 d2
  exact concat_meets ⟨_,e1,rfl⟩ ⟨_,e2,rfl⟩ noFill_tuple_add seq_tuple_add PySem.F.slot_tuple_add PySem.F.entry_tuple_add (PySem.F.args_tuple_add_2 _ _)
   (tuple_addW0 a b _ its2.toArray n1 n2 od1 od2 sl1 sl2 rfl) ⟨e1,e2,.ref b,H,I,rfl,q b H (fun _ _ e=>e) hb⟩
 ·refine op_catT pins s σ H _ _ v u Q I rx ry ⟨a,b,xs,ys,rfl,rfl,ha,hb,hx,hz,fun z=>absurd z hy,fun _ p hp=>q p _ (fun b u e=>by rw [upd_ne (ne_of_none e hp)];exact e) (SqT.of upd_same)⟩
theorem pg_two{i j:Nat}{x y:Str}{k:Nat}{px py pt:Pos}(hK:X.K=K)(hc:X.calm=true)(hN:X.N.Nodup)(hi:X.N[i]?=some x)(hx:Loc X.env.scope x)(hfx:X.fn x=true∨X.env.scope.names.lookup x=some .local)
  (hj:X.N[j]?=some y) (hy:Loc X.env.scope y) (hfy:X.fn y=true∨X.env.scope.names.lookup y=some .local):PG X (.Tuple [.Name x px,.Name y py] k pt) (gTup K 2 (gCons (gName i) (gCons (gName j) gNil))):=by
 subst hK
 exact pg_tup hc (pgs_cons (pg_name hN hi hx hfx) (pgs_cons (pg_name hN hj hy hfy) pgs_nil))
end
end L2
namespace L2
open PySem PySem.Spec PyProof.Rows
def tDisp1T(tk tv:TE):TE:=fun σ H Q=>∀p,H p=none→tk σ (upd H p (.dT [])) fun x H1=>tv σ H1 fun y H2=>∃b ks,x=.ref b∧H2 p=some (.dT [])∧H2 b=some (.tup (ks.map kV))∧Q (.ref p) (upd H2 p (.dT (putK [] ks y)))
theorem pe_disp1T{X:Cx}{pos:Pos}{k v:Expr}{tk tv:TE}(hu:X.A.units+1 < cLine)(hk:PE X k tk)(hv:PE X v tv):PE X (.Dict [some k] [v] pos) (tDisp1T tk tv):=by
 intro pins s σ H Q I q
 have hn:=I.hok.fresh (Nat.le_refl s.heap.objs.size)
 have I1:=I.laid (a:=s.heap.objs.size) (o:=.dT []) (h':=s.heap.push { cls:=.type "dict",data:=.dict #[] }) (t':=s.toks) (fun _ _ q=>Heap.get?_push_of_some _ q) (Nat.le_refl _) (dt_empty s.heap I.big)
 have h1:=q _ hn
 refine wpAny_Dict_any rfl rfl (by intro z;cases z) (by show 1≤15;decide) (pairTrees_cons_walk (thn (hk pins _ σ _ _ I1 h1) fun u s1 ⟨x,H1,I2,rx,q1⟩=>thn (hv pins s1 σ H1 _ I2 q1) fun w2 s2 ⟨y,H2,I3,ry,b,ks,ex,ea,eb,q2⟩=>pairTrees_nil_walk ?_))
 subst ex
 cases rx
 obtain⟨z,hd,xs,rel,dd⟩:=dt_of I3.hok ea
 cases rel
 have room:HeapKind.room (tupleKind (mixKind X.prog X.w)) X.A:=(show X.A.units < cLine from Nat.lt_of_succ_lt hu)
 unfold storeAll
 rw [List.forIn_cons]
 refine wpAny_bind (wpAny_bind (wpAny_dictSet_heap (hsz:=Nat.zero_le _) room (key_of I3.hok eb) dd fun h' dd' hs=>wpAny_pure ?_))
 show wpAny _ _ (forIn [] PUnit.unit _) _ _ _
 rw [List.forIn_nil]
 refine wpAny_pure ⟨.ref s.heap.objs.size,_,?_,rfl,q2⟩
 obtain⟨o,es,ep,hq,h2,h3,h4,_,h5⟩:=dd'
 refine d_write I3 (by rw [ea];exact True.intro) hs ⟨o,hq⟩ ⟨by have:=length_putK ([]:List (List Key × V)) ks y;exact Nat.le_trans this (by show 0+1≤sizeLine;decide),hd,_,(KT.put (H:=H2) (kvs:=[]) (xs:=[]) .nil ks eb ry).keeps fun c ys ec=>?_,o,es,ep,hq,h2,h3,h4,h5⟩
 rw [upd_ne (ne_of ec ea (fun z=>nomatch z))]
 exact ec
end L2
namespace L2
open PySem PySem.Spec PyProof.Rows
def excInI(K:PySem.W.Frag)(C:Addr)(bmB:List Value)(newId:String):Bool:=match K.lookup C with|some ⟨.type "type",_,.cls cd,sl⟩=>(match cd.mro,sl.toList with|.ref C'::bm,[_,_,_,_,some (.builtin n),_]=>C'==C&&n==newId&&!cd.hasDel&&PySem.W.tailIn K bmB bm|_,_=>false)|_=>false
structure ExcI(h:Heap)(C:Addr)(bmB:List Value)(newId:String):Prop where
 obj:∃bm N nm q bs hdct sn sub ab col dd k0 k1 k2 k3 k5,h.get? C=some (excClassObj nm q C N bs bm hdct sn sub ab col dd k0 k1 k2 k3 k5 newId)∧OwnTail h bmB bm
theorem excI_of{K:PySem.W.Frag}{h:Heap}{C:Addr}{bmB:List Value}{newId:String}(kin:K.In h)(q:excInI K C bmB newId=true):ExcI h C bmB newId:=by
 refine⟨?_⟩
 unfold excInI at q
 split at q
 next ddx cdx slx look =>
  split at q
  next C2 tl z0 z1 z2 z3 nn z5 hmro hsl =>
   simp only [Bool.not_eq_true',Bool.and_eq_true,beq_iff_eq] at q
   obtain⟨⟨⟨e1,e2⟩,hdel⟩,htl⟩:=q
   obtain⟨nm,bs,mro,ns,qn,hd,sn,sub,ab,col,del⟩:=cdx
   obtain⟨sll⟩:=slx
   dsimp only at hmro hdel hsl
   subst e1 e2 hmro hdel hsl
   exact⟨tl,ns,nm,qn,bs,hd,sn,sub,ab,col,ddx,z0,z1,z2,z3,z5,kin _ _ look,PySem.W.tail_of_in kin htl⟩
  next=>cases q
 next=>cases q
abbrev rawExc(C:Addr)(d:Option Addr)(t:Addr):Obj:={ cls:=.ref C,dict:=d,data:=.fields #[.ref t,.none,.none,.none,.bool false,.none] }
abbrev madeHp(h:Heap)(C:Addr)(us:List Value):Heap:=(h.push { cls:=.type "tuple",data:=.seq us.toArray }).push (rawExc C none h.objs.size)
section
variable{prog:Program}{w:World}{A:Around}{E:Value→Shared→Prop}{h:Heap}{g:Array GenState}{d:Drawn}{t:Nat}{os:OsState}{K:PySem.W.Frag}{C fI:Addr}{us:List Value}
theorem made_at:(madeHp h C us).get? (h.objs.size+1)=some (rawExc C none h.objs.size):=by
 have:=Heap.get?_push_size (h.push { cls:=.type "tuple",data:=.seq us.toArray }) (o:=rawExc C none h.objs.size) rfl
 rwa [Heap.size_push] at this
theorem made_keeps:∀b o,h.get? b=some o→(madeHp h C us).get? b=some o:=fun b o e=>Heap.get?_push_of_some _ (Heap.get?_push_of_some _ e)
theorem exc_typeCall{Q:Fin→Shared→Prop}(X:K.In h) (q:excInI K C bmVE "ValueError.__new__"=true) (hi:PySem.W.findIn K (.ref C) "__init__"=some (some (.ref fI))) (hf:PySem.W.typeIn K (.ref fI)=some (.type "function")) (hl:us.length≤sizeLine)
  (hq:wpAny (model prog w) A (call (.ref fI) (.ref (h.objs.size+1)::us)) (fun r s'=>r=.none∧Q (.done (.ret (.ref (h.objs.size+1)))) s') E ⟨madeHp h C us,g,d,t,os⟩) :
  wpAny (model prog w) A (Builtin.«type.__call__» ⟨.ref C::us,[]⟩) Q E ⟨h,g,d,t,os⟩:=by
 have F:=PySem.F.excBase_ValueError
 have X1:K.In (madeHp h C us):=X.keeps made_keeps
 have hget:=made_at (h:=h) (C:=C) (us:=us)
 obtain⟨bm,N,nm,qq,bs,hdct,sn,sub,ab,col,dd,k0,k1,k2,k3,k5,hCl,T⟩:=(excI_of X q).obj
 have hC1:=made_keeps (h:=h) (C:=C) (us:=us) _ _ hCl
 have self:(Value.ref C::bm).contains (.ref C)=true:=by simp
 repeat (first|with_reducible refine wpAny_loadPart_at hCl ?_|with_reducible refine wpAny_madeBy_exc hCl ?_|wp_step)
 refine codeAny_call_builtin_code (Code.quiet_builtin _ F.quiet) (wpAny_check_new_subU F (by decide +kernel) T hCl (codeAny_exc_new_subU F (by decide +kernel) F T hCl ?_ hl))
 show wpAny _ _ _ _ _ ⟨madeHp h C us,g,d,t,os⟩
 unfold isInstance
 repeat (first|with_reducible refine wpAny_loadPart_at hget ?_|(with_reducible refine wpAny_isSubtype_exc hC1 ?_;rw [self])|wp_step)
 show wpAny (model prog w) A (typeLookup (.ref C) _) _ _ _
 refine(PySem.W.looks_findIn X1 hi).at ?_
 refine wpAny_holding (wpAny_bind ((PySem.W.bind_fn X1 _ hf).at ?_))
 refine wpAny_bind (wpAny_mono hq (fun r s' ⟨hr,hQ⟩=>?_) fun _ _ z=>z)
 subst hr
 wp_walk
 exact hQ
theorem exc_call{Q:Value→Shared→Prop}(X:K.In h) (q:excInI K C bmVE "ValueError.__new__"=true) (hi:PySem.W.findIn K (.ref C) "__init__"=some (some (.ref fI))) (hf:PySem.W.typeIn K (.ref fI)=some (.type "function")) (hl:us.length≤sizeLine)
  (hq:wpAny (model prog w) (A.under (.builtin "type.__call__" ⟨.ref C::us,[]⟩)) (call (.ref fI) (.ref (h.objs.size+1)::us)) (fun r s'=>r=.none∧Q (.ref (h.objs.size+1)) s') E ⟨madeHp h C us,g,d,t,os⟩) :
  wpAny (model prog w) A (call (.ref C) us) Q E ⟨h,g,d,t,os⟩:=by
 obtain⟨bm,N,nm,qq,bs,hdct,sn,sub,ab,col,dd,k0,k1,k2,k3,k5,hCl,T⟩:=(excI_of X q).obj
 have tl:=tc_lookup
 have tb:=tc_bind (.ref C)
 have ty:Shared.TypeIs ⟨h,g,d,t,os⟩ (.ref C) "type":=⟨_,hCl,rfl⟩
 refine wpAny_call (codeAny_of_tree (show wpAny (model prog w) _ (callAny (.ref C) _) _ _ _ from ?_))
 repeat (any_goals (first|assumption|with_reducible refine wpAny_loadPart_at hCl ?_|wp_step))
 exact⟨rfl,codeAny_call_builtin_at (Code.quiet_builtin _ (by decide +kernel)) entry_typeCall (wpAny_check_type_call_sub hCl (exc_typeCall X q hi hf hl hq))⟩
end
section
variable{prog:Program}{w:World}{A:Around}{E:Value→Shared→Prop}{s:Shared}{env:Env}{K:PySem.W.Frag}{C fI:Addr}
theorem exc_raiseStmt{m:Sem Value}{Q:Flow→Shared→Prop} (q:excInI K C bmVE "ValueError.__new__"=true) (hno:A.handled=none)
  (h:wpAny (model prog w) A m (fun v s1=>∃e d t,v=.ref e∧K.In s1.heap∧s1.heap.get? e=some (rawExc C d t)∧E (.ref e) s1) E s):wpAny (model prog w) A (raiseStmt env (some m) none) Q E s:=by
 unfold raiseStmt
 refine wpAny_bind (wpAny_mono h (fun v s1 ⟨e,d,t,hv,X,he,hE⟩=>?_) fun _ _ z=>z)
 subst hv
 obtain⟨bm,N,nm,qq,bs,hdct,sn,sub,ab,col,dd,k0,k1,k2,k3,k5,hCl,T⟩:=(excI_of X q).obj
 have be:(Value.ref C::bm).contains (.type "BaseException")=true:=by rw [List.contains_cons,T.hasType PySem.F.excBase_ValueError.hasBase,Bool.or_true]
 obtain⟨hp,gs,dr,tk,os⟩:=s1
 dsimp only at he hCl
 repeat (first|with_reducible refine wpAny_loadPart_at he ?_|with_reducible refine wpAny_loadPart_at hCl ?_|(with_reducible refine wpAny_isSubtype_exc hCl ?_;rw [be])|wp_step)
 exact wpAny_raiseNew_none hno hE
theorem exc_Raise{x:Str}{npos cpos pos:Pos}{args:List Expr}{Q:Flow→Shared→Prop} (q:excInI K C bmVE "ValueError.__new__"=true) (hi:PySem.W.findIn K (.ref C) "__init__"=some (some (.ref fI))) (hf:PySem.W.typeIn K (.ref fI)=some (.type "function"))
  (hno:A.handled=none) (hpl:(backTo cpos (starEach args env)).any (·.1)=false)
  (h:wpAny (model prog w) A (eval (.Name x npos) env) (fun f s1=>f=.ref C∧wpAny (model prog w) A (evalArgs (.ref C) true (backTo cpos (starEach args env)) [])
   (fun a s2=>a.kw=[]∧a.pos.length≤sizeLine∧K.In s2.heap∧wpAny (model prog w) (A.under (.builtin "type.__call__" ⟨.ref C::a.pos,[]⟩)) (call (.ref fI) (.ref (s2.heap.objs.size+1)::a.pos))
    (fun r s3=>r=.none∧K.In s3.heap∧(∃d t,s3.heap.get? (s2.heap.objs.size+1)=some (rawExc C d t))∧E (.ref (s2.heap.objs.size+1)) s3) E { s2 with heap:=madeHp s2.heap C a.pos }) E s1) E s) :
  wpAny (model prog w) A (exec (.Raise (some (.Call (.Name x npos) args [] cpos)) none pos) env) Q E s:=by
 rw [arm_exec_Raise]
 refine wpAny_bind (wpAny_standAt (exc_raiseStmt (env:=env) (K:=K) (C:=C) q hno ?_))
 refine wpAny_bind (wpAny_mono (wpAny_Call_ofName (wpAny_mono h (fun f s1 z=>?_) fun _ _ z=>z)) (fun v s3 z=>wpAny_bind (wpAny_standAt (wpAny_pure z))) fun _ _ z=>z)
 obtain⟨rfl,z⟩:=z
 unfold callWith
 refine wpAny_bind (wpAny_holding (wpAny_mono z (fun a s2 y=>wpAny_bind (wpAny_standAt ?_)) fun _ _ z=>z))
 obtain⟨us,kw⟩:=a
 obtain⟨hk,hl,X,y⟩:=y
 obtain rfl:kw=[]:=hk
 obtain⟨bm,N,nm,qq,bs,hdct,sn,sub,ab,col,dd,k0,k1,k2,k3,k5,hCl,T⟩:=(excI_of X q).obj
 obtain⟨hp,gs,dr,tk,os⟩:=s2
 simp only [hpl]
 refine wpAny_bind (wpAny_keeperOf_exc hCl ?_)
 refine wpAny_bind (exc_call X q hi hf hl (wpAny_mono y (fun r s3 ⟨y1,y2,⟨d,t,y3⟩,y4⟩=>⟨y1,wpAny_bind (wpAny_holding (wpAny_point (wpAny_pure ⟨_,d,t,rfl,y2,y3,y4⟩)))⟩) fun _ _ z=>z))
end
end L2
namespace L2
open PySem PySem.Spec PyProof.Rows
def cut(H:Hp)(x:Addr):Hp:=fun b=>if b=x then none else H b
theorem cut_same{H:Hp}{x:Addr}:cut H x x=none:=by unfold cut;rw [if_pos rfl]
theorem cut_ne{H:Hp}{x b:Addr}(h:b≠x):cut H x b=H b:=by unfold cut;rw [if_neg h]
def excRaw(e C:Addr)(d:Option Addr)(h:Heap):Prop:=∃t,h.get? e=some (rawExc C d t)
theorem excRaw_ok{P:Program}{w:World}{H:Hp}{h:Heap}{e C:Addr}{d:Option Addr}(p:excRaw e C d h):ObjOk P w H h e (.ext (excRaw e C d)):=⟨p,let ⟨_,q⟩:=p;⟨_,q⟩,fun _ _ ⟨t,q⟩ k=>⟨t,k _ q⟩⟩
section
variable{X:Cx}{pins:List (Addr × Obj)}{σ:St}{H:Hp}{s:Shared}{x:Addr}
theorem Inv.cut{φ:Heap→Prop}(I:Inv X pins σ H s)(hx:H x=some (.ext φ)):Inv X pins σ (L2.cut H x) s:=by
 have ne:∀b u,(∀ψ,u≠.ext ψ)→H b=some u→b≠x:=fun b u hu e z=>by rw [z,hx] at e;exact hu _ (Option.some.inj e).symm
 have le:∀b,H b=none→L2.cut H x b=none:=fun b e=>by unfold L2.cut;split<;>first|rfl|exact e
 refine⟨I.ok,I.os,I.bare,⟨I.base.keep,I.base.slot,fun b ob e n hb=>le b (I.base.free b ob e n hb),I.base.there,fun b xs e=>?_,fun b ob u e=>?_,fun b ps e=>?_⟩,I.loc,I.cell,le _ I.free,fun y c e=>le c (I.freeC y c e),fun p hp=>?_,fun b u e=>?_,I.len⟩
 ·have z:=I.base.tups b xs e
  rw [cut_ne (ne _ _ (fun _ q=>by cases q) z)]
  exact z
 ·have z:=I.base.frzs b ob u e
  rw [cut_ne (ne _ _ (fun _ q=>by cases q) z)]
  exact z
 ·obtain⟨m,z⟩:=I.base.tbls b ps e
  exact⟨m,by rw [cut_ne (ne _ _ (fun _ q=>by cases q) z)];exact z⟩
 ·obtain⟨a1,a2,a3⟩:=I.pin p hp
  exact⟨a1,le _ a2,a3⟩
 ·by_cases eb:b=x
  ·subst eb
   rw [cut_same] at e
   cases e
  ·rw [cut_ne eb] at e
   refine(I.hok b u e).stay (fun _ _ _ q=>q) (fun c q=>?_) fun c xs q=>?_
   ·rw [cut_ne (ne _ _ (fun _ q=>by cases q) q)];exact q
   ·rw [cut_ne (ne _ _ (fun _ q=>by cases q) q)];exact q
end
section
variable{P:Program}{w:World}{K:PySem.W.Frag}{mg:Str→Option Value}{base:Heap}
structure MkX(K:PySem.W.Frag)(C fI:Addr):Prop where
 ex:excInI K C bmVE "ValueError.__new__"=true
 init:PySem.W.findIn K (.ref C) "__init__"=some (some (.ref fI))
 fn:PySem.W.typeIn K (.ref fI)=some (.type "function")
end
end L2
namespace L2
open PySem PySem.Spec PyProof.Rows Builtin Builtin.ObjectAttr
def refPass(l:List Value):Bool:=l.dropWhile (fun|.ref _=>true|_=>false)==bmVE
theorem refuse_exc(self:Value):∀{l:List Value},refPass l=true→refuseLoop self "__setattr__" l=pure ()
 |[],e=>by cases e
 |v::r,e=>by
  cases v with
  |ref c=>rw [refuseLoop_ref];exact refuse_exc self e
  |type n=>rw [beq_iff_eq.mp (show(Value.type n::r==bmVE)=true from e)];exact PySem.F.store_ValueError.passes self
  |_=>cases e
structure ExcSet(K:PySem.W.Frag)(C:Addr):Prop where
 sa:PySem.W.findIn K (.ref C) "__setattr__"=some (some (.builtin "object.__setattr__"))
 po:(PySem.W.clsIn K C).any (fun cd=>refPass cd.mro)=true
 hd:PySem.W.hasDictIn K C=true
 ob:PySem.W.mroIn K C (.type "object")=some true
section
variable{prog:Program}{w:World}{A:Around}{E:Value→Shared→Prop}{s:Shared}{K:PySem.W.Frag}{x C:Addr}{name:Str}{v:Value}
theorem osa_exc{ox:Obj}{od:Option Obj}{tk0:Tok}{R:Result→Shared→Prop}(X:K.In s.heap)(I:PySem.W.InstAt s.heap x ox C od)(c:ExcSet K C)(ht:PySem.W.takerIn K C name=some none)
  (h:∀b,wpAny (model prog w) A.in1 (storeInOwnDict (.ref x) (.ref C) (.str name tk0) name v b)
   (fun fx s'=>match fx with|.done f=>R (.ok f) s'|.again c'=>c'.quiet=true∧codeAny (model prog w) A c' R s') (fun e s'=>R (.error e) s') s) :
  codeAny (model prog w) A (.call (.builtin "object.__setattr__") ⟨[.ref x,.str name tk0,v],[]⟩) R s:=by
 have S:=PySem.F.store_object
 obtain⟨cd,hc,ho⟩:=PySem.W.any_some c.po
 have isO:PySem.W.Looks (model prog w) s.heap (isInstance (.ref x) (.type "object")) true:=I.type.andThen (PySem.W.looks_mroIn X c.ob)
 have mr:PySem.W.Looks (model prog w) s.heap (mroOf (.ref C)) cd.mro:=(PySem.W.looks_clsIn X hc).andThen .now
 refine codeAny_call_builtin S.slot.plain S.entry (@PySem.W.check_slot (model prog w) _ _ s "object.__setattr__" "object" "__setattr__" (.ref x) [.str name tk0,v] [] _ S.kind S.split isO (S.args (.ref x) (.str name tk0) v) ?_)
 obtain⟨at0,ha,hr⟩:=Option.bind_eq_some_iff.mp ht
 have tk3:PySem.W.Looks (model prog w) s.heap (storeTaker? at0) none:=by
  cases at0 with
  |none=>exact .now
  |some a =>
   obtain⟨b,hb,hn⟩:=Option.map_eq_some_iff.mp hr
   refine(PySem.W.looks_takesIn X hb).andThen ?_
   cases b with
   |true=>cases hn
   |false=>exact .now
 rw [PySem.W.osa_eq,refuse_eq]
 refine wpAny_bind (wpAny_bind (I.type.here (wpAny_bind (mr.here ?_))))
 rw [refuse_exc _ ho]
 exact wpAny_pure (wpAny_bind (I.type.here (wpAny_bind ((PySem.W.looks_findIn X ha).here (wpAny_bind (tk3.here (h _)))))))
def xdAt(dx:Addr)(fs:List (Str × V))(h:Heap):Prop:=∃mA,h.Ns1 dx mA∧(∀f,RelO (fs.lookup f) (mA f))∧PySem.Within mA (fs.map (·.1))
theorem set_exc0{t:Addr}{Q:Unit→Shared→Prop}(X:K.In s.heap)(c:ExcSet K C)(ht:PySem.W.takerIn K C name=some none)(hx:s.heap.get? x=some (rawExc C none t))
  (h:∀h',h'.get? x=some (rawExc C (some s.heap.objs.size) t)→h'.Ns1 s.heap.objs.size (fun y=>if y=name then some v else none)→(∀b o,b≠x→s.heap.get? b=some o→h'.get? b=some o)→Q () { s with heap:=h',toks:=s.toks+2 }) :
  wpAny (model prog w) A (setAttr (.ref x) name v) Q E s:=by
 have J:PySem.W.InstAt s.heap x (rawExc C none t) C none:=⟨hx,rfl,rfl,True.intro⟩
 obtain⟨cd,hc,hd⟩:=PySem.W.any_some c.hd
 refine PySem.W.set_plain X J c.sa (osa_exc (s:={ s with toks:=s.toks+1 }) X J c ht fun b=>?_)
 obtain⟨hh,gs,dr,tt,oss⟩:=s
 dsimp only at hx X h ⊢
 refine wpAny_bind (wpAny_pure (wpAny_bind (wpAny_bind (wpAny_loadPart hx (wpAny_bind ((PySem.W.looks_clsIn X hc).at ?_))))))
 rw [hd]
 have hx1:(hh.push { cls:=.type "dict",data:=.dict #[] }).get? x=some (rawExc C none t):=Heap.get?_push_of_some _ hx
 have nx:x≠hh.objs.size:=Nat.ne_of_lt (Heap.lt_size hx)
 refine wpAny_bind (wpAny_alloc' (wpAny_bind (wpAny_update' hx1 (wpAny_pure ?_))))
 have e1:((hh.push { cls:=.type "dict",data:=.dict #[] }).update x fun o=>{ cls:=o.cls,dict:=some hh.objs.size,data:=o.data,slots:=o.slots }).get? hh.objs.size=some { cls:=.type "dict",data:=.dict #[] } :=
  (Heap.get?_update_ne _ _ _ _ nx.symm).trans (Heap.get?_push_at rfl rfl)
 have e2:((hh.push { cls:=.type "dict",data:=.dict #[] }).update x fun o=>{ cls:=o.cls,dict:=some hh.objs.size,data:=o.data,slots:=o.slots }).Ns hh.objs.size (fun _=>none) :=
  ⟨_,#[],_,e1,rfl,fun e he=>absurd he (by simp),fun _=>rfl⟩
 refine wpAny_bind (wpAny_pure (wpAny_bind (wpAny_nsSet1 (Heap.Ns1.of_empty e2) fun h' hn' hs=>?_)))
 obtain⟨oD,esD,epD,hoD,hdD,hcD⟩:=hn'.count (PySem.Within.cons name v PySem.Within.nil)
 refine wpAny_bind (wpAny_lookBehind hoD (by rw [hdD];exact pastItsLine_dict (Nat.le_trans hcD (by rw [List.length_cons,List.length_nil,sizeLine_eq];omega))) (wpAny_pure ?_))
 exact h h' ((hs.2 x nx).trans (Heap.get?_update_self _ hx1 rfl)) hn' fun b o hb e=>(hs.2 b (Nat.ne_of_lt (Heap.lt_size e))).trans ((Heap.get?_update_ne _ _ _ _ hb).trans (Heap.get?_push_of_some _ e))
theorem set_exc1{t dx:Addr}{mA:Str→Option Value}{ns:List Str}{Q:Unit→Shared→Prop}(X:K.In s.heap)(c:ExcSet K C)(ht:PySem.W.takerIn K C name=some none)(hx:s.heap.get? x=some (rawExc C (some dx) t))(hn:s.heap.Ns1 dx mA)
  (hw:PySem.Within mA ns) (hsz:ns.length≤sizeLine) (h:∀h',h'.Ns1 dx (fun y=>if y=name then some v else mA y)→Heap.SameBut dx s.heap h'→Q () { s with heap:=h',toks:=s.toks+2 }) :
  wpAny (model prog w) A (setAttr (.ref x) name v) Q E s:=by
 have hdx:∃od,s.heap.get? dx=some od:=let ⟨o,_,_,e,_⟩:=hn;⟨o,e⟩
 obtain⟨od,hod⟩:=hdx
 have J:PySem.W.InstAt s.heap x (rawExc C (some dx) t) C (some od):=⟨hx,rfl,rfl,hod⟩
 obtain⟨cd,hc,hd⟩:=PySem.W.any_some c.hd
 refine PySem.W.set_plain X J c.sa (osa_exc (s:={ s with toks:=s.toks+1 }) X J c ht fun b=>?_)
 obtain⟨hh,gs,dr,tt,oss⟩:=s
 dsimp only at hx X h hn ⊢
 refine wpAny_bind (wpAny_pure (wpAny_bind (wpAny_bind (wpAny_loadPart hx (wpAny_bind ((PySem.W.looks_clsIn X hc).at ?_))))))
 rw [hd]
 refine wpAny_pure (a:=some dx) (wpAny_bind (wpAny_pure (wpAny_bind (wpAny_nsSet1 hn fun h' hn' hs=>?_))))
 obtain⟨oD,esD,epD,hoD,hdD,hcD⟩:=hn'.count (PySem.Within.cons name v hw)
 exact wpAny_bind (wpAny_lookBehind hoD (by rw [hdD];exact pastItsLine_dict (Nat.le_trans hcD (by rw [List.length_cons];omega))) (wpAny_pure (h h' hn' hs)))
end
theorem xdAt_ok{P:Program}{w:World}{H:Hp}{h:Heap}{dx:Addr}{fs:List (Str × V)}(p:xdAt dx fs h):ObjOk P w H h dx (.ext (xdAt dx fs)):=by
 refine⟨p,?_,fun h1 h2 q k=>?_⟩
 ·obtain⟨_,⟨o,_,_,e,_⟩,_⟩:=p
  exact⟨o,e⟩
 ·obtain⟨mA,⟨o,es,ep,e,r⟩,z⟩:=q
  exact⟨mA,⟨o,es,ep,k o e,r⟩,z⟩
section
variable{X:Cx}{pins:List (Addr × Obj)}{σ:St}{H H0:Hp}{s s0:Shared}{dx:Addr}
theorem Inv.trackNew{o:HO}(I0:Inv X pins σ H0 s0)(I:Inv X pins σ H s)(hd:s0.heap.objs.size≤dx)(hx:H dx=none)(ho:ObjOk X.prog X.w (upd H dx o) s.heap dx o):Inv X pins σ (upd H dx o) s:=by
 have ne:∀b ob,s0.heap.get? b=some ob→b≠dx:=fun b ob e=>Nat.ne_of_lt (Nat.lt_of_lt_of_le (Heap.lt_size e) hd)
 refine I.track (Heap.get?_none_of_le (Nat.le_trans I0.sz hd)) (Nat.ne_of_lt (Nat.lt_of_lt_of_le I0.lt hd)).symm (fun y c e=>?_) (fun p hp=>ne _ _ (I0.pin p hp).1) hx ho
 obtain⟨v,ob,h1,_⟩:=I0.cell y c e
 exact ne _ _ h1
end
section
variable{X:Cx}{o value:Expr}{f:Str}{pos pos':Pos}{ta tv:TE}
theorem ps_xfld0(ha:PE X o ta)(hv:PE X value tv)(hs:swapsWith value (some (.Attribute o f pos')) pos.line X.env=pure false):PS X (.Assign [.Attribute o f pos'] value pos)
  (fun D σ H=>tv σ H fun y H1=>ta σ H1 fun x H2=>∃e C,x=.ref e∧ExcSet X.K C∧PySem.W.takerIn X.K C f=some none∧H2 e=some (.ext (excRaw e C none))∧∀dx,H2 dx=none→D.nx σ (upd (upd H2 e (.ext (excRaw e C (some dx)))) dx (.ext (xdAt dx [(f,y)])))):=by
 intro pins s σ H D I h
 refine plainObj_wpAny_Assign_Attribute (thn (hv pins s σ H _ I h) fun u s1 ⟨y,H1,I1,ry,q⟩=>thn (ha pins s1 σ H1 _ I1 q) fun ov s2 ⟨x,H2,I2,rx,e,C,ex,c,ht,he,q2⟩=>?_) hs
 subst ex
 obtain rfl:ov=Value.ref e:=rx
 obtain⟨⟨t,p⟩,_,_⟩:=(show ObjOk X.prog X.w H2 s2.heap e (.ext (excRaw e C none)) from I2.hok e _ he)
 refine set_exc0 I2.kIn c ht p fun h' p' n' k'=>?_
 have hn:H2 s2.heap.objs.size=none:=I2.hok.fresh (Nat.le_refl _)
 have ne:s2.heap.objs.size≠e:=(ne_of_none he hn).symm
 have I3:=I2.write (x:=e) (e:=e) (o:=.ext (excRaw e C (some s2.heap.objs.size))) (h':=h') (t':=s2.toks+2) (by rw [he];exact True.intro) (.inl rfl) (fun b ob hb z=>k' b ob hb z) ⟨_,p'⟩ (excRaw_ok ⟨t,p'⟩)
 refine⟨σ,_,I2.trackNew I3 (Nat.le_refl _) (by rw [upd_ne ne];exact hn) (xdAt_ok ⟨_,n',fun g=>?_,fun g hg=>?_⟩),q2 _ hn⟩
 ·show RelO (List.lookup g [(f,y)]) (if g=f then some u else none)
  by_cases z:g=f
  ·subst z
   rw [if_pos rfl]
   show RelO (match g==g with|true=>some y|false=>none) (some u)
   rw [beq_self_eq_true]
   exact ry
  ·rw [if_neg z]
   show RelO (match g==f with|true=>some y|false=>none) none
   rw [beq_false_of_ne z]
   exact True.intro
 ·by_cases z:g=f
  ·subst z
   exact .head _
  ·exact absurd (show(if g=f then some u else none)=none by rw [if_neg z]) hg
theorem ps_xfld1(ha:PE X o ta)(hv:PE X value tv)(hs:swapsWith value (some (.Attribute o f pos')) pos.line X.env=pure false):PS X (.Assign [.Attribute o f pos'] value pos)
  (fun D σ H=>tv σ H fun y H1=>ta σ H1 fun x H2=>∃e C dx fs,x=.ref e∧ExcSet X.K C∧PySem.W.takerIn X.K C f=some none∧H2 e=some (.ext (excRaw e C (some dx)))∧H2 dx=some (.ext (xdAt dx fs))∧fs.length < 1000∧D.nx σ (upd H2 dx (.ext (xdAt dx (putF f y fs))))):=by
 intro pins s σ H D I h
 refine plainObj_wpAny_Assign_Attribute (thn (hv pins s σ H _ I h) fun u s1 ⟨y,H1,I1,ry,q⟩=>thn (ha pins s1 σ H1 _ I1 q) fun ov s2 ⟨x,H2,I2,rx,e,C,dx,fs,ex,c,ht,he,hdx,hl,q2⟩=>?_) hs
 subst ex
 obtain rfl:ov=Value.ref e:=rx
 obtain⟨⟨t,p⟩,_,_⟩:=(show ObjOk X.prog X.w H2 s2.heap e (.ext (excRaw e C (some dx))) from I2.hok e _ he)
 obtain⟨⟨mA,n,r,wi⟩,_,_⟩:=(show ObjOk X.prog X.w H2 s2.heap dx (.ext (xdAt dx fs)) from I2.hok dx _ hdx)
 have hz:(fs.map (·.1)).length≤sizeLine:=by rw [List.length_map,sizeLine_eq];omega
 refine set_exc1 I2.kIn c ht p n wi hz fun h' n' sb=>?_
 refine⟨σ,_,I2.write (x:=dx) (e:=dx) (o:=.ext (xdAt dx (putF f y fs))) (h':=h') (t':=s2.toks+2) (by rw [hdx];exact True.intro) (.inl rfl) (fun b ob hb z=>(sb.2 b hb).trans z) (let ⟨o,_,_,e,_⟩:=n';⟨o,e⟩) (xdAt_ok ⟨_,n',fun g=>?_,fun g hg=>?_⟩),q2⟩
 ·show RelO ((putF f y fs).lookup g) (if g=f then some u else mA g)
  rw [lookup_putF]
  by_cases z:g=f
  ·rw [if_pos z,if_pos z];exact ry
  ·rw [if_neg z,if_neg z];exact r g
 ·by_cases z:g=f
  ·rw [z];exact(keys_putF f y fs).1
  ·refine(keys_putF f y fs).2 g (wi g fun zz=>hg ?_)
   show(if g=f then some u else mA g)=none
   rw [if_neg z]
   exact zz
end
end L2
namespace L2
open PySem PySem.Spec PyProof.Rows Builtin Builtin.ObjectAttr
structure BaseI(K:PySem.W.Frag)(R:Addr):Prop where
 ga:PySem.W.specialIn K (.ref R) "__getattribute__"=some (some (.builtin "type.__getattribute__"))
 rd:PySem.W.readsIn K R (.type "type")=true
 fi:PySem.W.findCls K (.ref R) (.type "type") "__init__"=some (.val (.builtin "ValueError.__init__"))
theorem upd_id{H:Hp}{a:Addr}{o:HO}(h:H a=some o):upd H a o=H:=by
 funext b
 unfold upd
 split
 ·next e=>rw [e,h]
 ·rfl
section
variable{X:Cx}
theorem init_run{pins:List (Addr × Obj)}{σ:St}{H:Hp}{s:Shared}{e C:Addr}{d:Option Addr}{us:List Value}{Q:Value→Shared→Prop}(I:Inv X pins σ H s) (hx:excInI X.K C bmVE "ValueError.__new__"=true) (he:H e=some (.ext (excRaw e C d))) (hl:us.length≤sizeLine)
  (h:∀s',Inv X pins σ H s'→Q .none s'):wpAny (model X.prog X.w) X.A (call (.builtin "ValueError.__init__") (.ref e::us)) Q X.xe s:=by
 have F:=PySem.F.excBase_ValueError
 obtain⟨⟨t,p⟩,_,_⟩:=(show ObjOk X.prog X.w H s.heap e (.ext (excRaw e C d)) from I.hok e _ he)
 obtain⟨bm,N,nm,qq,bs,hdct,sn,sub,ab,col,dd,k0,k1,k2,k3,k5,hCl,T⟩:=(excI_of I.kIn hx).obj
 have fin:∀h' tk,h'.get? e=some (rawExc C d s.heap.objs.size)→(∀b o,b≠e→s.heap.get? b=some o→h'.get? b=some o)→Q .none { s with heap:=h',toks:=tk }:=fun h' tk p' k'=>by
  have I3:=I.write (x:=e) (e:=e) (o:=.ext (excRaw e C d)) (h':=h') (t':=tk) (by rw [he];exact True.intro) (.inl rfl) (fun b ob hb z=>k' b ob hb z) ⟨_,p'⟩ (excRaw_ok ⟨_,p'⟩)
  rw [upd_id he] at I3
  exact h _ I3
 obtain⟨hh,g,dr,tt,os⟩:=s
 dsimp only at p hCl fin
 refine wpAny_call (codeAny_call_builtin F.init.plain F.initEntry (wpAny_check_init_subU F T hCl p rfl ?_))
 have p1:(hh.push { cls:=.type "tuple",data:=.seq us.toArray }).get? e=some (rawExc C d t):=Heap.get?_push_of_some _ p
 wp_walk
 refine fin _ _ ?_ fun b o hb z=>?_
 ·rw [Heap.get?_update_self _ p1 rfl]
  rfl
 ·rw [Heap.get?_update_other _ _ (Ne.symm hb)]
  exact Heap.get?_push_of_some _ z
theorem pe_baseInit{c:Str}{R:Addr}{p apos pos:Pos}{e₀:Expr}{es:List Expr}{t:TA}{pl:Sem Bool}(b:BaseI X.K R)(hg:Gl X c)(hm:X.mg c=some (.ref R))(ha:PA X (e₀::es) t)
  (ht:eval (.Call (.Attribute (.Name c p) "__init__" apos) (e₀::es) [] pos) X.env=(do
   let ov ←eval (.Name c p) X.env
   standAt apos.atName
   let (f,first) ←holding [ov] (getMethod ov "__init__" pl)
   callWith pos f first (backTo pos (starEach (e₀::es) X.env)) (backToKw pos (keywordEach [] X.env))))
  (hd:(c==("__debug__":Str))=false:=by decide) (he:starEach (e₀::es) X.env=(false,eval e₀ X.env)::starEach es X.env:=by rfl) (hpl:(backTo pos (starEach es X.env)).any (·.1)=false:=by rfl) :
  PE X (.Call (.Attribute (.Name c p) "__init__" apos) (e₀::es) [] pos) (fun σ H Q=>t σ H fun vs H1=>∃e C d rest,vs=.ref e::rest∧excInI X.K C bmVE "ValueError.__new__"=true∧H1 e=some (.ext (excRaw e C d))∧rest.length≤sizeLine∧Q .non H1):=by
 intro pins s σ H Q I h
 refine PySem.W.methodCall_KW (pl:=pl) (ld_glob I hg hm (PySem.W.method_cls I.kIn b.ga (PySem.W.cls_value I.kIn b.rd b.fi rfl ?_)) hd) ht
 have hA:=ha pos pins { s with toks:=s.toks+1 } σ H _ (I.tok _) h
 rw [he] at hA ⊢
 refine Calls.callWith_builtin (by show(false||(backTo pos (starEach es X.env)).any (·.1))=false;rw [hpl]<;>rfl) (Calls.evalArgs_plain ?_)
 refine thn hA fun us s2 ⟨vs,H2,I2,r2,e,C,d,rest,ev,hx,hq,hl,q2⟩=>?_
 subst ev
 cases r2 with
 |cons r1 rr =>
  obtain rfl:_=Value.ref e:=r1
  exact init_run I2 hx hq (by rw [←rr.length];exact hl) fun s' I3=>⟨.non,H2,I3,rfl,q2⟩
end
section
variable{prog:Program}{w:World}{A:Around}{E:Value→Shared→Prop}{s:Shared}{K:PySem.W.Frag}{x D:Addr}{name:Str}{v:Value}
end
section
variable{X:Cx}{e:Expr}{f:Str}{pos:Pos}{ta:TE}
end
end L2
namespace L2
open PySem PySem.Spec PyProof.Rows
structure Shw(d:PyData)(n m:Nat):Prop where
 sh:d.showable=true
 nd:d.hasDict=false
 dp:d.depth≤m
 ln:d.shown.length≤n
structure Shws(ds:List PyData)(n m:Nat):Prop where
 sh:PyData.showableAll ds=true
 nd:PyData.hasDictAll ds=false
 dp:PyData.depthAll ds≤m
 ln:piled (PyData.shownAll ds)≤n
theorem Shw.le{d:PyData}{n m n' m':Nat}(h:Shw d n m)(hn:n≤n')(hm:m≤m'):Shw d n' m':=⟨h.sh,h.nd,Nat.le_trans h.dp hm,Nat.le_trans h.ln hn⟩
theorem shw_non(m:Nat):Shw .none 4 m:=⟨by simp only [PyData.showable],by simp only [PyData.hasDict],by simp only [PyData.depth];omega,by simp only [PyData.shown];exact Nat.le_refl 4⟩
theorem shw_str{y:Str}(h:PyData.strOk y=true)(m:Nat):Shw (.str y) (10*y.length+2) m:=by
 refine⟨by simp only [PyData.showable],by simp only [PyData.hasDict],by simp only [PyData.depth];omega,?_⟩
 simp only [PyData.shown]
 refine StrLaws.reprText_len y fun c hc=>?_
 have h1:y.cps.all (· < 0x110000)=true:=h
 rw [Array.all_eq_true_iff_forall_mem] at h1
 have h3:c < 0x110000:=by simpa using h1 c (by simpa using hc)
 exact Nat.lt_trans h3 (by decide)
theorem shw_int{i:Int}(h0:0≤i)(h1:i≤10 ^ 18)(m:Nat):Shw (.int i) 64 m:=by
 have hb:i.natAbs < 10 ^ 19:=by omega
 have hb2:i.natAbs < 2 ^ 64:=Nat.lt_of_le_of_lt (show i.natAbs≤10 ^ 18 by omega) (by decide)
 refine⟨?_,by simp only [PyData.hasDict],by simp only [PyData.depth];omega,?_⟩
 ·simp only [PyData.showable,decide_eq_true_eq]
  rcases Nat.eq_zero_or_pos i.natAbs with z|z
  ·rw [z];decide
  ·exact Nat.lt_trans ((Nat.log2_lt (by omega)).mpr hb2) (by decide)
 ·simp only [PyData.shown]
  have e:=int_text_length_le10 (k:=19) (by decide) hb
  show(Str.ofString (toString i)).length≤64
  rw [PySem.ofString_length]
  omega
theorem shws_nil(m:Nat):Shws [] 0 m:=⟨by simp only [PyData.showableAll],by simp only [PyData.hasDictAll],by simp only [PyData.depthAll];omega,by simp only [PyData.shownAll];exact Nat.le_refl 0⟩
theorem shws_cons{d:PyData}{ds:List PyData}{n n' m:Nat}(h:Shw d n m)(r:Shws ds n' m):Shws (d::ds) (n+2+n') m:=by
 refine⟨?_,?_,?_,?_⟩
 ·simp only [PyData.showableAll,h.sh,r.sh,Bool.and_self]
 ·simp only [PyData.hasDictAll,h.nd,r.nd,Bool.or_self]
 ·simp only [PyData.depthAll]
  exact Nat.max_le.mpr ⟨h.dp,r.dp⟩
 ·simp only [PyData.shownAll]
  rw [piled_cons]
  have:=h.ln
  have:=r.ln
  omega
theorem shw_tup{ds:List PyData}{n m:Nat}(h:Shws ds n m):Shw (.tuple ds) (n+3) (m+1):=by
 refine⟨by simp only [PyData.showable];exact h.sh,by simp only [PyData.hasDict];exact h.nd,by simp only [PyData.depth];exact Nat.succ_le_succ h.dp,?_⟩
 simp only [PyData.shown]
 have hl:=h.ln
 generalize PyData.shownAll ds=ts at hl
 unfold tupleText
 rw [strLen_append,strLen_append]
 have e1:(("(":Str)).length=1:=rfl
 have e3:((if ts.length==1 then ",)" else ")":String):Str).length≤2:=by split<;>decide
 have e2:(Str.join ", " ts).length≤piled ts:=by
  by_cases z:ts=[]
  ·subst z;exact Nat.zero_le _
  ·have:=join_length_add ts z;omega
 omega
section
variable{X:Cx}{k:Nat}{pos:Pos}{e:Expr}{te:TE}
theorem pe_frD(hr:Room k X.A)(he:PE X e te):PE X (.FormattedValue e 114 none pos) (fun σ H Q=>te σ H fun v H1=>∃d n,Dat X.K H1 v d∧Shw d n 60∧n≤2000000∧∀z:Str,z.length≤2000000→Q (.str z) H1):=by
 intro pins s σ H Q I h
 refine wpAny_FormattedValue_repr (thn (he pins s σ H _ I h) fun u s1 ⟨v,H1,I1,r,d,n,hd,sh,hn,q⟩=>?_)
 have hl:d.shown.length≤2000000:=Nat.le_trans sh.ln hn
 have hz:d.shown.length≤sizeLine:=Nat.le_trans hl (by rw [sizeLine_eq];omega)
 have fin:∀h' t tk,(∀b o,s1.heap.get? b=some o→h'.get? b=some o)→wpAny (model X.prog X.w) X.A (formatField (.str d.shown t) Str.empty) (EP X pins σ Q) X.xe { s1 with heap:=h',toks:=tk }:=fun h' t tk hk =>
  formatField_str (fun t' tk'=>⟨.str _,H1,(I1.kept (h':=h') (t':=tk) hk).tok _,⟨_,rfl⟩,q _ hl⟩) hz
 obtain⟨as,ra⟩:=Dat.reads I1 hd r
 have hu:=hr.units
 have ref:∀a,u=.ref a→wpAny (model X.prog X.w) X.A (pyReprObj u) (fun r s2=>wpAny (model X.prog X.w) X.A (formatField r Str.empty) (EP X pins σ Q) X.xe s2) X.xe s1:=fun a e=>by
  subst e
  exact pyReprObj_of_reads ra sh.sh (PyData.noDict_hsm sh.nd) hr.gd (by have:=sh.dp;omega) (fun _ _ z=>z) (fun h' u tk hk=>fin h' u tk hk) hz
 cases hd with
 |non =>
  cases r
  simp only [PyData.shown] at fin
  exact pyReprObj_none (fin s1.heap _ _ fun _ _ z=>z)
 |bl b =>
  cases r
  simp only [PyData.shown] at fin
  exact pyReprObj_bool (fin s1.heap _ _ fun _ _ z=>z)
 |int i =>
  obtain⟨t,rfl⟩:=r
  have hs:=sh.sh
  simp only [PyData.showable,decide_eq_true_eq] at hs
  simp only [PyData.shown] at fin
  exact pyReprObj_int hs (fin s1.heap _ _ fun _ _ z=>z)
 |str x =>
  obtain⟨t,rfl⟩:=r
  simp only [PyData.shown] at fin hz
  exact pyReprObj_str (fin s1.heap _ _ fun _ _ z=>z) hz
 |tup _ _=>cases r;exact ref _ rfl
 |lst _ _=>cases r;exact ref _ rfl
end
end L2
namespace L2
open PySem PySem.Spec PyProof.Rows
section
variable{α β:Type}
variable{P:Shared→Prop}
end
section
variable{X:Cx}{st:Stmt}{rest:List Stmt}{t u:TS}{pos:Pos}
end
section
variable{X:Cx}
end
end L2
local macro_rules
 |`(sortPriv% $n:ident)=>do
  if n.getId==`rn then return Lean.mkCIdent (Lean.mkPrivateNameCore `PySem.Builtin.Int.W0All `PySem.Builtin.readNumeral)
  if n.getId==`vl then return Lean.mkCIdent (Lean.mkPrivateNameCore `PySem.Builtin.Int.W0All `PySem.Builtin.Numeral.value)
  if n.getId==`nd then return Lean.mkCIdent (Lean.mkPrivateNameCore `PySem.Builtin.Int.W0All `PySem.Builtin.numeralDigits?)
  if n.getId==`bl then return Lean.mkCIdent (Lean.mkPrivateNameCore `PySem.Builtin.Int.W0All `PySem.Builtin.isBlank)
  Lean.Macro.throwUnsupported
namespace L2
open PySem
section
variable{prog:Program}{w:World}{A:Around}{E:Value→Shared→Prop}{s:Shared}
end
end L2
namespace L2
open PySem PySem.Spec PyProof.Rows
section
variable{X:Cx}{pos:Pos}{e:Expr}{es:List Expr}{te:TE}
end
end L2
namespace L2
open PySem PySem.Spec PyProof.Rows
section
variable{prog:Program}{w:World}{A:Around}{R:Result→Shared→Prop}{I S:Addr}{fp wr:List Addr}{n:Nat}{P:Nat→Value→Prop}{St:Nat→Heap→Prop}{d:Value}
end
section
variable{X:Cx}{e:Expr}{es:List Expr}{kws:List Keyword}{t tk:TA}{p pos:Pos}
end
end L2
namespace L2
open PySem PySem.Spec PyProof.Rows
structure DKt(K:PySem.W.Frag)(w:World)(a:Addr)(ps:List (Str × Int)):Prop where
 ns:(a==sysModules)=false
 at_:∀(P:Program) (h:Heap),K.In h→∃vs:List (Key × Value),KV (ps.map fun p=>((Sum.inr p.1:Key),V.int p.2)) vs∧h.DictOf (mixKind P w) a vs
section
variable{X:Cx}{o i:Expr}{pos:Pos}{td ty:TE}
end
end L2
namespace L2
open PySem PySem.Spec PyProof.Rows
section
variable{P:Program}{w:World}{K:PySem.W.Frag}{mg:Str→Option Value}{base:Heap}
theorem ps_raiseT{N:List Str}{qual:Str}{scope:Scope}{f:Addr}{cd:Value}{A:Around}{outer:List Env}{s:Shared}{H:Hp}{E:XK}{c:Str}{C fI:Addr}{k:Nat}{fd:FuncData}{ps:List Str}{sp:Sp}{e₀:Expr}{es:List Expr}{np cpos pos:Pos}{ta:TA}
  (M:MkX K C fI) (F:FnOk P w K mg base CX0 k fI fd ps sp) (hr:Room (k+1) (A.deeper (envOfC qual scope s.heap.objs.size f cd))) (hb:Binds K fd ps [])
  (hg:Gl (cxOf (CX1 P w) P w K mg base N qual scope f cd A outer s H E) c) (hm:mg c=some (.ref C)) (ha:PA (cxOf (CX1 P w) P w K mg base N qual scope f cd A outer s H E) (e₀::es) ta)
  (hd:(c==("__debug__":Str))=false:=by decide) (he:starEach (e₀::es) (envOfC qual scope s.heap.objs.size f cd)=(false,eval e₀ (envOfC qual scope s.heap.objs.size f cd))::starEach es (envOfC qual scope s.heap.objs.size f cd):=by rfl)
  (hpl:(backTo cpos (starEach es (envOfC qual scope s.heap.objs.size f cd))).any (·.1)=false:=by rfl) :
  PS (cxOf (CX1 P w) P w K mg base N qual scope f cd A outer s H E) (.Raise (some (.Call (.Name c np) (e₀::es) [] cpos)) none pos)
   (fun _ σ H'=>ta σ H' fun vs H1=>vs.length≤sizeLine∧∀e,H1 e=none→sp (.ref e::vs) (upd H1 e (.ext (excRaw e C none))) (fun v H2=>v=.non∧∃d dd o u,H2 e=some (.ext (excRaw e C d))∧H2 dd=some (.frz o u)∧(∀o' u',H dd≠some (.frz o' u'))∧E (.ref C) d (cut (upd H2 dd u) e)) E0):=by
 intro pins s1 σ H1 D I h
 refine exc_Raise (K:=K) M.ex M.init M.fn (I.ok.hd rfl) ?_ (ld_glob I hg hm ⟨rfl,?_⟩ hd)
 ·show(backTo cpos (starEach (e₀::es) (envOfC qual scope s.heap.objs.size f cd))).any (·.1)=false
  rw [he]
  show(false||(backTo cpos (starEach es (envOfC qual scope s.heap.objs.size f cd))).any (·.1))=false
  rw [hpl]
  rfl
 ·have h2:=ha cpos pins s1 σ H1 _ I h
  show wpAny _ _ (evalArgs (.ref C) true (backTo cpos (starEach (e₀::es) (envOfC qual scope s.heap.objs.size f cd))) []) _ _ _
  rw [show starEach (e₀::es) (cxOf (CX1 P w) P w K mg base N qual scope f cd A outer s H E).env=_ from he] at h2
  rw [he]
  refine Calls.evalArgs_plain (wpAny_mono h2 (fun us s2 ⟨vs,H2,I2,rv,hl,hw⟩=>⟨rfl,?_,I2.kIn,?_⟩) fun _ _ z=>z)
  ·show us.length≤sizeLine
   rw [←rv.length]
   exact hl
  have hn:H2 (s2.heap.objs.size+1)=none:=I2.hok.fresh (Nat.le_succ _)
  have hq:=hw _ hn
  have I3:=I2.laid (a:=s2.heap.objs.size+1) (o:=.ext (excRaw (s2.heap.objs.size+1) C none)) (h':=madeHp s2.heap C us) (t':=s2.toks) made_keeps (Nat.le_succ _) (excRaw_ok ⟨_,made_at⟩)
  have r2:Vals (V.ref (s2.heap.objs.size+1)::vs) (Value.ref (s2.heap.objs.size+1)::us):=.cons rfl rv
  have hlen:(Value.ref (s2.heap.objs.size+1)::us++[]).length=ps.length:=by
   rw [List.append_nil,←r2.length]
   exact F.len _ _ _ _ hq
  have bd:=hb { s2 with heap:=madeHp s2.heap C us,toks:=s2.toks } (Value.ref (s2.heap.objs.size+1)::us) I3.kIn hlen
  rw [List.append_nil] at bd
  refine wpAny_call (codeAny_mono (F.run _ _ _ _ ⟨Value.ref (s2.heap.objs.size+1)::us,[]⟩ _ _ _ _ (hr.make C us []) (I3.env0.make C us []) bd r2 hq) fun r s' hq'=>?_)
  cases r with
  |error e=>exact False.elim hq'
  |ok fl =>
   cases fl with
   |ret u =>
    obtain⟨v,H3,I4,rv4,ev,dd,df,of,uf,hx4,hf,h0,hE⟩:=I3.after hq'
    subst ev
    obtain⟨⟨tt,p4⟩,_,_⟩:=(show ObjOk P w H3 s'.heap _ (.ext (excRaw _ C dd)) from I4.hok _ _ hx4)
    refine⟨rv4,I4.kIn,⟨dd,tt,p4⟩,?_⟩
    have I5:=I4.thaw hf h0
    have hx5:upd H3 df uf (s2.heap.objs.size+1)=some (.ext (excRaw (s2.heap.objs.size+1) C dd)):=by
     rw [upd_ne (fun z=>by rw [z,hf] at hx4;cases hx4)]
     exact hx4
    exact Fly.first (I5.cut hx5) rfl rfl rfl p4 rfl rfl rfl rfl (Heap.get?_none_of_le (Nat.le_trans I2.sz (Nat.le_succ _))) cut_same fun s'' g gd=>⟨_,.ref C,dd,_,rfl,g,gd,hE⟩
   |next=>exact False.elim hq'
   |brk=>exact False.elim hq'
   |cont=>exact False.elim hq'
end
end L2
namespace L2
open PySem PySem.Spec PyProof.Rows
section
variable{prog:Program}{w:World}{A:Around}{E:Value→Shared→Prop}{s:Shared}
end
end L2
namespace L2
open PySem PySem.Spec PyProof.Rows
section
variable{X:Cx}
end
end L2
namespace L2
open PySem PySem.Spec PyProof.Rows
section
variable{X:Cx}
theorem call_list_dK(hc:X.calm=true):CallR X (.type "list") (fun xs H Q=>∃a kvs,xs=[.ref a]∧H a=some (.dK kvs)∧∀l,H l=none→Q (.ref l) (upd H l (.lst (kvs.map fun p=>kV p.1)))):=by
 intro pins s σ H xs us Q I r h
 obtain⟨a,kvs,rfl,ha,q⟩:=h
 obtain⟨u,rfl,ru⟩:=vals1 r
 cases ru
 obtain⟨z,hd,ys,rel,o,es,ep,e,ex,dt,_,prs,_⟩:=dk_of I.hok ha
 have hl1:=prs.length
 have hl2:kvs.length=ys.length:=rel.length
 have hlen:es.size=kvs.length:=by rw [hl2,←hl1];simp
 refine PySem.W.kdl_call (kdl_raw hd) (I.ok.hd hc) ⟨o,e,ex,dt⟩ (by rw [hlen];exact z) fun h' tk acc' c' hk hD hacc=>?_
 have al:acc'.toList.length=kvs.length:=by rw [Array.length_toList,hacc.1,hlen]
 have vr:Vals (kvs.map fun p=>kV p.1) acc'.toList:=by
  have:∀(ks:List V) (us:List Value),ks.length=us.length→(∀(j:Nat) (k:V) (u:Value),ks[j]?=some k→us[j]?=some u→RelV k u)→Vals ks us:=fun ks=>by
   induction ks with
   |nil =>
    intro us hl _
    cases us with
    |nil=>exact .nil
    |cons _ _=>cases hl
   |cons k ks ih =>
    intro us hl hh
    cases us with
    |nil=>cases hl
    |cons u us=>exact .cons (hh 0 k u rfl rfl) (ih us (Nat.succ.inj hl) fun j k' u' h1 h2=>hh (j+1) k' u' h1 h2)
  refine this _ _ (by rw [List.length_map,al]) fun j k u h1 h2=>?_
  rw [List.getElem?_map] at h1
  obtain⟨p,hp,rfl⟩:=Option.map_eq_some_iff.mp h1
  obtain⟨⟨k1,y⟩,hy,ek,_⟩:=pair_get rel hp
  replace ek:p.1=k1:=ek
  obtain⟨en,hen,hu⟩:=hacc.2 j u (by rw [←h2];simp)
  have e1:es.toList[j]?=some en:=by rw [←hen];simp
  rw [hu,ek]
  exact key_rel (prs.get? e1 hy).1
 refine⟨.ref s.heap.objs.size,_,I.laid (o:=.lst (kvs.map fun p=>kV p.1)) hk (Nat.le_refl _) ?_,rfl,q _ (I.hok.fresh (Nat.le_refl _))⟩
 refine⟨by rw [List.length_map];exact z,_,c',vr,?_⟩
 rw [hD]
end
end L2
namespace L2
open PySem PySem.Spec PyProof.Rows PySem.Calls
section
variable{prog:Program}{w:World}{K:Type}[DecidableEq K]{knd:HeapKind prog w K}{A:Around}{E:Value→Shared→Prop}{s:Shared}
end
section
variable{X:Cx}
end
end L2
namespace L2
open PySem PySem.Spec PyProof.Rows PySem.W
section
variable{prog:Program}{w:World}{A:Around}{E:Value→Shared→Prop}{s:Shared}
structure RawG(es:Array DictEntry)(lo:Addr)(h:Heap)(as:List Addr):Prop where
 rise:as.Pairwise (· < ·)
 up:∀a∈as,lo < a
 at':∀(j:Nat) (a:Addr),as[j]?=some a→∃en,es[j]?=some en∧h.get? a=some { cls:=.type "tuple",data:=.seq #[en.key,en.val] }
end
section
variable{prog:Program}{w:World}{A:Around}{s:Shared}{R:Result→Shared→Prop}{es:Array DictEntry}{ep:Nat}
end
section
variable{prog:Program}{w:World}{A:Around}{E:Value→Shared→Prop}{s:Shared}{r d:Addr}{es:Array DictEntry}{ep:Nat}
end
end L2
namespace L2
open PySem PySem.Spec PyProof.Rows
section
variable{X:Cx}
end
section
variable{prog:Program}{w:World}{A:Around}{E:Value→Shared→Prop}{s:Shared}
end
section
variable{X:Cx}{l:Expr}{tl:TE}{p p2 pos pos2:Pos}
end
end L2
namespace L2
open PySem PySem.Spec PyProof.Rows
section
variable{X:Cx}
end
end L2
namespace L2
open PySem PySem.Spec PyProof.Rows
theorem upl_entry:entryFor table "dict.update.loop"=some Builtin.«dict.update.loop»:=entryFor_of_tree (by kernel_rfl)
theorem upl_plain:plainId "dict.update.loop"=true:=by decide +kernel
theorem nokeys_list:typeLookup (.type "list") "keys"=pure none:=by rw [typeLookup_type,builtinLookup_eq_fast];kernel_rfl
section
variable{prog:Program}{w:World}{A:Around}{E:Value→Shared→Prop}{s:Shared}{a:Addr}{xs:Array Value}{k:Nat}{sl:Array (Option Value)}
theorem listKeys_none{Q:Option Value→Shared→Prop} (hx:s.heap.get? a=some { cls:=.type "list",dict:=none,data:=.seq xs k,slots:=sl }) (hA:A.handled=none)
  (h:∀h' tk,(∀b o,s.heap.get? b=some o→h'.get? b=some o)→Q none { s with heap:=h',toks:=tk }):wpAny (model prog w) A (getAttr? (.ref a) "keys") Q E s:=by
 obtain⟨hp,g,d,tk,os⟩:=s
 have hT:∀tk',(⟨hp,g,d,tk',os⟩:Shared).TypeIs (.ref a) "list":=fun _=>⟨_,hx,rfl⟩
 have f1:=sub_AttributeError
 have f3:=F.slot_list_getattribute.lookup
 have f4:=F.slot_list_getattribute.bind (.ref a)
 have f5:=am_list_getattr_none
 unfold getAttr? getAttrBy? getAttrBy
 repeat (any_goals (first|assumption|exact hT _|((with_reducible show wpAny _ _ (call (Value.builtin "list.__getattribute__") _ _) _ _ _);refine call_meets F.slot_list_getattribute (hT _) am_entry_list_getattribute (F.args_list_getattribute_2 _ _) (meets_getattribute_miss_list a xs k sl "keys" _ nokeys_list (by decide +kernel)) ⟨hx,hA,fun h' tk' e hx'=>?_⟩)|wp_step))
 obtain⟨t',u',he⟩:=hx'.there
 show wpAny _ _ (getattributeRaised _ _ _ _ _ _ _) _ _ _
 unfold getattributeRaised
 repeat (any_goals (first|assumption|wp_step))
 exact h _ _ hx'.of.keeps
end
section
variable{X:Cx}{pins:List (Addr × Obj)}{σ:St}
end
end L2
namespace L2
open PySem PySem.Spec PyProof.Rows
section
variable{prog:Program}{w:World}{A:Around}{E:Value→Shared→Prop}{s:Shared}{K:Type}[DecidableEq K]{knd:HeapKind prog w K}
end
section
variable{X:Cx}
end
end L2
namespace L2
open PySem PySem.Spec PyProof.Rows
section
variable{M:Model}{A:Around}{E:Value→Shared→Prop}{s:Shared}
theorem leaves_any{base:Heap}{env:Env}{outer:List Env}{L e:Addr}{cls a0 fl:Value}{Q:Unit→Shared→Prop}(hfr:A.frames=some (env::outer))(hf:env.frame=some L)(k1:base.StaysIn s.heap)(k2:base.get? e=none)(k3:s.heap.FunFrames base (env::outer))(k4:s.heap.TracedAtW base e cls a0 fl)
  (hQ:∀h',Heap.FlyingW base outer e cls a0 h'→s.heap.UpToSlots h'→Q () { s with heap:=h' }):wpAny M A (leaving env (.ref e)) Q E s:=by
 by_cases hfl:(fl==rawInt L)=true
 ·have hfl':fl=rawInt L:=by simpa using hfl
  rw [hfl'] at k4
  unfold leaving
  refine wpAny_bind (wpAny_noteFrame_againW hf k4 ?_)
  refine wpAny_landsW ⟨k1,k2,k3,k4⟩ fun h' hF up=>?_
  obtain⟨j1,j2,⟨_,_,j3⟩,j4⟩:=hF
  exact hQ h' ⟨j1,j2,j3,j4⟩ up
 ·obtain⟨oe,vs,T,oT,ts,he,⟨hcls,h0⟩,hd,h1,hnT,hTe,hT,hdT,h3⟩:=k4
  subst hcls
  unfold leaving noteFrame
  simp only [hf]
  refine wpAny_bind (wpAny_bind (wpAny_field he hd h1 ?_))
  rw [if_pos (show(Value.ref T != Value.none)=true from by simp)]
  refine wpAny_bind (wpAny_field hT hdT h3 ?_)
  rw [if_neg hfl]
  refine wpAny_bind (wpAny_setField hT hdT (Array.getElem?_eq_some_iff.mp h3).1 ?_)
  have other:∀b,b≠T→(s.heap.update T (Obj.mapFields (·.setIfInBounds 3 Value.none))).get? b=s.heap.get? b:=fun b hb=>Heap.get?_update_other _ _ (Ne.symm hb)
  have noRecord:∀b o,s.heap.get? b=some o→(∀vs,o.data≠.fields vs)→b≠T:=fun b o hb hnf q=>by
   rw [q,hT] at hb;injection hb with hb;subst hb;exact hnf ts hdT
  refine wpAny_newEntryW hfr (k3.of_keeps fun b o hb hnf=>⟨o,(other b (noRecord b o hb hnf)).trans hb,rfl⟩) hf ((other e (Ne.symm hTe)).trans he)
   (fun b o hbo=>(other b fun q=>by rw [q,hnT] at hbo;cases hbo).trans (k1 b o hbo)) k2 hd (Array.getElem?_eq_some_iff.mp h1).1 h0
   fun h' ⟨x1,x2,x3,x4⟩=>hQ h' ⟨x1,k2,x2.2.2,x3⟩ fun b o hb hnf=>x4 b o ((other b (noRecord b o hb hnf)).trans hb) hnf
theorem setFlight_any{base:Heap}{l:List Env}{e:Addr}{cls a0 fl:Value}{fr:Option Addr}{Q:Unit→Shared→Prop}
  (hkb:base.StaysIn s.heap) (hl:s.heap.FunFrames base l) (ht:s.heap.TracedAtW base e cls a0 fl)
  (h:∀h',base.StaysIn h'→h'.FunFrames base l→h'.TracedAtW base e cls a0 (fr.elim Value.none fun f=>rawInt f)→(∀b o,s.heap.get? b=some o→(∀vs,o.data≠.fields vs)→h'.get? b=some o)→Q () { s with heap:=h' }) :
  wpAny M A (setFlight (.ref e) fr) Q E s:=by
 obtain⟨oe,vs,T,oT,ts,he,hcls,hd,h1,hnT,hTe,hT,hdT,h3⟩:=ht
 have hsz3:3 < ts.size:=(Array.getElem?_eq_some_iff.mp h3).1
 have other:∀b,b≠T→(s.heap.update T (Obj.mapFields (·.setIfInBounds 3 (fr.elim Value.none fun f=>rawInt f)))).get? b=s.heap.get? b :=
  fun b hb=>Heap.get?_update_other _ _ (Ne.symm hb)
 have noRecord:∀b o,s.heap.get? b=some o→(∀vs,o.data≠.fields vs)→b≠T:=fun b o hb hnf q=>by
  rw [q,hT] at hb;injection hb with hb;subst hb;exact hnf ts hdT
 unfold setFlight
 refine wpAny_bind (wpAny_field he hd h1 ?_)
 rw [if_pos (show(Value.ref T != Value.none)=true from by simp)]
 refine wpAny_setField hT hdT hsz3 (h _ (fun b o hbo=>(other b fun q=>by rw [q,hnT] at hbo;cases hbo).trans (hkb b o hbo))
  (hl.of_keeps fun b o hb hnf=>⟨o,(other b (noRecord b o hb hnf)).trans hb,rfl⟩) ?_ fun b o hb hnf=>(other b (noRecord b o hb hnf)).trans hb)
 exact⟨oe,vs,T,_,_,(other e (Ne.symm hTe)).trans he,hcls,hd,h1,hnT,hTe,Heap.get?_update_self _ hT (Obj.isFreed_of_fields (Obj.data_mapFields hdT _)),Obj.data_mapFields hdT _,by simp [hsz3]⟩
end
theorem frames_but{B h1 h2:Heap}{C:Addr}(sb:Heap.SameBut C h1 h2):∀{l:List Env},h1.FunFrames B l→C∉frs l→h2.FunFrames (PySem.W.hideAll B [C]) l
 |[],_,_=>trivial
 |env::r,⟨hk,⟨L,o,hf,hn,ho,hd⟩,hr⟩,hne=>by
  have eq:frs (env::r)=L::frs r:=by
   unfold frs
   rw [List.filterMap_cons,hf]
  rw [eq] at hne
  refine⟨hk,⟨L,o,hf,?_,(sb.2 L fun z=>hne (by rw [z];exact .head _)).trans ho,hd⟩,frames_but sb hr fun z=>hne (.tail _ z)⟩
  cases q:(PySem.W.hideAll B [C]).get? L with
  |none=>rfl
  |some u=>rw [PySem.W.of_hideAll _ q] at hn;cases hn
section
variable{X:Cx}{pins:List (Addr × Obj)}{σ:St}{H H':Hp}{s s':Shared}{x C:Addr}{cls:Value}{d:Option Addr}
theorem Fly.comp{m0:Str→Option Value}{cenv0:Env}(I:Inv X pins σ H s)(hst:X.stack=X.env::X.outer)(hfr:X.env.frame=some X.env.locals)(hex:X.ex=[])(f:Fly X.prog X.w X.stack H s x cls H' s')(hdi:DictIs x d s')
  (hC0:X.s₀.heap.get? C=none) (hCs:s.heap.Ns C m0) (hCn:H C=none) (hCf:C∉frs X.stack) (hcf:cenv0.frame=X.env.frame)
  (hxe:∀s,wpAny (model X.prog X.w) X.A (leaving X.env (.ref x)) (fun _ s''=>Fly X.prog X.w X.outer X.H₀ X.s₀ x cls H' s''∧DictIs x d s'') (fun _ _=>False) s→X.xe (.ref x) s) {Qe:Value→Shared→Prop} {acc:Value} :
  notedBy (model X.prog X.w) X.A cenv0 (fun x' s''=>compPost (model X.prog X.w) X.A X.xe none Qe acc C (.error x') s'') (.ref x) s':=by
 obtain⟨B,a0,fl,c1,c2⟩:=f.fl
 rw [hst] at fl
 have nx:∀b:Addr,b∉X.ex:=fun b=>by rw [hex];simp
 obtain⟨oC,es,ep,hoC,hdC,rC⟩:=hCs
 have keepC:s'.heap.get? C=some oC:=f.un.keep C oC hoC hCn hCf (by simp)
 have hCH':H' C=none:=f.un.free C oC hoC hCn (by simp)
 obtain⟨uC,huC⟩:=c2 C oC hoC hCf
 have hxC:x≠C:=fun z=>by have q:=fl.2.1;rw [z,huC] at q;cases q
 unfold notedBy
 rw [show noteFrame (.ref x) cenv0=noteFrame (.ref x) X.env from by unfold noteFrame PySem.frameOf;rw [hcf]]
 refine wpAny_mono (Keeps.note.wpAny (Q:=fun _ s''=>∃h1,s''={ s' with heap:=h1 }∧Heap.HeldW B (X.env::X.outer) x cls a0 X.env.locals h1∧s'.heap.UpToSlots h1) (E:=fun _ _=>False) hdi (wpAny_looks_onW (by rw [I.ok.frames,hst]) hfr fl fun h1 hh up=>⟨h1,rfl,hh,up⟩)) (fun _ s'' ⟨⟨h1,e1,hh,up⟩,hdi1⟩=>?_) (fun _ _ z=>z.1.elim)
 subst e1
 refine⟨m0,up.ns ⟨oC,es,ep,keepC,hdC,rC⟩,fun h2 sb cenv _=>?_⟩
 obtain⟨g1,g2,g3,g4⟩:=hh
 have stB:(PySem.W.hideAll B [C]).StaysIn h2:=fun b o e=>by
  have hb:b≠C:=fun z=>by rw [z,PySem.W.hideAll_none _ (.head _)] at e;cases e
  exact(sb.2 b hb).trans (g1 b o (PySem.W.of_hideAll _ e))
 have nB:∀b,B.get? b=none→(PySem.W.hideAll B [C]).get? b=none:=fun b hb=>by
  cases q:(PySem.W.hideAll B [C]).get? b with
  |none=>rfl
  |some u=>rw [PySem.W.of_hideAll _ q] at hb;cases hb
 have fr2:h2.FunFrames (PySem.W.hideAll B [C]) (X.env::X.outer):=frames_but sb g3 (by rw [←hst];exact hCf)
 obtain⟨oe,vs,T,oT,ts,he,hcl,hd,q1,hnT,hTe,hT,hdT,q3⟩:=g4
 have hTC:T≠C:=fun z=>by rw [z,huC] at hnT;cases hnT
 have tr2:h2.TracedAtW (PySem.W.hideAll B [C]) x cls a0 (rawInt X.env.locals):=⟨oe,vs,T,oT,ts,(sb.2 x hxC).trans he,hcl,hd,q1,nB T hnT,hTe,(sb.2 T hTC).trans hT,hdT,q3⟩
 have hdi2:DictIs x d { s' with heap:=h2 }:=by
  obtain⟨ob,e,hb⟩:=hdi1
  exact⟨ob,(sb.2 x hxC).trans e,hb⟩
 unfold PySem.passOn
 refine wpAny_bind (wpAny_field (s:={ s' with heap:=h2 }) ((sb.2 x hxC).trans he) hd q1 ?_)
 rw [if_neg (show ¬((Value.ref T==Value.none)=true) from by simp)]
 refine wpAny_bind (wpAny_mono (Keeps.flight.wpAny (Q:=fun _ s3=>∃h3 fl3,s3={ s' with heap:=h3 }∧(PySem.W.hideAll B [C]).StaysIn h3∧h3.FunFrames (PySem.W.hideAll B [C]) (X.env::X.outer)∧h3.TracedAtW (PySem.W.hideAll B [C]) x cls a0 fl3∧h2.UpToSlots h3) (E:=fun _ _=>False) hdi2 (setFlight_any stB fr2 tr2 fun h3 j1 j2 j3 j4=>⟨h3,_,rfl,j1,j2,j3,fun b o e hn=>⟨o.slots,j4 b o e hn⟩⟩)) (fun _ s3 ⟨⟨h3,fl3,e3,j1,j2,j3,j4⟩,hdi3⟩=>?_) (fun _ _ z=>z.1.elim))
 subst e3
 refine wpAny_throw (hxe _ ?_)
 refine wpAny_mono (Keeps.leave.wpAny (Q:=fun _ s4=>Fly X.prog X.w X.outer X.H₀ X.s₀ x cls H' s4) (E:=fun _ _=>False) hdi3 (leaves_any (by rw [I.ok.frames,hst]) hfr j1 (nB x g2) j2 j3 fun h4 fl4 up4=>?_)) (fun _ s4 z=>z) (fun _ _ z=>z.1)
 have st:∀b o,B.get? b=some o→b≠C→h4.get? b=some o:=fun b o e hb=>fl4.1 b o (PySem.W.hideAll_get _ e (by simpa using hb))
 have same:∀b u v,B.get? b=some u→s'.heap.get? b=some v→u=v:=fun b u v h1 h2=>by
  have h3:=fl.1 b u h1
  rw [h2] at h3
  exact(Option.some.inj h3).symm
 have oldC:∀b o,X.s₀.heap.get? b=some o→b≠C:=fun b o e z=>by rw [z,hC0] at e;cases e
 have trkC:∀b o,H' b=some o→b≠C:=fun b o e z=>by rw [z,hCH'] at e;cases e
 have upAll:∀b o,b≠C→s'.heap.get? b=some o→(∀vs,o.data≠.fields vs)→∃sl,h4.get? b=some { o with slots:=sl }:=fun b o hb e hn=>by
  obtain⟨s1,e1⟩:=up b o e hn
  obtain⟨s2,e2⟩:=j4 b _ ((sb.2 b hb).trans e1) hn
  obtain⟨s3,e3⟩:=up4 b _ e2 hn
  exact⟨s3,e3⟩
 have slot:∀b o,X.s₀.heap.get? b=some o→X.H₀ b=none→b∈X.fs→∃sl,h4.get? b=some { o with slots:=sl }:=fun b o e n hb=>by
  obtain⟨sl,e1⟩:=I.base.slot b o e n hb (nx b)
  obtain⟨sl2,e2⟩:=f.un.any e1 (I.base.free b o e n (nx b)) (by simp)
  obtain⟨_,of,ho,hnf⟩:=I.ok.funs.mem hb
  rw [e] at ho
  cases ho
  obtain⟨sl3,e3⟩:=upAll b _ (oldC b o e) e2 hnf
  exact⟨sl3,e3⟩
 refine⟨f.os.trans I.os,f.bare,⟨fun b o e n hb _=>?_,fun b o e n hb _=>slot b o e n hb,fun b o e n _=>?_,fun b o e _=>?_,fun b xs e=>f.un.tups b xs (I.base.tups b xs e),fun b o u e=>f.un.frzs b o u (I.base.frzs b o u e),fun b ps e=>?_⟩,fun a o e=>?_,⟨_,a0,fl4,fun b o e=>?_,fun b o e hb=>?_⟩,f.free⟩
 ·have e1:=I.base.keep b o e n hb (nx b)
  have n1:=I.base.free b o e n (nx b)
  have hb':=I.notSt (I.oldL e) hb
  have e2:=f.un.keep b o e1 n1 hb' (by simp)
  obtain⟨u,hu⟩:=c2 b o e1 hb'
  exact same b u o hu e2▸st b u hu (oldC b o e)
 ·obtain⟨o',e1⟩:=I.base.there b o e (nx b)
  exact f.un.free b o' e1 (I.base.free b o e n (nx b)) (by simp)
 ·by_cases hb:b∈X.fs
  ·obtain⟨sl,e1⟩:=slot b o e (I.ok.frf b hb) hb
   exact⟨_,e1⟩
  ·obtain⟨o',e1⟩:=I.base.there b o e (nx b)
   obtain⟨u,hu⟩:=c2 b o' e1 (I.notSt (I.oldL e) hb)
   exact⟨u,st b u hu (oldC b o e)⟩
 ·obtain⟨m1,e1⟩:=I.base.tbls b ps e
  obtain⟨m2,e2⟩:=f.un.tbls b _ e1
  exact⟨m1++m2,by rw [e2,Array.append_assoc]⟩
 ·refine(f.hok a o e).stay (fun b u hb q=>?_) (fun _ q=>q) fun _ _ q=>q
  have t:∃o',H' b=some o':=by
   rcases hb with z|z
   ·exact⟨o,by rw [z];exact e⟩
   ·exact⟨_,z⟩
  obtain⟨o',e'⟩:=t
  obtain⟨v,hv⟩:=c1 b o' e'
  exact same b v u hv q▸st b v hv (trkC b o' e')
 ·obtain⟨u,hu⟩:=c1 b o e
  exact⟨u,PySem.W.hideAll_get _ hu (by simpa using trkC b o e)⟩
 ·obtain⟨o',e1⟩:=I.base.there b o e (nx b)
  obtain⟨u,hu⟩:=c2 b o' e1 (I.notSt (I.oldL e) hb)
  exact⟨u,PySem.W.hideAll_get _ hu (by simpa using oldC b o e)⟩
theorem Inv.unblock0{own caps:List Str}{sc:Scope}{cl:List (Str × Addr)}{fp:List Addr}{H':Hp}{s4:Shared}{σ':St}{pins':List (Addr × Obj)}{hp:Heap}{ol:Obj}(I:Inv X pins σ H s)
  (f2:∀b∈fp,FpOk X pins H b) (ehp:hp=s.heap.push ol)
  (J:Inv (blk X (own++caps) sc cl { s with heap:=hp } H hp.objs.size (s.heap.objs.size::fp)) pins' σ' H' s4):Inv X pins σ H' s4:=by
 have up:∀b o,s.heap.get? b=some o→hp.get? b=some o:=fun b o e=>by rw [ehp];exact Heap.get?_push_of_some _ e
 have neD:∀b o,s.heap.get? b=some o→b≠s.heap.objs.size:=fun b o e=>Nat.ne_of_lt (Heap.lt_size e)
 have nex:∀b o,s.heap.get? b=some o→b∉fp→b∉s.heap.objs.size::fp:=fun b o e hb z=>(List.mem_cons.mp z).elim (neD b o e) hb
 have u:=J.base
 refine I.call' (ch:=fp) J.os ⟨fun b o e n hb hx=>u.keep b o (up _ _ e) n hb (nex b o e hx),fun b o e n hb hx=>u.slot b o (up _ _ e) n hb (nex b o e hx),fun b o e n hx=>u.free b o (up _ _ e) n (nex b o e hx),fun b o e hx=>u.there b o (up _ _ e) (nex b o e hx),u.tups,u.frzs,u.tbls⟩ J.hok J.bare fun b hb=>?_
 obtain⟨_,f1,_,f3,f4,f5⟩:=f2 b hb
 exact⟨f3,f1,f4,f5⟩
end
section
variable{X:Cx}
theorem pe_compGX{tg elt iter:Expr}{ifs:List Expr}{own caps:List Str}{κ:List Nat}{sc:Scope}{cl:List (Str × Addr)}{pos:Pos}{wi:TI}{g:TG}{tc:TT}{te:TE}{E:XK}(hst:X.stack=X.env::X.outer)(hfr:X.env.frame=some X.env.locals)(hex:X.ex=[])(hpn:X.pn=[])
  (hxe:∀(x:Addr) (cls:Value) (d:Option Addr) (H':Hp) (s:Shared),E cls d H'→wpAny (model X.prog X.w) X.A (leaving X.env (.ref x)) (fun _ s''=>Fly X.prog X.w X.outer X.H₀ X.s₀ x cls H' s''∧DictIs x d s'') (fun _ _=>False) s→X.xe (.ref x) s) (hcalm:X.calm=true) (S:BlkSc X caps sc cl) (hκ:κ.map (fun k=>X.N[k]?)=caps.map some)
  (hi:PI X tg iter wi) (hg:∀s₀ H₀ C ex xe,PG ((blk X (own++caps) sc cl s₀ H₀ C ex).wish xe) tg g)
  (hc:∀s₀ H₀ C ex xe (pins:List (Addr × Obj)) (s:Shared) (σ:St) (H:Hp) (Q:Bool→Hp→Prop),Inv ((blk X (own++caps) sc cl s₀ H₀ C ex).wish xe) pins σ H s→tc σ H Q →
   wpAny (model X.prog X.w) X.A (forIn ifs true fun c r=>if r=true then do let ok ←isTrue c (compEnvC sc cl C X.env) (eval c (compEnvC sc cl C X.env));pure (ForInStep.yield ok) else pure (ForInStep.yield r)) (TP ((blk X (own++caps) sc cl s₀ H₀ C ex).wish xe) pins σ Q) (fun _ _=>False) s)
  (he:∀s₀ H₀ C ex xe,Passes (CX1 X.prog X.w) ((blk X (own++caps) sc cl s₀ H₀ C ex).wish xe) E→PE ((blk X (own++caps) sc cl s₀ H₀ C ex).wish xe) elt te)
  (hs:∀x,foldedSetIterable iter X.env x=pure x:=by intro _;rfl):PE X (.ListComp elt [⟨tg,iter,ifs,0⟩] sc pos) (tComp own.length κ wi g tc te):=by
 intro pins s σ H Q I h
 rw [eval_ListComp]
 refine wpAny_comprehension_free (use:=none) rfl hs S.clos S.kind S.names (thn (hi pins s σ H _ I h) fun v s1 h1=>thn h1 fun itv s2 h2=>?_)
 obtain⟨it,fp,tn,J,H2,e,I2,T,st2,f2,W,⟨m0,w0⟩,turn⟩:=h2
 subst e
 have hfp:∀b∈fp,b < s2.heap.objs.size:=fun b hb=>by
  obtain⟨o,e,_⟩:=T.obj _ _ st2 b hb
  exact Heap.lt_size e
 refine wpAny_newObj_type (wpAny_newFunctionEnv S.nocell (fun y hy=>nomatch hy) (fun h₁ hns hsb=>?_) S.kind)
 generalize ehp:s2.heap.push { cls:=.type "list",dict:=none,data:=.seq ([]:List Value).toArray }=hp at hns hsb ⊢
 have hsz:hp.objs.size=s2.heap.objs.size+1:=by rw [←ehp,Heap.size_push]
 have hDC:s2.heap.objs.size≠hp.objs.size:=by rw [hsz];exact Nat.ne_of_lt (Nat.lt_succ_self _)
 have old:∀b o,hp.get? b=some o→h₁.get? b=some o:=fun b o e=>(hsb.2 b (Nat.ne_of_lt (Heap.lt_size e))).trans (Heap.get?_push_of_some _ e)
 have eD:h₁.get? s2.heap.objs.size=some { cls:=.type "list",data:=.seq ([]:List Value).toArray }:=old _ _ (by rw [←ehp];exact Heap.get?_push_size _ rfl)
 obtain⟨xe0,hx0⟩:∃xe0,xe0=notedBy (model X.prog X.w) X.A (compEnvC sc cl hp.objs.size X.env) (fun x s'=>compPost (model X.prog X.w) X.A X.xe none (EP X pins σ Q) (.ref s2.heap.objs.size) hp.objs.size (.error x) s'):=⟨_,rfl⟩
 have I0:=(Inv.block (own:=own) (h₁:=h₁) (tk:=s2.toks+([]:List (Str × Value)).length) S hκ I2 f2 hfp ehp.symm hns old).wish xe0
 have stkD:s2.heap.objs.size∉frs X.stack:=fun z=>(List.mem_cons.mp (I2.stkSub _ z)).elim (Nat.ne_of_gt I2.lt) (I2.nofs (Nat.le_refl _))
 have cellD:∀x c,cl.lookup x=some c→c≠s2.heap.objs.size:=fun x c q=>by
  obtain⟨v,z⟩:=I2.cell x c (S.subc q)
  exact Nat.ne_of_lt z.lt
 have pinD:∀p∈X.pn++pins,p.1≠s2.heap.objs.size:=fun p hp=>Nat.ne_of_lt (Heap.lt_size (I2.pin p hp).1)
 have stkF:∀b∈fp,b∉frs X.stack:=fun b hb z=>(List.mem_cons.mp (I2.stkSub _ z)).elim (f2 b hb).2.1 (f2 b hb).2.2.1
 have hps:Passes (CX1 X.prog X.w) ((blk X (own++caps) sc cl { s2 with heap:=hp } H2 hp.objs.size (s2.heap.objs.size::fp)).wish xe0) E:=by
  intro pins' σ' H1 s1 e s' J z
  obtain⟨x,cls,d,H',rfl,fl,hdi,hE⟩:=z
  obtain⟨m,hm,_⟩:=J.loc
  have hsz0:X.s₀.heap.objs.size≤s2.heap.objs.size:=I2.sz
  rw [hx0]
  exact Fly.comp (C:=hp.objs.size) (cenv0:=compEnvC sc cl hp.objs.size X.env) (Inv.unblock0 I2 f2 ehp.symm J.unwish) hst hfr hex fl hdi (by
   cases q:X.s₀.heap.get? hp.objs.size with
   |none=>rfl
   |some o=>exact absurd (Nat.lt_of_lt_of_le (Heap.lt_size q) hsz0) (by rw [hsz];exact Nat.not_lt.mpr (Nat.le_succ _))) hm J.free (fun z=>by
    have:=(List.mem_cons.mp (I2.stkSub _ z)).elim (fun e=>Nat.ne_of_gt (Nat.lt_trans I2.lt (by rw [hsz];exact Nat.lt_succ_self _)) e) (I2.nofs (by rw [hsz];exact Nat.le_succ _))
    exact this) rfl (fun s h=>hxe x cls d H' s hE h)
 have loop:codeAny (model X.prog X.w) X.A (.compLoop (.ListComp elt [⟨tg,iter,ifs,0⟩] sc pos) 0 (.ref it) (.ref s2.heap.objs.size) (compEnvC sc cl hp.objs.size X.env))
   (compPost (model X.prog X.w) X.A X.xe none (EP X pins σ Q) (.ref s2.heap.objs.size) hp.objs.size) { s2 with heap:=h₁,toks:=s2.toks+([]:List (Str × Value)).length }:=by
  refine codeAny_loop rfl (fun n s'=>∃(i:Nat) (ys:List V) (its:List Value) (cap:Nat) (H':Hp),Inv ((blk X (own++caps) sc cl { s2 with heap:=hp } H2 hp.objs.size (s2.heap.objs.size::fp)).wish xe0) pins (blkSt own.length κ σ) H' s'∧tn i s'.heap∧(∀b∈fp,H' b=none) ∧
   s'.heap.get? s2.heap.objs.size=some { cls:=.type "list",data:=.seq its.toArray cap }∧H' s2.heap.objs.size=none∧Vals ys its∧ys.length≤sizeLine∧W i n ys H') (fun n s3 hI=>?_) m0
   ⟨0,[],[],0,H2,I0,T.keep _ _ _ st2 fun b hb o e=>old _ _ (by rw [←ehp];exact Heap.get?_push_of_some _ e),fun b hb=>(f2 b hb).1,eD,I2.hok.fresh (Nat.le_refl _),.nil,Nat.zero_le _,w0⟩
  obtain⟨i,ys,its,cap,H3,I3,st3,fr3,eD3,nD3,rv,hz,w3⟩:=hI
  show wpAny _ X.A ((compTurn (.ListComp elt [⟨tg,iter,ifs,0⟩] sc pos) 0 (.ref it) (.ref s2.heap.objs.size) (compEnvC sc cl hp.objs.size X.env)).onRaise fun x=>do noteFrame x (compEnvC sc cl hp.objs.size X.env);theTreesLotGoes x) _ _ s3
  refine wpAny_noted ?_
  rw [compTurn_list]
  have I3':Inv ((blk X (own++caps) sc cl { s2 with heap:=hp } H2 hp.objs.size (s2.heap.objs.size::fp)).wish xe0) (pins++[(s2.heap.objs.size,{ cls:=.type "list",data:=.seq its.toArray cap })]) (blkSt own.length κ σ) H3 s3:=by
   refine I3.pins_of fun p hp=>(List.mem_append.mp hp).elim (fun z=>I3.pin p (List.mem_append_right _ z)) fun z=>?_
   obtain rfl:=List.mem_singleton.mp z
   exact⟨eD3,nD3,hDC,stkD,fun v q=>by cases q⟩
  have fpk:∀{H':Hp},(∀b∈fp,H' b=none)→∀b∈fp,FpOk ((blk X (own++caps) sc cl { s2 with heap:=hp } H2 hp.objs.size (s2.heap.objs.size::fp)).wish xe0) (pins++[(s2.heap.objs.size,{ cls:=.type "list",data:=.seq its.toArray cap })]) H' b:=fun {H'} hn b hb =>
   ⟨hn b hb,by show b≠hp.objs.size;rw [hsz];exact Nat.ne_of_lt (Nat.lt_succ_of_lt (hfp b hb)),stkF b hb,.inl (List.mem_cons_of_mem _ hb),fun x c q=>(f2 b hb).2.2.2.2.1 x c (S.subc q),fun p hp=>by
    rw [←List.append_assoc] at hp
    rcases List.mem_append.mp hp with z|z
    ·exact(f2 b hb).2.2.2.2.2 p z
    ·obtain rfl:=List.mem_singleton.mp z
     exact Nat.ne_of_gt (hfp b hb)⟩
  rcases turn i n ys H3 w3 with ⟨stop,fin⟩|⟨go,hlt,step⟩
  ·refine wpAny_bind (wpAny_standAt (wpAny_bind (thn (T.done ((blk X (own++caps) sc cl { s2 with heap:=hp } H2 hp.objs.size (s2.heap.objs.size::fp)).wish xe0) rfl rfl rfl hcalm i _ s3 _ H3 _ I3' (fpk fr3) st3 stop) fun r s4 ⟨hr,I4⟩=>?_)))
   subst hr
   refine wpAny_pure ?_
   obtain⟨m,hm,_⟩:=I4.loc
   refine⟨m,hm,fun h' sb=>?_⟩
   have eD4:=(I4.pin (s2.heap.objs.size,{ cls:=.type "list",data:=.seq its.toArray cap }) (List.mem_append_right _ (List.mem_append_right _ (List.mem_singleton.mpr rfl)))).1
   exact⟨.ref s2.heap.objs.size,_,Inv.unblock I2 f2 ehp.symm I4.unwish eD4 nD3 rv hz sb,rfl,fin _ nD3⟩
  ·refine wpAny_bind (wpAny_standAt (wpAny_bind (thn (T.item ((blk X (own++caps) sc cl { s2 with heap:=hp } H2 hp.objs.size (s2.heap.objs.size::fp)).wish xe0) rfl rfl rfl hcalm i _ s3 _ H3 _ I3' (fpk fr3) st3 go) fun r s4 ⟨u,hr,h4⟩=>?_)))
   subst hr
   refine wpAny_bind (thn h4 fun _ s5 ⟨x,H5,I5,r5,y5,st5,fr5⟩=>?_)
   have I5':=I5.pinned (fpk fr5) (T.obj _ _ st5)
   refine wpAny_bind (wpAny_mono (hg _ _ _ _ _ _ s5 _ H5 x u _ I5' r5 (step x H5 y5)) (fun _ s6 ⟨σ6,H6,I6,eσ,q6⟩=>?_) fun _ _ z=>hx0▸z)
   refine wpAny_bind (wpAny_mono (hc _ _ _ _ _ _ s6 σ6 H6 _ I6 q6) (fun ok s7 ⟨H7,I7,q7⟩=>?_) fun _ _ z=>z.elim)
   have back:∀{s8:Shared} {H8:Hp},Inv ((blk X (own++caps) sc cl { s2 with heap:=hp } H2 hp.objs.size (s2.heap.objs.size::fp)).wish xe0) ((pins++[(s2.heap.objs.size,{ cls:=.type "list",data:=.seq its.toArray cap })])++pinsAt fp s5.heap) σ6 H8 s8 →
     Inv ((blk X (own++caps) sc cl { s2 with heap:=hp } H2 hp.objs.size (s2.heap.objs.size::fp)).wish xe0) pins (blkSt own.length κ σ) H8 s8∧tn (i+1) s8.heap∧(∀b∈fp,H8 b=none)∧s8.heap.get? s2.heap.objs.size=some { cls:=.type "list",data:=.seq its.toArray cap }∧H8 s2.heap.objs.size=none:=by
    intro s8 H8 I8
    have pk:∀b∈fp,∀o,s5.heap.get? b=some o→s8.heap.get? b=some o∧H8 b=none:=fun b hb o e=>by
     have z:=I8.pin (b,o) (List.mem_append_right _ (List.mem_append_right _ (mem_pinsAt hb e)))
     exact⟨z.1,z.2.1⟩
    have zD:=I8.pin (s2.heap.objs.size,{ cls:=.type "list",data:=.seq its.toArray cap }) (List.mem_append_right _ (List.mem_append_left _ (List.mem_append_right _ (List.mem_singleton.mpr rfl))))
    refine⟨(I8.pins_of fun p hp=>I8.pin p (List.mem_append_right _ (List.mem_append_left _ (List.mem_append_left _ hp)))).weak ?_ fun j v e=>?_,T.keep _ _ _ st5 fun b hb o e=>(pk b hb o e).1,fun b hb=>?_,zD.1,zD.2.1⟩
    ·exact I3.len.trans I8.len.symm
    ·have hge:own.length≤j:=by
      refine Nat.le_of_not_lt fun q=>?_
      unfold blkSt at e
      rw [List.getElem?_append_left (by rw [List.length_replicate];exact q),List.getElem?_replicate,if_pos q] at e
      cases e
     have z:=congrArg (fun l=>l[j - own.length]?) eσ
     simp only [List.getElem?_drop] at z
     rw [show own.length+(j - own.length)=j by omega] at z
     rw [z]
     exact e
    ·obtain⟨o,e,_⟩:=T.obj _ _ st5 b hb
     exact(pk b hb o e).2
   cases ok with
   |false =>
    obtain⟨m',hm,w7⟩:=(if_neg Bool.false_ne_true)▸q7
    obtain⟨I8,st8,fr8,e8,n8⟩:=back I7
    exact wpAny_pure ⟨rfl,m',hm,i+1,ys,its,cap,H7,I8,st8,fr8,e8,n8,rv,hz,w7⟩
   |true =>
    have q7':=(if_pos rfl)▸q7
    refine wpAny_bind (wpAny_bind (wpAny_mono (he _ _ _ _ _ hps _ s7 σ6 H7 _ I7 q7') (fun y s8 ⟨v8,H8,I8,r8,m',hm,w8⟩=>?_) fun _ _ z=>hx0▸z))
    obtain⟨I9,st9,fr9,e9,n9⟩:=back I8
    have hl:=rv.length
    refine wpAny_bind (wpAny_list_append_plain (items:=its.toArray) ⟨cap,e9⟩ (fun h' hl' sb=>?_) (by rw [List.size_toArray,←hl];exact hz))
    obtain⟨cap',e'⟩:=hl'
    refine wpAny_pure (wpAny_pure ⟨rfl,m',hm,i+1,ys++[v8],its++[y],cap',H8,?_,?_,fr9,?_,n9,Vals.append rv (.cons r8 .nil),?_,w8⟩)
    ·exact I9.turned (t':=s8.toks) (fun b o hb e=>(sb.2 b hb).trans e) n9 hDC (.inl List.mem_cons_self) cellD pinD
    ·exact T.keep _ _ _ st9 fun b hb o e=>(sb.2 b (Nat.ne_of_lt (hfp b hb))).trans e
    ·rw [e']
     congr 3
     simp
    ·rw [List.length_append]
     exact hlt
 exact codeAny_compStart_list loop (T.self _ 0 _ _ _ (T.keep _ _ _ st2 fun b hb o e=>old _ _ (by rw [←ehp];exact Heap.get?_push_of_some _ e)) loop)
end
section
variable{P:Program}{w:World}{K:PySem.W.Frag}{mg:Str→Option Value}{base:Heap}{N:List Str}{qual:Str}{scope:Scope}{f:Addr}{cd:Value}{A:Around}{outer:List Env}{s:Shared}{H:Hp}{E:XK}
theorem pe_compX{tg elt iter:Expr}{own caps:List Str}{κ:List Nat}{sc:Scope}{cl:List (Str × Addr)}{pos:Pos}{wi:TI}{g:TG}{te:TE}(S:BlkSc (cxOf (CX1 P w) P w K mg base N qual scope f cd A outer s H E) caps sc cl)(hκ:κ.map (fun k=>N[k]?)=caps.map some)
  (hi:PI (cxOf (CX1 P w) P w K mg base N qual scope f cd A outer s H E) tg iter wi) (hg:∀s₀ H₀ C ex xe,PG ((blk (cxOf (CX1 P w) P w K mg base N qual scope f cd A outer s H E) (own++caps) sc cl s₀ H₀ C ex).wish xe) tg g)
  (he:∀s₀ H₀ C ex xe,Passes (CX1 P w) ((blk (cxOf (CX1 P w) P w K mg base N qual scope f cd A outer s H E) (own++caps) sc cl s₀ H₀ C ex).wish xe) E→PE ((blk (cxOf (CX1 P w) P w K mg base N qual scope f cd A outer s H E) (own++caps) sc cl s₀ H₀ C ex).wish xe) elt te)
  (hs:∀x,foldedSetIterable iter (envOfC qual scope s.heap.objs.size f cd) x=pure x:=by intro _;rfl):PE (cxOf (CX1 P w) P w K mg base N qual scope f cd A outer s H E) (.ListComp elt [⟨tg,iter,[],0⟩] sc pos) (tComp own.length κ wi g tYes te) :=
 pe_compGX (X:=cxOf (CX1 P w) P w K mg base N qual scope f cd A outer s H E) (E:=E) rfl rfl rfl rfl (fun x cls d H' s hE h=>wpAny_mono h (fun _ s'' z=>⟨x,cls,d,H',rfl,z.1,z.2,hE⟩) (fun _ _ z=>z.elim)) rfl S hκ hi hg (fun s₀ H₀ C ex xe pins s σ H Q I h=>wpAny_tests_nil ⟨H,I,h⟩) he hs
end
end L2
namespace L2
open PySem PySem.Spec PyProof.Rows
section
variable{X:Cx}
end
def putsK(acc:List (Key × V))(ps:List (Key × V)):List (Key × V):=ps.foldl (fun r p=>putK r p.1 p.2) acc
section
variable{X:Cx}{pins:List (Addr × Obj)}{σ:St}
theorem uplK_run{A:Around}(hh:A.handled=none)(hu:A.units+2 < cLine){l it d:Addr}{R:Result→Shared→Prop}{as:List Addr}{ps:List (Key × V)}{H:Hp}(hd:H d=none)(hdi:d≠it)(hl:H l=some (.lst (as.map V.ref)))
  (hps:Paired (fun(p:Key × V) (a:Addr)=>H a=some (.tup [kV p.1,p.2])) ps as) (fo:FpOk X pins H it):∀(n i:Nat) (s:Shared) (acc:List (Key × V)) (t:Tok),as.length - i=n→i≤as.length →
   Inv X pins σ (upd H d (.dK acc)) s→s.heap.IsListIter it l i→acc.length+n < sizeLine→(∀s',Inv X pins σ (upd H d (.dK (putsK acc (ps.drop i)))) s'→R (.ok (.ret .none)) s') →
   codeAny (model X.prog X.w) A (.builtin "dict.update.loop" ⟨[.ref d,.ref it,.int i t,.none],[]⟩) R s:=by
 have hlen:ps.length=as.length:=hps.length
 have hnd:∀{b:Addr} {o:HO},H b=some o→b≠d:=fun e z=>by rw [z,hd] at e;cases e
 obtain⟨f0,f1,f2,f3,f4,f5⟩:=fo
 intro n
 induction n with
 |zero =>
  intro i s acc t hn hi I st hz hR
  have hl':upd H d (.dK acc) l=some (.lst (as.map V.ref)):=by rw [upd_ne (hnd hl)];exact hl
  obtain⟨its,rv,p,_⟩:=I.list (a:=l) (xs:=as.map V.ref) (.inl (.inl hl'))
  have hlv:=rv.length
  rw [List.length_map] at hlv
  refine codeAny_builtin upl_entry ?_
  rw [Around.under_plainId upl_plain]
  refine(show wpAny _ A.in1 (pyNext (.ref it) >>= _) _ _ s from wpAny_bind (wpAny_pyNext_list_end hh st p.isList (by simp;omega) fun h' eb=>?_))
  have I1:=I.turned (t':=s.toks) (h':=h') (fun b o hb e=>eb b o hb e) (by rw [upd_ne (Ne.symm hdi)];exact f0) f1 f3 f4 f5
  have e:ps.drop i=[]:=List.drop_eq_nil_of_le (by omega)
  rw [e] at hR
  exact(show wpAny _ _ (Builtin.Dict.addKeywords d [] >>= _) _ _ _ from wpAny_bind (wpAny_pure (wpAny_pure (hR _ I1))))
 |succ n ih =>
  intro i s acc t hn hi I st hz hR
  have hl':upd H d (.dK acc) l=some (.lst (as.map V.ref)):=by rw [upd_ne (hnd hl)];exact hl
  obtain⟨its,rv,p,_⟩:=I.list (a:=l) (xs:=as.map V.ref) (.inl (.inl hl'))
  have hia:i < as.length:=by omega
  have hip:i < ps.length:=by omega
  obtain⟨a,ha,hak⟩:=pair_get hps (List.getElem?_eq_getElem hip)
  obtain⟨u,hu',ru⟩:=rv.get (show(as.map V.ref)[i]?=some (V.ref a) by rw [List.getElem?_map,ha];rfl)
  cases ru
  refine codeAny_builtin upl_entry ?_
  rw [Around.under_plainId upl_plain]
  refine(show wpAny _ A.in1 (pyNext (.ref it) >>= _) _ _ s from wpAny_bind (wpAny_pyNext_list_item st p.isList (x:=.ref a) (by simpa using hu') fun h' st' sb=>?_))
  have I1:=I.turned (t':=s.toks) (h':=h') (fun b o hb e=>(sb.2 b hb).trans e) (by rw [upd_ne (Ne.symm hdi)];exact f0) f1 f3 f4 f5
  obtain⟨kvs2,rkv,⟨ob,eo,co,nn,od⟩,_⟩:=I1.tuple (a:=a) (xs:=[kV ps[i].1,ps[i].2]) (.inl (.inl (by rw [upd_ne (hnd hak)];exact hak)))
  obtain⟨u1,u2,ekv,r1,r2⟩:=vals2 rkv
  subst ekv
  refine(show wpAny _ A.in1 (holding [.ref a] _ >>= _) _ _ _ from wpAny_bind (wpAny_holding ?_))
  refine wpAny_bind (wpAny_tryCatch ?_)
  unfold Builtin.Dict.pairItems
  refine wpAny_bind (wpAny_typeOf (T:="tuple") ⟨ob,eo,co⟩ ?_)
  rw [if_pos (by decide)]
  refine wpAny_bind (wpAny_seqItems eo od (wpAny_pure ?_))
  refine(show wpAny _ A.in1 (holding [u1,u2] (dictSet d u1 u2)) _ _ _ from wpAny_holding ?_)
  obtain⟨z,hds,xs,rel,dd⟩:=dk_of I1.hok (upd_same (H:=H) (a:=d) (o:=.dK acc))
  have hz2:xs.length≤sizeLine:=by rw [←rel.length];exact z
  have hlp:(putK acc ps[i].1 ps[i].2).length≤acc.length+1:=length_putK acc _ _
  refine wpAny_dictSet_pairs (hsz:=hz2) (kV_is r1) dd fun h2 dd' hs=>?_
  have I2:=d_write (t':=s.toks+1) (ob:=.dK (putK acc ps[i].1 ps[i].2)) I1 (by rw [upd_same];exact True.intro) hs (let ⟨q,_,_,hq,_⟩:=dd';⟨q,hq⟩) (dk_new (by omega) hds (rel.put ps[i].1 r2) dd')
  rw [upd_upd] at I2
  refine wpAny_pure ⟨plainId_quiet upl_plain _,ih (i+1) _ (putK acc ps[i].1 ps[i].2) 0 (by omega) (by omega) I2 (st'.at fun o e=>(hs.2 it (Ne.symm hdi)).trans e) (by omega) fun s' I'=>hR s' ?_⟩
  rw [List.drop_eq_getElem_cons hip]
  exact I'
theorem call_dict_pairsK(hc:X.calm=true)(hu:X.A.units+8 < cLine):CallR X (.type "dict") (fun xs H Q=>∃l as ps,xs=[.ref l]∧H l=some (.lst (as.map V.ref))∧Paired (fun(p:Key × V) (a:Addr)=>H a=some (.tup [kV p.1,p.2])) ps as∧ps.length < sizeLine ∧
  ∀d,H d=none→Q (.ref d) (upd H d (.dK (putsK [] ps)))):=by
 intro pins s σ H xs us Q I r h
 obtain⟨l,as,ps,rfl,hl,hps,hz,q⟩:=h
 obtain⟨u,rfl,ru⟩:=vals1 r
 cases ru
 have hlen:ps.length=as.length:=hps.length
 refine callType_codes (Q₁:=fun obj s₁=>obj=.ref s.heap.objs.size∧s₁={ s with heap:=s.heap.push { cls:=.type "dict",data:=.dict #[] } }) F.kt_called_dict (F.kt_typeCall_dict_1 _) F.entry_dict_init (kt_code_dict_new _ ⟨rfl,rfl⟩) ?_
 rintro obj s₁ ⟨rfl,rfl⟩
 have hdn:H s.heap.objs.size=none:=I.hok.fresh (Nat.le_refl _)
 have gd:(s.heap.push { cls:=.type "dict",data:=.dict #[] }).get? s.heap.objs.size=some { cls:=.type "dict",data:=.dict #[] }:=Heap.get?_push_size _ rfl
 have I1:Inv X pins σ (upd H s.heap.objs.size (.dK [])) { s with heap:=s.heap.push { cls:=.type "dict",data:=.dict #[] } }:=I.laid (a:=s.heap.objs.size) (o:=.dK []) (t':=s.toks) (fun _ _ q=>Heap.get?_push_of_some _ q) (Nat.le_refl _) (dk_empty s.heap I.big)
 have hld:l≠s.heap.objs.size:=fun z=>by rw [z,hdn] at hl;cases hl
 obtain⟨its,rv,p,_⟩:=I1.list (a:=l) (xs:=as.map V.ref) (.inl (.inl (by rw [upd_ne hld];exact hl)))
 refine⟨⟨_,gd,rfl⟩,F.args_dict_init_2 _ _,?_⟩
 unfold Builtin.«dict.__init__»
 refine wpAny_bind ?_
 unfold Builtin.Dict.selfAndRest
 refine wpAny_bind (wpAny_notOrdered_dict (show Shared.TypeIs _ (.ref s.heap.objs.size) "dict" from⟨_,gd,rfl⟩) ?_)
 refine(show wpAny _ _ (pure (s.heap.objs.size,[Value.ref l])) _ _ _ from wpAny_pure ?_)
 show wpAny _ _ (Builtin.Dict.updateFrom "dict.__init__" s.heap.objs.size (.ref l) [] .none) _ _ _
 unfold Builtin.Dict.updateFrom
 refine wpAny_bind (wpAny_typeOf p.isList.typeIs ?_)
 rw [if_pos (by decide)]
 obtain⟨⟨cl,dc,da,sl⟩,n0,gl,e1,e2,e3⟩:=id p
 simp only at e1 e2 e3
 subst e1 e2 e3
 refine wpAny_bind (listKeys_none gl (I.ok.hd hc) fun h' tk hk=>?_)
 rw [if_pos (by decide)]
 have I2:=I1.kept (t':=tk) (h':=h') fun b o e=>hk b o e
 have le:s.heap.objs.size < h'.objs.size:=Heap.lt_size (hk _ _ gd)
 refine wpAny_bind (wpAny_rule ?_)
 refine wpAny_bind (wpAny_pyIter_list (p.isList.at fun o e=>hk l o e) ?_)
 have I3:=I2.kept (t':=tk) (h':=h'.push { cls:=.type "list_iterator",data:=.fields #[.ref l,.int 0 0] }) fun b o e=>Heap.get?_push_of_some _ e
 have fo:FpOk X pins H h'.objs.size:=I2.fpOk (Nat.le_refl _) (I.hok.fresh (Nat.le_of_lt le))
 refine wpAny_pure ⟨plainId_quiet upl_plain _,uplK_run (X:=X) (pins:=pins) (σ:=σ) (A:=X.A.in1) (I.ok.hd hc) (by show X.A.units+1+2 < cLine;omega) hdn (Nat.ne_of_lt le) hl hps fo as.length 0 _ [] 0 (Nat.sub_zero _) (Nat.zero_le _) I3 ⟨_,Heap.get?_push_size _ rfl,rfl,rfl⟩ (by rw [List.length_nil];omega) fun s' I'=>⟨rfl,.ref s.heap.objs.size,_,I',rfl,?_⟩⟩
 rw [List.drop_zero]
 exact q _ hdn
end
end L2
namespace HT
open PySem PySem.Spec PyProof.Rows
section
variable{prog:Program}{w:World}{A:Around}{E:Value→Shared→Prop}{s:Shared}
end
end HT
namespace L2
open PySem PySem.Spec PyProof.Rows
section
variable{X:Cx}
theorem call_isiTup:CallR X (.builtin "isinstance") (fun xs H Q=>∃a ys,xs=[.ref a,.ty "tuple"]∧SqT X.K H a ys∧Q (.bl true) H):=by
 intro pins s σ H xs us Q I rv h
 obtain⟨a,ys,rfl,hq,q⟩:=h
 obtain⟨u,v,rfl,r1,r2⟩:=rv.two
 cases r2
 cases (show u=Value.ref a from r1)
 obtain⟨its,_,⟨o,h1,h2,_⟩,_⟩:=I.tuple hq
 exact PySem.W.kia_one (t:=.type "tuple") (b:=true) PySem.W.kitx_tuple I.kIn ⟨o,h1,h2⟩ rfl (fun z=>nomatch z) fun tk=>⟨.bl true,H,I.tok _,rfl,q⟩
theorem call_isiTA:CallR X (.builtin "isinstance") (fun xs H Q=>∃x,xs=[x,.ty "tuple"]∧((∃z,x=.str z∧Q (.bl false) H)∨(∃i,x=.int i∧Q (.bl false) H)∨∃a ys,x=.ref a∧SqT X.K H a ys∧Q (.bl true) H)):=by
 intro pins s σ H xs us Q I rv h
 obtain⟨x,rfl,h⟩:=h
 rcases h with ⟨z,rfl,q⟩|⟨i,rfl,q⟩|⟨a,ys,rfl,hq,q⟩
 ·obtain⟨u,v,rfl,r1,r2⟩:=rv.two
  cases r2
  exact isinst_ok (t:=.type "str") (b:=false) I r1 (.str z) rfl fun tk=>⟨.bl false,H,I.tok _,rfl,q⟩
 ·obtain⟨u,v,rfl,r1,r2⟩:=rv.two
  cases r2
  exact isinst_ok (t:=.type "int") (b:=false) I r1 (.int i) rfl fun tk=>⟨.bl false,H,I.tok _,rfl,q⟩
 ·exact call_isiTup pins s σ H _ us Q I rv ⟨a,ys,rfl,hq,q⟩
end
end L2
namespace L2
open PySem PySem.Spec PyProof.Rows
end L2
namespace L2
open PySem PySem.Spec PyProof.Rows
section
variable{X:Cx}{tg:Expr}
end
end L2
namespace HT
open PySem PySem.Spec PyProof.Rows
section
variable{prog:Program}{w:World}{K:Type}[DecidableEq K]{knd:KeyKind prog w K}{A:Around}{E:Value→Shared→Prop}{s:Shared}{r d:Addr}{kvs:List (K × Value)}{ep:Nat}
theorem run_collect{Q:Value→Shared→Prop}(hno:A.handled=none)(hv:s.heap.IsItemsView r d)(hd:Heap.DictAt knd s.heap d kvs ep)(hl:kvs.length≤sizeLine)
  (hQ:∀(h':Heap) (tk:Nat) (acc:Array Value) (c:Nat) (as:List Addr),(∀b o,s.heap.get? b=some o→h'.get? b=some o)→h'.get? s.heap.objs.size=some { cls:=.type "list",data:=.seq acc c }→as.length=kvs.length→PySem.W.KdxG knd kvs s.heap.objs.size h' as→acc.toList=as.map Value.ref→Q (.ref s.heap.objs.size) { s with heap:=h',toks:=tk }) :
  wpAny (model prog w) A (runValue (.builtin "proto.collect" ⟨[.ref r],[]⟩)) Q E s:=by
 refine wpAny_runValue (codeAny_builtin PySem.F.entry_proto_collect ?_)
 show wpAny _ _ (newList [] >>= _) _ _ s
 refine wpAny_bind (wpAny_newList ?_)
 refine wpAny_pure ⟨plainId_quiet PySem.F.plain_list_iadd _,codeAny_builtin PySem.F.entry_list_iadd ?_⟩
 rw [Around.under_plainId PySem.F.plain_list_iadd]
 show wpAny _ A.in1 (Builtin.List.listExtendWith (.ref s.heap.objs.size) (.ref r) (.ref s.heap.objs.size)) _ _ _
 obtain⟨ov,hov,rv⟩:=id hv
 have nr:s.heap.objs.size≠r:=Nat.ne_of_gt (Heap.lt_size hov)
 have nd:d≠s.heap.objs.size:=Nat.ne_of_lt hd.lt_size
 refine PySem.W.kdx_extend (knd:=knd) (A:=A) (R:=fun r s'=>match r with|.ok (.ret v)=>Q v s'|.ok _=>False|.error e=>E e s') (s:={ s with heap:=s.heap.push { cls:=.type "list",data:=.seq #[] } }) hno ⟨ov,Heap.get?_push_of_some _ hov,rv⟩ (hd.push _) s.heap.objs.size nr nd _ 0 (Heap.get?_push_size _ rfl) (fun h' tk acc c as hk hS hlen hG hacc=>?_) hl
 refine hQ h' tk acc c as (fun b o e=>hk b o (Nat.ne_of_lt (Heap.lt_size e)) (Heap.get?_push_of_some _ e)) hS hlen ⟨hG.rise,fun a ha=>?_,hG.pairs⟩ hacc
 have h1:=hG.above a ha
 have e:(s.heap.push { cls:=.type "list",data:=.seq #[] }).objs.size=s.heap.objs.size+1:=by simp [Heap.push]
 have h2:(s.heap.push { cls:=.type "list",data:=.seq #[] }).objs.size < a:=h1
 rw [e] at h2
 exact Nat.lt_of_succ_lt h2
theorem collect_items{Q:List Value→Shared→Prop}(hno:A.handled=none)(hv:s.heap.IsItemsView r d)(hd:Heap.DictAt knd s.heap d kvs ep)(hl:kvs.length≤sizeLine)
  (hQ:∀(h':Heap) (tk:Nat) (as:List Addr),(∀b o,s.heap.get? b=some o→h'.get? b=some o)→s.heap.objs.size < h'.objs.size→as.length=kvs.length→PySem.W.KdxG knd kvs s.heap.objs.size h' as→Q (as.map Value.ref) { s with heap:=h',toks:=tk }) :
  wpAny (model prog w) A (collect (.ref r)) Q E s:=by
 unfold collect
 refine wpAny_bind (run_collect hno hv hd hl fun h' tk acc c as hk hS hlen hG hacc=>?_)
 refine wpAny_bind (wpAny_load hS ?_)
 refine wpAny_pure ?_
 rw [hacc]
 exact hQ h' tk as hk (Heap.lt_size hS) hlen hG
theorem code_tuple_new_items{Q:Value→Shared→Prop}(hno:A.handled=none)(hv:s.heap.IsItemsView r d)(hd:Heap.DictAt knd s.heap d kvs ep)(hl:kvs.length≤sizeLine)
  (hQ:∀(h':Heap) (tk:Nat) (as:List Addr),(∀b o,s.heap.get? b=some o→h'.get? b=some o)→s.heap.objs.size < h'.objs.size→as.length=kvs.length→PySem.W.KdxG knd kvs s.heap.objs.size h' as→Q (.ref h'.objs.size) { s with heap:=h'.push { cls:=.type "tuple",data:=.seq (as.map Value.ref).toArray },toks:=tk }) :
  codeAny (model prog w) A (.call (.builtin "tuple.__new__") ⟨[.type "tuple",.ref r],[]⟩) (wants Q E) s:=by
 refine codeAny_of_tree ?_
 show wpAny _ _ (checkBuiltinCall "tuple.__new__" ⟨[.type "tuple",.ref r],[]⟩ >>= _) _ _ s
 refine wpAny_bind (wpAny_of_eq (PySem.F.newCall_tuple_1 _) ?_)
 refine wpAny_pure ⟨plainId_quiet PySem.F.plain_tuple_new _,codeAny_builtin PySem.F.entry_tuple_new ?_⟩
 rw [Around.under_plainId PySem.F.plain_tuple_new]
 unfold Builtin.«tuple.__new__»
 refine wpAny_bind (wpAny_of_eq (a:=true) rfl ?_)
 refine wpAny_ite_false (by decide) ?_
 refine wpAny_bind (wpAny_of_eq sub_tuple_self ?_)
 refine wpAny_ite_false (by decide) ?_
 refine wpAny_ite_false (by decide +kernel) ?_
 refine wpAny_bind (wpAny_of_eq madeHere_tuple ?_)
 refine wpAny_bind (wpAny_of_eq init_tuple_lookup ?_)
 refine wpAny_ite_true (by decide) ?_
 refine wpAny_bind (wpAny_of_eq (a:=()) rfl ?_)
 refine wpAny_bind (wpAny_of_eq (a:=()) rfl ?_)
 refine wpAny_ite_true (by decide) ?_
 unfold Builtin.Tuple.tupleIsExact
 obtain⟨ov,hov,rc,rd⟩:=id hv
 refine wpAny_bind (wpAny_bind (wpAny_typeOf (T:="dict_items") ⟨ov,hov,rc⟩ (wpAny_pure ?_)))
 refine wpAny_ite_false (by decide) ?_
 refine wpAny_bind (collect_items (A:=A.in1) hno hv hd hl fun h' tk as hk hsz hlen hG=>?_)
 refine wpAny_bind (wpAny_pure ?_)
 show wpAny _ _ (Builtin.Tuple.tupleExact _ >>= _) _ _ _
 unfold Builtin.Tuple.tupleExact
 refine wpAny_bind (wpAny_newObj_type ?_ ?_)
 ·exact wpAny_pure (hQ h' tk as hk hsz hlen hG)
 ·have e:(as.map Value.ref).toArray.size≤sizeLine:=by
   rw [List.size_toArray,List.length_map,hlen]
   exact hl
  exact e
theorem call_tuple_items{Q:Value→Shared→Prop}(hno:A.handled=none)(hv:s.heap.IsItemsView r d)(hd:Heap.DictAt knd s.heap d kvs ep)(hl:kvs.length≤sizeLine)
  (hQ:∀(h':Heap) (tk:Nat) (as:List Addr),(∀b o,s.heap.get? b=some o→h'.get? b=some o)→s.heap.objs.size < h'.objs.size→as.length=kvs.length→PySem.W.KdxG knd kvs s.heap.objs.size h' as→Q (.ref h'.objs.size) { s with heap:=h'.push { cls:=.type "tuple",data:=.seq (as.map Value.ref).toArray },toks:=tk }) :
  wpAny (model prog w) A (call (.type "tuple") [.ref r]) Q E s:=by
 refine callType_codes (Q₁:=fun obj s₁=>s₁.TypeIs obj "tuple"∧Q obj s₁) PySem.F.called_tuple (PySem.F.typeCall_tuple_1 _) PySem.F.entry_object_init (code_tuple_new_items (A:=A.in1) hno hv hd hl fun h' tk as hk hsz hlen hG=>⟨⟨_,Heap.get?_push_size _ rfl,rfl⟩,hQ h' tk as hk hsz hlen hG⟩) ?_
 rintro obj s₁ ⟨h1,h2⟩
 exact⟨h1,PySem.F.args_object_init_2 _ _,object_init_meets (newId:="tuple.__new__") init_tuple_lookup PySem.F.called_tuple.made (by decide) prog w A.in1 _ s₁ ⟨h1,rfl,h2⟩⟩
end
end HT
namespace L2
open PySem PySem.Spec PyProof.Rows
section
variable{X:Cx}
theorem mt_dclear:MtR X "dict.clear" (fun x vs H Q=>∃d kvs,x=.ref d∧vs=[]∧H d=some (.dK kvs)∧Q .non (upd H d (.dK []))):=by
 intro pins s σ H x vs v us Q I rx rv h
 obtain⟨d,kvs,rfl,rfl,hd,q⟩:=h
 cases rx
 cases rv
 exact d_clear I hd fun s' I'=>⟨.non,_,I',rfl,q⟩
theorem call_tuple_itemsV(hc:X.calm=true):CallR X (.type "tuple") (fun xs H Q=>∃v d kvs,xs=[.ref v]∧H v=some (.ext (itemsAt v d))∧H d=some (.dK kvs) ∧
  ∀(H2:Hp) (as:List Addr) (l:Addr),(∀b u,H b=some u→H2 b=some u)→H l=none→(∀a∈as,H a=none)→H2 l=some (.tup (as.map V.ref))→Paired (fun(p:Key × V) (k:Addr)=>H2 k=some (.tup [kV p.1,p.2])) kvs as→Q (.ref l) H2):=by
 intro pins s σ H xs us Q I r h
 obtain⟨v,d,kvs,rfl,hv,hd,q⟩:=h
 obtain⟨u,rfl,ru⟩:=vals1 r
 cases ru
 obtain⟨z,hs,ys,rel,dd⟩:=dk_of I.hok hd
 obtain⟨ep,dat⟩:=dd.dictAt
 have hview:s.heap.IsItemsView v d:=(I.hok v _ hv).1
 have hl2:kvs.length=ys.length:=rel.length
 refine HT.call_tuple_items (knd:=mixKind X.prog X.w) (I.ok.hd hc) hview dat (by rw [←hl2];exact z) fun h' tk as hk hsz0 hlen hG=>?_
 have hlen':as.length=kvs.length:=by rw [hlen,hl2]
 have hge:∀a∈as,s.heap.objs.size≤a:=fun a ha=>Nat.le_of_lt (hG.above a ha)
 have hlt:∀a∈as,a < h'.objs.size:=fun a ha=>by
  obtain⟨j,hj⟩:=List.getElem?_of_mem ha
  obtain⟨_,_,_,_,_,h5⟩:=hG.pairs j a hj
  exact Heap.lt_size h5
 have hnS:h'.objs.size∉as:=fun ha=>Nat.lt_irrefl _ (hlt _ ha)
 have hsz:s.heap.objs.size≤h'.objs.size:=Nat.le_of_lt hsz0
 have vr:∀ks:List Addr,Vals (ks.map V.ref) (ks.map Value.ref):=fun ks=>by
  induction ks with
  |nil=>exact .nil
  |cons k ks ih=>exact .cons rfl ih
 have old:∀b,b < s.heap.objs.size→upd (layT H as kvs) h'.objs.size (.tup (as.map V.ref)) b=H b:=fun b hb=>by
  rw [upd_ne (Nat.ne_of_lt (Nat.lt_of_lt_of_le hb hsz))]
  exact layT_old fun ha=>absurd (hge b ha) (Nat.not_le_of_lt hb)
 have I2:Inv X pins σ (upd (layT H as kvs) h'.objs.size (.tup (as.map V.ref))) { s with heap:=h'.push { cls:=.type "tuple",data:=.seq (as.map Value.ref).toArray },toks:=tk }:=by
  refine I.laids (t':=tk) (fun b o e=>Heap.get?_push_of_some _ (hk b o e)) old fun b u hb hu=>?_
  by_cases e:b=h'.objs.size
  ·subst e
   rw [upd_same] at hu
   cases hu
   exact⟨by rw [List.length_map,hlen'];exact z,as.map Value.ref,vr as,IsTup.new _ _⟩
  ·rw [upd_ne e] at hu
   by_cases ha:b∈as
   ·obtain⟨j,p,h1,h2,rfl⟩:=layT_at ha hlen' hu
    obtain⟨key,k,x,h3,h4,h5⟩:=hG.pairs j b h1
    have hp:p.1=k∧RelV p.2 x:=by
     have:=pair_get rel h2
     obtain⟨y,hy,e1,e2⟩:=this
     rw [h3] at hy
     cases hy
     exact⟨e1,e2⟩
    refine⟨by show 2≤sizeLine;decide,[key,x],.cons (by rw [hp.1];exact key_rel h4) (.cons hp.2 .nil),_,Heap.get?_push_of_some _ h5,rfl,_,rfl⟩
   ·rw [layT_old ha] at hu
    rw [I.hok.fresh hb] at hu
    cases hu
 refine⟨.ref h'.objs.size,_,I2,rfl,q _ as h'.objs.size (fun b u hb=>?_) (I.hok.fresh hsz) (fun a ha=>I.hok.fresh (hge a ha)) upd_same ?_⟩
 ·have lt:b < s.heap.objs.size:=Nat.lt_of_not_le fun z=>by rw [I.hok.fresh z] at hb;cases hb
  rw [old b lt]
  exact hb
 ·have go:∀{qs:List (Key × V)} {bs:List Addr},(∀b∈bs,b∈as)→Paired (fun(p:Key × V) (k:Addr)=>layT H as kvs k=some (.tup [kV p.1,p.2])) qs bs→Paired (fun(q:Key × V) (k:Addr)=>upd (layT H as kvs) h'.objs.size (.tup (as.map V.ref)) k=some (.tup [kV q.1,q.2])) qs bs:=fun {qs bs} hb z=>by
   induction z with
   |nil=>exact .nil
   |@cons x y xs ys e _ ih =>
    refine .cons ?_ (ih fun b hb'=>hb b (List.mem_cons_of_mem _ hb'))
    rw [upd_ne (fun z=>hnS (by rw [←z];exact hb y List.mem_cons_self))]
    exact e
  exact go (fun _ z=>z) (layT_pairs hG.rise hlen')
end
end L2
namespace HT
open PySem PySem.Spec PyProof.Rows
theorem noFill_tuple_mul:fillsNumberSlot (.type "tuple") "mul"=pure false :=
 PySem.fillsNumberSlot_seq (id:="tuple.__mul__") (r:=some (.builtin "tuple.__rmul__")) PySem.F.slot_tuple_mul.lookup (by decide +kernel) PySem.F.slot_tuple_rmul.lookup (by decide +kernel)
theorem repeat_tuple:seqRepeat? (.type "tuple")=pure (some (.builtin "tuple.__mul__")):=by
 unfold seqRepeat?
 rw [PySem.seqSlot_of (T:="tuple") (name:="__mul__") (id:="tuple.__mul__") PySem.F.slot_tuple_mul.lookup (by decide +kernel),PySem.seqSlot_of (T:="tuple") (name:="__rmul__") (id:="tuple.__rmul__") PySem.F.slot_tuple_rmul.lookup (by decide +kernel)]
 rfl
theorem int_rmul_tuple(a:Int)(t:Tok)(l:Addr)(dc:Option Addr)(items:Array Value)(n:Nat)(sl:Array (Option Value)) :
  Meets (Builtin.«int.__rmul__» ⟨[.int a t,.ref l],[]⟩) (fun _ R s=>s.heap.get? l=some { cls:=.type "tuple",dict:=dc,data:=.seq items n,slots:=sl }∧R (.ok (.ret Value.notImplemented)) s) :=
 .of_wp fun prog w A R s h=>by obtain⟨hp,g,d,tk,os⟩:=s;obtain⟨hl,h⟩:=h;wp_walk;exact⟨_,rfl,h⟩
section
variable{prog:Program}{w:World}{A:Around}{E:Value→Shared→Prop}{s:Shared}
theorem tuple_mul{a:Addr}{items:Array Value}{k:Int}{t:Tok}{Q:Value→Shared→Prop}(ht:IsTup s.heap a items)(h0:0≤k)(h1:k≤1000)(hz:items.size*k.toNat≤1000)(hn:items.isEmpty=false)
    (hq:(k=1→Q (.ref a) s)∧(k≠1→Q (.ref s.heap.objs.size) { s with heap:=s.heap.push { cls:=.type "tuple",data:=.seq ((List.replicate k.toNat items).foldl (·++·) #[]) } })) :
    wpAny (model prog w) A (call (.builtin "tuple.__mul__") [.ref a,.int k t]) Q E s:=by
  refine wpAny_call_entry PySem.F.slot_tuple_mul ht.typeIs PySem.F.entry_tuple_mul ?_ (PySem.F.args_tuple_mul_2 _ _)
  show wpAny _ _ (asIndex (.int k t) >>= _) _ _ s
  refine wpAny_bind (wpAny_of_eq (a:=k) rfl ?_)
  refine wpAny_ite_false (by have a1:¬k < -(2 ^ 63):=by omega
                             have a2:¬k≥2 ^ 63:=by omega
                             simp
                             omega) ?_
  refine wpAny_bind (tupleItemsOf_ ht ?_)
  by_cases c:k=1
  · refine wpAny_ite_true (by rw [c];simp) ?_
    unfold Builtin.Tuple.tupleIsExact
    refine wpAny_bind (wpAny_bind (wpAny_typeOf ht.typeIs (wpAny_pure ?_)))
    refine wpAny_ite_true (by decide) ?_
    refine wpAny_bind (wpAny_rule ?_)
    exact wpAny_pure ⟨_,rfl,hq.1 c⟩
  · refine wpAny_ite_false (by rw [hn];simp [c]) ?_
    by_cases c0:k=0
    · refine wpAny_ite_true (by rw [c0];simp) ?_
      unfold Builtin.Tuple.tupleExact
      refine wpAny_bind (wpAny_newObj_type ?_ ?_)
      · refine wpAny_pure ⟨_,rfl,?_⟩
        have:=hq.2 c
        rw [c0] at this
        exact this
      · exact Nat.zero_le _
    · refine wpAny_ite_false (by have a1:¬k≤0:=by omega
                                 rw [hn]
                                 simp [a1]) ?_
      refine wpAny_ite_false ?_ ?_
      · have hk:((k.toNat:Nat):Int)=k:=Int.toNat_of_nonneg h0
        have h2:((items.size*k.toNat:Nat):Int)≤1000:=by exact_mod_cast hz
        have h3:(items.size:Int)*k≤1000:=by
          rw [←hk]
          push_cast at h2
          exact h2
        refine decide_eq_false (p:=(items.size:Int)*k > (2 ^ 63 - 1) / 8) ?_
        omega
      have hs:(1000:Nat) < sizeLine:=L2.small1000 (Nat.le_refl _)
      refine wpAny_ite_false ?_ ?_
      · have hk:((k.toNat:Nat):Int)=k:=Int.toNat_of_nonneg h0
        have h2:((items.size*k.toNat:Nat):Int)≤1000:=by exact_mod_cast hz
        have h3:(items.size:Int)*k≤1000:=by
          rw [←hk]
          push_cast at h2
          exact h2
        refine decide_eq_false fun hh=>?_
        have h4:(items.size:Int)*k > ((sizeLine:Nat):Int):=of_decide_eq_true hh
        omega
      unfold Builtin.Tuple.tupleExact
      refine wpAny_bind (wpAny_newObj_type ?_ ?_)
      · exact wpAny_pure ⟨_,rfl,hq.2 c⟩
      · have e:=L2.foldl_rep items.toList k.toNat []
        show((List.replicate k.toNat items).foldl (·++·) #[]).size≤sizeLine
        have e2:(List.replicate k.toNat items).foldl (·++·) #[]=(List.replicate k.toNat items.toList).flatten.toArray:=e
        rw [e2,List.size_toArray,L2.len_rep,Array.length_toList,Nat.mul_comm]
        omega
end
end HT
namespace L2
open PySem PySem.Spec PyProof.Rows
section
variable{X:Cx}
def rMulT(K:PySem.W.Frag):R2:=fun x y H Q=>∃a k xs,x=.ref a∧y=.int k∧SqT K H a xs∧xs≠[]∧0≤k∧k≤1000∧xs.length*k.toNat≤1000∧∀p H',Same H H'→SqT K H' p (List.replicate k.toNat xs).flatten→Q (.ref p) H'
theorem op_mulT:OpR X (binaryOp .Mult) (rMulT X.K):=by
 intro pins s σ H x y v u Q I rx ry h
 obtain⟨a,k,xs,rfl,rfl,hq,hne,h0,h1,hz,q⟩:=h
 cases rx
 obtain⟨t,rfl⟩:=ry
 obtain⟨its,r,ht,z⟩:=I.tuple hq
 have hl:=r.length
 obtain⟨⟨cls,dc,da,sl⟩,e,ec,n,ed⟩:=id ht
 simp only at ec ed
 subst ec
 subst ed
 refine wpAny_binaryOp_repeat_ref (T:="tuple") (U:="int") (by decide) ⟨_,e,rfl⟩ (fun s'=>typeIs_int s' k t) HT.noFill_tuple_mul PySem.F.fills_int_mul PySem.F.slot_int_rmul HT.repeat_tuple PySem.F.slot_int_index.lookup
  (call_meets PySem.F.slot_int_rmul (typeIs_int s k t) PySem.F.entry_int_rmul (PySem.F.args_int_rmul_2 _ _) (HT.int_rmul_tuple k t a dc its.toArray n sl)
   ⟨e,rfl,⟨_,e,rfl⟩,HT.tuple_mul ht h0 h1 (by rw [List.size_toArray,←hl];exact hz) ?_ ⟨fun c=>?_,fun c=>?_⟩⟩)
 ·cases its with
  |nil =>
   exfalso
   cases xs with
   |nil=>exact hne rfl
   |cons _ _=>cases hl
  |cons _ _=>rfl
 ·refine⟨.ref a,H,I,rfl,q a H (Same.refl _) ?_⟩
  rw [c]
  show SqT X.K H a (List.replicate 1 xs).flatten
  simpa using hq
 ·have e2:(List.replicate k.toNat its.toArray).foldl (·++·) #[]=(List.replicate k.toNat its).flatten.toArray:=by
   have:=foldl_rep its k.toNat []
   rw [List.nil_append] at this
   exact this
  rw [e2]
  have hsz:(List.replicate k.toNat xs).flatten.length≤sizeLine:=by
   rw [len_rep,Nat.mul_comm]
   exact Nat.le_of_lt (small1000 hz)
  have I2:Inv X pins σ (upd H s.heap.objs.size (.tup (List.replicate k.toNat xs).flatten)) { s with heap:=s.heap.push { cls:=.type "tuple",data:=.seq (List.replicate k.toNat its).flatten.toArray } } :=
   I.laid (t':=s.toks) (fun b o e=>Heap.get?_push_of_some _ e) (Nat.le_refl _) (show ObjOk X.prog X.w _ _ _ (.tup _) from⟨hsz,_,r.rep k.toNat,IsTup.new _ _⟩)
  exact⟨.ref s.heap.objs.size,_,I2,rfl,q _ _ (fun b o hb=>by rw [upd_ne (fun e=>by rw [e,I.hok.fresh (Nat.le_refl _)] at hb;cases hb)];exact hb) (SqT.of upd_same)⟩
end
end L2
namespace L2
open PySem PySem.Spec PyProof.Rows
section
variable{X:Cx}
theorem Vals.rev{xs:List V}{us:List Value}(h:Vals xs us):Vals xs.reverse us.reverse:=by
 induction h with
 |nil=>exact .nil
 |@cons x u xs us a b ih =>
  rw [List.reverse_cons,List.reverse_cons]
  exact ih.append (.cons a .nil)
theorem pe_rev{e st:Expr}{te ts:TE}{p2 pos:Pos}(he:PE X e te)(hst:PE X st ts)(hts:∀σ H (Q:VK),Q (.int (-1)) H→ts σ H Q)(hsub:∀v k,∃ops,subscripted (.Slice none none (some st) p2) false v k=operate ops (getItem v k)) :
  PE X (.Subscript e (.Slice none none (some st) p2) pos) (fun σ H Q=>te σ H fun x H1=>∃a xs,x=.ref a∧SqL X.K H1 a xs∧∀p,H1 p=none→Q (.ref p) (upd H1 p (.lst xs.reverse))):=by
 intro pins s σ H Q I h
 refine Subscript_ (thn (he pins s σ H _ I h) fun v s1 ⟨x,H1,I1,r1,q1⟩=>?_)
 obtain⟨a,xs,rfl,hx,q⟩:=q1
 cases r1
 refine wpAny_Slice ?_
 rw [evalPart_none]
 refine wpAny_pure ?_
 refine wpAny_pure ?_
 rw [evalPart_some]
 refine thn (hst pins s1 σ H1 (fun y H2=>y=.int (-1)∧H2=H1) I1 (hts _ _ _ ⟨rfl,rfl⟩)) fun vk s3 ⟨y,H3,I3,r3,e1,e2⟩=>?_
 subst e1
 subst e2
 obtain⟨tk,rfl⟩:=r3
 have I4:Inv X pins σ H3 { s3 with heap:=s3.heap.push { cls:=.type "slice",data:=.fields #[.none,.none,.int (-1) tk] } }:=I3.kept (t':=s3.toks) fun b ob q=>Heap.get?_push_of_some _ q
 show wpAny (model X.prog X.w) X.A (subscriptTail e (.Slice none none (some st) p2) (.ref a) (.ref s3.heap.objs.size)) (EP X pins σ Q) X.xe { s3 with heap:=s3.heap.push { cls:=.type "slice",data:=.fields #[.none,.none,.int (-1) tk] } }
 obtain⟨its,r,ht,hz⟩:=I4.list hx
 have hlen:=r.length
 obtain⟨ops,ho⟩:=hsub (.ref a) (.ref s3.heap.objs.size)
 refine tail_any (ops:=ops) ht.isList.typeIs slot_list_getitem.lookup ?_ ho
 refine wpAny_getItem_list_slice ht.isList (Heap.IsSliceOf.new ..) .none .none (.int _ _) (by decide) ?_ (by rw [List.size_toArray]<;>omega)
 rw [PySem.W.krv_pick]
 refine⟨.ref _,_,I4.laid (t':=s3.toks) (o:=.lst xs.reverse) (fun b ob q=>Heap.get?_push_of_some _ q) (Nat.le_refl _) ?_,rfl,q _ (I4.hok.fresh (Nat.le_refl _))⟩
 exact⟨by rw [List.length_reverse];exact hz,_,0,r.rev,Heap.get?_push_size _ rfl⟩
end
end L2
namespace K42
open PySem L2 Kk
def top(i:Nat):Stmt:=PySem.Challenge.pw_sealhouse_k42_seals.main.body.getD i (.Pass ⟨0,0,0,0⟩)
abbrev sWords:Stmt:=top 7
abbrev sNames:Stmt:=top 8
abbrev sPut:Stmt:=top 9
abbrev sBounded:Stmt:=top 10
abbrev sNormal:Stmt:=top 11
abbrev sToldKind:Stmt:=top 12
abbrev sOwn:Stmt:=top 15
abbrev sPutFace:Stmt:=top 16
abbrev sPutFun:Stmt:=top 17
abbrev sRefined:Stmt:=top 18
abbrev sFitted:Stmt:=top 19
abbrev sWanted:Stmt:=top 21
abbrev sSeenFace:Stmt:=top 22
abbrev sToldWith:Stmt:=top 23
abbrev sHiddenBy:Stmt:=top 24
abbrev sCell:Stmt:=top 26
abbrev sWordL:Stmt:=top 27
abbrev sMix:Stmt:=top 28
abbrev sPutL:Stmt:=top 29
abbrev sAlike:Stmt:=top 30
abbrev sSame:Stmt:=top 31
abbrev sFace:Stmt:=top 32
abbrev sHiddenL:Stmt:=top 33
abbrev sPutAll:Stmt:=top 34
abbrev sHiding:Stmt:=top 35
abbrev sThere:Stmt:=top 36
abbrev sWiths:Stmt:=top 37
abbrev sFull:Stmt:=top 38
abbrev sMade:Stmt:=top 39
abbrev sSeen:Stmt:=top 40
abbrev sLaw:Stmt:=top 41
theorem small{n:Nat}(h:n≤1000):n≤sizeLine:=Nat.le_of_lt (small1000 h)
theorem same_new{H:Hp}{p:Addr}(h:H p=none)(o:HO):Same H (upd H p o):=fun b u q=>by rw [upd_ne (ne_of_none q h)];exact q
def sumW(ks:List Kd):Nat:=(ks.map Kd.words).sum
theorem words_pos(k:Kd):0 < k.words:=by
 have:=words_leaves k
 have:=leaves_pos k
 omega
theorem sumW_app(a b:List Kd):sumW (a++b)=sumW a+sumW b:=by
 unfold sumW
 rw [List.map_append,List.sum_append]
theorem sumW_one(k:Kd):sumW [k]=k.words:=Nat.add_zero _
theorem len_sumW:∀ks:List Kd,ks.length≤sumW ks
 |[]=>Nat.le_refl _
 |k::ks=>by
  have h1:=len_sumW ks
  have h2:=words_pos k
  show ks.length+1≤k.words+sumW ks
  omega
theorem snoc{K:PySem.W.Frag}{H:Hp}:∀{us:List V} {v:V} {ks:List Kd},KdsAt K H (us++[v]) ks→∃ls k,ks=ls++[k]∧KdsAt K H us ls∧KdAt K H v k
 |[],v,_,.cons a .nil=>⟨[],_,rfl,.nil,a⟩
 |u::us,v,_,.cons a b=>by
  obtain⟨ls,k,rfl,h1,h2⟩:=snoc (us:=us) b
  exact⟨_::ls,k,rfl,.cons a h1,h2⟩
theorem snoc_get{us:List V}{v:V}:(us++[v])[(us++[v]).length - 1]?=some v:=by simp
theorem one{K:PySem.W.Frag}{H:Hp}{v:V}{k:Kd}(h:KdAt K H v k):KdsAt K H [v] [k]:=.cons h .nil
def spWords(K:PySem.W.Frag):Sp:=fun vs H Q _=>∃(x:V) (k:Kd),vs=[x]∧KdAt K H x k∧k.words≤900∧∀H',Same H H'→Q (.int k.words) H'
section
variable{P:Program}{w:World}{K:PySem.W.Frag}{mg:Str→Option Value}{base:Heap}
theorem scWords:FnScope ["kind","words","left","here"] ["kind"] (defScope sWords):=⟨rfl,rfl,rfl,by decide +kernel,rfl,by decide +kernel,by decide +kernel⟩
theorem ok_words{f:Addr}{fd:FuncData} (F:Fun K "words_in" "words_in" sWords f fd) (ml:mg "len"=none):FnOk P w K mg base CX0 1 f fd ["kind"] (spWords K):=by
 refine F.ok scWords (fun vs H Q E h=>?_) (fun cdv A outer s H vs Q E hr h=>?_)
 ·obtain⟨x,k,rfl,_⟩:=h
  rfl
 obtain⟨x,k,rfl,hk,h9,q⟩:=h
 refine⟨_,pss_cons (ps_set (i:=1) scWords.nd rfl (Or.inl rfl) pe_int)
  (pss_cons (ps_set (i:=2) scWords.nd rfl (Or.inl rfl) (pe_lst (pa_cons (pv 0) pa_nil)))
  (pss_cons (ps_while PassesOwn.never (pt_cmpR op_gt (pe_callB call_len_seq rfl ml PySem.boot_len (pa_cons (pv 2) pa_nil)) pe_int (nomark _))
   (pss_cons (ps_set (i:=3) scWords.nd rfl (Or.inl rfl) (pe_bm0 PySem.F.plainAttrs_list PySem.F.slot_list_pop PySem.F.type_list_pop mt_pop (pv 2)))
   (pss_cons (ps_aug (i:=1) scWords.nd rfl (Or.inl rfl) pe_int ip_add)
   (pss_one (ps_if (pt_cmpR op_eq (pe_ix ix_tup (pv 3) pe_int (fun _ _=>rfl)) pe_str (nomark _))
    (pss_cons (ps_expr (pe_bm PySem.F.plainAttrs_list PySem.F.slot_list_append PySem.F.type_list_append mt_append (pv 2) (pa_cons (pe_ix ix_tup (pv 3) pe_int (fun _ _=>rfl)) pa_nil)))
    (pss_one (ps_expr (pe_bm PySem.F.plainAttrs_list PySem.F.slot_list_append PySem.F.type_list_append mt_append (pv 2) (pa_cons (pe_ix ix_tup (pv 3) pe_int (fun _ _=>rfl)) pa_nil))))) pss_nil)))))
  (pss_one (ps_ret (pv 1))))),?_⟩
 refine⟨_,rfl,(by show 1≤sizeLine;decide),fun l hl=>?_⟩
 have sL:∀o,Same H (upd H l o):=same_new hl
 refine while_by (fun σ H2=>∃(vs:List V) (ks:List Kd) (n:Nat) (h:Option V),σ=[some x,some (.int n),some (.ref l),h]∧H2=upd H l (.lst vs)∧KdsAt K H vs ks∧n+sumW ks=k.words)
  (fun σ _=>match σ with|[_,some (.int n),_,_]=>k.words - n.toNat|_=>0) ⟨[x],[k],0,none,rfl,rfl,one hk,by rw [sumW_one];omega⟩ ?_ ?_
 ·rintro σ H2 ⟨vs,ks,n,h,rfl,rfl,hv,hn⟩
  refine⟨_,rfl,l,_,rfl,.inl (SqL.of upd_same),_,_,rfl,rfl,_,rfl,?_⟩
  refine ite2 (fun c=>?_) (fun c=>?_)
  ·have c':(0:Int) < (vs.length:Int):=of_decide_eq_true c
   have hne:vs≠[]:=fun e=>by rw [e] at c';exact absurd c' (by decide)
   obtain⟨us,v,rfl⟩:∃us v,vs=us++[v]:=⟨_,_,(List.dropLast_concat_getLast hne).symm⟩
   obtain⟨ls,j,rfl,hu,hj⟩:=snoc hv
   rw [sumW_app,sumW_one] at hn
   have hjp:=words_pos j
   refine⟨_,rfl,?_,l,_,v,rfl,rfl,upd_same,snoc_get,?_⟩
   ·exact .inl ⟨rfl,_,SqL.of upd_same⟩
   rw [upd_upd,List.dropLast_concat]
   have hl2:=len_sumW ls
   have hul:=hu.length
   refine⟨_,rfl,_,_,rfl,rfl,?_⟩
   have e1:((n:Int)+1)=((n+1:Nat):Int):=by omega
   cases hj with
   |@num p m t =>
    refine⟨_,rfl,_,_,_,_,rfl,rfl,(sL _).tup t,(show atI [V.str "num",.int m] 0=some (.str "num") from rfl),rfl,_,rfl,ite2 (fun c=>absurd c (by decide +kernel)) (fun _=>?_)⟩
    have hw:(Kd.num m).words=1:=rfl
    rw [hw] at hn
    refine⟨⟨us,ls,n+1,_,by rw [←e1]<;>rfl,rfl,hu,by omega⟩,?_⟩
    show k.words - ((n:Int)+1).toNat < k.words - (n:Int).toNat
    omega
   |@name p q t h =>
    refine⟨_,rfl,_,_,_,_,rfl,rfl,(sL _).tup h,(show atI [V.str "name",.str q,.str t] 0=some (.str "name") from rfl),rfl,_,rfl,ite2 (fun c=>absurd c (by decide +kernel)) (fun _=>?_)⟩
    have hw:(Kd.name q t).words=1:=rfl
    rw [hw] at hn
    refine⟨⟨us,ls,n+1,_,by rw [←e1]<;>rfl,rfl,hu,by omega⟩,?_⟩
    show k.words - ((n:Int)+1).toNat < k.words - (n:Int).toNat
    omega
   |@pair p y z a b t ha hb =>
    have hw:(Kd.pair a b).words=1+a.words+b.words:=rfl
    rw [hw] at hn hjp
    have h1:=words_pos a
    have h2:=words_pos b
    refine⟨_,rfl,_,_,_,_,rfl,rfl,(sL _).tup t,(show atI [V.str "pair",y,z] 0=some (.str "pair") from rfl),rfl,_,rfl,ite2 (fun _=>?_) (fun c=>absurd (by decide +kernel) c)⟩
    refine⟨_,rfl,.inl ⟨rfl,_,SqL.of upd_same⟩,_,rfl,_,_,_,_,rfl,rfl,(sL _).tup t,(show atI [V.str "pair",y,z] 1=some y from rfl),l,_,_,rfl,rfl,upd_same,Nat.lt_of_lt_of_le (Nat.lt_succ_self _) (small (by omega)),?_⟩
    rw [upd_upd]
    refine⟨_,rfl,.inl ⟨rfl,_,SqL.of upd_same⟩,_,rfl,_,_,_,_,rfl,rfl,(sL _).tup t,(show atI [V.str "pair",y,z] 2=some z from rfl),l,_,_,rfl,rfl,upd_same,Nat.lt_of_lt_of_le (Nat.lt_succ_self _) (small (by rw [List.length_append];show us.length+1+1≤1000;omega)),?_⟩
    rw [upd_upd]
    refine⟨⟨us++[y]++[z],ls++[a]++[b],n+1,_,by rw [←e1]<;>rfl,rfl,(hu.append (one ha)).append (one hb),by rw [sumW_app,sumW_app,sumW_one,sumW_one];omega⟩,?_⟩
    show k.words - ((n:Int)+1).toNat < k.words - (n:Int).toNat
    omega
  ·have c':¬(0:Int) < (vs.length:Int):=of_decide_eq_false (Bool.eq_false_iff.mpr c)
   have hv0:vs=[]:=List.length_eq_zero_iff.mp (by omega)
   subst hv0
   cases hv
   have e:n=k.words:=hn
   subst e
   exact⟨_,rfl,q _ (sL _)⟩
 ·rintro σ H2 Q1 Q2 hq ⟨v,e1,a,xs,e2,hs,i,j,e3,e4,b,e5,h⟩
  exact⟨v,e1,a,xs,e2,hs,i,j,e3,e4,b,e5,hq _ _ h⟩
end
theorem while_rel{c:TT}{tb:TS}{D:Ends}{σ:St}{H:Hp}(W:Nat→St→Hp→Prop)(m:Nat)(h0:W m σ H)
  (hs:∀m σ H,W m σ H→c σ H fun b H1=>if b=true then tb { D with nx:=fun σ' H'=>∃m',m' < m∧W m' σ' H',ct:=fun σ' H'=>∃m',m' < m∧W m' σ' H',bk:=D.nx } σ H1 else D.nx σ H1)
  (mono:∀σ H Q Q',(∀b H1,Q b H1→Q' b H1)→c σ H Q→c σ H Q'):tWhile c tb D σ H:=by
 refine⟨W,⟨m,h0⟩,fun m σ H p=>mono σ H _ _ (fun b H1 q=>?_) (hs m σ H p)⟩
 cases b with
 |true=>exact⟨_,fun σ' H' z=>z,q⟩
 |false=>exact q
def Kd.names:Kd→List (Str × Str)
 |.num _=>[]
 |.name q t=>[(q,t)]
 |.pair a b=>Kd.names a++Kd.names b
def addN(acc:List (Str × Str))(n:Str × Str):List (Str × Str):=if n∈acc then acc else acc++[n]
def firsts(acc l:List (Str × Str)):List (Str × Str):=l.foldl addN acc
def restN(ks:List Kd):List (Str × Str):=(ks.reverse.map Kd.names).flatten
theorem restN_snoc(ls:List Kd)(j:Kd):restN (ls++[j])=Kd.names j++restN ls:=by
 unfold restN
 rw [List.reverse_concat,List.map_cons,List.flatten_cons]
def keyN(n:Str × Str):List Key:=[.inr n.1,.inr n.2]
theorem keyN_inj{m n:Str × Str}(h:keyN m=keyN n):m=n:=by
 cases m;cases n
 simp [keyN] at h
 exact Prod.ext h.1 h.2
theorem put_keys{kvs:List (List Key × V)}{dn:List (Str × Str)}{n:Str × Str}{v:V}(h:kvs.map (·.1)=dn.map keyN):(putK kvs (keyN n) v).map (·.1)=(addN dn n).map keyN:=by
 have e:(kvs.any fun kv=>decide (kv.1=keyN n))=true↔n∈dn:=by
  rw [List.any_eq_true]
  constructor
  ·rintro⟨p,hp,q⟩
   have m:p.1∈kvs.map (·.1):=List.mem_map.mpr ⟨p,hp,rfl⟩
   rw [h] at m
   obtain⟨z,hz,ez⟩:=List.mem_map.mp m
   exact keyN_inj (ez.trans (of_decide_eq_true q))▸hz
  ·intro hn
   have m:keyN n∈dn.map keyN:=List.mem_map.mpr ⟨n,hn,rfl⟩
   rw [←h] at m
   obtain⟨p,hp,ep⟩:=List.mem_map.mp m
   exact⟨p,hp,decide_eq_true ep⟩
 unfold putK addN
 by_cases hn:n∈dn
 ·rw [if_pos (e.mpr hn),if_pos hn,←h,List.map_map]
  refine List.map_congr_left fun p _=>?_
  show(if p.1=keyN n then (p.1,v) else p).1=p.1
  split<;>rfl
 ·rw [if_neg (fun z=>hn (e.mp z)),if_neg hn,List.map_append,List.map_append,h]
  rfl
theorem addN_len(dn:List (Str × Str))(n:Str × Str):(addN dn n).length≤dn.length+1:=by
 unfold addN
 split
 ·omega
 ·rw [List.length_append]
  exact Nat.le_refl _
theorem paired_names{H:Hp}:∀{kvs:List (List Key × V)} {dn:List (Str × Str)} {as:List Addr},kvs.map (·.1)=dn.map keyN →
  Paired (fun(p:List Key × V) (k:Addr)=>H k=some (.tup (p.1.map kV))) kvs as→Paired (fun(n:Str × Str) (a:Addr)=>H a=some (.tup [.str n.1,.str n.2])) dn as
 |[],[],_,_,.nil=>.nil
 |p::kvs,n::dn,_,h,.cons a b=>by
  have h1:p.1=keyN n:=(List.cons.inj h).1
  rw [h1] at a
  exact .cons a (paired_names (List.cons.inj h).2 b)
theorem paired_same{H H':Hp}(e:Same H H'):∀{dn:List (Str × Str)} {as:List Addr},Paired (fun(n:Str × Str) (a:Addr)=>H a=some (.tup [.str n.1,.str n.2])) dn as→Paired (fun(n:Str × Str) (a:Addr)=>H' a=some (.tup [.str n.1,.str n.2])) dn as
 |_,_,.nil=>.nil
 |_,_,.cons a b=>.cons (e _ _ a) (paired_same e b)
theorem sput{H H2:Hp}{a:Addr}{o:HO}(e:Same H H2)(h:H a=none):Same H (upd H2 a o):=fun b u q=>by rw [upd_ne (ne_of_none q h)];exact e b u q
def spNames(K:PySem.W.Frag):Sp:=fun vs H Q _=>∃(x:V) (k:Kd),vs=[x]∧KdAt K H x k∧k.words≤900 ∧
 ∀H' l (as:List Addr),Same H H'→H l=none→H' l=some (.lst (as.map V.ref))→Paired (fun(n:Str × Str) (a:Addr)=>H' a=some (.tup [.str n.1,.str n.2])) (firsts [] (Kd.names k)) as→Q (.ref l) H'
theorem bootList:bootBuiltins "list"=some (.type "list"):=by decide +kernel
section
variable{P:Program}{w:World}{K:PySem.W.Frag}{mg:Str→Option Value}{base:Heap}
theorem scNames:FnScope ["kind","met","left","here"] ["kind"] (defScope sNames):=⟨rfl,rfl,rfl,by decide +kernel,rfl,by decide +kernel,by decide +kernel⟩
theorem ok_names{f:Addr}{fd:FuncData} (F:Fun K "names_in" "names_in" sNames f fd) (ml:mg "len"=none) (mi:mg "list"=none):FnOk P w K mg base CX0 1 f fd ["kind"] (spNames K):=by
 refine F.ok scNames (fun vs H Q E h=>?_) (fun cdv A outer s H vs Q E hr h=>?_)
 ·obtain⟨x,k,rfl,_⟩:=h
  rfl
 obtain⟨x,k,rfl,hk,h9,q⟩:=h
 have hu:=Nat.lt_of_le_of_lt (Nat.add_le_add_left (show 1≤64 by decide) _) hr.units
 refine⟨_,pss_cons (ps_set (i:=1) scNames.nd rfl (Or.inl rfl) pe_dnewT)
  (pss_cons (ps_set (i:=2) scNames.nd rfl (Or.inl rfl) (pe_lst (pa_cons (pv 0) pa_nil)))
  (pss_cons (ps_while PassesOwn.never (pt_cmpR op_gt (pe_callB call_len_seq rfl ml PySem.boot_len (pa_cons (pv 2) pa_nil)) pe_int (nomark _))
   (pss_cons (ps_set (i:=3) scNames.nd rfl (Or.inl rfl) (pe_bm0 PySem.F.plainAttrs_list PySem.F.slot_list_pop PySem.F.type_list_pop mt_pop (pv 2)))
   (pss_one (ps_if (pt_cmpR op_eq (pe_ix ix_tup (pv 3) pe_int (fun _ _=>rfl)) pe_str (nomark _))
    (pss_cons (ps_expr (pe_bm PySem.F.plainAttrs_list PySem.F.slot_list_append PySem.F.type_list_append mt_append (pv 2) (pa_cons (pe_ix ix_tup (pv 3) pe_int (fun _ _=>rfl)) pa_nil)))
    (pss_one (ps_expr (pe_bm PySem.F.plainAttrs_list PySem.F.slot_list_append PySem.F.type_list_append mt_append (pv 2) (pa_cons (pe_ix ix_tup (pv 3) pe_int (fun _ _=>rfl)) pa_nil)))))
    (pss_one (ps_if (pt_cmpR op_eq (pe_ix ix_tup (pv 3) pe_int (fun _ _=>rfl)) pe_str (nomark _))
     (pss_one (ps_dput hu (pv 1) (pe_tup (pa_cons (pe_ix ix_tup (pv 3) pe_int (fun _ _=>rfl)) (pa_cons (pe_ix ix_tup (pv 3) pe_int (fun _ _=>rfl)) pa_nil))) pe_bl rfl)) pss_nil))))))
  (pss_one (ps_ret (pe_callTy (call_list_dT rfl) rfl mi bootList (pa_cons (pv 1) pa_nil)))))),?_⟩
 refine fun d hd=>⟨_,rfl,(by show 1≤sizeLine;decide),fun l hl=>?_⟩
 have hdl:d≠l:=fun e=>by rw [e] at hl;rw [upd_same] at hl;cases hl
 have hl0:H l=none:=by rw [upd_ne (Ne.symm hdl)] at hl;exact hl
 refine while_rel (fun m σ H2=>∃(vs:List V) (ks:List Kd) (kvs:List (List Key × V)) (dn:List (Str × Str)) (h:Option V),σ=[some x,some (.ref d),some (.ref l),h]∧Same H H2∧H2 l=some (.lst vs)∧H2 d=some (.dT kvs) ∧
   KdsAt K H vs ks∧kvs.map (·.1)=dn.map keyN∧firsts dn (restN ks)=firsts [] (Kd.names k)∧dn.length+sumW ks≤k.words∧m=sumW ks) (sumW [k])
  ⟨[x],[k],[],[],none,rfl,sput (same_new hd _) hl0,upd_same,by rw [upd_ne hdl];exact upd_same,one hk,rfl,by show firsts [] (Kd.names k++[])=_;rw [List.append_nil],by rw [sumW_one];show 0+_≤_;omega,rfl⟩ ?_ ?_
 ·rintro m σ H2 ⟨vs,ks,kvs,dn,h,rfl,sH,hL,hD,hv,hkeys,hf,hn,rfl⟩
  refine⟨_,rfl,l,_,rfl,.inl (SqL.of hL),_,_,rfl,rfl,_,rfl,?_⟩
  refine ite2 (fun c=>?_) (fun c=>?_)
  ·have c':(0:Int) < (vs.length:Int):=of_decide_eq_true c
   have hne:vs≠[]:=fun e=>by rw [e] at c';exact absurd c' (by decide)
   obtain⟨us,v,rfl⟩:∃us v,vs=us++[v]:=⟨_,_,(List.dropLast_concat_getLast hne).symm⟩
   obtain⟨ls,j,rfl,hus,hj⟩:=snoc hv
   rw [restN_snoc] at hf
   rw [sumW_app,sumW_one] at hn ⊢
   have hjp:=words_pos j
   refine⟨_,rfl,.inl ⟨rfl,_,SqL.of hL⟩,l,_,v,rfl,rfl,hL,snoc_get,?_⟩
   rw [List.dropLast_concat]
   have hl2:=len_sumW ls
   have hul:=hus.length
   have sH1:Same H (upd H2 l (.lst us)):=sput sH hl0
   have hD1:upd H2 l (.lst us) d=some (.dT kvs):=by rw [upd_ne hdl];exact hD
   cases hj with
   |@num p m t =>
    refine⟨_,rfl,_,_,_,_,rfl,rfl,sH1.tup t,(show atI [V.str "num",.int m] 0=some (.str "num") from rfl),rfl,_,rfl,ite2 (fun c=>absurd c (by decide +kernel)) (fun _=>?_)⟩
    refine⟨_,rfl,_,_,_,_,rfl,rfl,sH1.tup t,(show atI [V.str "num",.int m] 0=some (.str "num") from rfl),rfl,_,rfl,ite2 (fun c=>absurd c (by decide +kernel)) (fun _=>?_)⟩
    exact⟨sumW ls,by omega,us,ls,kvs,dn,_,rfl,sH1,upd_same,hD1,hus,hkeys,hf,by omega,rfl⟩
   |@name p n t h =>
    refine⟨_,rfl,_,_,_,_,rfl,rfl,sH1.tup h,(show atI [V.str "name",.str n,.str t] 0=some (.str "name") from rfl),rfl,_,rfl,ite2 (fun c=>absurd c (by decide +kernel)) (fun _=>?_)⟩
    refine⟨_,rfl,_,_,_,_,rfl,rfl,sH1.tup h,(show atI [V.str "name",.str n,.str t] 0=some (.str "name") from rfl),rfl,_,rfl,ite2 (fun _=>?_) (fun c=>absurd (by decide +kernel) c)⟩
    refine⟨_,rfl,_,rfl,_,_,_,_,rfl,rfl,sH1.tup h,(show atI [V.str "name",.str n,.str t] 1=some (.str n) from rfl),_,rfl,_,_,_,_,rfl,rfl,sH1.tup h,(show atI [V.str "name",.str n,.str t] 2=some (.str t) from rfl),(by show 2≤sizeLine;decide),fun b hb=>?_⟩
    have hbd:d≠b:=ne_of_none hD1 hb
    have hbl:l≠b:=ne_of_none upd_same hb
    have hb0:H b=none:=by
     cases e:H b with
     |none=>rfl
     |some o=>rw [sH1 b o e] at hb;cases hb
    have hlen:kvs.length=dn.length:=by have:=congrArg List.length hkeys;rw [List.length_map,List.length_map] at this;exact this
    have hw:(Kd.name n t).words=1:=rfl
    rw [hw] at hn
    refine⟨d,_,rfl,DPut.t (k:=keyN (n,t)) (by rw [upd_ne hbd];exact hD1) (by rw [upd_same]<;>rfl) (Nat.lt_of_lt_of_le (Nat.lt_succ_self _) (small (by omega))),?_⟩
    have al:=addN_len dn (n,t)
    refine⟨sumW ls,by omega,us,ls,_,addN dn (n,t),_,rfl,sput (sput sH1 hb0) hd,?_,upd_same,hus,put_keys hkeys,hf,by omega,rfl⟩
    rw [upd_ne (Ne.symm hdl),upd_ne hbl,upd_same]
   |@pair p y z a b t ha hb =>
    have hw:(Kd.pair a b).words=1+a.words+b.words:=rfl
    rw [hw] at hn hjp ⊢
    have h1:=words_pos a
    have h2:=words_pos b
    refine⟨_,rfl,_,_,_,_,rfl,rfl,sH1.tup t,(show atI [V.str "pair",y,z] 0=some (.str "pair") from rfl),rfl,_,rfl,ite2 (fun _=>?_) (fun c=>absurd (by decide +kernel) c)⟩
    refine⟨_,rfl,.inl ⟨rfl,_,SqL.of upd_same⟩,_,rfl,_,_,_,_,rfl,rfl,sH1.tup t,(show atI [V.str "pair",y,z] 2=some z from rfl),l,_,_,rfl,rfl,upd_same,Nat.lt_of_lt_of_le (Nat.lt_succ_self _) (small (by omega)),?_⟩
    rw [upd_upd]
    refine⟨_,rfl,.inl ⟨rfl,_,SqL.of upd_same⟩,_,rfl,_,_,_,_,rfl,rfl,(sput sH hl0).tup t,(show atI [V.str "pair",y,z] 1=some y from rfl),l,_,_,rfl,rfl,upd_same,Nat.lt_of_lt_of_le (Nat.lt_succ_self _) (small (by rw [List.length_append];show us.length+1+1≤1000;omega)),?_⟩
    rw [upd_upd]
    have es:sumW (ls++[b]++[a])=sumW ls+b.words+a.words:=by rw [sumW_app,sumW_app,sumW_one,sumW_one]
    refine⟨sumW (ls++[b]++[a]),by rw [es];omega,us++[z]++[y],ls++[b]++[a],kvs,dn,_,rfl,sput sH hl0,upd_same,by rw [upd_ne hdl];exact hD,(hus.append (one hb)).append (one ha),hkeys,?_,by rw [es];omega,rfl⟩
    rw [restN_snoc,restN_snoc,←List.append_assoc]
    exact hf
  ·have c':¬(0:Int) < (vs.length:Int):=of_decide_eq_false (Bool.eq_false_iff.mpr c)
   have hv0:vs=[]:=List.length_eq_zero_iff.mp (by omega)
   subst hv0
   cases hv
   refine⟨_,rfl,d,kvs,rfl,hD,fun as o ho pr=>?_⟩
   have ef:dn=firsts [] (Kd.names k):=hf
   subst ef
   have so:Same H2 (upd H2 o (.lst (as.map V.ref))):=same_new ho _
   have ho0:H o=none:=by
    cases e:H o with
    |none=>rfl
    |some u=>rw [sH o u e] at ho;cases ho
   refine q _ o as (fun b u e=>so b u (sH b u e)) ho0 upd_same (paired_same so (paired_names hkeys pr))
 ·rintro σ H2 Q1 Q2 hq ⟨v,e1,a,xs,e2,hs,i,j,e3,e4,b,e5,h⟩
  exact⟨v,e1,a,xs,e2,hs,i,j,e3,e4,b,e5,hq _ _ h⟩
end
end K42
namespace K42
open PySem L2 Kk
theorem at_int{ns:List Int}{i:Int}(h0:0≤i)(h1:i < ns.length):∃v:Int,atI (ns.map V.int) i=some (.int v):=by
 have hk:i.toNat < List.length ns:=by omega
 have e:i=((i.toNat:Nat):Int):=by omega
 have q:atI (ns.map V.int) ((i.toNat:Nat):Int)=some (.int ns[i.toNat]):=atI_nat (by simp [hk])
 rw [←e] at q
 exact⟨_,q⟩
theorem at_ex{α:Type}{xs:List α}{i:Int}(h0:0≤i)(h1:i < xs.length):∃v,atI xs i=some v:=by
 have hk:i.toNat < xs.length:=by omega
 have e:i=((i.toNat:Nat):Int):=by omega
 have q:atI xs ((i.toNat:Nat):Int)=some xs[i.toNat]:=atI_nat (by simp)
 rw [←e] at q
 exact⟨_,q⟩
theorem sok_iff(z:Str):PyData.strOk z=true↔∀c∈z.cps.toList,c < 0x110000:=by
 unfold PyData.strOk
 rw [Array.all_eq_true_iff_forall_mem]
 simp
theorem sok_app{a b:Str}(ha:PyData.strOk a=true)(hb:PyData.strOk b=true):PyData.strOk (a++b)=true:=by
 rw [sok_iff] at *
 intro c hc
 have hc':c∈(a.cps++b.cps).toList:=hc
 rw [Array.toList_append] at hc'
 rcases List.mem_append.mp hc' with h|h
 ·exact ha c h
 ·exact hb c h
theorem sok_at{z:Str}{i:Int}{g:Nat}(h:PyData.strOk z=true)(hm:atI z.cps.toList i=some g):PyData.strOk ⟨#[g]⟩=true:=by
 rw [sok_iff] at *
 intro c hc
 have:c=g:=by simpa using hc
 subst this
 unfold atI at hm
 obtain⟨j,_,e⟩:=Option.bind_eq_some_iff.mp hm
 exact h c (List.mem_of_getElem? e)
def Kd.sok:Kd→Bool
 |.num _=>true
 |.name q t=>PyData.strOk q&&PyData.strOk t
 |.pair a b=>Kd.sok a&&Kd.sok b
theorem len_app(a b:Str):(a++b).length=a.length+b.length:=by
 show Array.size (a.cps++b.cps)=_
 rw [Array.size_append]<;>rfl
section
variable{P:Program}{w:World}{K:PySem.W.Frag}{mg:Str→Option Value}{base:Heap}
theorem same_trans{H H1 H2:Hp}(a:Same H H1)(b:Same H1 H2):Same H H2:=fun x o e=>b x o (a x o e)
end
end K42
namespace K42
open PySem L2 Kk
theorem sqt_upd{K:PySem.W.Frag}{H:Hp}{l a:Addr}{ys xs:List V}{o:HO}(h:H l=some (.lst ys))(t:SqT K H a xs):SqT K (upd H l o) a xs:=by
 rcases t with (t|⟨o',t⟩)|t
 ·exact .inl (.inl (by rw [upd_ne (fun e=>by rw [e,h] at t;cases t)];exact t))
 ·exact .inl (.inr ⟨o',by rw [upd_ne (fun e=>by rw [e,h] at t;cases t)];exact t⟩)
 ·exact .inr t
theorem kd_keep{K:PySem.W.Frag}{H H':Hp}(e:∀a xs,SqT K H a xs→SqT K H' a xs):∀{x:V} {k:Kd},KdAt K H x k→KdAt K H' x k
 |_,_,.num h=>.num (e _ _ h)
 |_,_,.name h=>.name (e _ _ h)
 |_,_,.pair h a b=>.pair (e _ _ h) (kd_keep e a) (kd_keep e b)
theorem kds_keep{K:PySem.W.Frag}{H H':Hp}(e:∀a xs,SqT K H a xs→SqT K H' a xs):∀{xs:List V} {ks:List Kd},KdsAt K H xs ks→KdsAt K H' xs ks
 |_,_,.nil=>.nil
 |_,_,.cons a b=>.cons (kd_keep e a) (kds_keep e b)
theorem sql_same{K:PySem.W.Frag}{H H':Hp}{a:Addr}{xs:List V}(e:Same H H')(h:SqL K H a xs):SqL K H' a xs:=by
 rcases h with (h|⟨o,h⟩)|h
 ·exact .inl (.inl (e _ _ h))
 ·exact .inl (.inr ⟨o,e _ _ h⟩)
 ·exact .inr h
end K42
namespace K42
open PySem L2 Kk
def flat(ks:List Kd):List Kd:=(ks.map Kd.leaves).flatten
theorem cut_to{vs:List V}{n:Nat}(h:n≤vs.length):cutV vs none (some (n:Int))=vs.take n:=by
 unfold cutV
 rw [HT.sIx_none,HT.sIx_nat,Nat.min_eq_left h]
 rfl
theorem cut_from{vs:List V}{n:Nat}(h:n≤vs.length):cutV vs (some (n:Int)) none=vs.drop n:=by
 unfold cutV
 rw [HT.sIx_none,HT.sIx_nat,Nat.min_eq_left h,List.take_of_length_le (by rw [List.length_drop];exact Nat.le_refl _)]
end K42
namespace K42
open PySem L2 Kk
theorem call_isi{X:Cx}:CallR X (.builtin "isinstance") (fun xs H Q=>∃x T t b,xs=[x,.ty T]∧TyOf X.K H x t∧PySem.W.kitOne X.K t (.type T)=some b∧Q (.bl b) H):=by
 intro pins s σ H xs us Q I rv h
 obtain⟨x,T,t,b,rfl,ty,e,q⟩:=h
 obtain⟨u,v,rfl,r1,r2⟩:=rv.two
 cases r2
 exact isinst_ok I r1 ty e fun tk=>⟨.bl b,H,I.tok _,rfl,q⟩
theorem kit_ii(K:PySem.W.Frag):PySem.W.kitOne K (.type "int") (.type "int")=some true:=rfl
theorem kit_ib(K:PySem.W.Frag):PySem.W.kitOne K (.type "int") (.type "bool")=some false:=rfl
theorem bootInt:bootBuiltins "int"=some (.type "int"):=by decide +kernel
theorem bootTuple:bootBuiltins "tuple"=some (.type "tuple"):=by decide +kernel
end K42
namespace K42
open PySem L2 Kk
def Kd.put(G:Str × Str→Option Kd):Kd→Kd
 |.num n=>.num n
 |.name q t=>(G (q,t)).getD (.name q t)
 |.pair a b=>.pair (Kd.put G a) (Kd.put G b)
def Kd.depth:Kd→Nat
 |.num _=>1
 |.name _ _=>1
 |.pair a b=>1+max (Kd.depth a) (Kd.depth b)
theorem depth_pos(k:Kd):1≤Kd.depth k:=by
 cases k with
 |num _=>exact Nat.le_refl _
 |name _ _=>exact Nat.le_refl _
 |pair a b=>exact Nat.le_add_right _ _
theorem depth_leaves:∀k:Kd,Kd.depth k≤k.leaves.length
 |.num _=>Nat.le_refl _
 |.name _ _=>Nat.le_refl _
 |.pair a b=>by
  have h1:=depth_leaves a
  have h2:=depth_leaves b
  have h3:=leaves_pos a
  have h4:=leaves_pos b
  show 1+max (Kd.depth a) (Kd.depth b)≤(a.leaves++b.leaves).length
  rw [List.length_append]
  omega
def GvAt(K:PySem.W.Frag)(H:Hp)(kvs:List (List Key × V))(G:Str × Str→Option Kd):Prop :=
 ∀n,(valV kvs (keyN n)=none∧G n=none)∨∃v k,valV kvs (keyN n)=some v∧G n=some k∧KdAt K H v k
theorem GvAt.same{K:PySem.W.Frag}{H H':Hp}{kvs:List (List Key × V)}{G:Str × Str→Option Kd}(e:Same H H')(h:GvAt K H kvs G):GvAt K H' kvs G:=fun n=>by
 rcases h n with h|⟨v,k,h1,h2,h3⟩
 ·exact .inl h
 ·exact .inr ⟨v,k,h1,h2,h3.same e⟩
def spPut(K:PySem.W.Frag)(n:Nat):Sp:=fun vs H Q _=>∃(x:V) (g:Addr) (k:Kd) (kvs:List (List Key × V)) (G:Str × Str→Option Kd),vs=[x,.ref g]∧KdAt K H x k∧Kd.depth k≤n∧H g=some (.dT kvs)∧GvAt K H kvs G ∧
 ∀H' v,Same H H'→KdAt K H' v (Kd.put G k)→Q v H'
section
variable{P:Program}{w:World}{K:PySem.W.Frag}{mg:Str→Option Value}{base:Heap}
theorem scPut:FnScope ["kind","given"] ["kind","given"] (defScope sPut):=⟨rfl,rfl,rfl,by decide +kernel,rfl,by decide +kernel,by decide +kernel⟩
theorem ok_put{f:Addr}{fd:FuncData} (F:Fun K "put" "put" sPut f fd) (bP:Binds K fd ["kind","given"] []) (kP:PySem.W.keepIn K (.ref f)=true) (mP:mg "put"=some (.ref f)) :
  ∀n,FnOk P w K mg base CX0 n f fd ["kind","given"] (spPut K n)
 |0=>⟨fun vs H Q E h=>by obtain⟨x,g,k,kvs,G,rfl,_⟩:=h;rfl,fun A outer s H args us vs Q E _ _ _ _ h=>by
   obtain⟨x,g,k,kvs,G,_,_,hd,_⟩:=h
   have:=depth_pos k
   omega⟩
 |n+1=>by
  have IH:=ok_put F bP kP mP n
  refine F.ok scPut (fun vs H Q E h=>?_) (fun cdv A outer s H vs Q E hr h=>?_)
  ·obtain⟨x,g,k,kvs,G,rfl,_⟩:=h
   rfl
  obtain⟨x,g,k,kvs,G,rfl,hk,hd,hg,hG,q⟩:=h
  have hu:=hu_of hr
  refine⟨_,pss_cons (ps_if (pt_cmpR op_eq (pe_ix ix_tup (pv 0) pe_int (fun _ _=>rfl)) pe_str (nomark _))
    (pss_one (ps_ret (pe_tup (pa_cons pe_str (pa_cons (pe_call IH hr rfl mP kP bP .nil pass0 (pa_cons (pe_ix ix_tup (pv 0) pe_int (fun _ _=>rfl)) (pa_cons (pv 1) pa_nil)))
     (pa_cons (pe_call IH hr rfl mP kP bP .nil pass0 (pa_cons (pe_ix ix_tup (pv 0) pe_int (fun _ _=>rfl)) (pa_cons (pv 1) pa_nil))) pa_nil)))))) pss_nil)
   (pss_cons (ps_if (pt_cmpR op_eq (pe_ix ix_tup (pv 0) pe_int (fun _ _=>rfl)) pe_str (nomark _))
    (pss_one (ps_ret (pe_dget2 hu (pv 1) (pe_tup (pa_cons (pe_ix ix_tup (pv 0) pe_int (fun _ _=>rfl)) (pa_cons (pe_ix ix_tup (pv 0) pe_int (fun _ _=>rfl)) pa_nil))) (pv 0) ⟨rfl,rfl,rfl,rfl⟩))) pss_nil)
   (pss_one (ps_ret (pv 0)))),?_⟩
  cases hk with
  |@num p m t =>
   refine⟨_,rfl,_,_,_,_,rfl,rfl,t,(show atI [V.str "num",.int m] 0=some (.str "num") from rfl),rfl,_,rfl,ite2 (fun c=>absurd c (by decide +kernel)) (fun _=>?_)⟩
   refine⟨_,rfl,_,_,_,_,rfl,rfl,t,(show atI [V.str "num",.int m] 0=some (.str "num") from rfl),rfl,_,rfl,ite2 (fun c=>absurd c (by decide +kernel)) (fun _=>?_)⟩
   exact⟨_,rfl,q _ _ (Same.refl _) (.num t)⟩
  |@name p a b t =>
   refine⟨_,rfl,_,_,_,_,rfl,rfl,t,(show atI [V.str "name",.str a,.str b] 0=some (.str "name") from rfl),rfl,_,rfl,ite2 (fun c=>absurd c (by decide +kernel)) (fun _=>?_)⟩
   refine⟨_,rfl,_,_,_,_,rfl,rfl,t,(show atI [V.str "name",.str a,.str b] 0=some (.str "name") from rfl),rfl,_,rfl,ite2 (fun _=>?_) (fun c=>absurd (by decide +kernel) c)⟩
   refine⟨_,rfl,g,rfl,.inr ⟨kvs,.inl hg⟩,_,rfl,_,_,_,_,rfl,rfl,t,(show atI [V.str "name",.str a,.str b] 1=some (.str a) from rfl),_,rfl,_,_,_,_,rfl,rfl,t,(show atI [V.str "name",.str a,.str b] 2=some (.str b) from rfl),(by show 2≤sizeLine;decide),fun y hy=>?_⟩
   have sy:=same_new hy (.tup [.str a,.str b])
   refine⟨_,rfl,_,DGet.t (k:=keyN (a,b)) (sy _ _ hg) upd_same,q _ _ sy ?_⟩
   show KdAt K _ ((valV kvs (keyN (a,b))).getD _) ((G (a,b)).getD (.name a b))
   rcases hG (a,b) with ⟨h1,h2⟩|⟨v,k',h1,h2,h3⟩
   ·rw [h1,h2]
    exact .name (sy.tup t)
   ·rw [h1,h2]
    exact h3.same sy
  |@pair p y z a b t ha hb =>
   have hd':1+max (Kd.depth a) (Kd.depth b)≤n+1:=hd
   refine⟨_,rfl,_,_,_,_,rfl,rfl,t,(show atI [V.str "pair",y,z] 0=some (.str "pair") from rfl),rfl,_,rfl,ite2 (fun _=>?_) (fun c=>absurd (by decide +kernel) c)⟩
   refine⟨_,rfl,_,_,_,_,rfl,rfl,t,(show atI [V.str "pair",y,z] 1=some y from rfl),_,rfl,y,g,a,kvs,G,rfl,ha,by omega,hg,hG,fun H1 v1 s1 k1=>?_⟩
   refine⟨_,rfl,_,_,_,_,rfl,rfl,s1.tup t,(show atI [V.str "pair",y,z] 2=some z from rfl),_,rfl,z,g,b,kvs,G,rfl,hb.same s1,by omega,s1 _ _ hg,hG.same s1,fun H2 v2 s2 k2=>?_⟩
   refine⟨(by show 3≤sizeLine;decide),fun c hc=>q _ _ (same_trans (same_trans s1 s2) (same_new hc _)) ?_⟩
   exact .pair (SqT.of upd_same) ((k1.same s2).same (same_new hc _)) (k2.same (same_new hc _))
theorem log_small{i:Int}(h0:0≤i)(h1:i≤1000000):i.natAbs.log2 < 1920:=by
 by_cases hz:i.natAbs=0
 ·rw [hz];decide
 ·refine(Nat.log2_lt hz).mpr (Nat.lt_of_le_of_lt (m:=1000000) (by omega) ?_)
  exact Nat.lt_of_lt_of_le (show 1000000 < 2 ^ 20 by decide) (Nat.pow_le_pow_right (by decide) (by decide))
theorem txt_small{i:Int}(h0:0≤i)(h1:i≤1000000):(Str.ofString (toString i)).length≤100000:=by
 have:=PyProof.Rows.toString_length_le h0 (k:=7) (by decide) (Int.lt_of_le_of_lt h1 (by decide))
 omega
end
end K42
namespace K42
open PySem L2 Kk Builtin.Str
end K42
namespace K42
open PySem L2 Kk
def chF(i:Int):Nat:=(atI (Str.ofString "abcdefghijklmnopqrstuvwxyz").cps.toList i).getD 97
theorem chF_ok(i:Int):PyData.strOk ⟨#[chF i]⟩=true:=by
 unfold chF
 cases h:atI (Str.ofString "abcdefghijklmnopqrstuvwxyz").cps.toList i with
 |none=>decide +kernel
 |some g=>exact sok_at (by decide +kernel) h
theorem inV_str{z:Str}{ws:List Str}:inV (V.str z) (ws.map V.str)=true↔z∈ws:=by
 unfold inV
 rw [List.any_eq_true]
 constructor
 ·rintro⟨y,hy,e⟩
  obtain⟨u,hu,rfl⟩:=List.mem_map.mp hy
  have e':(u==z)=true:=e
  rw [←eq_of_beq e']
  exact hu
 ·intro h
  exact⟨V.str z,List.mem_map.mpr ⟨z,h,rfl⟩,(show(z==z)=true from beq_self_eq_true z)⟩
section
variable{P:Program}{w:World}{K:PySem.W.Frag}{mg:Str→Option Value}{base:Heap}
end
end K42
namespace K42
open PySem L2 Kk
def okW(z:Str):Prop:=PyData.strOk z=true∧z.length≤9000
abbrev sInit:Stmt:=inClass (top 14) 0
theorem kf':¬(("kinds":Str)="funs"):=by decide +kernel
def Kd.ok:Kd→Prop
 |.num _=>True
 |.name q t=>okW q∧okW t
 |.pair a b=>Kd.ok a∧Kd.ok b
theorem names_ok:∀{k:Kd},Kd.ok k→∀n∈Kd.names k,okW n.1∧okW n.2
 |.num _,_,n,hn=>nomatch hn
 |.name q t,h,n,hn=>by
  obtain rfl:=List.mem_singleton.mp hn
  exact h
 |.pair a b,h,n,hn=>by
  rcases List.mem_append.mp hn with z|z
  ·exact names_ok h.1 n z
  ·exact names_ok h.2 n z
section
variable{P:Program}{w:World}{K:PySem.W.Frag}{mg:Str→Option Value}{base:Heap}
theorem bootDict:bootBuiltins "dict"=some (.type "dict"):=by decide +kernel
theorem scInit:FnScope ["self","kinds","funs"] ["self","kinds","funs"] (defScope sInit):=⟨rfl,rfl,rfl,by decide +kernel,rfl,by decide +kernel,by decide +kernel⟩
end
end K42
namespace K42
open PySem L2 Kk
def smW(z:Str):Prop:=PyData.strOk z=true∧z.length≤14
section
variable{P:Program}{w:World}{K:PySem.W.Frag}{mg:Str→Option Value}{base:Heap}
theorem flat_strs(ws:List Str):(ws.map V.str).all flatV=true:=by
 induction ws with
 |nil=>rfl
 |cons z ws ih =>
  rw [List.map_cons,List.all_cons,ih]
  rfl
end
end K42
namespace K42
open PySem L2 Kk
def spPutFun(K:PySem.W.Frag)(n:Nat):Sp:=fun vs H Q _=>∃(p g ta:Addr) (x:V) (xs:List V) (ks:List Kd) (k:Kd) (kvs:List (List Key × V)) (G:Str × Str→Option Kd),vs=[.ref p,.ref g]∧SqT K H p [.ref ta,x]∧SqT K H ta xs∧KdsAt K H xs ks∧KdAt K H x k ∧
 (∀k'∈ks,Kd.depth k'≤n)∧Kd.depth k≤n∧ks.length≤100∧H g=some (.dT kvs)∧GvAt K H kvs G ∧
 ∀H' (p' ta':Addr) (xs':List V) (x':V),Same H H'→H' p'=some (.tup [.ref ta',x'])→H' ta'=some (.tup xs')→KdsAt K H' xs' (ks.map (Kd.put G))→KdAt K H' x' (Kd.put G k)→Q (.ref p') H'
section
variable{P:Program}{w:World}{K:PySem.W.Frag}{mg:Str→Option Value}{base:Heap}
theorem scPutFun:FnScope ["fun","given"] ["fun","given"] (defScope sPutFun):=⟨rfl,rfl,rfl,by decide +kernel,rfl,by decide +kernel,by decide +kernel⟩
theorem kds_get{H:Hp}:∀{xs:List V} {ks:List Kd},KdsAt K H xs ks→∀{i:Nat} {x:V},xs[i]?=some x→∃k,ks[i]?=some k∧KdAt K H x k
 |_,_,.nil,i,x,h=>by simp at h
 |_,_,.cons a t,0,x,h=>by
  simp at h
  subst h
  exact⟨_,rfl,a⟩
 |_,_,.cons a t,i+1,x,h=>by
  simp at h
  obtain⟨k,hk,r⟩:=kds_get t h
  exact⟨k,by simpa using hk,r⟩
set_option maxHeartbeats 0 in
theorem ok_putFun{n:Nat}{f fp:Addr}{fd fdp:FuncData} (F:Fun K "put_in_fun" "put_in_fun" sPutFun f fd) (GP:FnOk P w K mg base CX0 n fp fdp ["kind","given"] (spPut K n)) (bP:Binds K fdp ["kind","given"] []) (kP:PySem.W.keepIn K (.ref fp)=true) (mP:mg "put"=some (.ref fp)) (mt:mg "tuple"=none) :
  FnOk P w K mg base CX0 (n+1) f fd ["fun","given"] (spPutFun K n):=by
 refine F.ok scPutFun (fun vs H Q E h=>?_) (fun cdv A outer s H vs Q E hr h=>?_)
 ·obtain⟨p,g,ta,x,xs,ks,k,kvs,G,rfl,_⟩:=h
  rfl
 obtain⟨p,g,ta,x,xs,ks,k,kvs,G,rfl,hp,hta,hks,hk,hdk,hd,hl,hg,hG,q⟩:=h
 refine⟨_,pss_one (ps_ret (pe_tup (pa_cons (pe_callTy call_tuple_of (by rfl) mt bootTuple (pa_cons (pe_comp (own:=["kind"]) (caps:=["given"]) (κ:=[1]) rfl ⟨rfl,by decide +kernel,by decide +kernel,rfl,rfl,(fun y hy=>by obtain rfl:=List.mem_singleton.mp hy;rfl),(fun y hy=>by obtain rfl:=List.mem_singleton.mp hy;exact⟨.inl rfl,rfl,.inl rfl⟩)⟩ rfl
  (pi_tup (pe_ix ix_tup (pv 0) pe_int (fun _ _=>rfl))) (fun _ _ _ _=>pg_name (i:=0) (show(["kind","given"]:List Str).Nodup from by decide +kernel) rfl (Or.inl rfl)) (fun _ _ _ _=>pe_call GP hr rfl mP kP bP .nil pass0 (pa_cons (pv 0) (pa_cons (pv 1) pa_nil)))) pa_nil))
  (pa_cons (pe_call GP hr (by rfl) mP kP bP .nil pass0 (pa_cons (pe_ix ix_tup (pv 0) pe_int (fun _ _=>rfl)) (pa_cons (pv 1) pa_nil))) pa_nil)))),?_⟩
 have hlx:=hks.length
 refine⟨_,rfl,p,_,_,_,rfl,rfl,hp,(show atI [V.ref ta,x] 0=some (.ref ta) from rfl),ta,rfl,⟨_,hta⟩,?_⟩
 refine comp_by (xs:=xs) (fun i ys H3=>Same H H3∧KdsAt K H3 ys ((ks.take i).map (Kd.put G))∧ys.length=i) ⟨Same.refl _,.nil,rfl⟩ (small (by omega)) ?_ ?_ ?_ ?_ ?_ ?_
 ·rintro i ys H3 ⟨_,_,h⟩
  exact Nat.le_of_eq h
 ·rintro i u ys H3 hu ⟨s3,_⟩
  exact⟨_,_,s3.tup hta,hu⟩
 ·rintro i ys u H3 H' hn ⟨s3,_⟩ hy
  exact⟨hy.1,hy.2 _ (s3.tup hta)⟩
 ·rintro ys H3 ⟨s3,_⟩
  exact⟨_,s3.tup hta,Nat.le_refl _⟩
 ·rintro i u ys H3 N hN hu ⟨s3,hys,hz⟩
  obtain⟨k1,hk1,hku⟩:=kds_get hks hu
  have hm:k1∈ks:=List.mem_of_getElem? hk1
  refine⟨rfl,tYes_go ⟨_,rfl,_,rfl,u,g,k1,kvs,G,rfl,hku.same s3,hdk k1 hm,s3 _ _ hg,hG.same s3,fun H4 v s4 hv=>hN _ _ ⟨s3.trans s4,?_,?_⟩⟩⟩
  ·have e:(ks.take (i+1)).map (Kd.put G)=(ks.take i).map (Kd.put G)++[Kd.put G k1]:=by
    rw [List.take_add_one,hk1]
    simp
   rw [e]
   exact(hys.same s4).append (one hv)
  ·rw [List.length_append,hz]
   rfl
 ·rintro ys H3 D ⟨s3,hys,hz⟩ hD
  have eA:ks.take xs.length=ks:=by rw [hlx];exact List.take_length
  rw [eA] at hys
  have e1:=same_new hD (.lst ys)
  refine⟨D,ys,rfl,.inl ⟨SqL.of upd_same,fun ta' hta'=>?_⟩⟩
  have e2:=same_new hta' (.tup ys)
  have s5:=s3.trans (e1.trans e2)
  refine⟨_,rfl,p,_,_,_,rfl,rfl,s5.tup hp,(show atI [V.ref ta,x] 1=some x from rfl),_,rfl,x,g,k,kvs,G,rfl,hk.same s5,hd,s5 _ _ hg,hG.same s5,fun H6 x' s6 hx'=>?_⟩
  refine⟨(by show 2≤sizeLine;decide),fun p' hp'=>?_⟩
  have e7:=same_new hp' (.tup [.ref ta',x'])
  exact q _ p' ta' ys x' (s5.trans (s6.trans e7)) upd_same (e7 _ _ (s6 _ _ upd_same)) (hys.same (e1.trans (e2.trans (s6.trans e7)))) (hx'.same e7)
end
end K42
namespace K42
open PySem L2 Kk
section
variable{P:Program}{w:World}{K:PySem.W.Frag}{mg:Str→Option Value}{base:Heap}
end
end K42
namespace K42
open PySem L2 Kk
def spInitF(CF:Addr):Sp:=fun vs H Q _=>∃(p dx a b:Addr) (kvs fvs:List (Key × V)),vs=[.ref p,.ref a,.ref b]∧H p=some (.ins CF dx [])∧H a=some (.dK kvs)∧H b=some (.dK fvs) ∧
 ∀(d e:Addr) (fs:List (Str × V)) (H':Hp),H d=none→H e=none→d≠e→H' p=some (.ins CF dx fs)→fs.lookup ("kinds":Str)=some (.ref d)→fs.lookup ("funs":Str)=some (.ref e)→fs.lookup ("hidden":Str)=none→fs.lookup ("put":Str)=none→H' d=some (.dK kvs)→H' e=some (.dK fvs)→(∀c o,H c=some o→c≠p→H' c=some o)→Q .non H'
section
variable{P:Program}{w:World}{K:PySem.W.Frag}{mg:Str→Option Value}{base:Heap}
theorem ok_initF{f CF:Addr}{fd:FuncData} (F:Fun K "__init__" "Face.__init__" sInit f fd) (cF:Cls K CF) (nK:NoAttr K CF "kinds") (nF:NoAttr K CF "funs") (md:mg "dict"=none):FnOk P w K mg base CX0 1 f fd ["self","kinds","funs"] (spInitF CF):=by
 refine F.ok scInit (fun vs H Q E h=>?_) (fun cdv A outer s H vs Q E hr h=>?_)
 ·obtain⟨p,dx,a,b,kvs,fvs,rfl,_⟩:=h
  rfl
 obtain⟨p,dx,a,b,kvs,fvs,rfl,hp,ha,hb,q⟩:=h
 refine⟨_,pss_cons (ps_fld (pv 0) (pe_callTy call_dict_dK rfl md bootDict (pa_cons (pv 1) pa_nil)) rfl) (pss_one (ps_fld (pv 0) (pe_callTy call_dict_dK rfl md bootDict (pa_cons (pv 2) pa_nil)) rfl)),?_⟩
 refine⟨_,rfl,a,kvs,rfl,ha,fun d hd=>?_⟩
 have npd:p≠d:=ne_of_none hp hd
 refine⟨_,rfl,p,CF,dx,[],rfl,(by rw [upd_ne npd];exact hp),cF,nK,(by show 0 < 1000;decide),?_⟩
 have hb1:upd (upd H d (.dK kvs)) p (.ins CF dx (putF "kinds" (.ref d) [])) b=some (.dK fvs):=by
  rw [upd_ne (ne_of hb hp (by intro z;cases z)),upd_ne (ne_of_none hb hd)]
  exact hb
 refine⟨_,rfl,b,fvs,rfl,hb1,fun e he=>?_⟩
 have npe:p≠e:=fun z=>by rw [←z,upd_same] at he;cases he
 have nde:d≠e:=fun z=>by rw [←z,upd_ne npd.symm,upd_same] at he;cases he
 have he0:H e=none:=by
  rw [upd_ne npe.symm,upd_ne nde.symm] at he
  exact he
 refine⟨_,rfl,p,CF,dx,_,rfl,(by rw [upd_ne npe];exact upd_same),cF,nF,(by show 1 < 1000;decide),?_⟩
 refine q d e _ _ hd he0 nde upd_same (by rw [lookup_putF,if_neg kf',lookup_putF,if_pos rfl]) (by rw [lookup_putF,if_pos rfl]) (by rw [lookup_putF,if_neg (by decide +kernel),lookup_putF,if_neg (by decide +kernel)];rfl) (by rw [lookup_putF,if_neg (by decide +kernel),lookup_putF,if_neg (by decide +kernel)];rfl) ?_ ?_ fun c o ec hc=>?_
 ·rw [upd_ne npd.symm,upd_ne nde,upd_ne npd.symm,upd_same]
 ·rw [upd_ne npe.symm,upd_same]
 ·have hce:c≠e:=fun z=>by
   rw [z] at ec hc
   rw [he0] at ec
   cases ec
  rw [upd_ne hc,upd_ne hce,upd_ne hc,upd_ne (ne_of_none ec hd)]
  exact ec
end
end K42
namespace K42
open PySem L2 Kk
def PkAt{α:Type}(R:V→α→Prop)(kvs:List (Key × V))(m:List (Str × α)):Prop:=Paired (fun(p:Key × V) (q:Str × α)=>p.1=.inr q.1∧R p.2 q.2) kvs m
theorem PkAt.snoc{α:Type}{R:V→α→Prop}{kvs:List (Key × V)}{m:List (Str × α)}{z:Str}{v:V}{x:α}(h:PkAt R kvs m)(hv:R v x):PkAt R (kvs++[(.inr z,v)]) (m++[(z,x)]):=by
 unfold PkAt at h ⊢
 induction h with
 |nil=>exact .cons ⟨rfl,hv⟩ .nil
 |cons a _ ih=>exact .cons a ih
theorem PkAt.imp{α:Type}{R S:V→α→Prop}{kvs:List (Key × V)}{m:List (Str × α)}(f:∀v x,R v x→S v x)(h:PkAt R kvs m):PkAt S kvs m:=Paired.mapP h fun _ _ ⟨e,r⟩=>⟨e,f _ _ r⟩
theorem PkAt.keys{α:Type}{R:V→α→Prop}{kvs:List (Key × V)}{m:List (Str × α)}(h:PkAt R kvs m):kvs.map (·.1)=m.map fun q=>(Sum.inr q.1:Key):=by
 unfold PkAt at h
 induction h with
 |nil=>rfl
 |cons a _ ih=>rw [List.map_cons,List.map_cons,ih,a.1]
theorem valV_out{kvs:List (Key × V)}{k:Key}(h:k∉kvs.map (·.1)):valV kvs k=none:=by
 cases e:valV kvs k with
 |none=>rfl
 |some v =>
  exfalso
  apply h
  unfold valV at e
  obtain⟨p,hp,_⟩:=Option.map_eq_some_iff.mp e
  have h1:=List.mem_of_find?_eq_some hp
  have h2:=List.find?_some hp
  have h3:p.1=k:=by simpa using h2
  rw [←h3]
  exact List.mem_map_of_mem h1
theorem PkAt.put{α:Type}{R:V→α→Prop}{kvs:List (Key × V)}{m:List (Str × α)}{z:Str}{v:V}{x:α}(h:PkAt R kvs m)(hz:z∉m.map (·.1))(hv:R v x):PkAt R (putK kvs (.inr z) v) (m++[(z,x)]):=by
 rw [putK_new v (valV_out ?_)]
 ·exact h.snoc hv
 ·rw [h.keys]
  intro hm
  obtain⟨q,hq,e⟩:=List.mem_map.mp hm
  exact hz (by rw [←Sum.inr.inj e];exact List.mem_map_of_mem hq)
def FunAt(K:PySem.W.Frag)(H:Hp)(v:V)(f:List Kd × Kd):Prop:=∃(p ta:Addr) (x:V) (xs:List V),v=.ref p∧SqT K H p [.ref ta,x]∧SqT K H ta xs∧KdsAt K H xs f.1∧KdAt K H x f.2
theorem FunAt.keep{K:PySem.W.Frag}{H H':Hp}{v:V}{f:List Kd × Kd}(e:∀a xs,SqT K H a xs→SqT K H' a xs)(h:FunAt K H v f):FunAt K H' v f:=by
 obtain⟨p,ta,x,xs,h1,h2,h3,h4,h5⟩:=h
 exact⟨p,ta,x,xs,h1,e _ _ h2,e _ _ h3,kds_keep e h4,kd_keep e h5⟩
end K42
namespace K42
open PySem L2 Kk
theorem sqt_dk{H:Hp}{l a:Addr}{kvs:List (Key × V)}{xs:List V}{o:HO}(h:H l=some (.dK kvs))(t:SqT K H a xs):SqT K (upd H l o) a xs:=by
 rcases t with (t|⟨o',t⟩)|t
 ·exact .inl (.inl (by rw [upd_ne (fun e=>by rw [e,h] at t;cases t)];exact t))
 ·exact .inl (.inr ⟨o',by rw [upd_ne (fun e=>by rw [e,h] at t;cases t)];exact t⟩)
 ·exact .inr t
def FaceF(K:PySem.W.Frag)(H:Hp)(CF fa:Addr)(m1:List (Str × Kd))(m2:List (Str × (List Kd × Kd))):Prop :=
 ∃(dx d1 d2:Addr) (fs:List (Str × V)) (kv1 kv2:List (Key × V)),H fa=some (.ins CF dx fs)∧fs.lookup ("kinds":Str)=some (.ref d1)∧fs.lookup ("funs":Str)=some (.ref d2)∧H d1=some (.dK kv1)∧H d2=some (.dK kv2)∧PkAt (KdAt K H) kv1 m1∧PkAt (FunAt K H) kv2 m2∧fs.lookup ("hidden":Str)=none∧fs.lookup ("put":Str)=none
end K42
namespace K42
open PySem L2 Kk
def Kd.dat:Kd→PyData
 |.num n=>.tuple [.str "num",.int n]
 |.name q t=>.tuple [.str "name",.str q,.str t]
 |.pair a b=>.tuple [.str "pair",Kd.dat a,Kd.dat b]
theorem kd_dat{K:PySem.W.Frag}{H:Hp}:∀{x:V} {k:Kd},KdAt K H x k→Dat K H x (Kd.dat k)
 |_,_,.num t=>.tup t (.cons (.str _) (.cons (.int _) .nil))
 |_,_,.name t=>.tup t (.cons (.str _) (.cons (.str _) (.cons (.str _) .nil)))
 |_,_,.pair t a b=>.tup t (.cons (.str _) (.cons (kd_dat a) (.cons (kd_dat b) .nil)))
theorem eqv_tup(xs ys:List PyData):PyData.eqv (.tuple xs) (.tuple ys)=PyData.eqvAll xs ys:=by simp [PyData.eqv]
theorem eqvA_cons(x y:PyData)(xs ys:List PyData):PyData.eqvAll (x::xs) (y::ys)=(PyData.eqv x y&&PyData.eqvAll xs ys):=by simp [PyData.eqvAll]
theorem eqvA_nil:PyData.eqvAll [] []=true:=by simp [PyData.eqvAll]
theorem eqv_str(x y:Str):PyData.eqv (.str x) (.str y)=decide (x=y):=by
 rw [show PyData.eqv (.str x) (.str y)=(x==y) by simp [PyData.eqv]]
 rfl
theorem eqv_int(x y:Int):PyData.eqv (.int x) (.int y)=decide (x=y):=by
 rw [show PyData.eqv (.int x) (.int y)=(x==y) by simp [PyData.eqv]]
 rfl
theorem eqv_dat(a:Kd):∀b:Kd,PyData.eqv (Kd.dat a) (Kd.dat b)=decide (a=b):=by
 induction a with
 |num n =>
  intro b
  cases b with
  |num m =>
   show PyData.eqv (.tuple [.str "num",.int n]) (.tuple [.str "num",.int m])=_
   rw [eqv_tup,eqvA_cons,eqvA_cons,eqvA_nil,eqv_str,eqv_int]
   simp
  |name q t =>
   show PyData.eqv (.tuple (.str "num"::_)) (.tuple (.str "name"::_))=_
   rw [eqv_tup,eqvA_cons,eqv_str,decide_eq_false (by decide +kernel),decide_eq_false (by intro e;cases e)]
   rfl
  |pair c d =>
   show PyData.eqv (.tuple (.str "num"::_)) (.tuple (.str "pair"::_))=_
   rw [eqv_tup,eqvA_cons,eqv_str,decide_eq_false (by decide +kernel),decide_eq_false (by intro e;cases e)]
   rfl
 |name q t =>
  intro b
  cases b with
  |num m =>
   show PyData.eqv (.tuple (.str "name"::_)) (.tuple (.str "num"::_))=_
   rw [eqv_tup,eqvA_cons,eqv_str,decide_eq_false (by decide +kernel),decide_eq_false (by intro e;cases e)]
   rfl
  |name q' t' =>
   show PyData.eqv (.tuple [.str "name",.str q,.str t]) (.tuple [.str "name",.str q',.str t'])=_
   rw [eqv_tup,eqvA_cons,eqvA_cons,eqvA_cons,eqvA_nil,eqv_str,eqv_str,eqv_str]
   simp
  |pair c d =>
   show PyData.eqv (.tuple (.str "name"::_)) (.tuple (.str "pair"::_))=_
   rw [eqv_tup,eqvA_cons,eqv_str,decide_eq_false (by decide +kernel),decide_eq_false (by intro e;cases e)]
   rfl
 |pair a1 a2 h1 h2 =>
  intro b
  cases b with
  |num m =>
   show PyData.eqv (.tuple (.str "pair"::_)) (.tuple (.str "num"::_))=_
   rw [eqv_tup,eqvA_cons,eqv_str,decide_eq_false (by decide +kernel),decide_eq_false (by intro e;cases e)]
   rfl
  |name q' t' =>
   show PyData.eqv (.tuple (.str "pair"::_)) (.tuple (.str "name"::_))=_
   rw [eqv_tup,eqvA_cons,eqv_str,decide_eq_false (by decide +kernel),decide_eq_false (by intro e;cases e)]
   rfl
  |pair c d =>
   show PyData.eqv (.tuple [.str "pair",Kd.dat a1,Kd.dat a2]) (.tuple [.str "pair",Kd.dat c,Kd.dat d])=_
   rw [eqv_tup,eqvA_cons,eqvA_cons,eqvA_cons,eqvA_nil,eqv_str,h1,h2]
   simp
theorem lay_kd:∀{k:Kd},Kd.ok k→PyData.canLay0 (Kd.dat k)=true
 |.num n,_=>by
  have h:PyData.strOk "num"=true:=by decide +kernel
  simp [Kd.dat,PyData.canLay0,PyData.canLayAll0,h]
 |.name q t,⟨h1,h2⟩=>by
  have h:PyData.strOk "name"=true:=by decide +kernel
  simp [Kd.dat,PyData.canLay0,PyData.canLayAll0,h,h1.1,h2.1]
 |.pair a b,⟨h1,h2⟩=>by
  have h:PyData.strOk "pair"=true:=by decide +kernel
  simp [Kd.dat,PyData.canLay0,PyData.canLayAll0,h,lay_kd h1,lay_kd h2]
theorem deep_kd:∀k:Kd,PyData.depth (Kd.dat k)≤Kd.depth k
 |.num n=>by simp [Kd.dat,PyData.depth,PyData.depthAll,Kd.depth]
 |.name q t=>by simp [Kd.dat,PyData.depth,PyData.depthAll,Kd.depth]
 |.pair a b=>by
  have h1:=deep_kd a
  have h2:=deep_kd b
  simp only [Kd.dat,PyData.depth,PyData.depthAll,Kd.depth]
  omega
theorem kd_shaped{k:Kd}(h:Kd.ok k)(hd:Kd.depth k≤60):SeqAt.shaped (Kd.dat k)=true:=by
 have h1:=lay_kd h
 have h2:=deep_kd k
 unfold SeqAt.shaped
 rw [h1,decide_eq_true (show PyData.depth (Kd.dat k)≤64 by omega)]
 rfl
theorem depth_words:∀k:Kd,Kd.depth k≤k.words
 |.num n=>Nat.le_refl _
 |.name q t=>Nat.le_refl _
 |.pair a b=>by
  have h1:=depth_words a
  have h2:=depth_words b
  simp only [Kd.depth,Kd.words]
  omega
abbrev sHidden:Stmt:=inClass (top 14) 2
def ownK(z:Str):Kd:=.name "" z
def spOwn(K:PySem.W.Frag):Sp:=fun vs H Q _=>∃z:Str,vs=[.str z]∧∀H' x,Same H H'→KdAt K H' x (ownK z)→Q x H'
def hidB(q:Str × Kd):Bool:=decide (q.2=ownK q.1)
def hidL(m:List (Str × Kd)):List Str:=(m.filter hidB).map (·.1)
def spHidden(K:PySem.W.Frag)(CF:Addr):Sp:=fun vs H Q _=>∃(fa:Addr) (m1:List (Str × Kd)) (m2:List (Str × (List Kd × Kd))),vs=[.ref fa]∧FaceF K H CF fa m1 m2∧m1.length≤100∧(∀q∈m1,okW q.1∧Kd.ok q.2∧Kd.depth q.2≤60) ∧
 ∀H' (l:Addr),Same H H'→H l=none→H' l=some (.lst ((hidL m1).map V.str))→Q (.ref l) H'
theorem ok_empty:okW "":=⟨by decide +kernel,by decide +kernel⟩
section
variable{P:Program}{w:World}{K:PySem.W.Frag}{mg:Str→Option Value}{base:Heap}
theorem scOwn:FnScope ["word"] ["word"] (defScope sOwn):=⟨rfl,rfl,rfl,by decide +kernel,rfl,by decide +kernel,by decide +kernel⟩
theorem ok_own{f:Addr}{fd:FuncData} (F:Fun K "own_name" "own_name" sOwn f fd):FnOk P w K mg base CX0 1 f fd ["word"] (spOwn K):=by
 refine F.ok scOwn (fun vs H Q E h=>?_) (fun cdv A outer s H vs Q E hr h=>?_)
 ·obtain⟨z,rfl,_⟩:=h
  rfl
 obtain⟨z,rfl,q⟩:=h
 refine⟨_,pss_one (ps_ret (pe_tup (pa_cons pe_str (pa_cons pe_str (pa_cons (pv 0) pa_nil))))),?_⟩
 exact⟨_,rfl,(by show 3≤sizeLine;decide),fun p hp=>q _ _ (same_new hp _) (.name (SqT.of upd_same))⟩
theorem scHidden:FnScope ["self"] ["self"] (defScope sHidden):=⟨rfl,rfl,rfl,by decide +kernel,rfl,by decide +kernel,by decide +kernel⟩
set_option maxHeartbeats 0 in
theorem ok_hidden{f fo CF:Addr}{fd fdo:FuncData} (F:Fun K "hidden" "Face.hidden" sHidden f fd) (GO:FnOk P w K mg base CX0 1 fo fdo ["word"] (spOwn K)) (bO:Binds K fdo ["word"] []) (kO:PySem.W.keepIn K (.ref fo)=true) (mO:mg "own_name"=some (.ref fo)) (cF:Cls K CF) (nK:NoAttr K CF "kinds") :
  FnOk P w K mg base CX0 2 f fd ["self"] (spHidden K CF):=by
 refine F.ok scHidden (fun vs H Q E h=>?_) (fun cdv A outer s H vs Q E hr h=>?_)
 ·obtain⟨fa,m1,m2,rfl,_⟩:=h
  rfl
 obtain⟨fa,m1,m2,rfl,hF,h100,hok,q⟩:=h
 have hu:=hr.units
 refine⟨_,pss_one (ps_ret (pe_thaw (pe_comp_if (own:=["word","kind"]) (caps:=[]) (κ:=[]) rfl ⟨rfl,by decide +kernel,by decide +kernel,rfl,rfl,(fun y hy=>nomatch hy),(fun y hy=>nomatch hy)⟩ rfl
  (pi_items (pe_fld (pv 0) rfl)) (fun _ _ _ _=>pg_two (K:=K) (i:=0) (j:=1) rfl rfl (show(["word","kind"]:List Str).Nodup from by decide +kernel) rfl (Or.inl rfl) (Or.inr rfl) rfl (Or.inl rfl) (Or.inr rfl))
  (fun _ _ _ _=>pt_cmpR (eqK (K:=K) rfl hu) (pv 1) (pe_call GO hr rfl mO kO bO .nil pass0 (pa_cons (pv 0) pa_nil)) (nomark _)) (fun _ _ _ _=>pv 0)))),?_⟩
 obtain⟨dx,d1,d2,fs,kv1,kv2,hfa,hl1,hl2,hd1,hd2,hk1,hk2,_,_⟩:=hF
 have hlen:kv1.length=m1.length:=Paired.length hk1
 refine⟨_,rfl,fa,CF,dx,fs,_,rfl,hfa,cF,nK,hl1,d1,kv1,rfl,hd1,fun o=>?_⟩
 refine comp_items (fun i ys H3=>(∀b u,H b=some u→b≠d1→H3 b=some u)∧H3 d1=some (.frz o (.dK kv1))∧ys=(hidL (m1.take i)).map V.str∧ys.length≤i∧(∀a xs,SqT K H a xs→SqT K H3 a xs)) ?_ (small (by omega)) ?_ ?_ ?_ ?_
 ·exact⟨fun b u hb nb=>by rw [upd_ne nb];exact hb,upd_same,rfl,Nat.le_refl _,fun a xs h=>sqt_dk hd1 h⟩
 ·rintro i ys H3 ⟨_,_,_,h,_⟩
  exact h
 ·rintro i ys H3 ⟨_,h,_⟩
  exact h
 ·rintro i p a ys H3 N hN hp ha ⟨old,hd3,rfl,hys,keep⟩
  obtain⟨⟨z,k⟩,hq,ez,hkz⟩:=pair_get hk1 hp
  obtain⟨pk,pw⟩:=p
  replace ez:pk=.inr z:=ez
  replace hkz:KdAt K H pw k:=hkz
  subst ez
  obtain⟨oz,ok,od⟩:=hok (z,k) (List.mem_of_getElem? hq)
  have ea:=same_new ha (.tup [kV (.inr z),pw])
  refine⟨a,_,rfl,SqT.of upd_same,rfl,_,_,rfl,_,_,rfl,rfl,rfl,?_⟩
  have keepA:∀b xs,SqT K H b xs→SqT K (upd H3 a (.tup [kV (.inr z),pw])) b xs:=fun b xs h=>ea.tup (keep b xs h)
  refine⟨_,rfl,_,rfl,z,rfl,fun H4 x4 s4 hx4=>?_⟩
  have hkz4:=(kd_keep keepA hkz).same s4
  refine⟨_,_,kd_dat hkz4,kd_dat hx4,kd_shaped ok od,kd_shaped ⟨ok_empty,oz⟩ (by show 1≤60;decide),_,rfl,?_⟩
  have eT:hidL (m1.take (i+1))=hidL (m1.take i)++(if hidB (z,k)=true then [z] else []):=by
   rw [List.take_add_one,hq]
   unfold hidL
   rw [List.filter_append,List.map_append]
   congr 1
   show((([(z,k)]:List (Str × Kd)).filter hidB).map (·.1))=_
   rw [List.filter_cons]
   by_cases c:hidB (z,k)=true
   ·rw [if_pos c,if_pos c];rfl
   ·rw [if_neg c,if_neg c];rfl
  have old4:∀b u,H b=some u→b≠d1→H4 b=some u:=fun b u hb nb=>s4 _ _ (ea _ _ (old b u hb nb))
  have eb:PyData.eqv (Kd.dat k) (Kd.dat (ownK z))=hidB (z,k):=eqv_dat _ _
  refine ite2 (fun c=>?_) (fun c=>?_)
  ·have c':hidB (z,k)=true:=by rw [←eb];exact c
   rw [if_pos c'] at eT
   refine⟨_,rfl,hN _ _ ⟨old4,s4 _ _ (ea _ _ hd3),?_,?_,fun b xs t=>s4.tup (keepA b xs t)⟩⟩
   ·rw [eT,List.map_append];rfl
   ·rw [List.length_append];show _+1≤_;omega
  ·have c':¬hidB (z,k)=true:=by rw [←eb];exact c
   rw [if_neg c',List.append_nil] at eT
   refine hN _ _ ⟨old4,s4 _ _ (ea _ _ hd3),by rw [eT],by omega,fun b xs t=>s4.tup (keepA b xs t)⟩
 ·rintro ys H3 D ⟨old,hd3,rfl,hys,keep⟩ hD
  have nD:d1≠D:=ne_of_none hd3 hD
  have nofz:∀o' u',H d1≠some (.frz o' u'):=fun o' u' e=>by
   rw [e] at hd1
   cases hd1
  refine⟨d1,o,.dK kv1,(by rw [upd_ne nD];exact hd3),nofz,?_⟩
  have hs:Same H (upd (upd H3 D (.lst ((hidL (m1.take kv1.length)).map V.str))) d1 (.dK kv1)):=fun b u hb=>by
   by_cases e:b=d1
   ·rw [e] at hb ⊢
    rw [hd1] at hb
    cases hb
    exact upd_same
   ·rw [upd_ne e]
    have h3:=old b u hb e
    rw [upd_ne (ne_of_none h3 hD)]
    exact h3
  have hD0:H D=none:=by
   cases e:H D with
   |none=>rfl
   |some u=>rw [old D u e (Ne.symm nD)] at hD;cases hD
  refine q _ D hs hD0 ?_
  rw [upd_ne (Ne.symm nD),upd_same,hlen,List.take_length]
end
end K42
namespace K42
open PySem L2 Kk
def Fits(K:PySem.W.Frag)(H:Hp)(x:V):Prop:=∃d n,Dat K H x d∧Shw d n 60∧n≤1900000
theorem Fits.same{K:PySem.W.Frag}{H H':Hp}{x:V}(s:Same H H')(h:Fits K H x):Fits K H' x:=let ⟨d,n,a,b⟩:=h;⟨d,n,a.same s,b⟩
def Kd.sm:Kd→Prop
 |.num n=>0≤n∧n≤10 ^ 18
 |.name q t=>(PyData.strOk q=true∧q.length≤14)∧PyData.strOk t=true∧t.length≤14
 |.pair a b=>Kd.sm a∧Kd.sm b
theorem sm_ok:∀{k:Kd},Kd.sm k→Kd.ok k
 |.num _,_=>True.intro
 |.name _ _,⟨⟨a,b⟩,c,d⟩=>⟨⟨a,by omega⟩,c,by omega⟩
 |.pair _ _,⟨a,b⟩=>⟨sm_ok a,sm_ok b⟩
theorem shw_kd:∀{k:Kd},Kd.sm k→Shw (Kd.dat k) (400*k.words) (Kd.depth k)
 |.num n,h=>by
  have h1:=shws_cons (shw_str (y:="num") (by decide +kernel) 0) (shws_cons (shw_int h.1 h.2 0) (shws_nil 0))
  have e:(Str.ofString "num").length=3:=by decide +kernel
  refine(shw_tup h1).le ?_ (by show 0+1≤1;decide)
  rw [e]
  show _≤400*1
  omega
 |.name q t,⟨⟨a,b⟩,c,d⟩=>by
  have h1:=shws_cons (shw_str (y:="name") (by decide +kernel) 0) (shws_cons (shw_str a 0) (shws_cons (shw_str c 0) (shws_nil 0)))
  have e:(Str.ofString "name").length=4:=by decide +kernel
  refine(shw_tup h1).le ?_ (by show 0+1≤1;decide)
  rw [e]
  show _≤400*1
  omega
 |.pair k l,⟨a,b⟩=>by
  have m1:Kd.depth k≤max (Kd.depth k) (Kd.depth l):=Nat.le_max_left _ _
  have m2:Kd.depth l≤max (Kd.depth k) (Kd.depth l):=Nat.le_max_right _ _
  have h1:=shws_cons (shw_str (y:="pair") (by decide +kernel) (max (Kd.depth k) (Kd.depth l))) (shws_cons ((shw_kd a).le (Nat.le_refl _) m1) (shws_cons ((shw_kd b).le (Nat.le_refl _) m2) (shws_nil _)))
  have e:(Str.ofString "pair").length=4:=by decide +kernel
  refine(shw_tup h1).le ?_ ?_
  ·rw [e]
   show _≤400*(1+k.words+l.words)
   omega
  ·simp only [Kd.depth]
   omega
theorem fits_kd{K:PySem.W.Frag}{H:Hp}{x:V}{k:Kd}(h:KdAt K H x k)(s:Kd.sm k)(hw:k.words≤4000)(hd:Kd.depth k≤60):Fits K H x:=⟨_,_,kd_dat h,(shw_kd s).le (Nat.le_refl _) hd,by omega⟩
theorem fits_str{K:PySem.W.Frag}{H:Hp}{z:Str}(h:PyData.strOk z=true)(hl:z.length≤1000):Fits K H (.str z):=⟨_,_,.str z,shw_str h 60,by omega⟩
theorem fits_non{K:PySem.W.Frag}{H:Hp}:Fits K H .non:=⟨_,_,.non,shw_non 60,by omega⟩
def sumK(ks:List Kd):Nat:=(ks.map Kd.words).sum
def Fn.dat(f:List Kd × Kd):PyData:=.tuple [.tuple (f.1.map Kd.dat),Kd.dat f.2]
theorem kds_dat{K:PySem.W.Frag}{H:Hp}:∀{xs:List V} {ks:List Kd},KdsAt K H xs ks→Dats K H xs (ks.map Kd.dat)
 |_,_,.nil=>.nil
 |_,_,.cons h r=>.cons (kd_dat h) (kds_dat r)
theorem fn_dat{K:PySem.W.Frag}{H:Hp}{v:V}{f:List Kd × Kd}(h:FunAt K H v f):Dat K H v (Fn.dat f):=by
 obtain⟨p,ta,x,xs,rfl,h1,h2,h3,h4⟩:=h
 exact .tup h1 (.cons (.tup h2 (kds_dat h3)) (.cons (kd_dat h4) .nil))
theorem shws_kds:∀{ks:List Kd} {m:Nat},(∀k∈ks,Kd.sm k∧Kd.depth k≤m)→Shws (ks.map Kd.dat) (402*sumK ks) m
 |[],m,_=>shws_nil m
 |k::ks,m,h=>by
  obtain⟨h1,h2⟩:=h k (.head _)
  have r:=shws_kds (ks:=ks) fun j hj=>h j (.tail _ hj)
  have c:=shws_cons ((shw_kd h1).le (Nat.le_refl _) h2) r
  have p:=words_pos k
  refine⟨c.sh,c.nd,c.dp,Nat.le_trans c.ln ?_⟩
  show _≤402*(k.words+(ks.map Kd.words).sum)
  have:sumK ks=(ks.map Kd.words).sum:=rfl
  omega
theorem fits_fn{K:PySem.W.Frag}{H:Hp}{v:V}{f:List Kd × Kd}(h:FunAt K H v f)(s:∀k∈f.2::f.1,Kd.sm k∧Kd.depth k≤50)(hw:sumK (f.2::f.1)≤4600):Fits K H v:=by
 obtain⟨s1,s2⟩:=s f.2 (.head _)
 have h1:=shw_tup (shws_kds (ks:=f.1) (m:=50) fun k hk=>s k (.tail _ hk))
 have h2:=shw_tup (shws_cons h1 (shws_cons ((shw_kd s1).le (Nat.le_refl _) (Nat.le_trans s2 (by decide:50≤51))) (shws_nil 51)))
 refine⟨_,_,fn_dat h,h2.le (Nat.le_refl _) (by decide),?_⟩
 have e:sumK (f.2::f.1)=f.2.words+sumK f.1:=rfl
 omega
end K42
namespace K42
open PySem L2 Kk
abbrev sInitN:Stmt:=inClass (top 5) 0
def nfs(p n u f:V):List (Str × V):=putF "found" f (putF "due" u (putF "name" n [("part",p)]))
def spInitN(K:PySem.W.Frag)(C:Addr):Sp:=fun vs H Q _=>∃(e:Addr) (p n u f:V),vs=[.ref e,p,n,u,f]∧H e=some (.ext (excRaw e C none))∧Fits K H p∧Fits K H n∧Fits K H u∧Fits K H f ∧
 ∀dx H',dx≠e→(∀b o,b≠e→H b=some o→H' b=some o)→H' e=some (.ext (excRaw e C (some dx)))→H' dx=some (.ext (xdAt dx (nfs p n u f)))→Q .non H'
section
variable{P:Program}{w:World}{K:PySem.W.Frag}{mg:Str→Option Value}{base:Heap}
theorem scInitN:FnScope ["self","part","name","due","found"] ["self","part","name","due","found"] (defScope sInitN):=⟨rfl,rfl,rfl,by decide +kernel,rfl,by decide +kernel,by decide +kernel⟩
set_option maxHeartbeats 0 in
theorem ok_initN{f C R:Addr}{fd:FuncData} (F:Fun K "__init__" "NoFit.__init__" sInitN f fd) (mR:mg "Refused"=some (.ref R)) (bR:BaseI K R) (ex:excInI K C bmVE "ValueError.__new__"=true) (st:ExcSet K C)
  (t1:PySem.W.takerIn K C "part"=some none) (t2:PySem.W.takerIn K C "name"=some none) (t3:PySem.W.takerIn K C "due"=some none) (t4:PySem.W.takerIn K C "found"=some none) :
  FnOk P w K mg base CX0 1 f fd ["self","part","name","due","found"] (spInitN K C):=by
 refine F.ok scInitN (fun vs H Q E h=>?_) (fun cdv A outer s H vs Q E hr h=>?_)
 ·obtain⟨e,p,n,u,f,rfl,_⟩:=h
  rfl
 obtain⟨e,p,n,u,f,rfl,he,⟨dp,np,hp,sp,lp⟩,⟨dn,nn,hn,sn,ln⟩,⟨du,nu,hu,su,lu⟩,⟨df,nf,hf,sf,lf⟩,q⟩:=h
 refine⟨_,pss_cons (ps_expr (pe_baseInit bR rfl mR (pa_cons (pv 0) (pa_cons (pe_fstr (pj_cons pe_str (pj_cons (pe_frD hr (pv 1)) (pj_cons pe_str (pj_cons (pe_frD hr (pv 2)) (pj_cons pe_str (pj_cons (pe_frD hr (pv 3)) (pj_cons pe_str (pj_cons (pe_frD hr (pv 4)) pj_nil)))))))) (by decide)) pa_nil)) rfl))
  (pss_cons (ps_xfld0 (pv 0) (pv 1) rfl) (pss_cons (ps_xfld1 (pv 0) (pv 2) rfl) (pss_cons (ps_xfld1 (pv 0) (pv 3) rfl) (pss_one (ps_xfld1 (pv 0) (pv 4) rfl))))),?_⟩
 refine⟨_,rfl,_,rfl,by decide +kernel,_,rfl,dp,np,hp,sp,by omega,fun z1 l1=>⟨z1,rfl,l1,?_⟩⟩
 refine⟨_,rfl,by decide +kernel,_,rfl,dn,nn,hn,sn,by omega,fun z2 l2=>⟨z2,rfl,l2,?_⟩⟩
 refine⟨_,rfl,by decide +kernel,_,rfl,du,nu,hu,su,by omega,fun z3 l3=>⟨z3,rfl,l3,?_⟩⟩
 refine⟨_,rfl,by decide +kernel,_,rfl,df,nf,hf,sf,by omega,fun z4 l4=>⟨z4,rfl,l4,fun z lz=>?_⟩⟩
 refine⟨e,C,none,_,rfl,ex,he,(by show 1≤sizeLine;decide),?_⟩
 refine⟨_,rfl,_,rfl,e,C,rfl,st,t1,he,fun dx hdx=>?_⟩
 have ne:e≠dx:=ne_of_none he hdx
 have e1:∀o,upd (upd H e (.ext (excRaw e C (some dx)))) dx o e=some (.ext (excRaw e C (some dx))):=fun o=>by rw [upd_ne ne,upd_same]
 refine⟨_,rfl,_,rfl,e,C,dx,_,rfl,st,t2,e1 _,upd_same,(by show 1 < 1000;decide),?_⟩
 rw [upd_upd]
 refine⟨_,rfl,_,rfl,e,C,dx,_,rfl,st,t3,e1 _,upd_same,?_,?_⟩
 ·have:=length_putF "name" n [(("part":Str),p)]
  simp only [List.length_cons,List.length_nil] at this
  omega
 rw [upd_upd]
 refine⟨_,rfl,_,rfl,e,C,dx,_,rfl,st,t4,e1 _,upd_same,?_,?_⟩
 ·have h1:=length_putF "name" n [(("part":Str),p)]
  have h2:=length_putF "due" u (putF "name" n [(("part":Str),p)])
  simp only [List.length_cons,List.length_nil] at h1
  omega
 rw [upd_upd]
 refine q dx _ ne.symm (fun b o hb hbo=>?_) (e1 _) upd_same
 rw [upd_ne (ne_of_none hbo hdx),upd_ne hb]
 exact hbo
end
def look{α:Type}(m:List (Str × α))(z:Str):Option α:=(m.find? fun q=>decide (q.1=z)).map (·.2)
theorem look_val{α:Type}{R:V→α→Prop}:∀{kvs:List (Key × V)} {m:List (Str × α)},PkAt R kvs m→∀z:Str,(valV kvs (.inr z)=none∧look m z=none)∨∃v x,valV kvs (.inr z)=some v∧look m z=some x∧R v x
 |_,_,.nil,z=>.inl ⟨rfl,rfl⟩
 |p::ps,q::qs,.cons ⟨h1,h2⟩ r,z=>by
  unfold look valV
  rw [List.find?_cons,List.find?_cons]
  by_cases e:q.1=z
  ·rw [decide_eq_true (show p.1=Sum.inr z by rw [h1,e]),decide_eq_true e]
   exact .inr ⟨_,_,rfl,rfl,h2⟩
  ·rw [decide_eq_false (show ¬p.1=Sum.inr z by rw [h1];exact fun z'=>e (Sum.inr.inj z')),decide_eq_false e]
   exact look_val r z
def givenF(m1:List (Str × Kd))(hs:List Str):Str × Str→Option Kd:=fun n=>if n.1=""∧n.2∈hs then look m1 n.2 else none
def putFn(G:Str × Str→Option Kd)(f:List Kd × Kd):List Kd × Kd:=(f.1.map (Kd.put G),Kd.put G f.2)
abbrev Gf(m1 n1:List (Str × Kd)):Str × Str→Option Kd:=givenF m1 (hidL n1)
def no1(m1 n1:List (Str × Kd)):Option (Str × PyData × PyData):=(n1.find? fun q=>(look m1 q.1).isNone).map fun q=>(q.1,Kd.dat q.2,.none)
def no3(G:Str × Str→Option Kd)(m1 n1:List (Str × Kd)):Option (Str × PyData × PyData):=(n1.find? fun q=>decide (look m1 q.1≠some (Kd.put G q.2))).map fun q=>(q.1,Kd.dat (Kd.put G q.2),((look m1 q.1).map Kd.dat).getD .none)
def no4(G:Str × Str→Option Kd)(m2 n2:List (Str × (List Kd × Kd))):Option (Str × PyData × PyData):=(n2.find? fun q=>decide (look m2 q.1≠some (putFn G q.2))).map fun q=>(q.1,Fn.dat (putFn G q.2),((look m2 q.1).map Fn.dat).getD .none)
def fitR(m1 n1:List (Str × Kd))(m2 n2:List (Str × (List Kd × Kd))):Option (Str × PyData × PyData):=(no1 m1 n1).or ((no3 (Gf m1 n1) m1 n1).or (no4 (Gf m1 n1) m2 n2))
def XOk(K:PySem.W.Frag)(H:Hp)(d:Option Addr)(part:V)(r:Str × PyData × PyData):Prop:=∃dx u f,d=some dx∧H dx=some (.ext (xdAt dx (nfs part (.str r.1) u f)))∧Dat K H u r.2.1∧Dat K H f r.2.2
theorem find_take{α:Type}{p:α→Bool}:∀{l:List α} {i:Nat} {x:α},l[i]?=some x→p x=true→(∀y∈l.take i,p y=false)→l.find? p=some x
 |a::l,0,x,h,hp,_=>by
  cases h
  rw [List.find?_cons,hp]
 |a::l,i+1,x,h,hp,hn=>by
  rw [List.find?_cons,hn a (by rw [List.take_succ_cons];exact .head _)]
  exact find_take (l:=l) (i:=i) h hp fun y hy=>hn y (by rw [List.take_succ_cons];exact .tail _ hy)
theorem find_no{α:Type}{p:α→Bool}{l:List α}(h:∀y∈l,p y=false):l.find? p=none:=List.find?_eq_none.mpr fun x hx=>by rw [h x hx];decide
structure FaceA(K:PySem.W.Frag)(H:Hp)(CF fa:Addr)(dx d1 d2:Addr)(fs:List (Str × V))(kv1 kv2:List (Key × V))(m1:List (Str × Kd))(m2:List (Str × (List Kd × Kd))):Prop where
 obj:H fa=some (.ins CF dx fs)
 fk:fs.lookup ("kinds":Str)=some (.ref d1)
 ff:fs.lookup ("funs":Str)=some (.ref d2)
 h1:H d1=some (.dK kv1)
 h2:H d2=some (.dK kv2)
 p1:PkAt (KdAt K H) kv1 m1
 p2:PkAt (FunAt K H) kv2 m2
 nh:fs.lookup ("hidden":Str)=none
 np:fs.lookup ("put":Str)=none
theorem FaceA.same{K:PySem.W.Frag}{H H':Hp}{CF fa dx d1 d2:Addr}{fs:List (Str × V)}{kv1 kv2:List (Key × V)}{m1:List (Str × Kd)}{m2:List (Str × (List Kd × Kd))}(F:FaceA K H CF fa dx d1 d2 fs kv1 kv2 m1 m2)(s:Same H H'):FaceA K H' CF fa dx d1 d2 fs kv1 kv2 m1 m2 :=
 ⟨s _ _ F.obj,F.fk,F.ff,s _ _ F.h1,s _ _ F.h2,F.p1.imp fun _ _ h=>h.same s,F.p2.imp fun _ _ h=>h.keep fun _ _ t=>s.tup t,F.nh,F.np⟩
structure Walk(K:PySem.W.Frag)(H H3:Hp)(d:Addr)(o:Obj)(kv:List (Key × V)):Prop where
 old:∀b u,H b=some u→b≠d→H3 b=some u
 fz:H3 d=some (.frz o (.dK kv))
 tup:∀a xs,SqT K H a xs→SqT K H3 a xs
theorem Walk.start{K:PySem.W.Frag}{H:Hp}{d:Addr}{o:Obj}{kv:List (Key × V)}(h:H d=some (.dK kv)):Walk K H (upd H d (.frz o (.dK kv))) d o kv:=⟨fun b u hb nb=>by rw [upd_ne nb];exact hb,upd_same,fun a xs t=>sqt_dk h t⟩
theorem Walk.go{K:PySem.W.Frag}{H H3 H4:Hp}{d:Addr}{o:Obj}{kv:List (Key × V)}(w:Walk K H H3 d o kv)(s:Same H3 H4):Walk K H H4 d o kv:=⟨fun b u hb nb=>s _ _ (w.old b u hb nb),s _ _ w.fz,fun a xs t=>s.tup (w.tup a xs t)⟩
theorem Walk.rd{K:PySem.W.Frag}{H H3:Hp}{d:Addr}{o:Obj}{kv:List (Key × V)}(w:Walk K H H3 d o kv)(h:H d=some (.dK kv)){a:Addr}{kw:List (Key × V)}(ha:H a=some (.dK kw)):Rd H3 a (.dK kw):=by
 by_cases e:a=d
 ·subst e
  rw [h] at ha
  cases ha
  exact .inr ⟨o,w.fz⟩
 ·exact .inl (w.old a _ ha e)
theorem Walk.thaw{K:PySem.W.Frag}{H H3:Hp}{d:Addr}{o:Obj}{kv:List (Key × V)}(w:Walk K H H3 d o kv)(h:H d=some (.dK kv)):Same H (upd H3 d (.dK kv)):=fun b u hb=>by
 by_cases e:b=d
 ·rw [e] at hb ⊢
  rw [h] at hb
  cases hb
  exact upd_same
 ·rw [upd_ne e]
  exact w.old b u hb e
theorem flown{K:PySem.W.Frag}{H H3 H5:Hp}{d e dx:Addr}{o:Obj}{kv:List (Key × V)}{part u f:V}{r:Str × PyData × PyData}(w:Walk K H H3 d o kv)(h:H d=some (.dK kv))(he:H3 e=none)(ne:dx≠e)
  (k5:∀b o',b≠e→upd H3 e (.ext (excRaw e CN none)) b=some o'→H5 b=some o') (hx:H5 dx=some (.ext (xdAt dx (nfs part (.str r.1) u f)))) (hu:∀H',(∀a xs,SqT K H3 a xs→SqT K H' a xs)→Dat K H' u r.2.1) (hf:∀H',(∀a xs,SqT K H3 a xs→SqT K H' a xs)→Dat K H' f r.2.2) :
  H5 d=some (.frz o (.dK kv))∧Same H (cut (upd H5 d (.dK kv)) e)∧XOk K (cut (upd H5 d (.dK kv)) e) (some dx) part r:=by
 have old:∀b o',H3 b=some o'→H5 b=some o':=fun b o' hb=>k5 b o' (fun z=>by rw [z,he] at hb;cases hb) (by rw [upd_ne (fun z=>by rw [z,he] at hb;cases hb)];exact hb)
 have hd5:=old _ _ w.fz
 have hxd:dx≠d:=fun z=>by rw [z,hd5] at hx;cases hx
 have s5:Same H3 H5:=fun b o' hb=>old b o' hb
 have w5:=w.go s5
 have sm:Same H (cut (upd H5 d (.dK kv)) e):=fun b o' hb=>by
  have nb:b≠e:=fun z=>by
   subst z
   by_cases q:b=d
   ·rw [q,w.fz] at he
    cases he
   ·rw [w.old b o' hb q] at he
    cases he
  rw [cut_ne nb]
  exact w5.thaw h b o' hb
 have kt:∀a xs,SqT K H3 a xs→SqT K (cut (upd H5 d (.dK kv)) e) a xs:=fun a xs t=>by
  rcases t with (t|⟨o',t⟩)|t
  ·refine .inl (.inl ?_)
   rw [cut_ne (fun z=>by rw [z,he] at t;cases t),upd_ne (fun z=>by rw [z,w.fz] at t;cases t)]
   exact old _ _ t
  ·refine .inl (.inr ⟨o',?_⟩)
   rw [cut_ne (fun z=>by rw [z,he] at t;cases t),upd_ne (fun z=>by rw [z,w.fz] at t;cases t)]
   exact old _ _ t
  ·exact .inr t
 refine⟨hd5,sm,dx,u,f,rfl,?_,hu _ kt,hf _ kt⟩
 rw [cut_ne ne,upd_ne hxd]
 exact hx
end K42
namespace K42
open PySem L2 Kk
theorem nofz'{H H1:Hp}{d:Addr}{kv:List (Key × V)}(s:Same H H1)(h:H1 d=some (.dK kv)):∀o' u',H d≠some (.frz o' u'):=fun o' u' e=>by
 rw [s _ _ e] at h
 cases h
def SmK(q:Str × Kd):Prop:=(PyData.strOk q.1=true∧q.1.length≤14)∧Kd.sm q.2∧q.2.words≤60∧Kd.depth q.2≤20
def SmF(q:Str × (List Kd × Kd)):Prop:=(PyData.strOk q.1=true∧q.1.length≤14)∧q.2.1.length≤4∧∀k∈q.2.2::q.2.1,Kd.sm k∧k.words≤60∧Kd.depth k≤20
abbrev ftN:List Str:=["had","wanted","part","word","kind","given","due","fun","found"]
abbrev ftP:List Str:=["had","wanted","part"]
abbrev nfP:List Str:=["self","part","name","due","found"]
section
variable{P:Program}{w:World}{K:PySem.W.Frag}{mg:Str→Option Value}{base:Heap}
theorem scFitted:FnScope ftN ftP (defScope sFitted):=⟨rfl,rfl,rfl,by decide +kernel,rfl,by decide +kernel,by decide +kernel⟩
set_option maxHeartbeats 0 in
theorem ft1{f CF CN fi:Addr}{fdi:FuncData}(MN:MkX K CN fi)(GI:FnOk P w K mg base CX0 1 fi fdi nfP (spInitN K CN))(bI:Binds K fdi nfP []) (mN:mg "NoFit"=some (.ref CN)) (cF:Cls K CF) (nK:NoAttr K CF "kinds")
  {cdv:Value} {A:Around} {outer:List Env} {s:Shared} {H:Hp} {E:XK} (hr:Room 2 (A.deeper (PyProof.Rows.envOfC "fitted" (defScope sFitted) s.heap.objs.size f cdv))) :
  ∃t,PS (cxOf (CX1 P w) P w K mg base ftN "fitted" (defScope sFitted) f cdv A outer s H E) ((defBody sFitted).getD 0 (.Pass ⟨0,0,0,0⟩)) t ∧
   ∀(D:Ends) (H1:Hp) (ha wa dxh dh1 dh2 dxw dw1 dw2:Addr) (fsh fsw:List (Str × V)) (kh1 kh2 kw1 kw2:List (Key × V)) (m1 n1:List (Str × Kd)) (m2 n2:List (Str × (List Kd × Kd))) (pz:Str),Same H H1 →
    FaceA K H1 CF ha dxh dh1 dh2 fsh kh1 kh2 m1 m2→FaceA K H1 CF wa dxw dw1 dw2 fsw kw1 kw2 n1 n2→n1.length≤100→(∀q∈n1,SmK q)→PyData.strOk pz=true∧pz.length≤14 →
    (∀r,no1 m1 n1=some r→∀d H',Same H1 H'→XOk K H' d (.str pz) r→E (.ref CN) d H') →
    (no1 m1 n1=none→∀(H4:Hp) (y3 y4:Option V),Same H1 H4→D.nx [some (.ref ha),some (.ref wa),some (.str pz),y3,y4,none,none,none,none] H4) →
    t D [some (.ref ha),some (.ref wa),some (.str pz),none,none,none,none,none,none] H1:=by
 have hu:=hu_of hr
 refine⟨_,ps_thaw (ps_for PassesOwn.leaving rfl (pi_items (pe_fld (pv 1) rfl)) (pg_tup rfl (pgs_cons (pg_name (i:=3) scFitted.nd rfl (Or.inl rfl)) (pgs_cons (pg_name (i:=4) scFitted.nd rfl (Or.inl rfl)) pgs_nil)))
   (pss_one (ps_if (pt_cmp (pc_dnotin hu (pv 3) (pe_fld (pv 0) rfl)) (by with_unfolding_all rfl)) (pss_one (ps_raiseT MN GI hr bI rfl mN (pa_cons (pv 2) (pa_cons (pv 3) (pa_cons (pv 4) (pa_cons pe_non pa_nil)))))) pss_nil))),?_⟩
 intro D H1 ha wa dxh dh1 dh2 dxw dw1 dw2 fsh fsw kh1 kh2 kw1 kw2 m1 n1 m2 n2 pz s1 FH FW h100 hsm hpt qE q
 have hlen:kw1.length=n1.length:=Paired.length FW.p1
 refine⟨_,rfl,wa,CF,dxw,fsw,_,rfl,FW.obj,cF,nK,FW.fk,dw1,kw1,rfl,FW.h1,fun o=>?_⟩
 refine for_items (fun i σ H3=>∃(y3 y4:Option V),σ=[some (.ref ha),some (.ref wa),some (.str pz),y3,y4,none,none,none,none]∧Walk K H1 H3 dw1 o kw1∧∀y∈n1.take i,(look m1 y.1).isNone=false) ?_ ?_ ?_ ?_
 ·exact⟨none,none,rfl,Walk.start FW.h1,fun y hy=>by cases hy⟩
 ·rintro i σ H3 _ ⟨_,_,_,h,_⟩
  exact h.fz
 ·rintro i p a σ H3 hp hna ⟨y3,y4,rfl,wk,hall⟩
  obtain⟨⟨z,k⟩,hq,ez,hkz⟩:=pair_get FW.p1 hp
  obtain⟨pk,pw⟩:=p
  replace ez:pk=.inr z:=ez
  replace hkz:KdAt K H1 pw k:=hkz
  subst ez
  obtain⟨⟨z1,z2⟩,k1,k2,k3⟩:(PyData.strOk z=true∧z.length≤14)∧Kd.sm k∧k.words≤60∧Kd.depth k≤20:=hsm (z,k) (List.mem_of_getElem? hq)
  have ea:=same_new hna (.tup [kV (.inr z),pw])
  have wk4:=wk.go ea
  refine⟨a,_,rfl,SqT.of upd_same,rfl,_,_,rfl,_,_,rfl,rfl,?_⟩
  have haw:ha≠dw1:=fun e=>by
   have:=FH.obj
   rw [e,FW.h1] at this
   cases this
  refine⟨_,rfl,_,rfl,ha,CF,dxh,fsh,_,rfl,wk4.old _ _ FH.obj haw,cF,nK,FH.fk,dh1,_,rfl,.inl ⟨kh1,.inr z,wk4.rd FW.h1 FH.h1,rfl,rfl⟩,_,rfl,ite2 (fun c=>?_) (fun c=>?_)⟩
  ·have c':(!(valV kh1 (.inr z)).isSome)=true:=c
   have hno:look m1 z=none:=by
    rcases look_val FH.p1 z with ⟨_,h2⟩|⟨v,x,h1,_⟩
    ·exact h2
    ·rw [h1] at c'
     cases c'
   have hR:no1 m1 n1=some (z,Kd.dat k,.none):=by
    unfold no1
    rw [find_take hq (by show(look m1 z).isNone=true;rw [hno];rfl) hall]
    rfl
   refine⟨_,rfl,_,rfl,_,rfl,(by show 4≤sizeLine;decide),fun e he=>?_⟩
   have kz4:KdAt K (upd H3 a (.tup [kV (.inr z),pw])) pw k:=kd_keep wk4.tup hkz
   have se:=same_new he (.ext (excRaw e CN none))
   refine⟨e,.str pz,.str z,pw,.non,rfl,upd_same,fits_str hpt.1 (by omega),fits_str z1 (by omega),(fits_kd kz4 k1 (by omega) (by omega)).same se,fits_non,fun dx H5 ne k5 he5 hx5=>⟨rfl,some dx,dw1,o,.dK kw1,he5,?_⟩⟩
   obtain⟨g1,g2,g3⟩:=flown (CN:=CN) (r:=(z,Kd.dat k,.none)) wk4 FW.h1 he ne k5 hx5 (fun H' kt=>kd_dat (kd_keep kt kz4)) (fun H' _=>.non)
   exact⟨g1,nofz' s1 FW.h1,qE _ hR _ _ g2 g3⟩
  ·refine⟨_,_,rfl,wk4,fun y hy=>?_⟩
   rw [List.take_add_one,hq] at hy
   rcases List.mem_append.mp hy with h|h
   ·exact hall y h
   ·obtain rfl:y=(z,k):=by simpa using h
    have c':¬(!(valV kh1 (.inr z)).isSome)=true:=c
    rcases look_val FH.p1 z with ⟨h1,_⟩|⟨v,x,_,h2,_⟩
    ·rw [h1] at c'
     exact absurd rfl c'
    ·show(look m1 z).isNone=false
     rw [h2]
     rfl
 ·rintro σ H3 ⟨y3,y4,rfl,wk,hall⟩
  refine⟨dw1,o,.dK kw1,wk.fz,nofz' s1 FW.h1,q ?_ _ y3 y4 (wk.thaw FW.h1)⟩
  rw [hlen,List.take_length] at hall
  unfold no1
  rw [find_no hall]
  rfl
end
end K42
namespace K42
open PySem L2 Kk
theorem sm_put{G:Str × Str→Option Kd}(hG:∀n k,G n=some k→Kd.sm k):∀{k:Kd},Kd.sm k→Kd.sm (Kd.put G k)
 |.num _,h=>h
 |.name q t,h=>by
  show Kd.sm ((G (q,t)).getD (.name q t))
  cases e:G (q,t) with
  |none=>exact h
  |some k=>exact hG _ _ e
 |.pair a b,⟨h1,h2⟩=>⟨sm_put hG h1,sm_put hG h2⟩
theorem GvAt.keep{K:PySem.W.Frag}{H H':Hp}{kvs:List (List Key × V)}{G:Str × Str→Option Kd}(e:∀a xs,SqT K H a xs→SqT K H' a xs)(h:GvAt K H kvs G):GvAt K H' kvs G:=fun nn=>by
 rcases h nn with h|⟨v,k',h1,h2,h3⟩
 ·exact .inl h
 ·exact .inr ⟨v,k',h1,h2,kd_keep e h3⟩
section
variable{P:Program}{w:World}{K:PySem.W.Frag}{mg:Str→Option Value}{base:Heap}
set_option maxHeartbeats 0 in
theorem ft3{n:Nat}{f fp CF CN fi:Addr}{fdp fdi:FuncData} (GP:FnOk P w K mg base CX0 n fp fdp ["kind","given"] (spPut K n)) (bP:Binds K fdp ["kind","given"] []) (kP:PySem.W.keepIn K (.ref fp)=true) (mP:mg "put"=some (.ref fp))
  (MN:MkX K CN fi) (GI:FnOk P w K mg base CX0 1 fi fdi nfP (spInitN K CN)) (bI:Binds K fdi nfP []) (mN:mg "NoFit"=some (.ref CN)) (cF:Cls K CF) (nK:NoAttr K CF "kinds")
  {cdv:Value} {A:Around} {outer:List Env} {s:Shared} {H:Hp} {E:XK} (hr:Room (n+2) (A.deeper (PyProof.Rows.envOfC "fitted" (defScope sFitted) s.heap.objs.size f cdv))) :
  ∃t,PS (cxOf (CX1 P w) P w K mg base ftN "fitted" (defScope sFitted) f cdv A outer s H E) ((defBody sFitted).getD 3 (.Pass ⟨0,0,0,0⟩)) t ∧
   ∀(D:Ends) (H1:Hp) (ha wa dxh dh1 dh2 dxw dw1 dw2 g:Addr) (fsh fsw:List (Str × V)) (kh1 kh2 kw1 kw2:List (Key × V)) (m1 n1:List (Str × Kd)) (m2 n2:List (Str × (List Kd × Kd))) (kvs:List (List Key × V)) (G:Str × Str→Option Kd) (pz:Str) (x3 x4:Option V),Same H H1 →
    FaceA K H1 CF ha dxh dh1 dh2 fsh kh1 kh2 m1 m2→FaceA K H1 CF wa dxw dw1 dw2 fsw kw1 kw2 n1 n2→n1.length≤100→(∀q∈m1,SmK q)→(∀q∈n1,SmK q)→(∀q∈n1,Kd.depth q.2≤n)→(∀n k,G n=some k→Kd.sm k)→(∀q∈n1,(Kd.put G q.2).words≤4000∧Kd.depth (Kd.put G q.2)≤50)→PyData.strOk pz=true∧pz.length≤14 →
    H1 g=some (.dT kvs)→GvAt K H1 kvs G→no1 m1 n1=none →
    (∀r,no3 G m1 n1=some r→∀d H',Same H1 H'→XOk K H' d (.str pz) r→E (.ref CN) d H') →
    (no3 G m1 n1=none→∀(H4:Hp) (y3 y4 y6:Option V),Same H1 H4→D.nx [some (.ref ha),some (.ref wa),some (.str pz),y3,y4,some (.ref g),y6,none,none] H4) →
    t D [some (.ref ha),some (.ref wa),some (.str pz),x3,x4,some (.ref g),none,none,none] H1:=by
 have hu:=hu_of hr
 have hu64:=hr.units
 have hr0:Room n _:=hr.mono (by omega)
 have hr2:Room 2 _:=hr.mono (by omega)
 refine⟨_,ps_thaw (ps_for PassesOwn.leaving rfl (pi_items (pe_fld (pv 1) rfl)) (pg_tup rfl (pgs_cons (pg_name (i:=3) scFitted.nd rfl (Or.inl rfl)) (pgs_cons (pg_name (i:=4) scFitted.nd rfl (Or.inl rfl)) pgs_nil)))
   (pss_cons (ps_set (i:=6) scFitted.nd rfl (Or.inl rfl) (pe_call GP hr0 rfl mP kP bP .nil pass0 (pa_cons (pv 4) (pa_cons (pv 5) pa_nil))))
   (pss_one (ps_if (pt_cmpR (neK (K:=K) rfl hu64) (pv 6) (pe_dget hu (pe_fld (pv 0) rfl) (pv 3) (fun _ _=>rfl)) (nomark _)) (pss_one (ps_raiseT MN GI hr2 bI rfl mN (pa_cons (pv 2) (pa_cons (pv 3) (pa_cons (pv 6) (pa_cons (pe_dget hu (pe_fld (pv 0) rfl) (pv 3) (fun _ _=>rfl)) pa_nil)))))) pss_nil)))),?_⟩
 intro D H1 ha wa dxh dh1 dh2 dxw dw1 dw2 g fsh fsw kh1 kh2 kw1 kw2 m1 n1 m2 n2 kvs G pz x3 x4 s1 FH FW h100 hsmM hsm hdn hGs hGw hpt hg hgv hn1 qE q
 have hlen:kw1.length=n1.length:=Paired.length FW.p1
 have gne:g≠dw1:=fun e=>by rw [e,FW.h1] at hg;cases hg
 have haw:ha≠dw1:=fun e=>by
  have:=FH.obj
  rw [e,FW.h1] at this
  cases this
 refine⟨_,rfl,wa,CF,dxw,fsw,_,rfl,FW.obj,cF,nK,FW.fk,dw1,kw1,rfl,FW.h1,fun o=>?_⟩
 refine for_items (fun i σ H3=>∃(y3 y4 y6:Option V),σ=[some (.ref ha),some (.ref wa),some (.str pz),y3,y4,some (.ref g),y6,none,none]∧Walk K H1 H3 dw1 o kw1∧∀y∈n1.take i,decide (look m1 y.1≠some (Kd.put G y.2))=false) ?_ ?_ ?_ ?_
 ·exact⟨x3,x4,none,rfl,Walk.start FW.h1,fun y hy=>by cases hy⟩
 ·rintro i σ H3 _ ⟨_,_,_,_,h,_⟩
  exact h.fz
 ·rintro i p a σ H3 hp hna ⟨y3,y4,y6,rfl,wk,hall⟩
  obtain⟨⟨z,k⟩,hq,ez,hkz⟩:=pair_get FW.p1 hp
  obtain⟨pk,pw⟩:=p
  replace ez:pk=.inr z:=ez
  replace hkz:KdAt K H1 pw k:=hkz
  subst ez
  have hm:=List.mem_of_getElem? hq
  obtain⟨⟨z1,z2⟩,k1,k2,k3⟩:(PyData.strOk z=true∧z.length≤14)∧Kd.sm k∧k.words≤60∧Kd.depth k≤20:=hsm (z,k) hm
  have hdk:Kd.depth k≤n:=hdn (z,k) hm
  obtain⟨w1,w2⟩:(Kd.put G k).words≤4000∧Kd.depth (Kd.put G k)≤50:=hGw (z,k) hm
  have smP:=sm_put hGs k1
  obtain⟨v,x,hv,hx,hvx⟩:∃v x,valV kh1 (.inr z)=some v∧look m1 z=some x∧KdAt K H1 v x:=by
   rcases look_val FH.p1 z with ⟨_,h2⟩|h
   ·unfold no1 at hn1
    rw [Option.map_eq_none_iff,List.find?_eq_none] at hn1
    exact absurd (by show(look m1 z).isNone=true;rw [h2];rfl) (hn1 _ hm)
   ·exact h
  have hxm:∃q∈m1,q.2=x:=by
   unfold look at hx
   obtain⟨q,hq1,hq2⟩:=Option.map_eq_some_iff.mp hx
   exact⟨q,List.mem_of_find?_eq_some hq1,hq2⟩
  obtain⟨qx,hqx,rfl⟩:=hxm
  obtain⟨_,sx,_,dx20⟩:=hsmM qx hqx
  have ea:=same_new hna (.tup [kV (.inr z),pw])
  have wk4:=wk.go ea
  refine⟨a,_,rfl,SqT.of upd_same,rfl,_,_,rfl,_,_,rfl,rfl,?_⟩
  refine⟨_,rfl,_,rfl,pw,g,k,kvs,G,rfl,kd_keep wk4.tup hkz,hdk,wk4.old _ _ hg gne,GvAt.keep wk4.tup hgv,fun H5 u s5 hu5=>?_⟩
  have wk5:=wk4.go s5
  have hvx5:KdAt K H5 v qx.2:=kd_keep wk5.tup hvx
  refine⟨_,rfl,_,rfl,ha,CF,dxh,fsh,_,rfl,wk5.old _ _ FH.obj haw,cF,nK,FH.fk,_,rfl,dh1,v,rfl,.inl ⟨kh1,.inr z,wk5.rd FW.h1 FH.h1,rfl,hv.symm⟩,_,_,kd_dat hu5,kd_dat hvx5,kd_shaped (sm_ok smP) (by omega),kd_shaped (sm_ok sx) (by omega),_,rfl,ite2 (fun c=>?_) (fun c=>?_)⟩
  ·have c':(!PyData.eqv (Kd.dat (Kd.put G k)) (Kd.dat qx.2))=true:=c
   rw [eqv_dat,Bool.not_eq_true',decide_eq_false_iff_not] at c'
   have hR:no3 G m1 n1=some (z,Kd.dat (Kd.put G k),Kd.dat qx.2):=by
    unfold no3
    rw [find_take hq (decide_eq_true (by show look m1 z≠some (Kd.put G k);rw [hx];exact fun z'=>c' (Option.some.inj z').symm)) hall]
    show some (z,Kd.dat (Kd.put G k),((look m1 z).map Kd.dat).getD .none)=_
    rw [hx]
    rfl
   refine⟨_,rfl,_,rfl,_,rfl,_,rfl,ha,CF,dxh,fsh,_,rfl,wk5.old _ _ FH.obj haw,cF,nK,FH.fk,_,rfl,dh1,v,rfl,.inl ⟨kh1,.inr z,wk5.rd FW.h1 FH.h1,rfl,hv.symm⟩,(by show 4≤sizeLine;decide),fun e he=>?_⟩
   have se:=same_new he (.ext (excRaw e CN none))
   refine⟨e,.str pz,.str z,u,v,rfl,upd_same,fits_str hpt.1 (by omega),fits_str z1 (by omega),(fits_kd hu5 smP w1 (by omega)).same se,(fits_kd hvx5 sx (by omega) (by omega)).same se,fun dx H6 ne k6 he6 hx6=>⟨rfl,some dx,dw1,o,.dK kw1,he6,?_⟩⟩
   obtain⟨g1,g2,g3⟩:=flown (CN:=CN) (r:=(z,Kd.dat (Kd.put G k),Kd.dat qx.2)) wk5 FW.h1 he ne k6 hx6 (fun H' kt=>kd_dat (kd_keep kt hu5)) (fun H' kt=>kd_dat (kd_keep kt hvx5))
   exact⟨g1,nofz' s1 FW.h1,qE _ hR _ _ g2 g3⟩
  ·refine⟨_,_,_,rfl,wk5,fun y hy=>?_⟩
   rw [List.take_add_one,hq] at hy
   rcases List.mem_append.mp hy with h|h
   ·exact hall y h
   ·obtain rfl:y=(z,k):=by simpa using h
    have c':¬(!PyData.eqv (Kd.dat (Kd.put G k)) (Kd.dat qx.2))=true:=c
    rw [eqv_dat,Bool.not_eq_true',Bool.not_eq_false,decide_eq_true_iff] at c'
    refine decide_eq_false fun hne=>hne ?_
    show look m1 z=some (Kd.put G k)
    rw [hx,c']
 ·rintro σ H3 ⟨y3,y4,y6,rfl,wk,hall⟩
  refine⟨dw1,o,.dK kw1,wk.fz,nofz' s1 FW.h1,q ?_ _ y3 y4 y6 (wk.thaw FW.h1)⟩
  rw [hlen,List.take_length] at hall
  unfold no3
  rw [find_no hall]
  rfl
end
end K42
namespace K42
open PySem L2 Kk
theorem fn_shaped{f:List Kd × Kd}(h:∀k∈f.2::f.1,Kd.ok k∧Kd.depth k≤50)(hl:f.1.length≤4):SeqAt.shaped (Fn.dat f)=true:=by
 obtain⟨h1,h2⟩:=h f.2 (.head _)
 have c1:PyData.canLayAll0 (f.1.map Kd.dat)=true:=by
  have:∀ks:List Kd,(∀k∈ks,Kd.ok k)→PyData.canLayAll0 (ks.map Kd.dat)=true:=fun ks=>by
   induction ks with
   |nil=>intro _;simp [PyData.canLayAll0]
   |cons k ks ih =>
    intro hk
    rw [List.map_cons]
    simp only [PyData.canLayAll0,Bool.and_eq_true]
    exact⟨lay_kd (hk k (.head _)),ih fun j hj=>hk j (.tail _ hj)⟩
  exact this _ fun k hk=>(h k (.tail _ hk)).1
 have d1:PyData.depthAll (f.1.map Kd.dat)≤50:=by
  have:∀ks:List Kd,(∀k∈ks,Kd.depth k≤50)→PyData.depthAll (ks.map Kd.dat)≤50:=fun ks=>by
   induction ks with
   |nil=>intro _;simp [PyData.depthAll]
   |cons k ks ih =>
    intro hk
    rw [List.map_cons]
    simp only [PyData.depthAll]
    exact Nat.max_le.mpr ⟨Nat.le_trans (deep_kd k) (hk k (.head _)),ih fun j hj=>hk j (.tail _ hj)⟩
  exact this _ fun k hk=>(h k (.tail _ hk)).2
 have h3:=lay_kd h1
 have h4:=deep_kd f.2
 unfold SeqAt.shaped
 have e1:PyData.canLay0 (Fn.dat f)=true:=by
  unfold Fn.dat
  simp only [PyData.canLay0,PyData.canLayAll0,c1,h3,Bool.and_self]
 have e2:PyData.depth (Fn.dat f)≤64:=by
  unfold Fn.dat
  simp only [PyData.depth,PyData.depthAll]
  omega
 rw [e1,decide_eq_true e2]
 rfl
theorem eqv_kds:∀(a b:List Kd),PyData.eqvAll (a.map Kd.dat) (b.map Kd.dat)=decide (a=b)
 |[],[]=>by simp [PyData.eqvAll]
 |[],_::_=>by simp [PyData.eqvAll]
 |_::_,[]=>by simp [PyData.eqvAll]
 |a::as,b::bs=>by
  rw [List.map_cons,List.map_cons,eqvA_cons,eqv_dat,eqv_kds as bs]
  by_cases h:a=b
  ·by_cases h2:as=bs
   ·simp [h,h2]
   ·simp [h2]
  ·simp [h]
theorem eqv_fn(f g:List Kd × Kd):PyData.eqv (Fn.dat f) (Fn.dat g)=decide (f=g):=by
 unfold Fn.dat
 rw [eqv_tup,eqvA_cons,eqvA_cons,eqvA_nil,eqv_tup,eqv_kds,eqv_dat]
 obtain⟨a,b⟩:=f
 obtain⟨c,d⟩:=g
 by_cases h:a=c
 ·by_cases h2:b=d
  ·simp [h,h2]
  ·simp [h2]
 ·simp [h]
theorem eqv_fn_none(f:List Kd × Kd):PyData.eqv (Fn.dat f) .none=false:=by
 unfold Fn.dat
 simp [PyData.eqv]
theorem none_shaped:SeqAt.shaped .none=true:=by decide +kernel
section
variable{P:Program}{w:World}{K:PySem.W.Frag}{mg:Str→Option Value}{base:Heap}
set_option maxHeartbeats 0 in
theorem ft4{n:Nat}{f fp CF CN fi:Addr}{fdp fdi:FuncData} (GP:FnOk P w K mg base CX0 (n+1) fp fdp ["fun","given"] (spPutFun K n)) (bP:Binds K fdp ["fun","given"] []) (kP:PySem.W.keepIn K (.ref fp)=true) (mP:mg "put_in_fun"=some (.ref fp))
  (MN:MkX K CN fi) (GI:FnOk P w K mg base CX0 1 fi fdi nfP (spInitN K CN)) (bI:Binds K fdi nfP []) (mN:mg "NoFit"=some (.ref CN)) (cF:Cls K CF) (nF:NoAttr K CF "funs")
  {cdv:Value} {A:Around} {outer:List Env} {s:Shared} {H:Hp} {E:XK} (hr:Room (n+2) (A.deeper (PyProof.Rows.envOfC "fitted" (defScope sFitted) s.heap.objs.size f cdv))) :
  ∃t,PS (cxOf (CX1 P w) P w K mg base ftN "fitted" (defScope sFitted) f cdv A outer s H E) ((defBody sFitted).getD 4 (.Pass ⟨0,0,0,0⟩)) t ∧
   ∀(D:Ends) (H1:Hp) (ha wa dxh dh1 dh2 dxw dw1 dw2 g:Addr) (fsh fsw:List (Str × V)) (kh1 kh2 kw1 kw2:List (Key × V)) (m1 n1:List (Str × Kd)) (m2 n2:List (Str × (List Kd × Kd))) (kvs:List (List Key × V)) (G:Str × Str→Option Kd) (pz:Str) (x3 x4 x6:Option V),Same H H1 →
    FaceA K H1 CF ha dxh dh1 dh2 fsh kh1 kh2 m1 m2→FaceA K H1 CF wa dxw dw1 dw2 fsw kw1 kw2 n1 n2→n2.length≤100→(∀q∈m2,SmF q)→(∀q∈n2,SmF q)→(∀q∈n2,∀k∈q.2.2::q.2.1,Kd.depth k≤n)→(∀n k,G n=some k→Kd.sm k)→(∀q∈n2,sumK ((putFn G q.2).2::(putFn G q.2).1)≤4600∧∀k∈(putFn G q.2).2::(putFn G q.2).1,Kd.depth k≤50)→PyData.strOk pz=true∧pz.length≤14 →
    H1 g=some (.dT kvs)→GvAt K H1 kvs G →
    (∀r,no4 G m2 n2=some r→∀d H',Same H1 H'→XOk K H' d (.str pz) r→E (.ref CN) d H') →
    (no4 G m2 n2=none→∀(H4:Hp) (y3 y6 y7 y8:Option V),Same H1 H4→D.nx [some (.ref ha),some (.ref wa),some (.str pz),y3,x4,some (.ref g),y6,y7,y8] H4) →
    t D [some (.ref ha),some (.ref wa),some (.str pz),x3,x4,some (.ref g),x6,none,none] H1:=by
 have hu:=hu_of hr
 have hu64:=hr.units
 have hr1:Room (n+1) _:=hr.mono (by omega)
 have hr2:Room 2 _:=hr.mono (by omega)
 refine⟨_,ps_thaw (ps_for PassesOwn.leaving rfl (pi_items (pe_fld (pv 1) rfl)) (pg_tup rfl (pgs_cons (pg_name (i:=3) scFitted.nd rfl (Or.inl rfl)) (pgs_cons (pg_name (i:=7) scFitted.nd rfl (Or.inl rfl)) pgs_nil)))
   (pss_cons (ps_set (i:=6) scFitted.nd rfl (Or.inl rfl) (pe_call GP hr1 rfl mP kP bP .nil pass0 (pa_cons (pv 7) (pa_cons (pv 5) pa_nil))))
   (pss_cons (ps_set (i:=8) scFitted.nd rfl (Or.inl rfl) (pe_dget1 hu (pe_fld (pv 0) rfl) (pv 3) ⟨rfl,rfl,rfl,rfl⟩))
   (pss_one (ps_if (pt_cmpR (neK (K:=K) rfl hu64) (pv 6) (pv 8) (nomark _)) (pss_one (ps_raiseT MN GI hr2 bI rfl mN (pa_cons (pv 2) (pa_cons (pv 3) (pa_cons (pv 6) (pa_cons (pv 8) pa_nil)))))) pss_nil))))),?_⟩
 intro D H1 ha wa dxh dh1 dh2 dxw dw1 dw2 g fsh fsw kh1 kh2 kw1 kw2 m1 n1 m2 n2 kvs G pz x3 x4 x6 s1 FH FW h100 hsmM hsm hdn hGs hGw hpt hg hgv qE q
 have hlen:kw2.length=n2.length:=Paired.length FW.p2
 have gne:g≠dw2:=fun e=>by rw [e,FW.h2] at hg;cases hg
 have haw:ha≠dw2:=fun e=>by
  have:=FH.obj
  rw [e,FW.h2] at this
  cases this
 refine⟨_,rfl,wa,CF,dxw,fsw,_,rfl,FW.obj,cF,nF,FW.ff,dw2,kw2,rfl,FW.h2,fun o=>?_⟩
 refine for_items (fun i σ H3=>∃(y3 y6 y7 y8:Option V),σ=[some (.ref ha),some (.ref wa),some (.str pz),y3,x4,some (.ref g),y6,y7,y8]∧Walk K H1 H3 dw2 o kw2∧∀y∈n2.take i,decide (look m2 y.1≠some (putFn G y.2))=false) ?_ ?_ ?_ ?_
 ·exact⟨x3,x6,none,none,rfl,Walk.start FW.h2,fun y hy=>by cases hy⟩
 ·rintro i σ H3 _ ⟨_,_,_,_,_,h,_⟩
  exact h.fz
 ·rintro i p a σ H3 hp hna ⟨y3,y6,y7,y8,rfl,wk,hall⟩
  obtain⟨⟨z,fn⟩,hq,ez,hkz⟩:=pair_get FW.p2 hp
  obtain⟨pk,pw⟩:=p
  replace ez:pk=.inr z:=ez
  replace hkz:FunAt K H1 pw fn:=hkz
  subst ez
  have hm:=List.mem_of_getElem? hq
  obtain⟨⟨z1,z2⟩,l4,hks⟩:(PyData.strOk z=true∧z.length≤14)∧fn.1.length≤4∧∀k∈fn.2::fn.1,Kd.sm k∧k.words≤60∧Kd.depth k≤20:=hsm (z,fn) hm
  have hdk:∀k∈fn.2::fn.1,Kd.depth k≤n:=hdn (z,fn) hm
  obtain⟨w1,w2⟩:sumK ((putFn G fn).2::(putFn G fn).1)≤4600∧∀k∈(putFn G fn).2::(putFn G fn).1,Kd.depth k≤50:=hGw (z,fn) hm
  have smP:∀k∈(putFn G fn).2::(putFn G fn).1,Kd.sm k:=fun k hk=>by
   rcases List.mem_cons.mp hk with rfl|hk
   ·exact sm_put hGs (hks _ (.head _)).1
   ·obtain⟨j,hj,rfl⟩:=List.mem_map.mp hk
    exact sm_put hGs (hks j (.tail _ hj)).1
  have ea:=same_new hna (.tup [kV (.inr z),pw])
  have wk4:=wk.go ea
  refine⟨a,_,rfl,SqT.of upd_same,rfl,_,_,rfl,_,_,rfl,rfl,?_⟩
  obtain⟨pf,ta,xf,xsf,rfl,f1,f2,f3,f4⟩:=FunAt.keep wk4.tup hkz
  refine⟨_,rfl,_,rfl,pf,g,ta,xf,xsf,fn.1,fn.2,kvs,G,rfl,f1,f2,f3,f4,fun k hk=>hdk k (.tail _ hk),hdk _ (.head _),by omega,wk4.old _ _ hg gne,GvAt.keep wk4.tup hgv,fun H5 p5 ta5 xs5 x5 s5 hp5 hta5 hxs5 hx5=>?_⟩
  have wk5:=wk4.go s5
  have hdue:FunAt K H5 (.ref p5) (putFn G fn):=⟨p5,ta5,x5,xs5,rfl,SqT.of hp5,SqT.of hta5,hxs5,hx5⟩
  have rdh:=wk5.rd FW.h2 FH.h2
  refine⟨_,rfl,ha,CF,dxh,fsh,_,rfl,wk5.old _ _ FH.obj haw,cF,nF,FH.ff,dh2,rfl,.inl ⟨kh2,rdh⟩,_,rfl,_,.inl ⟨kh2,.inr z,rdh,rfl,rfl⟩,?_⟩
  obtain⟨u,fo,hu8,hfo,hsh,hfi,hkeep,hne⟩:∃(u:V) (fo:PyData),(valV kh2 (.inr z)).getD .non=u∧((look m2 z).map Fn.dat).getD .none=fo∧SeqAt.shaped fo=true∧Fits K H5 u∧(∀H',(∀a xs,SqT K H5 a xs→SqT K H' a xs)→Dat K H' u fo)∧PyData.eqv (Fn.dat (putFn G fn)) fo=decide (look m2 z=some (putFn G fn)):=by
   rcases look_val FH.p2 z with ⟨h1,h2⟩|⟨v,x,h1,h2,h3⟩
   ·refine⟨_,_,rfl,rfl,?_⟩
    rw [h1,h2]
    refine⟨none_shaped,fits_non,fun H' _=>.non,?_⟩
    show PyData.eqv _ .none=_
    rw [eqv_fn_none,decide_eq_false (by simp)]
   ·obtain⟨qx,hqx,rfl⟩:∃q∈m2,q.2=x:=by
     unfold look at h2
     obtain⟨q,hq1,hq2⟩:=Option.map_eq_some_iff.mp h2
     exact⟨q,List.mem_of_find?_eq_some hq1,hq2⟩
    obtain⟨_,sl,sx⟩:=hsmM qx hqx
    have h35:FunAt K H5 v qx.2:=FunAt.keep wk5.tup h3
    refine⟨_,_,rfl,rfl,?_⟩
    rw [h1,h2]
    refine⟨fn_shaped (fun k hk=>⟨sm_ok (sx k hk).1,by have:=(sx k hk).2.2;omega⟩) sl,fits_fn h35 (fun k hk=>⟨(sx k hk).1,by have:=(sx k hk).2.2;omega⟩) ?_,fun H' kt=>fn_dat (FunAt.keep kt h35),?_⟩
    ·have:∀ks:List Kd,(∀k∈ks,k.words≤60)→sumK ks≤60*ks.length:=fun ks=>by
      induction ks with
      |nil=>intro _;exact Nat.le_refl _
      |cons k ks ih =>
       intro hk
       have a1:=hk k (.head _)
       have a2:=ih fun j hj=>hk j (.tail _ hj)
       show k.words+sumK ks≤60*(ks.length+1)
       omega
     have t:=this (qx.2.2::qx.2.1) fun k hk=>(sx k hk).2.1
     rw [List.length_cons] at t
     omega
    ·show PyData.eqv (Fn.dat (putFn G fn)) (Fn.dat qx.2)=_
     rw [eqv_fn]
     exact decide_eq_decide.mpr ⟨fun e=>by rw [e],fun e=>(Option.some.inj e).symm⟩
  rw [hu8]
  refine⟨_,rfl,_,rfl,_,_,fn_dat hdue,hkeep _ (fun _ _ t=>t),fn_shaped (fun k hk=>⟨sm_ok (smP k hk),w2 k hk⟩) (by show(fn.1.map _).length≤4;rw [List.length_map];exact l4),hsh,_,rfl,ite2 (fun c=>?_) (fun c=>?_)⟩
  ·have c':(!PyData.eqv (Fn.dat (putFn G fn)) fo)=true:=c
   rw [hne,Bool.not_eq_true',decide_eq_false_iff_not] at c'
   have hR:no4 G m2 n2=some (z,Fn.dat (putFn G fn),fo):=by
    unfold no4
    rw [find_take hq (decide_eq_true (show look m2 z≠some (putFn G fn) from c')) hall]
    show some (z,Fn.dat (putFn G fn),((look m2 z).map Fn.dat).getD .none)=_
    rw [hfo]
   refine⟨_,rfl,_,rfl,_,rfl,_,rfl,(by show 4≤sizeLine;decide),fun e he=>?_⟩
   have se:=same_new he (.ext (excRaw e CN none))
   refine⟨e,.str pz,.str z,.ref p5,u,rfl,upd_same,fits_str hpt.1 (by omega),fits_str z1 (by omega),(fits_fn hdue (fun k hk=>⟨smP k hk,w2 k hk⟩) w1).same se,hfi.same se,fun dx H6 ne k6 he6 hx6=>⟨rfl,some dx,dw2,o,.dK kw2,he6,?_⟩⟩
   obtain⟨g1,g2,g3⟩:=flown (CN:=CN) (r:=(z,Fn.dat (putFn G fn),fo)) wk5 FW.h2 he ne k6 hx6 (fun H' kt=>fn_dat (FunAt.keep kt hdue)) (fun H' kt=>hkeep H' kt)
   exact⟨g1,nofz' s1 FW.h2,qE _ hR _ _ g2 g3⟩
  ·refine⟨_,_,_,_,rfl,wk5,fun y hy=>?_⟩
   rw [List.take_add_one,hq] at hy
   rcases List.mem_append.mp hy with h|h
   ·exact hall y h
   ·obtain rfl:y=(z,fn):=by simpa using h
    have c':¬(!PyData.eqv (Fn.dat (putFn G fn)) fo)=true:=c
    rw [hne,Bool.not_eq_true',Bool.not_eq_false,decide_eq_true_iff] at c'
    exact decide_eq_false fun hne'=>hne' c'
 ·rintro σ H3 ⟨y3,y6,y7,y8,rfl,wk,hall⟩
  refine⟨dw2,o,.dK kw2,wk.fz,nofz' s1 FW.h2,q ?_ _ y3 y6 y7 y8 (wk.thaw FW.h2)⟩
  rw [hlen,List.take_length] at hall
  unfold no4
  rw [find_no hall]
  rfl
end
end K42
namespace K42
open PySem L2 Kk
def PtAt(K:PySem.W.Frag)(H:Hp)(kvs:List (List Key × V))(gl:List (Str × Kd)):Prop:=Paired (fun(p:List Key × V) (q:Str × Kd)=>p.1=keyN ("",q.1)∧KdAt K H p.2 q.2) kvs gl
theorem PtAt.keep{K:PySem.W.Frag}{H H':Hp}{kvs:List (List Key × V)}{gl:List (Str × Kd)}(e:∀a xs,SqT K H a xs→SqT K H' a xs)(h:PtAt K H kvs gl):PtAt K H' kvs gl:=Paired.mapP h fun _ _ ⟨a,b⟩=>⟨a,kd_keep e b⟩
theorem PtAt.same{K:PySem.W.Frag}{H H':Hp}{kvs:List (List Key × V)}{gl:List (Str × Kd)}(e:Same H H')(h:PtAt K H kvs gl):PtAt K H' kvs gl:=h.keep fun _ _ t=>e.tup t
theorem pt_val{K:PySem.W.Frag}{H:Hp}{kvs:List (List Key × V)}{gl:List (Str × Kd)}(h:PtAt K H kvs gl)(n:Str × Str):(valV kvs (keyN n)=none∧(n.1=""→n.2∉gl.map (·.1)))∨∃v k,valV kvs (keyN n)=some v∧n.1=""∧(n.2,k)∈gl∧KdAt K H v k:=by
 unfold PtAt at h
 induction h with
 |nil=>exact .inl ⟨rfl,fun _ hm=>by cases hm⟩
 |@cons p q ps qs hpq r ih =>
  obtain⟨h1,h2⟩:=hpq
  by_cases e:n=(("":Str),q.1)
  ·refine .inr ⟨p.2,q.2,?_,by rw [e],by rw [e];exact .head _,h2⟩
   exact valV_pos (by rw [h1,e])
  ·have ne:p.1≠keyN n:=fun z=>e (keyN_inj (by rw [←z,h1]))
   have ev:valV (p::ps) (keyN n)=valV ps (keyN n):=by
    unfold valV
    rw [List.find?_cons,decide_eq_false ne]
   rw [ev]
   rcases ih with ⟨a,b⟩|⟨v,k,a,b,c,d⟩
   ·refine .inl ⟨a,fun h0 hm=>?_⟩
    rw [List.map_cons] at hm
    rcases List.mem_cons.mp hm with z|z
    ·exact e (by rw [←h0,←z])
    ·exact b h0 z
   ·exact .inr ⟨v,k,a,b,.tail _ c,d⟩
theorem pt_gv{K:PySem.W.Frag}{H:Hp}{kvs:List (List Key × V)}{gl m1:List (Str × Kd)}{hs:List Str}(h:PtAt K H kvs gl)(e:gl.map (·.1)=hs)(hl:∀q∈gl,look m1 q.1=some q.2):GvAt K H kvs (givenF m1 hs):=fun n=>by
 rcases pt_val h n with ⟨a,b⟩|⟨v,k,a,b,c,d⟩
 ·refine .inl ⟨a,?_⟩
  unfold givenF
  rw [if_neg]
  rintro⟨h0,hm⟩
  rw [←e] at hm
  exact b h0 hm
 ·refine .inr ⟨v,k,a,?_,d⟩
  unfold givenF
  rw [if_pos ⟨b,by rw [←e];exact List.mem_map_of_mem (f:=(·.1)) c⟩]
  exact hl _ c
theorem pt_put{K:PySem.W.Frag}{H:Hp}{kvs:List (List Key × V)}{gl:List (Str × Kd)}{z:Str}{v:V}{k:Kd}(h:PtAt K H kvs gl)(hz:z∉gl.map (·.1))(hv:KdAt K H v k):PtAt K H (putK kvs (keyN ("",z)) v) (gl++[(z,k)]):=by
 have e:¬(kvs.any fun kv=>decide (kv.1=keyN ("",z)))=true:=fun c=>by
  rcases pt_val h ("",z) with ⟨a,_⟩|⟨v',k',a,b,c',d⟩
  ·rw [List.any_eq_true] at c
   obtain⟨p,hp,he⟩:=c
   unfold valV at a
   rw [Option.map_eq_none_iff,List.find?_eq_none] at a
   exact a p hp he
  ·exact hz (List.mem_map_of_mem (f:=(·.1)) c')
 unfold putK
 rw [if_neg e]
 exact Paired.snoc h ⟨rfl,hv⟩
theorem hid_mem{m:List (Str × Kd)}{z:Str}(h:z∈hidL m):∃k,(z,k)∈m:=by
 unfold hidL at h
 obtain⟨q,hq,rfl⟩:=List.mem_map.mp h
 exact⟨q.2,(List.mem_filter.mp hq).1⟩
theorem hid_nodup{m:List (Str × Kd)}(h:(m.map (·.1)).Nodup):(hidL m).Nodup:=h.sublist (List.Sublist.map _ List.filter_sublist)
theorem out_take{l:List Str}{i:Nat}{z:Str}(hn:l.Nodup)(h:l[i]?=some z):z∉l.take i:=fun hm=>by
 have e:l=l.take i++l.drop i:=(List.take_append_drop i l).symm
 rw [e,List.nodup_append] at hn
 have hd:z∈l.drop i:=List.mem_of_getElem? (i:=0) (by rw [List.getElem?_drop];exact h)
 exact hn.2.2 z hm z hd rfl
theorem sqt_dt{K:PySem.W.Frag}{H:Hp}{l a:Addr}{kvs:List (List Key × V)}{xs:List V}{o:HO}(h:H l=some (.dT kvs))(t:SqT K H a xs):SqT K (upd H l o) a xs:=by
 rcases t with (t|⟨o',t⟩)|t
 ·exact .inl (.inl (by rw [upd_ne (fun e=>by rw [e,h] at t;cases t)];exact t))
 ·exact .inl (.inr ⟨o',by rw [upd_ne (fun e=>by rw [e,h] at t;cases t)];exact t⟩)
 ·exact .inr t
section
variable{P:Program}{w:World}{K:PySem.W.Frag}{mg:Str→Option Value}{base:Heap}
set_option maxHeartbeats 0 in
theorem ft2{f fh CF:Addr}{fdh:FuncData} (MH:Meth K CF "hidden" fh) (GH:FnOk P w K mg base CX0 2 fh fdh ["self"] (spHidden K CF)) (bH:Binds K fdh ["self"] []) (cF:Cls K CF) (nK:NoAttr K CF "kinds")
  {cdv:Value} {A:Around} {outer:List Env} {s:Shared} {H:Hp} {E:XK} (hr:Room 2 (A.deeper (PyProof.Rows.envOfC "fitted" (defScope sFitted) s.heap.objs.size f cdv))) :
  ∃t,PS (cxOf (CX1 P w) P w K mg base ftN "fitted" (defScope sFitted) f cdv A outer s H E) ((defBody sFitted).getD 2 (.Pass ⟨0,0,0,0⟩)) t ∧
   ∀(D:Ends) (H1 H2:Hp) (ha wa dxh dh1 dh2 dxw dw1 dw2 g:Addr) (fsh fsw:List (Str × V)) (kh1 kh2 kw1 kw2:List (Key × V)) (m1 n1:List (Str × Kd)) (m2 n2:List (Str × (List Kd × Kd))) (pz:Str) (x3 x4:Option V),
    FaceA K H1 CF ha dxh dh1 dh2 fsh kh1 kh2 m1 m2→FaceA K H1 CF wa dxw dw1 dw2 fsw kw1 kw2 n1 n2→n1.length≤100→(∀q∈n1,SmK q)→(n1.map (·.1)).Nodup→no1 m1 n1=none→H1 g=none→Same H1 H2→H2 g=some (.dT []) →
    (∀(H4:Hp) (y3:Option V) (kvs:List (List Key × V)) (gl:List (Str × Kd)),Same H1 H4→H4 g=some (.dT kvs)→PtAt K H4 kvs gl→gl.map (·.1)=hidL n1→(∀q∈gl,look m1 q.1=some q.2)→D.nx [some (.ref ha),some (.ref wa),some (.str pz),y3,x4,some (.ref g),none,none,none] H4) →
    t D [some (.ref ha),some (.ref wa),some (.str pz),x3,x4,some (.ref g),none,none,none] H2:=by
 have hu:=hu_of hr
 refine⟨_,ps_for PassesOwn.leaving rfl (pi_list (pe_meth0 (pv 1) cF MH GH hr bH .nil pass0)) (pg_name (i:=3) scFitted.nd rfl (Or.inl rfl))
   (pss_one (ps_dput hu (pv 5) (pe_tup (pa_cons pe_str (pa_cons (pv 3) pa_nil))) (pe_dget hu (pe_fld (pv 0) rfl) (pv 3) (fun _ _=>rfl)) rfl)),?_⟩
 intro D H1 H2 ha wa dxh dh1 dh2 dxw dw1 dw2 g fsh fsw kh1 kh2 kw1 kw2 m1 n1 m2 n2 pz x3 x4 FH FW h100 hsm hnd hn1 hgn s2 hg2 q
 have FW2:=FW.same s2
 refine⟨_,rfl,wa,dxw,fsw,rfl,FW2.obj,FW2.nh,wa,n1,n2,rfl,⟨dxw,dw1,dw2,fsw,kw1,kw2,FW2.obj,FW2.fk,FW2.ff,FW2.h1,FW2.h2,FW2.p1,FW2.p2,FW2.nh,FW2.np⟩,h100,(fun qq hq=>by
  obtain⟨⟨a1,a2⟩,a3,_,a5⟩:=hsm qq hq
  exact⟨⟨a1,by omega⟩,sm_ok a3,by omega⟩),fun H3 l s3 hl2 hl3=>⟨l,rfl,⟨_,SqL.of hl3⟩,?_⟩⟩
 have hg3:=s3 _ _ hg2
 have lg:l≠g:=fun e=>by rw [e,hg2] at hl2;cases hl2
 have hsl:(hidL n1).length≤100:=by
  unfold hidL
  rw [List.length_map]
  exact Nat.le_trans (List.length_filter_le _ _) h100
 refine for_list (K:=K) (xs:=(hidL n1).map V.str) (fun i σ H4=>∃(y3:Option V) (kvs:List (List Key × V)) (gl:List (Str × Kd)),σ=[some (.ref ha),some (.ref wa),some (.str pz),y3,x4,some (.ref g),none,none,none]∧Same H1 H4∧H4 l=some (.lst ((hidL n1).map V.str))∧H4 g=some (.dT kvs)∧PtAt K H4 kvs gl∧gl.map (·.1)=(hidL n1).take i∧∀q∈gl,look m1 q.1=some q.2)
  ⟨x3,[],[],rfl,s2.trans s3,hl3,hg3,.nil,rfl,fun q hq=>by cases hq⟩ ?_ ?_ ?_
 ·rintro i σ H4 _ ⟨_,_,_,_,_,h,_⟩
  exact SqL.of h
 ·rintro i y σ H4 hy ⟨y3,kvs,gl,rfl,s4,hl4,hg4,hpt,hgl,hlk⟩
  rw [List.getElem?_map] at hy
  obtain⟨z,hz,rfl⟩:=Option.map_eq_some_iff.mp hy
  have hi:i < (hidL n1).length:=(List.getElem?_eq_some_iff.mp hz).1
  obtain⟨k0,hk0⟩:=hid_mem (List.mem_of_getElem? hz)
  have FH4:=FH.same s4
  obtain⟨v,x,hv,hx,hvx⟩:∃v x,valV kh1 (.inr z)=some v∧look m1 z=some x∧KdAt K H4 v x:=by
   rcases look_val FH4.p1 z with ⟨_,h2⟩|h
   ·unfold no1 at hn1
    rw [Option.map_eq_none_iff,List.find?_eq_none] at hn1
    exact absurd (by show(look m1 z).isNone=true;rw [h2];rfl) (hn1 _ hk0)
   ·exact h
  refine⟨_,rfl,ha,CF,dxh,fsh,_,rfl,FH4.obj,cF,nK,FH4.fk,_,rfl,dh1,v,rfl,.inl ⟨kh1,.inr z,.inl FH4.h1,rfl,hv.symm⟩,_,rfl,_,rfl,(by show 2≤sizeLine;decide),fun p hp=>?_⟩
  have s5:=same_new hp (.tup [.str "",.str z])
  have kl:kvs.length=i:=by
   have e1:kvs.length=gl.length:=Paired.length hpt
   have e2:=congrArg List.length hgl
   rw [List.length_map,List.length_take] at e2
   omega
  have hg5:=s5 _ _ hg4
  refine⟨g,_,rfl,DPut.t (k:=keyN ("",z)) hg5 (by rw [upd_same]<;>rfl) (Nat.lt_of_lt_of_le (Nat.lt_succ_self _) (small (by omega))),?_⟩
  have kt:∀a xs,SqT K (upd H4 p (.tup [.str "",.str z])) a xs→SqT K (upd (upd H4 p (.tup [.str "",.str z])) g (.dT (putK kvs (keyN ("",z)) v))) a xs:=fun a xs t=>sqt_dt hg5 t
  have ht:(hidL n1).take (i+1)=(hidL n1).take i++[z]:=by rw [List.take_add_one,hz];rfl
  refine⟨_,_,gl++[(z,x)],rfl,sput (s4.trans s5) hgn,?_,upd_same,?_,?_,fun qq hq=>?_⟩
  ·rw [upd_ne lg]
   exact s5 _ _ hl4
  ·refine pt_put ((hpt.same s5).keep kt) ?_ (kd_keep kt (hvx.same s5))
   rw [hgl]
   exact out_take (hid_nodup hnd) hz
  ·rw [List.map_append,hgl,ht]
   rfl
  ·rcases List.mem_append.mp hq with h|h
   ·exact hlk qq h
   ·rw [List.mem_singleton.mp h]
    exact hx
 ·rintro σ H4 ⟨y3,kvs,gl,rfl,s4,hl4,hg4,hpt,hgl,hlk⟩
  rw [List.length_map,List.take_length] at hgl
  exact q _ y3 kvs gl s4 hg4 hpt hgl hlk
end
end K42
namespace K42
open PySem L2 Kk
structure Two(m1 n1:List (Str × Kd))(m2 n2:List (Str × (List Kd × Kd)))(n:Nat):Prop where
 l1:n1.length≤100
 l2:n2.length≤100
 sm1:∀q∈m1,SmK q
 sn1:∀q∈n1,SmK q
 sm2:∀q∈m2,SmF q
 sn2:∀q∈n2,SmF q
 nd:(n1.map (·.1)).Nodup
 dp1:∀q∈n1,Kd.depth q.2≤n
 dp2:∀q∈n2,∀k∈q.2.2::q.2.1,Kd.depth k≤n
 w1:∀q∈n1,(Kd.put (Gf m1 n1) q.2).words≤4000∧Kd.depth (Kd.put (Gf m1 n1) q.2)≤50
 w2:∀q∈n2,sumK ((putFn (Gf m1 n1) q.2).2::(putFn (Gf m1 n1) q.2).1)≤4600∧∀k∈(putFn (Gf m1 n1) q.2).2::(putFn (Gf m1 n1) q.2).1,Kd.depth k≤50
def FaceAt(K:PySem.W.Frag)(H:Hp)(CF fa:Addr)(m1:List (Str × Kd))(m2:List (Str × (List Kd × Kd))):Prop:=∃dx d1 d2 fs kv1 kv2,FaceA K H CF fa dx d1 d2 fs kv1 kv2 m1 m2
def spFitted(K:PySem.W.Frag)(CF CN:Addr)(n:Nat):Sp:=fun vs H Q E=>∃(ha wa:Addr) (pz:Str) (m1 n1:List (Str × Kd)) (m2 n2:List (Str × (List Kd × Kd))),vs=[.ref ha,.ref wa,.str pz]∧FaceAt K H CF ha m1 m2∧FaceAt K H CF wa n1 n2∧Two m1 n1 m2 n2 n∧(PyData.strOk pz=true∧pz.length≤14) ∧
 (∀r,fitR m1 n1 m2 n2=some r→∀d H',Same H H'→XOk K H' d (.str pz) r→E (.ref CN) d H') ∧
 (fitR m1 n1 m2 n2=none→∀H' (g:Addr) (kvs:List (List Key × V)) (gl:List (Str × Kd)),Same H H'→H g=none→H' g=some (.dT kvs)→PtAt K H' kvs gl→gl.map (·.1)=hidL n1→(∀q∈gl,look m1 q.1=some q.2)→Q (.ref g) H')
theorem given_sm{m1:List (Str × Kd)}{hs:List Str}(h:∀q∈m1,SmK q):∀n k,givenF m1 hs n=some k→Kd.sm k:=fun n k e=>by
 unfold givenF at e
 split at e
 ·unfold look at e
  obtain⟨q,hq1,rfl⟩:=Option.map_eq_some_iff.mp e
  exact(h q (List.mem_of_find?_eq_some hq1)).2.1
 ·cases e
section
variable{P:Program}{w:World}{K:PySem.W.Frag}{mg:Str→Option Value}{base:Heap}
set_option maxHeartbeats 0 in
theorem ok_fitted{n:Nat}{f fp fq fh fi CF CN:Addr}{dV:Value}{fd fdp fdq fdh fdi:FuncData} (F:FunD K "fitted" "fitted" sFitted dV f fd)
  (GP:FnOk P w K mg base CX0 n fp fdp ["kind","given"] (spPut K n)) (bP:Binds K fdp ["kind","given"] []) (kP:PySem.W.keepIn K (.ref fp)=true) (mP:mg "put"=some (.ref fp))
  (GF:FnOk P w K mg base CX0 (n+1) fq fdq ["fun","given"] (spPutFun K n)) (bF:Binds K fdq ["fun","given"] []) (kF:PySem.W.keepIn K (.ref fq)=true) (mF:mg "put_in_fun"=some (.ref fq))
  (MH:Meth K CF "hidden" fh) (GH:FnOk P w K mg base CX0 2 fh fdh ["self"] (spHidden K CF)) (bH:Binds K fdh ["self"] [])
  (MN:MkX K CN fi) (GI:FnOk P w K mg base CX0 1 fi fdi nfP (spInitN K CN)) (bI:Binds K fdi nfP []) (mN:mg "NoFit"=some (.ref CN)) (cF:Cls K CF) (nK:NoAttr K CF "kinds") (nF:NoAttr K CF "funs") :
  FnOk P w K mg base (CX1 P w) (n+2+1) f fd ftP (spFitted K CF CN n):=by
 refine F.okX scFitted (fun vs H Q E h=>?_) (fun cdv A outer s H vs Q E hr h=>?_)
 ·obtain⟨ha,wa,pz,m1,n1,m2,n2,rfl,_⟩:=h
  rfl
 obtain⟨ha,wa,pz,m1,n1,m2,n2,rfl,⟨dxh,dh1,dh2,fsh,kh1,kh2,FH⟩,⟨dxw,dw1,dw2,fsw,kw1,kw2,FW⟩,T,hpt,qE,qN⟩:=h
 have hr2:Room 2 _:=hr.mono (by omega)
 obtain⟨t0,e0,k0⟩:=ft1 (outer:=outer) (H:=H) (E:=E) MN GI bI mN cF nK hr2
 obtain⟨t2,e2,k2⟩:=ft2 (outer:=outer) (H:=H) (E:=E) MH GH bH cF nK hr2
 obtain⟨t3,e3,k3⟩:=ft3 (outer:=outer) (H:=H) (E:=E) GP bP kP mP MN GI bI mN cF nK hr
 obtain⟨t4,e4,k4⟩:=ft4 (outer:=outer) (H:=H) (E:=E) GF bF kF mF MN GI bI mN cF nF hr
 refine⟨_,(@pss_cons _ _ _ _ _ @e0
  (@pss_cons _ _ _ _ _ (@ps_set _ _ 5 _ _ _ _ scFitted.nd rfl (Or.inl rfl) (@pe_dnewT _ _) rfl (Or.inl rfl))
  (@pss_cons _ _ _ _ _ @e2
  (@pss_cons _ _ _ _ _ @e3
  (@pss_cons _ _ _ _ _ @e4
  (pss_one (ps_ret (pv 5))))))):PSs (cxOf (CX1 P w) P w K mg base ftN "fitted" (defScope sFitted) f cdv A outer s H E) (defBody sFitted) _),?_⟩
 refine k0 _ _ ha wa dxh dh1 dh2 dxw dw1 dw2 fsh fsw kh1 kh2 kw1 kw2 m1 n1 m2 n2 pz (Same.refl _) FH FW T.l1 T.sn1 hpt (fun r hr' d H' s' x'=>qE r ?_ d H' s' x') fun hn1 H1 y3 y4 s1=>?_
 ·unfold fitR
  rw [hr']
  rfl
 intro g hg
 have sg:=same_new hg (.dT [])
 refine k2 _ H1 _ ha wa dxh dh1 dh2 dxw dw1 dw2 g fsh fsw kh1 kh2 kw1 kw2 m1 n1 m2 n2 pz y3 y4 (FH.same s1) (FW.same s1) T.l1 T.sn1 T.nd hn1 hg sg upd_same fun H3 y3' kvs gl s3 hg3 hpt3 hgl hlk=>?_
 have s13:=s1.trans s3
 have gv:=pt_gv hpt3 hgl hlk
 have hGs:=given_sm (hs:=hidL n1) T.sm1
 refine k3 _ H3 ha wa dxh dh1 dh2 dxw dw1 dw2 g fsh fsw kh1 kh2 kw1 kw2 m1 n1 m2 n2 kvs _ pz y3' y4 s13 (FH.same s13) (FW.same s13) T.l1 T.sm1 T.sn1 T.dp1 hGs T.w1 hpt hg3 gv hn1 (fun r hr' d H' s' x'=>qE r ?_ d H' (s13.trans s') x') fun hn3 H4 y34 y44 y64 s4=>?_
 ·unfold fitR
  rw [hn1]
  show(no3 (Gf m1 n1) m1 n1).or _=_
  rw [hr']
  rfl
 have s14:=s13.trans s4
 refine k4 _ H4 ha wa dxh dh1 dh2 dxw dw1 dw2 g fsh fsw kh1 kh2 kw1 kw2 m1 n1 m2 n2 kvs _ pz y34 y44 y64 s14 (FH.same s14) (FW.same s14) T.l2 T.sm2 T.sn2 T.dp2 hGs T.w2 hpt (s4 _ _ hg3) (gv.same s4) (fun r hr' d H' s' x'=>qE r ?_ d H' (s14.trans s') x') fun hn4 H5 y35 y65 y75 y85 s5=>?_
 ·unfold fitR
  rw [hn1]
  show(no3 (Gf m1 n1) m1 n1).or _=_
  rw [hn3]
  exact hr'
 refine⟨_,rfl,qN ?_ H5 g kvs gl (s14.trans s5) (Same.free s1 hg) (s5 _ _ (s4 _ _ hg3)) ((hpt3.same s4).same s5) hgl hlk⟩
 unfold fitR
 rw [hn1]
 show(no3 (Gf m1 n1) m1 n1).or _=_
 rw [hn3]
 exact hn4
end
end K42
namespace K42
open PySem L2 Kk
section
variable{P:Program}{w:World}{K:PySem.W.Frag}{mg:Str→Option Value}{base:Heap}
end
end K42
namespace K42
open PySem L2 Kk
section
variable{P:Program}{w:World}{K:PySem.W.Frag}{mg:Str→Option Value}{base:Heap}
def spBounded(K:PySem.W.Frag)(CT:Addr):Sp:=fun vs H Q E=>∃(x:V) (k:Kd) (m:Int),vs=[x,.int m]∧KdAt K H x k∧k.words≤900∧0≤m∧m≤1000000 ∧
 ∀H',Same H H'→if (k.words:Int) > m then E (.ref CT) none H' else Q x H'
theorem scBounded:FnScope ["kind","most","words"] ["kind","most"] (defScope sBounded):=⟨rfl,rfl,rfl,by decide +kernel,rfl,by decide +kernel,by decide +kernel⟩
theorem ok_bounded{f fw CT:Addr}{fd fdw:FuncData} (F:Fun K "bounded" "bounded" sBounded f fd) (GW:FnOk P w K mg base CX0 1 fw fdw ["kind"] (spWords K)) (bW:Binds K fdw ["kind"] []) (kW:PySem.W.keepIn K (.ref fw)=true) (mW:mg "words_in"=some (.ref fw))
  (mT:mg "TooBig"=some (.ref CT)) (xT:PySem.W.excIn K CT bmVE "ValueError.__new__"=true):FnOk P w K mg base (CX1 P w) 2 f fd ["kind","most"] (spBounded K CT):=by
 refine F.okX scBounded (fun vs H Q E h=>?_) (fun cdv A outer s H vs Q E hr h=>?_)
 ·obtain⟨x,k,m,rfl,_⟩:=h
  rfl
 obtain⟨x,k,m,rfl,hk,h9,m0,m1,q⟩:=h
 refine⟨_,pss_cons (ps_set (i:=2) scBounded.nd rfl (Or.inl rfl) (pe_call GW hr rfl mW kW bW .nil pass0 (pa_cons (pv 0) pa_nil)))
  (pss_cons (ps_if (pt_cmpR op_gt (pv 2) (pv 1) (nomark _))
   (pss_one (ps_raise1 rfl mT xT (pa_cons (pe_fstr (pj_cons pe_str (pj_cons (pe_fv (pv 2)) (pj_cons pe_str (pj_cons (pe_fv (pv 1)) (pj_cons pe_str pj_nil))))) (by decide)) pa_nil))) pss_nil)
  (pss_one (ps_ret (pv 0)))),?_⟩
 refine⟨_,rfl,x,k,rfl,hk,h9,fun H1 s1=>?_⟩
 have q1:=q H1 s1
 refine⟨_,rfl,_,rfl,_,_,rfl,rfl,_,rfl,?_⟩
 refine ite2 (fun c=>?_) (fun c=>?_)
 ·have c':(k.words:Int) > m:=of_decide_eq_true c
  rw [if_pos c'] at q1
  have l9:(0:Int)≤(k.words:Int)∧(k.words:Int)≤1000000:=⟨by omega,by omega⟩
  refine⟨_,rfl,by decide +kernel,_,rfl,.inr ⟨_,rfl,log_small l9.1 l9.2,_,rfl,Nat.le_trans (txt_small l9.1 l9.2) (by decide),_,rfl,by decide +kernel,_,rfl,.inr ⟨_,rfl,log_small m0 m1,_,rfl,Nat.le_trans (txt_small m0 m1) (by decide),_,rfl,by decide +kernel,fun z hz=>⟨(by show 1≤sizeLine;decide),q1⟩⟩⟩⟩
 ·have c':¬(k.words:Int) > m:=fun z=>c (decide_eq_true z)
  rw [if_neg c'] at q1
  exact⟨_,rfl,q1⟩
end
end K42
namespace K42
open PySem L2 Kk
def KvAt(K:PySem.W.Frag)(H:Hp)(kvs:List (Key × V))(g:Str→Option Kd):Prop :=
 ∀t,(valV kvs (.inr t)=none∧g t=none)∨∃v k,valV kvs (.inr t)=some v∧g t=some k∧KdAt K H v k
theorem KvAt.same{K:PySem.W.Frag}{H H':Hp}{kvs:List (Key × V)}{g:Str→Option Kd}(e:Same H H')(h:KvAt K H kvs g):KvAt K H' kvs g:=fun n=>by
 rcases h n with h|⟨v,k,h1,h2,h3⟩
 ·exact .inl h
 ·exact .inr ⟨v,k,h1,h2,h3.same e⟩
def FaceTold(K:PySem.W.Frag)(H:Hp)(CF:Addr)(v:V)(g:Str→Option Kd):Prop :=
 ∃a dx fs d kvs,v=.ref a∧H a=some (.ins CF dx fs)∧fs.lookup ("kinds":Str)=some (.ref d)∧H d=some (.dK kvs)∧KvAt K H kvs g
theorem FaceTold.same{K:PySem.W.Frag}{H H':Hp}{CF:Addr}{v:V}{g:Str→Option Kd}(e:Same H H')(h:FaceTold K H CF v g):FaceTold K H' CF v g:=by
 obtain⟨a,dx,fs,d,kvs,h1,h2,h3,h4,h5⟩:=h
 exact⟨a,dx,fs,d,kvs,h1,e _ _ h2,h3,e _ _ h4,h5.same e⟩
def PartsAt(K:PySem.W.Frag)(H:Hp)(CF:Addr)(kvs:List (Key × V))(PG:Str→Option (Str→Option Kd)):Prop :=
 ∀q,(valV kvs (.inr q)=none∧PG q=none)∨∃v g,valV kvs (.inr q)=some v∧PG q=some g∧FaceTold K H CF v g
theorem PartsAt.same{K:PySem.W.Frag}{H H':Hp}{CF:Addr}{kvs:List (Key × V)}{PG:Str→Option (Str→Option Kd)}(e:Same H H')(h:PartsAt K H CF kvs PG):PartsAt K H' CF kvs PG:=fun n=>by
 rcases h n with h|⟨v,g,h1,h2,h3⟩
 ·exact .inl h
 ·exact .inr ⟨v,g,h1,h2,h3.same e⟩
def tell(OG:Str→Option Kd)(PG:Str→Option (Str→Option Kd))(n:Str × Str):Option Kd:=if n.1="" then OG n.2 else (PG n.1).bind fun g=>g n.2
def Told(o:Option Kd)(K:PySem.W.Frag)(H:Hp)(Q:VK)(X:Prop):Prop:=(o=none∧X)∨∃k,o=some k∧∀v,KdAt K H v k→Q v H
def spToldKind(K:PySem.W.Frag)(CF CN:Addr):Sp:=fun vs H Q E=>∃(q t:Str) (o p:Addr) (okv pkv:List (Key × V)) (OG:Str→Option Kd) (PG:Str→Option (Str→Option Kd)),
 vs=[.str q,.str t,.ref o,.ref p]∧okW q∧okW t∧H o=some (.dK okv)∧KvAt K H okv OG∧H p=some (.dK pkv)∧PartsAt K H CF pkv PG∧Told (tell OG PG (q,t)) K H Q (E (.ref CN) none H)
section
variable{P:Program}{w:World}{K:PySem.W.Frag}{mg:Str→Option Value}{base:Heap}
theorem scToldKind:FnScope ["part","word","own","parts","kinds"] ["part","word","own","parts"] (defScope sToldKind):=⟨rfl,rfl,rfl,by decide +kernel,rfl,by decide +kernel,by decide +kernel⟩
theorem ok_toldKind{f CF CN:Addr}{fd:FuncData} (F:Fun K "told_kind" "told_kind" sToldKind f fd) (cF:Cls K CF) (nF:NoAttr K CF "kinds") (mN:mg "NoKind"=some (.ref CN)) (xN:PySem.W.excIn K CN bmVE "ValueError.__new__"=true) :
  FnOk P w K mg base (CX1 P w) 1 f fd ["part","word","own","parts"] (spToldKind K CF CN):=by
 refine F.okX scToldKind (fun vs H Q E h=>?_) (fun cdv A outer s H vs Q E hr h=>?_)
 ·obtain⟨q,t,o,p,okv,pkv,OG,PG,rfl,_⟩:=h
  rfl
 obtain⟨q,t,o,p,okv,pkv,OG,PG,rfl,hq,ht,ho,hO,hp,hP,hT⟩:=h
 have hu:=hu_of hr
 have lq:q.length≤100000:=Nat.le_trans hq.2 (by decide)
 have lt:t.length≤100000:=Nat.le_trans ht.2 (by decide)
 have zq:q.length≤sizeLine:=Nat.le_trans lq (by decide)
 have zt:t.length≤sizeLine:=Nat.le_trans lt (by decide)
 obtain⟨u1,d1,k1⟩:∃t',PSs (cxOf (CX1 P w) P w K mg base ["part","word","own","parts","kinds"] "told_kind" (defScope sToldKind) f cdv A outer s H E) (List.drop 1 (defBody sToldKind)) t' ∧
   ∀(d:Addr) (kvs:List (Key × V)) (g:Str→Option Kd),H d=some (.dK kvs)→KvAt K H kvs g→Told (g t) K H Q (E (.ref CN) none H) →
    t' { nx:=fun _ H'=>Q .non H',rt:=Q } [some (.str q),some (.str t),some (.ref o),some (.ref p),some (.ref d)] H:=by
  refine⟨_,pss_cons (ps_if (pt_cmp (pc_dnotin hu (pv 1) (pv 4)) (by with_unfolding_all rfl))
    (pss_one (ps_raise1 rfl mN xN (pa_cons (pe_fstr (pj_cons pe_str (pj_cons (pe_fr (pv 1)) (pj_cons pe_str (pj_cons (pe_fr (pv 0)) pj_nil)))) (by decide)) pa_nil))) pss_nil)
   (pss_one (ps_ret (pe_dget hu (pv 4) (pv 1) (fun _ _=>rfl)))),?_⟩
  intro d kvs g hd hg hT
  refine⟨_,rfl,_,rfl,d,_,rfl,DGet.k (k:=.inr t) hd,_,rfl,?_⟩
  rcases hg t with ⟨h1,h2⟩|⟨v,k,h1,h2,h3⟩
  ·rw [h1]
   rcases hT with ⟨_,hE⟩|⟨k,hk,_⟩
   ·refine iteT ⟨_,rfl,by decide +kernel,_,rfl,t,rfl,ht.1,ht.2,fun z hz=>⟨z,rfl,Nat.le_trans hz (by decide),_,rfl,by decide +kernel,_,rfl,q,rfl,hq.1,hq.2,fun z2 hz2=>⟨z2,rfl,Nat.le_trans hz2 (by decide),fun z3 hz3=>⟨(by show 1≤sizeLine;decide),hE⟩⟩⟩⟩
   ·rw [h2] at hk
    cases hk
  ·rw [h1]
   rcases hT with ⟨hn,_⟩|⟨k',hk,hQ⟩
   ·rw [h2] at hn
    cases hn
   ·rw [h2] at hk
    cases hk
    exact iteF ⟨_,rfl,_,rfl,d,v,rfl,h1▸DGet.k (k:=.inr t) hd,hQ v h3⟩
 refine⟨_,pss_cons (ps_if (pt_cmpR op_eq (pv 0) pe_str (nomark _)) (pss_one (ps_set (i:=4) scToldKind.nd rfl (Or.inl rfl) (pv 2)))
   (pss_one (ps_if (pt_cmp (pc_din hu (pv 0) (pv 3)) (by with_unfolding_all rfl)) (pss_one (ps_set (i:=4) scToldKind.nd rfl (Or.inl rfl) (pe_fld (pe_dget hu (pv 3) (pv 0) (fun _ _=>rfl)) rfl)))
    (pss_one (ps_raise1 rfl mN xN (pa_cons (pe_fstr (pj_cons pe_str (pj_cons (pe_fv (pv 0)) (pj_cons pe_str (pj_cons (pe_fv (pv 0)) (pj_cons pe_str (pj_cons (pe_fv (pv 1)) pj_nil)))))) (by decide)) pa_nil)))))) d1,?_⟩
 refine⟨_,rfl,rfl,_,rfl,?_⟩
 refine ite2 (fun c=>?_) (fun c=>?_)
 ·have c':V.str q=V.str "":=of_decide_eq_true c
  have e:q="":=by injection c'
  have hT':Told (OG t) K H Q (E (.ref CN) none H):=by
   unfold tell at hT
   rw [if_pos e] at hT
   exact hT
  exact⟨_,rfl,k1 o okv OG ho hO hT'⟩
 ·have c':¬q="":=fun e=>c (decide_eq_true (by rw [e]))
  have hT':Told ((PG q).bind fun g=>g t) K H Q (E (.ref CN) none H):=by
   unfold tell at hT
   rw [if_neg c'] at hT
   exact hT
  refine⟨_,rfl,_,rfl,p,_,rfl,DGet.k (k:=.inr q) hp,_,rfl,?_⟩
  rcases hP q with ⟨h1,h2⟩|⟨v,g,h1,h2,h3⟩
  ·rw [h1]
   rw [h2] at hT'
   rcases hT' with ⟨_,hE⟩|⟨k,hk,_⟩
   ·refine iteF ⟨_,rfl,by decide +kernel,_,rfl,.inl ⟨q,rfl,zq,q,rfl,Nat.le_trans lq (by decide),_,rfl,by decide +kernel,_,rfl,.inl ⟨q,rfl,zq,q,rfl,Nat.le_trans lq (by decide),_,rfl,by decide +kernel,_,rfl,.inl ⟨t,rfl,zt,t,rfl,Nat.le_trans lt (by decide),fun z3 hz3=>⟨(by show 1≤sizeLine;decide),hE⟩⟩⟩⟩⟩
   ·cases hk
  ·rw [h1]
   rw [h2] at hT'
   obtain⟨a,dx,fs,d,kvs,rfl,h4,h5,h6,h7⟩:=h3
   exact iteT ⟨_,rfl,_,rfl,p,.ref a,rfl,h1▸DGet.k (k:=.inr q) hp,a,CF,dx,fs,_,rfl,h4,cF,nF,h5,k1 d kvs g h6 h7 hT'⟩
end
end K42
namespace K42
open PySem L2 Kk
theorem put_congr{G T:Str × Str→Option Kd}:∀{k:Kd},(∀n∈Kd.names k,G n=T n)→Kd.put G k=Kd.put T k
 |.num _,_=>rfl
 |.name q t,h=>by
  show(G (q,t)).getD _=(T (q,t)).getD _
  rw [h (q,t) (List.mem_singleton.mpr rfl)]
 |.pair a b,h=>by
  show Kd.pair (Kd.put G a) (Kd.put G b)=Kd.pair (Kd.put T a) (Kd.put T b)
  rw [put_congr (k:=a) fun n hn=>h n (List.mem_append_left _ hn),put_congr (k:=b) fun n hn=>h n (List.mem_append_right _ hn)]
theorem addN_mem{acc:List (Str × Str)}{m n:Str × Str}(h:n∈acc∨n=m):n∈addN acc m:=by
 unfold addN
 split
 ·rename_i hm
  rcases h with h|rfl
  ·exact h
  ·exact hm
 ·rcases h with h|rfl
  ·exact List.mem_append_left _ h
  ·exact List.mem_append_right _ (List.mem_singleton.mpr rfl)
theorem firsts_mem:∀{l acc:List (Str × Str)} {n:Str × Str},n∈acc∨n∈l→n∈firsts acc l
 |[],acc,n,h=>h.elim id fun z=>nomatch z
 |m::l,acc,n,h=>by
  refine firsts_mem (l:=l) (acc:=addN acc m) ?_
  rcases h with h|h
  ·exact .inl (addN_mem (.inl h))
  ·rcases List.mem_cons.mp h with h|h
   ·exact .inl (addN_mem (.inr h))
   ·exact .inr h
theorem mem_addN{acc:List (Str × Str)}{m n:Str × Str}(h:n∈addN acc m):n∈acc∨n=m:=by
 unfold addN at h
 split at h
 ·exact .inl h
 ·rcases List.mem_append.mp h with q|q
  ·exact .inl q
  ·exact .inr (List.mem_singleton.mp q)
theorem mem_firsts:∀{l acc:List (Str × Str)} {n:Str × Str},n∈firsts acc l→n∈acc∨n∈l
 |[],acc,n,h=>.inl h
 |m::l,acc,n,h=>by
  rcases mem_firsts (l:=l) (acc:=addN acc m) h with q|q
  ·rcases mem_addN q with q|q
   ·exact .inl q
   ·exact .inr (q▸List.mem_cons_self)
  ·exact .inr (List.mem_cons_of_mem _ q)
theorem firsts_len:∀(l acc:List (Str × Str)),(firsts acc l).length≤acc.length+l.length
 |[],acc=>Nat.le_refl _
 |m::l,acc=>by
  have h1:=firsts_len l (addN acc m)
  have h2:=addN_len acc m
  show(firsts (addN acc m) l).length≤acc.length+(l.length+1)
  omega
theorem names_len:∀k:Kd,(Kd.names k).length≤k.words
 |.num _=>Nat.zero_le _
 |.name _ _=>Nat.le_refl _
 |.pair a b=>by
  have h1:=names_len a
  have h2:=names_len b
  show(Kd.names a++Kd.names b).length≤1+a.words+b.words
  rw [List.length_append]
  omega
theorem paired_get{H:Hp}:∀{dn:List (Str × Str)} {as:List Addr} {i:Nat} {b:Addr},Paired (fun(n:Str × Str) (a:Addr)=>H a=some (.tup [.str n.1,.str n.2])) dn as→as[i]?=some b→∃n:Str × Str,dn[i]?=some n∧H b=some (.tup [.str n.1,.str n.2])
 |_,_,_,_,.nil,e=>by simp at e
 |_,_,0,_,.cons a _,e=>by
  obtain rfl:=Option.some.inj e
  exact⟨_,rfl,a⟩
 |_,_,i+1,_,.cons _ r,e=>paired_get (i:=i) r e
theorem gv_put{K:PySem.W.Frag}{H:Hp}{kvs:List (List Key × V)}{G:Str × Str→Option Kd}{n:Str × Str}{v:V}{k:Kd}(h:GvAt K H kvs G)(hv:KdAt K H v k):GvAt K H (putK kvs (keyN n) v) (fun m=>if m=n then some k else G m):=fun m=>by
 by_cases e:m=n
 ·subst e
  exact .inr ⟨v,k,by rw [valV_put,if_pos rfl],if_pos rfl,hv⟩
 ·have e2:keyN m≠keyN n:=fun z=>e (keyN_inj z)
  rcases h m with ⟨h1,h2⟩|⟨v',k',h1,h2,h3⟩
  ·exact .inl ⟨by rw [valV_put,if_neg e2];exact h1,(if_neg e).trans h2⟩
  ·exact .inr ⟨v',k',by rw [valV_put,if_neg e2];exact h1,(if_neg e).trans h2,h3⟩
def spNormal(K:PySem.W.Frag)(CF CN CT:Addr):Sp:=fun vs H Q E=>∃(x:V) (k:Kd) (o p:Addr) (m:Int) (okv pkv:List (Key × V)) (OG:Str→Option Kd) (PG:Str→Option (Str→Option Kd)),
 vs=[x,.ref o,.ref p,.int m]∧KdAt K H x k∧k.words≤900∧Kd.depth k≤40∧(∀n∈Kd.names k,okW n.1∧okW n.2)∧0≤m∧m≤1000000∧H o=some (.dK okv)∧KvAt K H okv OG∧H p=some (.dK pkv)∧PartsAt K H CF pkv PG ∧
 (∀H',Same H H'→(∃n∈Kd.names k,tell OG PG n=none)→E (.ref CN) none H') ∧
 ((∀n∈Kd.names k,tell OG PG n≠none)→(Kd.put (tell OG PG) k).words≤900∧∀H',Same H H'→if ((Kd.put (tell OG PG) k).words:Int) > m then E (.ref CT) none H' else ∀v,KdAt K H' v (Kd.put (tell OG PG) k)→Q v H')
section
variable{P:Program}{w:World}{K:PySem.W.Frag}{mg:Str→Option Value}{base:Heap}
theorem scNormal:FnScope ["kind","own","parts","most","given","part","word"] ["kind","own","parts","most"] (defScope sNormal):=⟨rfl,rfl,rfl,by decide +kernel,rfl,by decide +kernel,by decide +kernel⟩
set_option maxHeartbeats 0 in
theorem ok_normal{f fn fp fb ft CF CN CT:Addr}{dV:Value}{fd fdn fdp fdb fdt:FuncData} (F:FunD K "normal" "normal" sNormal dV f fd)
  (GN:FnOk P w K mg base CX0 1 fn fdn ["kind"] (spNames K)) (bN:Binds K fdn ["kind"] []) (kN:PySem.W.keepIn K (.ref fn)=true) (mN:mg "names_in"=some (.ref fn))
  (GP:FnOk P w K mg base CX0 40 fp fdp ["kind","given"] (spPut K 40)) (bP:Binds K fdp ["kind","given"] []) (kP:PySem.W.keepIn K (.ref fp)=true) (mP:mg "put"=some (.ref fp))
  (GB:FnOk P w K mg base (CX1 P w) 2 fb fdb ["kind","most"] (spBounded K CT)) (bB:Binds K fdb ["kind","most"] []) (kB:PySem.W.keepIn K (.ref fb)=true) (mB:mg "bounded"=some (.ref fb))
  (GT:FnOk P w K mg base (CX1 P w) 1 ft fdt ["part","word","own","parts"] (spToldKind K CF CN)) (bT:Binds K fdt ["part","word","own","parts"] []) (kT:PySem.W.keepIn K (.ref ft)=true) (mT:mg "told_kind"=some (.ref ft)) :
  FnOk P w K mg base (CX1 P w) 41 f fd ["kind","own","parts","most"] (spNormal K CF CN CT):=by
 refine F.okX scNormal (fun vs H Q E h=>?_) (fun cdv A outer s H vs Q E hr h=>?_)
 ·obtain⟨x,k,o,p,m,okv,pkv,OG,PG,rfl,_⟩:=h
  rfl
 obtain⟨x,k,o,p,m,okv,pkv,OG,PG,rfl,hk,hw,hdp,hnm,m0,m1,ho,hO,hp,hP,q1,q2⟩:=h
 have hu:=hu_of hr
 have hr1:Room 1 _:=hr.mono (by decide)
 have hr2:Room 2 _:=hr.mono (by decide)
 refine⟨_,pss_cons (ps_set (i:=4) scNormal.nd rfl (Or.inl rfl) pe_dnewT)
  (pss_cons (ps_for PassesOwn.leaving rfl (pi_list (pe_call GN hr1 rfl mN kN bN .nil pass0 (pa_cons (pv 0) pa_nil)))
   (pg_tup rfl (pgs_cons (pg_name (i:=5) scNormal.nd rfl (Or.inl rfl)) (pgs_cons (pg_name (i:=6) scNormal.nd rfl (Or.inl rfl)) pgs_nil)))
   (pss_one (ps_dput hu (pv 4) (pe_tup (pa_cons (pv 5) (pa_cons (pv 6) pa_nil))) (pe_call GT hr1 rfl mT kT bT .nil pass1 (pa_cons (pv 5) (pa_cons (pv 6) (pa_cons (pv 1) (pa_cons (pv 2) pa_nil))))) rfl)))
  (pss_one (ps_ret (pe_call GB hr2 rfl mB kB bB .nil pass1 (pa_cons (pe_call GP hr rfl mP kP bP .nil pass0 (pa_cons (pv 0) (pa_cons (pv 4) pa_nil))) (pa_cons (pv 3) pa_nil)))))),?_⟩
 intro g hg
 have sg:=same_new hg (.dT [])
 refine⟨_,rfl,x,k,rfl,hk.same sg,hw,fun H1 l as s1 _ hl hpr=>?_⟩
 have gne:l≠g:=fun e=>by
  have z:=s1 _ _ (upd_same (H:=H) (a:=g) (o:=.dT []))
  rw [←e,hl] at z
  cases z
 have hS1:Same H H1:=same_trans sg s1
 have hlen:=Paired.length hpr
 refine⟨l,rfl,⟨_,SqL.of hl⟩,for_list (K:=K) (xs:=as.map V.ref) (fun i σ H3=>∃(x5 x6:Option V) (kvs:List (List Key × V)),σ=[some x,some (.ref o),some (.ref p),some (.int m),some (.ref g),x5,x6]∧Same H H3∧H3 l=some (.lst (as.map V.ref))∧H3 g=some (.dT kvs) ∧
   Paired (fun(n:Str × Str) (a:Addr)=>H3 a=some (.tup [.str n.1,.str n.2])) (firsts [] (Kd.names k)) as∧kvs.length≤i∧(∀n∈(firsts [] (Kd.names k)).take i,tell OG PG n≠none)∧GvAt K H3 kvs (fun n=>if n∈(firsts [] (Kd.names k)).take i then tell OG PG n else none))
  ⟨none,none,[],rfl,hS1,hl,s1 _ _ upd_same,hpr,Nat.le_refl _,fun n hn=>(by simp at hn),fun n=>.inl ⟨rfl,by simp⟩⟩ ?_ ?_ ?_⟩
 ·rintro i σ H3 _ ⟨x5,x6,kvs,rfl,_,h3,_⟩
  exact SqL.of h3
 ·rintro i y σ H3 hy ⟨x5,x6,kvs,rfl,s3,hl3,hg3,hp3,hkl,hto,hG⟩
  obtain⟨b,hb,rfl⟩:∃b,as[i]?=some b∧V.ref b=y:=by
   rw [List.getElem?_map] at hy
   exact Option.map_eq_some_iff.mp hy
  obtain⟨n,hn,htu⟩:=paired_get hp3 hb
  have hnm':n∈Kd.names k:=by
   rcases mem_firsts (List.mem_of_getElem? hn) with z|z
   ·cases z
   ·exact z
  have hil:i < as.length:=(List.getElem?_eq_some_iff.mp hb).1
  have etake:(firsts [] (Kd.names k)).take (i+1)=(firsts [] (Kd.names k)).take i++[n]:=by
   rw [List.take_add_one,hn]
   rfl
  have hkz:kvs.length < sizeLine:=by
   have h1:=firsts_len (Kd.names k) []
   have h2:=names_len k
   have h3:([]:List (Str × Str)).length=0:=rfl
   exact Nat.lt_of_lt_of_le (Nat.lt_succ_self _) (small (by omega))
  refine⟨b,_,rfl,SqT.of htu,rfl,_,_,rfl,_,_,rfl,rfl,?_⟩
  refine⟨_,rfl,_,rfl,_,rfl,_,rfl,n.1,n.2,o,p,okv,pkv,OG,PG,rfl,(hnm n hnm').1,(hnm n hnm').2,s3 _ _ ho,hO.same s3,s3 _ _ hp,hP.same s3,?_⟩
  cases ht:tell OG PG n with
  |none=>exact .inl ⟨rfl,q1 _ s3 ⟨n,hnm',ht⟩⟩
  |some kk =>
   refine .inr ⟨kk,rfl,fun v hv=>?_⟩
   refine⟨_,rfl,_,rfl,_,rfl,(by show 2≤sizeLine;decide),fun c hc=>?_⟩
   have sc:=same_new hc (.tup [.str n.1,.str n.2])
   have hg4:=sc _ _ hg3
   have hcg:g≠c:=ne_of_none hg3 hc
   have hcl:l≠c:=ne_of_none hl3 hc
   have hc0:H c=none:=by
    cases e:H c with
    |none=>rfl
    |some u=>rw [s3 _ _ e] at hc;cases hc
   refine⟨g,_,rfl,DPut.t (k:=keyN n) hg4 upd_same hkz,?_⟩
   have keep:∀a xs,SqT K (upd H3 c (.tup [.str n.1,.str n.2])) a xs→SqT K (upd (upd H3 c (.tup [.str n.1,.str n.2])) g (.dT (putK kvs (keyN n) v))) a xs:=fun a xs t=>by
    rcases t with (t|⟨o',t⟩)|t
    ·exact .inl (.inl (by rw [upd_ne (fun e=>by rw [e,hg4] at t;cases t)];exact t))
    ·exact .inl (.inr ⟨o',by rw [upd_ne (fun e=>by rw [e,hg4] at t;cases t)];exact t⟩)
    ·exact .inr t
   refine⟨_,_,putK kvs (keyN n) v,rfl,sput (same_trans s3 sc) hg,?_,upd_same,?_,?_,?_,?_⟩
   ·rw [upd_ne gne]
    exact sc _ _ hl3
   ·exact Paired.imp' (fun m a e=>by rw [upd_ne (fun z=>by rw [z,hg3] at e;cases e)];exact sc _ _ e) hp3
   ·have:=length_putK kvs (keyN n) v
    omega
   ·rw [etake]
    intro m hm
    rcases List.mem_append.mp hm with z|z
    ·exact hto m z
    ·rw [List.mem_singleton.mp z,ht]
     exact fun e=>nomatch e
   ·have hG2:=gv_put (n:=n) (hG.same sc) (hv.same sc)
    rw [etake]
    intro mm
    have eG:(if mm∈(firsts [] (Kd.names k)).take i++[n] then tell OG PG mm else none)=(if mm=n then some kk else if mm∈(firsts [] (Kd.names k)).take i then tell OG PG mm else none):=by
     by_cases e:mm=n
     ·subst e
      rw [if_pos (List.mem_append_right _ (List.mem_singleton.mpr rfl)),if_pos rfl,ht]
     ·rw [if_neg e]
      by_cases e2:mm∈(firsts [] (Kd.names k)).take i
      ·rw [if_pos e2,if_pos (List.mem_append_left _ e2)]
      ·rw [if_neg e2,if_neg (fun z=>(List.mem_append.mp z).elim e2 fun z2=>e (List.mem_singleton.mp z2))]
    rcases hG2 mm with ⟨h1,h2⟩|⟨v',k',h1,h2,h3⟩
    ·exact .inl ⟨h1,eG.trans h2⟩
    ·exact .inr ⟨v',k',h1,eG.trans h2,kd_keep keep h3⟩
 ·rintro σ H3 ⟨x5,x6,kvs,rfl,s3,hl3,hg3,hp3,hkl,hto,hG⟩
  rw [List.length_map,←hlen,List.take_length] at hto hG
  have hall:∀n∈Kd.names k,tell OG PG n≠none:=fun n hn=>hto n (firsts_mem (.inr hn))
  obtain⟨hb9,q3⟩:=q2 hall
  have epc:Kd.put (fun n=>if n∈firsts [] (Kd.names k) then tell OG PG n else none) k=Kd.put (tell OG PG) k:=put_congr fun n hn=>if_pos (firsts_mem (.inr hn))
  refine⟨_,rfl,_,rfl,x,g,k,kvs,_,rfl,hk.same s3,hdp,hg3,hG,fun H4 v4 s4 hv4=>?_⟩
  rw [epc] at hv4
  refine⟨_,rfl,v4,_,m,rfl,hv4,hb9,m0,m1,fun H5 s5=>?_⟩
  have q4:=q3 H5 (same_trans s3 (same_trans s4 s5))
  by_cases c:((Kd.put (tell OG PG) k).words:Int) > m
  ·rw [if_pos c] at q4 ⊢
   exact q4
  ·rw [if_neg c] at q4 ⊢
   exact q4 v4 (hv4.same s5)
end
end K42
namespace K42
open PySem L2 Kk
section
variable{P:Program}{w:World}{K:PySem.W.Frag}{mg:Str→Option Value}{base:Heap}
abbrev pfN:List Str:=["face","given","kinds","word","kind","funs","fun"]
def putP(G:Str × Str→Option Kd)(q:Str × Kd):Str × Kd:=(q.1,Kd.put G q.2)
theorem sqt_fz{H:Hp}{l a:Addr}{ob:Obj}{kvs:List (Key × V)}{xs:List V}{o:HO}(h:H l=some (.frz ob (.dK kvs)))(t:SqT K H a xs):SqT K (upd H l o) a xs:=by
 rcases t with (t|⟨o',t⟩)|t
 ·exact .inl (.inl (by rw [upd_ne (fun e=>by rw [e,h] at t;cases t)];exact t))
 ·exact .inl (.inr ⟨o',by rw [upd_ne (fun e=>by rw [e,h] at t;cases t)];exact t⟩)
 ·exact .inr t
theorem scPutFace:FnScope pfN ["face","given"] (defScope sPutFace):=⟨rfl,rfl,rfl,by decide +kernel,rfl,by decide +kernel,by decide +kernel⟩
theorem pf_loop{n:Nat}{f fp CF:Addr}{fdp:FuncData} (GP:FnOk P w K mg base CX0 n fp fdp ["kind","given"] (spPut K n)) (bP:Binds K fdp ["kind","given"] []) (kP:PySem.W.keepIn K (.ref fp)=true) (mP:mg "put"=some (.ref fp)) (cF:Cls K CF) (nK:NoAttr K CF "kinds")
  {cdv:Value} {A:Around} {outer:List Env} {s:Shared} {H:Hp} {E:XK} (hr:Room (n+2) (A.deeper (PyProof.Rows.envOfC "put_in_face" (defScope sPutFace) s.heap.objs.size f cdv))) :
  ∃t,PS (cxOf CX0 P w K mg base pfN "put_in_face" (defScope sPutFace) f cdv A outer s H E).nox ((defBody sPutFace).getD 1 (.Pass ⟨0,0,0,0⟩)) t ∧
   ∀(D:Ends) (H1:Hp) (fa g dx d1 kd:Addr) (fs:List (Str × V)) (kv1:List (Key × V)) (m1:List (Str × Kd)) (kvs:List (List Key × V)) (G:Str × Str→Option Kd),Same H H1→H fa=some (.ins CF dx fs)→fs.lookup ("kinds":Str)=some (.ref d1)→H d1=some (.dK kv1)→PkAt (KdAt K H) kv1 m1→(m1.map (·.1)).Nodup→m1.length≤100 →
    (∀q∈m1,Kd.depth q.2≤n)→H g=some (.dT kvs)→GvAt K H kvs G→H kd=none→H1 kd=some (.dK []) →
    (∀(H4:Hp) (y3 y4:Option V) (kv':List (Key × V)),Same H H4→H4 kd=some (.dK kv')→PkAt (KdAt K H4) kv' (m1.map (putP G))→D.nx [some (.ref fa),some (.ref g),some (.ref kd),y3,y4,none,none] H4) →
    t D [some (.ref fa),some (.ref g),some (.ref kd),none,none,none,none] H1:=by
 have hu:=hu_of hr
 have hr0:Room n _:=hr.mono (by omega)
 refine⟨_,ps_thaw (ps_for PassesOwn.never rfl (pi_items (pe_fld (pv 0) rfl)) (pg_tup rfl (pgs_cons (pg_name (i:=3) scPutFace.nd rfl (Or.inl rfl)) (pgs_cons (pg_name (i:=4) scPutFace.nd rfl (Or.inl rfl)) pgs_nil)))
   (pss_one (ps_dput hu (pv 2) (pv 3) (pe_call GP hr0 (by rfl) mP kP bP .nil pass0 (pa_cons (pv 4) (pa_cons (pv 1) pa_nil))) rfl))),?_⟩
 intro D H1 fa g dx d1 kd fs kv1 m1 kvs G s1 hfa hl1 hd1 hk1 hnd h100 hdp hg hG hkd hkd1 q
 have hlen:kv1.length=m1.length:=Paired.length hk1
 have nkd:kd≠d1:=fun e=>by rw [e,hd1] at hkd;cases hkd
 refine⟨_,rfl,fa,CF,dx,fs,_,rfl,s1 _ _ hfa,cF,nK,hl1,d1,kv1,rfl,s1 _ _ hd1,fun o=>?_⟩
 refine for_items (fun i σ H3=>∃(kv':List (Key × V)) (y3 y4:Option V),σ=[some (.ref fa),some (.ref g),some (.ref kd),y3,y4,none,none]∧(∀b u,H b=some u→b≠d1→H3 b=some u)∧H3 d1=some (.frz o (.dK kv1))∧H3 kd=some (.dK kv') ∧
  PkAt (KdAt K H3) kv' ((m1.take i).map (putP G))∧kv'.length≤i∧(∀a xs,SqT K H a xs→SqT K H3 a xs)) ?_ ?_ ?_ ?_
 ·refine⟨[],none,none,rfl,fun b u hb nb=>by rw [upd_ne nb];exact s1 _ _ hb,upd_same,by rw [upd_ne nkd];exact hkd1,.nil,Nat.le_refl _,fun a xs h=>sqt_dk (s1 _ _ hd1) (s1.tup h)⟩
 ·rintro i σ H3 _ ⟨_,_,_,_,_,h,_⟩
  exact h
 ·rintro i p a σ H3 hp ha ⟨kv',y3,y4,rfl,old,hd3,hkd3,hpk,hfew,keep⟩
  obtain⟨⟨z,k⟩,hq,ez,hkz⟩:=pair_get hk1 hp
  obtain⟨pk,pw⟩:=p
  replace ez:pk=.inr z:=ez
  replace hkz:KdAt K H pw k:=hkz
  subst ez
  have hi:i < m1.length:=(List.getElem?_eq_some_iff.mp hq).1
  have ea:=same_new ha (.tup [kV (.inr z),pw])
  refine⟨a,_,rfl,SqT.of upd_same,rfl,_,_,rfl,_,_,rfl,rfl,?_⟩
  have gne:g≠d1:=fun e=>by rw [e,hd1] at hg;cases hg
  have keepA:∀b xs,SqT K H b xs→SqT K (upd H3 a (.tup [kV (.inr z),pw])) b xs:=fun b xs h=>ea.tup (keep b xs h)
  refine⟨_,rfl,_,rfl,pw,g,k,kvs,G,rfl,kd_keep keepA hkz,hdp (z,k) (List.mem_of_getElem? hq),ea _ _ (old g _ hg gne),fun nn=>?_,fun H4 v s4 hv=>?_⟩
  ·rcases hG nn with h|⟨v,k',h1,h2,h3⟩
   ·exact .inl h
   ·exact .inr ⟨v,k',h1,h2,kd_keep keepA h3⟩
  ·have hkd4:=s4 _ _ (ea _ _ hkd3)
   refine⟨_,rfl,_,rfl,kd,_,rfl,DPut.k (k:=.inr z) hkd4 (Nat.lt_of_lt_of_le (Nat.lt_succ_self _) (small (by omega))),?_⟩
   have kp5:∀b xs,SqT K H4 b xs→SqT K (upd H4 kd (.dK (putK kv' (.inr z) v))) b xs:=fun b xs h=>sqt_dk hkd4 h
   refine⟨_,_,_,rfl,fun b u hb nb=>?_,?_,upd_same,?_,?_,fun b xs h=>kp5 b xs (s4.tup (keepA b xs h))⟩
   ·rw [upd_ne (fun e=>by rw [e,hkd] at hb;cases hb)]
    exact s4 _ _ (ea _ _ (old b u hb nb))
   ·rw [upd_ne (Ne.symm nkd)]
    exact s4 _ _ (ea _ _ hd3)
   ·have et:(m1.take (i+1)).map (putP G)=(m1.take i).map (putP G)++[(z,Kd.put G k)]:=by
     rw [List.take_add_one,hq]
     simp [putP]
    rw [et]
    refine PkAt.put (hpk.imp fun v' x' h=>kd_keep (fun b xs t=>kp5 b xs (s4.tup (ea.tup t))) h) ?_ (kd_keep kp5 hv)
    have e1:((m1.take i).map (putP G)).map (·.1)=(m1.map (·.1)).take i:=by
     rw [List.map_map,List.map_take]
     rfl
    rw [e1]
    exact out_take hnd (by rw [List.getElem?_map,hq];rfl)
   ·have:=length_putK kv' (.inr z) v
    omega
 ·rintro σ H3 ⟨kv',y3,y4,rfl,old,hd3,hkd3,hpk,hfew,keep⟩
  refine⟨d1,o,.dK kv1,hd3,fun o' u' e=>?_,?_⟩
  ·have e':H d1=some (.frz o' u'):=e
   rw [hd1] at e'
   cases e'
  ·have hs:Same H (upd H3 d1 (.dK kv1)):=fun b u hb=>by
    by_cases e:b=d1
    ·rw [e] at hb ⊢
     rw [hd1] at hb
     cases hb
     exact upd_same
    ·rw [upd_ne e]
     exact old b u hb e
   refine q _ y3 y4 kv' hs (by rw [upd_ne nkd];exact hkd3) ?_
   rw [hlen,List.take_length] at hpk
   exact hpk.imp fun v x h=>kd_keep (fun a xs t=>sqt_fz hd3 t) h
end
end K42
namespace K42
open PySem L2 Kk
section
variable{P:Program}{w:World}{K:PySem.W.Frag}{mg:Str→Option Value}{base:Heap}
def putQ(G:Str × Str→Option Kd)(q:Str × (List Kd × Kd)):Str × (List Kd × Kd):=(q.1,(q.2.1.map (Kd.put G),Kd.put G q.2.2))
theorem pf_loop2{n:Nat}{f fp CF:Addr}{fdp:FuncData} (GP:FnOk P w K mg base CX0 (n+1) fp fdp ["fun","given"] (spPutFun K n)) (bP:Binds K fdp ["fun","given"] []) (kP:PySem.W.keepIn K (.ref fp)=true) (mP:mg "put_in_fun"=some (.ref fp)) (cF:Cls K CF) (nK:NoAttr K CF "funs")
  {cdv:Value} {A:Around} {outer:List Env} {s:Shared} {H:Hp} {E:XK} (hr:Room (n+2) (A.deeper (PyProof.Rows.envOfC "put_in_face" (defScope sPutFace) s.heap.objs.size f cdv))) :
  ∃t,PS (cxOf CX0 P w K mg base pfN "put_in_face" (defScope sPutFace) f cdv A outer s H E).nox ((defBody sPutFace).getD 3 (.Pass ⟨0,0,0,0⟩)) t ∧
   ∀(D:Ends) (B H1:Hp) (fa g dx d1 kd:Addr) (k0 y3 y4:Option V) (fs:List (Str × V)) (kv1:List (Key × V)) (m1:List (Str × (List Kd × Kd))) (kvs:List (List Key × V)) (G:Str × Str→Option Kd),(∀o u,H d1≠some (.frz o u))→Same B H1→B fa=some (.ins CF dx fs)→fs.lookup ("funs":Str)=some (.ref d1)→B d1=some (.dK kv1)→PkAt (FunAt K B) kv1 m1→(m1.map (·.1)).Nodup→m1.length≤100 →
    (∀q∈m1,(∀k∈q.2.1,Kd.depth k≤n)∧Kd.depth q.2.2≤n∧q.2.1.length≤100)→B g=some (.dT kvs)→GvAt K B kvs G→B kd=none→H1 kd=some (.dK []) →
    (∀(H4:Hp) (y3 y6:Option V) (kv':List (Key × V)),Same B H4→H4 kd=some (.dK kv')→PkAt (FunAt K H4) kv' (m1.map (putQ G))→D.nx [some (.ref fa),some (.ref g),k0,y3,y4,some (.ref kd),y6] H4) →
    t D [some (.ref fa),some (.ref g),k0,y3,y4,some (.ref kd),none] H1:=by
 have hu:=hu_of hr
 have hr0:Room (n+1) _:=hr.mono (by omega)
 refine⟨_,ps_thaw (ps_for PassesOwn.never rfl (pi_items (pe_fld (pv 0) rfl)) (pg_tup rfl (pgs_cons (pg_name (i:=3) scPutFace.nd rfl (Or.inl rfl)) (pgs_cons (pg_name (i:=6) scPutFace.nd rfl (Or.inl rfl)) pgs_nil)))
   (pss_one (ps_dput hu (pv 5) (pv 3) (pe_call GP hr0 (by rfl) mP kP bP .nil pass0 (pa_cons (pv 6) (pa_cons (pv 1) pa_nil))) rfl))),?_⟩
 intro D B H1 fa g dx d1 kd k0 y30 y4 fs kv1 m1 kvs G hH s1 hfa hl1 hd1 hk1 hnd h100 hdp hg hG hkd hkd1 q
 have hlen:kv1.length=m1.length:=Paired.length hk1
 have nkd:kd≠d1:=fun e=>by rw [e,hd1] at hkd;cases hkd
 refine⟨_,rfl,fa,CF,dx,fs,_,rfl,s1 _ _ hfa,cF,nK,hl1,d1,kv1,rfl,s1 _ _ hd1,fun o=>?_⟩
 refine for_items (fun i σ H3=>∃(kv':List (Key × V)) (y3 y6:Option V),σ=[some (.ref fa),some (.ref g),k0,y3,y4,some (.ref kd),y6]∧(∀b u,B b=some u→b≠d1→H3 b=some u)∧H3 d1=some (.frz o (.dK kv1))∧H3 kd=some (.dK kv') ∧
  PkAt (FunAt K H3) kv' ((m1.take i).map (putQ G))∧kv'.length≤i∧(∀a xs,SqT K B a xs→SqT K H3 a xs)) ?_ ?_ ?_ ?_
 ·refine⟨[],y30,none,rfl,fun b u hb nb=>by rw [upd_ne nb];exact s1 _ _ hb,upd_same,by rw [upd_ne nkd];exact hkd1,.nil,Nat.le_refl _,fun a xs h=>sqt_dk (s1 _ _ hd1) (s1.tup h)⟩
 ·rintro i σ H3 _ ⟨_,_,_,_,_,h,_⟩
  exact h
 ·rintro i p a σ H3 hp ha ⟨kv',y3,y6,rfl,old,hd3,hkd3,hpk,hfew,keep⟩
  obtain⟨⟨z,k⟩,hq,ez,hkz⟩:=pair_get hk1 hp
  obtain⟨pk,pw⟩:=p
  replace ez:pk=.inr z:=ez
  replace hkz:FunAt K B pw k:=hkz
  obtain⟨tp,ta,tx,txs,rfl,f1,f2,f3,f4⟩:=hkz
  obtain⟨dpA,dpB,dpC⟩:=hdp (z,k) (List.mem_of_getElem? hq)
  subst ez
  have hi:i < m1.length:=(List.getElem?_eq_some_iff.mp hq).1
  have ea:=same_new ha (.tup [kV (.inr z),.ref tp])
  refine⟨a,_,rfl,SqT.of upd_same,rfl,_,_,rfl,_,_,rfl,rfl,?_⟩
  have gne:g≠d1:=fun e=>by rw [e,hd1] at hg;cases hg
  have keepA:∀b xs,SqT K B b xs→SqT K (upd H3 a (.tup [kV (.inr z),.ref tp])) b xs:=fun b xs h=>ea.tup (keep b xs h)
  refine⟨_,rfl,_,rfl,tp,g,ta,tx,txs,k.1,k.2,kvs,G,rfl,keepA _ _ f1,keepA _ _ f2,kds_keep keepA f3,kd_keep keepA f4,dpA,dpB,dpC,ea _ _ (old g _ hg gne),fun nn=>?_,fun H4 p4 ta4 xs4 x4 s4 v1 v2 v3 v4=>?_⟩
  ·rcases hG nn with h|⟨v,k',h1,h2,h3⟩
   ·exact .inl h
   ·exact .inr ⟨v,k',h1,h2,kd_keep keepA h3⟩
  ·have hkd4:=s4 _ _ (ea _ _ hkd3)
   refine⟨_,rfl,_,rfl,kd,_,rfl,DPut.k (k:=.inr z) hkd4 (Nat.lt_of_lt_of_le (Nat.lt_succ_self _) (small (by omega))),?_⟩
   have kp5:∀b xs,SqT K H4 b xs→SqT K (upd H4 kd (.dK (putK kv' (.inr z) (.ref p4)))) b xs:=fun b xs h=>sqt_dk hkd4 h
   refine⟨_,_,_,rfl,fun b u hb nb=>?_,?_,upd_same,?_,?_,fun b xs h=>kp5 b xs (s4.tup (keepA b xs h))⟩
   ·rw [upd_ne (fun e=>by rw [e,hkd] at hb;cases hb)]
    exact s4 _ _ (ea _ _ (old b u hb nb))
   ·rw [upd_ne (Ne.symm nkd)]
    exact s4 _ _ (ea _ _ hd3)
   ·have et:(m1.take (i+1)).map (putQ G)=(m1.take i).map (putQ G)++[(z,(k.1.map (Kd.put G),Kd.put G k.2))]:=by
     rw [List.take_add_one,hq]
     simp [putQ]
    rw [et]
    refine PkAt.put (hpk.imp fun v' x' h=>h.keep (fun b xs t=>kp5 b xs (s4.tup (ea.tup t)))) ?_ ⟨p4,ta4,x4,xs4,rfl,kp5 _ _ (SqT.of v1),kp5 _ _ (SqT.of v2),kds_keep kp5 v3,kd_keep kp5 v4⟩
    have e1:((m1.take i).map (putQ G)).map (·.1)=(m1.map (·.1)).take i:=by
     rw [List.map_map,List.map_take]
     rfl
    rw [e1]
    exact out_take hnd (by rw [List.getElem?_map,hq];rfl)
   ·have:=length_putK kv' (.inr z) (.ref p4)
    omega
 ·rintro σ H3 ⟨kv',y3,y6,rfl,old,hd3,hkd3,hpk,hfew,keep⟩
  refine⟨d1,o,.dK kv1,hd3,fun o' u' e=>hH o' u' e,?_⟩
  ·have hs:Same B (upd H3 d1 (.dK kv1)):=fun b u hb=>by
    by_cases e:b=d1
    ·rw [e] at hb ⊢
     rw [hd1] at hb
     cases hb
     exact upd_same
    ·rw [upd_ne e]
     exact old b u hb e
   refine q _ y3 y6 kv' hs (by rw [upd_ne nkd];exact hkd3) ?_
   rw [hlen,List.take_length] at hpk
   exact hpk.imp fun v x h=>h.keep (fun a xs t=>sqt_fz hd3 t)
end
end K42
namespace K42
open PySem L2 Kk
def FaceN(K:PySem.W.Frag)(H0 H:Hp)(CF fa:Addr)(m1:List (Str × Kd))(m2:List (Str × (List Kd × Kd))):Prop :=
 ∃(dx d1 d2:Addr) (fs:List (Str × V)) (kv1 kv2:List (Key × V)),H0 d1=none∧H0 d2=none∧d1≠d2∧H fa=some (.ins CF dx fs)∧fs.lookup ("kinds":Str)=some (.ref d1)∧fs.lookup ("funs":Str)=some (.ref d2)∧H d1=some (.dK kv1)∧H d2=some (.dK kv2)∧PkAt (KdAt K H) kv1 m1∧PkAt (FunAt K H) kv2 m2∧fs.lookup ("hidden":Str)=none∧fs.lookup ("put":Str)=none
def spPutFace(K:PySem.W.Frag)(CF:Addr)(n:Nat):Sp:=fun vs H Q _=>∃(fa g:Addr) (m1:List (Str × Kd)) (m2:List (Str × (List Kd × Kd))) (kvs:List (List Key × V)) (G:Str × Str→Option Kd),vs=[.ref fa,.ref g]∧FaceF K H CF fa m1 m2∧(m1.map (·.1)).Nodup∧(m2.map (·.1)).Nodup∧m1.length≤100∧m2.length≤100 ∧
 (∀q∈m1,Kd.depth q.2≤n)∧(∀q∈m2,(∀k∈q.2.1,Kd.depth k≤n)∧Kd.depth q.2.2≤n∧q.2.1.length≤100)∧H g=some (.dT kvs)∧GvAt K H kvs G ∧
 ∀H' (x:Addr),Same H H'→H x=none→FaceN K H H' CF x (m1.map (putP G)) (m2.map (putQ G))→Q (.ref x) H'
section
variable{P:Program}{w:World}{K:PySem.W.Frag}{mg:Str→Option Value}{base:Heap}
set_option maxHeartbeats 0 in
theorem ok_putFace{n:Nat}{f fp fq fi CF:Addr}{fd fdp fdq fdi:FuncData} (F:Fun K "put_in_face" "put_in_face" sPutFace f fd) (GP:FnOk P w K mg base CX0 n fp fdp ["kind","given"] (spPut K n)) (bP:Binds K fdp ["kind","given"] []) (kP:PySem.W.keepIn K (.ref fp)=true) (mP:mg "put"=some (.ref fp))
  (GF:FnOk P w K mg base CX0 (n+1) fq fdq ["fun","given"] (spPutFun K n)) (bF:Binds K fdq ["fun","given"] []) (kF:PySem.W.keepIn K (.ref fq)=true) (mF:mg "put_in_fun"=some (.ref fq))
  (GI:FnOk P w K mg base CX0 1 fi fdi ["self","kinds","funs"] (spInitF CF)) (bI:Binds K fdi ["self","kinds","funs"] []) (MF:Mk K CF fi) (mC:mg "Face"=some (.ref CF)) (cF:Cls K CF) (nK:NoAttr K CF "kinds") (nF:NoAttr K CF "funs") :
  FnOk P w K mg base CX0 (n+2+1) f fd ["face","given"] (spPutFace K CF n):=by
 refine F.ok scPutFace (fun vs H Q E h=>?_) (fun cdv A outer s H vs Q E hr h=>?_)
 ·obtain⟨fa,g,m1,m2,kvs,G,rfl,_⟩:=h
  rfl
 obtain⟨fa,g,m1,m2,kvs,G,rfl,⟨dx,d1,d2,fs,kv1,kv2,hfa,l1,l2,hd1,hd2,hk1,hk2,_,_⟩,nd1,nd2,hm1,hm2,dp1,dp2,hg,hG,q⟩:=h
 have hr2:Room (1+1) _:=hr.mono (by omega)
 obtain⟨t1,e1,k1⟩:=pf_loop (outer:=outer) (H:=H) (E:=E) GP bP kP mP cF nK hr
 obtain⟨t3,e3,k3⟩:=pf_loop2 (outer:=outer) (H:=H) (E:=E) GF bF kF mF cF nF hr
 refine⟨_,(@pss_cons _ _ _ _ _ (@ps_set _ _ 2 _ _ _ _ scPutFace.nd rfl (Or.inl rfl) (@pe_dnewK _ _) rfl (Or.inl rfl))
  (@pss_cons _ _ _ _ _ @e1
  (@pss_cons _ _ _ _ _ (@ps_set _ _ 5 _ _ _ _ scPutFace.nd rfl (Or.inl rfl) (@pe_dnewK _ _) rfl (Or.inl rfl))
  (@pss_cons _ _ _ _ _ @e3
  (pss_one (ps_ret (pe_make MF GI hr2 (by rfl) mC bI .nil pass0 (pa_cons (pv 2) (pa_cons (pv 5) pa_nil)))))))):PSs (cxOf CX0 P w K mg base pfN "put_in_face" (defScope sPutFace) f cdv A outer s H E).nox (defBody sPutFace) _),?_⟩
 intro kd hkd
 refine k1 _ _ fa g dx d1 kd fs kv1 m1 kvs G (same_new hkd _) hfa l1 hd1 hk1 nd1 hm1 dp1 hg hG hkd upd_same fun H4 y3 y4 kv' s4 hkd4 hpk=>?_
 intro fd2 hfd2
 refine k3 _ H4 _ fa g dx d2 fd2 _ y3 y4 fs kv2 m2 kvs G (fun o u e=>by rw [hd2] at e;cases e) (same_new hfd2 _) (s4 _ _ hfa) l2 (s4 _ _ hd2) (hk2.imp fun v x h=>h.keep fun a xs t=>s4.tup t) nd2 hm2 dp2 (s4 _ _ hg) (hG.same s4) hfd2 upd_same fun H6 y3' y6 kv6 s6 hfd6 hpf=>?_
 refine⟨_,rfl,_,rfl,fun x dx' nx ndx nex=>?_⟩
 have ea:=same_new ndx (.own x)
 have nx':upd H6 dx' (.own x) x=none:=by rw [upd_ne (Ne.symm nex)];exact nx
 have eb:=same_new nx' (.ins CF dx' [])
 have eab:=ea.trans eb
 refine⟨x,dx',kd,fd2,kv',kv6,rfl,upd_same,eab _ _ (s6 _ _ hkd4),eab _ _ hfd6,fun d e fs' H7 hd he nde hx lk lf lh lp hd7 he7 keep=>⟨rfl,?_⟩⟩
 have s7:Same H6 H7:=fun b o hb=>keep b o (eab _ _ hb) (fun z=>by rw [z,nx] at hb;cases hb)
 have sA:=s4.trans (s6.trans s7)
 exact q H7 x sA ((s4.trans s6).free nx) ⟨dx',d,e,fs',kv',kv6,(s4.trans (s6.trans eab)).free hd,(s4.trans (s6.trans eab)).free he,nde,hx,lk,lf,hd7,he7,hpk.imp fun v y h=>(h.same s6).same s7,hpf.imp fun v y h=>h.keep fun a xs t=>s7.tup t,lh,lp⟩
end
end K42
namespace K42
open PySem L2 Kk
abbrev sPutM:Stmt:=inClass (top 14) 1
abbrev pmN:List Str:=["self","given","most","result","kind","taken","answer"]
section
variable{P:Program}{w:World}{K:PySem.W.Frag}{mg:Str→Option Value}{base:Heap}
theorem nofzN{H:Hp}{d:Addr}(h:H d=none):∀o' u',H d≠some (.frz o' u'):=fun o' u' e=>by
 rw [h] at e
 cases e
theorem scPutM:FnScope pmN ["self","given","most"] (defScope sPutM):=⟨rfl,rfl,rfl,by decide +kernel,rfl,by decide +kernel,by decide +kernel⟩
set_option maxHeartbeats 0 in
theorem pm_loop1{f fb CF CT:Addr}{fdb:FuncData} (GB:FnOk P w K mg base (CX1 P w) 2 fb fdb ["kind","most"] (spBounded K CT)) (bB:Binds K fdb ["kind","most"] []) (kB:PySem.W.keepIn K (.ref fb)=true) (mB:mg "bounded"=some (.ref fb)) (cF:Cls K CF) (nK:NoAttr K CF "kinds")
  {cdv:Value} {A:Around} {outer:List Env} {s:Shared} {H:Hp} {E:XK} (hr:Room 2 (A.deeper (PyProof.Rows.envOfC "Face.put" (defScope sPutM) s.heap.objs.size f cdv))) :
  ∃t,PS (cxOf (CX1 P w) P w K mg base pmN "Face.put" (defScope sPutM) f cdv A outer s H E) ((defBody sPutM).getD 1 (.Pass ⟨0,0,0,0⟩)) t ∧
   ∀(D:Ends) (B:Hp) (a0 a1:Option V) (x dx d1:Addr) (fs:List (Str × V)) (kv1:List (Key × V)) (m1:List (Str × Kd)) (m:Int),Same H B→H d1=none→B x=some (.ins CF dx fs)→fs.lookup ("kinds":Str)=some (.ref d1)→B d1=some (.dK kv1)→PkAt (KdAt K B) kv1 m1→m1.length≤100 →
    (∀q∈m1,q.2.words≤900)→0≤m→m≤1000000 →
    ((∀q∈m1,(q.2.words:Int)≤m)→∀(H4:Hp) (y4:Option V),Same B H4→D.nx [a0,a1,some (.int m),some (.ref x),y4,none,none] H4) →
    ((∃q∈m1,¬(q.2.words:Int)≤m)→∀H4:Hp,Same H H4→E (.ref CT) none H4) →
    t D [a0,a1,some (.int m),some (.ref x),none,none,none] B:=by
 refine⟨_,ps_thaw (ps_for PassesOwn.leaving rfl (pi_values (pe_fld (pv 3) rfl)) (pg_name (i:=4) scPutM.nd rfl (Or.inl rfl))
   (pss_one (ps_expr (pe_call GB hr rfl mB kB bB .nil pass1 (pa_cons (pv 4) (pa_cons (pv 2) pa_nil)))))),?_⟩
 intro D B a0 a1 x dx d1 fs kv1 m1 m sB hd0 hx hl1 hd1 hk1 h100 h9 m0 mM qN qE
 have hlen:kv1.length=m1.length:=Paired.length hk1
 refine⟨_,rfl,x,CF,dx,fs,_,rfl,hx,cF,nK,hl1,d1,kv1,rfl,hd1,fun o=>?_⟩
 refine for_values (fun i σ H3=>∃y4:Option V,σ=[a0,a1,some (.int m),some (.ref x),y4,none,none]∧(∀b u,B b=some u→b≠d1→H3 b=some u)∧H3 d1=some (.frz o (.dK kv1))∧(∀a xs,SqT K B a xs→SqT K H3 a xs)∧∀q∈m1.take i,(q.2.words:Int)≤m) ?_ ?_ ?_ ?_
 ·exact⟨none,rfl,fun b u hb nb=>by rw [upd_ne nb];exact hb,upd_same,fun a xs h=>sqt_dk hd1 h,fun q hq=>by simp at hq⟩
 ·rintro i σ H3 _ ⟨_,_,_,h,_⟩
  exact h
 ·rintro i p σ H3 hp ⟨y4,rfl,old,hd3,keep,hto⟩
  obtain⟨⟨z,k⟩,hq,ez,hkz⟩:=pair_get hk1 hp
  obtain⟨pk,pw⟩:=p
  replace hkz:KdAt K B pw k:=hkz
  have hmem:(z,k)∈m1:=List.mem_of_getElem? hq
  refine⟨_,rfl,_,rfl,pw,k,m,rfl,kd_keep keep hkz,h9 _ hmem,m0,mM,fun H4 s4=>?_⟩
  have old4:∀b u,B b=some u→b≠d1→H4 b=some u:=fun b u hb nb=>s4 _ _ (old b u hb nb)
  by_cases c:(k.words:Int) > m
  ·rw [if_pos c]
   refine qE ⟨_,hmem,by show ¬(k.words:Int)≤m;omega⟩ H4 fun b u hb=>old4 b u (sB _ _ hb) fun e=>?_
   rw [e,hd0] at hb
   cases hb
  ·rw [if_neg c]
   refine⟨_,rfl,old4,s4 _ _ hd3,fun a xs t=>s4.tup (keep a xs t),fun q hq'=>?_⟩
   rw [List.take_add_one,hq] at hq'
   rcases List.mem_append.mp hq' with h|h
   ·exact hto q h
   ·rw [List.mem_singleton.mp h]
    show(k.words:Int)≤m
    omega
 ·rintro σ H3 ⟨y4,rfl,old,hd3,keep,hto⟩
  rw [hlen,List.take_length] at hto
  refine⟨d1,o,.dK kv1,hd3,nofzN hd0,qN hto _ y4 fun b u hb=>?_⟩
  by_cases e:b=d1
  ·rw [e] at hb ⊢
   rw [hd1] at hb
   cases hb
   exact upd_same
  ·rw [upd_ne e]
   exact old b u hb e
def FunFit(m:Int)(g:List Kd × Kd):Prop:=(∀k∈g.1,(k.words:Int)≤m)∧(g.2.words:Int)≤m
set_option maxHeartbeats 0 in
theorem pm_loop2{f fb CF CT:Addr}{fdb:FuncData} (GB:FnOk P w K mg base (CX1 P w) 2 fb fdb ["kind","most"] (spBounded K CT)) (bB:Binds K fdb ["kind","most"] []) (kB:PySem.W.keepIn K (.ref fb)=true) (mB:mg "bounded"=some (.ref fb)) (cF:Cls K CF) (nF:NoAttr K CF "funs")
  {cdv:Value} {A:Around} {outer:List Env} {s:Shared} {H:Hp} {E:XK} (hr:Room 2 (A.deeper (PyProof.Rows.envOfC "Face.put" (defScope sPutM) s.heap.objs.size f cdv))) :
  ∃t,PS (cxOf (CX1 P w) P w K mg base pmN "Face.put" (defScope sPutM) f cdv A outer s H E) ((defBody sPutM).getD 2 (.Pass ⟨0,0,0,0⟩)) t ∧
   ∀(D:Ends) (B:Hp) (a0 a1 y4:Option V) (x dx d1:Addr) (fs:List (Str × V)) (kv1:List (Key × V)) (m1:List (Str × (List Kd × Kd))) (m:Int),Same H B→H d1=none→B x=some (.ins CF dx fs)→fs.lookup ("funs":Str)=some (.ref d1)→B d1=some (.dK kv1)→PkAt (FunAt K B) kv1 m1→m1.length≤100 →
    (∀q∈m1,(∀k∈q.2.1,k.words≤900)∧q.2.2.words≤900∧q.2.1.length≤100)→0≤m→m≤1000000 →
    ((∀q∈m1,FunFit m q.2)→∀(H4:Hp) (y4 y5 y6:Option V),Same B H4→D.nx [a0,a1,some (.int m),some (.ref x),y4,y5,y6] H4) →
    ((∃q∈m1,¬FunFit m q.2)→∀H4:Hp,Same H H4→E (.ref CT) none H4) →
    t D [a0,a1,some (.int m),some (.ref x),y4,none,none] B:=by
 refine⟨_,ps_thaw (ps_for PassesOwn.leaving rfl (pi_values (pe_fld (pv 3) rfl)) (pg_tup rfl (pgs_cons (pg_name (i:=5) scPutM.nd rfl (Or.inl rfl)) (pgs_cons (pg_name (i:=6) scPutM.nd rfl (Or.inl rfl)) pgs_nil)))
   (pss_one (ps_for PassesOwn.leaving rfl (pi_tup (pe_op op_catA (pv 5) (pe_tup (pa_cons (pv 6) pa_nil)))) (pg_name (i:=4) scPutM.nd rfl (Or.inl rfl))
    (pss_one (ps_expr (pe_call GB hr rfl mB kB bB .nil pass1 (pa_cons (pv 4) (pa_cons (pv 2) pa_nil)))))))),?_⟩
 intro D B a0 a1 y40 x dx d1 fs kv1 m1 m sB hd0 hx hl1 hd1 hk1 h100 h9 m0 mM qN qE
 have hlen:kv1.length=m1.length:=Paired.length hk1
 refine⟨_,rfl,x,CF,dx,fs,_,rfl,hx,cF,nF,hl1,d1,kv1,rfl,hd1,fun o=>?_⟩
 refine for_values (fun i σ H3=>∃y4 y5 y6:Option V,σ=[a0,a1,some (.int m),some (.ref x),y4,y5,y6]∧(∀b u,B b=some u→b≠d1→H3 b=some u)∧H3 d1=some (.frz o (.dK kv1))∧(∀a xs,SqT K B a xs→SqT K H3 a xs)∧∀q∈m1.take i,FunFit m q.2) ?_ ?_ ?_ ?_
 ·exact⟨y40,none,none,rfl,fun b u hb nb=>by rw [upd_ne nb];exact hb,upd_same,fun a xs h=>sqt_dk hd1 h,fun q hq=>by simp at hq⟩
 ·rintro i σ H3 _ ⟨_,_,_,_,_,h,_⟩
  exact h
 ·rintro i p σ H3 hp ⟨y4,y5,y6,rfl,old,hd3,keep,hto⟩
  obtain⟨⟨z,g⟩,hq,ez,hkz⟩:=pair_get hk1 hp
  obtain⟨pk,pw⟩:=p
  replace hkz:FunAt K B pw g:=hkz
  obtain⟨tp,ta,tx,txs,rfl,f1,f2,f3,f4⟩:=hkz
  have hmem:(z,g)∈m1:=List.mem_of_getElem? hq
  obtain⟨w1,w2,w3⟩:=h9 _ hmem
  have hl3:=f3.length
  refine⟨tp,_,rfl,keep _ _ f1,rfl,_,_,rfl,_,_,rfl,rfl,?_⟩
  refine⟨_,rfl,_,rfl,(by show 1≤sizeLine;decide),fun p1 hp1=>?_⟩
  have e1:=same_new hp1 (.tup [tx])
  have hw3:txs.length+([tx]:List V).length≤sizeLine:=small (by show txs.length+1≤1000;have:g.1.length≤100:=w3;omega)
  refine⟨ta,p1,txs,[tx],rfl,rfl,e1.tup (keep _ _ f2),SqT.of upd_same,(by intro z;cases z),hw3,fun p2 H4 s4 hp2=>?_⟩
  have sA:=e1.trans s4
  have hks:KdsAt K B (txs++[tx]) (g.1++[g.2]):=f3.append (one f4)
  refine⟨p2,rfl,⟨_,hp2⟩,for_tup (K:=K) (xs:=txs++[tx]) (fun j σ H5=>∃y4:Option V,σ=[a0,a1,some (.int m),some (.ref x),y4,some (.ref ta),some tx]∧Same H4 H5∧∀k∈(g.1++[g.2]).take j,(k.words:Int)≤m) ⟨y4,rfl,Same.refl _,fun k hk=>by simp at hk⟩ ?_ ?_ ?_⟩
  ·rintro j σ H5 _ ⟨_,_,s5,_⟩
   exact s5.tup hp2
  ·rintro j y σ H5 hy ⟨y4',rfl,s5,hto5⟩
   obtain⟨k,hk,hky⟩:=kds_get hks hy
   have hkm:k∈g.1++[g.2]:=List.mem_of_getElem? hk
   have hk9:k.words≤900:=by
    rcases List.mem_append.mp hkm with h|h
    ·exact w1 k h
    ·rw [List.mem_singleton.mp h];exact w2
   have keep5:∀a xs,SqT K B a xs→SqT K H5 a xs:=fun a xs t=>(sA.trans s5).tup (keep a xs t)
   refine⟨_,rfl,_,rfl,y,k,m,rfl,kd_keep keep5 hky,hk9,m0,mM,fun H6 s6=>?_⟩
   by_cases c:(k.words:Int) > m
   ·rw [if_pos c]
    refine qE ⟨_,hmem,fun hf=>?_⟩ H6 fun b u hb=>s6 _ _ (s5 _ _ (sA _ _ (old b u (sB _ _ hb) fun e=>?_)))
    ·rcases List.mem_append.mp hkm with h|h
     ·have:=hf.1 k h
      omega
     ·have h2:(g.2.words:Int)≤m:=hf.2
      rw [List.mem_singleton.mp h] at c
      omega
    ·rw [e,hd0] at hb
     cases hb
   ·rw [if_neg c]
    refine⟨_,rfl,s5.trans s6,fun k' hk'=>?_⟩
    rw [List.take_add_one,hk] at hk'
    rcases List.mem_append.mp hk' with h|h
    ·exact hto5 k' h
    ·rw [List.mem_singleton.mp h]
     omega
  ·rintro σ H5 ⟨y4',rfl,s5,hto5⟩
   have el:(txs++[tx]).length=(g.1++[g.2]).length:=hks.length
   rw [el,List.take_length] at hto5
   refine⟨_,_,_,rfl,fun b u hb nb=>s5 _ _ (sA _ _ (old b u hb nb)),s5 _ _ (sA _ _ hd3),fun a xs t=>(sA.trans s5).tup (keep a xs t),fun q hq'=>?_⟩
   rw [List.take_add_one,hq] at hq'
   rcases List.mem_append.mp hq' with h|h
   ·exact hto q h
   ·rw [List.mem_singleton.mp h]
    exact⟨fun k hk=>hto5 k (List.mem_append_left _ hk),hto5 g.2 (List.mem_append_right _ (List.mem_singleton.mpr rfl))⟩
 ·rintro σ H3 ⟨y4,y5,y6,rfl,old,hd3,keep,hto⟩
  rw [hlen,List.take_length] at hto
  refine⟨d1,o,.dK kv1,hd3,nofzN hd0,qN hto _ y4 y5 y6 fun b u hb=>?_⟩
  by_cases e:b=d1
  ·rw [e] at hb ⊢
   rw [hd1] at hb
   cases hb
   exact upd_same
  ·rw [upd_ne e]
   exact old b u hb e
def FitsM(m:Int)(m1:List (Str × Kd))(m2:List (Str × (List Kd × Kd))):Prop:=(∀q∈m1,(q.2.words:Int)≤m)∧∀q∈m2,FunFit m q.2
def spPutM(K:PySem.W.Frag)(CF CT:Addr)(n:Nat):Sp:=fun vs H Q E=>∃(fa g:Addr) (m:Int) (m1:List (Str × Kd)) (m2:List (Str × (List Kd × Kd))) (kvs:List (List Key × V)) (G:Str × Str→Option Kd),vs=[.ref fa,.ref g,.int m]∧FaceF K H CF fa m1 m2∧(m1.map (·.1)).Nodup∧(m2.map (·.1)).Nodup∧m1.length≤100∧m2.length≤100 ∧
 (∀q∈m1,Kd.depth q.2≤n)∧(∀q∈m2,(∀k∈q.2.1,Kd.depth k≤n)∧Kd.depth q.2.2≤n∧q.2.1.length≤100)∧H g=some (.dT kvs)∧GvAt K H kvs G ∧
 (∀q∈m1,(Kd.put G q.2).words≤900)∧(∀q∈m2,(∀k∈q.2.1,(Kd.put G k).words≤900)∧(Kd.put G q.2.2).words≤900)∧0≤m∧m≤1000000 ∧
 (FitsM m (m1.map (putP G)) (m2.map (putQ G))→∀H' (x:Addr),Same H H'→H x=none→FaceN K H H' CF x (m1.map (putP G)) (m2.map (putQ G))→Q (.ref x) H') ∧
 (¬FitsM m (m1.map (putP G)) (m2.map (putQ G))→∀H',Same H H'→E (.ref CT) none H')
theorem ok_putM{n:Nat}{f fq fb CF CT:Addr}{dV:Value}{fd fdq fdb:FuncData} (F:FunD K "put" "Face.put" sPutM dV f fd) (GF:FnOk P w K mg base CX0 (n+2+1) fq fdq ["face","given"] (spPutFace K CF n)) (bF:Binds K fdq ["face","given"] []) (kF:PySem.W.keepIn K (.ref fq)=true) (mF:mg "put_in_face"=some (.ref fq))
  (GB:FnOk P w K mg base (CX1 P w) 2 fb fdb ["kind","most"] (spBounded K CT)) (bB:Binds K fdb ["kind","most"] []) (kB:PySem.W.keepIn K (.ref fb)=true) (mB:mg "bounded"=some (.ref fb)) (cF:Cls K CF) (nK:NoAttr K CF "kinds") (nF:NoAttr K CF "funs") :
  FnOk P w K mg base (CX1 P w) (n+2+1+1) f fd ["self","given","most"] (spPutM K CF CT n):=by
 refine F.okX scPutM (fun vs H Q E h=>?_) (fun cdv A outer s H vs Q E hr h=>?_)
 ·obtain⟨fa,g,m,m1,m2,kvs,G,rfl,_⟩:=h
  rfl
 obtain⟨fa,g,m,m1,m2,kvs,G,rfl,hF,nd1,nd2,hm1,hm2,dp1,dp2,hg,hG,w1,w2,m0,mM,qN,qE⟩:=h
 have hr2:Room 2 _:=hr.mono (by omega)
 obtain⟨t1,e1,k1⟩:=pm_loop1 (outer:=outer) (H:=H) (E:=E) GB bB kB mB cF nK hr2
 obtain⟨t2,e2,k2⟩:=pm_loop2 (outer:=outer) (H:=H) (E:=E) GB bB kB mB cF nF hr2
 refine⟨_,(@pss_cons _ _ _ _ _ (ps_set (i:=3) scPutM.nd rfl (Or.inl rfl) (pe_call GF hr (by rfl) mF kF bF .nil pass0 (pa_cons (pv 0) (pa_cons (pv 1) pa_nil))))
  (@pss_cons _ _ _ _ _ @e1
  (@pss_cons _ _ _ _ _ @e2
  (pss_one (ps_ret (pv 3))))):PSs (cxOf (CX1 P w) P w K mg base pmN "Face.put" (defScope sPutM) f cdv A outer s H E) (defBody sPutM) _),?_⟩
 refine⟨_,rfl,_,rfl,fa,g,m1,m2,kvs,G,rfl,hF,nd1,nd2,hm1,hm2,dp1,dp2,hg,hG,fun H1 x s1 hx hN=>?_⟩
 obtain⟨dx,d1,d2,fs,kv1,kv2,n1,n2,ne,hfx,l1,l2,hd1,hd2,hk1,hk2,lh,lp⟩:=id hN
 refine k1 _ H1 _ _ x dx d1 fs kv1 (m1.map (putP G)) m s1 n1 hfx l1 hd1 hk1 (by rw [List.length_map];exact hm1) ?_ m0 mM (fun hf1 H2 y4 s2=>?_) fun hb1 H2 s2=>qE (fun hf=>?_) H2 s2
 ·intro q hq
  obtain⟨q',hq',rfl⟩:=List.mem_map.mp hq
  exact w1 q' hq'
 ·refine k2 _ H2 _ _ y4 x dx d2 fs kv2 (m2.map (putQ G)) m (s1.trans s2) n2 (s2 _ _ hfx) l2 (s2 _ _ hd2) (hk2.imp fun v y h=>h.keep fun a xs t=>s2.tup t) (by rw [List.length_map];exact hm2) ?_ m0 mM (fun hf2 H3 y4 y5 y6 s3=>?_) fun hb2 H3 s3=>qE (fun hf=>?_) H3 s3
  ·intro q hq
   obtain⟨q',hq',rfl⟩:=List.mem_map.mp hq
   refine⟨fun k hk=>?_,(w2 q' hq').2,?_⟩
   ·obtain⟨k',hk',rfl⟩:=List.mem_map.mp hk
    exact(w2 q' hq').1 k' hk'
   ·show(q'.2.1.map (Kd.put G)).length≤100
    rw [List.length_map]
    exact(dp2 q' hq').2.2
  ·have s23:=s2.trans s3
   refine⟨_,rfl,qN ⟨hf1,hf2⟩ H3 x (s1.trans s23) hx ⟨dx,d1,d2,fs,kv1,kv2,n1,n2,ne,s23 _ _ hfx,l1,l2,s23 _ _ hd1,s23 _ _ hd2,hk1.imp fun v y h=>h.same s23,hk2.imp fun v y h=>h.keep fun a xs t=>s23.tup t,lh,lp⟩⟩
  ·obtain⟨q,hq,hn⟩:=hb2
   exact hn (hf.2 q hq)
 ·obtain⟨q,hq,hn⟩:=hb1
  exact hn (hf.1 q hq)
end
end K42
namespace K42
open PySem L2 Kk
def stepP(t:Str)(g:Kd):Str × Str→Option Kd:=fun n=>if n=(("":Str),t) then some g else none
def fitB(m1:List (Str × Kd))(m2:List (Str × (List Kd × Kd))):Bool:=(m1.all fun q=>decide ((q.2.words:Int)≤40))&&m2.all fun q=>(q.2.1.all fun k=>decide ((k.words:Int)≤40))&&decide ((q.2.2.words:Int)≤40)
theorem fitB_iff{m1:List (Str × Kd)}{m2:List (Str × (List Kd × Kd))}:fitB m1 m2=true↔FitsM 40 m1 m2:=by
 unfold fitB FitsM FunFit
 simp only [Bool.and_eq_true,List.all_eq_true,decide_eq_true_eq]
inductive RR where
 |ok (m1:List (Str × Kd)) (m2:List (Str × (List Kd × Kd)))
 |no
 |big
def rstep:RR→Str × Kd→RR
 |.ok m1 m2,(t,g)=>if t∈hidL m1 then (if fitB (m1.map (putP (stepP t g))) (m2.map (putQ (stepP t g)))=true then .ok (m1.map (putP (stepP t g))) (m2.map (putQ (stepP t g))) else .big) else .no
 |.no,_=>.no
 |.big,_=>.big
def rrun(m1:List (Str × Kd))(m2:List (Str × (List Kd × Kd)))(ws:List (Str × Kd)):RR:=ws.foldl rstep (.ok m1 m2)
theorem fold_no:∀ws:List (Str × Kd),ws.foldl rstep .no=.no
 |[]=>rfl
 |_::ws=>fold_no ws
theorem fold_big:∀ws:List (Str × Kd),ws.foldl rstep .big=.big
 |[]=>rfl
 |_::ws=>fold_big ws
theorem rrun_app(m1:List (Str × Kd))(m2:List (Str × (List Kd × Kd)))(a b:List (Str × Kd)):rrun m1 m2 (a++b)=b.foldl rstep (rrun m1 m2 a):=List.foldl_append
theorem rrun_snoc(m1:List (Str × Kd))(m2:List (Str × (List Kd × Kd))){ws:List (Str × Kd)}{i:Nat}{q:Str × Kd}(h:ws[i]?=some q):rrun m1 m2 (ws.take (i+1))=rstep (rrun m1 m2 (ws.take i)) q:=by
 rw [List.take_add_one,h,rrun_app]
 rfl
theorem rrun_no{m1:List (Str × Kd)}{m2:List (Str × (List Kd × Kd))}{ws:List (Str × Kd)}{i:Nat}(h:rrun m1 m2 (ws.take i)=.no):rrun m1 m2 ws=.no:=by
 rw [←List.take_append_drop i ws,rrun_app,h,fold_no]
theorem rrun_big{m1:List (Str × Kd)}{m2:List (Str × (List Kd × Kd))}{ws:List (Str × Kd)}{i:Nat}(h:rrun m1 m2 (ws.take i)=.big):rrun m1 m2 ws=.big:=by
 rw [←List.take_append_drop i ws,rrun_app,h,fold_big]
def GoodK(k:Kd):Prop:=Kd.ok k∧k.words≤40
structure Good(m1:List (Str × Kd))(m2:List (Str × (List Kd × Kd))):Prop where
 nd1:(m1.map (·.1)).Nodup
 nd2:(m2.map (·.1)).Nodup
 l1:m1.length≤100
 l2:m2.length≤100
 k1:∀q∈m1,okW q.1∧GoodK q.2
 k2:∀q∈m2,okW q.1∧(∀k∈q.2.1,GoodK k)∧GoodK q.2.2∧q.2.1.length≤100
def WGood(ws:List (Str × Kd)):Prop:=∀q∈ws,okW q.1∧Kd.ok q.2∧q.2.words≤27
theorem put_leaves{G:Str × Str→Option Kd}{c:Nat}(hc:1≤c)(hG:∀n g,G n=some g→g.leaves.length≤c):∀k:Kd,(Kd.put G k).leaves.length≤k.leaves.length*c
 |.num n=>by
  show 1≤1*c
  omega
 |.name q t=>by
  show((G (q,t)).getD (.name q t)).leaves.length≤1*c
  cases e:G (q,t) with
  |none =>
   show 1≤1*c
   omega
  |some g =>
   have:=hG _ _ e
   show g.leaves.length≤1*c
   omega
 |.pair a b=>by
  have h1:=put_leaves hc hG a
  have h2:=put_leaves hc hG b
  show((Kd.put G a).leaves++(Kd.put G b).leaves).length≤(a.leaves++b.leaves).length*c
  rw [List.length_append,List.length_append,Nat.add_mul]
  omega
theorem put_okK{G:Str × Str→Option Kd}(hG:∀n g,G n=some g→Kd.ok g):∀{k:Kd},Kd.ok k→Kd.ok (Kd.put G k)
 |.num n,_=>trivial
 |.name q t,h=>by
  show Kd.ok ((G (q,t)).getD (.name q t))
  cases e:G (q,t) with
  |none=>exact h
  |some g=>exact hG _ _ e
 |.pair a b,h=>⟨put_okK hG h.1,put_okK hG h.2⟩
theorem step_some{t:Str}{g:Kd}{n:Str × Str}{g':Kd}(h:stepP t g n=some g'):g'=g:=by
 unfold stepP at h
 split at h
 ·exact(Option.some.inj h).symm
 ·cases h
theorem step_words{t:Str}{g k:Kd}(hg:g.words≤27)(hk:k.words≤40):(Kd.put (stepP t g) k).words≤900:=by
 have h1:=put_leaves (G:=stepP t g) (c:=14) (by decide) (fun n g' e=>by
  rw [step_some e]
  have:=words_leaves g
  omega) k
 have h2:=words_leaves (Kd.put (stepP t g) k)
 have h3:=words_leaves k
 have h4:k.leaves.length*14≤20*14:=Nat.mul_le_mul_right _ (by omega)
 omega
theorem putP_keys(G:Str × Str→Option Kd)(m1:List (Str × Kd)):(m1.map (putP G)).map (·.1)=m1.map (·.1):=by
 rw [List.map_map]
 rfl
theorem putQ_keys(G:Str × Str→Option Kd)(m2:List (Str × (List Kd × Kd))):(m2.map (putQ G)).map (·.1)=m2.map (·.1):=by
 rw [List.map_map]
 rfl
theorem Good.step{m1:List (Str × Kd)}{m2:List (Str × (List Kd × Kd))}{t:Str}{g:Kd}(h:Good m1 m2)(hg:Kd.ok g)(hf:FitsM 40 (m1.map (putP (stepP t g))) (m2.map (putQ (stepP t g)))):Good (m1.map (putP (stepP t g))) (m2.map (putQ (stepP t g))) where
 nd1:=by rw [putP_keys];exact h.nd1
 nd2:=by rw [putQ_keys];exact h.nd2
 l1:=by rw [List.length_map];exact h.l1
 l2:=by rw [List.length_map];exact h.l2
 k1:=fun q hq=>by
  have hw:=hf.1 q hq
  obtain⟨q',hq',rfl⟩:=List.mem_map.mp hq
  exact⟨(h.k1 q' hq').1,put_okK (fun n g' e=>by rw [step_some e];exact hg) (h.k1 q' hq').2.1,by omega⟩
 k2:=fun q hq=>by
  have hw:=hf.2 q hq
  obtain⟨q',hq',rfl⟩:=List.mem_map.mp hq
  obtain⟨o1,o2,o3,o4⟩:=h.k2 q' hq'
  refine⟨o1,fun k hk=>?_,⟨put_okK (fun n g' e=>by rw [step_some e];exact hg) o3.1,by have:=hw.2;omega⟩,by show(q'.2.1.map _).length≤100;rw [List.length_map];exact o4⟩
  have hkw:=hw.1 k hk
  obtain⟨k',hk',rfl⟩:=List.mem_map.mp hk
  exact⟨put_okK (fun n g' e=>by rw [step_some e];exact hg) (o2 k' hk').1,by omega⟩
def WithAt(K:PySem.W.Frag)(H:Hp)(v:V)(q:Str × Kd):Prop:=∃(p:Addr) (y:V),v=.ref p∧SqT K H p [.str q.1,y]∧KdAt K H y q.2
theorem WithAt.same{K:PySem.W.Frag}{H H':Hp}{v:V}{q:Str × Kd}(e:Same H H')(h:WithAt K H v q):WithAt K H' v q:=by
 obtain⟨p,y,h1,h2,h3⟩:=h
 exact⟨p,y,h1,e.tup h2,h3.same e⟩
def WithsAt(K:PySem.W.Frag)(H:Hp)(xs:List V)(ws:List (Str × Kd)):Prop:=Paired (WithAt K H) xs ws
theorem FaceN.face{K:PySem.W.Frag}{H0 H:Hp}{CF x:Addr}{m1:List (Str × Kd)}{m2:List (Str × (List Kd × Kd))}(h:FaceN K H0 H CF x m1 m2):FaceF K H CF x m1 m2:=by
 obtain⟨dx,d1,d2,fs,kv1,kv2,_,_,_,r⟩:=h
 exact⟨dx,d1,d2,fs,kv1,kv2,r⟩
theorem FaceN.anti{K:PySem.W.Frag}{H0 H1 H:Hp}{CF x:Addr}{m1:List (Str × Kd)}{m2:List (Str × (List Kd × Kd))}(e:Same H0 H1)(h:FaceN K H1 H CF x m1 m2):FaceN K H0 H CF x m1 m2:=by
 obtain⟨dx,d1,d2,fs,kv1,kv2,n1,n2,r⟩:=h
 exact⟨dx,d1,d2,fs,kv1,kv2,e.free n1,e.free n2,r⟩
theorem FaceF.same{K:PySem.W.Frag}{H H':Hp}{CF x:Addr}{m1:List (Str × Kd)}{m2:List (Str × (List Kd × Kd))}(e:Same H H')(h:FaceF K H CF x m1 m2):FaceF K H' CF x m1 m2:=by
 obtain⟨dx,d1,d2,fs,kv1,kv2,h1,h2,h3,h4,h5,h6,h7,h8⟩:=h
 exact⟨dx,d1,d2,fs,kv1,kv2,e _ _ h1,h2,h3,e _ _ h4,e _ _ h5,h6.imp fun v y h=>h.same e,h7.imp fun v y h=>h.keep fun a xs t=>e.tup t,h8⟩
theorem FaceN.same{K:PySem.W.Frag}{H0 H H':Hp}{CF x:Addr}{m1:List (Str × Kd)}{m2:List (Str × (List Kd × Kd))}(e:Same H H')(h:FaceN K H0 H CF x m1 m2):FaceN K H0 H' CF x m1 m2:=by
 obtain⟨dx,d1,d2,fs,kv1,kv2,n1,n2,n3,h1,h2,h3,h4,h5,h6,h7,h8⟩:=h
 exact⟨dx,d1,d2,fs,kv1,kv2,n1,n2,n3,e _ _ h1,h2,h3,e _ _ h4,e _ _ h5,h6.imp fun v y h=>h.same e,h7.imp fun v y h=>h.keep fun a xs t=>e.tup t,h8⟩
def spRefined(K:PySem.W.Frag)(CF CN CT:Addr):Sp:=fun vs H Q E=>∃(fa tw:Addr) (m1:List (Str × Kd)) (m2:List (Str × (List Kd × Kd))) (xs:List V) (ws:List (Str × Kd)),vs=[.ref fa,.ref tw]∧FaceF K H CF fa m1 m2∧Good m1 m2∧SqL K H tw xs∧WithsAt K H xs ws∧WGood ws ∧
 (∀m1' m2',rrun m1 m2 ws=.ok m1' m2'→∀H' (x:Addr),Same H H'→H x=none→FaceN K H H' CF x m1' m2'→Q (.ref x) H') ∧
 (rrun m1 m2 ws=.no→∀H',Same H H'→E (.ref CN) none H')∧(rrun m1 m2 ws=.big→∀H',Same H H'→E (.ref CT) none H')
section
variable{P:Program}{w:World}{K:PySem.W.Frag}{mg:Str→Option Value}{base:Heap}
theorem bindM{f T:Addr}{fd:FuncData}{oT:Value}{dT:Option Addr}{nT:Nat}{sT:Array (Option Value)}{tk:Tok} (F:FunD K "put" "Face.put" sPutM (.ref T) f fd) (lT:K.lookup T=some ⟨oT,dT,.seq #[.int 40 tk] nT,sT⟩):Binds K fd ["self","given","most"] [.int 40 tk] :=
 F.binds lT fun _ _ _ _ _ _ us hl=>by
  have hl':us.length=2:=by simpa using hl
  match us,hl' with
  |[_,_],_=>exact⟨_,rfl,rfl⟩
theorem scRefined:FnScope ["face","withs","result","word","kind"] ["face","withs"] (defScope sRefined):=⟨rfl,rfl,rfl,by decide +kernel,rfl,by decide +kernel,by decide +kernel⟩
set_option maxHeartbeats 0 in
theorem ok_refined{f fi fh fm CF CN CT T:Addr}{fd fdi fdh fdm:FuncData}{oT:Value}{dT:Option Addr}{nT:Nat}{sT:Array (Option Value)}{tk:Tok} (F:Fun K "refined" "refined" sRefined f fd)
  (GI:FnOk P w K mg base CX0 1 fi fdi ["self","kinds","funs"] (spInitF CF)) (bI:Binds K fdi ["self","kinds","funs"] []) (MF:Mk K CF fi) (mC:mg "Face"=some (.ref CF)) (cF:Cls K CF) (nK:NoAttr K CF "kinds") (nF:NoAttr K CF "funs")
  (GH:FnOk P w K mg base CX0 2 fh fdh ["self"] (spHidden K CF)) (bH:Binds K fdh ["self"] []) (MH:Meth K CF "hidden" fh)
  (FM:FunD K "put" "Face.put" sPutM (.ref T) fm fdm) (lT:K.lookup T=some ⟨oT,dT,.seq #[.int 40 tk] nT,sT⟩)
  (GM:FnOk P w K mg base (CX1 P w) 44 fm fdm ["self","given","most"] (spPutM K CF CT 40)) (MM:Meth K CF "put" fm) (mN:mg "NoKind"=some (.ref CN)) (xN:PySem.W.excIn K CN bmVE "ValueError.__new__"=true) :
  FnOk P w K mg base (CX1 P w) 45 f fd ["face","withs"] (spRefined K CF CN CT):=by
 refine F.okX scRefined (fun vs H Q E h=>?_) (fun cdv A outer s H vs Q E hr h=>?_)
 ·obtain⟨fa,tw,m1,m2,xs,ws,rfl,_⟩:=h
  rfl
 obtain⟨fa,tw,m1,m2,xs,ws,rfl,hF,hG,htw,hxs,hW,q1,q2,q3⟩:=h
 have hu:=hu_of hr
 have hr2:Room (1+1) _:=hr.mono (by decide)
 have bM:=bindM FM lT
 refine⟨_,pss_cons (ps_set (i:=2) scRefined.nd rfl (Or.inl rfl) (pe_make MF GI hr2 (by rfl) mC bI .nil pass0 (pa_cons (pe_fld (pv 0) rfl) (pa_cons (pe_fld (pv 0) rfl) pa_nil))))
  (pss_cons (ps_for PassesOwn.leaving rfl (pi_list (pv 1)) (pg_tup rfl (pgs_cons (pg_name (i:=3) scRefined.nd rfl (Or.inl rfl)) (pgs_cons (pg_name (i:=4) scRefined.nd rfl (Or.inl rfl)) pgs_nil)))
   (pss_cons (ps_if (pt_cmpR op_notIn_seq (pv 3) (pe_meth0 (pv 2) cF MH GH hr2 bH .nil pass0) (by with_unfolding_all rfl))
    (pss_one (ps_raise1 rfl mN xN (pa_cons (pe_fstr (pj_cons (pe_fv (pv 3)) (pj_cons pe_str pj_nil)) (by decide)) pa_nil))) pss_nil)
   (pss_one (ps_set (i:=2) scRefined.nd rfl (Or.inl rfl) (pe_meth (pv 2) cF MM GM hr bM (.cons (show RelV (.int 40) (.int 40 tk) from⟨tk,rfl⟩) .nil) pass1 (pa_cons (pe_disp1T hu (pe_tup (pa_cons pe_str (pa_cons (pv 3) pa_nil))) (pv 4)) pa_nil))))))
  (pss_one (ps_ret (pv 2)))),?_⟩
 obtain⟨dx,d1,d2,fs,kv1,kv2,hfa,l1,l2,hd1,hd2,hk1,hk2,_,_⟩:=hF
 refine⟨_,rfl,fa,CF,dx,fs,_,rfl,hfa,cF,nK,l1,_,rfl,fa,CF,dx,fs,_,rfl,hfa,cF,nF,l2,fun x dx' nx ndx nex=>?_⟩
 have ea:=same_new ndx (.own x)
 have nx':upd H dx' (.own x) x=none:=by rw [upd_ne (Ne.symm nex)];exact nx
 have eab:=ea.trans (same_new nx' (.ins CF dx' []))
 refine⟨x,dx',d1,d2,kv1,kv2,rfl,upd_same,eab _ _ hd1,eab _ _ hd2,fun d e fs' H7 hd he nde hx lk lf lh lp hd7 he7 keep=>⟨rfl,?_⟩⟩
 have s7:Same H H7:=fun b o hb=>keep b o (eab _ _ hb) (fun z=>by rw [z,nx] at hb;cases hb)
 have hN7:FaceN K H H7 CF x m1 m2:=⟨dx',d,e,fs',kv1,kv2,eab.free hd,eab.free he,nde,hx,lk,lf,hd7,he7,hk1.imp fun v y h=>h.same s7,hk2.imp fun v y h=>h.keep fun a xs t=>s7.tup t,lh,lp⟩
 have hlen:xs.length=ws.length:=Paired.length hxs
 refine⟨_,rfl,tw,rfl,⟨_,sql_same s7 htw⟩,for_list (K:=K) (xs:=xs) (fun i σ H3=>∃(n1:List (Str × Kd)) (n2:List (Str × (List Kd × Kd))) (x:Addr) (y3 y4:Option V),σ=[some (.ref fa),some (.ref tw),some (.ref x),y3,y4]∧Same H H3∧H x=none∧FaceN K H H3 CF x n1 n2∧Good n1 n2∧rrun m1 m2 (ws.take i)=.ok n1 n2)
  ⟨m1,m2,x,none,none,rfl,s7,nx,hN7,hG,rfl⟩ ?_ ?_ ?_⟩
 ·rintro i σ H3 _ ⟨_,_,_,_,_,_,s3,_⟩
  exact sql_same s3 htw
 ·rintro i y σ H3 hy ⟨n1,n2,x3,y3,y4,rfl,s3,nx3,hN3,hG3,hrun⟩
  obtain⟨⟨t,g⟩,hq,p,yk,rfl,hp,hyk⟩:=pair_get hxs hy
  replace hp:SqT K H p [.str t,yk]:=hp
  replace hyk:KdAt K H yk g:=hyk
  obtain⟨wo,wk,ww⟩:=hW (t,g) (List.mem_of_getElem? hq)
  replace ww:g.words≤27:=ww
  replace wk:Kd.ok g:=wk
  have esnoc:=rrun_snoc m1 m2 hq
  rw [hrun] at esnoc
  refine⟨p,_,rfl,s3.tup hp,rfl,_,_,rfl,_,_,rfl,rfl,?_⟩
  have hF3:=hN3.face
  obtain⟨ex,e1,e2,es,ek1,ek2,g1,g2,g3,g4,g5,g6,g7,g8,g9⟩:=id hF3
  refine⟨_,rfl,_,rfl,x3,ex,es,rfl,g1,g8,x3,n1,n2,rfl,hF3,hG3.l1,fun q hq=>⟨(hG3.k1 q hq).1,(hG3.k1 q hq).2.1,Nat.le_trans (depth_words _) (by have:=(hG3.k1 q hq).2.2;omega)⟩,fun H4 l s4 hl hL=>?_⟩
  refine⟨l,_,rfl,.inl (SqL.of hL),rfl,flat_strs _,_,rfl,?_⟩
  have sA:=s3.trans s4
  refine ite2 (fun c=>?_) (fun c=>?_)
  ·have c':¬t∈hidL n1:=fun hm=>by
    have c2:(!inV (V.str t) ((hidL n1).map V.str))=true:=c
    rw [inV_str.mpr hm] at c2
    cases c2
   have er:rstep (.ok n1 n2) (t,g)=.no:=if_neg c'
   rw [er] at esnoc
   refine⟨_,rfl,.inl ⟨t,rfl,Nat.le_trans wo.2 (by decide),?_⟩⟩
   refine⟨_,rfl,Nat.le_trans wo.2 (by decide),_,rfl,by decide +kernel,fun z hz=>⟨by show 1≤sizeLine;decide,q2 (rrun_no esnoc) _ sA⟩⟩
  ·have c':t∈hidL n1:=by
    have c2:¬(!inV (V.str t) ((hidL n1).map V.str))=true:=c
    refine inV_str.mp ?_
    simpa using c2
   refine⟨_,rfl,x3,ex,es,rfl,s4 _ _ g1,g9,fun pd hpd=>?_⟩
   have sd:=same_new hpd (.dT [])
   refine⟨_,rfl,(by show 2≤sizeLine;decide),fun pb hpb=>?_⟩
   have sb:=same_new hpb (.tup [.str "",.str t])
   refine⟨_,rfl,pb,[.inr "",.inr t],rfl,sb _ _ upd_same,upd_same,?_⟩
   have hpd0:H4 pd=none:=hpd
   have sE:Same H4 (upd (upd (upd H4 pd (.dT [])) pb (.tup [.str "",.str t])) pd (.dT (putK [] [.inr "",.inr t] yk))):=sput (sd.trans sb) hpd0
   have gv:GvAt K (upd (upd (upd H4 pd (.dT [])) pb (.tup [.str "",.str t])) pd (.dT (putK [] [.inr "",.inr t] yk))) (putK [] [.inr "",.inr t] yk) (stepP t g):=fun n=>by
    by_cases e:n=(("":Str),t)
    ·subst e
     exact .inr ⟨yk,g,(valV_put ..).trans (if_pos rfl),if_pos rfl,(hyk.same sA).same sE⟩
    ·have e2:keyN n≠keyN (("":Str),t):=fun z=>e (keyN_inj z)
     exact .inl ⟨(valV_put ..).trans ((if_neg e2).trans rfl),if_neg e⟩
   have hF5:=(hF3.same s4).same sE
   have sF:=sA.trans sE
   refine⟨x3,pd,40,n1,n2,_,stepP t g,rfl,hF5,hG3.nd1,hG3.nd2,hG3.l1,hG3.l2,fun q hq=>Nat.le_trans (depth_words _) (hG3.k1 q hq).2.2,fun q hq=>⟨fun k hk=>Nat.le_trans (depth_words _) ((hG3.k2 q hq).2.1 k hk).2,Nat.le_trans (depth_words _) (hG3.k2 q hq).2.2.1.2,(hG3.k2 q hq).2.2.2⟩,upd_same,gv,
    fun q hq=>step_words ww (hG3.k1 q hq).2.2,fun q hq=>⟨fun k hk=>step_words ww ((hG3.k2 q hq).2.1 k hk).2,step_words ww (hG3.k2 q hq).2.2.1.2⟩,by decide,by decide,fun hf H6 x6 s6 nx6 hN6=>?_,fun hf H6 s6=>?_⟩
   ·have er:rstep (.ok n1 n2) (t,g)=.ok (n1.map (putP (stepP t g))) (n2.map (putQ (stepP t g))):=(if_pos c').trans (if_pos (fitB_iff.mpr hf))
    rw [er] at esnoc
    exact⟨_,_,x6,_,_,rfl,sF.trans s6,sF.free nx6,hN6.anti sF,hG3.step wk hf,esnoc⟩
   ·have er:rstep (.ok n1 n2) (t,g)=.big:=(if_pos c').trans (if_neg fun z=>hf (fitB_iff.mp z))
    rw [er] at esnoc
    exact q3 (rrun_big esnoc) _ (sF.trans s6)
 ·rintro σ H3 ⟨n1,n2,x3,y3,y4,rfl,s3,nx3,hN3,hG3,hrun⟩
  rw [hlen,List.take_length] at hrun
  exact⟨_,rfl,q1 n1 n2 hrun H3 x3 s3 nx3 hN3⟩
end
end K42
namespace K42
open PySem L2
def cellOf(ns:List Int)(k:Int):Int :=
 if k < (ns.length:Int) then (match atI (ns.map V.int) k with|some (.int v)=>v*48271+7919*k|_=>0)
 else if 0 < (ns.length:Int) then (match atI (ns.map V.int) (k%(ns.length:Int)) with|some (.int v)=>(v%1000003*48271+7919*k*k)%2147483647|_=>0)
 else (7919*k+11)%2147483647
def spCellX(K:PySem.W.Frag):Sp:=fun vs H Q _=>∃(a:Addr) (ns:List Int) (k:Int),vs=[.ref a,.int k]∧SqL K H a (ns.map V.int)∧ns.length≤63∧0≤k∧k≤1000∧∀c:Int,c=cellOf ns k→Q (.int c) H
section
variable{P:Program}{w:World}{K:PySem.W.Frag}{mg:Str→Option Value}{base:Heap}
theorem scCell:FnScope ["_law_script","_law_k","_law_number"] ["_law_script","_law_k"] (defScope sCell):=⟨rfl,rfl,rfl,by decide +kernel,rfl,by decide +kernel,by decide +kernel⟩
theorem ok_cellX{f:Addr}{fd:FuncData} (F:Fun K "_law_cell" "_law_cell" sCell f fd) (ml:mg "len"=none):FnOk P w K mg base CX0 1 f fd ["_law_script","_law_k"] (spCellX K):=by
 refine F.ok scCell (fun vs H Q E h=>?_) (fun cdv A outer s H vs Q E hr h=>?_)
 ·obtain⟨a,ns,k,rfl,_⟩:=h
  rfl
 obtain⟨a,ns,k,rfl,hS,h63,h0,h1,q⟩:=h
 refine⟨_,pss_cons (ps_if (pt_cmpR op_lt (pv 1) (pe_callB call_len_seq rfl ml PySem.boot_len (pa_cons (pv 0) pa_nil)) (nomark _))
   (pss_one (ps_ret (pe_op op_add (pe_op op_mul (pe_ix ix_list (pv 0) (pv 1) (fun _ _=>rfl)) pe_int) (pe_op op_mul pe_int (pv 1))))) pss_nil)
  (pss_cons (ps_set (i:=2) scCell.nd rfl (Or.inl rfl) (pe_op op_add (pe_op op_mul pe_int (pv 1)) pe_int))
  (pss_cons (ps_if (pt_cmpR op_gt (pe_callB call_len_seq rfl ml PySem.boot_len (pa_cons (pv 0) pa_nil)) pe_int (nomark _))
   (pss_one (ps_set (i:=2) scCell.nd rfl (Or.inl rfl) (pe_op op_add (pe_op op_mul (pe_op op_mod (pe_ix ix_list (pv 0) (pe_op op_mod (pv 1) (pe_callB call_len_seq rfl ml PySem.boot_len (pa_cons (pv 0) pa_nil))) (fun _ _=>rfl)) pe_int) pe_int)
    (pe_op op_mul (pe_op op_mul pe_int (pv 1)) (pv 1))))) pss_nil)
  (pss_one (ps_ret (pe_op op_mod (pv 2) pe_int))))),?_⟩
 have hl:(ns.map V.int).length=ns.length:=List.length_map _
 refine⟨_,rfl,_,rfl,a,_,rfl,.inl hS,_,_,rfl,rfl,_,rfl,?_⟩
 refine ite2 (fun c=>?_) (fun c=>?_)
 ·have c':k < (((ns.map V.int).length:Nat):Int):=of_decide_eq_true c
  rw [hl] at c'
  obtain⟨v,hv⟩:=at_int (ns:=ns) h0 c'
  exact⟨_,rfl,_,rfl,a,_,_,_,rfl,rfl,hS,hv,_,_,rfl,rfl,.inr ⟨by omega,by omega⟩,_,rfl,_,_,rfl,rfl,.inl ⟨by omega,by omega⟩,_,_,rfl,rfl,q _ (by unfold cellOf;rw [if_pos c',hv])⟩
 ·have c':¬k < (((ns.map V.int).length:Nat):Int):=of_decide_eq_false (Bool.eq_false_iff.mpr c)
  rw [hl] at c'
  refine⟨_,rfl,_,_,rfl,rfl,.inl ⟨by omega,by omega⟩,_,_,rfl,rfl,?_⟩
  refine⟨_,rfl,a,_,rfl,.inl hS,_,_,rfl,rfl,_,rfl,?_⟩
  refine ite2 (fun d=>?_) (fun d=>?_)
  ·have d':0 < (((ns.map V.int).length:Nat):Int):=of_decide_eq_true d
   rw [hl] at d'
   obtain⟨v,hv⟩:=at_int (ns:=ns) (i:=k%(((ns.map V.int).length:Nat):Int)) (by rw [hl];exact Int.emod_nonneg _ (by omega)) (by rw [hl];exact Int.emod_lt_of_pos _ d')
   refine⟨_,rfl,_,rfl,_,rfl,a,_,rfl,.inl hS,_,_,rfl,rfl,(by rw [hl];exact d'),a,_,_,_,rfl,rfl,hS,hv,_,_,rfl,rfl,(by show(0:Int) < 1000003;decide),_,_,rfl,rfl,.inr ⟨by omega,by omega⟩,?_⟩
   refine⟨_,rfl,_,_,rfl,rfl,.inl ⟨by omega,by omega⟩,_,rfl,_,_,rfl,rfl,.inr ⟨by omega,by omega⟩,_,_,rfl,rfl,?_⟩
   exact⟨_,rfl,_,_,rfl,rfl,(by show(0:Int) < 2147483647;decide),q _ (by rw [hl] at hv;unfold cellOf;rw [if_neg c',if_pos d',hv])⟩
  ·have d':¬0 < (((ns.map V.int).length:Nat):Int):=of_decide_eq_false (Bool.eq_false_iff.mpr d)
   rw [hl] at d'
   exact⟨_,rfl,_,_,rfl,rfl,(by show(0:Int) < 2147483647;decide),q _ (by unfold cellOf;rw [if_neg c',if_neg d'])⟩
end
end K42
namespace K42
open PySem L2 Kk
abbrev hbN:List Str:=["want","part","given","word"]
def hidG(m:List (Str × Kd))(part:Str):Str × Str→Option Kd:=fun n=>if n.1=""∧n.2∈hidL m then some (.name part n.2) else none
def spHiddenBy(K:PySem.W.Frag)(CF:Addr):Sp:=fun vs H Q _=>∃(fa:Addr) (part:Str) (m1:List (Str × Kd)) (m2:List (Str × (List Kd × Kd))),vs=[.ref fa,.str part]∧FaceF K H CF fa m1 m2∧(m1.map (·.1)).Nodup∧m1.length≤100∧(∀q∈m1,okW q.1∧Kd.ok q.2∧Kd.depth q.2≤60) ∧
 ∀H' (g:Addr) (kvs:List (List Key × V)),Same H H'→H g=none→H' g=some (.dT kvs)→GvAt K H' kvs (hidG m1 part)→Q (.ref g) H'
section
variable{P:Program}{w:World}{K:PySem.W.Frag}{mg:Str→Option Value}{base:Heap}
theorem scHiddenBy:FnScope hbN ["want","part"] (defScope sHiddenBy):=⟨rfl,rfl,rfl,by decide +kernel,rfl,by decide +kernel,by decide +kernel⟩
set_option maxHeartbeats 0 in
theorem ok_hiddenBy{f fh CF:Addr}{fd fdh:FuncData} (F:Fun K "hidden_by" "hidden_by" sHiddenBy f fd) (MH:Meth K CF "hidden" fh) (GH:FnOk P w K mg base CX0 2 fh fdh ["self"] (spHidden K CF)) (bH:Binds K fdh ["self"] []) (cF:Cls K CF) :
  FnOk P w K mg base CX0 3 f fd ["want","part"] (spHiddenBy K CF):=by
 refine F.ok scHiddenBy (fun vs H Q E h=>?_) (fun cdv A outer s H vs Q E hr h=>?_)
 ·obtain⟨fa,part,m1,m2,rfl,_⟩:=h
  rfl
 obtain⟨fa,part,m1,m2,rfl,hF,hnd,h100,hok,q⟩:=h
 have hu:=hu_of hr
 refine⟨_,pss_cons (ps_set (i:=2) scHiddenBy.nd rfl (Or.inl rfl) pe_dnewT)
  (pss_cons (ps_for PassesOwn.never rfl (pi_list (pe_meth0 (pv 0) cF MH GH hr bH .nil pass0)) (pg_name (i:=3) scHiddenBy.nd rfl (Or.inl rfl))
   (pss_one (ps_dput hu (pv 2) (pe_tup (pa_cons pe_str (pa_cons (pv 3) pa_nil))) (pe_tup (pa_cons pe_str (pa_cons (pv 1) (pa_cons (pv 3) pa_nil)))) rfl)))
  (pss_one (ps_ret (pv 2)))),?_⟩
 intro g hgn
 have s2:=same_new hgn (.dT [])
 obtain⟨dx,d1,d2,fs,kv1,kv2,hfa,l1,l2,hd1,hd2,hk1,hk2,nh,np⟩:=id (hF.same s2)
 refine⟨_,rfl,fa,dx,fs,rfl,hfa,nh,fa,m1,m2,rfl,hF.same s2,h100,hok,fun H3 l s3 hl2 hl3=>⟨l,rfl,⟨_,SqL.of hl3⟩,?_⟩⟩
 have hg3:=s3 _ _ (show upd H g (.dT []) g=some (.dT []) from upd_same)
 have lg:l≠g:=fun e=>by rw [e,upd_same] at hl2;cases hl2
 have hsl:(hidL m1).length≤100:=by
  unfold hidL
  rw [List.length_map]
  exact Nat.le_trans (List.length_filter_le _ _) h100
 refine for_list (K:=K) (xs:=(hidL m1).map V.str) (fun i σ H4=>∃(y3:Option V) (kvs:List (List Key × V)),σ=[some (.ref fa),some (.str part),some (.ref g),y3]∧Same H H4∧H4 l=some (.lst ((hidL m1).map V.str))∧H4 g=some (.dT kvs)∧PtAt K H4 kvs (((hidL m1).take i).map fun z=>(z,Kd.name part z)))
  ⟨none,[],rfl,s2.trans s3,hl3,hg3,.nil⟩ ?_ ?_ ?_
 ·rintro i σ H4 _ ⟨_,_,_,_,h,_⟩
  exact SqL.of h
 ·rintro i y σ H4 hy ⟨y3,kvs,rfl,s4,hl4,hg4,hpt⟩
  rw [List.getElem?_map] at hy
  obtain⟨z,hz,rfl⟩:=Option.map_eq_some_iff.mp hy
  have hi:i < (hidL m1).length:=(List.getElem?_eq_some_iff.mp hz).1
  refine⟨_,rfl,_,rfl,(by show 3≤sizeLine;decide),fun p hp=>?_⟩
  have s5:=same_new hp (.tup [.str "name",.str part,.str z])
  refine⟨_,rfl,_,rfl,(by show 2≤sizeLine;decide),fun p2 hp2=>?_⟩
  have s6:=same_new hp2 (.tup [.str "",.str z])
  have s56:=s5.trans s6
  have kl:kvs.length=i:=by
   have e1:=Paired.length hpt
   rw [List.length_map,List.length_take] at e1
   omega
  have hg5:=s56 _ _ hg4
  have hv:KdAt K (upd (upd H4 p (.tup [.str "name",.str part,.str z])) p2 (.tup [.str "",.str z])) (.ref p) (.name part z):=.name (SqT.of (s6 _ _ upd_same))
  refine⟨g,_,rfl,DPut.t (k:=keyN ("",z)) hg5 (by rw [upd_same]<;>rfl) (Nat.lt_of_lt_of_le (Nat.lt_succ_self _) (small (by omega))),?_⟩
  have kt:∀a xs,SqT K (upd (upd H4 p (.tup [.str "name",.str part,.str z])) p2 (.tup [.str "",.str z])) a xs→SqT K (upd (upd (upd H4 p (.tup [.str "name",.str part,.str z])) p2 (.tup [.str "",.str z])) g (.dT (putK kvs (keyN ("",z)) (.ref p)))) a xs:=fun a xs t=>sqt_dt hg5 t
  have ht:(hidL m1).take (i+1)=(hidL m1).take i++[z]:=by rw [List.take_add_one,hz];rfl
  refine⟨_,_,rfl,sput (s4.trans s56) hgn,?_,upd_same,?_⟩
  ·rw [upd_ne lg]
   exact s56 _ _ hl4
  ·rw [ht,List.map_append]
   refine pt_put ((hpt.same s56).keep kt) ?_ (kd_keep kt hv)
   rw [List.map_map]
   have e:((fun q:Str × Kd=>q.1)∘fun z=>(z,Kd.name part z))=id:=rfl
   show z∉((hidL m1).take i).map ((fun q:Str × Kd=>q.1)∘fun z=>(z,Kd.name part z))
   rw [e,List.map_id]
   exact out_take (hid_nodup hnd) hz
 ·rintro σ H4 ⟨y3,kvs,rfl,s4,hl4,hg4,hpt⟩
  rw [List.length_map,List.take_length] at hpt
  refine⟨_,rfl,q H4 g kvs s4 hgn hg4 fun n=>?_⟩
  rcases pt_val hpt n with ⟨h1,h2⟩|⟨v,k,h1,h2,h3,h4⟩
  ·refine .inl ⟨h1,if_neg fun hh=>h2 hh.1 ?_⟩
   rw [List.map_map]
   exact List.mem_map.mpr ⟨_,hh.2,rfl⟩
  ·obtain⟨z,hz,e⟩:=List.mem_map.mp h3
   cases e
   exact .inr ⟨v,_,h1,if_pos ⟨h2,hz⟩,h4⟩
end
def spToldWith(K:PySem.W.Frag)(CF:Addr)(n:Nat):Sp:=fun vs H Q _=>∃(fa:Addr) (part:Str) (m1:List (Str × Kd)) (m2:List (Str × (List Kd × Kd))),vs=[.ref fa,.str part]∧FaceF K H CF fa m1 m2∧(m1.map (·.1)).Nodup∧(m2.map (·.1)).Nodup∧m1.length≤100∧m2.length≤100∧(∀q∈m1,okW q.1∧Kd.ok q.2∧Kd.depth q.2≤60) ∧
 (∀q∈m1,Kd.depth q.2≤n)∧(∀q∈m2,(∀k∈q.2.1,Kd.depth k≤n)∧Kd.depth q.2.2≤n∧q.2.1.length≤100) ∧
 ∀H' (x:Addr),Same H H'→H x=none→FaceN K H H' CF x (m1.map (putP (hidG m1 part))) (m2.map (putQ (hidG m1 part)))→Q (.ref x) H'
section
variable{P:Program}{w:World}{K:PySem.W.Frag}{mg:Str→Option Value}{base:Heap}
theorem scToldWith:FnScope ["want","part"] ["want","part"] (defScope sToldWith):=⟨rfl,rfl,rfl,by decide +kernel,rfl,by decide +kernel,by decide +kernel⟩
theorem ok_toldWith{n:Nat}{f fp fh CF:Addr}{fd fdp fdh:FuncData} (F:Fun K "told_with" "told_with" sToldWith f fd)
  (GP:FnOk P w K mg base CX0 (n+2+1) fp fdp ["face","given"] (spPutFace K CF n)) (bP:Binds K fdp ["face","given"] []) (kP:PySem.W.keepIn K (.ref fp)=true) (mP:mg "put_in_face"=some (.ref fp))
  (GH:FnOk P w K mg base CX0 3 fh fdh ["want","part"] (spHiddenBy K CF)) (bH:Binds K fdh ["want","part"] []) (kH:PySem.W.keepIn K (.ref fh)=true) (mH:mg "hidden_by"=some (.ref fh)) :
  FnOk P w K mg base CX0 (n+3+1) f fd ["want","part"] (spToldWith K CF n):=by
 refine F.ok scToldWith (fun vs H Q E h=>?_) (fun cdv A outer s H vs Q E hr h=>?_)
 ·obtain⟨fa,part,m1,m2,rfl,_⟩:=h
  rfl
 obtain⟨fa,part,m1,m2,rfl,hF,nd1,nd2,l1,l2,hok,dp1,dp2,q⟩:=h
 have hr3:Room 3 _:=hr.mono (by omega)
 refine⟨_,pss_one (ps_ret (pe_call GP hr rfl mP kP bP .nil pass0 (pa_cons (pv 0) (pa_cons (pe_call GH hr3 rfl mH kH bH .nil pass0 (pa_cons (pv 0) (pa_cons (pv 1) pa_nil))) pa_nil)))),?_⟩
 refine⟨_,rfl,_,rfl,_,rfl,fa,part,m1,m2,rfl,hF,nd1,l1,hok,fun H1 g kvs s1 hg hg1 gv=>?_⟩
 exact⟨fa,g,m1,m2,kvs,_,rfl,hF.same s1,nd1,nd2,l1,l2,dp1,dp2,hg1,gv,fun H' x s' hx hN=>q H' x (s1.trans s') (s1.free hx) (hN.anti s1)⟩
end
theorem FaceF.faceAt{K:PySem.W.Frag}{H:Hp}{CF fa:Addr}{m1:List (Str × Kd)}{m2:List (Str × (List Kd × Kd))}(F:FaceF K H CF fa m1 m2):FaceAt K H CF fa m1 m2:=let ⟨dx,d1,d2,fs,kv1,kv2,a,b,c,d,e,g,h,i,j⟩:=F;⟨dx,d1,d2,fs,kv1,kv2,⟨a,b,c,d,e,g,h,i,j⟩⟩
def spSeenFace(K:PySem.W.Frag)(CF CN:Addr)(n:Nat):Sp:=fun vs H Q E=>∃(ha:Addr) (x:V) (pz:Str) (m1:List (Str × Kd)) (m2:List (Str × (List Kd × Kd))),vs=[.ref ha,x,.str pz]∧FaceF K H CF ha m1 m2 ∧
 ((x=.non∧∀H' (y:Addr),Same H H'→H y=none→FaceN K H H' CF y m1 m2→Q (.ref y) H') ∨
 ∃(wa:Addr) (n1:List (Str × Kd)) (n2:List (Str × (List Kd × Kd))),x=.ref wa∧FaceF K H CF wa n1 n2∧Two m1 n1 m2 n2 n∧(n2.map (·.1)).Nodup∧(PyData.strOk pz=true∧pz.length≤14) ∧
  (∀r,fitR m1 n1 m2 n2=some r→∀d H',Same H H'→XOk K H' d (.str pz) r→E (.ref CN) d H') ∧
  (fitR m1 n1 m2 n2=none→∀H' (y:Addr),Same H H'→H y=none→FaceN K H H' CF y (n1.map (putP (hidG n1 pz))) (n2.map (putQ (hidG n1 pz)))→Q (.ref y) H'))
section
variable{P:Program}{w:World}{K:PySem.W.Frag}{mg:Str→Option Value}{base:Heap}
theorem bindF3{f T:Addr}{fd:FuncData}{oT:Value}{dT:Option Addr}{nT:Nat}{sT:Array (Option Value)}{tk:Tok} (F:FunD K "fitted" "fitted" sFitted (.ref T) f fd) (lT:K.lookup T=some ⟨oT,dT,.seq #[.str "" tk] nT,sT⟩):Binds K fd ftP [] :=
 F.binds lT fun _ _ _ _ _ _ us hl=>by
  have hl':us.length=3:=by simpa using hl
  match us,hl' with
  |[_,_,_],_=>exact⟨_,rfl,rfl⟩
theorem scSeenFace:FnScope ["full","want","part"] ["full","want","part"] (defScope sSeenFace):=⟨rfl,rfl,rfl,by decide +kernel,rfl,by decide +kernel,by decide +kernel⟩
set_option maxHeartbeats 0 in
theorem ok_seenFace{n:Nat}{f ff fh fi CF CN:Addr}{fd fdf fdh fdi:FuncData} (F:Fun K "seen_face" "seen_face" sSeenFace f fd)
  (GF:FnOk P w K mg base (CX1 P w) (n+2+1) ff fdf ftP (spFitted K CF CN n)) (bF:Binds K fdf ftP []) (kF:PySem.W.keepIn K (.ref ff)=true) (mF:mg "fitted"=some (.ref ff))
  (GT:FnOk P w K mg base CX0 (n+3+1) fh fdh ["want","part"] (spToldWith K CF n)) (bT:Binds K fdh ["want","part"] []) (kT:PySem.W.keepIn K (.ref fh)=true) (mT:mg "told_with"=some (.ref fh))
  (GI:FnOk P w K mg base CX0 1 fi fdi ["self","kinds","funs"] (spInitF CF)) (bI:Binds K fdi ["self","kinds","funs"] []) (MF:Mk K CF fi) (mC:mg "Face"=some (.ref CF)) (cF:Cls K CF) (nK:NoAttr K CF "kinds") (nF:NoAttr K CF "funs") :
  FnOk P w K mg base (CX1 P w) (n+4+1) f fd ["full","want","part"] (spSeenFace K CF CN n):=by
 refine F.okX scSeenFace (fun vs H Q E h=>?_) (fun cdv A outer s H vs Q E hr h=>?_)
 ·obtain⟨ha,x,pz,m1,m2,rfl,_⟩:=h
  rfl
 obtain⟨ha,x,pz,m1,m2,rfl,hF,h⟩:=h
 have hr2:Room (1+1) _:=hr.mono (by omega)
 have hr3:Room (n+2+1) _:=hr.mono (by omega)
 refine⟨_,pss_cons (ps_if (pt_cmpR op_isN (pv 1) pe_non (nomark _)) (pss_one (ps_ret (pe_make MF GI hr2 (by rfl) mC bI .nil pass0 (pa_cons (pe_fld (pv 0) rfl) (pa_cons (pe_fld (pv 0) rfl) pa_nil))))) pss_nil)
  (pss_cons (ps_expr (pe_call GF hr3 rfl mF kF bF .nil pass1 (pa_cons (pv 0) (pa_cons (pv 1) (pa_cons (pv 2) pa_nil)))))
  (pss_one (ps_ret (pe_call GT hr rfl mT kT bT .nil pass0 (pa_cons (pv 1) (pa_cons (pv 2) pa_nil)))))),?_⟩
 obtain⟨dx,d1,d2,fs,kv1,kv2,hfa,l1,l2,hd1,hd2,hk1,hk2,_,_⟩:=id hF
 rcases h with ⟨rfl,q⟩|⟨wa,n1,n2,rfl,hW,T,nd2,hp,qE,qN⟩
 ·refine⟨_,rfl,rfl,_,rfl,iteT ?_⟩
  refine⟨_,rfl,ha,CF,dx,fs,_,rfl,hfa,cF,nK,l1,_,rfl,ha,CF,dx,fs,_,rfl,hfa,cF,nF,l2,fun x dx' nx ndx nex=>?_⟩
  have ea:=same_new ndx (.own x)
  have nx':upd H dx' (.own x) x=none:=by rw [upd_ne (Ne.symm nex)];exact nx
  have eab:=ea.trans (same_new nx' (.ins CF dx' []))
  refine⟨x,dx',d1,d2,kv1,kv2,rfl,upd_same,eab _ _ hd1,eab _ _ hd2,fun d e fs' H7 hd he nde hx lk lf lh lp hd7 he7 keep=>⟨rfl,?_⟩⟩
  have s7:Same H H7:=fun b o hb=>keep b o (eab _ _ hb) (fun z=>by rw [z,nx] at hb;cases hb)
  exact q H7 x s7 nx ⟨dx',d,e,fs',kv1,kv2,eab.free hd,eab.free he,nde,hx,lk,lf,hd7,he7,hk1.imp fun v y h=>h.same s7,hk2.imp fun v y h=>h.keep fun a xs t=>s7.tup t,lh,lp⟩
 ·refine⟨_,rfl,rfl,_,rfl,ite2 (fun c=>absurd (of_decide_eq_true c) (by intro h;cases h)) (fun _=>?_)⟩
  refine⟨_,rfl,_,rfl,_,rfl,ha,wa,pz,m1,n1,m2,n2,rfl,hF.faceAt,hW.faceAt,T,hp,qE,fun hn H1 g kvs gl s1 hg hg1 hpt hgl hlk=>?_⟩
  refine⟨_,rfl,_,rfl,wa,pz,n1,n2,rfl,hW.same s1,T.nd,nd2,T.l1,T.l2,fun q hq=>?_,T.dp1,fun q hq=>⟨fun k hk=>T.dp2 q hq k (List.mem_cons_of_mem _ hk),T.dp2 q hq _ (List.mem_cons_self ..),Nat.le_trans (T.sn2 q hq).2.1 (by decide)⟩,fun H' y s' hy hN=>qN hn H' y (s1.trans s') (s1.free hy) (hN.anti s1)⟩
  obtain⟨⟨a1,a2⟩,a3,_,a5⟩:=T.sn1 q hq
  exact⟨⟨a1,by omega⟩,sm_ok a3,by omega⟩
end
end K42
namespace K42
open PySem L2 Kk
abbrev wnN:List Str:=["seal","faces","parts","word","withs"]
abbrev wnP:List Str:=["seal","faces","parts"]
abbrev tel0(PG:Str→Option (Str→Option Kd)):Str × Str→Option Kd:=tell (fun _=>none) PG
def toldW(PG:Str→Option (Str→Option Kd))(q:Str × Kd):Str × Kd:=(q.1,Kd.put (tel0 PG) q.2)
abbrev AllTold(PG:Str→Option (Str→Option Kd))(q:Str × Kd):Prop:=∀n∈Kd.names q.2,tel0 PG n≠none
def SealOk(PG:Str→Option (Str→Option Kd))(ws:List (Str × Kd)):Prop:=∀q∈ws,okW q.1∧Kd.ok q.2∧q.2.words≤40∧(AllTold PG q→Kd.ok (Kd.put (tel0 PG) q.2)∧(Kd.put (tel0 PG) q.2).words≤27)
def spWanted(K:PySem.W.Frag)(CF CA CN CT:Addr):Sp:=fun vs H Q E=>∃(x:V) (fa pa:Addr) (fkv pkv:List (Key × V)) (PG:Str→Option (Str→Option Kd)),vs=[x,.ref fa,.ref pa]∧H fa=some (.dK fkv)∧H pa=some (.dK pkv)∧PartsAt K H CF pkv PG ∧
 ((x=.non∧∀H',Same H H'→Q .non H') ∨
 ∃(p tw:Addr) (z:Str) (xs:List V) (ws:List (Str × Kd)),x=.ref p∧SqT K H p [.str z,.ref tw]∧okW z∧SqT K H tw xs∧WithsAt K H xs ws∧ws.length≤100∧SealOk PG ws ∧
  ((valV fkv (.inr z)=none∧∀H',Same H H'→E (.ref CA) none H') ∨
  ∃(a:Addr) (m1:List (Str × Kd)) (m2:List (Str × (List Kd × Kd))),valV fkv (.inr z)=some (.ref a)∧FaceF K H CF a m1 m2∧Good m1 m2 ∧
   ((∃q∈ws,¬AllTold PG q)→∀H',Same H H'→E (.ref CN) none H') ∧
   ((∀q∈ws,AllTold PG q)→(∀m1' m2',rrun m1 m2 (ws.map (toldW PG))=.ok m1' m2'→∀H' (y:Addr),Same H H'→H y=none→FaceN K H H' CF y m1' m2'→Q (.ref y) H') ∧
    (rrun m1 m2 (ws.map (toldW PG))=.no→∀H',Same H H'→E (.ref CN) none H')∧(rrun m1 m2 (ws.map (toldW PG))=.big→∀H',Same H H'→E (.ref CT) none H'))))
theorem pappR{α β:Type}{R:α→β→Prop}:∀{xs:List α} {ys:List β} {us:List α} {vs:List β},Paired R xs ys→Paired R us vs→Paired R (xs++us) (ys++vs)
 |_,_,_,_,.nil,h=>h
 |_,_,_,_,.cons a b,h=>.cons a (pappR b h)
theorem pmapR{α β γ:Type}{R:α→γ→Prop}{f:β→γ}:∀{xs:List α} {ys:List β},Paired (fun x y=>R x (f y)) xs ys→Paired R xs (ys.map f)
 |_,_,.nil=>.nil
 |_,_,.cons a b=>.cons a (pmapR b)
section
variable{P:Program}{w:World}{K:PySem.W.Frag}{mg:Str→Option Value}{base:Heap}
theorem bindNm{f T:Addr}{fd:FuncData}{oT:Value}{dT:Option Addr}{nT:Nat}{sT:Array (Option Value)}{tk:Tok} (F:FunD K "normal" "normal" sNormal (.ref T) f fd) (lT:K.lookup T=some ⟨oT,dT,.seq #[.int 40 tk] nT,sT⟩):Binds K fd ["kind","own","parts","most"] [.int 40 tk] :=
 F.binds lT fun _ _ _ _ _ _ us hl=>by
  have hl':us.length=3:=by simpa using hl
  match us,hl' with
  |[_,_,_],_=>exact⟨_,rfl,rfl⟩
theorem scWanted:FnScope wnN wnP (defScope sWanted):=⟨rfl,rfl,rfl,by decide +kernel,rfl,by decide +kernel,by decide +kernel⟩
set_option maxHeartbeats 0 in
theorem ok_wanted{f fr fn CF CA CN CT T:Addr}{fd fdr fdn:FuncData}{oT:Value}{dT:Option Addr}{nT:Nat}{sT:Array (Option Value)}{tk:Tok} (F:Fun K "wanted" "wanted" sWanted f fd)
  (GR:FnOk P w K mg base (CX1 P w) 45 fr fdr ["face","withs"] (spRefined K CF CN CT)) (bR:Binds K fdr ["face","withs"] []) (kR:PySem.W.keepIn K (.ref fr)=true) (mR:mg "refined"=some (.ref fr))
  (FN:FunD K "normal" "normal" sNormal (.ref T) fn fdn) (lT:K.lookup T=some ⟨oT,dT,.seq #[.int 40 tk] nT,sT⟩)
  (GN:FnOk P w K mg base (CX1 P w) 41 fn fdn ["kind","own","parts","most"] (spNormal K CF CN CT)) (kN:PySem.W.keepIn K (.ref fn)=true) (mN:mg "normal"=some (.ref fn))
  (mA:mg "NoName"=some (.ref CA)) (xA:PySem.W.excIn K CA bmVE "ValueError.__new__"=true) :
  FnOk P w K mg base (CX1 P w) 46 f fd wnP (spWanted K CF CA CN CT):=by
 refine F.okX scWanted (fun vs H Q E h=>?_) (fun cdv A outer s H vs Q E hr h=>?_)
 ·obtain⟨x,fa,pa,fkv,pkv,PG,rfl,_⟩:=h
  rfl
 obtain⟨x,fa,pa,fkv,pkv,PG,rfl,hfa,hpa,hP,h⟩:=h
 have hu:=hu_of hr
 have hr41:Room 41 _:=hr.mono (by decide)
 have bN:=bindNm FN lT
 have dN:Vals [V.int 40] [Value.int 40 tk]:=.cons ⟨tk,rfl⟩ .nil
 refine⟨_,pss_cons (ps_if (pt_cmpR op_isN (pv 0) pe_non (nomark _)) (pss_one (ps_ret pe_non)) pss_nil)
  (pss_cons (ps_asg (pv 0) (pg_tup rfl (pgs_cons (pg_name (i:=3) scWanted.nd rfl (Or.inl rfl)) (pgs_cons (pg_name (i:=4) scWanted.nd rfl (Or.inl rfl)) pgs_nil))))
  (pss_cons (ps_if (pt_cmp (pc_dnotin hu (pv 3) (pv 1)) (by with_unfolding_all rfl)) (pss_one (ps_raise1 rfl mA xA (pa_cons (pe_fstr (pj_cons pe_str (pj_cons (pe_fv (pv 3)) pj_nil)) (by decide)) pa_nil))) pss_nil)
  (pss_one (ps_ret (pe_call GR hr rfl mR kR bR .nil pass1 (pa_cons (pe_dget hu (pv 1) (pv 3) (fun _ _=>rfl)) (pa_cons (pe_compX (own:=["name","kind"]) (caps:=["parts"]) (κ:=[2]) (g:=gTup K 2 (gCons (gName 0) (gCons (gName 1) gNil))) ⟨rfl,by decide +kernel,by decide +kernel,rfl,rfl,(fun y hy=>by simp only [List.mem_cons,List.not_mem_nil,or_false] at hy;subst hy;rfl),(fun y hy=>by simp only [List.mem_cons,List.not_mem_nil,or_false] at hy;subst hy;exact⟨.inl rfl,rfl,.inl rfl⟩)⟩ rfl
   (pi_tup (pv 4)) (fun _ _ _ _ _=>pg_tup rfl (pgs_cons (pg_name (i:=0) (show(["name","kind","parts"]:List Str).Nodup from by decide +kernel) rfl (Or.inl rfl)) (pgs_cons (pg_name (i:=1) (show(["name","kind","parts"]:List Str).Nodup from by decide +kernel) rfl (Or.inl rfl)) pgs_nil)))
   (fun _ _ _ _ _ hps=>pe_tup (pa_cons (pv 0) (pa_cons (pe_call GN hr41 rfl mN kN bN dN hps (pa_cons (pv 1) (pa_cons pe_dnewK (pa_cons (pv 2) pa_nil)))) pa_nil)))) pa_nil))))))),?_⟩
 rcases h with ⟨rfl,q⟩|⟨p,tw,z,xs,ws,rfl,hp,hz,htw,hxs,hl,hS,h⟩
 ·exact⟨_,rfl,rfl,_,rfl,iteT (q _ (Same.refl _))⟩
 refine⟨_,rfl,rfl,_,rfl,ite2 (fun c=>absurd (of_decide_eq_true c) (by intro h;cases h)) (fun _=>?_)⟩
 refine⟨_,rfl,p,_,rfl,hp,rfl,_,_,rfl,_,_,rfl,rfl,?_⟩
 refine⟨_,rfl,_,rfl,fa,_,rfl,DGet.k (k:=.inr z) hfa,_,rfl,?_⟩
 rcases h with ⟨hv,qE⟩|⟨a,m1,m2,hv,hF,hG,q1,q2⟩
 ·rw [hv]
  exact iteT ⟨_,rfl,by decide +kernel,_,rfl,.inl ⟨z,rfl,Nat.le_trans hz.2 (by decide),z,rfl,Nat.le_trans hz.2 (by decide),fun z3 hz3=>⟨(by show 1≤sizeLine;decide),qE _ (Same.refl _)⟩⟩⟩
 ·rw [hv]
  refine iteF ?_
  refine⟨_,rfl,_,rfl,fa,.ref a,rfl,hv▸DGet.k (k:=.inr z) hfa,_,rfl,tw,rfl,⟨_,htw⟩,?_⟩
  have hlen:xs.length=ws.length:=Paired.length hxs
  refine comp_by (J:=Itt K tw) (xs:=xs) (fun i ys H3=>Same H H3∧ys.length=i∧(∀q∈ws.take i,AllTold PG q)∧Paired (fun v q=>WithAt K H3 v (toldW PG q)) ys (ws.take i)) ⟨Same.refl _,rfl,(fun q hq=>nomatch hq),.nil⟩ (small (by omega)) ?_ ?_ ?_ ?_ ?_ ?_
  ·rintro i ys H3 ⟨_,hy,_⟩
   omega
  ·rintro i u ys H3 hu ⟨s3,_⟩
   exact⟨_,_,s3.tup htw,hu⟩
  ·rintro i ys u H3 H' hn ⟨s3,_⟩ hy
   exact⟨hy.1,hy.2 _ (s3.tup htw)⟩
  ·rintro ys H3 ⟨s3,_⟩
   exact⟨_,s3.tup htw,Nat.le_refl _⟩
  ·rintro i u ys H3 N hN hu ⟨s3,hy,hat,hpa3⟩
   obtain⟨⟨t,g⟩,hq,p',yk,rfl,hp',hyk⟩:=pair_get hxs hu
   replace hp':SqT K H p' [.str t,yk]:=hp'
   replace hyk:KdAt K H yk g:=hyk
   have hm:=List.mem_of_getElem? hq
   obtain⟨o1,o2,o3,o4⟩:=hS (t,g) hm
   replace o3:g.words≤40:=o3
   refine⟨p',_,rfl,s3.tup hp',rfl,_,_,rfl,_,_,rfl,rfl,rfl,tYes_go ⟨_,rfl,_,rfl,fun o ho=>⟨_,rfl,?_⟩⟩⟩
   have so:=same_new ho (.dK [])
   have s4:=s3.trans so
   refine⟨yk,g,o,pa,40,[],pkv,(fun _=>none),PG,rfl,hyk.same s4,by omega,Nat.le_trans (depth_words _) o3,names_ok o2,by decide,by decide,upd_same,(fun _=>.inl ⟨rfl,rfl⟩),s4 _ _ hpa,hP.same s4,fun H' s' hex=>q1 ⟨(t,g),hm,fun hall=>?_⟩ _ (s4.trans s'),fun hall=>?_⟩
   ·obtain⟨n,hn,e⟩:=hex
    exact hall n hn e
   ·obtain⟨w1,w2⟩:=o4 hall
    replace w2:(Kd.put (tel0 PG) g).words≤27:=w2
    refine⟨by show(Kd.put (tel0 PG) g).words≤900;omega,fun H' s'=>?_⟩
    have c:¬(((Kd.put (tell (fun _=>none) PG) g).words:Int) > 40):=by
     show ¬(((Kd.put (tel0 PG) g).words:Int) > 40)
     omega
    rw [if_neg c]
    intro v hv
    refine⟨(by show 2≤sizeLine;decide),fun p2 hp2=>hN _ _ ?_⟩
    have s5:=same_new hp2 (.tup [.str t,v])
    have s6:=s4.trans (s'.trans s5)
    have et:ws.take (i+1)=ws.take i++[(t,g)]:=by rw [List.take_add_one,hq];rfl
    refine⟨s6,by rw [List.length_append,hy];rfl,fun q hq'=>?_,?_⟩
    ·rw [et] at hq'
     rcases List.mem_append.mp hq' with hq'|hq'
     ·exact hat q hq'
     ·rw [List.mem_singleton.mp hq']
      exact hall
    ·rw [et]
     exact pappR (Paired.mapP hpa3 fun _ _ h=>(h.same so).same (s'.trans s5)) (.cons ⟨p2,v,rfl,SqT.of upd_same,hv.same s5⟩ .nil)
  ·rintro ys H3 D ⟨s3,_,hat,hpa3⟩ hD
   rw [hlen,List.take_length] at hat hpa3
   have sD:=same_new hD (.lst ys)
   have s4:=s3.trans sD
   obtain⟨r1,r2,r3⟩:=q2 hat
   refine⟨a,D,m1,m2,ys,ws.map (toldW PG),rfl,hF.same s4,hG,SqL.of upd_same,?_,fun q hq=>?_,fun a1 a2 e H' y s' hy hN=>r1 a1 a2 e H' y (s4.trans s') (s4.free hy) (hN.anti s4),fun e H' s'=>r2 e H' (s4.trans s'),fun e H' s'=>r3 e H' (s4.trans s')⟩
   ·exact pmapR (Paired.mapP hpa3 fun _ _ h=>h.same sD)
   ·obtain⟨q',hq',rfl⟩:=List.mem_map.mp hq
    obtain⟨o1,_,_,o4⟩:=hS q' hq'
    exact⟨o1,(o4 (hat q' hq')).1,(o4 (hat q' hq')).2⟩
end
end K42
namespace K42
open PySem L2 Kk
def wsz(c:Int):Int:=if 0 < c / 6%3 then 7+c%6 else 1
def wnum(c k:Int)(j:Int):Int:=c / 216+(3+c / 1000)*j+k*(if j=c / 18%wsz c then 1 else 0)
def wpre(c k:Int):Nat→Str
 |0=>""
 |j+1=>wpre c k j++⟨#[chF (wnum c k (j:Int)%26)]⟩
def wordL(c k:Int):Str:=wpre c k (wsz c).toNat
theorem wsz_bd(c:Int):1≤wsz c∧wsz c≤12:=by
 unfold wsz
 split<;>omega
theorem wpre_len(c k:Int):∀n,(wpre c k n).length=n
 |0=>rfl
 |n+1=>by
  show(wpre c k n++⟨#[chF (wnum c k (n:Int)%26)]⟩:Str).length=n+1
  rw [len_app,wpre_len c k n]
  rfl
theorem wpre_ok(c k:Int):∀n,PyData.strOk (wpre c k n)=true
 |0=>show PyData.strOk (Str.ofString "")=true by decide +kernel
 |n+1=>sok_app (wpre_ok c k n) (chF_ok _)
theorem wpre_cps(c k:Int):∀n,(wpre c k n).cps.toList=(List.range n).map fun(j:Nat)=>chF (wnum c k (j:Int)%26)
 |0=>rfl
 |n+1=>by
  have e:(wpre c k (n+1)).cps.toList=(wpre c k n).cps.toList++[chF (wnum c k (n:Int)%26)]:=by
   show((wpre c k n).cps++#[chF (wnum c k (n:Int)%26)]).toList=_
   simp
  rw [e,wpre_cps c k n,List.range_succ,List.map_append]
  rfl
theorem smW_L(c k:Int):smW (wordL c k):=⟨wpre_ok _ _ _,by have:=wsz_bd c;unfold wordL;rw [wpre_len];omega⟩
theorem chF_val:∀i:Fin 26,chF (i.val:Int)=97+i.val:=by decide +kernel
theorem chF_at{i:Int}(h0:0≤i)(h1:i < 26):chF i=97+i.toNat:=by
 have h:=chF_val ⟨i.toNat,by omega⟩
 have e:((i.toNat:Nat):Int)=i:=Int.toNat_of_nonneg h0
 simp only [e] at h
 exact h
theorem wordL_inj{c k k':Int}(h:wordL c k=wordL c k'):k%26=k'%26:=by
 have hc:(wordL c k).cps.toList=(wordL c k').cps.toList:=by rw [h]
 unfold wordL at hc
 rw [wpre_cps,wpre_cps] at hc
 have hb:=wsz_bd c
 have a0:=Int.emod_nonneg (c / 18) (show wsz c≠0 by omega)
 have a1:=Int.emod_lt_of_pos (c / 18) (show 0 < wsz c by omega)
 have hj:(c / 18%wsz c).toNat < (wsz c).toNat:=by omega
 have hg:=congrArg (fun l:List Nat=>l[(c / 18%wsz c).toNat]?) hc
 simp only [List.getElem?_map,List.getElem?_range hj,Option.map_some,Option.some.injEq] at hg
 rw [Int.toNat_of_nonneg a0] at hg
 rw [chF_at (Int.emod_nonneg _ (by decide)) (Int.emod_lt_of_pos _ (by decide)),chF_at (Int.emod_nonneg _ (by decide)) (Int.emod_lt_of_pos _ (by decide))] at hg
 unfold wnum at hg
 rw [if_pos rfl] at hg
 generalize c / 216+(3+c / 1000)*(c / 18%wsz c)=A at hg
 omega
abbrev wlN:List Str:=["_law_cell_here","_law_k","_law_size","_law_at","_law_word_here","_law_j","_law_number"]
abbrev wlP:List Str:=["_law_cell_here","_law_k"]
def spWordL:Sp:=fun vs H Q _=>∃c k:Int,vs=[.int c,.int k]∧∀H',Same H H'→Q (.str (wordL c k)) H'
section
variable{P:Program}{w:World}{K:PySem.W.Frag}{mg:Str→Option Value}{base:Heap}
theorem scWordL:FnScope wlN wlP (defScope sWordL):=⟨rfl,rfl,rfl,by decide +kernel,rfl,by decide +kernel,by decide +kernel⟩
set_option maxHeartbeats 0 in
theorem ok_wordL{f:Addr}{fd:FuncData} (F:Fun K "_law_word" "_law_word" sWordL f fd) (mI:mg "int"=none) (mr:mg "range"=none):FnOk P w K mg base CX0 1 f fd wlP spWordL:=by
 refine F.ok scWordL (fun vs H Q E h=>?_) (fun cdv A outer s H vs Q E hr h=>?_)
 ·obtain⟨c,k,rfl,_⟩:=h
  rfl
 obtain⟨c,k,rfl,q⟩:=h
 refine⟨_,pss_cons (ps_set (i:=2) scWordL.nd rfl (Or.inl rfl) (pe_ix ix_list (pe_lst (pa_cons pe_int (pa_cons (pe_op op_add pe_int (pe_op op_mod (pv 0) pe_int)) pa_nil))) (pe_callTy call_int1 rfl mI bootInt (pa_cons (pe_cmpR op_gt (pe_op op_mod (pe_op op_fdiv (pv 0) pe_int) pe_int) pe_int (nomark _)) pa_nil)) (fun _ _=>rfl)))
  (pss_cons (ps_set (i:=3) scWordL.nd rfl (Or.inl rfl) (pe_op op_mod (pe_op op_fdiv (pv 0) pe_int) (pv 2)))
  (pss_cons (ps_set (i:=4) scWordL.nd rfl (Or.inl rfl) pe_str)
  (pss_cons (ps_for PassesOwn.never rfl (pi_range1 rfl mr (pa_cons (pv 2) pa_nil)) (pg_name (i:=5) scWordL.nd rfl (Or.inl rfl))
   (pss_cons (ps_set (i:=6) scWordL.nd rfl (Or.inl rfl) (pe_op op_add (pe_op op_add (pe_op op_fdiv (pv 0) pe_int) (pe_op op_mul (pe_op op_add pe_int (pe_op op_fdiv (pv 0) pe_int)) (pv 5))) (pe_op op_mul (pv 1) (pe_callTy call_int1 rfl mI bootInt (pa_cons (pe_cmpR op_eq (pv 5) (pv 3) (nomark _)) pa_nil)))))
   (pss_one (ps_set (i:=4) scWordL.nd rfl (Or.inl rfl) (pe_op op_add_str (pv 4) (pe_ix ix_str pe_str (pe_op op_mod (pv 6) pe_int) (fun _ _=>rfl)))))))
  (pss_one (ps_ret (pv 4)))))),?_⟩
 have hb:=wsz_bd c
 have l26:(Str.ofString "abcdefghijklmnopqrstuvwxyz").length≤sizeLine:=by decide +kernel
 have h26:((Str.ofString "abcdefghijklmnopqrstuvwxyz").cps.toList.length:Int)=26:=by decide +kernel
 have hat:atI [V.int 1,V.int (7+c%6)] (if decide (0 < c / 6%3)=true then 1 else 0)=some (.int (wsz c)):=by
  unfold wsz
  by_cases h:0 < c / 6%3
  ·rw [decide_eq_true h,if_pos h]
   rfl
  ·rw [decide_eq_false h,if_neg h]
   rfl
 refine⟨_,rfl,_,_,rfl,rfl,(by show(0:Int) < 6;decide),_,_,rfl,rfl,(by show 2≤sizeLine;decide),fun l2 hl2=>?_⟩
 have s2:=same_new hl2 (.lst [V.int 1,V.int (7+c%6)])
 refine⟨_,rfl,_,_,rfl,rfl,⟨by decide,by decide⟩,_,_,rfl,rfl,(by show(0:Int) < 3;decide),_,_,rfl,rfl,.inr ⟨_,rfl,l2,_,_,_,rfl,rfl,SqL.of upd_same,hat,?_⟩⟩
 refine⟨_,rfl,_,_,rfl,rfl,⟨by decide,by decide⟩,_,rfl,_,_,rfl,rfl,(by show(0:Int) < wsz c;omega),?_⟩
 refine⟨_,rfl,_,rfl,by omega,by omega,?_⟩
 refine for_range (lo:=0) (n:=(wsz c).toNat) (fun i σ H3=>∃(x5 x6:Option V),σ=[some (.int c),some (.int k),some (.int (wsz c)),some (.int (c / 18%wsz c)),some (.str (wpre c k i)),x5,x6]∧Same H H3) ⟨none,none,rfl,s2⟩ ?_ ?_
 ·rintro i σ H3 hi ⟨x5,x6,rfl,s3⟩
  rw [Int.zero_add]
  obtain⟨g,hg⟩:=at_ex (xs:=(Str.ofString "abcdefghijklmnopqrstuvwxyz").cps.toList) (i:=wnum c k (i:Int)%26) (Int.emod_nonneg _ (by decide)) (by rw [h26];exact Int.emod_lt_of_pos _ (by decide))
  have eg:chF (wnum c k (i:Int)%26)=g:=by unfold chF;rw [hg];rfl
  have el:=wpre_len c k i
  refine⟨_,rfl,_,_,rfl,rfl,⟨by decide,by decide⟩,_,rfl,_,_,rfl,rfl,⟨by decide,by decide⟩,_,_,rfl,rfl,_,rfl,_,_,rfl,rfl,.inr ⟨by omega,by omega⟩,_,_,rfl,rfl,_,rfl,_,rfl,_,rfl,rfl,.inr ⟨_,rfl,?_⟩⟩
  have ek:(if decide (V.int (i:Int)=V.int (c / 18%wsz c))=true then (1:Int) else 0)=if (i:Int)=c / 18%wsz c then 1 else 0:=by
   by_cases h:(i:Int)=c / 18%wsz c
   ·rw [if_pos h,decide_eq_true (by rw [h]),if_pos rfl]
   ·rw [if_neg h,decide_eq_false (fun z=>h (by injection z)),if_neg (by decide)]
  rw [ek]
  refine⟨_,_,rfl,rfl,.inr ⟨by split<;>decide,by split<;>decide⟩,_,_,rfl,rfl,?_⟩
  refine⟨_,rfl,_,rfl,_,_,rfl,rfl,(by show(0:Int) < 26;decide),_,_,_,rfl,rfl,l26,hg,_,_,rfl,rfl,small (by rw [el];show i+1≤1000;omega),?_⟩
  have e:wpre c k i++(⟨#[g]⟩:Str)=wpre c k (i+1):=by rw [←eg];rfl
  rw [e]
  exact⟨_,_,rfl,s3⟩
 ·rintro σ H3 ⟨x5,x6,rfl,s3⟩
  exact⟨_,rfl,q _ s3⟩
end
end K42
namespace K42
open PySem L2 Kk
def MixK(S:Kd→Prop)(k:Kd):Prop:=(∀l∈k.leaves,S l)∧k.leaves.length≤3∧Kd.depth k≤3
theorem e18:(0:Int) < ((10:Int) ^ (18:Int).toNat):=by decide
def spMix(K:PySem.W.Frag):Sp:=fun vs H Q _=>∃(c:Int) (l:Addr) (xs:List V) (ks:List Kd) (S:Kd→Prop),vs=[.int c,.ref l]∧H l=some (.lst xs)∧KdsAt K H xs ks∧ks.length≤50∧(∀k∈ks,k.leaf=true∧S k)∧(∀n:Int,0≤n→n≤10 ^ 18→S (.num n)) ∧
 ∀H' v k,Same H H'→KdAt K H' v k→MixK S k→Q v H'
theorem mix_leaf{S:Kd→Prop}{k:Kd}(h:k.leaf=true∧S k):MixK S k:=by
 have e:=leaves_of_leaf h.1
 refine⟨fun l hl=>?_,by rw [e];exact(by decide:1≤3),?_⟩
 ·rw [e] at hl
  rw [List.mem_singleton.mp hl]
  exact h.2
 ·have:=depth_leaves k
  rw [e] at this
  exact Nat.le_trans this (by decide:1≤3)
theorem mix_pair{S:Kd→Prop}{a b:Kd}(ha:a.leaf=true∧S a)(hb:b.leaf=true∧S b):(∀l∈(Kd.pair a b).leaves,S l)∧(Kd.pair a b).leaves.length=2∧Kd.depth (Kd.pair a b)≤2:=by
 have e:(Kd.pair a b).leaves=[a]++[b]:=by
  show a.leaves++b.leaves=_
  rw [leaves_of_leaf ha.1,leaves_of_leaf hb.1]
 refine⟨fun l hl=>?_,by rw [e];rfl,?_⟩
 ·rw [e] at hl
  rcases List.mem_append.mp hl with h|h
  ·rw [List.mem_singleton.mp h];exact ha.2
  ·rw [List.mem_singleton.mp h];exact hb.2
 ·have:=depth_leaves (Kd.pair a b)
  rw [e] at this
  exact this
abbrev mxN:List Str:=["_law_cell_here","_law_leaves","_law_some","_law_one","_law_other"]
abbrev mxP:List Str:=["_law_cell_here","_law_leaves"]
section
variable{P:Program}{w:World}{K:PySem.W.Frag}{mg:Str→Option Value}{base:Heap}
theorem scMix:FnScope mxN mxP (defScope sMix):=⟨rfl,rfl,rfl,by decide +kernel,rfl,by decide +kernel,by decide +kernel⟩
set_option maxHeartbeats 0 in
theorem ok_mix{f:Addr}{fd:FuncData} (F:Fun K "_law_mix" "_law_mix" sMix f fd) (ml:mg "len"=none):FnOk P w K mg base CX0 1 f fd mxP (spMix K):=by
 refine F.ok scMix (fun vs H Q E h=>?_) (fun cdv A outer s H vs Q E hr h=>?_)
 ·obtain⟨c,l,xs,ks,S,rfl,_⟩:=h
  rfl
 obtain⟨c,l,xs,ks,S,rfl,hl,hks,h50,hS,hn,q⟩:=h
 refine⟨_,pss_cons (ps_set (i:=2) scMix.nd rfl (Or.inl rfl) (pe_op op_cat (pv 1) (pe_lst (pa_cons (pe_tup (pa_cons pe_str (pa_cons (pe_op op_add pe_int (pe_op op_mod (pe_op op_fdiv (pv 0) pe_int) (pe_op op_pow pe_int pe_int))) pa_nil))) pa_nil))))
  (pss_cons (ps_set (i:=3) scMix.nd rfl (Or.inl rfl) (pe_ix ix_list (pv 2) (pe_op op_mod (pe_op op_fdiv (pv 0) pe_int) (pe_callB call_len_seq rfl ml PySem.boot_len (pa_cons (pv 2) pa_nil))) (fun _ _=>rfl)))
  (pss_cons (ps_set (i:=4) scMix.nd rfl (Or.inl rfl) (pe_ix ix_list (pv 2) (pe_op op_mod (pe_op op_fdiv (pv 0) pe_int) (pe_callB call_len_seq rfl ml PySem.boot_len (pa_cons (pv 2) pa_nil))) (fun _ _=>rfl)))
  (pss_one (ps_ret (pe_ix ix_list (pe_lst (pa_cons (pv 3) (pa_cons (pv 3) (pa_cons (pv 3) (pa_cons (pe_tup (pa_cons pe_str (pa_cons (pv 3) (pa_cons (pv 4) pa_nil)))) (pa_cons (pe_tup (pa_cons pe_str (pa_cons (pv 4) (pa_cons (pe_tup (pa_cons pe_str (pa_cons (pv 3) (pa_cons (pv 4) pa_nil)))) pa_nil)))) pa_nil)))))) (pe_op op_mod (pv 0) pe_int) (fun _ _=>rfl)))))),?_⟩
 have hln:=hks.length
 refine⟨_,rfl,_,rfl,_,_,rfl,rfl,⟨by decide,by decide⟩,_,_,rfl,rfl,⟨by decide,by decide,by decide⟩,_,_,rfl,rfl,e18,_,_,rfl,rfl,(by show 2≤sizeLine;decide),fun q1 hq1=>?_⟩
 have u1:=same_new hq1 (.tup [.str "num",.int (1+c / 40%(10:Int) ^ (18:Int).toNat)])
 refine⟨(by show 1≤sizeLine;decide),fun q2 hq2=>?_⟩
 have u2:=same_new hq2 (.lst [.ref q1])
 have u12:=u1.trans u2
 refine⟨l,q2,_,_,rfl,rfl,u12 _ _ hl,upd_same,small (by show xs.length+1≤1000;omega),fun q3 hq3=>?_⟩
 have u3:=same_new hq3 (.lst (xs++[V.ref q1]))
 have u13:=u12.trans u3
 generalize hH4:upd (upd (upd H q1 (.tup [.str "num",.int (1+c / 40%(10:Int) ^ (18:Int).toNat)])) q2 (.lst [.ref q1])) q3 (.lst (xs++[V.ref q1]))=H4 at u13 ⊢
 have h3:H4 q3=some (.lst (xs++[V.ref q1])):=by rw [←hH4];exact upd_same
 have ht:KdAt K H4 (.ref q1) (.num (1+c / 40%(10:Int) ^ (18:Int).toNat)):=.num (SqT.of (by rw [←hH4];exact(u2.trans u3) _ _ upd_same))
 have hks4:KdsAt K H4 (xs++[V.ref q1]) (ks++[.num (1+c / 40%(10:Int) ^ (18:Int).toNat)]):=(hks.same u13).append (.cons ht .nil)
 have hall:∀k∈ks++[.num (1+c / 40%(10:Int) ^ (18:Int).toNat)],k.leaf=true∧S k:=fun k hk=>by
  rcases List.mem_append.mp hk with h|h
  ·exact hS k h
  ·rw [List.mem_singleton.mp h]
   have a0:=Int.emod_nonneg (c / 40) (Int.ne_of_gt e18)
   have a1:=Int.emod_lt_of_pos (c / 40) e18
   have e:(10:Int) ^ (18:Int).toNat=1000000000000000000:=by decide
   have e':(10:Int) ^ 18=1000000000000000000:=by decide
   refine⟨rfl,hn _ ?_ ?_⟩
   ·omega
   ·rw [e'] ;rw [e] at a1 ⊢;omega
 have hl4:(xs++[V.ref q1]).length=ks.length+1:=by rw [List.length_append,hln];rfl
 have pick:∀d:Int,∃(v:V) (k:Kd),atI (xs++[V.ref q1]) (d%(((xs++[V.ref q1]).length:Nat):Int))=some v∧KdAt K H4 v k∧k.leaf=true∧S k:=fun d=>by
  have p0:0 < (((xs++[V.ref q1]).length:Nat):Int):=by rw [hl4];omega
  obtain⟨v,hv⟩:=at_ex (xs:=xs++[V.ref q1]) (i:=d%(((xs++[V.ref q1]).length:Nat):Int)) (Int.emod_nonneg _ (by omega)) (Int.emod_lt_of_pos _ p0)
  obtain⟨j,_,hj⟩:=Option.bind_eq_some_iff.mp (show((ixN (xs++[V.ref q1]).length (d%(((xs++[V.ref q1]).length:Nat):Int))).bind fun j=>(xs++[V.ref q1])[j]?)=some v from hv)
  obtain⟨k,hk,hat⟩:=hks4.get hj
  exact⟨v,k,hv,hat,hall k (List.mem_of_getElem? hk)⟩
 have p0:(0:Int) < (((xs++[V.ref q1]).length:Nat):Int):=by rw [hl4];omega
 obtain⟨v1,k1,at1,ka1,ks1⟩:=pick (c / 5)
 obtain⟨v2,k2,at2,ka2,ks2⟩:=pick (c / 45)
 refine⟨_,rfl,_,rfl,_,_,rfl,rfl,⟨by decide,by decide⟩,_,rfl,q3,_,rfl,.inl (SqL.of h3),_,_,rfl,rfl,p0,q3,_,_,_,rfl,rfl,SqL.of h3,at1,?_⟩
 refine⟨_,rfl,_,rfl,_,_,rfl,rfl,⟨by decide,by decide⟩,_,rfl,q3,_,rfl,.inl (SqL.of h3),_,_,rfl,rfl,p0,q3,_,_,_,rfl,rfl,SqL.of h3,at2,?_⟩
 refine⟨_,rfl,_,rfl,_,rfl,_,rfl,_,rfl,(by show 3≤sizeLine;decide),fun p4 hp4=>?_⟩
 have w4:=same_new hp4 (.tup [.str "pair",v1,v2])
 refine⟨_,rfl,_,rfl,_,rfl,(by show 3≤sizeLine;decide),fun p5 hp5=>?_⟩
 have w5:=same_new hp5 (.tup [.str "pair",v1,v2])
 refine⟨(by show 3≤sizeLine;decide),fun p6 hp6=>?_⟩
 have w6:=same_new hp6 (.tup [.str "pair",v2,.ref p5])
 refine⟨(by show 5≤sizeLine;decide),fun p7 hp7=>?_⟩
 have w7:=same_new hp7 (.lst [v1,v1,v1,.ref p4,.ref p6])
 have w47:=w4.trans (w5.trans (w6.trans w7))
 have sA:=u13.trans w47
 have five:c%5=0∨c%5=1∨c%5=2∨c%5=3∨c%5=4:=by omega
 have mp:=mix_pair ks1 ks2
 have hp4k:KdAt K (upd (upd (upd (upd H4 p4 (.tup [.str "pair",v1,v2])) p5 (.tup [.str "pair",v1,v2])) p6 (.tup [.str "pair",v2,.ref p5])) p7 (.lst [v1,v1,v1,.ref p4,.ref p6])) (.ref p4) (.pair k1 k2) :=
  .pair (SqT.of ((w5.trans (w6.trans w7)) _ _ upd_same)) (ka1.same w47) (ka2.same w47)
 have hp6k:KdAt K (upd (upd (upd (upd H4 p4 (.tup [.str "pair",v1,v2])) p5 (.tup [.str "pair",v1,v2])) p6 (.tup [.str "pair",v2,.ref p5])) p7 (.lst [v1,v1,v1,.ref p4,.ref p6])) (.ref p6) (.pair k2 (.pair k1 k2)) :=
  .pair (SqT.of (w7 _ _ upd_same)) (ka2.same w47) (.pair (SqT.of ((w6.trans w7) _ _ upd_same)) (ka1.same w47) (ka2.same w47))
 have m3:MixK S (.pair k1 k2):=⟨mp.1,by rw [mp.2.1];decide,Nat.le_trans mp.2.2 (by decide)⟩
 have m4:MixK S (.pair k2 (.pair k1 k2)):=by
  have e:(Kd.pair k2 (.pair k1 k2)).leaves=[k2]++(Kd.pair k1 k2).leaves:=by
   show k2.leaves++_=_
   rw [leaves_of_leaf ks2.1]
  refine⟨fun l hl=>?_,?_,?_⟩
  ·rw [e] at hl
   rcases List.mem_append.mp hl with h|h
   ·rw [List.mem_singleton.mp h]
    exact ks2.2
   ·exact mp.1 l h
  ·rw [e,List.length_append,mp.2.1]
   exact(by decide:1+2≤3)
  ·have:=depth_leaves (Kd.pair k2 (.pair k1 k2))
   rw [e,List.length_append,mp.2.1] at this
   exact this
 have fin:∃v k,atI [v1,v1,v1,V.ref p4,.ref p6] (c%5)=some v∧KdAt K (upd (upd (upd (upd H4 p4 (.tup [.str "pair",v1,v2])) p5 (.tup [.str "pair",v1,v2])) p6 (.tup [.str "pair",v2,.ref p5])) p7 (.lst [v1,v1,v1,.ref p4,.ref p6])) v k∧MixK S k:=by
  rcases five with e|e|e|e|e
  ·exact⟨v1,k1,by rw [e];rfl,ka1.same w47,mix_leaf ks1⟩
  ·exact⟨v1,k1,by rw [e];rfl,ka1.same w47,mix_leaf ks1⟩
  ·exact⟨v1,k1,by rw [e];rfl,ka1.same w47,mix_leaf ks1⟩
  ·exact⟨_,_,by rw [e];rfl,hp4k,m3⟩
  ·exact⟨_,_,by rw [e];rfl,hp6k,m4⟩
 obtain⟨v,k,hv,hk,hm⟩:=fin
 exact⟨_,rfl,_,_,rfl,rfl,(by show(0:Int) < 5;decide),p7,_,_,_,rfl,rfl,SqL.of upd_same,hv,q _ v k sA hk hm⟩
end
abbrev plP:List Str:=["_law_kind","_law_given"]
section
variable{P:Program}{w:World}{K:PySem.W.Frag}{mg:Str→Option Value}{base:Heap}
theorem scPutL:FnScope plP plP (defScope sPutL):=⟨rfl,rfl,rfl,by decide +kernel,rfl,by decide +kernel,by decide +kernel⟩
set_option maxHeartbeats 0 in
theorem ok_putL{f:Addr}{fd:FuncData} (F:Fun K "_law_put" "_law_put" sPutL f fd) (bP:Binds K fd plP []) (kP:PySem.W.keepIn K (.ref f)=true) (mP:mg "_law_put"=some (.ref f)) :
  ∀n,FnOk P w K mg base CX0 n f fd plP (spPut K n)
 |0=>⟨fun vs H Q E h=>by obtain⟨x,g,k,kvs,G,rfl,_⟩:=h;rfl,fun A outer s H args us vs Q E _ _ _ _ h=>by
   obtain⟨x,g,k,kvs,G,_,_,hd,_⟩:=h
   have:=depth_pos k
   omega⟩
 |n+1=>by
  have IH:=ok_putL F bP kP mP n
  refine F.ok scPutL (fun vs H Q E h=>?_) (fun cdv A outer s H vs Q E hr h=>?_)
  ·obtain⟨x,g,k,kvs,G,rfl,_⟩:=h
   rfl
  obtain⟨x,g,k,kvs,G,rfl,hk,hd,hg,hG,q⟩:=h
  have hu:=hu_of hr
  refine⟨_,pss_cons (ps_if (pt_cmpR op_eq (pe_ix ix_tup (pv 0) pe_int (fun _ _=>rfl)) pe_str (nomark _))
    (pss_one (ps_ret (pe_tup (pa_cons pe_str (pa_cons (pe_call IH hr rfl mP kP bP .nil pass0 (pa_cons (pe_ix ix_tup (pv 0) pe_int (fun _ _=>rfl)) (pa_cons (pv 1) pa_nil)))
     (pa_cons (pe_call IH hr rfl mP kP bP .nil pass0 (pa_cons (pe_ix ix_tup (pv 0) pe_int (fun _ _=>rfl)) (pa_cons (pv 1) pa_nil))) pa_nil)))))) pss_nil)
   (pss_cons (ps_if (PW.pt (pw_and (pt_cmpR op_eq (pe_ix ix_tup (pv 0) pe_int (fun _ _=>rfl)) pe_str (nomark _)) (pw_and1 (pt_cmp (pc_din hu (pe_tup (pa_cons (pe_ix ix_tup (pv 0) pe_int (fun _ _=>rfl)) (pa_cons (pe_ix ix_tup (pv 0) pe_int (fun _ _=>rfl)) pa_nil))) (pv 1)) (by with_unfolding_all rfl)))))
    (pss_one (ps_ret (pe_dget hu (pv 1) (pe_tup (pa_cons (pe_ix ix_tup (pv 0) pe_int (fun _ _=>rfl)) (pa_cons (pe_ix ix_tup (pv 0) pe_int (fun _ _=>rfl)) pa_nil))) (fun _ _=>rfl)))) pss_nil)
   (pss_one (ps_ret (pv 0)))),?_⟩
  cases hk with
  |@num p m t =>
   refine⟨_,rfl,_,_,_,_,rfl,rfl,t,(show atI [V.str "num",.int m] 0=some (.str "num") from rfl),rfl,_,rfl,ite2 (fun c=>absurd c (by decide +kernel)) (fun _=>?_)⟩
   refine⟨_,rfl,_,_,_,_,rfl,rfl,t,(show atI [V.str "num",.int m] 0=some (.str "num") from rfl),rfl,_,rfl,ite2 (fun c=>absurd c (by decide +kernel)) (fun _=>iteF ?_)⟩
   exact⟨_,rfl,q _ _ (Same.refl _) (.num t)⟩
  |@name p a b t =>
   refine⟨_,rfl,_,_,_,_,rfl,rfl,t,(show atI [V.str "name",.str a,.str b] 0=some (.str "name") from rfl),rfl,_,rfl,ite2 (fun c=>absurd c (by decide +kernel)) (fun _=>?_)⟩
   refine⟨_,rfl,_,_,_,_,rfl,rfl,t,(show atI [V.str "name",.str a,.str b] 0=some (.str "name") from rfl),rfl,_,rfl,ite2 (fun _=>?_) (fun c=>absurd (by decide +kernel) c)⟩
   refine⟨_,rfl,_,_,_,_,rfl,rfl,t,(show atI [V.str "name",.str a,.str b] 1=some (.str a) from rfl),_,rfl,_,_,_,_,rfl,rfl,t,(show atI [V.str "name",.str a,.str b] 2=some (.str b) from rfl),(by show 2≤sizeLine;decide),fun y hy=>?_⟩
   have sy:=same_new hy (.tup [.str a,.str b])
   refine⟨_,rfl,g,_,rfl,DGet.t (k:=keyN (a,b)) (sy _ _ hg) upd_same,_,rfl,?_⟩
   rcases hG (a,b) with ⟨h1,h2⟩|⟨v,k',h1,h2,h3⟩
   ·rw [h1]
    refine iteF ⟨_,rfl,q _ _ sy ?_⟩
    show KdAt K _ _ ((G (a,b)).getD (.name a b))
    rw [h2]
    exact .name (sy.tup t)
   ·rw [h1]
    refine iteT ⟨_,rfl,_,rfl,_,_,_,_,rfl,rfl,sy.tup t,(show atI [V.str "name",.str a,.str b] 1=some (.str a) from rfl),_,rfl,_,_,_,_,rfl,rfl,sy.tup t,(show atI [V.str "name",.str a,.str b] 2=some (.str b) from rfl),(by show 2≤sizeLine;decide),fun y2 hy2=>?_⟩
    have sy2:=same_new hy2 (.tup [.str a,.str b])
    refine⟨g,v,rfl,h1▸DGet.t (k:=keyN (a,b)) (sy2 _ _ (sy _ _ hg)) upd_same,q _ _ (sy.trans sy2) ?_⟩
    show KdAt K _ _ ((G (a,b)).getD (.name a b))
    rw [h2]
    exact h3.same (sy.trans sy2)
  |@pair p y z a b t ha hb =>
   have hd':1+max (Kd.depth a) (Kd.depth b)≤n+1:=hd
   refine⟨_,rfl,_,_,_,_,rfl,rfl,t,(show atI [V.str "pair",y,z] 0=some (.str "pair") from rfl),rfl,_,rfl,ite2 (fun _=>?_) (fun c=>absurd (by decide +kernel) c)⟩
   refine⟨_,rfl,_,_,_,_,rfl,rfl,t,(show atI [V.str "pair",y,z] 1=some y from rfl),_,rfl,y,g,a,kvs,G,rfl,ha,by omega,hg,hG,fun H1 v1 s1 k1=>?_⟩
   refine⟨_,rfl,_,_,_,_,rfl,rfl,s1.tup t,(show atI [V.str "pair",y,z] 2=some z from rfl),_,rfl,z,g,b,kvs,G,rfl,hb.same s1,by omega,s1 _ _ hg,hG.same s1,fun H2 v2 s2 k2=>?_⟩
   refine⟨(by show 3≤sizeLine;decide),fun c hc=>q _ _ (same_trans (same_trans s1 s2) (same_new hc _)) ?_⟩
   exact .pair (SqT.of upd_same) ((k1.same s2).same (same_new hc _)) (k2.same (same_new hc _))
end
end K42
namespace K42
open PySem L2 Kk
def AlD:Nat→PyData→Prop
 |0,_=>False
 |_+1,.none=>True
 |_+1,.int _=>True
 |_+1,.str _=>True
 |n+1,.tuple ds=>ds.length≤100∧∀d∈ds,AlD n d
 |_+1,_=>False
theorem AlD.le:∀{n m:Nat} {d:PyData},AlD n d→n≤m→AlD m d
 |0,_,_,h,_=>h.elim
 |_+1,0,_,_,h=>by omega
 |_+1,_+1,.none,_,_=>trivial
 |_+1,_+1,.int _,_,_=>trivial
 |_+1,_+1,.str _,_,_=>trivial
 |_+1,_+1,.tuple ds,h,hl=>⟨h.1,fun d hd=>AlD.le (h.2 d hd) (by omega)⟩
 |_+1,_+1,.bool _,h,_=>h.elim
 |_+1,_+1,.dict _,h,_=>h.elim
 |_+1,_+1,.list _,h,_=>h.elim
theorem dats_get{K:PySem.W.Frag}{H:Hp}:∀{xs:List V} {ds:List PyData} {i:Nat} {x:V} {d:PyData},Dats K H xs ds→xs[i]?=some x→ds[i]?=some d→Dat K H x d
 |_,_,_,_,_,.nil,e,_=>by simp at e
 |_,_,0,_,_,.cons a _,e,f=>by
  obtain rfl:=Option.some.inj e
  obtain rfl:=Option.some.inj f
  exact a
 |_,_,i+1,_,_,.cons _ b,e,f=>dats_get (i:=i) b e f
theorem dats_len{K:PySem.W.Frag}{H:Hp}:∀{xs:List V} {ds:List PyData},Dats K H xs ds→xs.length=ds.length
 |_,_,.nil=>rfl
 |_,_,.cons _ b=>congrArg (·+1) (dats_len b)
def spAlike(K:PySem.W.Frag)(n:Nat):Sp:=fun vs H Q _=>∃(x y:V) (d:PyData),vs=[x,y]∧Dat K H x d∧Dat K H y d∧AlD n d∧∀H',Same H H'→Q (.bl true) H'
theorem two_of{α:Type}{a b:α}{p:α→Prop}(ha:p a)(hb:p b):∀y∈[a,b],p y:=fun y hy=>by
 simp only [List.mem_cons,List.not_mem_nil,or_false] at hy
 rcases hy with rfl|rfl
 ·exact ha
 ·exact hb
theorem all_true(n:Nat):(List.replicate n true).all id=true:=by
 rw [List.all_eq_true]
 intro x hx
 exact(List.mem_replicate.mp hx).2
theorem kit_ss(K:PySem.W.Frag):PySem.W.kitOne K (.type "str") (.type "str")=some true:=rfl
theorem kit_si(K:PySem.W.Frag):PySem.W.kitOne K (.type "str") (.type "int")=some false:=rfl
theorem bootBoolT:bootBuiltins "bool"=some (.type "bool"):=by decide +kernel
section
variable{P:Program}{w:World}{K:PySem.W.Frag}{mg:Str→Option Value}{base:Heap}
abbrev alN:List Str:=["_law_found","_law_due"]
theorem scAlike:FnScope alN alN (defScope sAlike):=⟨rfl,rfl,rfl,by decide +kernel,rfl,by decide +kernel,by decide +kernel⟩
set_option maxHeartbeats 0 in
theorem ok_alike{f:Addr}{fd:FuncData} (F:Fun K "_law_alike" "_law_alike" sAlike f fd) (bA:Binds K fd alN []) (kA:PySem.W.keepIn K (.ref f)=true) (mA:mg "_law_alike"=some (.ref f))
  (mi:mg "isinstance"=none) (ms:mg "str"=none) (mt:mg "tuple"=none) (mI:mg "int"=none) (mb:mg "bool"=none) (ml:mg "len"=none) (mr:mg "range"=none) (ma:mg "all"=none) :
  ∀n,FnOk P w K mg base CX0 n f fd alN (spAlike K n)
 |0=>⟨fun vs H Q E h=>by obtain⟨x,y,d,rfl,_⟩:=h;rfl,fun A outer s H args us vs Q E _ _ _ _ h=>by
   obtain⟨x,y,d,_,_,_,h,_⟩:=h
   exact h.elim⟩
 |n+1=>by
  have IH:=ok_alike F bA kA mA mi ms mt mI mb ml mr ma n
  refine F.ok scAlike (fun vs H Q E h=>?_) (fun cdv A outer s H vs Q E hr h=>?_)
  ·obtain⟨x,y,d,rfl,_⟩:=h
   rfl
  obtain⟨x,y,d,rfl,hx,hy,hal,q⟩:=h
  refine⟨_,pss_cons (ps_if (pt_cmpR op_isN (pv 1) pe_non (nomark _)) (pss_one (ps_ret (pe_cmpR op_isN (pv 0) pe_non (nomark _)))) pss_nil)
   (pss_cons (ps_if (L2.pt_val (pe_callB call_isiTA rfl mi bootIsi (pa_cons (pv 1) (pa_cons (pe_bltn rfl mt bootTuple (v:=.ty "tuple") rfl) pa_nil))))
    (pss_cons (ps_if (PW.pt (pw_or (pt_not (L2.pt_val (pe_callB call_isiTA rfl mi bootIsi (pa_cons (pv 0) (pa_cons (pe_bltn rfl mt bootTuple (v:=.ty "tuple") rfl) pa_nil))))) (pw_or1 (pt_cmpR op_ne (pe_callB call_len_seq rfl ml PySem.boot_len (pa_cons (pv 0) pa_nil)) (pe_callB call_len_seq rfl ml PySem.boot_len (pa_cons (pv 1) pa_nil)) (nomark _))))) (pss_one (ps_ret pe_bl)) pss_nil)
    (pss_one (ps_ret (pe_callB (call_allB rfl) rfl ma bootAll (pa_cons (pe_comp (own:=["_law_k"]) (caps:=["_law_found","_law_due"]) (κ:=[0,1]) rfl ⟨rfl,by decide +kernel,by decide +kernel,rfl,rfl,(two_of rfl rfl),(two_of ⟨.inl rfl,rfl,.inl rfl⟩ ⟨.inl rfl,rfl,.inl rfl⟩)⟩ rfl
     (pi_range1 rfl mr (pa_cons (pe_callB call_len_seq rfl ml PySem.boot_len (pa_cons (pv 1) pa_nil)) pa_nil)) (fun _ _ _ _=>pg_name (i:=0) (show(["_law_k","_law_found","_law_due"]:List Str).Nodup from by decide +kernel) rfl (Or.inl rfl))
     (fun _ _ _ _=>pe_call IH hr rfl mA kA bA .nil pass0 (pa_cons (pe_ix (r:=rIxT K) ix_tup (pv 1) (pv 0) (fun _ _=>rfl)) (pa_cons (pe_ix (r:=rIxT K) ix_tup (pv 2) (pv 0) (fun _ _=>rfl)) pa_nil)))) pa_nil))))) pss_nil)
   (pss_cons (ps_if (L2.pt_val (pe_callB call_isi rfl mi bootIsi (pa_cons (pv 1) (pa_cons (pe_bltn rfl mI bootInt (v:=.ty "int") rfl) pa_nil))))
    (pss_one (ps_ret (pe_and (pe_callB call_isi rfl mi bootIsi (pa_cons (pv 0) (pa_cons (pe_bltn rfl mI bootInt (v:=.ty "int") rfl) pa_nil))) (pe_and (pe_not (pe_callB call_isi rfl mi bootIsi (pa_cons (pv 0) (pa_cons (pe_bltn rfl mb bootBoolT (v:=.ty "bool") rfl) pa_nil)))) (pe_one (pe_cmpR op_eq (pv 0) (pv 1) (nomark _))))))) pss_nil)
   (pss_one (ps_ret (pe_and (pe_callB call_isi rfl mi bootIsi (pa_cons (pv 0) (pa_cons (pe_bltn rfl ms bootStr (v:=.ty "str") rfl) pa_nil))) (pe_one (pe_cmpR op_eq (pv 0) (pv 1) (nomark _)))))))),?_⟩
  cases hy with
  |bl b=>exact hal.elim
  |lst _ _=>exact hal.elim
  |str s0 =>
   cases hx
   refine⟨_,rfl,rfl,_,rfl,ite2 (fun c=>absurd (of_decide_eq_true c) (by intro h;cases h)) (fun _=>?_)⟩
   refine⟨_,rfl,.str s0,rfl,.inl ⟨s0,rfl,false,rfl,iteF ?_⟩⟩
   refine⟨_,rfl,.str s0,"int",_,false,rfl,.str s0,kit_si K,false,rfl,iteF ?_⟩
   refine⟨_,rfl,.str s0,"str",_,true,rfl,.str s0,kit_ss K,true,rfl,iteT ⟨_,rfl,_,rfl,rfl,?_⟩⟩
   show Q (.bl (decide (V.str s0=V.str s0))) H
   rw [decide_eq_true rfl]
   exact q _ (Same.refl _)
  |non =>
   cases hx
   exact⟨_,rfl,rfl,_,rfl,iteT ⟨_,rfl,rfl,q _ (Same.refl _)⟩⟩
  |int i0 =>
   cases hx
   refine⟨_,rfl,rfl,_,rfl,ite2 (fun c=>absurd (of_decide_eq_true c) (by intro h;cases h)) (fun _=>?_)⟩
   refine⟨_,rfl,.int i0,rfl,.inr (.inl ⟨i0,rfl,false,rfl,iteF ?_⟩)⟩
   refine⟨_,rfl,.int i0,"int",_,true,rfl,.int i0,kit_ii K,true,rfl,iteT ?_⟩
   refine⟨_,rfl,.int i0,"int",_,true,rfl,.int i0,kit_ii K,true,rfl,iteT ?_⟩
   refine⟨_,rfl,.int i0,"bool",_,false,rfl,.int i0,kit_ib K,false,rfl,true,rfl,iteT ⟨_,rfl,_,rfl,rfl,?_⟩⟩
   show Q (.bl (decide (V.int i0=V.int i0))) H
   rw [decide_eq_true rfl]
   exact q _ (Same.refl _)
  |@tup b ys ds hb hys =>
   obtain⟨a,xs,rfl,ha,hxs⟩:∃a xs,x=.ref a∧SqT K H a xs∧Dats K H xs ds:=by
    cases hx with
    |tup h1 h2=>exact⟨_,_,rfl,h1,h2⟩
   obtain⟨h10,hall⟩:=hal
   have hxl:=dats_len hxs
   have hyl:=dats_len hys
   have hl:xs.length=ys.length:=by omega
   refine⟨_,rfl,rfl,_,rfl,ite2 (fun c=>absurd (of_decide_eq_true c) (by intro h;cases h)) (fun _=>?_)⟩
   refine⟨_,rfl,.ref b,rfl,.inr (.inr ⟨b,_,rfl,hb,true,rfl,iteT ?_⟩)⟩
   refine⟨_,rfl,.ref a,rfl,.inr (.inr ⟨a,_,rfl,ha,true,rfl,iteF ⟨_,rfl,a,_,rfl,.inr ha,_,rfl,b,_,rfl,.inr hb,rfl,_,rfl,ite2 (fun c=>?_) (fun _=>?_)⟩⟩)⟩
   ·have c':(!decide (V.int (xs.length:Int)=V.int (ys.length:Int)))=true:=c
    rw [hl,decide_eq_true rfl] at c'
    exact absurd c' (by decide)
   refine⟨_,rfl,b,_,rfl,.inr hb,_,rfl,by omega,by omega,?_⟩
   refine comp_by (J:=Itr 0 ((ys.length:Nat):Int).toNat) (xs:=rangeV 0 ((ys.length:Nat):Int).toNat) (fun i zs H3=>i≤((ys.length:Nat):Int).toNat∧Same H H3∧zs=(List.replicate i true).map V.bl) ⟨Nat.zero_le _,Same.refl _,rfl⟩ (by rw [rangeV_len];exact small (by omega)) ?_ ?_ ?_ ?_ ?_ ?_
   ·rintro i zs H3 ⟨hi,_,rfl⟩
    rw [List.length_map,List.length_replicate]
    exact Nat.le_refl _
   ·rintro i x zs H3 hx _
    exact itr_go hx
   ·rintro i zs x H3 H' hi _ hy
    rw [rangeV_len] at hi
    exact itr_yld' hi hy
   ·rintro zs H3 _
    rw [rangeV_len]
    exact Nat.le_refl _
   ·rintro i x zs H3 N hN hx ⟨hi,s3,rfl⟩
    obtain⟨hi9,rfl⟩:=rangeV_get.mp hx
    rw [Int.toNat_natCast] at hi9
    obtain⟨vy,hvy⟩:∃v,ys[i]?=some v:=⟨_,List.getElem?_eq_getElem hi9⟩
    obtain⟨vx,hvx⟩:∃v,xs[i]?=some v:=⟨_,List.getElem?_eq_getElem (by omega)⟩
    obtain⟨d0,hd0⟩:∃v,ds[i]?=some v:=⟨_,List.getElem?_eq_getElem (by omega)⟩
    have ax:atI xs (0+(i:Int))=some vx:=by rw [Int.zero_add];exact atI_nat hvx
    have ay:atI ys (0+(i:Int))=some vy:=by rw [Int.zero_add];exact atI_nat hvy
    refine⟨rfl,tYes_go ⟨_,rfl,_,rfl,a,_,_,_,rfl,rfl,s3.tup ha,ax,_,rfl,_,rfl,b,_,_,_,rfl,rfl,s3.tup hb,ay,vx,vy,d0,rfl,(dats_get hxs hvx hd0).same s3,(dats_get hys hvy hd0).same s3,hall d0 (List.mem_of_getElem? hd0),fun H4 s4=>hN _ _ ⟨by rw [Int.toNat_natCast];omega,s3.trans s4,?_⟩⟩⟩
    rw [List.replicate_succ',List.map_append]
    rfl
   ·rintro zs H3 D ⟨hi,s3,rfl⟩ hD
    refine⟨D,List.replicate _ true,rfl,SqL.of upd_same,?_⟩
    rw [all_true]
    exact q _ (s3.trans (same_new hD _))
end
end K42
namespace L2
open PySem
theorem comp_l{K:PySem.W.Frag}{l:Addr}{xs:List V}{n:Nat}{κ:List Nat}{g:TG}{tc:TT}{te:TE}{σ:St}{H:Hp}{Q:VK}(hl:SqL K H l xs)(hz:xs.length≤1000)(R:Nat→List V→Hp→Prop)(h0:R 0 [] H)(hlen:∀i ys H2,R i ys H2→ys.length≤i)
  (hs:∀i x ys H2 (N:List V→Hp→Prop),(∀ys' H',Same H H'→R (i+1) ys' H'→N ys' H')→xs[i]?=some x→Same H H2→R i ys H2→g x (blkSt n κ σ) H2 fun σ4 H4=>σ4.drop n=(blkSt n κ σ).drop n∧tc σ4 H4 fun b H5=>if b=true then te σ4 H5 fun v H6=>N (ys++[v]) H6 else N ys H5)
  (hQ:∀ys H2 D,Same H H2→R xs.length ys H2→H2 D=none→Q (.ref D) (upd H2 D (.lst ys))):CompRun n κ g tc te σ (Itl K l) H Q:=by
 have sq:∀{H2:Hp},Same H H2→SqL K H2 l xs:=fun e=>by
  rcases hl with (h|⟨o,h⟩)|h
  ·exact .inl (.inl (e _ _ h))
  ·exact .inl (.inr ⟨o,e _ _ h⟩)
  ·exact .inr h
 refine comp_by (J:=Itl K l) (xs:=xs) (fun i ys H3=>Same H H3∧R i ys H3) ⟨Same.refl _,h0⟩ (Nat.le_of_lt (small1000 hz)) ?_ ?_ ?_ ?_ ?_ ?_
 ·rintro i ys H3 ⟨_,h⟩
  exact hlen i ys H3 h
 ·rintro i u ys H3 hu ⟨s3,_⟩
  exact⟨_,_,sq s3,hu⟩
 ·rintro i ys u H3 H' hn ⟨s3,_⟩ hy
  exact⟨hy.1,hy.2 _ (sq s3)⟩
 ·rintro ys H3 ⟨s3,_⟩
  exact⟨_,sq s3,Nat.le_refl _⟩
 ·rintro i u ys H3 N hN hu ⟨s3,h⟩
  exact hs i u ys H3 N (fun ys' H' a b=>hN ys' H' ⟨a,b⟩) hu s3 h
 ·rintro ys H3 D ⟨s3,h⟩ hD
  exact hQ ys H3 D s3 h hD
theorem comp_t{K:PySem.W.Frag}{l:Addr}{xs:List V}{n:Nat}{κ:List Nat}{g:TG}{tc:TT}{te:TE}{σ:St}{H:Hp}{Q:VK}(hl:SqT K H l xs)(hz:xs.length≤1000)(R:Nat→List V→Hp→Prop)(h0:R 0 [] H)(hlen:∀i ys H2,R i ys H2→ys.length≤i)
  (hs:∀i x ys H2 (N:List V→Hp→Prop),(∀ys' H',Same H H'→R (i+1) ys' H'→N ys' H')→xs[i]?=some x→Same H H2→R i ys H2→g x (blkSt n κ σ) H2 fun σ4 H4=>σ4.drop n=(blkSt n κ σ).drop n∧tc σ4 H4 fun b H5=>if b=true then te σ4 H5 fun v H6=>N (ys++[v]) H6 else N ys H5)
  (hQ:∀ys H2 D,Same H H2→R xs.length ys H2→H2 D=none→Q (.ref D) (upd H2 D (.lst ys))):CompRun n κ g tc te σ (Itt K l) H Q:=by
 refine comp_by (J:=Itt K l) (xs:=xs) (fun i ys H3=>Same H H3∧R i ys H3) ⟨Same.refl _,h0⟩ (Nat.le_of_lt (small1000 hz)) ?_ ?_ ?_ ?_ ?_ ?_
 ·rintro i ys H3 ⟨_,h⟩
  exact hlen i ys H3 h
 ·rintro i u ys H3 hu ⟨s3,_⟩
  exact⟨_,_,s3.tup hl,hu⟩
 ·rintro i ys u H3 H' hn ⟨s3,_⟩ hy
  exact⟨hy.1,hy.2 _ (s3.tup hl)⟩
 ·rintro ys H3 ⟨s3,_⟩
  exact⟨_,s3.tup hl,Nat.le_refl _⟩
 ·rintro i u ys H3 N hN hu ⟨s3,h⟩
  exact hs i u ys H3 N (fun ys' H' a b=>hN ys' H' ⟨a,b⟩) hu s3 h
 ·rintro ys H3 D ⟨s3,h⟩ hD
  exact hQ ys H3 D s3 h hD
end L2
namespace K42
open PySem L2 Kk
theorem one_of{α:Type}{a:α}{p:α→Prop}(ha:p a):∀y∈[a],p y:=fun y hy=>by
 rw [List.mem_singleton.mp hy]
 exact ha
def PrAt(K:PySem.W.Frag)(H:Hp)(v:V)(q:Str × Kd):Prop:=∃(p:Addr) (y:V),v=.ref p∧H p=some (.tup [.str q.1,y])∧KdAt K H y q.2
def FrAt(K:PySem.W.Frag)(H:Hp)(v:V)(q:Str × (List Kd × Kd)):Prop:=∃(p:Addr) (y:V),v=.ref p∧H p=some (.tup [.str q.1,y])∧FunAt K H y q.2
theorem PrAt.same{K:PySem.W.Frag}{H H':Hp}{v:V}{q:Str × Kd}(e:Same H H')(h:PrAt K H v q):PrAt K H' v q:=by
 obtain⟨p,y,a,b,c⟩:=h
 exact⟨p,y,a,e _ _ b,c.same e⟩
theorem FrAt.same{K:PySem.W.Frag}{H H':Hp}{v:V}{q:Str × (List Kd × Kd)}(e:Same H H')(h:FrAt K H v q):FrAt K H' v q:=by
 obtain⟨p,y,a,b,c⟩:=h
 exact⟨p,y,a,e _ _ b,c.keep fun _ _ t=>e.tup t⟩
def RkAt(K:PySem.W.Frag)(H:Hp)(l:Addr)(m:List (Str × Kd)):Prop:=∃xs,H l=some (.lst xs)∧Paired (PrAt K H) xs m
def RfAt(K:PySem.W.Frag)(H:Hp)(l:Addr)(m:List (Str × (List Kd × Kd))):Prop:=∃xs,H l=some (.lst xs)∧Paired (FrAt K H) xs m
theorem RkAt.same{K:PySem.W.Frag}{H H':Hp}{l:Addr}{m:List (Str × Kd)}(e:Same H H')(h:RkAt K H l m):RkAt K H' l m:=by
 obtain⟨xs,a,b⟩:=h
 exact⟨xs,e _ _ a,Paired.mapP b fun _ _ z=>z.same e⟩
theorem RfAt.same{K:PySem.W.Frag}{H H':Hp}{l:Addr}{m:List (Str × (List Kd × Kd))}(e:Same H H')(h:RfAt K H l m):RfAt K H' l m:=by
 obtain⟨xs,a,b⟩:=h
 exact⟨xs,e _ _ a,Paired.mapP b fun _ _ z=>z.same e⟩
def LfAt(K:PySem.W.Frag)(H:Hp)(p:Addr)(m1:List (Str × Kd))(m2:List (Str × (List Kd × Kd))):Prop:=∃l1 l2,H p=some (.tup [.ref l1,.ref l2])∧RkAt K H l1 m1∧RfAt K H l2 m2
theorem LfAt.same{K:PySem.W.Frag}{H H':Hp}{p:Addr}{m1:List (Str × Kd)}{m2:List (Str × (List Kd × Kd))}(e:Same H H')(h:LfAt K H p m1 m2):LfAt K H' p m1 m2:=by
 obtain⟨l1,l2,a,b,c⟩:=h
 exact⟨l1,l2,e _ _ a,b.same e,c.same e⟩
def spHiddenL(K:PySem.W.Frag):Sp:=fun vs H Q _=>∃(l:Addr) (m1:List (Str × Kd)),vs=[.ref l]∧RkAt K H l m1∧m1.length≤100∧(∀q∈m1,okW q.1∧Kd.ok q.2∧Kd.depth q.2≤60) ∧
 ∀H' (a:Addr),Same H H'→H a=none→H' a=some (.lst ((hidL m1).map V.str))→Q (.ref a) H'
theorem hid_snoc{m1:List (Str × Kd)}{i:Nat}{z:Str}{k:Kd}(hq:m1[i]?=some (z,k)):hidL (m1.take (i+1))=hidL (m1.take i)++(if hidB (z,k)=true then [z] else []):=by
 rw [List.take_add_one,hq]
 unfold hidL
 rw [List.filter_append,List.map_append]
 congr 1
 show((([(z,k)]:List (Str × Kd)).filter hidB).map (·.1))=_
 rw [List.filter_cons]
 by_cases c:hidB (z,k)=true
 ·rw [if_pos c,if_pos c];rfl
 ·rw [if_neg c,if_neg c];rfl
section
variable{P:Program}{w:World}{K:PySem.W.Frag}{mg:Str→Option Value}{base:Heap}
theorem scHiddenL:FnScope ["_law_kinds"] ["_law_kinds"] (defScope sHiddenL):=⟨rfl,rfl,rfl,by decide +kernel,rfl,by decide +kernel,by decide +kernel⟩
set_option maxHeartbeats 0 in
theorem ok_hiddenL{f:Addr}{fd:FuncData} (F:Fun K "_law_hidden" "_law_hidden" sHiddenL f fd):FnOk P w K mg base CX0 1 f fd ["_law_kinds"] (spHiddenL K):=by
 refine F.ok scHiddenL (fun vs H Q E h=>?_) (fun cdv A outer s H vs Q E hr h=>?_)
 ·obtain⟨l,m1,rfl,_⟩:=h
  rfl
 obtain⟨l,m1,rfl,⟨xs,hl,hxs⟩,h100,hok,q⟩:=h
 have hu:=hr.units
 refine⟨_,pss_one (ps_ret (pe_comp_if (own:=["_law_word_here","_law_kind"]) (caps:=[]) (κ:=[]) (cl:=[]) rfl ⟨rfl,by decide +kernel,by decide +kernel,rfl,rfl,(fun y hy=>nomatch hy),(fun y hy=>nomatch hy)⟩ rfl
  (pi_list (pv 0)) (fun _ _ _ _=>pg_two (K:=K) (i:=0) (j:=1) rfl rfl (show(["_law_word_here","_law_kind"]:List Str).Nodup from by decide +kernel) rfl (Or.inl rfl) (Or.inr rfl) rfl (Or.inl rfl) (Or.inr rfl))
  (fun _ _ _ _=>pt_cmpR (eqK (K:=K) rfl hu) (pv 1) (pe_tup (pa_cons pe_str (pa_cons pe_str (pa_cons (pv 0) pa_nil)))) (nomark _)) (fun _ _ _ _=>pv 0))),?_⟩
 have hlen:xs.length=m1.length:=Paired.length hxs
 refine⟨_,rfl,l,rfl,⟨_,SqL.of hl⟩,?_⟩
 refine comp_l (SqL.of hl) (by omega) (fun i ys H3=>ys=(hidL (m1.take i)).map V.str∧ys.length≤i) ⟨rfl,Nat.le_refl _⟩ (fun _ _ _ h=>h.2) ?_ ?_
 ·rintro i x ys H3 N hN hx s3 ⟨rfl,hys⟩
  obtain⟨⟨z,k⟩,hq,p,y,rfl,hp,hy⟩:=pair_get hxs hx
  replace hp:H p=some (.tup [.str z,y]):=hp
  replace hy:KdAt K H y k:=hy
  obtain⟨oz,ok,od⟩:=hok (z,k) (List.mem_of_getElem? hq)
  have eT:=hid_snoc hq
  refine⟨p,_,rfl,SqT.of (s3 _ _ hp),rfl,_,_,rfl,_,_,rfl,rfl,rfl,?_⟩
  refine⟨_,rfl,_,rfl,(by show 3≤sizeLine;decide),fun p2 hp2=>?_⟩
  have s4:=same_new hp2 (.tup [.str "name",.str "",.str z])
  refine⟨_,_,kd_dat (hy.same (s3.trans s4)),kd_dat (.name (SqT.of upd_same)),kd_shaped ok od,kd_shaped ⟨ok_empty,oz⟩ (by show 1≤60;decide),_,rfl,?_⟩
  have eb:PyData.eqv (Kd.dat k) (Kd.dat (ownK z))=hidB (z,k):=eqv_dat _ _
  refine ite2 (fun c=>?_) (fun c=>?_)
  ·have c':hidB (z,k)=true:=by rw [←eb];exact c
   rw [if_pos c'] at eT
   refine⟨_,rfl,hN _ _ (s3.trans s4) ⟨?_,?_⟩⟩
   ·rw [eT,List.map_append];rfl
   ·rw [List.length_append];show _+1≤_;omega
  ·have c':¬hidB (z,k)=true:=by rw [←eb];exact c
   rw [if_neg c',List.append_nil] at eT
   exact hN _ _ (s3.trans s4) ⟨by rw [eT],by omega⟩
 ·rintro ys H3 D s3 ⟨rfl,_⟩ hD
  refine q _ D (s3.trans (same_new hD _)) (s3.free hD) ?_
  rw [upd_same,hlen,List.take_length]
end
abbrev paN:List Str:=["_law_face_here","_law_given","_law_kinds","_law_funs","_law_fun","_law_row"]
abbrev paP:List Str:=["_law_face_here","_law_given"]
def spPutAll(K:PySem.W.Frag)(n:Nat):Sp:=fun vs H Q _=>∃(fa g:Addr) (m1:List (Str × Kd)) (m2:List (Str × (List Kd × Kd))) (kvs:List (List Key × V)) (G:Str × Str→Option Kd),vs=[.ref fa,.ref g]∧LfAt K H fa m1 m2∧m1.length≤100∧m2.length≤100 ∧
 (∀q∈m1,Kd.depth q.2≤n)∧(∀q∈m2,(∀k∈q.2.1,Kd.depth k≤n)∧Kd.depth q.2.2≤n∧q.2.1.length≤100)∧H g=some (.dT kvs)∧GvAt K H kvs G ∧
 ∀H' (x:Addr),Same H H'→LfAt K H' x (m1.map (putP G)) (m2.map (putQ G))→Q (.ref x) H'
section
variable{P:Program}{w:World}{K:PySem.W.Frag}{mg:Str→Option Value}{base:Heap}
theorem scPutAll:FnScope paN paP (defScope sPutAll):=⟨rfl,rfl,rfl,by decide +kernel,rfl,by decide +kernel,by decide +kernel⟩
set_option maxHeartbeats 0 in
theorem ok_putAll{n:Nat}{f fp:Addr}{fd fdp:FuncData} (F:Fun K "_law_put_all" "_law_put_all" sPutAll f fd) (GP:FnOk P w K mg base CX0 n fp fdp plP (spPut K n)) (bP:Binds K fdp plP []) (kP:PySem.W.keepIn K (.ref fp)=true) (mP:mg "_law_put"=some (.ref fp)) (mt:mg "tuple"=none):FnOk P w K mg base CX0 (n+1) f fd paP (spPutAll K n):=by
 refine F.ok scPutAll (fun vs H Q E h=>?_) (fun cdv A outer s H vs Q E hr h=>?_)
 ·obtain⟨fa,g,m1,m2,kvs,G,rfl,_⟩:=h
  rfl
 obtain⟨fa,g,m1,m2,kvs,G,rfl,⟨l1,l2,hfa,⟨xs,hl1,hxs⟩,⟨ys,hl2,hys⟩⟩,c1,c2,dp1,dp2,hg,hG,q⟩:=h
 have hu:=hr.units
 refine⟨_,pss_cons (ps_comp (i0:=2) (own:=["_law_word_here","_law_kind"]) (caps:=["_law_given"]) (κ:=[1]) scPutAll.nd rfl (Or.inl rfl) rfl ⟨rfl,by decide +kernel,by decide +kernel,rfl,rfl,one_of rfl,one_of ⟨.inl rfl,rfl,.inl rfl⟩⟩ rfl
   (pi_list (pe_ix ix_tup (pv 0) pe_int (fun _ _=>rfl))) (fun _ _ _ _=>pg_two (K:=K) (i:=0) (j:=1) rfl rfl (show(["_law_word_here","_law_kind","_law_given"]:List Str).Nodup from by decide +kernel) rfl (Or.inl rfl) (Or.inr rfl) rfl (Or.inl rfl) (Or.inr rfl))
   (fun _ _ _ _=>pe_tup (pa_cons (pv 0) (pa_cons (pe_call GP hr rfl mP kP bP .nil pass0 (pa_cons (pv 1) (pa_cons (pv 2) pa_nil))) pa_nil))))
  (pss_cons (ps_set (i:=3) scPutAll.nd rfl (Or.inl rfl) (pe_lst pa_nil))
  (pss_cons (ps_for PassesOwn.never rfl (pi_list (pe_ix ix_tup (pv 0) pe_int (fun _ _=>rfl))) (pg_tup rfl (pgs_cons (pg_name (i:=4) scPutAll.nd rfl (Or.inl rfl)) (pgs_cons (pg_name (i:=5) scPutAll.nd rfl (Or.inl rfl)) pgs_nil)))
   (pss_one (ps_expr (pe_bm PySem.F.plainAttrs_list PySem.F.slot_list_append PySem.F.type_list_append mt_append (pv 3) (pa_cons (pe_tup (pa_cons (pv 4) (pa_cons (pe_tup (pa_cons (pe_callTy call_tuple_of rfl mt bootTuple (pa_cons (pe_comp (own:=["_law_kind"]) (caps:=["_law_given"]) (κ:=[1]) rfl ⟨rfl,by decide +kernel,by decide +kernel,rfl,rfl,one_of rfl,one_of ⟨.inl rfl,rfl,.inl rfl⟩⟩ rfl
    (pi_tup (pe_ix ix_tup (pv 5) pe_int (fun _ _=>rfl))) (fun _ _ _ _=>pg_name (i:=0) (show(["_law_kind","_law_given"]:List Str).Nodup from by decide +kernel) rfl (Or.inl rfl)) (fun _ _ _ _=>pe_call GP hr rfl mP kP bP .nil pass0 (pa_cons (pv 0) (pa_cons (pv 1) pa_nil)))) pa_nil))
    (pa_cons (pe_call GP hr rfl mP kP bP .nil pass0 (pa_cons (pe_ix ix_tup (pv 5) pe_int (fun _ _=>rfl)) (pa_cons (pv 1) pa_nil))) pa_nil))) pa_nil))) pa_nil)))))
  (pss_one (ps_ret (pe_tup (pa_cons (pv 2) (pa_cons (pv 3) pa_nil))))))),?_⟩
 have hxl:xs.length=m1.length:=Paired.length hxs
 have hyl:ys.length=m2.length:=Paired.length hys
 refine⟨_,rfl,fa,_,_,_,rfl,rfl,SqT.of hfa,(show atI [V.ref l1,.ref l2] 0=some (.ref l1) from rfl),l1,rfl,⟨_,SqL.of hl1⟩,?_⟩
 refine comp_l (SqL.of hl1) (by omega) (fun i zs H3=>zs.length=i∧Paired (fun v q=>PrAt K H3 v (putP G q)) zs (m1.take i)) ⟨rfl,.nil⟩ (fun _ _ _ h=>Nat.le_of_eq h.1) ?_ ?_
 ·rintro i x zs H3 N hN hx s3 ⟨hz,hpz⟩
  obtain⟨⟨z,k⟩,hq,p,y,rfl,hp,hy⟩:=pair_get hxs hx
  replace hp:H p=some (.tup [.str z,y]):=hp
  replace hy:KdAt K H y k:=hy
  refine⟨p,_,rfl,SqT.of (s3 _ _ hp),rfl,_,_,rfl,_,_,rfl,rfl,rfl,tYes_go ⟨_,rfl,_,rfl,_,rfl,y,g,k,kvs,G,rfl,hy.same s3,dp1 _ (List.mem_of_getElem? hq),s3 _ _ hg,hG.same s3,fun H4 v s4 hv=>⟨(by show 2≤sizeLine;decide),fun p2 hp2=>?_⟩⟩⟩
  have s5:=same_new hp2 (.tup [.str z,v])
  refine hN _ _ (s3.trans (s4.trans s5)) ⟨by rw [List.length_append,hz];rfl,?_⟩
  rw [List.take_add_one,hq]
  exact pappR (Paired.mapP hpz fun _ _ h=>h.same (s4.trans s5)) (.cons ⟨p2,v,rfl,upd_same,hv.same s5⟩ .nil)
 rintro zs H3 d1 s3 ⟨hz,hpz⟩ hD
 have sD:=same_new hD (.lst zs)
 have s4:=s3.trans sD
 rw [hxl,List.take_length] at hpz
 generalize hHB:upd H3 d1 (.lst zs)=HB at sD s4 ⊢
 have hR1:RkAt K HB d1 (m1.map (putP G)):=⟨zs,by rw [←hHB];exact upd_same,pmapR (Paired.mapP hpz fun _ _ h=>h.same sD)⟩
 refine⟨(by show 0≤sizeLine;decide),fun l3 hl3=>?_⟩
 have s5:=same_new hl3 (.lst [])
 refine⟨_,rfl,fa,_,_,_,rfl,rfl,SqT.of ((s4.trans s5) _ _ hfa),(show atI [V.ref l1,.ref l2] 1=some (.ref l2) from rfl),l2,rfl,⟨_,SqL.of ((s4.trans s5) _ _ hl2)⟩,?_⟩
 refine for_list (K:=K) (xs:=ys) (fun i σ H6=>∃(x4 x5:Option V) (us:List V),σ=[some (.ref fa),some (.ref g),some (.ref d1),some (.ref l3),x4,x5]∧Same HB H6∧H6 l3=some (.lst us)∧us.length=i∧Paired (fun v q=>FrAt K H6 v (putQ G q)) us (m2.take i)) ⟨none,none,[],rfl,s5,upd_same,rfl,.nil⟩ ?_ ?_ ?_
 ·rintro i σ H6 _ ⟨_,_,_,_,s6,_⟩
  exact SqL.of ((s4.trans s6) _ _ hl2)
 ·rintro i x σ H6 hx ⟨x4,x5,us,rfl,s6,hu6,hul,hup⟩
  obtain⟨⟨z,ks,k⟩,hq,p,y,rfl,hp,hy⟩:=pair_get hys hx
  replace hp:H p=some (.tup [.str z,y]):=hp
  replace hy:FunAt K H y (ks,k):=hy
  obtain⟨pr,ta,xk,xs',rfl,hpr,hta,hks,hk⟩:=hy
  replace hks:KdsAt K H xs' ks:=hks
  replace hk:KdAt K H xk k:=hk
  obtain⟨da,db,dc⟩:=dp2 _ (List.mem_of_getElem? hq)
  replace da:∀k'∈ks,Kd.depth k'≤n:=da
  replace dc:ks.length≤100:=dc
  have sA:=s4.trans s6
  refine⟨p,_,rfl,SqT.of (sA _ _ hp),rfl,_,_,rfl,_,_,rfl,rfl,?_⟩
  refine⟨_,rfl,.inl ⟨rfl,_,SqL.of hu6⟩,_,rfl,_,rfl,pr,_,_,_,rfl,rfl,sA.tup hpr,(show atI [V.ref ta,xk] 0=some (.ref ta) from rfl),ta,rfl,⟨_,sA.tup hta⟩,?_⟩
  have hkl:=hks.length
  refine comp_t (sA.tup hta) (by omega) (fun j vs H7=>vs.length=j∧KdsAt K H7 vs ((ks.take j).map (Kd.put G))) ⟨rfl,.nil⟩ (fun _ _ _ h=>Nat.le_of_eq h.1) ?_ ?_
  ·rintro j u vs H7 N hN hu7 s7 ⟨hv,hvs⟩
   obtain⟨k',hk',hat⟩:=hks.get hu7
   have sB:=sA.trans s7
   refine⟨rfl,tYes_go ⟨_,rfl,_,rfl,u,g,k',kvs,G,rfl,hat.same sB,da k' (List.mem_of_getElem? hk'),sB _ _ hg,hG.same sB,fun H8 v s8 hv8=>hN _ _ (s7.trans s8) ⟨by rw [List.length_append,hv];rfl,?_⟩⟩⟩
   rw [List.take_add_one,hk',List.map_append]
   exact(hvs.same s8).append (.cons hv8 .nil)
  rintro vs H7 D2 s7 ⟨hv,hvs⟩ hD2
  rw [hkl,List.take_length] at hvs
  have t7:=same_new hD2 (.lst vs)
  refine⟨D2,vs,rfl,.inl ⟨SqL.of upd_same,fun t3 ht3=>?_⟩⟩
  have t8:=same_new ht3 (.tup vs)
  have sC:=sA.trans (s7.trans (t7.trans t8))
  refine⟨_,rfl,pr,_,_,_,rfl,rfl,sC.tup hpr,(show atI [V.ref ta,xk] 1=some xk from rfl),_,rfl,xk,g,k,kvs,G,rfl,hk.same sC,db,sC _ _ hg,hG.same sC,fun H9 v9 s9 hv9=>?_⟩
  refine⟨(by show 2≤sizeLine;decide),fun t5 ht5=>?_⟩
  have t9:=same_new ht5 (.tup [.ref t3,v9])
  refine⟨(by show 2≤sizeLine;decide),fun t6 ht6=>?_⟩
  have t10:=same_new ht6 (.tup [.str z,.ref t5])
  have sE:=s7.trans (t7.trans (t8.trans (s9.trans (t9.trans t10))))
  have hl10:=sE _ _ hu6
  refine⟨l3,us,.ref t6,rfl,rfl,hl10,Nat.lt_of_lt_of_le (Nat.lt_succ_self _) (small (by have:=(List.getElem?_eq_some_iff.mp hx).1;omega)),?_⟩
  have kt:∀{a:Addr} {zz:List V},SqT K (upd (upd H9 t5 (.tup [.ref t3,v9])) t6 (.tup [.str z,.ref t5])) a zz→SqT K (upd (upd (upd H9 t5 (.tup [.ref t3,v9])) t6 (.tup [.str z,.ref t5])) l3 (.lst (us++[.ref t6]))) a zz:=fun h=>sqt_upd hl10 h
  have ht:∀{a:Addr} {zz:List V},(upd (upd H9 t5 (.tup [.ref t3,v9])) t6 (.tup [.str z,.ref t5])) a=some (.tup zz)→(upd (upd (upd H9 t5 (.tup [.ref t3,v9])) t6 (.tup [.str z,.ref t5])) l3 (.lst (us++[.ref t6]))) a=some (.tup zz):=fun {a zz} h=>by
   rw [upd_ne (fun e=>by rw [e,hl10] at h;cases h)]
   exact h
  refine⟨_,_,us++[.ref t6],rfl,sput (s6.trans sE) hl3,upd_same,by rw [List.length_append,hul];rfl,?_⟩
  rw [List.take_add_one,hq]
  refine pappR (Paired.mapP hup fun _ _ h=>?_) (.cons ⟨t6,.ref t5,rfl,ht upd_same,t5,t3,v9,vs,rfl,kt (SqT.of (t10 _ _ upd_same)),kt (SqT.of ((s9.trans (t9.trans t10)) _ _ upd_same)),kds_keep (fun _ _=>kt) (hvs.same (t7.trans (t8.trans (s9.trans (t9.trans t10))))),kd_keep (fun _ _=>kt) (hv9.same (t9.trans t10))⟩ .nil)
  obtain⟨pp,py,e1,e2,e3⟩:=h.same sE
  exact⟨pp,py,e1,ht e2,e3.keep fun _ _=>kt⟩
 ·rintro σ H6 ⟨x4,x5,us,rfl,s6,hu6,hul,hup⟩
  rw [hyl,List.take_length] at hup
  refine⟨_,rfl,_,rfl,(by show 2≤sizeLine;decide),fun t ht=>?_⟩
  have t7:=same_new ht (.tup [.ref d1,.ref l3])
  exact q _ t (s4.trans (s6.trans t7)) ⟨d1,l3,upd_same,hR1.same (s6.trans t7),⟨us,t7 _ _ hu6,pmapR (Paired.mapP hup fun _ _ h=>h.same t7)⟩⟩
end
end K42
namespace L2
open PySem
theorem comp_r{m:Nat}{n:Nat}{κ:List Nat}{g:TG}{tc:TT}{te:TE}{σ:St}{H:Hp}{Q:VK}(hz:m≤1000)(R:Nat→List V→Hp→Prop)(h0:R 0 [] H)(hlen:∀i ys H2,R i ys H2→ys.length≤i)
  (hs:∀i ys H2 (N:List V→Hp→Prop),(∀ys' H',Same H H'→R (i+1) ys' H'→N ys' H')→i < m→Same H H2→R i ys H2→g (.int i) (blkSt n κ σ) H2 fun σ4 H4=>σ4.drop n=(blkSt n κ σ).drop n∧tc σ4 H4 fun b H5=>if b=true then te σ4 H5 fun v H6=>N (ys++[v]) H6 else N ys H5)
  (hQ:∀ys H2 D,Same H H2→R m ys H2→H2 D=none→Q (.ref D) (upd H2 D (.lst ys))):CompRun n κ g tc te σ (Itr 0 m) H Q:=by
 refine comp_by (J:=Itr 0 m) (xs:=rangeV 0 m) (fun i ys H3=>Same H H3∧R i ys H3) ⟨Same.refl _,h0⟩ (by rw [rangeV_len];exact Nat.le_of_lt (small1000 hz)) ?_ ?_ ?_ ?_ ?_ ?_
 ·rintro i ys H3 ⟨_,h⟩
  exact hlen i ys H3 h
 ·rintro i u ys H3 hu _
  exact itr_go hu
 ·rintro i ys u H3 H' hn _ hy
  rw [rangeV_len] at hn
  exact itr_yld' hn hy
 ·rintro ys H3 _
  rw [rangeV_len]
  exact Nat.le_refl _
 ·rintro i u ys H3 N hN hu ⟨s3,h⟩
  obtain⟨hi,rfl⟩:=rangeV_get.mp hu
  rw [Int.zero_add]
  exact hs i ys H3 N (fun ys' H' a b=>hN ys' H' ⟨a,b⟩) hi s3 h
 ·rintro ys H3 D ⟨s3,h⟩ hD
  rw [rangeV_len] at h
  exact hQ ys H3 D s3 h hD
end L2
namespace K42
open PySem L2 Kk
def wds(c s:Int)(n:Nat):List Str:=(List.range n).map fun(j:Nat)=>wordL c (s+(j:Int))
theorem wds_len(c s:Int)(n:Nat):(wds c s n).length=n:=by unfold wds;rw [List.length_map,List.length_range]
theorem wds_snoc(c s:Int)(n:Nat):wds c s (n+1)=wds c s n++[wordL c (s+(n:Int))]:=by
 unfold wds
 rw [List.range_succ,List.map_append]
 rfl
theorem wds_mem{c s:Int}{n:Nat}{z:Str}:z∈wds c s n↔∃j:Nat,j < n∧z=wordL c (s+(j:Int)):=by
 unfold wds
 constructor
 ·intro h
  obtain⟨j,hj,rfl⟩:=List.mem_map.mp h
  exact⟨j,List.mem_range.mp hj,rfl⟩
 ·rintro⟨j,hj,rfl⟩
  exact List.mem_map.mpr ⟨j,List.mem_range.mpr hj,rfl⟩
theorem wds_nodup(c s:Int):∀{n:Nat},n≤26→(wds c s n).Nodup
 |0,_=>.nil
 |n+1,h=>by
  rw [wds_snoc]
  refine List.nodup_append.mpr ⟨wds_nodup c s (by omega),List.nodup_cons.mpr ⟨List.not_mem_nil,.nil⟩,fun a ha b hb=>?_⟩
  obtain⟨j,hj,rfl⟩:=wds_mem.mp ha
  rw [List.mem_singleton.mp hb]
  intro e
  have:=wordL_inj e
  omega
theorem wds_apart{c s t:Int}{n m:Nat}(h:∀i j:Nat,i < n→j < m→(s+(i:Int))%26≠(t+(j:Int))%26):∀a∈wds c s n,∀b∈wds c t m,a≠b:=fun a ha b hb e=>by
 obtain⟨i,hi,rfl⟩:=wds_mem.mp ha
 obtain⟨j,hj,rfl⟩:=wds_mem.mp hb
 exact h i j hi hj (wordL_inj e)
def NumS(l:Kd):Prop:=∃n:Int,l=.num n∧0≤n∧n≤10 ^ 18
def LfS(hs:List Str)(ks:List Kd)(l:Kd):Prop:=l∈ks∨NumS l∨∃h∈hs,l=ownK h
def FunsOk(c sh:Int)(S:Kd→Prop)(m2:List (Str × (List Kd × Kd))):Prop:=(∃n,n≤3∧m2.map (·.1)=wds c sh n)∧(m2.map (·.1)).Nodup∧m2.length≤3∧∀q∈m2,smW q.1∧q.2.1.length≤4∧∀k∈q.2.2::q.2.1,MixK S k
theorem pdropR{α β:Type}{R:α→β→Prop}:∀{xs:List α} {ys:List β} (n:Nat),Paired R xs ys→Paired R (xs.drop n) (ys.drop n)
 |_,_,0,h=>h
 |_,_,_+1,.nil=>.nil
 |_,_,n+1,.cons _ b=>pdropR n b
theorem ptakeR{α β:Type}{R:α→β→Prop}:∀{xs:List α} {ys:List β} (n:Nat),Paired R xs ys→Paired R (xs.take n) (ys.take n)
 |_,_,0,_=>.nil
 |_,_,_+1,.nil=>.nil
 |_,_,n+1,.cons a b=>.cons a (ptakeR n b)
abbrev fcN:List Str:=["_law_script","_law_at","_law_shift","_law_leaves","_law_head","_law_k","_law_hidden_here","_law_word_here","_law_some","_law_kinds","_law_turned","_law_funs","_law_cell_here","_law_args","_law_fun"]
abbrev fcP:List Str:=["_law_script","_law_at","_law_shift","_law_leaves"]
structure SomeAt(K:PySem.W.Frag)(H:Hp)(S:Kd→Prop)(so:Addr)(xs:List V)(ks:List Kd):Prop where
 obj:H so=some (.lst xs)
 at_:KdsAt K H xs ks
 len:ks.length≤50
 all:∀k∈ks,k.leaf=true∧S k
 nums:∀n:Int,0≤n→n≤10 ^ 18→S (.num n)
theorem SomeAt.same{K:PySem.W.Frag}{H H':Hp}{S:Kd→Prop}{so:Addr}{xs:List V}{ks:List Kd}(e:Same H H')(h:SomeAt K H S so xs ks):SomeAt K H' S so xs ks:=⟨e _ _ h.obj,h.at_.same e,h.len,h.all,h.nums⟩
section
variable{P:Program}{w:World}{K:PySem.W.Frag}{mg:Str→Option Value}{base:Heap}
theorem scFace:FnScope fcN fcP (defScope sFace):=⟨rfl,rfl,rfl,by decide +kernel,rfl,by decide +kernel,by decide +kernel⟩
set_option maxHeartbeats 0 in
theorem fc6{f fc fw fm:Addr}{fdc fdw fdm:FuncData}
  (GC:FnOk P w K mg base CX0 1 fc fdc ["_law_script","_law_k"] (spCellX K)) (bC:Binds K fdc ["_law_script","_law_k"] []) (kC:PySem.W.keepIn K (.ref fc)=true) (mC:mg "_law_cell"=some (.ref fc))
  (GW:FnOk P w K mg base CX0 1 fw fdw wlP spWordL) (bW:Binds K fdw wlP []) (kW:PySem.W.keepIn K (.ref fw)=true) (mW:mg "_law_word"=some (.ref fw))
  (GM:FnOk P w K mg base CX0 1 fm fdm mxP (spMix K)) (bM:Binds K fdm mxP []) (kM:PySem.W.keepIn K (.ref fm)=true) (mM:mg "_law_mix"=some (.ref fm))
  (mt:mg "tuple"=none) (mr:mg "range"=none)
  {cdv:Value} {A:Around} {outer:List Env} {s:Shared} {H:Hp} {E:XK} (hr:Room 1 (A.deeper (PyProof.Rows.envOfC "_law_face" (defScope sFace) s.heap.objs.size f cdv))) :
  ∃t,PSs (cxOf CX0 P w K mg base fcN "_law_face" (defScope sFace) f cdv A outer s H E).nox (List.drop 6 (defBody sFace)) t ∧
   ∀(Q:VK) (H1:Hp) (a so kl:Addr) (ns:List Int) (at_ sh hd:Int) (tu:Nat) (S:Kd→Prop) (sxs:List V) (sks:List Kd) (M:List (Str × Kd)) (x3 x5 x6 x7 x11 x12 x13 x14:Option V),
    SqL K H1 a (ns.map V.int)→ns.length≤63→0≤at_→at_≤100→SomeAt K H1 S so sxs sks→RkAt K H1 kl M→M.length≤100→tu≤M.length →
    (∀H' x m2,Same H1 H'→LfAt K H' x (M.drop tu++M.take tu) m2→FunsOk (cellOf ns 2) sh S m2→Q (.ref x) H') →
    t { nx:=fun _ H'=>Q .non H',rt:=Q } [some (.ref a),some (.int at_),some (.int sh),x3,some (.int hd),x5,x6,x7,some (.ref so),some (.ref kl),some (.int (tu:Int)),x11,x12,x13,x14] H1:=by
 refine⟨_,pss_cons (ps_set (i:=11) scFace.nd rfl (Or.inl rfl) (pe_lst pa_nil))
  (pss_cons (ps_for PassesOwn.never rfl (pi_range1 rfl mr (pa_cons (pe_op op_mod (pe_op op_fdiv (pv 4) pe_int) pe_int) pa_nil)) (pg_name (i:=5) scFace.nd rfl (Or.inl rfl))
   (pss_cons (ps_set (i:=12) scFace.nd rfl (Or.inr rfl) (pe_op op_add (pe_op op_fdiv (pe_call GC hr rfl mC kC bC .nil pass0 (pa_cons (pv 0) (pa_cons (pe_op op_add (pv 1) pe_int) pa_nil))) (pe_op op_add (pv 5) pe_int)) (pe_op op_mul pe_int (pv 5))))
   (pss_cons (ps_set (i:=13) scFace.nd rfl (Or.inl rfl) (pe_callTy call_tuple_of rfl mt bootTuple (pa_cons (pe_comp (own:=["_law_j"]) (caps:=["_law_cell_here","_law_some"]) (κ:=[12,8]) rfl ⟨rfl,by decide +kernel,by decide +kernel,rfl,rfl,two_of rfl rfl,two_of ⟨.inl rfl,rfl,.inl rfl⟩ ⟨.inl rfl,rfl,.inl rfl⟩⟩ rfl
    (pi_range1 rfl mr (pa_cons (pe_op op_mod (pv 12) pe_int) pa_nil)) (fun _ _ _ _=>pg_name (i:=0) (show(["_law_j","_law_cell_here","_law_some"]:List Str).Nodup from by decide +kernel) rfl (Or.inl rfl))
    (fun _ _ _ _=>pe_call GM hr rfl mM kM bM .nil pass0 (pa_cons (pe_op op_add (pe_op op_fdiv (pv 1) (pe_op op_add (pv 0) pe_int)) (pv 0)) (pa_cons (pv 2) pa_nil)))) pa_nil)))
   (pss_cons (ps_set (i:=14) scFace.nd rfl (Or.inl rfl) (pe_call GW hr rfl mW kW bW .nil pass0 (pa_cons (pe_call GC hr rfl mC kC bC .nil pass0 (pa_cons (pv 0) (pa_cons pe_int pa_nil))) (pa_cons (pe_op op_add (pv 2) (pv 5)) pa_nil))))
   (pss_one (ps_expr (pe_bm PySem.F.plainAttrs_list PySem.F.slot_list_append PySem.F.type_list_append mt_append (pv 11) (pa_cons (pe_tup (pa_cons (pv 14) (pa_cons (pe_tup (pa_cons (pv 13) (pa_cons (pe_call GM hr rfl mM kM bM .nil pass0 (pa_cons (pe_op op_fdiv (pe_call GC hr rfl mC kC bC .nil pass0 (pa_cons (pv 0) (pa_cons (pe_op op_add (pv 1) pe_int) pa_nil))) (pe_op op_add (pv 5) pe_int)) (pa_cons (pv 8) pa_nil))) pa_nil))) pa_nil))) pa_nil))))))))
  (pss_one (ps_ret (pe_tup (pa_cons (pe_op op_cat (pe_slice sl_list (pv 9) (po_some (pv 10)) po_none) (pe_slice sl_list (pv 9) po_none (po_some (pv 10)))) (pa_cons (pv 11) pa_nil)))))),?_⟩
 intro Q H1 a so kl ns at_ sh hd tu S sxs sks M x3 x5 x6 x7 x11 x12 x13 x14 hA h63 at0 at1 hSo hK hM htu q
 refine⟨(by show 0≤sizeLine;decide),fun fl hfl=>?_⟩
 have s1:=same_new hfl (.lst [])
 have r0:=Int.emod_nonneg (hd / 60) (show(4:Int)≠0 by decide)
 have r1:=Int.emod_lt_of_pos (hd / 60) (show(0:Int) < 4 by decide)
 refine⟨_,rfl,_,_,rfl,rfl,⟨by decide,by decide⟩,_,_,rfl,rfl,(by show(0:Int) < 4;decide),_,rfl,by omega,by omega,?_⟩
 refine for_range (fun i σ H2=>∃(y5 y12 y13 y14:Option V) (us:List V) (m2:List (Str × (List Kd × Kd))),σ=[some (.ref a),some (.int at_),some (.int sh),x3,some (.int hd),y5,x6,x7,some (.ref so),some (.ref kl),some (.int (tu:Int)),some (.ref fl),y12,y13,y14]∧Same H1 H2∧H2 fl=some (.lst us)∧Paired (FrAt K H2) us m2∧m2.map (·.1)=wds (cellOf ns 2) sh i∧∀q∈m2,q.2.1.length≤4∧∀k∈q.2.2::q.2.1,MixK S k)
  ⟨x5,x12,x13,x14,[],[],rfl,s1,upd_same,.nil,rfl,fun q hq=>nomatch hq⟩ ?_ ?_
 ·rintro i σ H2 hi ⟨y5,y12,y13,y14,us,m2,rfl,s2,hu2,hp2,hk2,hm2⟩
  rw [Int.zero_add]
  have hul:us.length=i:=by
   have e1:=Paired.length hp2
   have e2:=congrArg List.length hk2
   rw [List.length_map,wds_len] at e2
   omega
  have hi4:i < 4:=by omega
  have cl:∀{H':Hp},Same H1 H'→SqL K H' a (ns.map V.int):=fun e=>sql_same e hA
  refine⟨_,rfl,_,rfl,_,_,rfl,rfl,a,ns,at_+4,rfl,cl s2,h63,by omega,by omega,fun c hc=>?_⟩
  refine⟨_,rfl,_,_,rfl,rfl,_,_,rfl,rfl,⟨by omega,by omega⟩,_,rfl,_,_,rfl,rfl,.inl ⟨by decide,by decide⟩,_,_,rfl,rfl,?_⟩
  have b0:=Int.emod_nonneg (c / ((i:Int)+1)+13*(i:Int)) (show(5:Int)≠0 by decide)
  have b1:=Int.emod_lt_of_pos (c / ((i:Int)+1)+13*(i:Int)) (show(0:Int) < 5 by decide)
  refine⟨_,rfl,_,_,rfl,rfl,(by show(0:Int) < 5;decide),_,rfl,by omega,by omega,?_⟩
  have so2:=hSo.same s2
  refine comp_r (m:=((c / ((i:Int)+1)+13*(i:Int))%5).toNat) (by omega) (fun j ys H3=>ys.length=j∧∃ks:List Kd,KdsAt K H3 ys ks∧∀k∈ks,MixK S k) ⟨rfl,[],.nil,fun k hk=>nomatch hk⟩ (fun _ _ _ h=>Nat.le_of_eq h.1) ?_ ?_
  ·rintro j ys H3 N hN hj s3 ⟨hyl,ks,hks,hall⟩
   have so3:=so2.same s3
   refine⟨rfl,tYes_go ⟨_,rfl,_,rfl,_,_,rfl,rfl,_,_,rfl,rfl,⟨by omega,by omega⟩,_,rfl,_,_,rfl,rfl,_,rfl,_,so,sxs,sks,S,rfl,so3.obj,so3.at_,so3.len,so3.all,so3.nums,fun H4 v k s4 hv hm=>hN _ _ (s3.trans s4) ⟨by rw [List.length_append,hyl];rfl,ks++[k],(hks.same s4).append (.cons hv .nil),fun k' hk'=>?_⟩⟩⟩
   rcases List.mem_append.mp hk' with h|h
   ·exact hall k' h
   ·rw [List.mem_singleton.mp h]
    exact hm
  rintro ys H3 D s3 ⟨hyl,ks,hks,hall⟩ hD
  have t3:=same_new hD (.lst ys)
  refine⟨D,ys,rfl,.inl ⟨SqL.of upd_same,fun ta hta=>?_⟩⟩
  have t4:=same_new hta (.tup ys)
  have s5:=s2.trans (s3.trans (t3.trans t4))
  have kl5:ks.length≤4:=by
   have:=hks.length
   omega
  have hks5:KdsAt K (upd (upd H3 D (.lst ys)) ta (.tup ys)) ys ks:=hks.same (t3.trans t4)
  have hta5:upd (upd H3 D (.lst ys)) ta (.tup ys) ta=some (.tup ys):=upd_same
  have hfl5:=(s3.trans (t3.trans t4)) _ _ hu2
  have hp5:Paired (FrAt K (upd (upd H3 D (.lst ys)) ta (.tup ys))) us m2:=Paired.mapP hp2 fun _ _ h=>h.same (s3.trans (t3.trans t4))
  generalize upd (upd H3 D (.lst ys)) ta (.tup ys)=H5 at s5 hks5 hta5 hfl5 hp5
  refine⟨_,rfl,a,ns,2,rfl,cl s5,h63,by decide,by decide,fun c2 hc2=>⟨_,rfl,_,rfl,_,_,rfl,rfl,c2,sh+(i:Int),rfl,fun H6 s6=>?_⟩⟩
  have s16:=s5.trans s6
  refine⟨_,rfl,.inl ⟨rfl,_,SqL.of (s6 _ _ hfl5)⟩,_,rfl,_,rfl,_,rfl,_,rfl,_,_,rfl,rfl,a,ns,at_+5,rfl,cl s16,h63,by omega,by omega,fun c3 hc3=>?_⟩
  have so6:=hSo.same s16
  refine⟨_,rfl,_,_,rfl,rfl,_,_,rfl,rfl,⟨by omega,by omega⟩,_,rfl,_,so,sxs,sks,S,rfl,so6.obj,so6.at_,so6.len,so6.all,so6.nums,fun H7 v k s7 hv hm=>?_⟩
  refine⟨(by show 2≤sizeLine;decide),fun p1 hp1=>?_⟩
  have u1:=same_new hp1 (.tup [.ref ta,v])
  refine⟨(by show 2≤sizeLine;decide),fun p3 hp3=>?_⟩
  have u2:=same_new hp3 (.tup [.str (wordL c2 (sh+(i:Int))),.ref p1])
  have sE:=s6.trans (s7.trans (u1.trans u2))
  have hl10:=sE _ _ hfl5
  refine⟨fl,us,.ref p3,rfl,rfl,hl10,Nat.lt_of_lt_of_le (Nat.lt_succ_self _) (small (by omega)),?_⟩
  have kt:∀{a':Addr} {zz:List V},SqT K (upd (upd H7 p1 (.tup [.ref ta,v])) p3 (.tup [.str (wordL c2 (sh+(i:Int))),.ref p1])) a' zz→SqT K (upd (upd (upd H7 p1 (.tup [.ref ta,v])) p3 (.tup [.str (wordL c2 (sh+(i:Int))),.ref p1])) fl (.lst (us++[.ref p3]))) a' zz:=fun h=>sqt_upd hl10 h
  have ht:∀{a':Addr} {zz:List V},(upd (upd H7 p1 (.tup [.ref ta,v])) p3 (.tup [.str (wordL c2 (sh+(i:Int))),.ref p1])) a'=some (.tup zz)→(upd (upd (upd H7 p1 (.tup [.ref ta,v])) p3 (.tup [.str (wordL c2 (sh+(i:Int))),.ref p1])) fl (.lst (us++[.ref p3]))) a'=some (.tup zz):=fun {a' zz} h=>by
   rw [upd_ne (fun e=>by rw [e,hl10] at h;cases h)]
   exact h
  refine⟨_,_,_,_,us++[.ref p3],m2++[(wordL c2 (sh+(i:Int)),(ks,k))],rfl,sput (s5.trans sE) hfl,upd_same,?_,?_,fun q hq=>?_⟩
  ·refine pappR (Paired.mapP hp5 fun _ _ h=>?_) (.cons ⟨p3,.ref p1,rfl,ht upd_same,p1,ta,v,ys,rfl,kt (SqT.of (u2 _ _ upd_same)),kt (SqT.of (sE _ _ hta5)),kds_keep (fun _ _=>kt) (hks5.same sE),kd_keep (fun _ _=>kt) (hv.same (u1.trans u2))⟩ .nil)
   obtain⟨pp,py,e1,e2,e3⟩:=h.same sE
   exact⟨pp,py,e1,ht e2,e3.keep fun _ _=>kt⟩
  ·rw [List.map_append,hk2,wds_snoc,hc2]
   rfl
  ·rcases List.mem_append.mp hq with h|h
   ·exact hm2 q h
   ·rw [List.mem_singleton.mp h]
    refine⟨kl5,fun k' hk'=>?_⟩
    rcases List.mem_cons.mp hk' with rfl|hk'
    ·exact hm
    ·exact hall k' hk'
 ·rintro σ H2 ⟨y5,y12,y13,y14,us,m2,rfl,s2,hu2,hp2,hk2,hm2⟩
  obtain⟨kxs,hkl,hkp⟩:=hK.same s2
  have hkn:kxs.length=M.length:=Paired.length hkp
  refine⟨_,rfl,_,rfl,_,rfl,kl,_,rfl,SqL.of hkl,fun pa hpa=>?_⟩
  rw [cut_from (by omega)] at *
  have t1:=same_new hpa (.lst (kxs.drop tu))
  refine⟨_,rfl,_,rfl,_,rfl,kl,_,rfl,SqL.of (t1 _ _ hkl),fun pb hpb=>?_⟩
  rw [cut_to (by omega)] at *
  have t2:=same_new hpb (.lst (kxs.take tu))
  refine⟨pa,pb,_,_,rfl,rfl,t2 _ _ upd_same,upd_same,small (by rw [List.length_drop,List.length_take];omega),fun pc hpc=>?_⟩
  have t3:=same_new hpc (.lst (kxs.drop tu++kxs.take tu))
  refine⟨_,rfl,(by show 2≤sizeLine;decide),fun pd hpd=>?_⟩
  have t4:=same_new hpd (.tup [.ref pc,.ref fl])
  have sT:=t1.trans (t2.trans (t3.trans t4))
  refine q _ pd m2 (s2.trans sT) ⟨pc,fl,upd_same,⟨_,t4 _ _ upd_same,pappR (pdropR tu (Paired.mapP hkp fun _ _ h=>h.same sT)) (ptakeR tu (Paired.mapP hkp fun _ _ h=>h.same sT))⟩,⟨us,sT _ _ hu2,Paired.mapP hp2 fun _ _ h=>h.same sT⟩⟩ ?_
  have e2:=congrArg List.length hk2
  rw [List.length_map,wds_len] at e2
  refine⟨⟨_,by omega,hk2⟩,by rw [hk2];exact wds_nodup _ _ (by omega),by omega,fun q hq=>⟨?_,hm2 q hq⟩⟩
  have:q.1∈m2.map (·.1):=List.mem_map.mpr ⟨q,hq,rfl⟩
  rw [hk2] at this
  obtain⟨j,_,e⟩:=wds_mem.mp this
  rw [e]
  exact smW_L _ _
end
end K42
namespace K42
open PySem L2 Kk
theorem MixK.imp{S T:Kd→Prop}{k:Kd}(h:MixK S k)(f:∀l,S l→T l):MixK T k:=⟨fun l hl=>f l (h.1 l hl),h.2⟩
theorem own_inj{a b:Str}(h:ownK a=ownK b):a=b:=by
 unfold ownK at h
 injection h
theorem hid_iff{m:List (Str × Kd)}{z:Str}:z∈hidL m↔(z,ownK z)∈m:=by
 unfold hidL
 constructor
 ·intro h
  obtain⟨⟨a,k⟩,hq,e⟩:=List.mem_map.mp h
  obtain⟨h1,h2⟩:=List.mem_filter.mp hq
  replace e:a=z:=e
  have h3:k=ownK a:=of_decide_eq_true h2
  rw [h3,e] at h1
  exact h1
 ·intro h
  exact List.mem_map.mpr ⟨(z,ownK z),List.mem_filter.mpr ⟨h,decide_eq_true rfl⟩,rfl⟩
structure FaceOk(c c2 sh:Int)(ks:List Kd)(m1:List (Str × Kd))(m2:List (Str × (List Kd × Kd))):Prop where
 nd1:(m1.map (·.1)).Nodup
 w1:∀q∈m1,∃j:Nat,j < 5∧q.1=wordL c (sh+(j:Int))
 l1:m1.length≤5
 k1:∀q∈m1,q.2=ownK q.1∨MixK (LfS (hidL m1) ks) q.2
 fu:FunsOk c2 sh (LfS (hidL m1) ks) m2
theorem leaf_mix{S:Kd→Prop}{z:Str}(h:MixK S (ownK z)):S (ownK z):=h.1 _ (List.mem_singleton.mpr rfl)
theorem face_ok{c c2 sh:Int}{ks:List Kd}{nh nt:Nat}{ts:List (Str × Kd)}{m2:List (Str × (List Kd × Kd))}(tu:Nat)(h3:nh≤3)(h2:nt≤2)(hts:ts.map (·.1)=wds c (sh+3) nt)(htk:∀q∈ts,MixK (LfS (wds c sh nh) ks) q.2)(hks:∀z,ownK z∉ks)
  (hf:FunsOk c2 sh (LfS (wds c sh nh) ks) m2):FaceOk c c2 sh ks ((((wds c sh nh).map fun h=>(h,ownK h))++ts).drop tu++(((wds c sh nh).map fun h=>(h,ownK h))++ts).take tu) m2:=by
 generalize hM:((wds c sh nh).map fun h=>(h,ownK h))++ts=M
 have hp:(M.drop tu++M.take tu).Perm M:=by
  have h:=List.perm_append_comm (l₁:=M.drop tu) (l₂:=M.take tu)
  rw [List.take_append_drop] at h
  exact h
 have hMk:M.map (·.1)=wds c sh nh++wds c (sh+3) nt:=by
  rw [←hM,List.map_append,hts,List.map_map]
  congr 1
  exact List.map_id _
 have hMm:∀q,q∈M↔(∃h∈wds c sh nh,q=(h,ownK h))∨q∈ts:=fun q=>by
  rw [←hM,List.mem_append]
  refine or_congr ⟨fun h=>?_,fun h=>?_⟩ Iff.rfl
  ·obtain⟨z,hz,e⟩:=List.mem_map.mp h
   exact⟨z,hz,e.symm⟩
  ·obtain⟨z,hz,e⟩:=h
   exact List.mem_map.mpr ⟨z,hz,e.symm⟩
 have hid:∀z,z∈hidL (M.drop tu++M.take tu)↔z∈wds c sh nh:=fun z=>by
  rw [hid_iff,hp.mem_iff,hMm]
  constructor
  ·rintro(⟨h,hh,e⟩|h)
   ·cases e
    exact hh
   ·rcases leaf_mix (htk _ h) with h1|⟨n,e,_⟩|⟨h',hh,e⟩
    ·exact absurd h1 (hks z)
    ·cases e
    ·rw [own_inj e]
     exact hh
  ·exact fun h=>.inl ⟨z,h,rfl⟩
 have imp:∀l,LfS (wds c sh nh) ks l→LfS (hidL (M.drop tu++M.take tu)) ks l:=fun l h=>by
  rcases h with h|h|⟨h,hh,e⟩
  ·exact .inl h
  ·exact .inr (.inl h)
  ·exact .inr (.inr ⟨h,(hid h).mpr hh,e⟩)
 refine⟨?_,fun q hq=>?_,?_,fun q hq=>?_,hf.1,hf.2.1,hf.2.2.1,fun q hq=>⟨(hf.2.2.2 q hq).1,(hf.2.2.2 q hq).2.1,fun k hk=>((hf.2.2.2 q hq).2.2 k hk).imp imp⟩⟩
 ·rw [(hp.map _).nodup_iff,hMk]
  refine List.nodup_append.mpr ⟨wds_nodup _ _ (by omega),wds_nodup _ _ (by omega),wds_apart fun i j hi hj=>?_⟩
  omega
 ·have hm:q.1∈M.map (·.1):=List.mem_map.mpr ⟨q,hp.mem_iff.mp hq,rfl⟩
  rw [hMk] at hm
  rcases List.mem_append.mp hm with h|h
  ·obtain⟨j,hj,e⟩:=wds_mem.mp h
   exact⟨j,by omega,e⟩
  ·obtain⟨j,hj,e⟩:=wds_mem.mp h
   refine⟨3+j,by omega,?_⟩
   rw [e]
   congr 1
   omega
 ·have e:=congrArg List.length hMk
  rw [hp.length_eq,←List.length_map (f:=fun q:Str × Kd=>q.1),e,List.length_append,wds_len,wds_len]
  omega
 ·rcases (hMm q).mp (hp.mem_iff.mp hq) with ⟨h,_,rfl⟩|h
  ·exact .inl rfl
  ·exact .inr ((htk q h).imp imp)
def spFace(K:PySem.W.Frag):Sp:=fun vs H Q _=>∃(a:Addr) (ns:List Int) (at_ sh:Int) (l:Addr) (xs:List V) (ks:List Kd),vs=[.ref a,.int at_,.int sh,.ref l]∧SqL K H a (ns.map V.int)∧ns.length≤63∧0≤at_∧at_≤100∧H l=some (.lst xs)∧KdsAt K H xs ks∧ks.length≤10∧(∀k∈ks,k.leaf=true)∧(∀z,ownK z∉ks) ∧
 ∀H' x m1 m2,Same H H'→LfAt K H' x m1 m2→FaceOk (cellOf ns 1) (cellOf ns 2) sh ks m1 m2→Q (.ref x) H'
section
variable{P:Program}{w:World}{K:PySem.W.Frag}{mg:Str→Option Value}{base:Heap}
set_option maxHeartbeats 0 in
theorem ok_face{f fc fw fm:Addr}{fd fdc fdw fdm:FuncData} (F:Fun K "_law_face" "_law_face" sFace f fd)
  (GC:FnOk P w K mg base CX0 1 fc fdc ["_law_script","_law_k"] (spCellX K)) (bC:Binds K fdc ["_law_script","_law_k"] []) (kC:PySem.W.keepIn K (.ref fc)=true) (mC:mg "_law_cell"=some (.ref fc))
  (GW:FnOk P w K mg base CX0 1 fw fdw wlP spWordL) (bW:Binds K fdw wlP []) (kW:PySem.W.keepIn K (.ref fw)=true) (mW:mg "_law_word"=some (.ref fw))
  (GM:FnOk P w K mg base CX0 1 fm fdm mxP (spMix K)) (bM:Binds K fdm mxP []) (kM:PySem.W.keepIn K (.ref fm)=true) (mM:mg "_law_mix"=some (.ref fm))
  (mt:mg "tuple"=none) (mr:mg "range"=none) (ml:mg "len"=none):FnOk P w K mg base CX0 2 f fd fcP (spFace K):=by
 refine F.ok scFace (fun vs H Q E h=>?_) (fun cdv A outer s H vs Q E hr h=>?_)
 ·obtain⟨a,ns,at_,sh,l,xs,ks,rfl,_⟩:=h
  rfl
 obtain⟨a,ns,at_,sh,l,xs,ks,rfl,hA,h63,at0,at1,hl,hxs,h10,hlf,hno,q⟩:=h
 obtain⟨u6,d6,k6⟩:=fc6 (outer:=outer) (H:=H) (E:=E) GC bC kC mC GW bW kW mW GM bM kM mM mt mr hr
 refine⟨_,pss_cons (ps_set (i:=4) scFace.nd rfl (Or.inl rfl) (pe_call GC hr rfl mC kC bC .nil pass0 (pa_cons (pv 0) (pa_cons (pv 1) pa_nil))))
  (pss_cons (ps_comp (i0:=6) (own:=["_law_k"]) (caps:=["_law_script","_law_shift"]) (κ:=[0,2]) scFace.nd rfl (Or.inl rfl) rfl ⟨rfl,by decide +kernel,by decide +kernel,rfl,rfl,two_of rfl rfl,two_of ⟨.inl rfl,rfl,.inl rfl⟩ ⟨.inl rfl,rfl,.inl rfl⟩⟩ rfl
   (pi_range1 rfl mr (pa_cons (pe_op op_mod (pv 4) pe_int) pa_nil)) (fun _ _ _ _=>pg_name (i:=0) (show(["_law_k","_law_script","_law_shift"]:List Str).Nodup from by decide +kernel) rfl (Or.inl rfl))
   (fun _ _ _ _=>pe_call GW hr rfl mW kW bW .nil pass0 (pa_cons (pe_call GC hr rfl mC kC bC .nil pass0 (pa_cons (pv 1) (pa_cons pe_int pa_nil))) (pa_cons (pe_op op_add (pv 2) (pv 0)) pa_nil))))
  (pss_cons (ps_set (i:=8) scFace.nd rfl (Or.inr rfl) (pe_op op_cat (pe_comp (own:=["_law_word_here"]) (caps:=[]) (κ:=[]) (cl:=[]) rfl ⟨rfl,by decide +kernel,by decide +kernel,rfl,rfl,(fun y hy=>nomatch hy),(fun y hy=>nomatch hy)⟩ rfl (pi_list (pv 6)) (fun _ _ _ _=>pg_name (i:=0) (show(["_law_word_here"]:List Str).Nodup from by decide +kernel) rfl (Or.inl rfl))
   (fun _ _ _ _=>pe_tup (pa_cons pe_str (pa_cons pe_str (pa_cons (pv 0) pa_nil))))) (pv 3)))
  (pss_cons (ps_comp (i0:=9) (own:=["_law_word_here"]) (caps:=[]) (κ:=[]) (cl:=[]) scFace.nd rfl (Or.inl rfl) rfl ⟨rfl,by decide +kernel,by decide +kernel,rfl,rfl,(fun y hy=>nomatch hy),(fun y hy=>nomatch hy)⟩ rfl (pi_list (pv 6)) (fun _ _ _ _=>pg_name (i:=0) (show(["_law_word_here"]:List Str).Nodup from by decide +kernel) rfl (Or.inl rfl))
   (fun _ _ _ _=>pe_tup (pa_cons (pv 0) (pa_cons (pe_tup (pa_cons pe_str (pa_cons pe_str (pa_cons (pv 0) pa_nil)))) pa_nil))))
  (pss_cons (ps_for PassesOwn.never rfl (pi_range1 rfl mr (pa_cons (pe_op op_mod (pe_op op_fdiv (pv 4) pe_int) pe_int) pa_nil)) (pg_name (i:=5) scFace.nd rfl (Or.inl rfl))
   (pss_cons (ps_set (i:=7) scFace.nd rfl (Or.inl rfl) (pe_call GW hr rfl mW kW bW .nil pass0 (pa_cons (pe_call GC hr rfl mC kC bC .nil pass0 (pa_cons (pv 0) (pa_cons pe_int pa_nil))) (pa_cons (pe_op op_add (pe_op op_add (pv 2) pe_int) (pv 5)) pa_nil))))
   (pss_one (ps_expr (pe_bm PySem.F.plainAttrs_list PySem.F.slot_list_append PySem.F.type_list_append mt_append (pv 9) (pa_cons (pe_tup (pa_cons (pv 7) (pa_cons (pe_call GM hr rfl mM kM bM .nil pass0 (pa_cons (pe_op op_fdiv (pe_call GC hr rfl mC kC bC .nil pass0 (pa_cons (pv 0) (pa_cons (pe_op op_add (pv 1) pe_int) pa_nil))) (pe_op op_add (pv 5) pe_int)) (pa_cons (pv 8) pa_nil))) pa_nil))) pa_nil))))))
  (pss_cons (ps_set (i:=10) scFace.nd rfl (Or.inl rfl) (pe_op op_mod (pe_op op_fdiv (pv 4) pe_int) (pe_op op_add pe_int (pe_callB call_len_seq rfl ml PySem.boot_len (pa_cons (pv 9) pa_nil))))) d6))))),?_⟩
 refine⟨_,rfl,_,rfl,a,ns,at_,rfl,hA,h63,at0,by omega,fun hd _=>?_⟩
 have cl:∀{H':Hp},Same H H'→SqL K H' a (ns.map V.int):=fun e=>sql_same e hA
 have r0:=Int.emod_nonneg hd (show(4:Int)≠0 by decide)
 have r1:=Int.emod_lt_of_pos hd (show(0:Int) < 4 by decide)
 refine⟨_,rfl,_,_,rfl,rfl,(by show(0:Int) < 4;decide),_,rfl,by omega,by omega,?_⟩
 refine comp_r (m:=(hd%4).toNat) (by omega) (fun i ys H2=>ys=(wds (cellOf ns 1) sh i).map V.str) rfl (fun i ys _ h=>by rw [h,List.length_map,wds_len];exact Nat.le_refl _) ?_ ?_
 ·rintro i ys H2 N hN hi s2 rfl
  refine⟨rfl,tYes_go ⟨_,rfl,a,ns,1,rfl,cl s2,h63,by decide,by decide,fun c hc=>⟨_,rfl,_,rfl,_,_,rfl,rfl,c,sh+(i:Int),rfl,fun H3 s3=>hN _ _ (s2.trans s3) ?_⟩⟩⟩
  rw [wds_snoc,List.map_append,hc]
  rfl
 rintro ys H2 hl1 s2 rfl hn1
 have t2:=same_new hn1 (.lst ((wds (cellOf ns 1) sh (hd%4).toNat).map V.str))
 have s3:=s2.trans t2
 have hh1:upd H2 hl1 (.lst ((wds (cellOf ns 1) sh (hd%4).toNat).map V.str)) hl1=some (.lst ((wds (cellOf ns 1) sh (hd%4).toNat).map V.str)):=upd_same
 have hnh:(hd%4).toNat≤3:=by omega
 generalize (hd%4).toNat=nh at hh1 hnh s3 ⊢
 generalize upd H2 hl1 (.lst ((wds (cellOf ns 1) sh nh).map V.str))=H3 at hh1 s3 ⊢
 have hwl:=wds_len (cellOf ns 1) sh nh
 refine⟨_,rfl,hl1,rfl,⟨_,SqL.of hh1⟩,?_⟩
 refine comp_l (SqL.of hh1) (by rw [List.length_map,hwl];omega) (fun i ys H4=>ys.length=i∧KdsAt K H4 ys (((wds (cellOf ns 1) sh nh).take i).map ownK)) ⟨rfl,.nil⟩ (fun _ _ _ h=>Nat.le_of_eq h.1) ?_ ?_
 ·rintro i x ys H4 N hN hx s4 ⟨hy,hys⟩
  rw [List.getElem?_map] at hx
  obtain⟨z,hz,rfl⟩:=Option.map_eq_some_iff.mp hx
  refine⟨rfl,tYes_go ⟨_,rfl,(by show 3≤sizeLine;decide),fun p hp=>?_⟩⟩
  have t5:=same_new hp (.tup [.str "name",.str "",.str z])
  refine hN _ _ (s4.trans t5) ⟨by rw [List.length_append,hy];rfl,?_⟩
  rw [List.take_add_one,hz,List.map_append]
  exact(hys.same t5).append (.cons (.name (SqT.of upd_same)) .nil)
 rintro ys H4 pD s4 ⟨_,hys⟩ hD
 rw [List.length_map,List.take_length] at hys
 have t5:=same_new hD (.lst ys)
 have hln:=hxs.length
 refine⟨_,rfl,pD,l,_,_,rfl,rfl,upd_same,(s3.trans (s4.trans t5)) _ _ hl,small (by have:=hys.length;rw [List.length_map,hwl] at this;omega),fun so hso=>?_⟩
 have t6:=same_new hso (.lst (ys++xs))
 have s6:=s3.trans (s4.trans (t5.trans t6))
 have hSo:SomeAt K (upd (upd H4 pD (.lst ys)) so (.lst (ys++xs))) (LfS (wds (cellOf ns 1) sh nh) ks) so (ys++xs) ((wds (cellOf ns 1) sh nh).map ownK++ks):=by
  refine⟨upd_same,(hys.same (t5.trans t6)).append (hxs.same s6),by rw [List.length_append,List.length_map,hwl];omega,fun k hk=>?_,fun n h0 h1=>.inr (.inl ⟨n,rfl,h0,h1⟩)⟩
  rcases List.mem_append.mp hk with h|h
  ·obtain⟨z,hz,rfl⟩:=List.mem_map.mp h
   exact⟨rfl,.inr (.inr ⟨z,hz,rfl⟩)⟩
  ·exact⟨hlf k h,.inl h⟩
 have hh6:=(s4.trans (t5.trans t6)) _ _ hh1
 generalize upd (upd H4 pD (.lst ys)) so (.lst (ys++xs))=H6 at s6 hSo hh6 ⊢
 refine⟨_,rfl,hl1,rfl,⟨_,SqL.of hh6⟩,?_⟩
 refine comp_l (SqL.of hh6) (by rw [List.length_map,hwl];omega) (fun i ys H4=>ys.length=i∧Paired (PrAt K H4) ys (((wds (cellOf ns 1) sh nh).take i).map fun h=>(h,ownK h))) ⟨rfl,.nil⟩ (fun _ _ _ h=>Nat.le_of_eq h.1) ?_ ?_
 ·rintro i x ys H4 N hN hx s4 ⟨hy,hys⟩
  rw [List.getElem?_map] at hx
  obtain⟨z,hz,rfl⟩:=Option.map_eq_some_iff.mp hx
  refine⟨rfl,tYes_go ⟨_,rfl,_,rfl,(by show 3≤sizeLine;decide),fun p hp=>⟨(by show 2≤sizeLine;decide),fun p2 hp2=>?_⟩⟩⟩
  have t5:=same_new hp (.tup [.str "name",.str "",.str z])
  have t6:=same_new hp2 (.tup [.str z,.ref p])
  refine hN _ _ (s4.trans (t5.trans t6)) ⟨by rw [List.length_append,hy];rfl,?_⟩
  rw [List.take_add_one,hz,List.map_append]
  exact pappR (Paired.mapP hys fun _ _ h=>h.same (t5.trans t6)) (.cons ⟨p2,.ref p,rfl,upd_same,.name (SqT.of (t6 _ _ upd_same))⟩ .nil)
 rintro kys H7 kl s7 ⟨_,hkys⟩ hkl
 rw [List.length_map,List.take_length] at hkys
 have t8:=same_new hkl (.lst kys)
 have s67:=s6.trans s7
 have hkl0:H7 kl=none:=hkl
 have q0:=Int.emod_nonneg (hd / 4) (show(3:Int)≠0 by decide)
 have q1:=Int.emod_lt_of_pos (hd / 4) (show(0:Int) < 3 by decide)
 refine⟨_,rfl,_,_,rfl,rfl,⟨by decide,by decide⟩,_,_,rfl,rfl,(by show(0:Int) < 3;decide),_,rfl,by omega,by omega,?_⟩
 refine for_range (fun i σ H8=>∃(y5 y7:Option V) (us:List V) (ts:List (Str × Kd)),σ=[some (.ref a),some (.int at_),some (.int sh),some (.ref l),some (.int hd),y5,some (.ref hl1),y7,some (.ref so),some (.ref kl),none,none,none,none,none]∧Same H7 H8∧H8 kl=some (.lst us)∧Paired (PrAt K H8) us (((wds (cellOf ns 1) sh nh).map fun h=>(h,ownK h))++ts)∧ts.map (·.1)=wds (cellOf ns 1) (sh+3) i∧∀q∈ts,MixK (LfS (wds (cellOf ns 1) sh nh) ks) q.2)
  ⟨none,none,kys,[],rfl,t8,upd_same,by rw [List.append_nil];exact Paired.mapP hkys fun _ _ h=>h.same t8,rfl,fun q hq=>nomatch hq⟩ ?_ ?_
 ·rintro i σ H8 hi ⟨y5,y7,us,ts,rfl,s8,hk8,hp8,hts,htk⟩
  rw [Int.zero_add]
  have s18:=s67.trans s8
  have htl:ts.length=i:=by
   have:=congrArg List.length hts
   rw [List.length_map,wds_len] at this
   exact this
  have hul:=Paired.length hp8
  rw [List.length_append,List.length_map,hwl,htl] at hul
  refine⟨_,rfl,a,ns,1,rfl,cl s18,h63,by decide,by decide,fun c hc=>⟨_,rfl,_,_,rfl,rfl,_,rfl,_,_,rfl,rfl,c,sh+3+(i:Int),rfl,fun H9 s9=>?_⟩⟩
  have s19:=s18.trans s9
  refine⟨_,rfl,.inl ⟨rfl,_,SqL.of (s9 _ _ hk8)⟩,_,rfl,_,rfl,_,rfl,_,_,rfl,rfl,a,ns,at_+3,rfl,cl s19,h63,by omega,by omega,fun c3 hc3=>?_⟩
  have so9:=hSo.same (s7.trans (s8.trans s9))
  refine⟨_,rfl,_,_,rfl,rfl,_,_,rfl,rfl,⟨by omega,by omega⟩,_,rfl,_,so,_,_,_,rfl,so9.obj,so9.at_,so9.len,so9.all,so9.nums,fun Ha v k sa hv hm=>?_⟩
  refine⟨(by show 2≤sizeLine;decide),fun p1 hp1=>?_⟩
  have u1:=same_new hp1 (.tup [.str (wordL c (sh+3+(i:Int))),v])
  have sE:=s9.trans (sa.trans u1)
  have hl10:=sE _ _ hk8
  refine⟨kl,us,.ref p1,rfl,rfl,hl10,Nat.lt_of_lt_of_le (Nat.lt_succ_self _) (small (by omega)),?_⟩
  have kt:∀{a':Addr} {zz:List V},SqT K (upd Ha p1 (.tup [.str (wordL c (sh+3+(i:Int))),v])) a' zz→SqT K (upd (upd Ha p1 (.tup [.str (wordL c (sh+3+(i:Int))),v])) kl (.lst (us++[.ref p1]))) a' zz:=fun h=>sqt_upd hl10 h
  have ht:∀{a':Addr} {zz:List V},(upd Ha p1 (.tup [.str (wordL c (sh+3+(i:Int))),v])) a'=some (.tup zz)→(upd (upd Ha p1 (.tup [.str (wordL c (sh+3+(i:Int))),v])) kl (.lst (us++[.ref p1]))) a'=some (.tup zz):=fun {a' zz} h=>by
   rw [upd_ne (fun e=>by rw [e,hl10] at h;cases h)]
   exact h
  refine⟨_,_,us++[.ref p1],ts++[(wordL c (sh+3+(i:Int)),k)],rfl,sput (s8.trans sE) hkl0,upd_same,?_,?_,fun q hq=>?_⟩
  ·rw [←List.append_assoc]
   refine pappR (Paired.mapP hp8 fun _ _ h=>?_) (.cons ⟨p1,v,rfl,ht upd_same,kd_keep (fun _ _=>kt) (hv.same u1)⟩ .nil)
   obtain⟨pp,py,e1,e2,e3⟩:=h.same sE
   exact⟨pp,py,e1,ht e2,kd_keep (fun _ _=>kt) e3⟩
  ·rw [List.map_append,hts,wds_snoc,hc]
   rfl
  ·rcases List.mem_append.mp hq with h|h
   ·exact htk q h
   ·rw [List.mem_singleton.mp h]
    exact hm
 ·rintro σ H8 ⟨y5,y7,us,ts,rfl,s8,hk8,hp8,hts,htk⟩
  have hul:=Paired.length hp8
  have htl:=congrArg List.length hts
  rw [List.length_map,wds_len] at htl
  rw [List.length_append,List.length_map,hwl] at hul
  have p0:(0:Int) < 1+((us.length:Nat):Int):=by omega
  have e0:=Int.emod_nonneg (hd / 12) (show 1+((us.length:Nat):Int)≠0 by omega)
  have e1:=Int.emod_lt_of_pos (hd / 12) p0
  refine⟨_,rfl,_,_,rfl,rfl,⟨by decide,by decide⟩,_,rfl,kl,_,rfl,.inl (SqL.of hk8),_,_,rfl,rfl,_,_,rfl,rfl,p0,?_⟩
  have s18:=s67.trans s8
  have key:=k6 Q H8 a so kl ns at_ sh hd (hd / 12%(1+((us.length:Nat):Int))).toNat (LfS (wds (cellOf ns 1) sh nh) ks) _ _ (((wds (cellOf ns 1) sh nh).map fun h=>(h,ownK h))++ts) (some (.ref l)) y5 (some (.ref hl1)) y7 none none none none (cl s18) h63 at0 at1 (hSo.same (s7.trans s8)) ⟨us,hk8,hp8⟩ (by rw [List.length_append,List.length_map,hwl];omega) (by rw [List.length_append,List.length_map,hwl];omega)
   fun H' x m2 s' hL hF=>q H' x _ m2 (s18.trans s') hL (face_ok _ hnh (by omega) hts htk hno hF)
  rw [Int.toNat_of_nonneg e0] at key
  exact key
end
end K42
namespace K42
open PySem L2 Kk
theorem puts_pk{α:Type}{R:V→α→Prop}:∀{ps:List (Key × V)} {rest:List (Str × α)} {acc:List (Key × V)} {m:List (Str × α)},PkAt R acc m→PkAt R ps rest→((m++rest).map (·.1)).Nodup→PkAt R (putsK acc ps) (m++rest)
 |[],_,acc,m,ha,.nil,_=>by
  rw [List.append_nil]
  exact ha
 |p::ps,_,acc,m,ha,.cons (b:=q) (l₂:=rest) ⟨e,hv⟩ hb,hn=>by
  have hz:q.1∉m.map (·.1):=fun hm=>by
   rw [List.map_append,List.map_cons] at hn
   exact(List.nodup_append.mp hn).2.2 _ hm _ (List.mem_cons_self ..) rfl
  have h1:PkAt R (putK acc p.1 p.2) (m++[q]):=by
   rw [e]
   exact PkAt.put ha hz hv
  have h2:=puts_pk (ps:=ps) (rest:=rest) h1 hb (by rw [List.append_assoc];exact hn)
  rw [List.append_assoc] at h2
  exact h2
theorem rows_split{α:Type}{R:V→α→Prop}{H:Hp}:∀{xs:List V} {m:List (Str × α)},Paired (fun v (q:Str × α)=>∃(p:Addr) (y:V),v=.ref p∧H p=some (.tup [.str q.1,y])∧R y q.2) xs m →
  ∃(as:List Addr) (ps:List (Key × V)),xs=as.map V.ref∧Paired (fun(p:Key × V) (a:Addr)=>H a=some (.tup [kV p.1,p.2])) ps as∧PkAt R ps m
 |_,_,.nil=>⟨[],[],rfl,.nil,.nil⟩
 |_,_,.cons (b:=q) ⟨p,y,e,hp,hy⟩ b=>by
  obtain⟨as,ps,rfl,h1,h2⟩:=rows_split b
  exact⟨p::as,(.inr q.1,y)::ps,by rw [e];rfl,.cons hp h1,.cons ⟨rfl,hy⟩ h2⟩
theorem rk_dict{K:PySem.W.Frag}{H:Hp}{l:Addr}{m:List (Str × Kd)}(h:RkAt K H l m)(hn:(m.map (·.1)).Nodup):∃(as:List Addr) (ps:List (Key × V)),H l=some (.lst (as.map V.ref))∧Paired (fun(p:Key × V) (a:Addr)=>H a=some (.tup [kV p.1,p.2])) ps as∧ps.length=m.length∧PkAt (KdAt K H) (putsK [] ps) m:=by
 obtain⟨xs,h1,h2⟩:=h
 obtain⟨as,ps,rfl,h3,h4⟩:=rows_split h2
 exact⟨as,ps,h1,h3,Paired.length h4,puts_pk (acc:=[]) (m:=[]) .nil h4 hn⟩
theorem rf_dict{K:PySem.W.Frag}{H:Hp}{l:Addr}{m:List (Str × (List Kd × Kd))}(h:RfAt K H l m)(hn:(m.map (·.1)).Nodup):∃(as:List Addr) (ps:List (Key × V)),H l=some (.lst (as.map V.ref))∧Paired (fun(p:Key × V) (a:Addr)=>H a=some (.tup [kV p.1,p.2])) ps as∧ps.length=m.length∧PkAt (FunAt K H) (putsK [] ps) m:=by
 obtain⟨xs,h1,h2⟩:=h
 obtain⟨as,ps,rfl,h3,h4⟩:=rows_split h2
 exact⟨as,ps,h1,h3,Paired.length h4,puts_pk (acc:=[]) (m:=[]) .nil h4 hn⟩
end K42
namespace K42
open PySem L2 Kk
theorem key_uniq{α:Type}:∀{m:List (Str × α)} {z:Str} {a b:α},(m.map (·.1)).Nodup→(z,a)∈m→(z,b)∈m→a=b
 |p::m,z,a,b,nd,ha,hb=>by
  rw [List.map_cons] at nd
  obtain⟨h1,h2⟩:=List.nodup_cons.mp nd
  rcases List.mem_cons.mp ha with ea|ha
  ·rcases List.mem_cons.mp hb with eb|hb
   ·have:=ea.trans eb.symm
    injection this
   ·exact absurd (List.mem_map.mpr ⟨_,hb,by rw [←ea]⟩) h1
  ·rcases List.mem_cons.mp hb with eb|hb
   ·exact absurd (List.mem_map.mpr ⟨_,ha,by rw [←eb]⟩) h1
   ·exact key_uniq h2 ha hb
theorem look_of_get{α:Type}{m:List (Str × α)}(nd:(m.map (·.1)).Nodup){z:Str}{x:α}(h:(z,x)∈m):look m z=some x:=by
 unfold look
 cases e:m.find? fun q=>decide (q.1=z) with
 |none =>
  rw [List.find?_eq_none] at e
  exact absurd (decide_eq_true rfl) (e _ h)
 |some q =>
  have h1:=List.mem_of_find?_eq_some e
  have h2:q.1=z:=by
   have h3:=List.find?_some e
   exact of_decide_eq_true h3
  obtain⟨a,b⟩:=q
  replace h2:a=z:=h2
  subst h2
  rw [key_uniq nd h h1]
  rfl
theorem get_of_look{α:Type}{m:List (Str × α)}{z:Str}{x:α}(h:look m z=some x):(z,x)∈m:=by
 unfold look at h
 obtain⟨q,hq,e⟩:=Option.map_eq_some_iff.mp h
 have h1:=List.mem_of_find?_eq_some hq
 have h2:q.1=z:=by
  have h3:=List.find?_some hq
  exact of_decide_eq_true h3
 obtain⟨a,b⟩:=q
 replace h2:a=z:=h2
 replace e:b=x:=e
 rw [←h2,←e]
 exact h1
theorem look_app{α:Type}(xs ys:List (Str × α))(z:Str):look (xs++ys) z=(look xs z).or (look ys z):=by
 unfold look
 rw [List.find?_append]
 cases (xs.find? fun q=>decide (q.1=z))<;>rfl
theorem look_none{α:Type}{m:List (Str × α)}{z:Str}(h:z∉m.map (·.1)):look m z=none:=by
 cases e:look m z with
 |none=>rfl
 |some x=>exact absurd (List.mem_map.mpr ⟨_,get_of_look e,rfl⟩) h
def GOf(m1:List (Str × Kd))(G:Str × Str→Option Kd):Prop:=∀n,G n≠none↔(n.1=""∧n.2∈hidL m1)
theorem gf_eq{m1 b1:List (Str × Kd)}{G:Str × Str→Option Kd}(hG:GOf m1 G)(h:∀z∈hidL m1,look b1 z=some (Kd.put G (ownK z))):Gf b1 m1=G:=by
 funext n
 obtain⟨a,z⟩:=n
 show(if a=""∧z∈hidL m1 then look b1 z else none)=G (a,z)
 by_cases c:a=""∧z∈hidL m1
 ·rw [if_pos c,h z c.2]
  have h1:=(hG (a,z)).mpr c
  obtain⟨rfl,_⟩:=c
  show some ((G ("",z)).getD (ownK z))=G ("",z)
  cases e:G ("",z) with
  |none=>exact absurd e h1
  |some g=>rfl
 ·rw [if_neg c]
  cases e:G (a,z) with
  |none=>rfl
  |some g=>exact absurd ((hG (a,z)).mp (by rw [e];exact fun h=>nomatch h)) c
theorem no1_none{b1 m1:List (Str × Kd)}(h:∀q∈m1,look b1 q.1≠none):no1 b1 m1=none:=by
 unfold no1
 rw [Option.map_eq_none_iff,List.find?_eq_none]
 intro q hq e
 exact h q hq (Option.isNone_iff_eq_none.mp e)
theorem no3_none{G:Str × Str→Option Kd}{b1 m1:List (Str × Kd)}(h:∀q∈m1,look b1 q.1=some (Kd.put G q.2)):no3 G b1 m1=none:=by
 unfold no3
 rw [Option.map_eq_none_iff,List.find?_eq_none]
 intro q hq e
 exact of_decide_eq_true e (h q hq)
theorem no4_none{G:Str × Str→Option Kd}{b2 m2:List (Str × (List Kd × Kd))}(h:∀q∈m2,look b2 q.1=some (putFn G q.2)):no4 G b2 m2=none:=by
 unfold no4
 rw [Option.map_eq_none_iff,List.find?_eq_none]
 intro q hq e
 exact of_decide_eq_true e (h q hq)
end K42
namespace K42
open PySem L2 Kk
def rowD{α:Type}(D:α→PyData)(q:Str × α):PyData:=.tuple [.str q.1,D q.2]
theorem it_dats{α:Type}{K:PySem.W.Frag}{H:Hp}{R:V→α→Prop}{D:α→PyData}(hD:∀v x,R v x→Dat K H v (D x)):∀{kvs:List (Key × V)} {m:List (Str × α)} {as:List Addr},PkAt R kvs m→Paired (fun(p:Key × V) (k:Addr)=>H k=some (.tup [kV p.1,p.2])) kvs as→Dats K H (as.map V.ref) (m.map (rowD D))
 |_,_,_,.nil,.nil=>.nil
 |_,_,_,.cons ⟨e,hr⟩ b,.cons hk c=>by
  rw [e] at hk
  exact .cons (.tup (SqT.of hk) (.cons (.str _) (.cons (hD _ _ hr) .nil))) (it_dats hD b c)
theorem rows_dats{α:Type}{K:PySem.W.Frag}{H:Hp}{R:V→α→Prop}{D:α→PyData}(hD:∀v x,R v x→Dat K H v (D x)):∀{xs:List V} {m:List (Str × α)},Paired (fun v (q:Str × α)=>∃(p:Addr) (y:V),v=.ref p∧H p=some (.tup [.str q.1,y])∧R y q.2) xs m→Dats K H xs (m.map (rowD D))
 |_,_,.nil=>.nil
 |_,_,.cons ⟨p,y,e,hp,hr⟩ b=>by
  rw [e]
  exact .cons (.tup (SqT.of hp) (.cons (.str _) (.cons (hD _ _ hr) .nil))) (rows_dats hD b)
theorem ald_rows{α:Type}{D:α→PyData}{m:List (Str × α)}{n:Nat}(hl:m.length≤100)(h:∀q∈m,AlD (n+1) (D q.2)):AlD (n+3) (.tuple (m.map (rowD D))):=by
 refine⟨by rw [List.length_map];exact hl,fun d hd=>?_⟩
 obtain⟨q,hq,rfl⟩:=List.mem_map.mp hd
 refine⟨by show 2≤100;decide,fun d hd=>?_⟩
 rcases List.mem_cons.mp hd with rfl|hd
 ·trivial
 ·rw [List.mem_singleton.mp hd]
  exact h q hq
abbrev smP:List Str:=["_law_face_here","_law_kinds","_law_funs"]
def AlM(m1:List (Str × Kd))(m2:List (Str × (List Kd × Kd))):Prop:=m1.length≤100∧m2.length≤100∧(∀q∈m1,AlD 40 (Kd.dat q.2))∧∀q∈m2,AlD 40 (Fn.dat q.2)
def spSame(K:PySem.W.Frag)(CF:Addr):Sp:=fun vs H Q _=>∃(fa l1 l2:Addr) (m1:List (Str × Kd)) (m2:List (Str × (List Kd × Kd))),vs=[.ref fa,.ref l1,.ref l2]∧FaceF K H CF fa m1 m2∧RkAt K H l1 m1∧RfAt K H l2 m2∧AlM m1 m2∧∀H',Same H H'→Q (.bl true) H'
theorem bootIsi:bootBuiltins "isinstance"=some (.builtin "isinstance"):=by decide +kernel
theorem kit_dd(K:PySem.W.Frag):PySem.W.kitOne K (.type "dict") (.type "dict")=some true:=rfl
section
variable{P:Program}{w:World}{K:PySem.W.Frag}{mg:Str→Option Value}{base:Heap}
theorem scSame:FnScope smP smP (defScope sSame):=⟨rfl,rfl,rfl,by decide +kernel,rfl,by decide +kernel,by decide +kernel⟩
set_option maxHeartbeats 0 in
theorem ok_same{f fl CF:Addr}{fd fdl:FuncData} (F:Fun K "_law_same" "_law_same" sSame f fd)
  (GL:FnOk P w K mg base CX0 42 fl fdl alN (spAlike K 42)) (bL:Binds K fdl alN []) (kL:PySem.W.keepIn K (.ref fl)=true) (mL:mg "_law_alike"=some (.ref fl))
  (mF:mg "Face"=some (.ref CF)) (mi:mg "isinstance"=none) (md:mg "dict"=none) (mt:mg "tuple"=none) (cF:Cls K CF) (nK:NoAttr K CF "kinds") (nF:NoAttr K CF "funs")
  (clF:PySem.W.findIn K (.ref CF) "__class__"=some (some (.builtin "object.__class__"))) (sp:PySem.W.specialIn K (.builtin "object.__class__") "__get__"=some (some (.builtin "getset_descriptor.__get__"))) (tk1:PySem.W.takesIn K (.builtin "object.__class__")=some true) (obF:PySem.W.mroIn K CF (.type "object")=some true) (j5:PySem.W.kitOne K (.ref CF) (.ref CF)=some true) :
  FnOk P w K mg base CX0 43 f fd smP (spSame K CF):=by
 refine F.ok scSame (fun vs H Q E h=>?_) (fun cdv A outer s H vs Q E hr h=>?_)
 ·obtain⟨fa,l1,l2,m1,m2,rfl,_⟩:=h
  rfl
 obtain⟨fa,l1,l2,m1,m2,rfl,hF,hR1,hR2,hal,q⟩:=h
 refine⟨_,@pss_cons _ _ _ _ _ (ps_if (PW.pt (pw_or (pt_not (L2.pt_val (pe_callB call_isiT rfl mi bootIsi (@pa_cons _ _ _ _ _ (pv 0) (@pa_cons _ _ _ _ _ (pe_glob rfl mF (v:=.ref CF) rfl) pa_nil rfl) rfl)))) (pw_or (pt_not (L2.pt_val (pe_callB call_isiT rfl mi bootIsi (@pa_cons _ _ _ _ _ (pe_fld (pv 0) rfl) (@pa_cons _ _ _ _ _ (pe_bltn rfl md bootDict (v:=.ty "dict") rfl) pa_nil rfl) rfl)))) (pw_or1 (pt_not (L2.pt_val (pe_callB call_isiT rfl mi bootIsi (@pa_cons _ _ _ _ _ (pe_fld (pv 0) rfl) (@pa_cons _ _ _ _ _ (pe_bltn rfl md bootDict (v:=.ty "dict") rfl) pa_nil rfl) rfl)))))))) (@pss_one _ _ _ (@ps_ret _ _ _ _ pe_bl)) pss_nil)
  (@pss_cons _ _ _ _ _ (ps_if (pt_not (L2.pt_val (pe_call GL hr rfl mL kL bL .nil pass0 (@pa_cons _ _ _ _ _ (pe_callTy (call_tuple_itemsV rfl) rfl mt bootTuple (@pa_cons _ _ _ _ _ (pe_bm0 PySem.F.plainAttrs_dict PySem.F.slot_dict_items PySem.F.type_dict_items mt_items (pe_fld (pv 0) rfl)) pa_nil rfl)) (@pa_cons _ _ _ _ _ (pe_callTy call_tuple_of rfl mt bootTuple (@pa_cons _ _ _ _ _ (pv 1) pa_nil rfl)) pa_nil rfl) rfl)))) (@pss_one _ _ _ (@ps_ret _ _ _ _ pe_bl)) pss_nil)
  (@pss_one _ _ _ (@ps_ret _ _ _ _ (pe_call GL hr rfl mL kL bL .nil pass0 (@pa_cons _ _ _ _ _ (pe_callTy (call_tuple_itemsV rfl) rfl mt bootTuple (@pa_cons _ _ _ _ _ (pe_bm0 PySem.F.plainAttrs_dict PySem.F.slot_dict_items PySem.F.type_dict_items mt_items (pe_fld (pv 0) rfl)) pa_nil rfl)) (@pa_cons _ _ _ _ _ (pe_callTy call_tuple_of rfl mt bootTuple (@pa_cons _ _ _ _ _ (pv 2) pa_nil rfl)) pa_nil rfl) rfl))))),?_⟩
 obtain⟨dx,d1,d2,fs,kv1,kv2,hfa,lk,lf,hd1,hd2,hk1,hk2,_,_⟩:=id hF
 obtain⟨a1,a2,a3,a4⟩:=hal
 refine⟨_,rfl,.ref fa,.ref CF,.ref CF,.ref CF,true,rfl,(fun _ z=>z),.ins hfa cF clF sp tk1 obF,j5,true,rfl,iteF ?_⟩
 refine⟨_,rfl,fa,CF,dx,fs,_,rfl,hfa,cF,nK,lk,.ref d1,.ty "dict",.type "dict",.type "dict",true,rfl,(fun _ z=>by cases z;rfl),.dK hd1,kit_dd K,true,rfl,iteF ?_⟩
 refine⟨_,rfl,fa,CF,dx,fs,_,rfl,hfa,cF,nF,lf,.ref d2,.ty "dict",.type "dict",.type "dict",true,rfl,(fun _ z=>by cases z;rfl),.dK hd2,kit_dd K,true,rfl,iteF ?_⟩
 obtain⟨xs1,hl1,hx1⟩:=id hR1
 refine⟨_,rfl,fa,CF,dx,fs,_,rfl,hfa,cF,nK,lk,.inr (.inr (.inl ⟨rfl,.inl ⟨_,hd1⟩⟩)),d1,kv1,rfl,rfl,hd1,fun v hv=>?_⟩
 have s1:=same_new hv (.ext (itemsAt v d1))
 refine⟨v,d1,kv1,rfl,upd_same,s1 _ _ hd1,fun H2 as l s2 hl ha h2 hp=>?_⟩
 have s12:=Same.trans s1 s2
 refine⟨_,rfl,l1,xs1,rfl,.inl ⟨SqL.of (s12 _ _ hl1),fun l' hl'=>?_⟩⟩
 have s3:=same_new hl' (.tup xs1)
 have s13:=s12.trans s3
 refine⟨.ref l,.ref l',.tuple (m1.map (rowD Kd.dat)),rfl,.tup (SqT.of (s3 _ _ h2)) (it_dats (R:=KdAt K _) (fun _ _ h=>kd_dat h) (hk1.imp fun _ _ h=>h.same s13) (Paired.mapP hp fun _ _ h=>s3 _ _ h)),.tup (SqT.of upd_same) (rows_dats (R:=KdAt K _) (fun _ _ h=>kd_dat h) (Paired.mapP hx1 fun _ _ h=>PrAt.same s13 h)),ald_rows (n:=39) a1 a3,fun H4 s4=>⟨true,rfl,iteF ?_⟩⟩
 have sA:=s13.trans s4
 obtain⟨xs2,hl2,hx2⟩:=id (hR2.same sA)
 refine⟨_,rfl,fa,CF,dx,fs,_,rfl,sA _ _ hfa,cF,nF,lf,.inr (.inr (.inl ⟨rfl,.inl ⟨_,sA _ _ hd2⟩⟩)),d2,kv2,rfl,rfl,sA _ _ hd2,fun v' hv'=>?_⟩
 have t1:=same_new hv' (.ext (itemsAt v' d2))
 refine⟨v',d2,kv2,rfl,upd_same,t1 _ _ (sA _ _ hd2),fun H5 as' l3 t2 hl3 ha' h5 hp'=>?_⟩
 have t12:=Same.trans t1 t2
 refine⟨_,rfl,l2,xs2,rfl,.inl ⟨SqL.of (t12 _ _ hl2),fun l4 hl4=>?_⟩⟩
 have t3:=same_new hl4 (.tup xs2)
 have t13:=t12.trans t3
 exact⟨.ref l3,.ref l4,.tuple (m2.map (rowD Fn.dat)),rfl,.tup (SqT.of (t3 _ _ h5)) (it_dats (R:=FunAt K _) (fun _ _ h=>fn_dat h) (hk2.imp fun _ _ h=>h.keep fun _ _ t=>(sA.trans t13).tup t) (Paired.mapP hp' fun _ _ h=>t3 _ _ h)),.tup (SqT.of upd_same) (rows_dats (R:=FunAt K _) (fun _ _ h=>fn_dat h) (Paired.mapP hx2 fun _ _ h=>FrAt.same t13 h)),ald_rows (n:=39) a2 a4,fun H6 s6=>q _ (sA.trans (t13.trans s6))⟩
end
end K42
namespace K42
open PySem L2 Kk
theorem passNo{P:Program}{w:World}{X:Cx}:Passes (CX1 P w) X (fun _ _ _=>False):=fun _ _ _ _ _ _ _ ⟨_,_,_,_,_,_,_,h⟩=>h.elim
def spMade(K:PySem.W.Frag)(CF:Addr):Sp:=fun vs H Q _=>∃(fa:Addr) (m1:List (Str × Kd)) (m2:List (Str × (List Kd × Kd))),vs=[.ref fa]∧LfAt K H fa m1 m2∧(m1.map (·.1)).Nodup∧(m2.map (·.1)).Nodup∧m1.length≤100∧m2.length≤100 ∧
 ∀H' (x:Addr),Same H H'→H x=none→FaceN K H H' CF x m1 m2→Q (.ref x) H'
def thereM(part:Str):List (Str × Kd):=[("k",.name part "k"),("size",.num 7),("both",.pair (.num 2) (.num 3))]
def spThere(K:PySem.W.Frag):Sp:=fun vs H Q _=>∃part:Str,vs=[.str part]∧∀H' (l:Addr),Same H H'→RkAt K H' l (thereM part)→Q (.ref l) H'
abbrev hgN:List Str:=["_law_face_here","_law_part","_law_given","_law_word_here"]
def spHiding(K:PySem.W.Frag)(n:Nat):Sp:=fun vs H Q _=>∃(fa:Addr) (part:Str) (m1:List (Str × Kd)) (m2:List (Str × (List Kd × Kd))),vs=[.ref fa,.str part]∧LfAt K H fa m1 m2∧(m1.map (·.1)).Nodup∧m1.length≤100∧m2.length≤100∧(∀q∈m1,okW q.1∧Kd.ok q.2∧Kd.depth q.2≤60) ∧
 (∀q∈m1,Kd.depth q.2≤n)∧(∀q∈m2,(∀k∈q.2.1,Kd.depth k≤n)∧Kd.depth q.2.2≤n∧q.2.1.length≤100) ∧
 ∀H' (x:Addr),Same H H'→LfAt K H' x (m1.map (putP (hidG m1 part))) (m2.map (putQ (hidG m1 part)))→Q (.ref x) H'
section
variable{P:Program}{w:World}{K:PySem.W.Frag}{mg:Str→Option Value}{base:Heap}
theorem scMade:FnScope ["_law_face_here"] ["_law_face_here"] (defScope sMade):=⟨rfl,rfl,rfl,by decide +kernel,rfl,by decide +kernel,by decide +kernel⟩
set_option maxHeartbeats 0 in
theorem ok_made{f fi CF:Addr}{fd fdi:FuncData} (F:Fun K "_law_made" "_law_made" sMade f fd)
  (GI:FnOk P w K mg base CX0 1 fi fdi ["self","kinds","funs"] (spInitF CF)) (bI:Binds K fdi ["self","kinds","funs"] []) (MF:Mk K CF fi) (mC:mg "Face"=some (.ref CF)) (md:mg "dict"=none):FnOk P w K mg base CX0 3 f fd ["_law_face_here"] (spMade K CF):=by
 refine F.ok scMade (fun vs H Q E h=>?_) (fun cdv A outer s H vs Q E hr h=>?_)
 ·obtain⟨fa,m1,m2,rfl,_⟩:=h
  rfl
 obtain⟨fa,m1,m2,rfl,⟨l1,l2,hfa,hR1,hR2⟩,nd1,nd2,c1,c2,q⟩:=h
 have hu64:=hr.units
 have hr2:Room (1+1) _:=hr
 refine⟨_,@pss_one _ _ _ (@ps_ret _ _ _ _ (pe_make MF GI hr2 (by rfl) mC bI .nil pass0 (@pa_cons _ _ _ _ _ (pe_callTy (call_dict_pairsK rfl (Nat.lt_of_le_of_lt (Nat.add_le_add_left (by decide) _) hu64)) rfl md bootDict (@pa_cons _ _ _ _ _ (pe_ix ix_tup (pv 0) pe_int (fun _ _=>rfl)) pa_nil rfl)) (@pa_cons _ _ _ _ _ (pe_callTy (call_dict_pairsK rfl (Nat.lt_of_le_of_lt (Nat.add_le_add_left (by decide) _) hu64)) rfl md bootDict (@pa_cons _ _ _ _ _ (pe_ix ix_tup (pv 0) pe_int (fun _ _=>rfl)) pa_nil rfl)) pa_nil rfl) rfl))),?_⟩
 obtain⟨as1,ps1,hl1,hp1,hn1,hk1⟩:=rk_dict hR1 nd1
 refine⟨_,rfl,fa,_,_,_,rfl,rfl,SqT.of hfa,(show atI [V.ref l1,.ref l2] 0=some (.ref l1) from rfl),l1,as1,ps1,rfl,hl1,hp1,Nat.lt_of_lt_of_le (Nat.lt_succ_self _) (small (by omega)),fun d1 hd1=>?_⟩
 have t1:=same_new hd1 (.dK (putsK [] ps1))
 obtain⟨as2,ps2,hl2,hp2,hn2,hk2⟩:=rf_dict (hR2.same t1) nd2
 refine⟨_,rfl,fa,_,_,_,rfl,rfl,SqT.of (t1 _ _ hfa),(show atI [V.ref l1,.ref l2] 1=some (.ref l2) from rfl),l2,as2,ps2,rfl,hl2,hp2,Nat.lt_of_lt_of_le (Nat.lt_succ_self _) (small (by omega)),fun d2 hd2=>?_⟩
 have t2:=same_new hd2 (.dK (putsK [] ps2))
 have t12:=t1.trans t2
 intro x dx' nx ndx nex
 have ea:=same_new ndx (.own x)
 have nx':upd (upd (upd H d1 (.dK (putsK [] ps1))) d2 (.dK (putsK [] ps2))) dx' (.own x) x=none:=by rw [upd_ne (Ne.symm nex)];exact nx
 have eab:=ea.trans (same_new nx' (.ins CF dx' []))
 refine⟨x,dx',d1,d2,_,_,rfl,upd_same,eab _ _ (t2 _ _ upd_same),eab _ _ upd_same,fun d e fs' H7 hd he nde hx lk lf lh lp hd7 he7 keep=>⟨rfl,?_⟩⟩
 have s7:Same (upd (upd H d1 (.dK (putsK [] ps1))) d2 (.dK (putsK [] ps2))) H7:=fun b o hb=>keep b o (eab _ _ hb) (fun z=>by rw [z,nx] at hb;cases hb)
 exact q H7 x (t12.trans s7) (t12.free nx) ⟨dx',d,e,fs',_,_,(t12.trans eab).free hd,(t12.trans eab).free he,nde,hx,lk,lf,hd7,he7,hk1.imp fun v y h=>h.same (t12.trans s7),hk2.imp fun v y h=>h.keep fun a xs t=>(t2.trans s7).tup t,lh,lp⟩
theorem scThere:FnScope ["_law_part"] ["_law_part"] (defScope sThere):=⟨rfl,rfl,rfl,by decide +kernel,rfl,by decide +kernel,by decide +kernel⟩
set_option maxHeartbeats 0 in
theorem ok_there{f:Addr}{fd:FuncData} (F:Fun K "_law_there" "_law_there" sThere f fd):FnOk P w K mg base CX0 1 f fd ["_law_part"] (spThere K):=by
 refine F.ok scThere (fun vs H Q E h=>?_) (fun cdv A outer s H vs Q E hr h=>?_)
 ·obtain⟨part,rfl,_⟩:=h
  rfl
 obtain⟨part,rfl,q⟩:=h
 refine⟨_,@pss_one _ _ _ (@ps_ret _ _ _ _ (@pe_lst _ _ _ _ (@pa_cons _ _ _ _ _ (@pe_tup _ _ _ _ _ (@pa_cons _ _ _ _ _ pe_str (@pa_cons _ _ _ _ _ (@pe_tup _ _ _ _ _ (@pa_cons _ _ _ _ _ pe_str (@pa_cons _ _ _ _ _ (pv 0) (@pa_cons _ _ _ _ _ pe_str pa_nil rfl) rfl) rfl)) pa_nil rfl) rfl)) (@pa_cons _ _ _ _ _ (@pe_tup _ _ _ _ _ (@pa_cons _ _ _ _ _ pe_str (@pa_cons _ _ _ _ _ (@pe_tup _ _ _ _ _ (@pa_cons _ _ _ _ _ pe_str (@pa_cons _ _ _ _ _ pe_int pa_nil rfl) rfl)) pa_nil rfl) rfl)) (@pa_cons _ _ _ _ _ (@pe_tup _ _ _ _ _ (@pa_cons _ _ _ _ _ pe_str (@pa_cons _ _ _ _ _ (@pe_tup _ _ _ _ _ (@pa_cons _ _ _ _ _ pe_str (@pa_cons _ _ _ _ _ (@pe_tup _ _ _ _ _ (@pa_cons _ _ _ _ _ pe_str (@pa_cons _ _ _ _ _ pe_int pa_nil rfl) rfl)) (@pa_cons _ _ _ _ _ (@pe_tup _ _ _ _ _ (@pa_cons _ _ _ _ _ pe_str (@pa_cons _ _ _ _ _ pe_int pa_nil rfl) rfl)) pa_nil rfl) rfl) rfl)) pa_nil rfl) rfl)) pa_nil rfl) rfl) rfl))),?_⟩
 refine⟨_,rfl,(by show 3≤sizeLine;decide),fun p1 hp1=>?_⟩
 have u1:=same_new hp1 (.tup [.str "name",.str part,.str "k"])
 refine⟨(by show 2≤sizeLine;decide),fun p2 hp2=>?_⟩
 have u2:=same_new hp2 (.tup [.str "k",.ref p1])
 refine⟨(by show 2≤sizeLine;decide),fun p3 hp3=>?_⟩
 have u3:=same_new hp3 (.tup [.str "num",.int 7])
 refine⟨(by show 2≤sizeLine;decide),fun p4 hp4=>?_⟩
 have u4:=same_new hp4 (.tup [.str "size",.ref p3])
 refine⟨(by show 2≤sizeLine;decide),fun p5 hp5=>?_⟩
 have u5:=same_new hp5 (.tup [.str "num",.int 2])
 refine⟨(by show 2≤sizeLine;decide),fun p6 hp6=>?_⟩
 have u6:=same_new hp6 (.tup [.str "num",.int 3])
 refine⟨(by show 3≤sizeLine;decide),fun p7 hp7=>?_⟩
 have u7:=same_new hp7 (.tup [.str "pair",.ref p5,.ref p6])
 refine⟨(by show 2≤sizeLine;decide),fun p8 hp8=>?_⟩
 have u8:=same_new hp8 (.tup [.str "both",.ref p7])
 refine⟨(by show 3≤sizeLine;decide),fun l hl=>?_⟩
 have u9:=same_new hl (.lst [.ref p2,.ref p4,.ref p8])
 have v8:=u8.trans u9
 have v7:=u7.trans v8
 have v6:=u6.trans v7
 have v5:=u5.trans v6
 have v4:=u4.trans v5
 have v3:=u3.trans v4
 have v2:=u2.trans v3
 refine q _ l (u1.trans v2) ⟨_,upd_same,.cons ⟨p2,.ref p1,rfl,v3 _ _ upd_same,.name (SqT.of (v2 _ _ upd_same))⟩ (.cons ⟨p4,.ref p3,rfl,v5 _ _ upd_same,.num (SqT.of (v4 _ _ upd_same))⟩ (.cons ⟨p8,.ref p7,rfl,u9 _ _ upd_same,.pair (SqT.of (v8 _ _ upd_same)) (.num (SqT.of (v6 _ _ upd_same))) (.num (SqT.of (v7 _ _ upd_same)))⟩ .nil))⟩
theorem scHiding:FnScope hgN ["_law_face_here","_law_part"] (defScope sHiding):=⟨rfl,rfl,rfl,by decide +kernel,rfl,by decide +kernel,by decide +kernel⟩
set_option maxHeartbeats 0 in
theorem ok_hiding{n:Nat}{f fh fp:Addr}{fd fdh fdp:FuncData} (F:Fun K "_law_hiding" "_law_hiding" sHiding f fd)
  (GH:FnOk P w K mg base CX0 1 fh fdh ["_law_kinds"] (spHiddenL K)) (bH:Binds K fdh ["_law_kinds"] []) (kH:PySem.W.keepIn K (.ref fh)=true) (mH:mg "_law_hidden"=some (.ref fh))
  (GP:FnOk P w K mg base CX0 (n+1) fp fdp paP (spPutAll K n)) (bP:Binds K fdp paP []) (kP:PySem.W.keepIn K (.ref fp)=true) (mP:mg "_law_put_all"=some (.ref fp)) :
  FnOk P w K mg base CX0 (n+1+1) f fd ["_law_face_here","_law_part"] (spHiding K n):=by
 refine F.ok scHiding (fun vs H Q E h=>?_) (fun cdv A outer s H vs Q E hr h=>?_)
 ·obtain⟨fa,part,m1,m2,rfl,_⟩:=h
  rfl
 obtain⟨fa,part,m1,m2,rfl,hL,hnd,h100,h100',hok,dp1,dp2,q⟩:=h
 have hu:=hu_of hr
 have hr1:Room 1 _:=hr.mono (by omega)
 refine⟨_,@pss_cons _ _ _ _ _ (ps_set (i:=2) scHiding.nd rfl (Or.inl rfl) pe_dnewT)
  (@pss_cons _ _ _ _ _ (ps_for PassesOwn.never rfl (pi_list (pe_call GH hr1 rfl mH kH bH .nil pass0 (@pa_cons _ _ _ _ _ (pe_ix ix_tup (pv 0) pe_int (fun _ _=>rfl)) pa_nil rfl))) (pg_name (i:=3) scHiding.nd rfl (Or.inl rfl))
   (@pss_one _ _ _ (ps_dput hu (pv 2) (@pe_tup _ _ _ _ _ (@pa_cons _ _ _ _ _ pe_str (@pa_cons _ _ _ _ _ (pv 3) pa_nil rfl) rfl)) (@pe_tup _ _ _ _ _ (@pa_cons _ _ _ _ _ pe_str (@pa_cons _ _ _ _ _ (pv 1) (@pa_cons _ _ _ _ _ (pv 3) pa_nil rfl) rfl) rfl)) rfl)))
  (@pss_one _ _ _ (@ps_ret _ _ _ _ (pe_call GP hr rfl mP kP bP .nil pass0 (@pa_cons _ _ _ _ _ (pv 0) (@pa_cons _ _ _ _ _ (pv 2) pa_nil rfl) rfl))))),?_⟩
 obtain⟨l1,l2,hfa,hR1,hR2⟩:=id hL
 intro g hgn
 have s2:=same_new hgn (.dT [])
 refine⟨_,rfl,fa,_,_,_,rfl,rfl,SqT.of (s2 _ _ hfa),(show atI [V.ref l1,.ref l2] 0=some (.ref l1) from rfl),l1,m1,rfl,hR1.same s2,h100,hok,fun H3 l s3 hl2 hl3=>⟨l,rfl,⟨_,SqL.of hl3⟩,?_⟩⟩
 have hg3:=s3 _ _ (show upd H g (.dT []) g=some (.dT []) from upd_same)
 have lg:l≠g:=fun e=>by rw [e,upd_same] at hl2;cases hl2
 have hsl:(hidL m1).length≤100:=by
  unfold hidL
  rw [List.length_map]
  exact Nat.le_trans (List.length_filter_le _ _) h100
 refine for_list (K:=K) (xs:=(hidL m1).map V.str) (fun i σ H4=>∃(y3:Option V) (kvs:List (List Key × V)),σ=[some (.ref fa),some (.str part),some (.ref g),y3]∧Same H H4∧H4 l=some (.lst ((hidL m1).map V.str))∧H4 g=some (.dT kvs)∧PtAt K H4 kvs (((hidL m1).take i).map fun z=>(z,Kd.name part z)))
  ⟨none,[],rfl,s2.trans s3,hl3,hg3,.nil⟩ ?_ ?_ ?_
 ·rintro i σ H4 _ ⟨_,_,_,_,h,_⟩
  exact SqL.of h
 ·rintro i y σ H4 hy ⟨y3,kvs,rfl,s4,hl4,hg4,hpt⟩
  rw [List.getElem?_map] at hy
  obtain⟨z,hz,rfl⟩:=Option.map_eq_some_iff.mp hy
  have hi:i < (hidL m1).length:=(List.getElem?_eq_some_iff.mp hz).1
  refine⟨_,rfl,_,rfl,(by show 3≤sizeLine;decide),fun p hp=>?_⟩
  have s5:=same_new hp (.tup [.str "name",.str part,.str z])
  refine⟨_,rfl,_,rfl,(by show 2≤sizeLine;decide),fun p2 hp2=>?_⟩
  have s6:=same_new hp2 (.tup [.str "",.str z])
  have s56:=s5.trans s6
  have kl:kvs.length=i:=by
   have e1:=Paired.length hpt
   rw [List.length_map,List.length_take] at e1
   omega
  have hg5:=s56 _ _ hg4
  have hv:KdAt K (upd (upd H4 p (.tup [.str "name",.str part,.str z])) p2 (.tup [.str "",.str z])) (.ref p) (.name part z):=.name (SqT.of (s6 _ _ upd_same))
  refine⟨g,_,rfl,DPut.t (k:=keyN ("",z)) hg5 (by rw [upd_same]<;>rfl) (Nat.lt_of_lt_of_le (Nat.lt_succ_self _) (small (by omega))),?_⟩
  have kt:∀a xs,SqT K (upd (upd H4 p (.tup [.str "name",.str part,.str z])) p2 (.tup [.str "",.str z])) a xs→SqT K (upd (upd (upd H4 p (.tup [.str "name",.str part,.str z])) p2 (.tup [.str "",.str z])) g (.dT (putK kvs (keyN ("",z)) (.ref p)))) a xs:=fun a xs t=>sqt_dt hg5 t
  have ht:(hidL m1).take (i+1)=(hidL m1).take i++[z]:=by rw [List.take_add_one,hz];rfl
  refine⟨_,_,rfl,sput (s4.trans s56) hgn,?_,upd_same,?_⟩
  ·rw [upd_ne lg]
   exact s56 _ _ hl4
  ·rw [ht,List.map_append]
   refine pt_put ((hpt.same s56).keep kt) ?_ (kd_keep kt hv)
   rw [List.map_map]
   have e:((fun q:Str × Kd=>q.1)∘fun z=>(z,Kd.name part z))=id:=rfl
   show z∉((hidL m1).take i).map ((fun q:Str × Kd=>q.1)∘fun z=>(z,Kd.name part z))
   rw [e,List.map_id]
   exact out_take (hid_nodup hnd) hz
 ·rintro σ H4 ⟨y3,kvs,rfl,s4,hl4,hg4,hpt⟩
  rw [List.length_map,List.take_length] at hpt
  refine⟨_,rfl,_,rfl,fa,g,m1,m2,kvs,hidG m1 part,rfl,hL.same s4,h100,h100',dp1,dp2,hg4,fun n=>?_,fun H5 x s5 hx=>q H5 x (s4.trans s5) hx⟩
  rcases pt_val hpt n with ⟨h1,h2⟩|⟨v,k,h1,h2,h3,h4⟩
  ·refine .inl ⟨h1,if_neg fun hh=>h2 hh.1 ?_⟩
   rw [List.map_map]
   exact List.mem_map.mpr ⟨_,hh.2,rfl⟩
  ·obtain⟨z,hz,e⟩:=List.mem_map.mp h3
   cases e
   exact .inr ⟨v,_,h1,if_pos ⟨h2,hz⟩,h4⟩
end
end K42
namespace K42
open PySem L2 Kk
abbrev seN:List Str:=["_law_full_here","_law_want","_law_part","_law_due","_law_found"]
abbrev seP:List Str:=["_law_full_here","_law_want","_law_part","_law_due"]
def spSeen(K:PySem.W.Frag)(CF:Addr)(n:Nat):Sp:=fun vs H Q _=>∃(ha da:Addr) (x:V) (pz:Str) (m1:List (Str × Kd)) (m2:List (Str × (List Kd × Kd))) (d1:List (Str × Kd)) (d2:List (Str × (List Kd × Kd))),vs=[.ref ha,x,.str pz,.ref da]∧FaceF K H CF ha m1 m2∧LfAt K H da d1 d2∧AlM d1 d2 ∧
 ((x=.non∧m1=d1∧m2=d2)∨∃(wa:Addr) (n1:List (Str × Kd)) (n2:List (Str × (List Kd × Kd))),x=.ref wa∧FaceF K H CF wa n1 n2∧Two m1 n1 m2 n2 n∧(n2.map (·.1)).Nodup∧(PyData.strOk pz=true∧pz.length≤14)∧fitR m1 n1 m2 n2=none∧n1.map (putP (hidG n1 pz))=d1∧n2.map (putQ (hidG n1 pz))=d2) ∧
 ∀H',Same H H'→Q (.bl true) H'
section
variable{P:Program}{w:World}{K:PySem.W.Frag}{mg:Str→Option Value}{base:Heap}
theorem scSeen:FnScope seN seP (defScope sSeen):=⟨rfl,rfl,rfl,by decide +kernel,rfl,by decide +kernel,by decide +kernel⟩
set_option maxHeartbeats 0 in
theorem ok_seen{n:Nat}{f fs fm CF CN:Addr}{fd fds fdm:FuncData} (F:Fun K "_law_seen" "_law_seen" sSeen f fd) (hn:43≤n+4+1)
  (GS:FnOk P w K mg base (CX1 P w) (n+4+1) fs fds ["full","want","part"] (spSeenFace K CF CN n)) (bS:Binds K fds ["full","want","part"] []) (kS:PySem.W.keepIn K (.ref fs)=true) (mS:mg "seen_face"=some (.ref fs))
  (GM:FnOk P w K mg base CX0 43 fm fdm smP (spSame K CF)) (bM:Binds K fdm smP []) (kM:PySem.W.keepIn K (.ref fm)=true) (mM:mg "_law_same"=some (.ref fm)) (cF:Cls K CF) (nK:NoAttr K CF "kinds") (nF:NoAttr K CF "funs") :
  FnOk P w K mg base CX0 (n+4+1+1) f fd seP (spSeen K CF n):=by
 refine F.ok scSeen (fun vs H Q E h=>?_) (fun cdv A outer s H vs Q E hr h=>?_)
 ·obtain⟨ha,da,x,pz,m1,m2,d1,d2,rfl,_⟩:=h
  rfl
 obtain⟨ha,da,x,pz,m1,m2,d1,d2,rfl,hF,hD,hal,hx,q⟩:=h
 have hrM:Room (42+1) _:=hr.mono (show 42+1≤n+4+1 from hn)
 have hrS:Room (n+4+1) _:=hr
 refine⟨_,@pss_cons _ _ _ _ _ (ps_set (i:=4) scSeen.nd rfl (Or.inl rfl) (pe_call GS hrS rfl mS kS bS .nil passNo (@pa_cons _ _ _ _ _ (pv 0) (@pa_cons _ _ _ _ _ (pv 1) (@pa_cons _ _ _ _ _ (pv 2) pa_nil rfl) rfl) rfl)))
  (@pss_cons _ _ _ _ _ (ps_if (pt_not (L2.pt_val (pe_call GM hrM rfl mM kM bM .nil pass0 (@pa_cons _ _ _ _ _ (pv 4) (@pa_cons _ _ _ _ _ (pe_ix ix_tup (pv 3) pe_int (fun _ _=>rfl)) (@pa_cons _ _ _ _ _ (pe_ix ix_tup (pv 3) pe_int (fun _ _=>rfl)) pa_nil rfl) rfl) rfl)))) (@pss_one _ _ _ (@ps_ret _ _ _ _ pe_bl)) pss_nil)
  (@pss_cons _ _ _ _ _ (ps_expr (pe_bm0 PySem.F.plainAttrs_dict PySem.F.slot_dict_clear PySem.F.type_dict_clear mt_dclear (pe_fld (pv 4) rfl)))
  (@pss_cons _ _ _ _ _ (ps_expr (pe_bm0 PySem.F.plainAttrs_dict PySem.F.slot_dict_clear PySem.F.type_dict_clear mt_dclear (pe_fld (pv 4) rfl)))
  (@pss_cons _ _ _ _ _ (ps_set (i:=4) scSeen.nd rfl (Or.inl rfl) (pe_call GS hrS rfl mS kS bS .nil passNo (@pa_cons _ _ _ _ _ (pv 0) (@pa_cons _ _ _ _ _ (pv 1) (@pa_cons _ _ _ _ _ (pv 2) pa_nil rfl) rfl) rfl)))
  (@pss_one _ _ _ (@ps_ret _ _ _ _ (pe_call GM hrM rfl mM kM bM .nil pass0 (@pa_cons _ _ _ _ _ (pv 4) (@pa_cons _ _ _ _ _ (pe_ix ix_tup (pv 3) pe_int (fun _ _=>rfl)) (@pa_cons _ _ _ _ _ (pe_ix ix_tup (pv 3) pe_int (fun _ _=>rfl)) pa_nil rfl) rfl) rfl)))))))),?_⟩
 obtain⟨l1,l2,hda,hR1,hR2⟩:=id hD
 rcases hx with ⟨rfl,rfl,rfl⟩|⟨wa,n1,n2,rfl,hW,T,nd2,hp,hfit,rfl,rfl⟩
 ·refine⟨_,rfl,_,rfl,_,rfl,ha,_,pz,m1,m2,rfl,hF,.inl ⟨rfl,fun H2 y s2 hy hN=>?_⟩⟩
  refine⟨_,rfl,_,rfl,da,_,_,_,rfl,rfl,SqT.of (s2 _ _ hda),(show atI [V.ref l1,.ref l2] 0=some (.ref l1) from rfl),_,rfl,da,_,_,_,rfl,rfl,SqT.of (s2 _ _ hda),(show atI [V.ref l1,.ref l2] 1=some (.ref l2) from rfl),y,l1,l2,_,_,rfl,hN.face,hR1.same s2,hR2.same s2,hal,fun H3 s3=>⟨true,rfl,iteF ?_⟩⟩
  have s23:=s2.trans s3
  obtain⟨dx,e1,e2,gs,kv1,kv2,ne1,ne2,ne12,hy2,lk,lf,he1,he2,_,_,_⟩:=hN.same s3
  refine⟨_,rfl,y,CF,dx,gs,_,rfl,hy2,cF,nK,lk,.inr (.inr (.inl ⟨rfl,.inl ⟨_,he1⟩⟩)),e1,kv1,rfl,rfl,he1,?_⟩
  have s4:=sput (o:=.dK []) s23 ne1
  have yne:∀{e:Addr} {kv:List (Key × V)},H3 e=some (.dK kv)→y≠e:=fun h e=>by(rw [e,h] at hy2;cases hy2)
  have hy4:upd H3 e1 (.dK []) y=some (.ins CF dx gs):=by rw [upd_ne (yne he1)];exact hy2
  have he4:upd H3 e1 (.dK []) e2=some (.dK kv2):=by rw [upd_ne (Ne.symm ne12)];exact he2
  refine⟨_,rfl,y,CF,dx,gs,_,rfl,hy4,cF,nF,lf,.inr (.inr (.inl ⟨rfl,.inl ⟨_,he4⟩⟩)),e2,kv2,rfl,rfl,he4,?_⟩
  have s5:=sput (o:=.dK []) s4 ne2
  refine⟨_,rfl,_,rfl,_,rfl,ha,_,pz,m1,m2,rfl,hF.same s5,.inl ⟨rfl,fun H6 z s6 hz hN6=>?_⟩⟩
  have s56:=s5.trans s6
  exact⟨_,rfl,_,rfl,da,_,_,_,rfl,rfl,SqT.of (s56 _ _ hda),(show atI [V.ref l1,.ref l2] 0=some (.ref l1) from rfl),_,rfl,da,_,_,_,rfl,rfl,SqT.of (s56 _ _ hda),(show atI [V.ref l1,.ref l2] 1=some (.ref l2) from rfl),z,l1,l2,_,_,rfl,hN6.face,hR1.same s56,hR2.same s56,hal,fun H7 s7=>q _ (s56.trans s7)⟩
 ·refine⟨_,rfl,_,rfl,_,rfl,ha,_,pz,m1,m2,rfl,hF,.inr ⟨wa,n1,n2,rfl,hW,T,nd2,hp,fun r hr=>by(rw [hfit] at hr;cases hr),fun _ H2 y s2 hy hN=>?_⟩⟩
  refine⟨_,rfl,_,rfl,da,_,_,_,rfl,rfl,SqT.of (s2 _ _ hda),(show atI [V.ref l1,.ref l2] 0=some (.ref l1) from rfl),_,rfl,da,_,_,_,rfl,rfl,SqT.of (s2 _ _ hda),(show atI [V.ref l1,.ref l2] 1=some (.ref l2) from rfl),y,l1,l2,_,_,rfl,hN.face,hR1.same s2,hR2.same s2,hal,fun H3 s3=>⟨true,rfl,iteF ?_⟩⟩
  have s23:=s2.trans s3
  obtain⟨dx,e1,e2,gs,kv1,kv2,ne1,ne2,ne12,hy2,lk,lf,he1,he2,_,_,_⟩:=hN.same s3
  refine⟨_,rfl,y,CF,dx,gs,_,rfl,hy2,cF,nK,lk,.inr (.inr (.inl ⟨rfl,.inl ⟨_,he1⟩⟩)),e1,kv1,rfl,rfl,he1,?_⟩
  have s4:=sput (o:=.dK []) s23 ne1
  have yne:∀{e:Addr} {kv:List (Key × V)},H3 e=some (.dK kv)→y≠e:=fun h e=>by(rw [e,h] at hy2;cases hy2)
  have hy4:upd H3 e1 (.dK []) y=some (.ins CF dx gs):=by rw [upd_ne (yne he1)];exact hy2
  have he4:upd H3 e1 (.dK []) e2=some (.dK kv2):=by rw [upd_ne (Ne.symm ne12)];exact he2
  refine⟨_,rfl,y,CF,dx,gs,_,rfl,hy4,cF,nF,lf,.inr (.inr (.inl ⟨rfl,.inl ⟨_,he4⟩⟩)),e2,kv2,rfl,rfl,he4,?_⟩
  have s5:=sput (o:=.dK []) s4 ne2
  refine⟨_,rfl,_,rfl,_,rfl,ha,_,pz,m1,m2,rfl,hF.same s5,.inr ⟨wa,n1,n2,rfl,hW.same s5,T,nd2,hp,fun r hr=>by(rw [hfit] at hr;cases hr),fun _ H6 z s6 hz hN6=>?_⟩⟩
  have s56:=s5.trans s6
  exact⟨_,rfl,_,rfl,da,_,_,_,rfl,rfl,SqT.of (s56 _ _ hda),(show atI [V.ref l1,.ref l2] 0=some (.ref l1) from rfl),_,rfl,da,_,_,_,rfl,rfl,SqT.of (s56 _ _ hda),(show atI [V.ref l1,.ref l2] 1=some (.ref l2) from rfl),z,l1,l2,_,_,rfl,hN6.face,hR1.same s56,hR2.same s56,hal,fun H7 s7=>q _ (s56.trans s7)⟩
end
end K42
namespace K42
open PySem L2 Kk
abbrev wiN:List Str:=["_law_script","_law_part","_law_hidden_here","_law_there_here","_law_word_here","_law_kind","_law_withs_here","_law_given","_law_k","_law_cell_here"]
abbrev wiP:List Str:=["_law_script","_law_part","_law_hidden_here"]
def thG(part:Str)(m:List (Str × Kd)):Str × Str→Option Kd:=m.foldl (fun G q n=>if n=(part,q.1) then some q.2 else G n) (fun _=>none)
abbrev thT(part:Str):Str × Str→Option Kd:=thG part (thereM part)
abbrev thZ:List Str:=["k","size","both"]
def LfW(part:Str)(l:Kd):Prop:=(∃z∈thZ,l=.name part z)∨∃n:Int,l=.num n∧0≤n∧n≤10 ^ 18
structure WOk(part:Str)(hs:List Str)(ws:List (Str × Kd)):Prop where
 nd:(ws.map (·.1)).Nodup
 sub:∀q∈ws,q.1∈hs
 mx:∀q∈ws,MixK (LfW part) q.2
 len:ws.length≤hs.length
abbrev wPut(part:Str)(q:Str × Kd):Str × Kd:=(q.1,Kd.put (thT part) q.2)
def Gw(part:Str)(ws:List (Str × Kd)):Str × Str→Option Kd:=fun n=>if n.1="" then look (ws.map (wPut part)) n.2 else none
def spWiths(K:PySem.W.Frag):Sp:=fun vs H Q _=>∃(a h:Addr) (ns:List Int) (part:Str) (hs:List Str),vs=[.ref a,.str part,.ref h]∧SqL K H a (ns.map V.int)∧ns.length≤63∧H h=some (.lst (hs.map V.str))∧hs.Nodup∧hs.length≤100 ∧
 ∀H' (x t g:Addr) (xs:List V) (ws0 ws:List (Str × Kd)) (kvs:List (List Key × V)),Same H H'→H' x=some (.tup [.ref t,.ref g])→H' t=some (.tup xs)→WithsAt K H' xs ws→(ws=ws0∨ws=ws0.reverse)→H' g=some (.dT kvs)→GvAt K H' kvs (Gw part ws0)→WOk part hs ws0→Q (.ref x) H'
theorem prev{α β:Type}{R:α→β→Prop}:∀{xs:List α} {ys:List β},Paired R xs ys→Paired R xs.reverse ys.reverse
 |_,_,.nil=>.nil
 |_,_,.cons a b=>by
  rw [List.reverse_cons,List.reverse_cons]
  exact pappR (prev b) (.cons a .nil)
theorem gw_of{K:PySem.W.Frag}{H:Hp}{kvs:List (List Key × V)}{part:Str}{ws:List (Str × Kd)}(nd:(ws.map (·.1)).Nodup)(h:PtAt K H kvs (ws.map (wPut part))):GvAt K H kvs (Gw part ws):=fun n=>by
 have ndm:((ws.map (wPut part)).map (·.1)).Nodup:=by
  rw [List.map_map]
  exact nd
 rcases pt_val h n with ⟨h1,h2⟩|⟨v,k,h1,h2,h3,h4⟩
 ·refine .inl ⟨h1,?_⟩
  unfold Gw
  by_cases e:n.1=""
  ·rw [if_pos e]
   cases e2:look (ws.map (wPut part)) n.2 with
   |none=>rfl
   |some x=>exact absurd (List.mem_map.mpr ⟨_,get_of_look e2,rfl⟩) (h2 e)
  ·rw [if_neg e]
 ·refine .inr ⟨v,k,h1,?_,h4⟩
  unfold Gw
  rw [if_pos h2]
  exact look_of_get ndm h3
section
variable{P:Program}{w:World}{K:PySem.W.Frag}{mg:Str→Option Value}{base:Heap}
theorem scWiths:FnScope wiN wiP (defScope sWiths):=⟨rfl,rfl,rfl,by decide +kernel,rfl,by decide +kernel,by decide +kernel⟩
set_option maxHeartbeats 0 in
theorem ok_withs{f fc fm fp ft:Addr}{fd fdc fdm fdp fdt:FuncData} (F:Fun K "_law_withs" "_law_withs" sWiths f fd)
  (GC:FnOk P w K mg base CX0 1 fc fdc ["_law_script","_law_k"] (spCellX K)) (bC:Binds K fdc ["_law_script","_law_k"] []) (kC:PySem.W.keepIn K (.ref fc)=true) (mC:mg "_law_cell"=some (.ref fc))
  (GM:FnOk P w K mg base CX0 1 fm fdm mxP (spMix K)) (bM:Binds K fdm mxP []) (kM:PySem.W.keepIn K (.ref fm)=true) (mM:mg "_law_mix"=some (.ref fm))
  (GP:FnOk P w K mg base CX0 3 fp fdp plP (spPut K 3)) (bP:Binds K fdp plP []) (kP:PySem.W.keepIn K (.ref fp)=true) (mP:mg "_law_put"=some (.ref fp))
  (GT:FnOk P w K mg base CX0 1 ft fdt ["_law_part"] (spThere K)) (bT:Binds K fdt ["_law_part"] []) (kT:PySem.W.keepIn K (.ref ft)=true) (mT:mg "_law_there"=some (.ref ft))
  (mt:mg "tuple"=none) (mr:mg "range"=none) (ml:mg "len"=none):FnOk P w K mg base CX0 4 f fd wiP (spWiths K):=by
 refine F.ok scWiths (fun vs H Q E h=>?_) (fun cdv A outer s H vs Q E hr h=>?_)
 ·obtain⟨a,h,ns,part,hs,rfl,_⟩:=h
  rfl
 obtain⟨a,h,ns,part,hs,rfl,hA,h63,hh,hnd,h100,q⟩:=h
 have hu:=hu_of hr
 have hr1:Room 1 _:=hr.mono (by decide)
 refine⟨_,@pss_cons _ _ _ _ _ (ps_set (i:=3) scWiths.nd rfl (Or.inl rfl) pe_dnewT)
  (@pss_cons _ _ _ _ _ (ps_for PassesOwn.never rfl (pi_list (pe_call GT hr1 rfl mT kT bT .nil pass0 (@pa_cons _ _ _ _ _ (pv 1) pa_nil rfl))) (pg_tup rfl (pgs_cons (pg_name (i:=4) scWiths.nd rfl (Or.inl rfl)) (pgs_cons (pg_name (i:=5) scWiths.nd rfl (Or.inl rfl)) pgs_nil)))
   (@pss_one _ _ _ (ps_dput hu (pv 3) (@pe_tup _ _ _ _ _ (@pa_cons _ _ _ _ _ (pv 1) (@pa_cons _ _ _ _ _ (pv 4) pa_nil rfl) rfl)) (pv 5) rfl)))
  (@pss_cons _ _ _ _ _ (ps_set (i:=6) scWiths.nd rfl (Or.inl rfl) (pe_lst pa_nil))
  (@pss_cons _ _ _ _ _ (ps_set (i:=7) scWiths.nd rfl (Or.inl rfl) pe_dnewT)
  (@pss_cons _ _ _ _ _ (ps_for PassesOwn.never rfl (pi_range1 rfl mr (@pa_cons _ _ _ _ _ (pe_callB call_len_seq rfl ml PySem.boot_len (@pa_cons _ _ _ _ _ (pv 2) pa_nil rfl)) pa_nil rfl)) (pg_name (i:=8) scWiths.nd rfl (Or.inl rfl))
   (@pss_cons _ _ _ _ _ (ps_set (i:=9) scWiths.nd rfl (Or.inl rfl) (pe_call GC hr1 rfl mC kC bC .nil pass0 (@pa_cons _ _ _ _ _ (pv 0) (@pa_cons _ _ _ _ _ (pe_op op_add pe_int (pv 8)) pa_nil rfl) rfl)))
   (@pss_one _ _ _ (ps_if (pt_cmpR op_eq (pe_op op_mod (pv 9) pe_int) pe_int (nomark _))
    (@pss_cons _ _ _ _ _ (ps_set (i:=5) scWiths.nd rfl (Or.inl rfl) (pe_call GM hr1 rfl mM kM bM .nil pass0 (@pa_cons _ _ _ _ _ (pe_op op_fdiv (pv 9) pe_int) (@pa_cons _ _ _ _ _ (pe_comp (own:=["_law_word_here","_law_kind"]) (caps:=["_law_part"]) (κ:=[1]) rfl ⟨rfl,by decide +kernel,by decide +kernel,rfl,rfl,one_of rfl,one_of ⟨.inl rfl,rfl,.inl rfl⟩⟩ rfl
     (pi_list (pe_call GT hr1 rfl mT kT bT .nil pass0 (@pa_cons _ _ _ _ _ (pv 1) pa_nil rfl))) (fun _ _ _ _=>pg_two (K:=K) (i:=0) (j:=1) rfl rfl (show(["_law_word_here","_law_kind","_law_part"]:List Str).Nodup from by decide +kernel) rfl (Or.inl rfl) (Or.inr rfl) rfl (Or.inl rfl) (Or.inr rfl))
     (fun _ _ _ _=>pe_tup (@pa_cons _ _ _ _ _ pe_str (@pa_cons _ _ _ _ _ (pv 2) (@pa_cons _ _ _ _ _ (pv 0) pa_nil rfl) rfl) rfl))) pa_nil rfl) rfl)))
    (@pss_cons _ _ _ _ _ (ps_expr (pe_bm PySem.F.plainAttrs_list PySem.F.slot_list_append PySem.F.type_list_append mt_append (pv 6) (@pa_cons _ _ _ _ _ (@pe_tup _ _ _ _ _ (@pa_cons _ _ _ _ _ (pe_ix ix_list (pv 2) (pv 8) (fun _ _=>rfl)) (@pa_cons _ _ _ _ _ (pv 5) pa_nil rfl) rfl)) pa_nil rfl)))
    (@pss_one _ _ _ (ps_dput hu (pv 7) (@pe_tup _ _ _ _ _ (@pa_cons _ _ _ _ _ pe_str (@pa_cons _ _ _ _ _ (pe_ix ix_list (pv 2) (pv 8) (fun _ _=>rfl)) pa_nil rfl) rfl)) (pe_call GP hr rfl mP kP bP .nil pass0 (@pa_cons _ _ _ _ _ (pv 5) (@pa_cons _ _ _ _ _ (pv 3) pa_nil rfl) rfl)) rfl))))
    pss_nil))))
  (@pss_cons _ _ _ _ _ (ps_if (pt_cmpR op_eq (pe_op op_mod (pe_call GC hr1 rfl mC kC bC .nil pass0 (@pa_cons _ _ _ _ _ (pv 0) (@pa_cons _ _ _ _ _ pe_int pa_nil rfl) rfl)) pe_int) pe_int (nomark _))
   (@pss_one _ _ _ (ps_set (i:=6) scWiths.nd rfl (Or.inl rfl) (pe_rev (pv 6) (pe_un un_neg pe_int) (fun _ _ _ h=>⟨1,rfl,h⟩) (fun _ _=>⟨_,rfl⟩)))) pss_nil)
  (@pss_one _ _ _ (@ps_ret _ _ _ _ (@pe_tup _ _ _ _ _ (@pa_cons _ _ _ _ _ (pe_callTy call_tuple_of rfl mt bootTuple (@pa_cons _ _ _ _ _ (pv 6) pa_nil rfl)) (@pa_cons _ _ _ _ _ (pv 7) pa_nil rfl) rfl))))))))),?_⟩
 have cl:∀{H':Hp},Same H H'→SqL K H' a (ns.map V.int):=fun e=>sql_same e hA
 intro g0 hg0
 have s1:=same_new hg0 (.dT [])
 refine⟨_,rfl,part,rfl,fun H2 l s2 hl=>?_⟩
 obtain⟨xs,hlx,hxs⟩:=hl
 have hg2:=s2 _ _ (show upd H g0 (.dT []) g0=some (.dT []) from upd_same)
 have s12:=s1.trans s2
 have lg:l≠g0:=fun e=>by rw [e,hg2] at hlx;cases hlx
 refine⟨l,rfl,⟨_,SqL.of hlx⟩,?_⟩
 refine for_list (K:=K) (xs:=xs) (fun i σ H4=>∃(y4 y5:Option V) (kvs:List (List Key × V)),σ=[some (.ref a),some (.str part),some (.ref h),some (.ref g0),y4,y5,none,none,none,none]∧Same H H4∧H4 l=some (.lst xs)∧Paired (PrAt K H4) xs (thereM part)∧H4 g0=some (.dT kvs)∧kvs.length≤i∧GvAt K H4 kvs (thG part ((thereM part).take i)))
  ⟨none,none,[],rfl,s12,hlx,hxs,hg2,Nat.le_refl _,fun n=>.inl ⟨rfl,rfl⟩⟩ ?_ ?_ ?_
 ·rintro i σ H4 _ ⟨_,_,_,_,_,hl4,_⟩
  exact SqL.of hl4
 ·rintro i y σ H4 hy ⟨y4,y5,kvs,rfl,s4,hl4,hp4,hg4,hkl,hG4⟩
  obtain⟨⟨z,k⟩,hq,p,yv,rfl,hp,hyk⟩:=pair_get hp4 hy
  replace hp:H4 p=some (.tup [.str z,yv]):=hp
  replace hyk:KdAt K H4 yv k:=hyk
  have hi:i < 3:=(List.getElem?_eq_some_iff.mp hq).1
  refine⟨p,_,rfl,SqT.of hp,rfl,_,_,rfl,_,_,rfl,rfl,_,rfl,_,rfl,_,rfl,_,rfl,(by show 2≤sizeLine;decide),fun p2 hp2=>?_⟩
  have s5:=same_new hp2 (.tup [.str part,.str z])
  have hg5:=s5 _ _ hg4
  refine⟨g0,_,rfl,DPut.t (k:=keyN (part,z)) hg5 (by rw [upd_same]<;>rfl) (Nat.lt_of_lt_of_le (Nat.lt_succ_self _) (small (by omega))),?_⟩
  have kt:∀a' xs',SqT K (upd H4 p2 (.tup [.str part,.str z])) a' xs'→SqT K (upd (upd H4 p2 (.tup [.str part,.str z])) g0 (.dT (putK kvs (keyN (part,z)) yv))) a' xs':=fun a' xs' t=>sqt_dt hg5 t
  have ht:(thereM part).take (i+1)=(thereM part).take i++[(z,k)]:=by rw [List.take_add_one,hq];rfl
  refine⟨_,_,_,rfl,sput (s4.trans s5) hg0,?_,Paired.mapP hp4 fun _ _ hh=>?_,upd_same,?_,?_⟩
  ·rw [upd_ne lg]
   exact s5 _ _ hl4
  ·obtain⟨pp,py,e1,e2,e3⟩:=hh.same s5
   exact⟨pp,py,e1,by rw [upd_ne (fun e=>by rw [e,hg5] at e2;cases e2)];exact e2,kd_keep kt e3⟩
  ·have:=length_putK kvs (keyN (part,z)) yv
   omega
  ·have e:thG part ((thereM part).take (i+1))=fun n=>if n=(part,z) then some k else thG part ((thereM part).take i) n:=by
    unfold thG
    rw [ht,List.foldl_append]
    rfl
   rw [e]
   refine gv_put (fun n=>?_) (kd_keep kt (hyk.same s5))
   rcases hG4 n with hh|⟨v,k',h1,h2,h3⟩
   ·exact .inl hh
   ·exact .inr ⟨v,k',h1,h2,kd_keep kt (h3.same s5)⟩
 rintro σ H4 ⟨y4,y5,kvs0,rfl,s4,hl4,hp4,hg4,hkl,hG4⟩
 have hxl:xs.length=3:=Paired.length hp4
 rw [hxl] at hkl hG4
 have hG4':GvAt K H4 kvs0 (thT part):=hG4
 clear hG4 hp4 hl4 lg hlx hxs s2 hg2 s12
 refine⟨(by show 0≤sizeLine;decide),fun wl hwl=>?_⟩
 have s5:=same_new hwl (.lst [])
 intro gv hgv
 have s6:=same_new hgv (.dT [])
 have s56:=s5.trans s6
 have s06:=s4.trans s56
 have hwl0:H wl=none:=s4.free hwl
 have hgv0:H gv=none:=(s4.trans s5).free hgv
 have wg:wl≠gv:=fun e=>by rw [←e,upd_same] at hgv;cases hgv
 have hw6:=s6 _ _ (show upd H4 wl (.lst []) wl=some (.lst []) from upd_same)
 have g06:=s56 _ _ hg4
 have gg:g0≠gv:=fun e=>by rw [←e,s5 _ _ hg4] at hgv;cases hgv
 have gw:g0≠wl:=fun e=>by rw [←e,hg4] at hwl;cases hwl
 have G6:=hG4'.same s56
 have hl6:hs.length < sizeLine:=Nat.lt_of_lt_of_le (Nat.lt_succ_self _) (small (by omega))
 refine⟨_,rfl,h,_,rfl,.inl (SqL.of (s06 _ _ hh)),_,rfl,by omega,by rw [List.length_map];omega,?_⟩
 have hw0:=hw6
 refine for_range (fun i σ H7=>∃(y4 y5 y8 y9:Option V) (us:List V) (kv:List (List Key × V)) (ws0:List (Str × Kd)),σ=[some (.ref a),some (.str part),some (.ref h),some (.ref g0),y4,y5,some (.ref wl),some (.ref gv),y8,y9]∧Same H H7∧H7 wl=some (.lst us)∧Paired (PrAt K H7) us ws0∧H7 gv=some (.dT kv)∧PtAt K H7 kv (ws0.map (wPut part))∧H7 g0=some (.dT kvs0)∧GvAt K H7 kvs0 (thT part)∧(ws0.map (·.1)).Sublist (hs.take i)∧∀q∈ws0,MixK (LfW part) q.2)
  ⟨y4,y5,none,none,[],[],[],rfl,s06,hw6,.nil,upd_same,.nil,g06,G6,List.nil_sublist _,fun q hq=>nomatch hq⟩ ?_ ?_
 ·rintro i σ H7 hi ⟨z4,z5,z8,z9,us,kv,ws0,rfl,s7,hw7,hp7,hv7,hpt,hg7,hG7,hsub,hmx⟩
  rw [Int.zero_add]
  have hil:i < hs.length:=by(have:=hi;rw [List.length_map] at this;omega)
  obtain⟨z,hz⟩:∃z,hs[i]?=some z:=⟨_,List.getElem?_eq_getElem hil⟩
  have hat:atI (hs.map V.str) (i:Int)=some (.str z):=atI_nat (by rw [List.getElem?_map,hz];rfl)
  have hwn:ws0.length≤i:=by
   have e:=hsub.length_le
   rw [List.length_map,List.length_take] at e
   omega
  have hul:=Paired.length hp7
  have hkl7:=Paired.length hpt
  rw [List.length_map] at hkl7
  refine⟨_,rfl,_,rfl,_,_,rfl,rfl,a,ns,8+(i:Int),rfl,cl s7,h63,by omega,by omega,fun c hc=>?_⟩
  refine⟨_,rfl,_,_,rfl,rfl,(by show(0:Int) < 2;decide),rfl,_,rfl,ite2 (fun _=>?_) (fun _=>?_)⟩
  ·refine⟨_,rfl,_,_,rfl,rfl,⟨by decide,by decide⟩,_,rfl,part,rfl,fun H8 l8 s8 hl8=>?_⟩
   obtain⟨xs8,hl8x,hx8⟩:=hl8
   have hx3:xs8.length=3:=Paired.length hx8
   refine⟨l8,rfl,⟨_,SqL.of hl8x⟩,?_⟩
   refine comp_l (SqL.of hl8x) (by omega) (fun i ys H9=>ys.length=i∧KdsAt K H9 ys (((thereM part).take i).map fun q=>.name part q.1)) ⟨rfl,.nil⟩ (fun _ _ _ h=>Nat.le_of_eq h.1) ?_ ?_
   ·rintro j x zs H9 N hN hx s9 ⟨hz9,hzs⟩
    obtain⟨⟨zj,kj⟩,hqj,p,y,rfl,hp,hy⟩:=pair_get hx8 hx
    replace hp:H8 p=some (.tup [.str zj,y]):=hp
    refine⟨p,_,rfl,SqT.of (s9 _ _ hp),rfl,_,_,rfl,_,_,rfl,rfl,rfl,tYes_go ⟨_,rfl,_,rfl,(by show 3≤sizeLine;decide),fun p3 hp3=>?_⟩⟩
    have t9:=same_new hp3 (.tup [.str "name",.str part,.str zj])
    refine hN _ _ (s9.trans t9) ⟨by rw [List.length_append,hz9];rfl,?_⟩
    rw [List.take_add_one,hqj,List.map_append]
    exact(hzs.same t9).append (.cons (.name (SqT.of upd_same)) .nil)
   rintro zs H9 D s9 ⟨_,hzs⟩ hD
   rw [hx3] at hzs
   replace hzs:KdsAt K H9 zs (thZ.map fun z=>.name part z):=hzs
   have t9:=same_new hD (.lst zs)
   have s19:=s8.trans (s9.trans t9)
   refine⟨_,D,zs,_,LfW part,rfl,upd_same,hzs.same t9,by show 3≤50;decide,fun k hk=>?_,fun n h0 h1=>.inr ⟨n,rfl,h0,h1⟩,fun Ha v k sa hv hm=>?_⟩
   ·obtain⟨z',hz',rfl⟩:=List.mem_map.mp hk
    exact⟨rfl,.inl ⟨z',hz',rfl⟩⟩
   have s1a:=s19.trans sa
   have s0a:=s7.trans s1a
   refine⟨_,rfl,.inl ⟨rfl,_,SqL.of (s1a _ _ hw7)⟩,_,rfl,_,rfl,h,_,_,_,rfl,rfl,SqL.of (s0a _ _ hh),hat,_,rfl,(by show 2≤sizeLine;decide),fun p1 hp1=>?_⟩
   have u1:=same_new hp1 (.tup [.str z,v])
   have sE:=s1a.trans u1
   have hw1:=sE _ _ hw7
   refine⟨wl,us,.ref p1,rfl,rfl,hw1,Nat.lt_of_lt_of_le (Nat.lt_succ_self _) (small (by omega)),?_⟩
   have kt:∀a' zz,SqT K (upd Ha p1 (.tup [.str z,v])) a' zz→SqT K (upd (upd Ha p1 (.tup [.str z,v])) wl (.lst (us++[.ref p1]))) a' zz:=fun _ _ t=>sqt_upd hw1 t
   have ht:∀{a':Addr} {zz:List V},(upd Ha p1 (.tup [.str z,v])) a'=some (.tup zz)→(upd (upd Ha p1 (.tup [.str z,v])) wl (.lst (us++[.ref p1]))) a'=some (.tup zz):=fun {a' zz} e=>by
    rw [upd_ne (fun e'=>by rw [e',hw1] at e;cases e)]
    exact e
   have sB:Same H (upd (upd Ha p1 (.tup [.str z,v])) wl (.lst (us++[.ref p1]))):=sput (s7.trans sE) hwl0
   have gB:(upd (upd Ha p1 (.tup [.str z,v])) wl (.lst (us++[.ref p1]))) g0=some (.dT kvs0):=by rw [upd_ne gw];exact sE _ _ hg7
   have vB:(upd (upd Ha p1 (.tup [.str z,v])) wl (.lst (us++[.ref p1]))) gv=some (.dT kv):=by rw [upd_ne (Ne.symm wg)];exact sE _ _ hv7
   have pB:Paired (PrAt K (upd (upd Ha p1 (.tup [.str z,v])) wl (.lst (us++[.ref p1])))) (us++[.ref p1]) (ws0++[(z,k)]):=by
    refine pappR (Paired.mapP hp7 fun _ _ e=>?_) (.cons ⟨p1,v,rfl,ht upd_same,kd_keep kt (hv.same u1)⟩ .nil)
    obtain⟨pp,py,e1,e2,e3⟩:=e.same sE
    exact⟨pp,py,e1,ht e2,kd_keep kt e3⟩
   have GB:GvAt K (upd (upd Ha p1 (.tup [.str z,v])) wl (.lst (us++[.ref p1]))) kvs0 (thT part):=fun n=>by
    rcases hG7 n with e|⟨v',k',e1,e2,e3⟩
    ·exact .inl e
    ·exact .inr ⟨v',k',e1,e2,kd_keep kt (e3.same sE)⟩
   have tB:=(hpt.same sE).keep kt
   have kB:=kd_keep kt (hv.same u1)
   have wB:(upd (upd Ha p1 (.tup [.str z,v])) wl (.lst (us++[.ref p1]))) wl=some (.lst (us++[.ref p1])):=upd_same
   generalize upd (upd Ha p1 (.tup [.str z,v])) wl (.lst (us++[.ref p1]))=HB at sB gB vB pB GB tB kB wB ⊢
   refine⟨_,rfl,_,rfl,v,g0,k,kvs0,thT part,rfl,kB,hm.2.2,gB,GB,fun HC v2 sC hv2=>?_⟩
   refine⟨_,rfl,_,rfl,_,rfl,h,_,_,_,rfl,rfl,SqL.of (sC _ _ (sB _ _ hh)),hat,(by show 2≤sizeLine;decide),fun p2 hp2=>?_⟩
   have u2:=same_new hp2 (.tup [.str "",.str z])
   have sD:=sC.trans u2
   have vD:=sD _ _ vB
   refine⟨gv,_,rfl,DPut.t (k:=keyN ("",z)) vD (by rw [upd_same]<;>rfl) (Nat.lt_of_lt_of_le (Nat.lt_succ_self _) (small (by omega))),?_⟩
   have kt2:∀a' zz,SqT K (upd HC p2 (.tup [.str "",.str z])) a' zz→SqT K (upd (upd HC p2 (.tup [.str "",.str z])) gv (.dT (putK kv (keyN ("",z)) v2))) a' zz:=fun _ _ t=>sqt_dt vD t
   have hzn:z∉ws0.map (·.1):=fun e=>out_take hnd hz (hsub.subset e)
   refine⟨_,_,_,_,us++[.ref p1],_,ws0++[(z,k)],rfl,sput (sB.trans sD) hgv0,?_,Paired.mapP pB fun _ _ e=>?_,upd_same,?_,?_,fun n=>?_,?_,fun q hq=>?_⟩
   ·rw [upd_ne wg]
    exact sD _ _ wB
   ·obtain⟨pp,py,e1,e2,e3⟩:=e.same sD
    exact⟨pp,py,e1,by rw [upd_ne (fun e'=>by rw [e',vD] at e2;cases e2)];exact e2,kd_keep kt2 e3⟩
   ·rw [List.map_append]
    refine pt_put ((tB.same sD).keep kt2) ?_ (kd_keep kt2 (hv2.same u2))
    rw [List.map_map]
    exact hzn
   ·rw [upd_ne gg]
    exact sD _ _ gB
   ·rcases GB n with e|⟨v',k',e1,e2,e3⟩
    ·exact .inl e
    ·exact .inr ⟨v',k',e1,e2,kd_keep kt2 (e3.same sD)⟩
   ·rw [List.map_append,List.take_add_one,hz]
    exact hsub.append (List.Sublist.refl _)
   ·rcases List.mem_append.mp hq with e|e
    ·exact hmx q e
    ·rw [List.mem_singleton.mp e]
     exact hm
  ·refine⟨_,_,_,_,us,kv,ws0,rfl,s7,hw7,hp7,hv7,hpt,hg7,hG7,?_,hmx⟩
   rw [List.take_add_one]
   exact hsub.trans (List.sublist_append_left _ _)
 rintro σ H7 ⟨z4,z5,z8,z9,us,kv,ws0,rfl,s7,hw7,hp7,hv7,hpt,hg7,hG7,hsub,hmx⟩
 have hsub':(ws0.map (·.1)).Sublist hs:=hsub.trans (List.take_sublist _ _)
 have ok:WOk part hs ws0:=⟨hnd.sublist hsub',fun q hq=>hsub'.subset (List.mem_map.mpr ⟨q,hq,rfl⟩),hmx,by have:=hsub'.length_le;rw [List.length_map] at this;exact this⟩
 have fin:∀(H8:Hp) (l:Addr) (vs:List V) (ws:List (Str × Kd)),Same H7 H8→H8 l=some (.lst vs)→Paired (PrAt K H8) vs ws→(ws=ws0∨ws=ws0.reverse)→∀t,H8 t=none→∀x,upd H8 t (.tup vs) x=none→Q (.ref x) (upd (upd H8 t (.tup vs)) x (.tup [.ref t,.ref gv])):=fun H8 l vs ws s8 hl hp hw t ht x hx=>by
  have u1:=same_new ht (.tup vs)
  have u2:=same_new hx (.tup [.ref t,.ref gv])
  have sA:=s8.trans (u1.trans u2)
  refine q _ x t gv vs ws0 ws kv (s7.trans sA) upd_same (u2 _ _ upd_same) (Paired.mapP hp fun _ _ e=>?_) hw (sA _ _ hv7) ((gw_of ok.nd hpt).same sA) ok
  obtain⟨pp,py,e1,e2,e3⟩:=e.same (u1.trans u2)
  exact⟨pp,py,e1,SqT.of e2,e3⟩
 refine⟨_,rfl,a,ns,7,rfl,cl s7,h63,by decide,by decide,fun c hc=>⟨_,_,rfl,rfl,(by show(0:Int) < 2;decide),rfl,_,rfl,ite2 (fun _=>?_) (fun _=>?_)⟩⟩
 ·refine⟨_,rfl,wl,us,rfl,SqL.of hw7,fun p hp=>?_⟩
  have u:=same_new hp (.lst us.reverse)
  refine⟨_,rfl,p,us.reverse,rfl,.inl ⟨SqL.of upd_same,fun t ht=>⟨_,rfl,(by show 2≤sizeLine;decide),fun x hx=>?_⟩⟩⟩
  exact fin _ p _ ws0.reverse u upd_same (prev (Paired.mapP hp7 fun _ _ e=>e.same u)) (.inr rfl) t ht x hx
 ·refine⟨_,rfl,wl,us,rfl,.inl ⟨SqL.of hw7,fun t ht=>⟨_,rfl,(by show 2≤sizeLine;decide),fun x hx=>?_⟩⟩⟩
  exact fin H7 wl us ws0 (Same.refl _) hw7 hp7 (.inl rfl) t ht x hx
end
end K42
namespace K42
open PySem L2 Kk
theorem hid_len(m:List (Str × Kd)):(hidL m).length≤m.length:=by
 unfold hidL
 rw [List.length_map]
 exact List.length_filter_le _ _
abbrev fuN:List Str:=["_law_script","_law_face_here","_law_given","_law_hidden_here","_law_k","_law_kinds","_law_funs","_law_more","_law_row"]
abbrev fuP:List Str:=["_law_script","_law_face_here"]
abbrev farK:Kd:=.name "far" "k"
def moreK(ns:List Int)(j:Nat):Str × Kd:=(wordL (cellOf ns 1) (10+(j:Int)),.num (5+(j:Int)))
def moreF(ns:List Int)(j:Nat):Str × (List Kd × Kd):=(wordL (cellOf ns 2) (10+(j:Int)),(List.replicate j (.num 2),.num 9))
def Apart{α:Type}(mk:Nat→Str × α)(m:List (Str × α)):Prop:=∀i,i < 4→∀q∈m,q.1≠(mk i).1
def Inj4{α:Type}(mk:Nat→Str × α):Prop:=∀i j,i < 4→j < 4→(mk i).1=(mk j).1→i=j
structure Ful{α:Type}(mk:Nat→Str × α)(m f:List (Str × α))(i:Nat):Prop where
 nd:(f.map (·.1)).Nodup
 sub:∀q∈m,q∈f
 frm:∀q∈f,q∈m∨∃j,j < i∧q=mk j
 len:f.length≤m.length+i
theorem injK(ns:List Int):Inj4 (moreK ns):=fun i j hi hj e=>by
 have:=wordL_inj e
 omega
theorem injF(ns:List Int):Inj4 (moreF ns):=fun i j hi hj e=>by
 have:=wordL_inj e
 omega
theorem Ful.new{α:Type}{mk:Nat→Str × α}{m f:List (Str × α)}{i:Nat}(h:Ful mk m f i)(a:Apart mk m)(n:Inj4 mk)(hi:i < 4):∀q∈f,q.1≠(mk i).1:=fun q hq e=>by
 rcases h.frm q hq with h1|⟨j,h1,rfl⟩
 ·exact a i hi q h1 e
 ·have:=n j i (by omega) hi e
  omega
theorem Ful.front{α:Type}{mk:Nat→Str × α}{m f:List (Str × α)}{i:Nat}(h:Ful mk m f i)(a:Apart mk m)(n:Inj4 mk)(hi:i < 4):Ful mk m ([mk i]++f) (i+1):=by
 refine⟨?_,fun q hq=>List.mem_append_right _ (h.sub q hq),fun q hq=>?_,by rw [List.length_append,List.length_singleton];have:=h.len;omega⟩
 ·show((mk i).1::f.map (·.1)).Nodup
  refine List.nodup_cons.mpr ⟨fun e=>?_,h.nd⟩
  obtain⟨q,hq,e⟩:=List.mem_map.mp e
  exact h.new a n hi q hq e
 ·rcases List.mem_append.mp hq with e|e
  ·exact .inr ⟨i,Nat.lt_succ_self _,List.mem_singleton.mp e⟩
  ·rcases h.frm q e with h1|⟨j,h1,h2⟩
   ·exact .inl h1
   ·exact .inr ⟨j,by omega,h2⟩
theorem Ful.back{α:Type}{mk:Nat→Str × α}{m f:List (Str × α)}{i:Nat}(h:Ful mk m f i)(a:Apart mk m)(n:Inj4 mk)(hi:i < 4):Ful mk m (f++[mk i]) (i+1):=by
 have p:=List.perm_append_comm (l₁:=[mk i]) (l₂:=f)
 have h':=h.front a n hi
 refine⟨(p.map (·.1)).nodup_iff.mp h'.nd,fun q hq=>p.mem_iff.mp (h'.sub q hq),fun q hq=>h'.frm q (p.mem_iff.mpr hq),by rw [←p.length_eq];exact h'.len⟩
theorem kds_rep{K:PySem.W.Frag}{H:Hp}{v:V}{k:Kd}(h:KdAt K H v k):∀n:Nat,KdsAt K H (List.replicate n [v]).flatten (List.replicate n k)
 |0=>.nil
 |n+1=>.cons h (kds_rep h n)
section
variable{P:Program}{w:World}{K:PySem.W.Frag}{mg:Str→Option Value}{base:Heap}
theorem scFull:FnScope fuN fuP (defScope sFull):=⟨rfl,rfl,rfl,by decide +kernel,rfl,by decide +kernel,by decide +kernel⟩
set_option maxHeartbeats 0 in
theorem fl4{f fc fw:Addr}{fdc fdw:FuncData}{n:Nat}
  (GC:FnOk P w K mg base CX0 1 fc fdc ["_law_script","_law_k"] (spCellX K)) (bC:Binds K fdc ["_law_script","_law_k"] []) (kC:PySem.W.keepIn K (.ref fc)=true) (mC:mg "_law_cell"=some (.ref fc))
  (GW:FnOk P w K mg base CX0 1 fw fdw wlP spWordL) (bW:Binds K fdw wlP []) (kW:PySem.W.keepIn K (.ref fw)=true) (mW:mg "_law_word"=some (.ref fw)) (mr:mg "range"=none)
  {cdv:Value} {A:Around} {outer:List Env} {s:Shared} {H:Hp} {E:XK} (hr:Room (n+1) (A.deeper (PyProof.Rows.envOfC "_law_full" (defScope sFull) s.heap.objs.size f cdv))) :
  ∃t,PSs (cxOf CX0 P w K mg base fuN "_law_full" (defScope sFull) f cdv A outer s H E).nox (List.drop 4 (defBody sFull)) t ∧
   ∀(Q:VK) (H1:Hp) (a kl fl:Addr) (ns:List Int) (m1:List (Str × Kd)) (m2:List (Str × (List Kd × Kd))) (x1 x2 x3 x4 x7 x8:Option V),
    SqL K H1 a (ns.map V.int)→ns.length≤63→RkAt K H1 kl m1→RfAt K H1 fl m2→(m1.map (·.1)).Nodup→(m2.map (·.1)).Nodup→m1.length≤90→m2.length≤90→Apart (moreK ns) m1→Apart (moreF ns) m2 →
    (∀H' x f1 f2 i,i < 4→Same H1 H'→LfAt K H' x f1 f2→Ful (moreK ns) m1 f1 i→Ful (moreF ns) m2 f2 i→Q (.ref x) H') →
    t { nx:=fun _ H'=>Q .non H',rt:=Q } [some (.ref a),x1,x2,x3,x4,some (.ref kl),some (.ref fl),x7,x8] H1:=by
 have hr1:Room 1 _:=hr.mono (by omega)
 refine⟨_,@pss_cons _ _ _ _ _ (ps_for PassesOwn.never rfl (pi_range1 rfl mr (@pa_cons _ _ _ _ _ (pe_op op_mod (pe_call GC hr1 rfl mC kC bC .nil pass0 (@pa_cons _ _ _ _ _ (pv 0) (@pa_cons _ _ _ _ _ pe_int pa_nil rfl) rfl)) pe_int) pa_nil rfl)) (pg_name (i:=4) scFull.nd rfl (Or.inl rfl))
   (@pss_cons _ _ _ _ _ (ps_set (i:=7) scFull.nd rfl (Or.inl rfl) (@pe_tup _ _ _ _ _ (@pa_cons _ _ _ _ _ (pe_call GW hr1 rfl mW kW bW .nil pass0 (@pa_cons _ _ _ _ _ (pe_call GC hr1 rfl mC kC bC .nil pass0 (@pa_cons _ _ _ _ _ (pv 0) (@pa_cons _ _ _ _ _ pe_int pa_nil rfl) rfl)) (@pa_cons _ _ _ _ _ (pe_op op_add pe_int (pv 4)) pa_nil rfl) rfl)) (@pa_cons _ _ _ _ _ (@pe_tup _ _ _ _ _ (@pa_cons _ _ _ _ _ pe_str (@pa_cons _ _ _ _ _ (pe_op op_add pe_int (pv 4)) pa_nil rfl) rfl)) pa_nil rfl) rfl)))
   (@pss_cons _ _ _ _ _ (ps_set (i:=8) scFull.nd rfl (Or.inl rfl) (@pe_tup _ _ _ _ _ (@pa_cons _ _ _ _ _ (pe_call GW hr1 rfl mW kW bW .nil pass0 (@pa_cons _ _ _ _ _ (pe_call GC hr1 rfl mC kC bC .nil pass0 (@pa_cons _ _ _ _ _ (pv 0) (@pa_cons _ _ _ _ _ pe_int pa_nil rfl) rfl)) (@pa_cons _ _ _ _ _ (pe_op op_add pe_int (pv 4)) pa_nil rfl) rfl)) (@pa_cons _ _ _ _ _ (@pe_tup _ _ _ _ _ (@pa_cons _ _ _ _ _ (pe_op op_mulT (@pe_tup _ _ _ _ _ (@pa_cons _ _ _ _ _ (@pe_tup _ _ _ _ _ (@pa_cons _ _ _ _ _ pe_str (@pa_cons _ _ _ _ _ pe_int pa_nil rfl) rfl)) pa_nil rfl)) (pv 4)) (@pa_cons _ _ _ _ _ (@pe_tup _ _ _ _ _ (@pa_cons _ _ _ _ _ pe_str (@pa_cons _ _ _ _ _ pe_int pa_nil rfl) rfl)) pa_nil rfl) rfl)) pa_nil rfl) rfl)))
   (@pss_one _ _ _ (ps_if (pt_cmpR op_eq (pe_op op_mod (pe_op op_fdiv (pe_call GC hr1 rfl mC kC bC .nil pass0 (@pa_cons _ _ _ _ _ (pv 0) (@pa_cons _ _ _ _ _ pe_int pa_nil rfl) rfl)) pe_int) pe_int) pe_int (nomark _))
    (@pss_cons _ _ _ _ _ (ps_set (i:=5) scFull.nd rfl (Or.inl rfl) (pe_op op_cat (pe_lst (@pa_cons _ _ _ _ _ (pv 7) pa_nil rfl)) (pv 5)))
    (@pss_one _ _ _ (ps_set (i:=6) scFull.nd rfl (Or.inl rfl) (pe_op op_cat (pe_lst (@pa_cons _ _ _ _ _ (pv 8) pa_nil rfl)) (pv 6)))))
    (@pss_cons _ _ _ _ _ (ps_set (i:=5) scFull.nd rfl (Or.inl rfl) (pe_op op_cat (pv 5) (pe_lst (@pa_cons _ _ _ _ _ (pv 7) pa_nil rfl))))
    (@pss_one _ _ _ (ps_set (i:=6) scFull.nd rfl (Or.inl rfl) (pe_op op_cat (pv 6) (pe_lst (@pa_cons _ _ _ _ _ (pv 8) pa_nil rfl))))))))))) 
  (@pss_one _ _ _ (@ps_ret _ _ _ _ (@pe_tup _ _ _ _ _ (@pa_cons _ _ _ _ _ (pv 5) (@pa_cons _ _ _ _ _ (pv 6) pa_nil rfl) rfl)))),?_⟩
 intro Q H1 a kl fl ns m1 m2 x1 x2 x3 x4 x7 x8 hA h63 hk hf nd1 nd2 l1 l2 ap1 ap2 q
 have cl:∀{H':Hp},Same H1 H'→SqL K H' a (ns.map V.int):=fun e=>sql_same e hA
 refine⟨_,rfl,a,ns,14,rfl,hA,h63,by decide,by decide,fun c14 _=>?_⟩
 have r0:=Int.emod_nonneg c14 (show(4:Int)≠0 by decide)
 have r1:=Int.emod_lt_of_pos c14 (show(0:Int) < 4 by decide)
 refine⟨_,_,rfl,rfl,(by show(0:Int) < 4;decide),_,rfl,by omega,by omega,?_⟩
 refine for_range (fun i σ H2=>∃(y4 y7 y8:Option V) (kl fl:Addr) (f1:List (Str × Kd)) (f2:List (Str × (List Kd × Kd))),σ=[some (.ref a),x1,x2,x3,y4,some (.ref kl),some (.ref fl),y7,y8]∧Same H1 H2∧RkAt K H2 kl f1∧RfAt K H2 fl f2∧Ful (moreK ns) m1 f1 i∧Ful (moreF ns) m2 f2 i)
  ⟨x4,x7,x8,kl,fl,m1,m2,rfl,Same.refl _,hk,hf,⟨nd1,fun _ h=>h,fun _ h=>.inl h,Nat.le_refl _⟩,⟨nd2,fun _ h=>h,fun _ h=>.inl h,Nat.le_refl _⟩⟩ ?_ ?_
 ·rintro i σ H2 hi ⟨y4,y7,y8,kl,fl,f1,f2,rfl,s2,hk2,hf2,U1,U2⟩
  rw [Int.zero_add]
  have hi4:i < 4:=by omega
  refine⟨_,rfl,a,ns,1,rfl,cl s2,h63,by decide,by decide,fun c hc=>⟨_,rfl,_,_,rfl,rfl,c,10+(i:Int),rfl,fun H3 s3=>?_⟩⟩
  subst hc
  refine⟨_,rfl,_,_,rfl,rfl,(by show 2≤sizeLine;decide),fun p1 hp1=>?_⟩
  have u1:=same_new hp1 (.tup [.str "num",.int (5+(i:Int))])
  refine⟨(by show 2≤sizeLine;decide),fun p2 hp2=>?_⟩
  have u2:=same_new hp2 (.tup [.str (moreK ns i).1,.ref p1])
  have s4:=s3.trans (u1.trans u2)
  have e1:PrAt K (upd (upd H3 p1 (.tup [.str "num",.int (5+(i:Int))])) p2 (.tup [.str (moreK ns i).1,.ref p1])) (.ref p2) (moreK ns i):=⟨p2,.ref p1,rfl,upd_same,.num (SqT.of (u2 _ _ upd_same))⟩
  replace s4:Same H2 (upd (upd H3 p1 (.tup [.str "num",.int (5+(i:Int))])) p2 (.tup [.str (wordL (cellOf ns 1) (10+(i:Int))),.ref p1])):=s4
  replace e1:PrAt K (upd (upd H3 p1 (.tup [.str "num",.int (5+(i:Int))])) p2 (.tup [.str (wordL (cellOf ns 1) (10+(i:Int))),.ref p1])) (.ref p2) (moreK ns i):=e1
  generalize upd (upd H3 p1 (.tup [.str "num",.int (5+(i:Int))])) p2 (.tup [.str (wordL (cellOf ns 1) (10+(i:Int))),.ref p1])=H4 at s4 e1 ⊢
  refine⟨_,rfl,a,ns,2,rfl,cl (s2.trans s4),h63,by decide,by decide,fun c hc=>⟨_,rfl,_,_,rfl,rfl,c,10+(i:Int),rfl,fun H5 s5=>?_⟩⟩
  subst hc
  refine⟨(by show 2≤sizeLine;decide),fun p3 hp3=>?_⟩
  have u3:=same_new hp3 (.tup [.str "num",.int 2])
  refine⟨(by show 1≤sizeLine;decide),fun p4 hp4=>?_⟩
  have u4:=same_new hp4 (.tup [.ref p3])
  refine⟨_,rfl,p4,(i:Int),[.ref p3],rfl,rfl,SqT.of upd_same,(fun e=>nomatch e),by omega,by omega,by(show 1*(i:Int).toNat≤1000;omega),fun p5 H6 s6 h6=>?_⟩
  rw [Int.toNat_natCast] at h6
  refine⟨(by show 2≤sizeLine;decide),fun p6 hp6=>?_⟩
  have u6:=same_new hp6 (.tup [.str "num",.int 9])
  refine⟨(by show 2≤sizeLine;decide),fun p7 hp7=>?_⟩
  have u7:=same_new hp7 (.tup [.ref p5,.ref p6])
  refine⟨(by show 2≤sizeLine;decide),fun p8 hp8=>?_⟩
  have u8:=same_new hp8 (.tup [.str (wordL (cellOf ns 2) (10+(i:Int))),.ref p7])
  have u78:=u7.trans u8
  have u68:=u6.trans u78
  have s68:=s6.trans u68
  have e2:FrAt K (upd (upd (upd H6 p6 (.tup [.str "num",.int 9])) p7 (.tup [.ref p5,.ref p6])) p8 (.tup [.str (wordL (cellOf ns 2) (10+(i:Int))),.ref p7])) (.ref p8) (moreF ns i):=⟨p8,.ref p7,rfl,upd_same,p7,p5,.ref p6,_,rfl,SqT.of (u8 _ _ upd_same),u68.tup h6,kds_rep (.num (SqT.of (s68 _ _ (u4 _ _ upd_same)))) i,.num (SqT.of (u78 _ _ upd_same))⟩
  have s8:Same H4 (upd (upd (upd H6 p6 (.tup [.str "num",.int 9])) p7 (.tup [.ref p5,.ref p6])) p8 (.tup [.str (wordL (cellOf ns 2) (10+(i:Int))),.ref p7])):=s5.trans (u3.trans (u4.trans s68))
  generalize upd (upd (upd H6 p6 (.tup [.str "num",.int 9])) p7 (.tup [.ref p5,.ref p6])) p8 (.tup [.str (wordL (cellOf ns 2) (10+(i:Int))),.ref p7])=H8 at s8 e2 ⊢
  have s28:=s4.trans s8
  have e1':=e1.same s8
  obtain⟨xs,hx,hxs⟩:=id (hk2.same s28)
  obtain⟨ys,hy,hys⟩:=id (hf2.same s28)
  have n1:xs.length=f1.length:=Paired.length hxs
  have n2:ys.length=f2.length:=Paired.length hys
  have m1':=U1.len
  have m2':=U2.len
  refine⟨_,rfl,a,ns,14,rfl,cl (s2.trans s28),h63,by decide,by decide,fun c _=>⟨_,_,rfl,rfl,⟨by decide,by decide⟩,_,_,rfl,rfl,(by show(0:Int) < 2;decide),rfl,_,rfl,ite2 (fun _=>?_) (fun _=>?_)⟩⟩
  ·refine⟨_,rfl,(by show 1≤sizeLine;decide),fun la hla=>?_⟩
   have v1:=same_new hla (.lst [.ref p2])
   refine⟨_,rfl,la,kl,_,_,rfl,rfl,upd_same,v1 _ _ hx,small (by rw [List.length_singleton];omega),fun lb hlb=>?_⟩
   have v2:=same_new hlb (.lst ([.ref p2]++xs))
   refine⟨_,rfl,(by show 1≤sizeLine;decide),fun lc hlc=>?_⟩
   have v3:=same_new hlc (.lst [.ref p8])
   have v13:=v1.trans (v2.trans v3)
   refine⟨_,rfl,lc,fl,_,_,rfl,rfl,upd_same,v13 _ _ hy,small (by rw [List.length_singleton];omega),fun ld hld=>?_⟩
   have v4:=same_new hld (.lst ([.ref p8]++ys))
   have v14:=v13.trans v4
   exact⟨_,_,_,lb,ld,_,_,rfl,s2.trans (s28.trans v14),⟨_,(v3.trans v4) _ _ upd_same,.cons (e1'.same v14) (Paired.mapP hxs fun _ _ h=>h.same v14)⟩,⟨_,upd_same,.cons (e2.same v14) (Paired.mapP hys fun _ _ h=>h.same v14)⟩,U1.front ap1 (injK ns) hi4,U2.front ap2 (injF ns) hi4⟩
  ·refine⟨_,rfl,_,rfl,(by show 1≤sizeLine;decide),fun la hla=>?_⟩
   have v1:=same_new hla (.lst [.ref p2])
   refine⟨kl,la,_,_,rfl,rfl,v1 _ _ hx,upd_same,small (by rw [List.length_singleton];omega),fun lb hlb=>?_⟩
   have v2:=same_new hlb (.lst (xs++[.ref p2]))
   refine⟨_,rfl,_,rfl,(by show 1≤sizeLine;decide),fun lc hlc=>?_⟩
   have v3:=same_new hlc (.lst [.ref p8])
   have v13:=v1.trans (v2.trans v3)
   refine⟨fl,lc,_,_,rfl,rfl,v13 _ _ hy,upd_same,small (by rw [List.length_singleton];omega),fun ld hld=>?_⟩
   have v4:=same_new hld (.lst (ys++[.ref p8]))
   have v14:=v13.trans v4
   exact⟨_,_,_,lb,ld,_,_,rfl,s2.trans (s28.trans v14),⟨_,(v3.trans v4) _ _ upd_same,pappR (Paired.mapP hxs fun _ _ h=>h.same v14) (.cons (e1'.same v14) .nil)⟩,⟨_,upd_same,pappR (Paired.mapP hys fun _ _ h=>h.same v14) (.cons (e2.same v14) .nil)⟩,U1.back ap1 (injK ns) hi4,U2.back ap2 (injF ns) hi4⟩
 ·rintro σ H2 ⟨y4,y7,y8,kl,fl,f1,f2,rfl,s2,hk2,hf2,U1,U2⟩
  refine⟨_,rfl,_,rfl,(by show 2≤sizeLine;decide),fun p hp=>?_⟩
  have u:=same_new hp (.tup [.ref kl,.ref fl])
  exact q _ p f1 f2 _ (by omega) (s2.trans u) ⟨kl,fl,upd_same,hk2.same u,hf2.same u⟩ U1 U2
end
end K42
namespace K42
open PySem L2 Kk
def spFull(K:PySem.W.Frag)(n:Nat):Sp:=fun vs H Q _=>∃(a fa:Addr) (ns:List Int) (m1:List (Str × Kd)) (m2:List (Str × (List Kd × Kd))),vs=[.ref a,.ref fa]∧SqL K H a (ns.map V.int)∧ns.length≤63∧LfAt K H fa m1 m2∧(m1.map (·.1)).Nodup∧(m2.map (·.1)).Nodup∧m1.length≤90∧m2.length≤90∧(∀q∈m1,okW q.1∧Kd.ok q.2∧Kd.depth q.2≤60) ∧
 (∀q∈m1,Kd.depth q.2≤n)∧(∀q∈m2,(∀k∈q.2.1,Kd.depth k≤n)∧Kd.depth q.2.2≤n∧q.2.1.length≤100)∧Apart (moreK ns) m1∧Apart (moreF ns) m2 ∧
 ∀H' x (gl:List (Str × Kd)) f1 f2 i,i < 4→Same H H'→LfAt K H' x f1 f2→gl.map (·.1)=hidL m1→(∀q∈gl,MixK (LfS [] [farK]) q.2)→Ful (moreK ns) (m1.map (putP (givenF gl (hidL m1)))) f1 i→Ful (moreF ns) (m2.map (putQ (givenF gl (hidL m1)))) f2 i→Q (.ref x) H'
theorem Apart.put{mk:Nat→Str × Kd}{m:List (Str × Kd)}{G:Str × Str→Option Kd}(h:Apart mk m):Apart mk (m.map (putP G)):=fun i hi q hq=>by
 obtain⟨q',hq',rfl⟩:=List.mem_map.mp hq
 exact h i hi q' hq'
theorem Apart.putQ{mk:Nat→Str × (List Kd × Kd)}{m:List (Str × (List Kd × Kd))}{G:Str × Str→Option Kd}(h:Apart mk m):Apart mk (m.map (putQ G)):=fun i hi q hq=>by
 obtain⟨q',hq',rfl⟩:=List.mem_map.mp hq
 exact h i hi q' hq'
section
variable{P:Program}{w:World}{K:PySem.W.Frag}{mg:Str→Option Value}{base:Heap}
set_option maxHeartbeats 0 in
theorem ok_full{n:Nat}{f fc fw fh' fm fp:Addr}{fd fdc fdw fdh fdm fdp:FuncData} (F:Fun K "_law_full" "_law_full" sFull f fd)
  (GC:FnOk P w K mg base CX0 1 fc fdc ["_law_script","_law_k"] (spCellX K)) (bC:Binds K fdc ["_law_script","_law_k"] []) (kC:PySem.W.keepIn K (.ref fc)=true) (mC:mg "_law_cell"=some (.ref fc))
  (GW:FnOk P w K mg base CX0 1 fw fdw wlP spWordL) (bW:Binds K fdw wlP []) (kW:PySem.W.keepIn K (.ref fw)=true) (mW:mg "_law_word"=some (.ref fw))
  (GH:FnOk P w K mg base CX0 1 fh' fdh ["_law_kinds"] (spHiddenL K)) (bH:Binds K fdh ["_law_kinds"] []) (kH:PySem.W.keepIn K (.ref fh')=true) (mH:mg "_law_hidden"=some (.ref fh'))
  (GM:FnOk P w K mg base CX0 1 fm fdm mxP (spMix K)) (bM:Binds K fdm mxP []) (kM:PySem.W.keepIn K (.ref fm)=true) (mM:mg "_law_mix"=some (.ref fm))
  (GP:FnOk P w K mg base CX0 (n+1) fp fdp paP (spPutAll K n)) (bP:Binds K fdp paP []) (kP:PySem.W.keepIn K (.ref fp)=true) (mP:mg "_law_put_all"=some (.ref fp))
  (mr:mg "range"=none) (ml:mg "len"=none):FnOk P w K mg base CX0 (n+1+1) f fd fuP (spFull K n):=by
 refine F.ok scFull (fun vs H Q E h=>?_) (fun cdv A outer s H vs Q E hr h=>?_)
 ·obtain⟨a,fa,ns,m1,m2,rfl,_⟩:=h
  rfl
 obtain⟨a,fh,ns,m1,m2,rfl,hA,h63,hfh,nd1,nd2,l1,l2,hok,dp1,dp2,ap1,ap2,q⟩:=h
 have hr1:Room 1 _:=hr.mono (by omega)
 have hu:=hu_of hr
 obtain⟨t4,d4,k4⟩:=fl4 (outer:=outer) (H:=H) (E:=E) GC bC kC mC GW bW kW mW mr hr
 refine⟨_,@pss_cons _ _ _ _ _ (ps_set (i:=2) scFull.nd rfl (Or.inl rfl) pe_dnewT)
  (@pss_cons _ _ _ _ _ (ps_set (i:=3) scFull.nd rfl (Or.inl rfl) (pe_call GH hr1 rfl mH kH bH .nil pass0 (@pa_cons _ _ _ _ _ (pe_ix ix_tup (pv 1) pe_int (fun _ _=>rfl)) pa_nil rfl)))
  (@pss_cons _ _ _ _ _ (ps_for PassesOwn.never rfl (pi_range1 rfl mr (@pa_cons _ _ _ _ _ (pe_callB call_len_seq rfl ml PySem.boot_len (@pa_cons _ _ _ _ _ (pv 3) pa_nil rfl)) pa_nil rfl)) (pg_name (i:=4) scFull.nd rfl (Or.inl rfl))
   (@pss_one _ _ _ (ps_dput hu (pv 2) (@pe_tup _ _ _ _ _ (@pa_cons _ _ _ _ _ pe_str (@pa_cons _ _ _ _ _ (pe_ix ix_list (pv 3) (pv 4) (fun _ _=>rfl)) pa_nil rfl) rfl)) (pe_call GM hr1 rfl mM kM bM .nil pass0 (@pa_cons _ _ _ _ _ (pe_call GC hr1 rfl mC kC bC .nil pass0 (@pa_cons _ _ _ _ _ (pv 0) (@pa_cons _ _ _ _ _ (pe_op op_add pe_int (pv 4)) pa_nil rfl) rfl)) (@pa_cons _ _ _ _ _ (pe_lst (@pa_cons _ _ _ _ _ (@pe_tup _ _ _ _ _ (@pa_cons _ _ _ _ _ pe_str (@pa_cons _ _ _ _ _ pe_str (@pa_cons _ _ _ _ _ pe_str pa_nil rfl) rfl) rfl)) pa_nil rfl)) pa_nil rfl) rfl)) rfl)))
  (@pss_cons _ _ _ _ _ (ps_asg (pe_call GP hr rfl mP kP bP .nil pass0 (@pa_cons _ _ _ _ _ (pv 1) (@pa_cons _ _ _ _ _ (pv 2) pa_nil rfl) rfl)) (pg_tup rfl (pgs_cons (pg_name (i:=5) scFull.nd rfl (Or.inl rfl)) (pgs_cons (pg_name (i:=6) scFull.nd rfl (Or.inl rfl)) pgs_nil)))) d4))),?_⟩
 have cl:∀{H':Hp},Same H H'→SqL K H' a (ns.map V.int):=fun e=>sql_same e hA
 have hll:=hid_len m1
 have ndh:=hid_nodup nd1
 obtain⟨f1',f2',hfa,hR1,hR2⟩:=id hfh
 intro g hg
 have sg:=same_new hg (.dT [])
 refine⟨_,rfl,fh,_,_,_,rfl,rfl,SqT.of (sg _ _ hfa),(show atI [V.ref f1',.ref f2'] 0=some (.ref f1') from rfl),f1',m1,rfl,hR1.same sg,by omega,hok,fun H2 hl s2 hln hh=>?_⟩
 have s12:=sg.trans s2
 have lg:hl≠g:=fun e=>by rw [e,upd_same] at hln;cases hln
 have hlen:((hidL m1).map V.str).length=(hidL m1).length:=List.length_map _
 refine⟨_,rfl,hl,_,rfl,.inl (SqL.of hh),_,rfl,by omega,by omega,?_⟩
 refine for_range (fun i σ H3=>∃(y4:Option V) (kvs:List (List Key × V)) (gl:List (Str × Kd)),σ=[some (.ref a),some (.ref fh),some (.ref g),some (.ref hl),y4,none,none,none,none]∧Same H H3∧H3 hl=some (.lst ((hidL m1).map V.str))∧H3 g=some (.dT kvs)∧PtAt K H3 kvs gl∧gl.map (·.1)=(hidL m1).take i∧∀q∈gl,MixK (LfS [] [farK]) q.2)
  ⟨none,[],[],rfl,s12,hh,s2 _ _ upd_same,.nil,rfl,fun q hq=>nomatch hq⟩ ?_ ?_
 ·rintro i σ H3 hi ⟨y7,kvs,gl,rfl,s3,hh3,hg3,hpt,hgl,hmx⟩
  rw [Int.zero_add]
  have hi':i < (hidL m1).length:=by omega
  obtain⟨z,hz⟩:∃z,(hidL m1)[i]?=some z:=⟨_,List.getElem?_eq_getElem hi'⟩
  have hzs:((hidL m1).map V.str)[i]?=some (.str z):=by rw [List.getElem?_map,hz];rfl
  refine⟨_,rfl,_,rfl,_,_,rfl,rfl,a,ns,11+(i:Int),rfl,cl s3,h63,by omega,by omega,fun c _=>?_⟩
  refine⟨(by show 3≤sizeLine;decide),fun p1 hp1=>?_⟩
  have u1:=same_new hp1 (.tup [.str "name",.str "far",.str "k"])
  refine⟨(by show 1≤sizeLine;decide),fun p2 hp2=>?_⟩
  have u2:=same_new hp2 (.lst [.ref p1])
  refine⟨c,p2,[.ref p1],[farK],LfS [] [farK],rfl,upd_same,.cons (.name (SqT.of (u2 _ _ upd_same))) .nil,by decide,fun k hk=>(by rw [List.mem_singleton.mp hk];exact⟨rfl,.inl (List.mem_singleton.mpr rfl)⟩),fun n h0 h1=>.inr (.inl ⟨n,rfl,h0,h1⟩),fun H4 v k s4 hv hm=>?_⟩
  have s34:=(u1.trans u2).trans s4
  refine⟨_,rfl,_,rfl,_,rfl,hl,_,_,_,rfl,rfl,SqL.of (s34 _ _ hh3),atI_nat hzs,(by show 2≤sizeLine;decide),fun p3 hp3=>?_⟩
  have u3:=same_new hp3 (.tup [.str "",.str z])
  have s35:=s34.trans u3
  have kl:kvs.length=i:=by
   have e1:kvs.length=gl.length:=Paired.length hpt
   have e2:=congrArg List.length hgl
   rw [List.length_map,List.length_take] at e2
   omega
  have hg5:=s35 _ _ hg3
  refine⟨g,_,rfl,DPut.t (k:=keyN ("",z)) hg5 (by rw [upd_same]<;>rfl) (Nat.lt_of_lt_of_le (Nat.lt_succ_self _) (small (by omega))),?_⟩
  have kt:∀a' xs,SqT K (upd H4 p3 (.tup [.str "",.str z])) a' xs→SqT K (upd (upd H4 p3 (.tup [.str "",.str z])) g (.dT (putK kvs (keyN ("",z)) v))) a' xs:=fun a' xs t=>sqt_dt hg5 t
  have ht:(hidL m1).take (i+1)=(hidL m1).take i++[z]:=by rw [List.take_add_one,hz];rfl
  refine⟨_,_,gl++[(z,k)],rfl,sput (s3.trans s35) hg,?_,upd_same,?_,?_,fun q hq=>?_⟩
  ·rw [upd_ne lg]
   exact s35 _ _ hh3
  ·refine pt_put ((hpt.same s35).keep kt) ?_ (kd_keep kt (hv.same u3))
   rw [hgl]
   exact out_take ndh hz
  ·rw [List.map_append,hgl,ht]
   rfl
  ·rcases List.mem_append.mp hq with h|h
   ·exact hmx q h
   ·rw [List.mem_singleton.mp h]
    exact hm
 ·rintro σ H3 ⟨y7,kvs,gl,rfl,s3,hh3,hg3,hpt,hgl,hmx⟩
  have hgl':gl.map (·.1)=hidL m1:=by
   rw [hgl]
   exact List.take_of_length_le (by omega)
  have ndg:(gl.map (·.1)).Nodup:=by rw [hgl'];exact ndh
  have gv:=pt_gv (m1:=gl) hpt hgl' fun q hq=>look_of_get ndg hq
  refine⟨_,rfl,_,rfl,fh,g,m1,m2,kvs,givenF gl (hidL m1),rfl,hfh.same s3,by omega,by omega,dp1,dp2,hg3,gv,fun H4 x s4 hx=>?_⟩
  obtain⟨k1,k2,hx4,hK1,hK2⟩:=hx
  refine⟨x,_,rfl,SqT.of hx4,rfl,_,_,rfl,_,_,rfl,rfl,?_⟩
  exact k4 Q H4 a k1 k2 ns _ _ _ _ _ _ _ _ (cl (s3.trans s4)) h63 hK1 hK2 (by rw [putP_keys];exact nd1) (by rw [putQ_keys];exact nd2) (by rw [List.length_map];exact l1) (by rw [List.length_map];exact l2) ap1.put ap2.putQ fun H' y f1 f2 i hi s' hL U1 U2=>q H' y gl f1 f2 i hi (s3.trans (s4.trans s')) hL hgl' hmx U1 U2
end
end K42
namespace K42
open PySem L2 Kk
theorem sm_leaves:∀{k:Kd},(∀l∈k.leaves,Kd.sm l)→Kd.sm k
 |.num n,h=>h _ (List.mem_singleton.mpr rfl)
 |.name q t,h=>h _ (List.mem_singleton.mpr rfl)
 |.pair a b,h=>⟨sm_leaves fun l hl=>h l (List.mem_append_left _ hl),sm_leaves fun l hl=>h l (List.mem_append_right _ hl)⟩
theorem far_sm:Kd.sm farK:=⟨⟨by decide +kernel,by decide +kernel⟩,by decide +kernel,by decide +kernel⟩
theorem sm_of_smW{z:Str}(h:smW z):Kd.sm (ownK z):=⟨⟨by decide +kernel,by decide +kernel⟩,h.1,h.2⟩
def Bk(n:Nat)(k:Kd):Prop:=Kd.sm k∧k.leaves.length≤n
def BK(n:Nat)(m:List (Str × Kd)):Prop:=∀q∈m,smW q.1∧Bk n q.2
def BF(n:Nat)(m:List (Str × (List Kd × Kd))):Prop:=∀q∈m,smW q.1∧q.2.1.length≤4∧∀k∈q.2.2::q.2.1,Bk n k
theorem lfs_sm{hs:List Str}{ks:List Kd}{l:Kd}(hk:∀k∈ks,Kd.sm k)(hh:∀z∈hs,smW z)(h:LfS hs ks l):Kd.sm l:=by
 rcases h with h|⟨n,rfl,h0,h1⟩|⟨z,hz,rfl⟩
 ·exact hk l h
 ·exact⟨h0,h1⟩
 ·exact sm_of_smW (hh z hz)
theorem mix_bk{hs:List Str}{ks:List Kd}{k:Kd}(hk:∀k∈ks,Kd.sm k)(hh:∀z∈hs,smW z)(h:MixK (LfS hs ks) k):Bk 3 k:=⟨sm_leaves fun l hl=>lfs_sm hk hh (h.1 l hl),h.2.1⟩
section
variable{c c2 sh:Int}{ks:List Kd}{m1:List (Str × Kd)}{m2:List (Str × (List Kd × Kd))}
theorem FaceOk.sw(h:FaceOk c c2 sh ks m1 m2):∀q∈m1,smW q.1:=fun q hq=>by
 obtain⟨j,_,e⟩:=h.w1 q hq
 rw [e]
 exact smW_L _ _
theorem FaceOk.hw(h:FaceOk c c2 sh ks m1 m2):∀z∈hidL m1,smW z:=fun z hz=>h.sw _ (hid_iff.mp hz)
theorem FaceOk.b1(h:FaceOk c c2 sh ks m1 m2)(hk:∀k∈ks,Kd.sm k):BK 3 m1:=fun q hq=>by
 refine⟨h.sw q hq,?_⟩
 rcases h.k1 q hq with e|e
 ·rw [e]
  exact⟨sm_of_smW (h.sw q hq),by show 1≤3;decide⟩
 ·exact mix_bk hk h.hw e
theorem FaceOk.b2(h:FaceOk c c2 sh ks m1 m2)(hk:∀k∈ks,Kd.sm k):BF 3 m2:=fun q hq=>⟨(h.fu.2.2.2 q hq).1,(h.fu.2.2.2 q hq).2.1,fun k hk'=>mix_bk hk h.hw ((h.fu.2.2.2 q hq).2.2 k hk')⟩
end
theorem smW_ok{z:Str}(h:smW z):okW z:=⟨h.1,by have:=h.2;omega⟩
theorem bk_words{n:Nat}{k:Kd}(h:Bk n k):k.words+1≤2*n:=by
 have h1:=words_leaves k
 have h2:=h.2
 omega
theorem bk_depth{n:Nat}{k:Kd}(h:Bk n k):Kd.depth k≤n:=Nat.le_trans (depth_leaves k) h.2
theorem Bk.mono{a b:Nat}{k:Kd}(h:Bk a k)(l:a≤b):Bk b k:=⟨h.1,Nat.le_trans h.2 l⟩
theorem good_of{m1:List (Str × Kd)}{m2:List (Str × (List Kd × Kd))}(nd1:(m1.map (·.1)).Nodup)(nd2:(m2.map (·.1)).Nodup)(l1:m1.length≤100)(l2:m2.length≤100)(h1:BK 18 m1)(h2:BF 18 m2):Good m1 m2 :=
 ⟨nd1,nd2,l1,l2,fun q hq=>⟨smW_ok (h1 q hq).1,sm_ok (h1 q hq).2.1,by have:=bk_words (h1 q hq).2;omega⟩,fun q hq=>⟨smW_ok (h2 q hq).1,fun k hk=>⟨sm_ok ((h2 q hq).2.2 k (List.mem_cons_of_mem _ hk)).1,by have:=bk_words ((h2 q hq).2.2 k (List.mem_cons_of_mem _ hk));omega⟩,⟨sm_ok ((h2 q hq).2.2 _ (List.mem_cons_self ..)).1,by have:=bk_words ((h2 q hq).2.2 _ (List.mem_cons_self ..));omega⟩,Nat.le_trans (h2 q hq).2.1 (by decide)⟩⟩
theorem fits_of{m1:List (Str × Kd)}{m2:List (Str × (List Kd × Kd))}(h1:BK 18 m1)(h2:BF 18 m2):FitsM 40 m1 m2:=by
 refine⟨fun q hq=>?_,fun q hq=>⟨fun k hk=>?_,?_⟩⟩
 ·have:=bk_words (h1 q hq).2
  omega
 ·have:=bk_words ((h2 q hq).2.2 k (List.mem_cons_of_mem _ hk))
  omega
 ·have:=bk_words ((h2 q hq).2.2 _ (List.mem_cons_self ..))
  omega
theorem sumK_le{ks:List Kd}{n:Nat}(h:∀k∈ks,k.words≤n):sumK ks≤ks.length*n:=by
 induction ks with
 |nil=>exact Nat.zero_le _
 |cons k ks ih =>
  have h1:=h k (List.mem_cons_self ..)
  have h2:=ih fun k' hk'=>h k' (List.mem_cons_of_mem _ hk')
  have e:sumK (k::ks)=k.words+sumK ks:=rfl
  rw [e,List.length_cons,Nat.succ_mul]
  omega
theorem put_bk{G:Str × Str→Option Kd}{n a:Nat}{k:Kd}(hn:1≤n)(hG:∀m g,G m=some g→Bk n g)(h:Bk a k):Bk (a*n) (Kd.put G k) :=
 ⟨sm_put (fun m g e=>(hG m g e).1) h.1,Nat.le_trans (put_leaves hn (fun m g e=>(hG m g e).2) k) (Nat.mul_le_mul_right _ h.2)⟩
theorem BK.mono{a b:Nat}{m:List (Str × Kd)}(h:BK a m)(l:a≤b):BK b m:=fun q hq=>⟨(h q hq).1,(h q hq).2.mono l⟩
theorem BF.mono{a b:Nat}{m:List (Str × (List Kd × Kd))}(h:BF a m)(l:a≤b):BF b m:=fun q hq=>⟨(h q hq).1,(h q hq).2.1,fun k hk=>((h q hq).2.2 k hk).mono l⟩
theorem put_BK{G:Str × Str→Option Kd}{m1:List (Str × Kd)}{a n:Nat}(hn:1≤n)(hG:∀m g,G m=some g→Bk n g)(h:BK a m1):BK (a*n) (m1.map (putP G)):=fun q hq=>by
 obtain⟨q',hq',rfl⟩:=List.mem_map.mp hq
 exact⟨(h q' hq').1,put_bk hn hG (h q' hq').2⟩
theorem put_BF{G:Str × Str→Option Kd}{m2:List (Str × (List Kd × Kd))}{a n:Nat}(hn:1≤n)(hG:∀m g,G m=some g→Bk n g)(h:BF a m2):BF (a*n) (m2.map (putQ G)):=fun q hq=>by
 obtain⟨q',hq',rfl⟩:=List.mem_map.mp hq
 refine⟨(h q' hq').1,by show(q'.2.1.map _).length≤4;rw [List.length_map];exact(h q' hq').2.1,fun k hk=>?_⟩
 rcases List.mem_cons.mp hk with rfl|hk
 ·exact put_bk hn hG ((h q' hq').2.2 _ (List.mem_cons_self ..))
 ·obtain⟨k',hk',rfl⟩:=List.mem_map.mp hk
  exact put_bk hn hG ((h q' hq').2.2 k' (List.mem_cons_of_mem _ hk'))
theorem ald_kd:∀k:Kd,AlD (Kd.depth k+1) (Kd.dat k)
 |.num n=>⟨by show 2≤100;decide,fun d hd=>by
   rcases List.mem_cons.mp hd with rfl|hd
   ·trivial
   ·rw [List.mem_singleton.mp hd];trivial⟩
 |.name q t=>⟨by show 3≤100;decide,fun d hd=>by
   rcases List.mem_cons.mp hd with rfl|hd
   ·trivial
   ·rcases List.mem_cons.mp hd with rfl|hd
    ·trivial
    ·rw [List.mem_singleton.mp hd];trivial⟩
 |.pair a b=>⟨by show 3≤100;decide,fun d hd=>by
   rcases List.mem_cons.mp hd with rfl|hd
   ·exact(show AlD (Kd.depth (.pair a b)) (.str "pair") from(show AlD (0+1) (.str "pair") from trivial).le (depth_pos _))
   ·rcases List.mem_cons.mp hd with rfl|hd
    ·exact(ald_kd a).le (by show _≤1+max _ _;omega)
    ·rw [List.mem_singleton.mp hd]
     exact(ald_kd b).le (by show _≤1+max _ _;omega)⟩
theorem ald_bk{n:Nat}{k:Kd}(hn:n≤30)(h:Bk n k):AlD 40 (Kd.dat k):=(ald_kd k).le (by have:=bk_depth h;omega)
theorem ald_fn{f:List Kd × Kd}(hl:f.1.length≤5)(h:∀k∈f.2::f.1,Bk 18 k):AlD 40 (Fn.dat f):=by
 refine⟨by show 2≤100;decide,fun d hd=>?_⟩
 rcases List.mem_cons.mp hd with rfl|hd
 ·refine⟨by rw [List.length_map];omega,fun d hd=>?_⟩
  obtain⟨k,hk,rfl⟩:=List.mem_map.mp hd
  exact(ald_kd k).le (by have:=bk_depth (h k (List.mem_cons_of_mem _ hk));show Kd.depth k+1≤38;omega)
 ·rw [List.mem_singleton.mp hd]
  exact(ald_kd _).le (by have:=bk_depth (h _ (List.mem_cons_self ..));show Kd.depth f.2+1≤39;omega)
theorem alm_of{m1:List (Str × Kd)}{m2:List (Str × (List Kd × Kd))}(l1:m1.length≤100)(l2:m2.length≤100)(h1:BK 18 m1)(h2:BF 18 m2):AlM m1 m2:=⟨l1,l2,fun q hq=>ald_bk (by decide) (h1 q hq).2,fun q hq=>ald_fn (Nat.le_trans (h2 q hq).2.1 (by decide)) (h2 q hq).2.2⟩
def Clo:Kd→Prop
 |.num _=>True
 |.name q _=>q≠""
 |.pair a b=>Clo a∧Clo b
theorem clo_leaves:∀{k:Kd},(∀l∈k.leaves,Clo l)→Clo k
 |.num _,_=>trivial
 |.name _ _,h=>h _ (List.mem_singleton.mpr rfl)
 |.pair _ _,h=>⟨clo_leaves fun l hl=>h l (List.mem_append_left _ hl),clo_leaves fun l hl=>h l (List.mem_append_right _ hl)⟩
theorem clo_put{G:Str × Str→Option Kd}(hG:∀n g,G n=some g→Clo g):∀{k:Kd},Clo k→Clo (Kd.put G k)
 |.num _,_=>trivial
 |.name q t,h=>by
  show Clo ((G (q,t)).getD (.name q t))
  cases e:G (q,t) with
  |none=>exact h
  |some g=>exact hG _ _ e
 |.pair _ _,h=>⟨clo_put hG h.1,clo_put hG h.2⟩
theorem put_clo{G:Str × Str→Option Kd} (hG:∀n:Str × Str,n.1≠""→G n=none):∀{k:Kd},Clo k→Kd.put G k=k
 |.num _,_=>rfl
 |.name q t,h=>by
  show(G (q,t)).getD (.name q t)=_
  rw [hG (q,t) h]
  rfl
 |.pair a b,h=>by
  show Kd.pair (Kd.put G a) (Kd.put G b)=_
  rw [put_clo hG h.1,put_clo hG h.2]
def Gl(ws:List (Str × Kd)):Str × Str→Option Kd:=fun n=>if n.1="" then look ws n.2 else none
theorem gl_far(ws:List (Str × Kd)):∀n:Str × Str,n.1≠""→Gl ws n=none:=fun n h=>if_neg h
theorem gl_some{ws:List (Str × Kd)}{n:Str × Str}{g:Kd}(h:Gl ws n=some g):(n.2,g)∈ws:=by
 unfold Gl at h
 split at h
 ·exact get_of_look h
 ·cases h
theorem put_put{ws us:List (Str × Kd)}(hw:∀q∈ws,Clo q.2):∀k:Kd,Kd.put (Gl us) (Kd.put (Gl ws) k)=Kd.put (Gl (ws++us)) k
 |.num _=>rfl
 |.pair a b=>by
  show Kd.pair _ _=Kd.pair _ _
  rw [put_put hw a,put_put hw b]
 |.name q t=>by
  show Kd.put (Gl us) ((Gl ws (q,t)).getD (.name q t))=(Gl (ws++us) (q,t)).getD (.name q t)
  by_cases e:q=""
  ·have e1:Gl ws (q,t)=look ws t:=if_pos e
   have e2:Gl (ws++us) (q,t)=(look ws t).or (look us t):=by rw [←look_app];exact if_pos e
   rw [e1,e2]
   cases e3:look ws t with
   |some g=>exact put_clo (gl_far us) (hw _ (get_of_look e3))
   |none =>
    show(Gl us (q,t)).getD (.name q t)=(look us t).getD (.name q t)
    rw [show Gl us (q,t)=look us t from if_pos e]
  ·have e1:Gl ws (q,t)=none:=if_neg e
   have e2:Gl (ws++us) (q,t)=none:=if_neg e
   rw [e1,e2]
   show(Gl us (q,t)).getD (.name q t)=_
   rw [show Gl us (q,t)=none from if_neg e]
theorem putP_put{ws us:List (Str × Kd)}(hw:∀q∈ws,Clo q.2)(m:List (Str × Kd)):(m.map (putP (Gl ws))).map (putP (Gl us))=m.map (putP (Gl (ws++us))):=by
 rw [List.map_map]
 refine List.map_congr_left fun q _=>?_
 show(q.1,Kd.put (Gl us) (Kd.put (Gl ws) q.2))=(q.1,_)
 rw [put_put hw]
theorem putQ_put{ws us:List (Str × Kd)}(hw:∀q∈ws,Clo q.2)(m:List (Str × (List Kd × Kd))):(m.map (putQ (Gl ws))).map (putQ (Gl us))=m.map (putQ (Gl (ws++us))):=by
 rw [List.map_map]
 refine List.map_congr_left fun q _=>?_
 show(q.1,((q.2.1.map (Kd.put (Gl ws))).map (Kd.put (Gl us)),Kd.put (Gl us) (Kd.put (Gl ws) q.2.2)))=(q.1,(q.2.1.map (Kd.put (Gl (ws++us))),Kd.put (Gl (ws++us)) q.2.2))
 have e:(q.2.1.map (Kd.put (Gl ws))).map (Kd.put (Gl us))=q.2.1.map (Kd.put (Gl (ws++us))):=by
  rw [List.map_map]
  exact List.map_congr_left fun k _=>put_put hw k
 rw [e,put_put hw]
theorem gl_one(z:Str)(g:Kd):stepP z g=Gl [(z,g)]:=by
 funext n
 obtain⟨a,b⟩:=n
 unfold stepP Gl
 by_cases e:a=""
 ·rw [if_pos e]
  by_cases e2:b=z
  ·rw [if_pos (by rw [e,e2]),e2]
   exact(look_of_get (m:=[(z,g)]) (List.nodup_cons.mpr ⟨List.not_mem_nil,.nil⟩) (List.mem_singleton.mpr rfl)).symm
  ·rw [if_neg (fun h=>e2 (congrArg Prod.snd h))]
   refine(look_none fun h=>?_).symm
   rw [List.map_cons,List.map_nil,List.mem_singleton] at h
   exact e2 h
 ·rw [if_neg e,if_neg (fun h=>e (congrArg Prod.fst h))]
theorem put_none{G:Str × Str→Option Kd}(h:∀n,G n=none):∀k:Kd,Kd.put G k=k
 |.num _=>rfl
 |.name q t=>by
  show(G (q,t)).getD _=_
  rw [h]
  rfl
 |.pair a b=>by
  show Kd.pair _ _=_
  rw [put_none h a,put_none h b]
theorem gl_nil(n:Str × Str):Gl [] n=none:=by
 unfold Gl
 split<;>rfl
theorem putP_none(m:List (Str × Kd)):m.map (putP (Gl []))=m:=by
 refine(List.map_congr_left fun q _=>?_).trans (List.map_id m)
 show(q.1,_)=q
 rw [put_none gl_nil]
theorem putQ_none(m:List (Str × (List Kd × Kd))):m.map (putQ (Gl []))=m:=by
 refine(List.map_congr_left fun q _=>?_).trans (List.map_id m)
 show(q.1,(q.2.1.map _,_))=q
 rw [put_none gl_nil,List.map_congr_left (g:=id) fun k _=>put_none gl_nil k,List.map_id]
theorem rrun_gl{m1:List (Str × Kd)}{m2:List (Str × (List Kd × Kd))}(h1:BK 3 m1)(h2:BF 3 m2):∀{ws us:List (Str × Kd)},(∀q∈ws++us,Clo q.2∧Bk 6 q.2∧q.1∈hidL m1)→((ws++us).map (·.1)).Nodup →
  us.foldl rstep (.ok (m1.map (putP (Gl ws))) (m2.map (putQ (Gl ws))))=.ok (m1.map (putP (Gl (ws++us)))) (m2.map (putQ (Gl (ws++us))))
 |ws,[],_,_=>by
  rw [List.append_nil]
  rfl
 |ws,(z,g)::us,h,nd=>by
  have ea:ws++(z,g)::us=(ws++[(z,g)])++us:=by rw [List.append_assoc];rfl
  have hw:∀q∈ws,Clo q.2:=fun q hq=>(h q (List.mem_append_left _ hq)).1
  have ih:=rrun_gl h1 h2 (ws:=ws++[(z,g)]) (us:=us) (by rw [←ea];exact h) (by rw [←ea];exact nd)
  rw [ea,←ih]
  show us.foldl rstep (rstep (.ok (m1.map (putP (Gl ws))) (m2.map (putQ (Gl ws)))) (z,g))=_
  have hz:z∈hidL (m1.map (putP (Gl ws))):=by
   refine hid_iff.mpr (List.mem_map.mpr ⟨(z,ownK z),hid_iff.mp (h (z,g) (List.mem_append_right _ (List.mem_cons_self ..))).2.2,?_⟩)
   show(z,(Gl ws ("",z)).getD (ownK z))=_
   have:Gl ws ("",z)=none:=by
    show look ws z=none
    refine look_none fun hm=>?_
    rw [List.map_append] at nd
    exact(List.nodup_append.mp nd).2.2 z hm z (List.mem_cons_self ..) rfl
   rw [this]
   rfl
  have b:∀n g',Gl (ws++[(z,g)]) n=some g'→Bk 6 g':=fun n g' e=>(h (n.2,g') (by rw [ea];exact List.mem_append_left _ (gl_some e))).2.1
  have hfit:fitB (m1.map (putP (Gl (ws++[(z,g)])))) (m2.map (putQ (Gl (ws++[(z,g)]))))=true:=fitB_iff.mpr (fits_of (put_BK (by decide) b h1) (put_BF (by decide) b h2))
  have e:rstep (.ok (m1.map (putP (Gl ws))) (m2.map (putQ (Gl ws)))) (z,g)=.ok (m1.map (putP (Gl (ws++[(z,g)])))) (m2.map (putQ (Gl (ws++[(z,g)])))):=by
   show(if z∈hidL (m1.map (putP (Gl ws))) then (if fitB ((m1.map (putP (Gl ws))).map (putP (stepP z g))) ((m2.map (putQ (Gl ws))).map (putQ (stepP z g)))=true then RR.ok ((m1.map (putP (Gl ws))).map (putP (stepP z g))) ((m2.map (putQ (Gl ws))).map (putQ (stepP z g))) else .big) else .no)=_
   rw [if_pos hz,gl_one,putP_put hw,putQ_put hw,if_pos hfit]
  rw [e]
end K42
namespace K42
open PySem L2 Kk
abbrev partK(part:Str):Kd:=.name part "k"
theorem th_nd(part:Str):((thereM part).map (·.1)).Nodup:=(by decide +kernel:(["k","size","both"]:List Str).Nodup)
theorem th_ne{part:Str}{n:Str × Str}(h:n.1≠part):thT part n=none:=by
 show(if n=(part,("both":Str)) then _ else if n=(part,("size":Str)) then _ else if n=(part,("k":Str)) then _ else _)=_
 rw [if_neg (fun e=>h (congrArg Prod.fst e)),if_neg (fun e=>h (congrArg Prod.fst e)),if_neg (fun e=>h (congrArg Prod.fst e))]
theorem th_at(part z:Str):thT part (part,z)=look (thereM part) z:=by
 have nd:=th_nd part
 have ne:∀{a b:Str},a≠b→¬((part,a)=(part,b)):=fun h e=>h (congrArg Prod.snd e)
 show(if (part,z)=(part,("both":Str)) then some (Kd.pair (.num 2) (.num 3)) else if (part,z)=(part,("size":Str)) then some (Kd.num 7) else if (part,z)=(part,("k":Str)) then some (partK part) else none)=_
 by_cases h1:z="both"
 ·subst h1
  rw [if_pos rfl]
  exact(look_of_get nd (List.mem_cons_of_mem _ (List.mem_cons_of_mem _ (List.mem_cons_self ..)))).symm
 ·rw [if_neg (ne h1)]
  by_cases h2:z="size"
  ·subst h2
   rw [if_pos rfl]
   exact(look_of_get nd (List.mem_cons_of_mem _ (List.mem_cons_self ..))).symm
  ·rw [if_neg (ne h2)]
   by_cases h3:z="k"
   ·subst h3
    rw [if_pos rfl]
    exact(look_of_get nd (List.mem_cons_self ..)).symm
   ·rw [if_neg (ne h3)]
    refine(look_none fun h=>?_).symm
    have h':z∈(["k","size","both"]:List Str):=h
    rcases List.mem_cons.mp h' with e|h'
    ·exact h3 e
    ·rcases List.mem_cons.mp h' with e|h'
     ·exact h2 e
     ·exact h1 (List.mem_singleton.mp h')
def PGof(part:Str):Str→Option (Str→Option Kd):=fun p=>if p=part then some (fun z=>look (thereM part) z) else none
theorem tel_th{part:Str} (hp:part≠""):tel0 (PGof part)=thT part:=by
 funext n
 obtain⟨a,z⟩:=n
 show(if a="" then none else ((if a=part then some (fun z=>look (thereM part) z) else none).bind fun g=>g z))=thT part (a,z)
 by_cases e:a=part
 ·subst e
  rw [if_neg hp,if_pos rfl,th_at]
  rfl
 ·rw [if_neg (c:=a=part) e,th_ne (n:=(a,z)) e]
  split<;>rfl
theorem th_some{part:Str}{n:Str × Str}{g:Kd}(h:thT part n=some g):n.1=part∧(n.2,g)∈thereM part:=by
 by_cases e:n.1=part
 ·refine⟨e,?_⟩
  obtain⟨a,z⟩:=n
  have e':a=part:=e
  subst e'
  rw [th_at] at h
  exact get_of_look h
 ·rw [th_ne e] at h
  cases h
theorem th_val{part:Str}(hs:smW part) (hp:part≠"") {n:Str × Str} {g:Kd} (h:thT part n=some g):Bk 2 g∧Clo g:=by
 have hm:=(th_some h).2
 rcases List.mem_cons.mp hm with e|hm
 ·rw [show g=partK part from congrArg Prod.snd e]
  exact⟨⟨⟨⟨hs.1,hs.2⟩,by decide +kernel,by decide +kernel⟩,by show 1≤2;decide⟩,hp⟩
 ·rcases List.mem_cons.mp hm with e|hm
  ·rw [show g=.num 7 from congrArg Prod.snd e]
   exact⟨⟨⟨by decide,by decide⟩,by show 1≤2;decide⟩,trivial⟩
  ·rw [show g=.pair (.num 2) (.num 3) from congrArg Prod.snd (List.mem_singleton.mp hm)]
   exact⟨⟨⟨⟨by decide,by decide⟩,by decide,by decide⟩,by show 2≤2;decide⟩,trivial,trivial⟩
theorem thZ_sm{z:Str}(h:z∈thZ):smW z:=by
 rcases List.mem_cons.mp h with rfl|h
 ·exact⟨by decide +kernel,by decide +kernel⟩
 ·rcases List.mem_cons.mp h with rfl|h
  ·exact⟨by decide +kernel,by decide +kernel⟩
  ·rw [List.mem_singleton.mp h]
   exact⟨by decide +kernel,by decide +kernel⟩
theorem lfw_bk{part:Str}(hs:smW part){k:Kd}(h:MixK (LfW part) k):Bk 3 k:=by
 refine⟨sm_leaves fun l hl=>?_,h.2.1⟩
 rcases h.1 l hl with ⟨z,hz,rfl⟩|⟨n,rfl,h0,h1⟩
 ·exact⟨⟨hs.1,hs.2⟩,(thZ_sm hz).1,(thZ_sm hz).2⟩
 ·exact⟨h0,h1⟩
theorem lfw_clo{part:Str} (hp:part≠"") {k:Kd} (h:MixK (LfW part) k):Clo k:=by
 refine clo_leaves fun l hl=>?_
 rcases h.1 l hl with ⟨z,hz,rfl⟩|⟨n,rfl,h0,h1⟩
 ·exact hp
 ·trivial
theorem names_leaves:∀{k:Kd} {n:Str × Str},n∈Kd.names k→Kd.name n.1 n.2∈k.leaves
 |.num _,_,h=>nomatch h
 |.name q t,n,h=>by
  rw [List.mem_singleton.mp h]
  exact List.mem_singleton.mpr rfl
 |.pair a b,n,h=>by
  rcases List.mem_append.mp h with h|h
  ·exact List.mem_append_left _ (names_leaves h)
  ·exact List.mem_append_right _ (names_leaves h)
theorem lfw_told{part:Str} (hp:part≠"") {q:Str × Kd} (h:MixK (LfW part) q.2):AllTold (PGof part) q:=fun n hn=>by
 rw [tel_th hp]
 rcases h.1 _ (names_leaves hn) with ⟨z,hz,e⟩|⟨m,e,_⟩
 ·have en:n=(part,z):=by
   obtain⟨a,b⟩:=n
   cases e
   rfl
  intro h0
  rw [en,th_at] at h0
  have hk:z∈(thereM part).map (·.1):=hz
  obtain⟨⟨z',x⟩,hx,e⟩:=List.mem_map.mp hk
  have e':z'=z:=e
  rw [e'] at hx
  rw [look_of_get (th_nd part) hx] at h0
  cases h0
 ·cases e
theorem wput_val{part:Str}(hs:smW part) (hp:part≠"") {q:Str × Kd} (h:MixK (LfW part) q.2):Bk 6 (wPut part q).2∧Clo (wPut part q).2 :=
 ⟨put_bk (by decide) (fun _ _ e=>(th_val hs hp e).1) (lfw_bk hs h),clo_put (fun _ _ e=>(th_val hs hp e).2) (lfw_clo hp h)⟩
section
variable{c c2:Int}{part:Str}{m1:List (Str × Kd)}{m2:List (Str × (List Kd × Kd))}{ws0 ws:List (Str × Kd)}
theorem seal_ok(hs:smW part) (hp:part≠"") (hh:∀z∈hidL m1,smW z) (hW:WOk part (hidL m1) ws0) (hw:ws=ws0∨ws=ws0.reverse):SealOk (PGof part) ws:=fun q hq=>by
 have hq0:q∈ws0:=by
  rcases hw with rfl|rfl
  ·exact hq
  ·exact List.mem_reverse.mp hq
 have hb:=lfw_bk hs (hW.mx q hq0)
 have hv:=wput_val hs hp (hW.mx q hq0)
 refine⟨smW_ok (hh _ (hW.sub q hq0)),sm_ok hb.1,by have:=bk_words hb;omega,fun _=>?_⟩
 rw [tel_th hp]
 exact⟨sm_ok hv.1.1,by have:=bk_words hv.1;show(wPut part q).2.words≤27;omega⟩
theorem gl_rev{us:List (Str × Kd)}(nd:(us.map (·.1)).Nodup):Gl us.reverse=Gl us:=by
 funext n
 unfold Gl
 split
 ·have nd':(us.reverse.map (·.1)).Nodup:=by
   rw [List.map_reverse]
   exact(List.reverse_perm _).nodup_iff.mpr nd
  cases e:look us n.2 with
  |some x=>exact look_of_get nd' (List.mem_reverse.mpr (get_of_look e))
  |none =>
   refine look_none fun h=>?_
   rw [List.map_reverse,List.mem_reverse] at h
   obtain⟨q,hq,e2⟩:=List.mem_map.mp h
   have:(n.2,q.2)∈us:=by rw [←e2];exact hq
   rw [look_of_get nd this] at e
   cases e
 ·rfl
theorem wp_nd(hW:WOk part (hidL m1) ws0):((ws0.map (wPut part)).map (·.1)).Nodup:=by
 rw [List.map_map]
 exact hW.nd
theorem wp_all(hs:smW part) (hp:part≠"") (hW:WOk part (hidL m1) ws0):∀q∈ws0.map (wPut part),Clo q.2∧Bk 6 q.2∧q.1∈hidL m1:=fun q hq=>by
 obtain⟨q',hq',rfl⟩:=List.mem_map.mp hq
 have hv:=wput_val hs hp (hW.mx q' hq')
 exact⟨hv.2,hv.1,hW.sub q' hq'⟩
theorem seal_run(hs:smW part) (hp:part≠"") (h1:BK 3 m1) (h2:BF 3 m2) (hW:WOk part (hidL m1) ws0) (hw:ws=ws0∨ws=ws0.reverse):rrun m1 m2 (ws.map (toldW (PGof part)))=.ok (m1.map (putP (Gw part ws0))) (m2.map (putQ (Gw part ws0))):=by
 have e:toldW (PGof part)=wPut part:=by
  funext q
  show(q.1,Kd.put (tel0 (PGof part)) q.2)=_
  rw [tel_th hp]
 have go:∀us:List (Str × Kd),(∀q∈us,Clo q.2∧Bk 6 q.2∧q.1∈hidL m1)→(us.map (·.1)).Nodup→rrun m1 m2 us=.ok (m1.map (putP (Gl us))) (m2.map (putQ (Gl us))):=fun us ha hn=>by
  have:=rrun_gl h1 h2 (ws:=[]) (us:=us) ha hn
  rw [putP_none,putQ_none,List.nil_append] at this
  exact this
 have nd:=wp_nd hW
 have al:=wp_all hs hp hW
 rw [e]
 rcases hw with rfl|rfl
 ·exact go _ al nd
 ·rw [List.map_reverse,go _ (fun q hq=>al q (List.mem_reverse.mp hq)) (by rw [List.map_reverse];exact(List.reverse_perm _).nodup_iff.mpr nd),gl_rev nd]
  rfl
theorem due_bk(hs:smW part) (hp:part≠"") (h1:BK 3 m1) (hW:WOk part (hidL m1) ws0):BK 18 (m1.map (putP (Gw part ws0))):=put_BK (n:=6) (by decide) (fun _ _ e=>(wp_all hs hp hW _ (gl_some e)).2.1) h1
theorem due_bf(hs:smW part) (hp:part≠"") (h2:BF 3 m2) (hW:WOk part (hidL m1) ws0):BF 18 (m2.map (putQ (Gw part ws0))):=put_BF (n:=6) (by decide) (fun _ _ e=>(wp_all hs hp hW _ (gl_some e)).2.1) h2
theorem given_gl{gl:List (Str × Kd)}{hs:List Str}(h:gl.map (·.1)=hs):givenF gl hs=Gl gl:=by
 funext n
 unfold givenF Gl
 by_cases e:n.1=""
 ·rw [if_pos e]
  by_cases e2:n.2∈hs
  ·rw [if_pos ⟨e,e2⟩]
  ·rw [if_neg fun h=>e2 h.2]
   exact(look_none fun h'=>e2 (h▸h')).symm
 ·rw [if_neg e,if_neg fun h=>e h.1]
theorem far_bk{k:Kd}(h:MixK (LfS [] [farK]) k):Bk 3 k:=mix_bk (hs:=[]) (ks:=[farK]) (fun k hk=>by rw [List.mem_singleton.mp hk];exact far_sm) (fun z hz=>nomatch hz) h
theorem fit_ext{a1 f1:List (Str × Kd)}{a2 f2:List (Str × (List Kd × Kd))}{G:Str × Str→Option Kd}(nd1:(f1.map (·.1)).Nodup)(nd2:(f2.map (·.1)).Nodup)(s1:∀q∈a1.map (putP G),q∈f1)(s2:∀q∈a2.map (putQ G),q∈f2)(hG:GOf a1 G):fitR f1 a1 f2 a2=none∧Gf f1 a1=G:=by
 have k1:∀q∈a1,look f1 q.1=some (Kd.put G q.2):=fun q hq=>look_of_get nd1 (s1 _ (List.mem_map.mpr ⟨q,hq,rfl⟩))
 have k2:∀q∈a2,look f2 q.1=some (putFn G q.2):=fun q hq=>look_of_get nd2 (s2 _ (List.mem_map.mpr ⟨q,hq,rfl⟩))
 have g:=gf_eq hG fun z hz=>k1 _ (hid_iff.mp hz)
 refine⟨?_,g⟩
 unfold fitR
 rw [no1_none fun q hq=>by rw [k1 q hq];exact(fun h=>nomatch h),g,no3_none k1,no4_none k2]
 rfl
theorem gof_gl{a1 gl:List (Str × Kd)}(h:gl.map (·.1)=hidL a1):GOf a1 (Gl gl):=fun n=>by
 rw [←given_gl h]
 unfold givenF
 by_cases c:n.1=""∧n.2∈hidL a1
 ·rw [if_pos c]
  refine⟨fun _=>c,fun _=>?_⟩
  rw [←h] at c
  intro e
  obtain⟨q,hq,e2⟩:=List.mem_map.mp c.2
  unfold look at e
  rw [Option.map_eq_none_iff,List.find?_eq_none] at e
  exact absurd (decide_eq_true e2) (e q hq)
 ·rw [if_neg c]
  exact⟨fun h=>absurd rfl h,fun h=>absurd h c⟩
theorem two_of18{a1 f1:List (Str × Kd)}{a2 f2:List (Str × (List Kd × Kd))}(nd:(a1.map (·.1)).Nodup)(l1:a1.length≤100)(l2:a2.length≤100)(b1:BK 18 f1)(b2:BF 18 f2)(g1:BK 18 a1)(g2:BF 18 a2)(p1:BK 18 (a1.map (putP (Gf f1 a1))))(p2:BF 18 (a2.map (putQ (Gf f1 a1)))):Two f1 a1 f2 a2 40:=by
 have smk:∀{q:Str × Kd},smW q.1∧Bk 18 q.2→SmK q:=fun h=>⟨h.1,h.2.1,by have:=bk_words h.2;omega,by have:=bk_depth h.2;omega⟩
 have smf:∀{q:Str × (List Kd × Kd)},(smW q.1∧q.2.1.length≤4∧∀k∈q.2.2::q.2.1,Bk 18 k)→SmF q:=fun h=>⟨h.1,h.2.1,fun k hk=>⟨(h.2.2 k hk).1,by have:=bk_words (h.2.2 k hk);omega,by have:=bk_depth (h.2.2 k hk);omega⟩⟩
 refine⟨l1,l2,fun q hq=>smk (b1 q hq),fun q hq=>smk (g1 q hq),fun q hq=>smf (b2 q hq),fun q hq=>smf (g2 q hq),nd,fun q hq=>?_,fun q hq k hk=>?_,fun q hq=>?_,fun q hq=>?_⟩
 ·have:=bk_depth (g1 q hq).2
  omega
 ·have:=bk_depth ((g2 q hq).2.2 k hk)
  omega
 ·have h:=(p1 _ (List.mem_map.mpr ⟨q,hq,rfl⟩)).2
  have w1:=bk_words h
  have w2:=bk_depth h
  replace w1:(Kd.put (Gf f1 a1) q.2).words+1≤2*18:=w1
  replace w2:Kd.depth (Kd.put (Gf f1 a1) q.2)≤18:=w2
  omega
 ·obtain⟨_,h4,hk⟩:=p2 _ (List.mem_map.mpr ⟨q,hq,rfl⟩)
  replace h4:(putFn (Gf f1 a1) q.2).1.length≤4:=h4
  replace hk:∀k∈(putFn (Gf f1 a1) q.2).2::(putFn (Gf f1 a1) q.2).1,Bk 18 k:=hk
  refine⟨Nat.le_trans (sumK_le (n:=35) fun k h=>(by have:=bk_words (hk k h);omega)) ?_,fun k h=>(by have:=bk_depth (hk k h);omega)⟩
  rw [List.length_cons]
  have:((putFn (Gf f1 a1) q.2).1.length+1)*35≤5*35:=Nat.mul_le_mul_right _ (by omega)
  omega
theorem num_bk{n:Int}(h0:0≤n)(h1:n≤100):Bk 18 (.num n):=⟨⟨h0,Int.le_trans h1 (by decide)⟩,by show 1≤18;decide⟩
theorem ful_bk{ns:List Int}{m f:List (Str × Kd)}{i:Nat}(hi:i < 4)(h:Ful (moreK ns) m f i)(b:BK 18 m):BK 18 f:=fun q hq=>by
 rcases h.frm q hq with e|⟨j,hj,rfl⟩
 ·exact b q e
 ·exact⟨smW_L _ _,num_bk (by omega) (by omega)⟩
theorem ful_bf{ns:List Int}{m f:List (Str × (List Kd × Kd))}{i:Nat}(hi:i < 4)(h:Ful (moreF ns) m f i)(b:BF 18 m):BF 18 f:=fun q hq=>by
 rcases h.frm q hq with e|⟨j,hj,rfl⟩
 ·exact b q e
 ·refine⟨smW_L _ _,by show(List.replicate j _).length≤4;rw [List.length_replicate];omega,fun k hk=>?_⟩
  rcases List.mem_cons.mp hk with rfl|hk
  ·exact num_bk (by decide) (by decide)
  ·rw [List.eq_of_mem_replicate hk]
   exact num_bk (by decide) (by decide)
end
structure FullIs(a1 f1:List (Str × Kd))(a2 f2:List (Str × (List Kd × Kd))):Prop where
 b1:BK 18 f1
 b2:BF 18 f2
 nd1:(f1.map (·.1)).Nodup
 nd2:(f2.map (·.1)).Nodup
 l1:f1.length≤100
 l2:f2.length≤100
 fit:fitR f1 a1 f2 a2=none
 two:Two f1 a1 f2 a2 40
theorem full_is{ns:List Int}{part:Str}{m1 f1 ws0 gl:List (Str × Kd)}{m2 f2:List (Str × (List Kd × Kd))}{i:Nat}(hs:smW part) (hp:part≠"") (h1:BK 3 m1) (h2:BF 3 m2) (n1:(m1.map (·.1)).Nodup) (l1:m1.length≤90) (l2:m2.length≤90) (hW:WOk part (hidL m1) ws0)
  (hi:i < 4) (hgl:gl.map (·.1)=hidL (m1.map (putP (Gw part ws0)))) (hg:∀q∈gl,MixK (LfS [] [farK]) q.2)
  (U1:Ful (moreK ns) ((m1.map (putP (Gw part ws0))).map (putP (givenF gl (hidL (m1.map (putP (Gw part ws0))))))) f1 i) (U2:Ful (moreF ns) ((m2.map (putQ (Gw part ws0))).map (putQ (givenF gl (hidL (m1.map (putP (Gw part ws0))))))) f2 i) :
  FullIs (m1.map (putP (Gw part ws0))) f1 (m2.map (putQ (Gw part ws0))) f2:=by
 have al:=wp_all hs hp hW
 have cw:∀q∈ws0.map (wPut part),Clo q.2:=fun q hq=>(al q hq).1
 have bg:∀n g,Gl (ws0.map (wPut part)++gl) n=some g→Bk 6 g:=fun n g e=>by
  rcases List.mem_append.mp (gl_some e) with e|e
  ·exact(al _ e).2.1
  ·exact(far_bk (hg _ e)).mono (by decide)
 have ef:=given_gl hgl
 rw [ef] at U1 U2
 have e1:(m1.map (putP (Gw part ws0))).map (putP (Gl gl))=m1.map (putP (Gl (ws0.map (wPut part)++gl))):=putP_put cw m1
 have e2:(m2.map (putQ (Gw part ws0))).map (putQ (Gl gl))=m2.map (putQ (Gl (ws0.map (wPut part)++gl))):=putQ_put cw m2
 have p1:BK 18 ((m1.map (putP (Gw part ws0))).map (putP (Gl gl))):=by rw [e1];exact put_BK (n:=6) (by decide) bg h1
 have p2:BF 18 ((m2.map (putQ (Gw part ws0))).map (putQ (Gl gl))):=by rw [e2];exact put_BF (n:=6) (by decide) bg h2
 have b1:=ful_bk hi U1 p1
 have b2:=ful_bf hi U2 p2
 obtain⟨hfit,hgf⟩:=fit_ext U1.nd U2.nd U1.sub U2.sub (gof_gl hgl)
 have k1:=U1.len
 have k2:=U2.len
 rw [List.length_map,List.length_map] at k1 k2
 exact⟨b1,b2,U1.nd,U2.nd,by omega,by omega,hfit,two_of18 (by rw [putP_keys];exact n1) (by rw [List.length_map];omega) (by rw [List.length_map];omega) b1 b2 (due_bk hs hp h1 hW) (due_bf hs hp h2 hW) (by rw [hgf];exact p1) (by rw [hgf];exact p2)⟩
theorem hid_bk{a1:List (Str × Kd)}{own:Str}(ho:smW own)(h1:BK 18 a1):∀n g,hidG a1 own n=some g→Bk 1 g:=fun n g e=>by
 unfold hidG at e
 split at e
 ·rename_i c
  cases e
  have:=(h1 _ (hid_iff.mp c.2)).1
  exact⟨⟨⟨ho.1,ho.2⟩,this.1,this.2⟩,Nat.le_refl _⟩
 ·cases e
theorem two_nil{f1:List (Str × Kd)}{f2:List (Str × (List Kd × Kd))}(b1:BK 18 f1)(b2:BF 18 f2):Two f1 [] f2 [] 40:=two_of18 .nil (Nat.zero_le _) (Nat.zero_le _) b1 b2 (fun q hq=>nomatch hq) (fun q hq=>nomatch hq) (fun q hq=>nomatch hq) (fun q hq=>nomatch hq)
end K42
namespace K42
open PySem L2 Kk
abbrev lwN:List Str:=["_law_script","_law_part","_law_face_here","_law_withs_here","_law_given","_law_faces","_law_there_here","_law_parts","_law_due","_law_want","_law_full_here","_law_had","_law_own","_law_other","_law_good"]
structure LS(K:PySem.W.Frag)(H:Hp)(CF:Addr)(ns:List Int)(part:Str)(m1:List (Str × Kd))(m2:List (Str × (List Kd × Kd)))(ws:List (Str × Kd))(a fh wt ff th pa:Addr):Prop where
 hA:SqL K H a (ns.map V.int)
 hfh:LfAt K H fh m1 m2
 hwt:∃xs,SqT K H wt xs∧WithsAt K H xs ws
 hff:∃(b1 b2:Addr) (fkv:List (Key × V)),H ff=some (.dK fkv)∧valV fkv (.inr "sealed")=some (.ref b1)∧valV fkv (.inr "other")=some (.ref b2)∧(fkv.map fun p=>kV p.1)=[.str "bare",.str "sealed",.str "other"]∧FaceF K H CF b1 m1 m2∧FaceF K H CF b2 [] []
 hth:RkAt K H th (thereM part)
 hpa:∃(pf:Addr) (pkv:List (Key × V)),H pa=some (.dK pkv)∧valV pkv (.inr part)=some (.ref pf)∧PartsAt K H CF pkv (PGof part)∧FaceF K H CF pf (thereM part) []
theorem LS.same{K:PySem.W.Frag}{H H':Hp}{CF:Addr}{ns:List Int}{part:Str}{m1:List (Str × Kd)}{m2:List (Str × (List Kd × Kd))}{ws:List (Str × Kd)}{a fh wt ff th pa:Addr}(e:Same H H')(h:LS K H CF ns part m1 m2 ws a fh wt ff th pa):LS K H' CF ns part m1 m2 ws a fh wt ff th pa:=by
 obtain⟨h1,h2,⟨xs,h3,h4⟩,⟨b1,b2,fkv,h5,h6,h7,h8,h9,h10⟩,h11,⟨pf,pkv,h12,h13,h14,h15⟩⟩:=h
 exact⟨sql_same e h1,h2.same e,⟨xs,e.tup h3,Paired.mapP h4 fun _ _ h=>h.same e⟩,⟨b1,b2,fkv,e _ _ h5,h6,h7,h8,h9.same e,h10.same e⟩,h11.same e,⟨pf,pkv,e _ _ h12,h13,h14.same e,h15.same e⟩⟩
theorem there_alm{part:Str}(hs:smW part):AlM (thereM part) []:=by
 refine alm_of (by show 3≤100;decide) (Nat.zero_le _) (fun q hq=>?_) (fun q hq=>nomatch hq)
 rcases List.mem_cons.mp hq with rfl|hq
 ·exact⟨(show smW "k" from⟨by decide +kernel,by decide +kernel⟩),⟨⟨hs.1,hs.2⟩,by decide +kernel,by decide +kernel⟩,by show 1≤18;decide⟩
 ·rcases List.mem_cons.mp hq with rfl|hq
  ·exact⟨⟨by decide +kernel,by decide +kernel⟩,⟨by decide,by decide⟩,by show 1≤18;decide⟩
  ·rw [List.mem_singleton.mp hq]
   exact⟨⟨by decide +kernel,by decide +kernel⟩,⟨⟨by decide,by decide⟩,by decide,by decide⟩,by show 2≤18;decide⟩
theorem nil_alm:AlM [] []:=⟨Nat.zero_le _,Nat.zero_le _,(fun q hq=>nomatch hq),(fun q hq=>nomatch hq)⟩
theorem nil_good:Good [] []:=⟨.nil,.nil,Nat.zero_le _,Nat.zero_le _,(fun q hq=>nomatch hq),(fun q hq=>nomatch hq)⟩
section
variable{P:Program}{w:World}{K:PySem.W.Frag}{mg:Str→Option Value}{base:Heap}
theorem scLaw:FnScope lwN ["_law_script"] (defScope sLaw):=⟨rfl,rfl,rfl,by decide +kernel,rfl,by decide +kernel,by decide +kernel⟩
set_option maxHeartbeats 0 in
theorem lw16{f fm fs fn CF CA CN CT:Addr}{fdm fds fdn:FuncData}
  (GM:FnOk P w K mg base CX0 43 fm fdm smP (spSame K CF)) (bM:Binds K fdm smP []) (kM:PySem.W.keepIn K (.ref fm)=true) (mM:mg "_law_same"=some (.ref fm))
  (GS:FnOk P w K mg base CX0 46 fs fds seP (spSeen K CF 40)) (bS:Binds K fds seP []) (kS:PySem.W.keepIn K (.ref fs)=true) (mS:mg "_law_seen"=some (.ref fs))
  (GN:FnOk P w K mg base (CX1 P w) 46 fn fdn wnP (spWanted K CF CA CN CT)) (bN:Binds K fdn wnP []) (kN:PySem.W.keepIn K (.ref fn)=true) (mN:mg "wanted"=some (.ref fn)) (mli:mg "list"=none)
  {cdv:Value} {A:Around} {outer:List Env} {s:Shared} {H:Hp} {E:XK} (hr:Room 46 (A.deeper (PyProof.Rows.envOfC "law" (defScope sLaw) s.heap.objs.size f cdv))) :
  ∃t,PSs (cxOf CX0 P w K mg base lwN "law" (defScope sLaw) f cdv A outer s H E).nox (List.drop 16 (defBody sLaw)) t ∧
   ∀(Q:VK) (H1:Hp) (ns:List Int) (part own:Str) (m1 a1 f1:List (Str × Kd)) (m2 a2 f2:List (Str × (List Kd × Kd))) (ws:List (Str × Kd)) (a fh wt ff th pa du wn fu hd:Addr) (x4 x13 x14:Option V),
    LS K H1 CF ns part m1 m2 ws a fh wt ff th pa→LfAt K H1 du a1 a2→FaceF K H1 CF wn a1 a2→LfAt K H1 fu f1 f2→FaceF K H1 CF hd f1 f2→smW part→smW own→FullIs a1 f1 a2 f2→AlM a1 a2→AlM m1 m2→(∀H',Q (.bl true) H') →
    t { nx:=fun _ H'=>Q .non H',rt:=Q } [some (.ref a),some (.str part),some (.ref fh),some (.ref wt),x4,some (.ref ff),some (.ref th),some (.ref pa),some (.ref du),some (.ref wn),some (.ref fu),some (.ref hd),some (.str own),x13,x14] H1:=by
 have hrM:Room (42+1) _:=hr.mono (show 42+1≤46 by decide)
 have hu:=hr.units
 have hu1:=hu_of hr
 refine⟨_,@pss_cons _ _ _ _ _ (ps_set (i:=13) scLaw.nd rfl (Or.inl rfl) (pe_call GN hr rfl mN kN bN .nil passNo (@pa_cons _ _ _ _ _ (@pe_tup _ _ _ _ _ (@pa_cons _ _ _ _ _ pe_str (@pa_cons _ _ _ _ _ (@pe_tup _ _ _ _ _ pa_nil) pa_nil rfl) rfl)) (@pa_cons _ _ _ _ _ (pv 5) (@pa_cons _ _ _ _ _ (pv 7) pa_nil rfl) rfl) rfl)))
  (@pss_cons _ _ _ _ _ (ps_if (PW.pt (pw_or (pt_not (L2.pt_val (pe_call GM hrM rfl mM kM bM .nil pass0 (@pa_cons _ _ _ _ _ (pv 13) (@pa_cons _ _ _ _ _ (pe_lst pa_nil) (@pa_cons _ _ _ _ _ (pe_lst pa_nil) pa_nil rfl) rfl) rfl)))) (pw_or1 (pt_not (L2.pt_val (pe_call GS hr rfl mS kS bS .nil pass0 (@pa_cons _ _ _ _ _ (pv 11) (@pa_cons _ _ _ _ _ (pv 13) (@pa_cons _ _ _ _ _ (pv 12) (@pa_cons _ _ _ _ _ (@pe_tup _ _ _ _ _ (@pa_cons _ _ _ _ _ (pe_lst pa_nil) (@pa_cons _ _ _ _ _ (pe_lst pa_nil) pa_nil rfl) rfl)) pa_nil rfl) rfl) rfl) rfl))))))) (@pss_one _ _ _ (@ps_ret _ _ _ _ pe_bl)) pss_nil)
  (@pss_cons _ _ _ _ _ (ps_set (i:=14) scLaw.nd rfl (Or.inl rfl) (pe_and (pe_call GM hrM rfl mM kM bM .nil pass0 (@pa_cons _ _ _ _ _ (pv 9) (@pa_cons _ _ _ _ _ (pe_ix ix_tup (pv 8) pe_int (fun _ _=>rfl)) (@pa_cons _ _ _ _ _ (pe_ix ix_tup (pv 8) pe_int (fun _ _=>rfl)) pa_nil rfl) rfl) rfl)) (pe_one (pe_call GM hrM rfl mM kM bM .nil pass0 (@pa_cons _ _ _ _ _ (pv 11) (@pa_cons _ _ _ _ _ (pe_ix ix_tup (pv 10) pe_int (fun _ _=>rfl)) (@pa_cons _ _ _ _ _ (pe_ix ix_tup (pv 10) pe_int (fun _ _=>rfl)) pa_nil rfl) rfl) rfl)))))
  (@pss_cons _ _ _ _ _ (ps_set (i:=14) scLaw.nd rfl (Or.inl rfl) (pe_and (pv 14) (pe_one (pe_call GM hrM rfl mM kM bM .nil pass0 (@pa_cons _ _ _ _ _ (pe_dget hu1 (pv 7) (pv 1) (fun _ _=>rfl)) (@pa_cons _ _ _ _ _ (pv 6) (@pa_cons _ _ _ _ _ (pe_lst pa_nil) pa_nil rfl) rfl) rfl)))))
  (@pss_one _ _ _ (@ps_ret _ _ _ _ (pe_and (pv 14) (pe_and (pe_call GM hrM rfl mM kM bM .nil pass0 (@pa_cons _ _ _ _ _ (pe_dget hu1 (pv 5) pe_str (fun _ _=>rfl)) (@pa_cons _ _ _ _ _ (pe_ix ix_tup (pv 2) pe_int (fun _ _=>rfl)) (@pa_cons _ _ _ _ _ (pe_ix ix_tup (pv 2) pe_int (fun _ _=>rfl)) pa_nil rfl) rfl) rfl)) (pe_one (pe_cmpR (op_eqD hu) (pe_callTy (call_list_dK rfl) rfl mli bootList (@pa_cons _ _ _ _ _ (pv 5) pa_nil rfl)) (pe_lst (@pa_cons _ _ _ _ _ pe_str (@pa_cons _ _ _ _ _ pe_str (@pa_cons _ _ _ _ _ pe_str pa_nil rfl) rfl) rfl)) (nomark _)))))))))),?_⟩
 intro Q H1 ns part own m1 a1 f1 m2 a2 f2 ws a fh wt ff th pa du wn fu hd x4 x13 x14 hL hdu hwn hfu hhd hsp hso hI ha hm q
 obtain⟨b1,b2,fkv,hff,v1,v2,vk,hb1,hb2⟩:=hL.hff
 obtain⟨pf,pkv,hpa,vp,hPG,hpf⟩:=hL.hpa
 refine⟨(by show 0≤sizeLine;decide),fun p0 hp0=>?_⟩
 have u0:=same_new hp0 (.tup [])
 refine⟨(by show 2≤sizeLine;decide),fun p1 hp1=>?_⟩
 have u1:=same_new hp1 (.tup [.str "other",.ref p0])
 have s1:=u0.trans u1
 refine⟨_,rfl,_,rfl,.ref p1,ff,pa,fkv,pkv,PGof part,rfl,s1 _ _ hff,s1 _ _ hpa,hPG.same s1,.inr ⟨p1,p0,"other",[],[],rfl,SqT.of upd_same,⟨by decide +kernel,by decide +kernel⟩,SqT.of (u1 _ _ upd_same),.nil,Nat.zero_le _,(fun q hq=>nomatch hq),.inr ⟨b2,[],[],v2,hb2.same s1,nil_good,(fun⟨_,hq,_⟩=>nomatch hq),fun _=>⟨fun m1' m2' e H2 y s2 hy hN=>?_,(fun e=>nomatch e),(fun e=>nomatch e)⟩⟩⟩⟩
 cases e
 have s12:=s1.trans s2
 refine⟨_,rfl,(by show 0≤sizeLine;decide),fun l1 hl1=>?_⟩
 have u3:=same_new hl1 (.lst [])
 refine⟨(by show 0≤sizeLine;decide),fun l2 hl2=>?_⟩
 have u4:=same_new hl2 (.lst [])
 have u34:=u3.trans u4
 refine⟨y,l1,l2,[],[],rfl,hN.face.same u34,⟨[],u4 _ _ upd_same,.nil⟩,⟨[],upd_same,.nil⟩,nil_alm,fun H3 s3=>⟨true,rfl,iteF ?_⟩⟩
 have s3':=u34.trans s3
 refine⟨_,rfl,_,rfl,_,rfl,(by show 0≤sizeLine;decide),fun l3 hl3=>?_⟩
 have u5:=same_new hl3 (.lst [])
 refine⟨(by show 0≤sizeLine;decide),fun l4 hl4=>?_⟩
 have u6:=same_new hl4 (.lst [])
 refine⟨(by show 2≤sizeLine;decide),fun p2 hp2=>?_⟩
 have u7:=same_new hp2 (.tup [.ref l3,.ref l4])
 have u57:=u5.trans (u6.trans u7)
 have s4:=s3'.trans u57
 have s14:=s12.trans s4
 refine⟨hd,p2,.ref y,own,f1,f2,[],[],rfl,hhd.same s14,⟨l3,l4,upd_same,⟨[],(u6.trans u7) _ _ upd_same,.nil⟩,⟨[],u7 _ _ upd_same,.nil⟩⟩,nil_alm,.inr ⟨y,[],[],rfl,hN.face.same s4,two_nil hI.b1 hI.b2,.nil,hso,rfl,rfl,rfl⟩,fun H5 s5=>⟨true,rfl,iteF ?_⟩⟩
 have s15:=s14.trans s5
 obtain⟨d1,d2,hd5,hD1,hD2⟩:=hdu.same s15
 refine⟨_,rfl,_,rfl,du,_,_,_,rfl,rfl,SqT.of hd5,(show atI [V.ref d1,.ref d2] 0=some (.ref d1) from rfl),_,rfl,du,_,_,_,rfl,rfl,SqT.of hd5,(show atI [V.ref d1,.ref d2] 1=some (.ref d2) from rfl),wn,d1,d2,a1,a2,rfl,hwn.same s15,hD1,hD2,ha,fun H6 s6=>⟨true,rfl,iteT ?_⟩⟩
 have s16:=s15.trans s6
 obtain⟨g1,g2,hf6,hF1,hF2⟩:=hfu.same s16
 refine⟨_,rfl,_,rfl,fu,_,_,_,rfl,rfl,SqT.of hf6,(show atI [V.ref g1,.ref g2] 0=some (.ref g1) from rfl),_,rfl,fu,_,_,_,rfl,rfl,SqT.of hf6,(show atI [V.ref g1,.ref g2] 1=some (.ref g2) from rfl),hd,g1,g2,f1,f2,rfl,hhd.same s16,hF1,hF2,alm_of hI.l1 hI.l2 hI.b1 hI.b2,fun H7 s7=>?_⟩
 have s17:=s16.trans s7
 have gp:DGet H7 pa (.str part) (some (.ref pf)):=by
  rw [←vp]
  exact DGet.k (k:=.inr part) (s17 _ _ hpa)
 refine⟨_,rfl,true,rfl,iteT ?_⟩
 refine⟨_,rfl,_,rfl,pa,.ref pf,rfl,gp,_,rfl,(by show 0≤sizeLine;decide),fun l5 hl5=>?_⟩
 have u8:=same_new hl5 (.lst [])
 have s18:=s17.trans u8
 refine⟨pf,th,l5,thereM part,[],rfl,hpf.same s18,hL.hth.same s18,⟨[],upd_same,.nil⟩,there_alm hsp,fun H8 s8=>?_⟩
 have s19:=s18.trans s8
 have gf:DGet H8 ff (.str "sealed") (some (.ref b1)):=by
  rw [←v1]
  exact DGet.k (k:=.inr "sealed") (s19 _ _ hff)
 obtain⟨e1,e2,he8,hE1,hE2⟩:=hL.hfh.same s19
 refine⟨_,rfl,true,rfl,iteT ?_⟩
 refine⟨_,rfl,ff,.ref b1,rfl,gf,_,rfl,fh,_,_,_,rfl,rfl,SqT.of he8,(show atI [V.ref e1,.ref e2] 0=some (.ref e1) from rfl),_,rfl,fh,_,_,_,rfl,rfl,SqT.of he8,(show atI [V.ref e1,.ref e2] 1=some (.ref e2) from rfl),b1,e1,e2,m1,m2,rfl,hb1.same s19,hE1,hE2,hm,fun H9 s9=>⟨true,rfl,iteT ?_⟩⟩
 refine⟨_,rfl,ff,fkv,rfl,(s19.trans s9) _ _ hff,fun l6 hl6=>?_⟩
 rw [vk] at *
 have u9:=same_new hl6 (.lst [.str "bare",.str "sealed",.str "other"])
 refine⟨(by show 3≤sizeLine;decide),fun l7 hl7=>?_⟩
 have u10:=same_new hl7 (.lst [.str "bare",.str "sealed",.str "other"])
 refine⟨.list [.str "bare",.str "sealed",.str "other"],.list [.str "bare",.str "sealed",.str "other"],.lst (SqL.of (u10 _ _ upd_same)) (.cons (.str _) (.cons (.str _) (.cons (.str _) .nil))),.lst (SqL.of upd_same) (.cons (.str _) (.cons (.str _) (.cons (.str _) .nil))),by decide +kernel,by decide +kernel,?_⟩
 have ee:PyData.eqv (.list [.str "bare",.str "sealed",.str "other"]) (.list [.str "bare",.str "sealed",.str "other"])=true:=by decide +kernel
 show Q (.bl (PyData.eqv (.list [.str "bare",.str "sealed",.str "other"]) (.list [.str "bare",.str "sealed",.str "other"]))) _
 rw [ee]
 exact q _
end
end K42
namespace K42
open PySem L2 Kk
theorem apK{ns:List Int}{c2:Int}{ks:List Kd}{m1:List (Str × Kd)}{m2:List (Str × (List Kd × Kd))}(h:FaceOk (cellOf ns 1) c2 0 ks m1 m2):Apart (moreK ns) m1:=fun i hi q hq e=>by
 obtain⟨j,hj,e'⟩:=h.w1 q hq
 rw [e'] at e
 have:=wordL_inj e
 omega
theorem apF{ns:List Int}{c:Int}{ks:List Kd}{m1:List (Str × Kd)}{m2:List (Str × (List Kd × Kd))}(h:FaceOk c (cellOf ns 2) 0 ks m1 m2):Apart (moreF ns) m2:=fun i hi q hq e=>by
 obtain⟨n,hn,e'⟩:=h.fu.1
 have hm:q.1∈m2.map (·.1):=List.mem_map.mpr ⟨q,hq,rfl⟩
 rw [e'] at hm
 obtain⟨j,hj,e2⟩:=wds_mem.mp hm
 rw [e2] at e
 have:=wordL_inj e
 omega
section
variable{P:Program}{w:World}{K:PySem.W.Frag}{mg:Str→Option Value}{base:Heap}
set_option maxHeartbeats 0 in
theorem lw7{f fm fs fn fp fl fd' fc fw fg CF CA CN CT:Addr}{fdm fds fdn fdp fdl fdd fdc fdw fdg:FuncData}
  (GM:FnOk P w K mg base CX0 43 fm fdm smP (spSame K CF)) (bM:Binds K fdm smP []) (kM:PySem.W.keepIn K (.ref fm)=true) (mM:mg "_law_same"=some (.ref fm))
  (GS:FnOk P w K mg base CX0 46 fs fds seP (spSeen K CF 40)) (bS:Binds K fds seP []) (kS:PySem.W.keepIn K (.ref fs)=true) (mS:mg "_law_seen"=some (.ref fs))
  (GN:FnOk P w K mg base (CX1 P w) 46 fn fdn wnP (spWanted K CF CA CN CT)) (bN:Binds K fdn wnP []) (kN:PySem.W.keepIn K (.ref fn)=true) (mN:mg "wanted"=some (.ref fn)) (mli:mg "list"=none)
  (GP:FnOk P w K mg base CX0 21 fp fdp paP (spPutAll K 20)) (bP:Binds K fdp paP []) (kP:PySem.W.keepIn K (.ref fp)=true) (mP:mg "_law_put_all"=some (.ref fp))
  (GF:FnOk P w K mg base CX0 22 fl fdl fuP (spFull K 20)) (bF:Binds K fdl fuP []) (kF:PySem.W.keepIn K (.ref fl)=true) (mF:mg "_law_full"=some (.ref fl))
  (GD:FnOk P w K mg base CX0 3 fd' fdd ["_law_face_here"] (spMade K CF)) (bD:Binds K fdd ["_law_face_here"] []) (kD:PySem.W.keepIn K (.ref fd')=true) (mD:mg "_law_made"=some (.ref fd'))
  (GC:FnOk P w K mg base CX0 1 fc fdc ["_law_script","_law_k"] (spCellX K)) (bC:Binds K fdc ["_law_script","_law_k"] []) (kC:PySem.W.keepIn K (.ref fc)=true) (mC:mg "_law_cell"=some (.ref fc))
  (GW:FnOk P w K mg base CX0 1 fw fdw wlP spWordL) (bW:Binds K fdw wlP []) (kW:PySem.W.keepIn K (.ref fw)=true) (mW:mg "_law_word"=some (.ref fw))
  (GG:FnOk P w K mg base CX0 22 fg fdg ["_law_face_here","_law_part"] (spHiding K 20)) (bG:Binds K fdg ["_law_face_here","_law_part"] []) (kG:PySem.W.keepIn K (.ref fg)=true) (mG:mg "_law_hiding"=some (.ref fg))
  (cF:Cls K CF) (nK:NoAttr K CF "kinds")
  {cdv:Value} {A:Around} {outer:List Env} {s:Shared} {H:Hp} {E:XK} (hr:Room 46 (A.deeper (PyProof.Rows.envOfC "law" (defScope sLaw) s.heap.objs.size f cdv))) :
  ∃t,PSs (cxOf CX0 P w K mg base lwN "law" (defScope sLaw) f cdv A outer s H E).nox (List.drop 7 (defBody sLaw)) t ∧
   ∀(Q:VK) (H1:Hp) (ns:List Int) (part:Str) (m1:List (Str × Kd)) (m2:List (Str × (List Kd × Kd))) (ws0 ws:List (Str × Kd)) (kvs:List (List Key × V)) (a fh wt g ff th pa:Addr) (x8 x9 x10 x11 x12 x13 x14:Option V),
    LS K H1 CF ns part m1 m2 ws a fh wt ff th pa→H1 g=some (.dT kvs)→GvAt K H1 kvs (Gw part ws0)→WOk part (hidL m1) ws0→(ws=ws0∨ws=ws0.reverse)→FaceOk (cellOf ns 1) (cellOf ns 2) 0 [partK part] m1 m2→ns.length≤63→smW part→part≠""→(∀H',Q (.bl true) H') →
    t { nx:=fun _ H'=>Q .non H',rt:=Q } [some (.ref a),some (.str part),some (.ref fh),some (.ref wt),some (.ref g),some (.ref ff),some (.ref th),some (.ref pa),x8,x9,x10,x11,x12,x13,x14] H1:=by
 have hrM:Room (42+1) _:=hr.mono (show 42+1≤46 by decide)
 have hr1:Room 1 _:=hr.mono (by decide)
 have hr3:Room 3 _:=hr.mono (by decide)
 have hr21:Room 21 _:=hr.mono (by decide)
 have hr22:Room 22 _:=hr.mono (by decide)
 obtain⟨t16,d16,k16⟩:=lw16 (outer:=outer) (H:=H) (E:=E) GM bM kM mM GS bS kS mS GN bN kN mN mli hr
 refine⟨_,@pss_cons _ _ _ _ _ (ps_set (i:=8) scLaw.nd rfl (Or.inl rfl) (pe_call GP hr21 rfl mP kP bP .nil pass0 (@pa_cons _ _ _ _ _ (pv 2) (@pa_cons _ _ _ _ _ (pv 4) pa_nil rfl) rfl)))
  (@pss_cons _ _ _ _ _ (ps_set (i:=9) scLaw.nd rfl (Or.inl rfl) (pe_call GN hr rfl mN kN bN .nil passNo (@pa_cons _ _ _ _ _ (@pe_tup _ _ _ _ _ (@pa_cons _ _ _ _ _ pe_str (@pa_cons _ _ _ _ _ (pv 3) pa_nil rfl) rfl)) (@pa_cons _ _ _ _ _ (pv 5) (@pa_cons _ _ _ _ _ (pv 7) pa_nil rfl) rfl) rfl)))
  (@pss_cons _ _ _ _ _ (ps_if (pt_not (L2.pt_val (pe_call GM hrM rfl mM kM bM .nil pass0 (@pa_cons _ _ _ _ _ (pv 9) (@pa_cons _ _ _ _ _ (pe_ix ix_tup (pv 8) pe_int (fun _ _=>rfl)) (@pa_cons _ _ _ _ _ (pe_ix ix_tup (pv 8) pe_int (fun _ _=>rfl)) pa_nil rfl) rfl) rfl)))) (@pss_one _ _ _ (@ps_ret _ _ _ _ pe_bl)) pss_nil)
  (@pss_cons _ _ _ _ _ (ps_expr (pe_bm0 PySem.F.plainAttrs_dict PySem.F.slot_dict_clear PySem.F.type_dict_clear mt_dclear (pe_fld (pv 9) rfl)))
  (@pss_cons _ _ _ _ _ (ps_set (i:=9) scLaw.nd rfl (Or.inl rfl) (pe_call GN hr rfl mN kN bN .nil passNo (@pa_cons _ _ _ _ _ (@pe_tup _ _ _ _ _ (@pa_cons _ _ _ _ _ pe_str (@pa_cons _ _ _ _ _ (pv 3) pa_nil rfl) rfl)) (@pa_cons _ _ _ _ _ (pv 5) (@pa_cons _ _ _ _ _ (pv 7) pa_nil rfl) rfl) rfl)))
  (@pss_cons _ _ _ _ _ (ps_set (i:=10) scLaw.nd rfl (Or.inl rfl) (pe_call GF hr22 rfl mF kF bF .nil pass0 (@pa_cons _ _ _ _ _ (pv 0) (@pa_cons _ _ _ _ _ (pv 8) pa_nil rfl) rfl)))
  (@pss_cons _ _ _ _ _ (ps_set (i:=11) scLaw.nd rfl (Or.inl rfl) (pe_call GD hr3 rfl mD kD bD .nil pass0 (@pa_cons _ _ _ _ _ (pv 10) pa_nil rfl)))
  (@pss_cons _ _ _ _ _ (ps_set (i:=12) scLaw.nd rfl (Or.inl rfl) (pe_call GW hr1 rfl mW kW bW .nil pass0 (@pa_cons _ _ _ _ _ (pe_call GC hr1 rfl mC kC bC .nil pass0 (@pa_cons _ _ _ _ _ (pv 0) (@pa_cons _ _ _ _ _ pe_int pa_nil rfl) rfl)) (@pa_cons _ _ _ _ _ pe_int pa_nil rfl) rfl)))
  (@pss_cons _ _ _ _ _ (ps_if (PW.pt (pw_or (pt_not (L2.pt_val (pe_call GS hr rfl mS kS bS .nil pass0 (@pa_cons _ _ _ _ _ (pv 11) (@pa_cons _ _ _ _ _ (pv 9) (@pa_cons _ _ _ _ _ (pv 12) (@pa_cons _ _ _ _ _ (pe_call GG hr22 rfl mG kG bG .nil pass0 (@pa_cons _ _ _ _ _ (pv 8) (@pa_cons _ _ _ _ _ (pv 12) pa_nil rfl) rfl)) pa_nil rfl) rfl) rfl) rfl)))) (pw_or1 (pt_not (L2.pt_val (pe_call GS hr rfl mS kS bS .nil pass0 (@pa_cons _ _ _ _ _ (pv 11) (@pa_cons _ _ _ _ _ pe_non (@pa_cons _ _ _ _ _ (pv 12) (@pa_cons _ _ _ _ _ (pv 10) pa_nil rfl) rfl) rfl) rfl))))))) (@pss_one _ _ _ (@ps_ret _ _ _ _ pe_bl)) pss_nil) d16)))))))),?_⟩
 intro Q H1 ns part m1 m2 ws0 ws kvs a fh wt g ff th pa x8 x9 x10 x11 x12 x13 x14 hL hg hG hW hw hF h63 hs hp q
 have hks:∀k∈[partK part],Kd.sm k:=fun k hk=>by
  rw [List.mem_singleton.mp hk]
  exact⟨⟨hs.1,hs.2⟩,by decide +kernel,by decide +kernel⟩
 have B1:=hF.b1 hks
 have B2:=hF.b2 hks
 have l1:=hF.l1
 have l2:=hF.fu.2.2.1
 have nd2:=hF.fu.2.1
 have A1:=due_bk hs hp B1 hW
 have A2:=due_bf hs hp B2 hW
 have hrun:=seal_run hs hp B1 B2 hW hw
 have hso:=seal_ok (m1:=m1) hs hp hF.hw hW hw
 have gd:=good_of hF.nd1 nd2 (by omega) (by omega) (B1.mono (by decide)) (B2.mono (by decide))
 have al1:AlM (m1.map (putP (Gw part ws0))) (m2.map (putQ (Gw part ws0))):=alm_of (by rw [List.length_map];omega) (by rw [List.length_map];omega) A1 A2
 have told:∀q∈ws,AllTold (PGof part) q:=fun q hq=>lfw_told hp (hW.mx q (by
  rcases hw with rfl|rfl
  ·exact hq
  ·exact List.mem_reverse.mp hq))
 have wlen:ws.length≤100:=by
  have e1:=hW.len
  have e2:=hid_len m1
  rcases hw with rfl|rfl
  ·omega
  ·rw [List.length_reverse]
   omega
 have okS:okW "sealed":=⟨by decide +kernel,by decide +kernel⟩
 have dkn1:(((m1.map (putP (Gw part ws0))).map (·.1))).Nodup:=by rw [putP_keys];exact hF.nd1
 have dkn2:(((m2.map (putQ (Gw part ws0))).map (·.1))).Nodup:=by rw [putQ_keys];exact nd2
 have kl1:(m1.map (putP (Gw part ws0))).length≤5:=by rw [List.length_map];omega
 have kl2:(m2.map (putQ (Gw part ws0))).length≤3:=by rw [List.length_map];omega
 have ap1:Apart (moreK ns) (m1.map (putP (Gw part ws0))):=(apK hF).put
 have ap2:Apart (moreF ns) (m2.map (putQ (Gw part ws0))):=(apF hF).putQ
 have full:∀{gl f1:List (Str × Kd)} {f2:List (Str × (List Kd × Kd))} {i:Nat},i < 4→gl.map (·.1)=hidL (m1.map (putP (Gw part ws0)))→(∀q∈gl,MixK (LfS [] [farK]) q.2)→Ful (moreK ns) ((m1.map (putP (Gw part ws0))).map (putP (givenF gl (hidL (m1.map (putP (Gw part ws0))))))) f1 i→Ful (moreF ns) ((m2.map (putQ (Gw part ws0))).map (putQ (givenF gl (hidL (m1.map (putP (Gw part ws0))))))) f2 i→FullIs (m1.map (putP (Gw part ws0))) f1 (m2.map (putQ (Gw part ws0))) f2:=fun hi hgl hg U1 U2=>full_is hs hp B1 B2 hF.nd1 (by omega) (by omega) hW hi hgl hg U1 U2
 have mal:AlM m1 m2:=alm_of (by omega) (by omega) (B1.mono (by decide)) (B2.mono (by decide))
 refine⟨_,rfl,_,rfl,fh,g,m1,m2,kvs,Gw part ws0,rfl,hL.hfh,by omega,by omega,(fun q hq=>by have:=bk_depth (B1 q hq).2;omega),(fun q hq=>⟨fun k hk=>by(have:=bk_depth ((B2 q hq).2.2 k (List.mem_cons_of_mem _ hk));omega),by(have:=bk_depth ((B2 q hq).2.2 _ (List.mem_cons_self ..));omega),Nat.le_trans (B2 q hq).2.1 (by decide)⟩),hg,hG,fun H2 du s2 hdu=>?_⟩
 have hL2:=hL.same s2
 clear hL hg hG s2
 generalize m1.map (putP (Gw part ws0))=a1 at A1 hrun al1 dkn1 kl1 ap1 full hdu
 generalize m2.map (putQ (Gw part ws0))=a2 at A2 hrun al1 dkn2 kl2 ap2 full hdu
 refine⟨_,rfl,(by show 2≤sizeLine;decide),fun p hp3=>?_⟩
 have s3:=same_new hp3 (.tup [.str "sealed",.ref wt])
 obtain⟨b1,b2,fkv,hff,v1,v2,vk,hb1,hb2⟩:=(hL2.same s3).hff
 obtain⟨pf,pkv,hpa,vp,hPG,hpf⟩:=(hL2.same s3).hpa
 obtain⟨xs,hx1,hx2⟩:=(hL2.same s3).hwt
 refine⟨_,rfl,_,rfl,.ref p,ff,pa,fkv,pkv,PGof part,rfl,hff,hpa,hPG,.inr ⟨p,wt,"sealed",xs,ws,rfl,SqT.of upd_same,okS,hx1,hx2,wlen,hso,.inr ⟨b1,m1,m2,v1,hb1,gd,(fun⟨q,hq,hn⟩=>absurd (told q hq) hn),fun _=>⟨fun m1' m2' e H4 y s4 hy hN=>?_,(fun e=>by rw [hrun] at e;cases e),(fun e=>by rw [hrun] at e;cases e)⟩⟩⟩⟩
 rw [hrun] at e
 cases e
 clear hff hpa hPG hx1 hx2 hb1 hb2 hpf v1 v2 vk vp
 have s24:=s3.trans s4
 obtain⟨d1,d2,hd4,hD1,hD2⟩:=id (hdu.same s24)
 refine⟨_,rfl,_,rfl,du,_,_,_,rfl,rfl,SqT.of hd4,(show atI [V.ref d1,.ref d2] 0=some (.ref d1) from rfl),_,rfl,du,_,_,_,rfl,rfl,SqT.of hd4,(show atI [V.ref d1,.ref d2] 1=some (.ref d2) from rfl),y,d1,d2,a1,a2,rfl,hN.face,hD1,hD2,al1,fun H5 s5=>⟨true,rfl,iteF ?_⟩⟩
 obtain⟨dx,e1,e2,gs,kv1,kv2,ne1,ne2,ne12,hy2,lk,lf,he1,he2,_,_,_⟩:=hN.same s5
 refine⟨_,rfl,y,CF,dx,gs,_,rfl,hy2,cF,nK,lk,.inr (.inr (.inl ⟨rfl,.inl ⟨_,he1⟩⟩)),e1,kv1,rfl,rfl,he1,?_⟩
 have s6:Same H2 (upd H5 e1 (.dK [])):=sput (s24.trans s5) (s3.free ne1)
 generalize upd H5 e1 (.dK [])=H6 at s6 ⊢
 refine⟨_,rfl,(by show 2≤sizeLine;decide),fun p' hp6=>?_⟩
 have u6:=same_new hp6 (.tup [.str "sealed",.ref wt])
 have s26:=s6.trans u6
 obtain⟨b1,b2,fkv,hff,v1,v2,vk,hb1,hb2⟩:=(hL2.same s26).hff
 obtain⟨pf,pkv,hpa,vp,hPG,hpf⟩:=(hL2.same s26).hpa
 obtain⟨xs,hx1,hx2⟩:=(hL2.same s26).hwt
 refine⟨_,rfl,_,rfl,.ref p',ff,pa,fkv,pkv,PGof part,rfl,hff,hpa,hPG,.inr ⟨p',wt,"sealed",xs,ws,rfl,SqT.of upd_same,okS,hx1,hx2,wlen,hso,.inr ⟨b1,m1,m2,v1,hb1,gd,(fun⟨q,hq,hn⟩=>absurd (told q hq) hn),fun _=>⟨fun m1' m2' e H7 wn s7 hy7 hN7=>?_,(fun e=>by rw [hrun] at e;cases e),(fun e=>by rw [hrun] at e;cases e)⟩⟩⟩⟩
 rw [hrun] at e
 cases e
 clear hff hpa hPG hx1 hx2 hb1 hb2 hpf v1 v2 vk vp
 have s27:=s26.trans s7
 have hwn:=hN7.face
 clear hy7 hN7 s7 s26 u6 hp6 s6 he1 he2 hy2 ne1 ne2 hN hy s24 s3 hp3 s4 s5 hd4 hD1 hD2
 have hdu7:=hdu.same s27
 have hL7:=hL2.same s27
 have cl:∀{H':Hp},Same H7 H'→SqL K H' a (ns.map V.int):=fun e=>sql_same e hL7.hA
 refine⟨_,rfl,_,rfl,a,du,ns,a1,a2,rfl,hL7.hA,h63,hdu7,dkn1,dkn2,by omega,by omega,(fun q hq=>⟨smW_ok (A1 q hq).1,sm_ok (A1 q hq).2.1,(by have:=bk_depth (A1 q hq).2;omega)⟩),(fun q hq=>by have:=bk_depth (A1 q hq).2;omega),(fun q hq=>⟨fun k hk=>by(have:=bk_depth ((A2 q hq).2.2 k (List.mem_cons_of_mem _ hk));omega),by(have:=bk_depth ((A2 q hq).2.2 _ (List.mem_cons_self ..));omega),Nat.le_trans (A2 q hq).2.1 (by decide)⟩),ap1,ap2,fun H8 fu gl f1 f2 i hi s8 hfu hgl hmx U1 U2=>?_⟩
 have hI:=full hi hgl hmx U1 U2
 clear hgl hmx U1 U2 full
 refine⟨_,rfl,fu,f1,f2,rfl,hfu,hI.nd1,hI.nd2,hI.l1,hI.l2,fun H9 hd s9 _ hN9=>?_⟩
 have hhd:=hN9.face
 have s79:=s8.trans s9
 refine⟨_,rfl,a,ns,6,rfl,cl s79,h63,by decide,by decide,fun c hc=>⟨c,1,rfl,fun Ha sa=>?_⟩⟩
 have hso':smW (wordL c 1):=smW_L _ _
 generalize wordL c 1=own at hso' ⊢
 have s7a:=s79.trans sa
 refine⟨_,rfl,_,rfl,_,rfl,_,rfl,_,rfl,du,own,a1,a2,rfl,hdu7.same s7a,dkn1,by omega,by omega,(fun q hq=>⟨smW_ok (A1 q hq).1,sm_ok (A1 q hq).2.1,(by have:=bk_depth (A1 q hq).2;omega)⟩),(fun q hq=>by have:=bk_depth (A1 q hq).2;omega),(fun q hq=>⟨fun k hk=>by(have:=bk_depth ((A2 q hq).2.2 k (List.mem_cons_of_mem _ hk));omega),by(have:=bk_depth ((A2 q hq).2.2 _ (List.mem_cons_self ..));omega),Nat.le_trans (A2 q hq).2.1 (by decide)⟩),fun Hb hx sb hhx=>?_⟩
 have s7b:=s7a.trans sb
 have alh:AlM (a1.map (putP (hidG a1 own))) (a2.map (putQ (hidG a1 own))):=alm_of (by rw [List.length_map];omega) (by rw [List.length_map];omega) (put_BK (n:=1) (by decide) (hid_bk hso' A1) A1) (put_BF (n:=1) (by decide) (hid_bk hso' A1) A2)
 refine⟨hd,hx,.ref wn,own,f1,f2,_,_,rfl,hhd.same (sa.trans sb),hhx,alh,.inr ⟨wn,a1,a2,rfl,hwn.same s7b,hI.two,dkn2,hso',hI.fit,rfl,rfl⟩,fun Hc sc=>⟨true,rfl,iteF ?_⟩⟩
 have s7c:=s7b.trans sc
 refine⟨_,rfl,_,rfl,_,rfl,hd,fu,.non,own,f1,f2,f1,f2,rfl,hhd.same (sa.trans (sb.trans sc)),hfu.same (s9.trans (sa.trans (sb.trans sc))),alm_of hI.l1 hI.l2 hI.b1 hI.b2,.inl ⟨rfl,rfl,rfl⟩,fun Hd sd=>⟨true,rfl,iteF ?_⟩⟩
 have s7d:=s7c.trans sd
 have sbd:=sb.trans (sc.trans sd)
 exact k16 Q Hd ns part own m1 a1 f1 m2 a2 f2 ws a fh wt ff th pa du wn fu hd _ _ _ (hL7.same s7d) (hdu7.same s7d) (hwn.same s7d) (hfu.same (s9.trans (sa.trans sbd))) (hhd.same (sa.trans sbd)) hs hso' hI al1 mal q
end
end K42
namespace K42
open PySem L2 Kk
def spLaw(K:PySem.W.Frag):Sp:=fun vs H Q _=>∃(a:Addr) (ns:List Int),vs=[.ref a]∧SqL K H a (ns.map V.int)∧ns.length≤63∧∀H',Q (.bl true) H'
theorem wordL_ne(c k:Int):wordL c k≠"":=fun e=>by
 have h1:=wsz_bd c
 have h2:(wordL c k).length=(wsz c).toNat:=by unfold wordL;rw [wpre_len]
 rw [e] at h2
 have h3:(("":Str)).length=0:=by decide +kernel
 omega
theorem FaceN.updK{K:PySem.W.Frag}{B H:Hp}{CF x p:Addr}{m1:List (Str × Kd)}{m2:List (Str × (List Kd × Kd))}{o o0:HO}{kv:List (Key × V)}(h:FaceN K B H CF x m1 m2)(hB:B p=some o0)(hp:H p=some (.dK kv)):FaceF K (upd H p o) CF x m1 m2:=by
 obtain⟨dx,d1,d2,fs,kv1,kv2,n1,n2,n3,h1,h2,h3,h4,h5,h6,h7,h8⟩:=h
 have kp:∀a ys,SqT K H a ys→SqT K (upd H p o) a ys:=fun a ys t=>sqt_dk hp t
 have e0:x≠p:=fun z=>by rw [z,hp] at h1;cases h1
 have e1:d1≠p:=fun z=>by rw [z,hB] at n1;cases n1
 have e2:d2≠p:=fun z=>by rw [z,hB] at n2;cases n2
 exact⟨dx,d1,d2,fs,kv1,kv2,by rw [upd_ne e0];exact h1,h2,h3,by rw [upd_ne e1];exact h4,by rw [upd_ne e2];exact h5,h6.imp fun v y h=>kd_keep kp h,h7.imp fun v y h=>h.keep kp,h8⟩
theorem merge3{a b c:Key}{x y z:V}(h1:b≠a)(h2:c≠a)(h3:c≠b):mergeK [] [(a,x),(b,y),(c,z)]=[(a,x),(b,y),(c,z)]:=by
 show putK (putK (putK [] a x) b y) c z=_
 have v1:∀{j:Key},valV (putK [] a x) j=if j=a then some x else none:=fun {j}=>(valV_put [] a j x).trans rfl
 have e1:putK [] a x=[(a,x)]:=putK_new x rfl
 have e2:putK (putK [] a x) b y=[(a,x),(b,y)]:=by rw [putK_new y (by rw [v1,if_neg h1]),e1];rfl
 rw [putK_new z (by rw [valV_put,if_neg h3,v1,if_neg h2]),e2]
 rfl
theorem parts_at{K:PySem.W.Frag}{H:Hp}{CF pf:Addr}{part:Str}(h:FaceF K H CF pf (thereM part) []):PartsAt K H CF (putK [] (.inr part) (.ref pf)) (PGof part):=fun q=>by
 by_cases e:q=part
 ·refine .inr ⟨.ref pf,fun z=>look (thereM part) z,?_,if_pos e,?_⟩
  ·rw [valV_put,if_pos (by rw [e])]
  ·obtain⟨dx,d1,d2,fs,kv1,kv2,h1,h2,h3,h4,h5,h6,_⟩:=h
   exact⟨pf,dx,fs,d1,kv1,rfl,h1,h2,h4,fun z=>look_val h6 z⟩
 ·refine .inl ⟨?_,if_neg e⟩
  rw [valV_put,if_neg (fun h=>e (Sum.inr.inj h))]
  rfl
section
variable{P:Program}{w:World}{K:PySem.W.Frag}{mg:Str→Option Value}{base:Heap}
set_option maxHeartbeats 0 in
theorem ok_law{f fm fs fn fp fl fd' fc fw fg ft fh' fwi ff' fi CF CA CN CT:Addr}{fd fdm fds fdn fdp fdl fdd fdc fdw fdg fdt fdh fdwi fdf fdi:FuncData} (F:Fun K "law" "law" sLaw f fd)
  (GM:FnOk P w K mg base CX0 43 fm fdm smP (spSame K CF)) (bM:Binds K fdm smP []) (kM:PySem.W.keepIn K (.ref fm)=true) (mM:mg "_law_same"=some (.ref fm))
  (GS:FnOk P w K mg base CX0 46 fs fds seP (spSeen K CF 40)) (bS:Binds K fds seP []) (kS:PySem.W.keepIn K (.ref fs)=true) (mS:mg "_law_seen"=some (.ref fs))
  (GN:FnOk P w K mg base (CX1 P w) 46 fn fdn wnP (spWanted K CF CA CN CT)) (bN:Binds K fdn wnP []) (kN:PySem.W.keepIn K (.ref fn)=true) (mN:mg "wanted"=some (.ref fn)) (mli:mg "list"=none)
  (GP:FnOk P w K mg base CX0 21 fp fdp paP (spPutAll K 20)) (bP:Binds K fdp paP []) (kP:PySem.W.keepIn K (.ref fp)=true) (mP:mg "_law_put_all"=some (.ref fp))
  (GF:FnOk P w K mg base CX0 22 fl fdl fuP (spFull K 20)) (bF:Binds K fdl fuP []) (kF:PySem.W.keepIn K (.ref fl)=true) (mF:mg "_law_full"=some (.ref fl))
  (GD:FnOk P w K mg base CX0 3 fd' fdd ["_law_face_here"] (spMade K CF)) (bD:Binds K fdd ["_law_face_here"] []) (kD:PySem.W.keepIn K (.ref fd')=true) (mD:mg "_law_made"=some (.ref fd'))
  (GC:FnOk P w K mg base CX0 1 fc fdc ["_law_script","_law_k"] (spCellX K)) (bC:Binds K fdc ["_law_script","_law_k"] []) (kC:PySem.W.keepIn K (.ref fc)=true) (mC:mg "_law_cell"=some (.ref fc))
  (GW:FnOk P w K mg base CX0 1 fw fdw wlP spWordL) (bW:Binds K fdw wlP []) (kW:PySem.W.keepIn K (.ref fw)=true) (mW:mg "_law_word"=some (.ref fw))
  (GG:FnOk P w K mg base CX0 22 fg fdg ["_law_face_here","_law_part"] (spHiding K 20)) (bG:Binds K fdg ["_law_face_here","_law_part"] []) (kG:PySem.W.keepIn K (.ref fg)=true) (mG:mg "_law_hiding"=some (.ref fg))
  (GT:FnOk P w K mg base CX0 1 ft fdt ["_law_part"] (spThere K)) (bT:Binds K fdt ["_law_part"] []) (kT:PySem.W.keepIn K (.ref ft)=true) (mT:mg "_law_there"=some (.ref ft))
  (GH:FnOk P w K mg base CX0 1 fh' fdh ["_law_kinds"] (spHiddenL K)) (bH:Binds K fdh ["_law_kinds"] []) (kH:PySem.W.keepIn K (.ref fh')=true) (mH:mg "_law_hidden"=some (.ref fh'))
  (GWi:FnOk P w K mg base CX0 4 fwi fdwi wiP (spWiths K)) (bWi:Binds K fdwi wiP []) (kWi:PySem.W.keepIn K (.ref fwi)=true) (mWi:mg "_law_withs"=some (.ref fwi))
  (GFc:FnOk P w K mg base CX0 2 ff' fdf fcP (spFace K)) (bFc:Binds K fdf fcP []) (kFc:PySem.W.keepIn K (.ref ff')=true) (mFc:mg "_law_face"=some (.ref ff'))
  (GI:FnOk P w K mg base CX0 1 fi fdi ["self","kinds","funs"] (spInitF CF)) (bI:Binds K fdi ["self","kinds","funs"] []) (MF:Mk K CF fi) (mCF:mg "Face"=some (.ref CF)) (md:mg "dict"=none)
  (cF:Cls K CF) (nK:NoAttr K CF "kinds") :
  FnOk P w K mg base CX0 47 f fd ["_law_script"] (spLaw K):=by
 refine F.ok scLaw (fun vs H Q E h=>?_) (fun cdv A outer s H vs Q E hr h=>?_)
 ·obtain⟨a,ns,rfl,_⟩:=h
  rfl
 obtain⟨a,ns,rfl,hA,h63,q⟩:=h
 have hr1:Room 1 _:=hr.mono (by decide)
 have hr2:Room (1+1) _:=hr.mono (by decide)
 have hr3:Room 3 _:=hr.mono (by decide)
 have hr4:Room 4 _:=hr.mono (by decide)
 have hu64:=hr.units
 obtain⟨t7,d7,k7⟩:=lw7 (outer:=outer) (H:=H) (E:=E) GM bM kM mM GS bS kS mS GN bN kN mN mli GP bP kP mP GF bF kF mF GD bD kD mD GC bC kC mC GW bW kW mW GG bG kG mG cF nK hr
 refine⟨_,@pss_cons _ _ _ _ _ (ps_set (i:=1) scLaw.nd rfl (Or.inl rfl) (pe_call GW hr1 rfl mW kW bW .nil pass0 (@pa_cons _ _ _ _ _ (pe_call GC hr1 rfl mC kC bC .nil pass0 (@pa_cons _ _ _ _ _ (pv 0) (@pa_cons _ _ _ _ _ pe_int pa_nil rfl) rfl)) (@pa_cons _ _ _ _ _ pe_int pa_nil rfl) rfl)))
  (@pss_cons _ _ _ _ _ (ps_set (i:=2) scLaw.nd rfl (Or.inl rfl) (pe_call GFc hr2 rfl mFc kFc bFc .nil pass0 (@pa_cons _ _ _ _ _ (pv 0) (@pa_cons _ _ _ _ _ pe_int (@pa_cons _ _ _ _ _ pe_int (@pa_cons _ _ _ _ _ (pe_lst (@pa_cons _ _ _ _ _ (@pe_tup _ _ _ _ _ (@pa_cons _ _ _ _ _ pe_str (@pa_cons _ _ _ _ _ (pv 1) (@pa_cons _ _ _ _ _ pe_str pa_nil rfl) rfl) rfl)) pa_nil rfl)) pa_nil rfl) rfl) rfl) rfl)))
  (@pss_cons _ _ _ _ _ (ps_asg (pe_call GWi hr4 rfl mWi kWi bWi .nil pass0 (@pa_cons _ _ _ _ _ (pv 0) (@pa_cons _ _ _ _ _ (pv 1) (@pa_cons _ _ _ _ _ (pe_call GH hr1 rfl mH kH bH .nil pass0 (@pa_cons _ _ _ _ _ (pe_ix ix_tup (pv 2) pe_int (fun _ _=>rfl)) pa_nil rfl)) pa_nil rfl) rfl) rfl)) (pg_tup rfl (pgs_cons (pg_name (i:=3) scLaw.nd rfl (Or.inl rfl)) (pgs_cons (pg_name (i:=4) scLaw.nd rfl (Or.inl rfl)) pgs_nil))))
  (@pss_cons _ _ _ _ _ (ps_set (i:=5) scLaw.nd rfl (Or.inl rfl) (pe_disp (pps_cons pe_str (pe_make MF GI hr2 (by rfl) mCF bI .nil pass0 (@pa_cons _ _ _ _ _ pe_dnewK (@pa_cons _ _ _ _ _ pe_dnewK pa_nil rfl) rfl)) (pps_cons pe_str (pe_call GD hr3 rfl mD kD bD .nil pass0 (@pa_cons _ _ _ _ _ (pv 2) pa_nil rfl)) (pps_cons pe_str (pe_make MF GI hr2 (by rfl) mCF bI .nil pass0 (@pa_cons _ _ _ _ _ pe_dnewK (@pa_cons _ _ _ _ _ pe_dnewK pa_nil rfl) rfl)) pps_nil))) rfl rfl (by intro e;cases e) (by decide)))
  (@pss_cons _ _ _ _ _ (ps_set (i:=6) scLaw.nd rfl (Or.inl rfl) (pe_call GT hr1 rfl mT kT bT .nil pass0 (@pa_cons _ _ _ _ _ (pv 1) pa_nil rfl)))
  (@pss_cons _ _ _ _ _ (ps_set (i:=7) scLaw.nd rfl (Or.inl rfl) (pe_disp (pps_cons (pv 1) (pe_make MF GI hr2 (by rfl) mCF bI .nil pass0 (@pa_cons _ _ _ _ _ (pe_callTy (call_dict_pairsK rfl (Nat.lt_of_le_of_lt (Nat.add_le_add_left (by decide) _) hu64)) rfl md bootDict (@pa_cons _ _ _ _ _ (pv 6) pa_nil rfl)) (@pa_cons _ _ _ _ _ pe_dnewK pa_nil rfl) rfl)) pps_nil) rfl rfl (by intro e;cases e) (by decide)))
  (@pss_cons _ _ _ _ _ (ps_if (pt_cmpR op_notN (pe_call GN hr rfl mN kN bN .nil passNo (@pa_cons _ _ _ _ _ pe_non (@pa_cons _ _ _ _ _ (pv 5) (@pa_cons _ _ _ _ _ (pv 7) pa_nil rfl) rfl) rfl)) pe_non (nomark _)) (@pss_one _ _ _ (@ps_ret _ _ _ _ pe_bl)) pss_nil) d7)))))),?_⟩
 have cl:∀{H':Hp},Same H H'→SqL K H' a (ns.map V.int):=fun e=>sql_same e hA
 refine⟨_,rfl,a,ns,6,rfl,hA,h63,by decide,by decide,fun c hc=>⟨c,0,rfl,fun H1 s1=>?_⟩⟩
 have hs:smW (wordL c 0):=smW_L _ _
 have hp:wordL c 0≠"":=wordL_ne _ _
 generalize wordL c 0=part at hs hp ⊢
 refine⟨_,rfl,_,rfl,(by show 3≤sizeLine;decide),fun p1 hp1=>?_⟩
 have u1:=same_new hp1 (.tup [.str "name",.str part,.str "k"])
 refine⟨(by show 1≤sizeLine;decide),fun p2 hp2=>?_⟩
 have u2:=same_new hp2 (.lst [.ref p1])
 have s12:=s1.trans (u1.trans u2)
 refine⟨a,ns,0,0,p2,[.ref p1],[partK part],rfl,cl s12,h63,by decide,by decide,upd_same,.cons (.name (SqT.of (u2 _ _ upd_same))) .nil,(by show 1≤10;decide),(fun k hk=>by rw [List.mem_singleton.mp hk];rfl),(fun z hz=>?_),fun H2 fh m1 m2 s2 hfh hF=>?_⟩
 ·have e:=List.mem_singleton.mp hz
  unfold ownK at e
  injection e with e1 e2
  exact absurd e1.symm hp
 have s13:=s12.trans s2
 have hks:∀k∈[partK part],Kd.sm k:=fun k hk=>by
  rw [List.mem_singleton.mp hk]
  exact⟨⟨hs.1,hs.2⟩,by decide +kernel,by decide +kernel⟩
 have B1:=hF.b1 hks
 have l1:=hF.l1
 have l2:=hF.fu.2.2.1
 have nd2:=hF.fu.2.1
 clear u1 u2 hp1 hp2 s1 s12 s2
 obtain⟨f1',f2',hfa,hR1,hR2⟩:=id hfh
 refine⟨_,rfl,_,rfl,_,rfl,fh,_,_,_,rfl,rfl,SqT.of hfa,(show atI [V.ref f1',.ref f2'] 0=some (.ref f1') from rfl),f1',m1,rfl,hR1,by omega,(fun q hq=>⟨smW_ok (B1 q hq).1,sm_ok (B1 q hq).2.1,(by have:=bk_depth (B1 q hq).2;omega)⟩),fun H3 hl s3 _ hh=>?_⟩
 have hll:=hid_len m1
 refine⟨a,hl,ns,part,hidL m1,rfl,cl (s13.trans s3),h63,hh,hid_nodup hF.nd1,by omega,fun H4 x4 wt g xs ws0 ws kvs s4 hx4 hwt hxs hw hg hG hW=>?_⟩
 refine⟨x4,_,rfl,SqT.of hx4,rfl,_,_,rfl,_,_,rfl,rfl,?_⟩
 have s34:=s3.trans s4
 have s14:=s13.trans s34
 have hfh4:=hfh.same s34
 clear hfa hR1 hR2 hh hx4 s3 s4 hfh
 intro pp hpp
 have w1:=same_new hpp (.dK [])
 have hp1:upd H4 pp (.dK []) pp=some (.dK []):=upd_same
 generalize upd H4 pp (.dK [])=B1' at w1 hp1 ⊢
 intro d1 hd1
 have w2:=same_new hd1 (.dK [])
 intro d2 hd2
 have w3:=same_new hd2 (.dK [])
 have w23:=w2.trans w3
 have hd13:=w3 _ _ (show upd B1' d1 (.dK []) d1=some (.dK []) from upd_same)
 have hd23:upd (upd B1' d1 (.dK [])) d2 (.dK []) d2=some (.dK []):=upd_same
 have hp3:=w23 _ _ hp1
 generalize upd (upd B1' d1 (.dK [])) d2 (.dK [])=B2 at w23 hd13 hd23 hp3 ⊢
 refine fun x dx' nx ndx nex=>?_
 have ea:=same_new ndx (.own x)
 have nx':upd B2 dx' (.own x) x=none:=by rw [upd_ne (Ne.symm nex)];exact nx
 have eab:=ea.trans (same_new nx' (.ins CF dx' []))
 refine⟨x,dx',d1,d2,[],[],rfl,upd_same,eab _ _ hd13,eab _ _ hd23,fun d e fs' B3 hd he nde hx lk lf lh lp hd7 he7 keep=>⟨rfl,?_⟩⟩
 have s7:Same B2 B3:=fun b o hb=>keep b o (eab _ _ hb) (fun z=>by rw [z,nx] at hb;cases hb)
 have w13:=w1.trans (w23.trans s7)
 have hp4:=s7 _ _ hp3
 clear hd hx keep nx' nx ndx ea eab hd13 hd23 w23 w2 w3 hd7 he7 he lk lf lh lp nde
 refine⟨_,rfl,fh,m1,m2,rfl,hfh4.same w13,hF.nd1,nd2,by omega,by omega,fun B4 b1 s8 _ hN1=>?_⟩
 have hp5:=s8 _ _ hp4
 have w14:=w13.trans s8
 intro d1 hd1
 have w2:=same_new hd1 (.dK [])
 intro d2 hd2
 have w3:=same_new hd2 (.dK [])
 have w23:=w2.trans w3
 have hd13:=w3 _ _ (show upd B4 d1 (.dK []) d1=some (.dK []) from upd_same)
 have hd23:upd (upd B4 d1 (.dK [])) d2 (.dK []) d2=some (.dK []):=upd_same
 have hp6:=w23 _ _ hp5
 have hN1':=hN1.same w23
 have w15:=w14.trans w23
 generalize upd (upd B4 d1 (.dK [])) d2 (.dK [])=B5 at w15 hd13 hd23 hp6 hN1' ⊢
 refine fun y dy ny ndy ney=>?_
 have ea:=same_new ndy (.own y)
 have ny':upd B5 dy (.own y) y=none:=by rw [upd_ne (Ne.symm ney)];exact ny
 have eab:=ea.trans (same_new ny' (.ins CF dy []))
 refine⟨y,dy,d1,d2,[],[],rfl,upd_same,eab _ _ hd13,eab _ _ hd23,fun d e fs' B6 hd he nde hx lk lf lh lp hd7 he7 keep=>⟨rfl,?_⟩⟩
 have s7:Same B5 B6:=fun b o hb=>keep b o (eab _ _ hb) (fun z=>by rw [z,ny] at hb;cases hb)
 have hN2:FaceN K B5 B6 CF y [] []:=⟨dy,d,e,fs',[],[],eab.free hd,eab.free he,nde,hx,lk,lf,hd7,he7,.nil,.nil,lh,lp⟩
 have hp7:=s7 _ _ hp6
 have w16:=w15.trans s7
 refine⟨hp7,[(.inr "bare",.ref x),(.inr "sealed",.ref b1),(.inr "other",.ref y)],rfl,by show 3≤15;decide,?_⟩
 rw [merge3 (a:=Sum.inr "bare") (b:=Sum.inr "sealed") (c:=Sum.inr "other") (by decide +kernel) (by decide +kernel) (by decide +kernel)]
 have F1:=(hN1'.same s7).updK (o:=.dK [(.inr "bare",.ref x),(.inr "sealed",.ref b1),(.inr "other",.ref y)]) hp4 hp7
 have F2:=hN2.updK (o:=.dK [(.inr "bare",.ref x),(.inr "sealed",.ref b1),(.inr "other",.ref y)]) hp6 hp7
 have sF:Same H4 (upd B6 pp (.dK [(.inr "bare",.ref x),(.inr "sealed",.ref b1),(.inr "other",.ref y)])):=sput w16 hpp
 have hps:upd B6 pp (.dK [(.inr "bare",.ref x),(.inr "sealed",.ref b1),(.inr "other",.ref y)]) pp=some (.dK [(.inr "bare",.ref x),(.inr "sealed",.ref b1),(.inr "other",.ref y)]):=upd_same
 have hff:∃(c1 c2:Addr) (fkv:List (Key × V)),upd B6 pp (.dK [(.inr "bare",.ref x),(.inr "sealed",.ref b1),(.inr "other",.ref y)]) pp=some (.dK fkv)∧valV fkv (.inr "sealed")=some (.ref c1)∧valV fkv (.inr "other")=some (.ref c2)∧(fkv.map fun p=>kV p.1)=[.str "bare",.str "sealed",.str "other"]∧FaceF K (upd B6 pp (.dK [(.inr "bare",.ref x),(.inr "sealed",.ref b1),(.inr "other",.ref y)])) CF c1 m1 m2∧FaceF K (upd B6 pp (.dK [(.inr "bare",.ref x),(.inr "sealed",.ref b1),(.inr "other",.ref y)])) CF c2 [] []:=⟨b1,y,_,hps,by rfl,by rfl,rfl,F1,F2⟩
 generalize upd B6 pp (.dK [(.inr "bare",.ref x),(.inr "sealed",.ref b1),(.inr "other",.ref y)])=HF at sF hff ⊢
 clear F1 F2 hps hN2 hN1' hN1 hp7 hp6 hp5 hp4 hp3 hp1 w16 w15 w14 w13 w1 s7 keep hd he hx hd7 he7 lk lf lh lp nde ny' ny ndy ea eab hd13 hd23 w23 w2 w3 s8
 obtain⟨b1,b2,fkv,hff,v1,v2,vk,F1,F2⟩:=hff
 refine⟨_,rfl,part,rfl,fun H5 th s5 hth=>?_⟩
 have sF5:=sF.trans s5
 intro pa hpa
 have w1:=same_new hpa (.dK [])
 have hp1:upd H5 pa (.dK []) pa=some (.dK []):=upd_same
 generalize upd H5 pa (.dK [])=B1' at w1 hp1 ⊢
 obtain⟨as1,ps1,hl1,hpa1,hn1,hk1⟩:=rk_dict (hth.same w1) (th_nd part)
 refine⟨_,rfl,_,rfl,th,as1,ps1,rfl,hl1,hpa1,Nat.lt_of_lt_of_le (Nat.lt_succ_self _) (small (by have e3:(thereM part).length=3:=rfl;omega)),fun d1 hd1=>?_⟩
 have w2:=same_new hd1 (.dK (putsK [] ps1))
 intro d2 hd2
 have w3:=same_new hd2 (.dK [])
 have w23:=w2.trans w3
 have hd13:=w3 _ _ (show upd B1' d1 (.dK (putsK [] ps1)) d1=some (.dK (putsK [] ps1)) from upd_same)
 have hd23:upd (upd B1' d1 (.dK (putsK [] ps1))) d2 (.dK []) d2=some (.dK []):=upd_same
 have hp3:=w23 _ _ hp1
 have hk1':=hk1.imp fun v y h=>KdAt.same w23 h
 generalize upd (upd B1' d1 (.dK (putsK [] ps1))) d2 (.dK [])=B2 at w23 hd13 hd23 hp3 hk1' ⊢
 refine fun y dy ny ndy ney=>?_
 have ea:=same_new ndy (.own y)
 have ny':upd B2 dy (.own y) y=none:=by rw [upd_ne (Ne.symm ney)];exact ny
 have eab:=ea.trans (same_new ny' (.ins CF dy []))
 refine⟨y,dy,d1,d2,_,[],rfl,upd_same,eab _ _ hd13,eab _ _ hd23,fun d e fs' B3 hd he nde hx lk lf lh lp hd7 he7 keep=>⟨rfl,?_⟩⟩
 have s7:Same B2 B3:=fun b o hb=>keep b o (eab _ _ hb) (fun z=>by rw [z,ny] at hb;cases hb)
 have hN:FaceN K B2 B3 CF y (thereM part) []:=⟨dy,d,e,fs',_,[],eab.free hd,eab.free he,nde,hx,lk,lf,hd7,he7,hk1'.imp fun v y h=>h.same s7,.nil,lh,lp⟩
 have hp7:=s7 _ _ hp3
 have w13:=w1.trans (w23.trans s7)
 refine⟨hp7,[(.inr part,.ref y)],rfl,by show 1≤15;decide,?_⟩
 have F3:=hN.updK (o:=.dK (mergeK [] [(.inr part,.ref y)])) hp3 hp7
 have sG:Same H5 (upd B3 pa (.dK (mergeK [] [(.inr part,.ref y)]))):=sput w13 hpa
 have hps:upd B3 pa (.dK (mergeK [] [(.inr part,.ref y)])) pa=some (.dK (putK [] (.inr part) (.ref y))):=upd_same
 generalize upd B3 pa (.dK (mergeK [] [(.inr part,.ref y)]))=HG at F3 sG hps ⊢
 have s4G:=sF5.trans sG
 have hLS:LS K HG CF ns part m1 m2 ws a fh wt pp th pa:=⟨cl (s14.trans s4G),hfh4.same s4G,⟨xs,SqT.of (s4G _ _ hwt),Paired.mapP hxs fun _ _ h=>h.same s4G⟩,⟨b1,b2,fkv,(s5.trans sG) _ _ hff,v1,v2,vk,F1.same (s5.trans sG),F2.same (s5.trans sG)⟩,hth.same sG,⟨y,_,hps,by rw [valV_put,if_pos rfl],parts_at F3,F3⟩⟩
 refine⟨_,rfl,_,rfl,.non,pp,pa,_,_,PGof part,rfl,(s5.trans sG) _ _ hff,hps,parts_at F3,.inl ⟨rfl,fun Ha sa=>⟨rfl,_,rfl,ite2 (fun c=>by cases c) (fun _=>?_)⟩⟩⟩
 exact k7 Q Ha ns part m1 m2 ws0 ws kvs a fh wt g pp th pa _ _ _ _ _ _ _ (hLS.same sa) ((s4G.trans sa) _ _ hg) (hG.same (s4G.trans sa)) hW hw hF h63 hs hp q
end
end K42
namespace PySem.W.Fast
def tw7231851608857954686:=()
def tw2806284272481302974:=()
def tw3674399962209696934:=()
def tw4152719547013280489:=()
def tw16595150526990882190:=()
def tw10709066514581197460:=()
def tw8564560477303914282:=()
def tw15042859648908624966:=()
def tw4879206955717130809:=()
def tw5797016534069534749:=()
def tw7275460047087954679:=()
def tw9762337619926103442:=()
def tw14432953768707268074:=()
def tw5927126003349117850:=()
def tw1232145184079022543:=()
def tw3040527972158547348:=()
def tw18362288541904481139:=()
def tw17471743376741929376:=()
def tw16820169336865702209:=()
def tw18144067950437316137:=()
def tw10249105156446179732:=()
def tw9764721134986279231:=()
def tw17604286262225043223:=()
def tw17033107687399256112:=()
def tw2937943567240419993:=()
def tw2626492173349958584:=()
def tw17559806039462672195:=()
def tw12242926726175360793:=()
def tw12993930127496298968:=()
def tw5822177593200386984:=()
def tw17379022003997041021:=()
def tw8917044534326672842:=()
def tw5708909832092475356:=()
def tw12952889799904751524:=()
def tw16716264040711602875:=()
def tw3867762938856544441:=()
def tw10363738250383770924:=()
def tw1685263920780569730:=()
def tw7745026750893680908:=()
def tw4909299975834971488:=()
def tw2049477686937980269:=()
def tw14994182895989926567:=()
def tw7892310736024921075:=()
def tw15178478682060941783:=()
def tw8510380801370079695:=()
def tw9500425937063089177:=()
def tw17526416587547251126:=()
def tw1771066822669738239:=()
def tw10828569618409252614:=()
def tw1588891254860014051:=()
def tw17031923335330167652:=()
def tw10581458029162929398:=()
def tw8137031753374698259:=()
def tw1685528994037009125:=()
def tw17852104744682827678:=()
def tw11517500384482313311:=()
def tw12657595168631726653:=()
def tw8424711256228227620:=()
def tw1447169859053892448:=()
def tw10637332337461148040:=()
def tw10162916097799431446:=()
def tw2821402742515936916:=()
def tw10892324232995534900:=()
def tw15518588837773701934:=()
def tw1332674077728353796:=()
def tw2333418595952852870:=()
def tw12921864753587661662:=()
def tw17351334235464130851:=()
def tw14678531366461230527:=()
def tw15401264023108280116:=()
def tw8037707035939733464:=()
def tw11652346126772383972:=()
def tw11207192137392440349:=()
def tw17881114582678221587:=()
def tw4060089338231495781:=()
def tw15374983103055460299:=()
def tw8316003989307524016:=()
def tw6306996047605778360:=()
def tw1824396148658844222:=()
def tw10407199069595187024:=()
def tw385204390716168086:=()
def tw14591282460986701300:=()
def tw6047717218807705973:=()
def tw16730612747766036879:=()
def tw6564702068738011510:=()
def tw16159780403578079843:=()
def tw4604604671651895823:=()
def tw16768789776245998135:=()
def tw7292736092744942700:=()
def tw2534164583280428031:=()
def tw1783367771889115577:=()
def tw8320517204208615806:=()
def tw11351802507969244079:=()
def tw3340987675398668222:=()
def tw15852520260806699470:=()
def tw3105549267441684335:=()
def tw9764233489725371945:=()
def tw1681481345130354602:=()
def tw17271211254558497156:=()
def tw11693497120585861014:=()
def tw12962512636206633824:=()
def tw2912275097669425517:=()
def tw2021762806438193597:=()
def tw2807946321303833123:=()
def tw415517983223684395:=()
def tw13883836254186137580:=()
def tw5628340376670126111:=()
def tw2262299849433711431:=()
def tw15998817365008907304:=()
def tw4066702543013512180:=()
def tw8549026823704716507:=()
def tw7292756951702849723:=()
def tw9563610369090569945:=()
def tw16454092599207369555:=()
def tw8534483160187528945:=()
def tw7226876645300361363:=()
def tw969409469799193865:=()
def tw11106300699713144529:=()
def tw9483105279728480677:=()
def tw13183766963337295054:=()
def tw17900998241602351421:=()
def tw191888787978561582:=()
def tw1230396315066226218:=()
def tw12422701002377603782:=()
def tw3849360131583843170:=()
def tw16845402702620196413:=()
def tw17581564370087603214:=()
def tw1322309573576036197:=()
def tw17661138961069209384:=()
def tw13065375184207905967:=()
def tw3609379003508382631:=()
def tw7163422169287407838:=()
def tw2421446806355848379:=()
def tw10599400837348948486:=()
def tw15781756484796498791:=()
def tw9987055991009286669:=()
def tw14999307882327902137:=()
def tw15861299977289656379:=()
def tw1025902049807426254:=()
def tw6475320771206594972:=()
def tw7934761265162251122:=()
def tw13266708891154260931:=()
def tw5008556796204498958:=()
def tw2769136332387799015:=()
def tw8403504778491123184:=()
def tw6526217711868736867:=()
def tw17295928544032216186:=()
def tw5304916341820927385:=()
def tw13566590445759558895:=()
def tw14844402365864501509:=()
def tw3142033288430143641:=()
def tw9503708470318359938:=()
def tw6359712424237813008:=()
def tw7801207703300620963:=()
def tw1169972701687567773:=()
def tw4451145827119207681:=()
def tw989321700866250313:=()
def tw4237580937623286015:=()
def tw17063814584879504557:=()
def tw11435579568673901528:=()
def tw8777044288726327386:=()
def tw10723085651104562169:=()
def tw17357679537845510499:=()
def tw5623118888033174489:=()
def tw3249613659751770162:=()
def tw12721820060677380923:=()
def tw10717600345888828618:=()
def tw9677267000089374276:=()
def tw1425297938519462307:=()
def tw15240330864127952369:=()
def tw4316076003755341031:=()
def tw13345592328950590721:=()
def tw17462169612221331053:=()
def tw16815947168960386184:=()
def tw17702512500429365611:=()
def tw14511814669285340742:=()
def tw7288472062482380905:=()
def tw15509427962123909815:=()
def tw10299929455624020774:=()
def tw5445204905441252058:=()
def tw3879391246631402493:=()
def tw5147558519995483722:=()
def tw17558931003739431318:=()
def tw10690292805468910138:=()
def tw8856177235487875378:=()
def tw8122969103710078553:=()
def tw8923413150759646339:=()
def tw9444453939790967371:=()
def tw14757020217163075089:=()
def tw11397381667687721347:=()
def tw10247701367791088032:=()
def tw16745165162218921592:=()
def tw16733356685797931720:=()
def tw10841276355100772297:=()
def tw8678352125163774420:=()
def tw37249520370629590:=()
def tw2392815982539778186:=()
def tw3394433620235419544:=()
def tw16452822249582814145:=()
def tw503110734178893079:=()
def tw9495886739011617573:=()
def tw16694132646342379787:=()
def tw23748397038795076:=()
def tw10005074510691471157:=()
def tw8931667258690908477:=()
def tw16260730596850404550:=()
def tw9967878587452700430:=()
def tw14175135135628805721:=()
def tw12379659174772399799:=()
def tw1015346377475512649:=()
def tw17744581362141083276:=()
def tw4299796405231769625:=()
def tw15878011602046997355:=()
def tw13457795593988696640:=()
def tw13557151018788094932:=()
def tw15256827316272111041:=()
def tw17983548834217156225:=()
def tw1439642130698994113:=()
def tw16330163070570712955:=()
def tw3147818513382534949:=()
def tw13773480394524017903:=()
def tw1470854604654319664:=()
def tw4246852189860042405:=()
def tw8424651310419517157:=()
def tw4856135262999164809:=()
def tw42605924928172637:=()
def tw142911923480619956:=()
def tw7555428551072803369:=()
def tw11838511457278706315:=()
def tw7714340943129360171:=()
def tw6507757486504295084:=()
def tw9734998559963046773:=()
def tw1494988361688805679:=()
def tw11023720878521521919:=()
def tw1059442911002334627:=()
def tw6786452092442677617:=()
def tw11571184001660764500:=()
def tw13022633199624812399:=()
def tw4797515364141784170:=()
def tw5411266457476084633:=()
def tw4650103022591678797:=()
def tw12177551030895222420:=()
def tw3187232202255457586:=()
def tw15952905907958308807:=()
def tw2263225441204933762:=()
def tw5778976376289791005:=()
def tw5031549605250453463:=()
def tw17768543412235718112:=()
def tw13778680521305885493:=()
def tw15566587873821101312:=()
def tw15262439181969732586:=()
def tw2217277101436317171:=()
def tw15790994546265138967:=()
def tw9459723492406494290:=()
def tw10377326337317224172:=()
def tw17537577867374064868:=()
def tw16737646378333678660:=()
def tw8603085082527656676:=()
def tw14370248236024001077:=()
def tw1135864525141963415:=()
def tw2649615859793668292:=()
def tw8346582986799472279:=()
def tw8792212138870435611:=()
def tw237999350050034446:=()
def tw6346092645043242029:=()
def tw6664447385877953596:=()
def tw6959413016105759702:=()
def tw3004820731342615559:=()
def tw12773307914512227143:=()
def tw1643659467149857390:=()
def tw5478374587537698068:=()
def tw2481831057162451439:=()
def tw3748079332274892061:=()
def tw17576510320138154454:=()
def tw12240133439283291961:=()
def tw17515787816388468703:=()
def tw7614395216221290908:=()
def tw13055456427878005742:=()
def tw15791707023699805981:=()
def tw7477771876958299313:=()
def tw4657532431667710430:=()
def tw4578356568171444370:=()
def tw785576652667366712:=()
def tw9130750990612328439:=()
def tw1910051942520565547:=()
def tw6352237637148022750:=()
def tw14044136626571949076:=()
def tw6647004799066180968:=()
def tw18399125707351519750:=()
def tw18269462332575561749:=()
def tw9094375757897563147:=()
def tw7102552288960899633:=()
def tw12713972887507164815:=()
def tw17793923590512152151:=()
def tw18136366547859976566:=()
def tw9148978274065885602:=()
def tw13907228133769966265:=()
def tw16164703536521659526:=()
def tw14346986950474530819:=()
def tw5896660943107927888:=()
def tw4932913591764395521:=()
def tw3117813302599062806:=()
def tw4053206064358888210:=()
def tw3609120704897686767:=()
end PySem.W.Fast
namespace L2
open PySem
theorem mem_look{α β:Type}[BEq α][LawfulBEq α]{a:α}{b:β}:∀{l:List (α × β)},l.lookup a=some b→(a,b)∈l
 |[],h=>by cases h
 |p::r,h=>by
  obtain⟨c,d⟩:=p
  rw [List.lookup_cons] at h
  by_cases e:(a==c)=true
  ·rw [e] at h
   have h':d=b:=Option.some.inj h
   rw [eq_of_beq e,h']
   exact .head _
  ·rw [Bool.not_eq_true] at e
   rw [e] at h
   exact .tail _ (mem_look h)
theorem walk_z{q:Program}{loose:List Str}{XP:(Str→Option Value)→Heap→Prop}{r:PySem.W.RowW}{d:DefRec}{kwd:List (Str × Expr)}{run:Value→List Value→Sem Value}{K:Params→PySem.W.Frag}{as:List Addr}{n t:Nat}
  (hl:∀p:Params,as=(K p).map (·.1)) (h:PySem.W.WalkO q loose XP (fun w h=>(K w.params).In h) r d kwd run):PySem.W.WalkX q loose XP (PySem.W.X.obsZ as) (PySem.W.X.valZ K n t) r d kwd run:=by
 intro w s₀ s₁ mg mb G y a o pm cd doc dV kV ho hd hcd hD hmg hg args vals as' L hpre hlay hrd hwl hlo
 refine h w s₀ s₁ mg mb G (fun b ob hb=>?_) a o pm cd doc dV kV ho hd hcd hD hmg hg args vals as' hpre hlay hrd hwl hlo
 have e1:as.map s₀.heap.get?=(K w.params).map fun p=>some p.2:=congrArg Prod.fst y
 rw [hl w.params,List.map_map] at e1
 have e2:s₀.heap.get? b=some ob:=List.map_inj_left.mp e1 (b,ob) (mem_look hb)
 exact L.keeps b ob e2
end L2
namespace K42
open PySem L2 Kk
set_option maxHeartbeats 0 in
theorem all_mk{l:PySem.W.OpenLaw}{w:World}{K:PySem.W.Frag}{h:Heap}{mg:Str→Option Value}{fa f1 f2 f3 f4 f5 f6 f7 f8 f9 f10 f11 f12 f13 f14 f15 f16 f17 f18 f19 f20 f21 f22 f23 f24 f25 f26 f27 f28 f29:Addr}(X:K.In h)(G:h.Ns mainGlobals mg) (hfa:mg "law"=some (.ref fa))
  {od1 an1 od2 an2 od3 an3 od4 an4 od5 an5 od6 an6 od7 an7 od8 an8 od9 an9 od10 an10 od11 an11 od12 an12 od13 an13 od14 an14 od15 an15 od16 an16 od17 an17 od18 an18 od19 an19 od20 an20 od21 an21 od22 an22 od23 an23 od24 an24 od25 an25 od26 an26 od27 an27 od28 an28 od29 an29:Option Addr} {sl1 sl2 sl3 sl4 sl5 sl6 sl7 sl8 sl9 sl10 sl11 sl12 sl13 sl14 sl15 sl16 sl17 sl18 sl19 sl20 sl21 sl22 sl23 sl24 sl25 sl26 sl27 sl28 sl29:Array (Option Value)} {oc1 kV1 dc1 pm1 cd1 ct1 oc2 kV2 dc2 pm2 cd2 ct2 oc3 kV3 dc3 pm3 cd3 ct3 oc4 kV4 dc4 pm4 cd4 ct4 oc5 kV5 dc5 pm5 cd5 ct5 oc6 kV6 dc6 pm6 cd6 ct6 oc7 kV7 dc7 pm7 cd7 ct7 oc8 kV8 dc8 pm8 cd8 ct8 oc9 kV9 dc9 pm9 cd9 ct9 oc10 kV10 dc10 pm10 cd10 ct10 oc11 kV11 dc11 pm11 cd11 ct11 oc12 kV12 dc12 pm12 cd12 ct12 oc13 kV13 dc13 pm13 cd13 ct13 oc14 kV14 dc14 pm14 cd14 ct14 oc15 kV15 dc15 pm15 cd15 ct15 oc16 kV16 dc16 pm16 cd16 ct16 oc17 kV17 dc17 pm17 cd17 ct17 oc18 kV18 dc18 pm18 cd18 ct18 oc19 kV19 dc19 pm19 cd19 ct19 oc20 kV20 dc20 pm20 cd20 ct20 oc21 kV21 dc21 pm21 cd21 ct21 oc22 kV22 dc22 pm22 cd22 ct22 oc23 kV23 dc23 pm23 cd23 ct23 oc24 kV24 dc24 pm24 cd24 ct24 oc25 kV25 dc25 pm25 cd25 ct25 oc26 kV26 dc26 pm26 cd26 ct26 oc27 kV27 dc27 pm27 cd27 ct27 oc28 kV28 dc28 pm28 cd28 ct28 oc29 kV29 dc29 pm29 cd29 ct29:Value}
  {CF CN CK CA CT CR T T1 T3 ff fn fm fi fj fh:Addr} {odf anf odn ann odm anm odi ani odj anj odh anh dT dT1 dT3:Option Addr} {slf sln slm sli slj slh sT sT1 sT3:Array (Option Value)} {ocf kVf dcf pmf cdf ctf ocn kVn dcn pmn cdn ctn ocm kVm dcm pmm cdm ctm oci kVi dci pmi cdi cti ocj kVj dcj pmj cdj ctj och kVh dch pmh cdh cth oT oT1 oT3:Value} {nT nT1 nT3:Nat} {tk tk1' tk3:Tok}
  (a1:PySem.W.nsIn K mainGlobals "words_in"=some (some (.ref f1))) (l1:K.lookup f1=some ⟨oc1,od1,.func (PySem.W.fnOf "words_in" "words_in" (defArgs sWords) (defBody sWords) (defScope sWords) .none kV1 dc1 pm1 an1 cd1 ct1),sl1⟩) (c1:PySem.W.codeIn K cd1 "words_in"=true) (k1:PySem.W.keepIn K (.ref f1)=true)
  (a2:PySem.W.nsIn K mainGlobals "names_in"=some (some (.ref f2))) (l2:K.lookup f2=some ⟨oc2,od2,.func (PySem.W.fnOf "names_in" "names_in" (defArgs sNames) (defBody sNames) (defScope sNames) .none kV2 dc2 pm2 an2 cd2 ct2),sl2⟩) (c2:PySem.W.codeIn K cd2 "names_in"=true) (k2:PySem.W.keepIn K (.ref f2)=true)
  (a3:PySem.W.nsIn K mainGlobals "put"=some (some (.ref f3))) (l3:K.lookup f3=some ⟨oc3,od3,.func (PySem.W.fnOf "put" "put" (defArgs sPut) (defBody sPut) (defScope sPut) .none kV3 dc3 pm3 an3 cd3 ct3),sl3⟩) (c3:PySem.W.codeIn K cd3 "put"=true) (k3:PySem.W.keepIn K (.ref f3)=true)
  (a4:PySem.W.nsIn K mainGlobals "bounded"=some (some (.ref f4))) (l4:K.lookup f4=some ⟨oc4,od4,.func (PySem.W.fnOf "bounded" "bounded" (defArgs sBounded) (defBody sBounded) (defScope sBounded) .none kV4 dc4 pm4 an4 cd4 ct4),sl4⟩) (c4:PySem.W.codeIn K cd4 "bounded"=true) (k4:PySem.W.keepIn K (.ref f4)=true)
  (a5:PySem.W.nsIn K mainGlobals "told_kind"=some (some (.ref f5))) (l5:K.lookup f5=some ⟨oc5,od5,.func (PySem.W.fnOf "told_kind" "told_kind" (defArgs sToldKind) (defBody sToldKind) (defScope sToldKind) .none kV5 dc5 pm5 an5 cd5 ct5),sl5⟩) (c5:PySem.W.codeIn K cd5 "told_kind"=true) (k5:PySem.W.keepIn K (.ref f5)=true)
  (a6:PySem.W.nsIn K mainGlobals "own_name"=some (some (.ref f6))) (l6:K.lookup f6=some ⟨oc6,od6,.func (PySem.W.fnOf "own_name" "own_name" (defArgs sOwn) (defBody sOwn) (defScope sOwn) .none kV6 dc6 pm6 an6 cd6 ct6),sl6⟩) (c6:PySem.W.codeIn K cd6 "own_name"=true) (k6:PySem.W.keepIn K (.ref f6)=true)
  (a7:PySem.W.nsIn K mainGlobals "put_in_face"=some (some (.ref f7))) (l7:K.lookup f7=some ⟨oc7,od7,.func (PySem.W.fnOf "put_in_face" "put_in_face" (defArgs sPutFace) (defBody sPutFace) (defScope sPutFace) .none kV7 dc7 pm7 an7 cd7 ct7),sl7⟩) (c7:PySem.W.codeIn K cd7 "put_in_face"=true) (k7:PySem.W.keepIn K (.ref f7)=true)
  (a8:PySem.W.nsIn K mainGlobals "put_in_fun"=some (some (.ref f8))) (l8:K.lookup f8=some ⟨oc8,od8,.func (PySem.W.fnOf "put_in_fun" "put_in_fun" (defArgs sPutFun) (defBody sPutFun) (defScope sPutFun) .none kV8 dc8 pm8 an8 cd8 ct8),sl8⟩) (c8:PySem.W.codeIn K cd8 "put_in_fun"=true) (k8:PySem.W.keepIn K (.ref f8)=true)
  (a9:PySem.W.nsIn K mainGlobals "refined"=some (some (.ref f9))) (l9:K.lookup f9=some ⟨oc9,od9,.func (PySem.W.fnOf "refined" "refined" (defArgs sRefined) (defBody sRefined) (defScope sRefined) .none kV9 dc9 pm9 an9 cd9 ct9),sl9⟩) (c9:PySem.W.codeIn K cd9 "refined"=true) (k9:PySem.W.keepIn K (.ref f9)=true)
  (a10:PySem.W.nsIn K mainGlobals "wanted"=some (some (.ref f10))) (l10:K.lookup f10=some ⟨oc10,od10,.func (PySem.W.fnOf "wanted" "wanted" (defArgs sWanted) (defBody sWanted) (defScope sWanted) .none kV10 dc10 pm10 an10 cd10 ct10),sl10⟩) (c10:PySem.W.codeIn K cd10 "wanted"=true) (k10:PySem.W.keepIn K (.ref f10)=true)
  (a11:PySem.W.nsIn K mainGlobals "seen_face"=some (some (.ref f11))) (l11:K.lookup f11=some ⟨oc11,od11,.func (PySem.W.fnOf "seen_face" "seen_face" (defArgs sSeenFace) (defBody sSeenFace) (defScope sSeenFace) .none kV11 dc11 pm11 an11 cd11 ct11),sl11⟩) (c11:PySem.W.codeIn K cd11 "seen_face"=true) (k11:PySem.W.keepIn K (.ref f11)=true)
  (a12:PySem.W.nsIn K mainGlobals "told_with"=some (some (.ref f12))) (l12:K.lookup f12=some ⟨oc12,od12,.func (PySem.W.fnOf "told_with" "told_with" (defArgs sToldWith) (defBody sToldWith) (defScope sToldWith) .none kV12 dc12 pm12 an12 cd12 ct12),sl12⟩) (c12:PySem.W.codeIn K cd12 "told_with"=true) (k12:PySem.W.keepIn K (.ref f12)=true)
  (a13:PySem.W.nsIn K mainGlobals "hidden_by"=some (some (.ref f13))) (l13:K.lookup f13=some ⟨oc13,od13,.func (PySem.W.fnOf "hidden_by" "hidden_by" (defArgs sHiddenBy) (defBody sHiddenBy) (defScope sHiddenBy) .none kV13 dc13 pm13 an13 cd13 ct13),sl13⟩) (c13:PySem.W.codeIn K cd13 "hidden_by"=true) (k13:PySem.W.keepIn K (.ref f13)=true)
  (a14:PySem.W.nsIn K mainGlobals "_law_cell"=some (some (.ref f14))) (l14:K.lookup f14=some ⟨oc14,od14,.func (PySem.W.fnOf "_law_cell" "_law_cell" (defArgs sCell) (defBody sCell) (defScope sCell) .none kV14 dc14 pm14 an14 cd14 ct14),sl14⟩) (c14:PySem.W.codeIn K cd14 "_law_cell"=true) (k14:PySem.W.keepIn K (.ref f14)=true)
  (a15:PySem.W.nsIn K mainGlobals "_law_word"=some (some (.ref f15))) (l15:K.lookup f15=some ⟨oc15,od15,.func (PySem.W.fnOf "_law_word" "_law_word" (defArgs sWordL) (defBody sWordL) (defScope sWordL) .none kV15 dc15 pm15 an15 cd15 ct15),sl15⟩) (c15:PySem.W.codeIn K cd15 "_law_word"=true) (k15:PySem.W.keepIn K (.ref f15)=true)
  (a16:PySem.W.nsIn K mainGlobals "_law_mix"=some (some (.ref f16))) (l16:K.lookup f16=some ⟨oc16,od16,.func (PySem.W.fnOf "_law_mix" "_law_mix" (defArgs sMix) (defBody sMix) (defScope sMix) .none kV16 dc16 pm16 an16 cd16 ct16),sl16⟩) (c16:PySem.W.codeIn K cd16 "_law_mix"=true) (k16:PySem.W.keepIn K (.ref f16)=true)
  (a17:PySem.W.nsIn K mainGlobals "_law_put"=some (some (.ref f17))) (l17:K.lookup f17=some ⟨oc17,od17,.func (PySem.W.fnOf "_law_put" "_law_put" (defArgs sPutL) (defBody sPutL) (defScope sPutL) .none kV17 dc17 pm17 an17 cd17 ct17),sl17⟩) (c17:PySem.W.codeIn K cd17 "_law_put"=true) (k17:PySem.W.keepIn K (.ref f17)=true)
  (a18:PySem.W.nsIn K mainGlobals "_law_alike"=some (some (.ref f18))) (l18:K.lookup f18=some ⟨oc18,od18,.func (PySem.W.fnOf "_law_alike" "_law_alike" (defArgs sAlike) (defBody sAlike) (defScope sAlike) .none kV18 dc18 pm18 an18 cd18 ct18),sl18⟩) (c18:PySem.W.codeIn K cd18 "_law_alike"=true) (k18:PySem.W.keepIn K (.ref f18)=true)
  (a19:PySem.W.nsIn K mainGlobals "_law_same"=some (some (.ref f19))) (l19:K.lookup f19=some ⟨oc19,od19,.func (PySem.W.fnOf "_law_same" "_law_same" (defArgs sSame) (defBody sSame) (defScope sSame) .none kV19 dc19 pm19 an19 cd19 ct19),sl19⟩) (c19:PySem.W.codeIn K cd19 "_law_same"=true) (k19:PySem.W.keepIn K (.ref f19)=true)
  (a20:PySem.W.nsIn K mainGlobals "_law_face"=some (some (.ref f20))) (l20:K.lookup f20=some ⟨oc20,od20,.func (PySem.W.fnOf "_law_face" "_law_face" (defArgs sFace) (defBody sFace) (defScope sFace) .none kV20 dc20 pm20 an20 cd20 ct20),sl20⟩) (c20:PySem.W.codeIn K cd20 "_law_face"=true) (k20:PySem.W.keepIn K (.ref f20)=true)
  (a21:PySem.W.nsIn K mainGlobals "_law_hidden"=some (some (.ref f21))) (l21:K.lookup f21=some ⟨oc21,od21,.func (PySem.W.fnOf "_law_hidden" "_law_hidden" (defArgs sHiddenL) (defBody sHiddenL) (defScope sHiddenL) .none kV21 dc21 pm21 an21 cd21 ct21),sl21⟩) (c21:PySem.W.codeIn K cd21 "_law_hidden"=true) (k21:PySem.W.keepIn K (.ref f21)=true)
  (a22:PySem.W.nsIn K mainGlobals "_law_put_all"=some (some (.ref f22))) (l22:K.lookup f22=some ⟨oc22,od22,.func (PySem.W.fnOf "_law_put_all" "_law_put_all" (defArgs sPutAll) (defBody sPutAll) (defScope sPutAll) .none kV22 dc22 pm22 an22 cd22 ct22),sl22⟩) (c22:PySem.W.codeIn K cd22 "_law_put_all"=true) (k22:PySem.W.keepIn K (.ref f22)=true)
  (a23:PySem.W.nsIn K mainGlobals "_law_hiding"=some (some (.ref f23))) (l23:K.lookup f23=some ⟨oc23,od23,.func (PySem.W.fnOf "_law_hiding" "_law_hiding" (defArgs sHiding) (defBody sHiding) (defScope sHiding) .none kV23 dc23 pm23 an23 cd23 ct23),sl23⟩) (c23:PySem.W.codeIn K cd23 "_law_hiding"=true) (k23:PySem.W.keepIn K (.ref f23)=true)
  (a24:PySem.W.nsIn K mainGlobals "_law_there"=some (some (.ref f24))) (l24:K.lookup f24=some ⟨oc24,od24,.func (PySem.W.fnOf "_law_there" "_law_there" (defArgs sThere) (defBody sThere) (defScope sThere) .none kV24 dc24 pm24 an24 cd24 ct24),sl24⟩) (c24:PySem.W.codeIn K cd24 "_law_there"=true) (k24:PySem.W.keepIn K (.ref f24)=true)
  (a25:PySem.W.nsIn K mainGlobals "_law_withs"=some (some (.ref f25))) (l25:K.lookup f25=some ⟨oc25,od25,.func (PySem.W.fnOf "_law_withs" "_law_withs" (defArgs sWiths) (defBody sWiths) (defScope sWiths) .none kV25 dc25 pm25 an25 cd25 ct25),sl25⟩) (c25:PySem.W.codeIn K cd25 "_law_withs"=true) (k25:PySem.W.keepIn K (.ref f25)=true)
  (a26:PySem.W.nsIn K mainGlobals "_law_full"=some (some (.ref f26))) (l26:K.lookup f26=some ⟨oc26,od26,.func (PySem.W.fnOf "_law_full" "_law_full" (defArgs sFull) (defBody sFull) (defScope sFull) .none kV26 dc26 pm26 an26 cd26 ct26),sl26⟩) (c26:PySem.W.codeIn K cd26 "_law_full"=true) (k26:PySem.W.keepIn K (.ref f26)=true)
  (a27:PySem.W.nsIn K mainGlobals "_law_made"=some (some (.ref f27))) (l27:K.lookup f27=some ⟨oc27,od27,.func (PySem.W.fnOf "_law_made" "_law_made" (defArgs sMade) (defBody sMade) (defScope sMade) .none kV27 dc27 pm27 an27 cd27 ct27),sl27⟩) (c27:PySem.W.codeIn K cd27 "_law_made"=true) (k27:PySem.W.keepIn K (.ref f27)=true)
  (a28:PySem.W.nsIn K mainGlobals "_law_seen"=some (some (.ref f28))) (l28:K.lookup f28=some ⟨oc28,od28,.func (PySem.W.fnOf "_law_seen" "_law_seen" (defArgs sSeen) (defBody sSeen) (defScope sSeen) .none kV28 dc28 pm28 an28 cd28 ct28),sl28⟩) (c28:PySem.W.codeIn K cd28 "_law_seen"=true) (k28:PySem.W.keepIn K (.ref f28)=true)
  (a29:PySem.W.nsIn K mainGlobals "law"=some (some (.ref f29))) (l29:K.lookup f29=some ⟨oc29,od29,.func (PySem.W.fnOf "law" "law" (defArgs sLaw) (defBody sLaw) (defScope sLaw) .none kV29 dc29 pm29 an29 cd29 ct29),sl29⟩) (c29:PySem.W.codeIn K cd29 "law"=true) (k29:PySem.W.keepIn K (.ref f29)=true)
  (aF:PySem.W.nsIn K mainGlobals "Face"=some (some (.ref CF)))
  (aN:PySem.W.nsIn K mainGlobals "NoFit"=some (some (.ref CN)))
  (aK:PySem.W.nsIn K mainGlobals "NoKind"=some (some (.ref CK)))
  (aA:PySem.W.nsIn K mainGlobals "NoName"=some (some (.ref CA)))
  (aT:PySem.W.nsIn K mainGlobals "TooBig"=some (some (.ref CT)))
  (aR:PySem.W.nsIn K mainGlobals "Refused"=some (some (.ref CR)))
  (af:PySem.W.nsIn K mainGlobals "fitted"=some (some (.ref ff)))
  (lf:K.lookup ff=some ⟨ocf,odf,.func (PySem.W.fnOf "fitted" "fitted" (defArgs sFitted) (defBody sFitted) (defScope sFitted) (.ref T) kVf dcf pmf anf cdf ctf),slf⟩)
  (cf:PySem.W.codeIn K cdf "fitted"=true)
  (kf:PySem.W.keepIn K (.ref ff)=true)
  (lT:K.lookup T=some ⟨oT,dT,.seq #[.str "" tk] nT,sT⟩)
  (an:PySem.W.nsIn K mainGlobals "normal"=some (some (.ref fn)))
  (ln:K.lookup fn=some ⟨ocn,odn,.func (PySem.W.fnOf "normal" "normal" (defArgs sNormal) (defBody sNormal) (defScope sNormal) (.ref T1) kVn dcn pmn ann cdn ctn),sln⟩)
  (cn:PySem.W.codeIn K cdn "normal"=true)
  (kn:PySem.W.keepIn K (.ref fn)=true)
  (lT1:K.lookup T1=some ⟨oT1,dT1,.seq #[.int 40 tk1'] nT1,sT1⟩)
  (im:PySem.W.findIn K (.ref CF) "put"=some (some (.ref fm)))
  (lm:K.lookup fm=some ⟨ocm,odm,.func (PySem.W.fnOf "put" "Face.put" (defArgs sPutM) (defBody sPutM) (defScope sPutM) (.ref T3) kVm dcm pmm anm cdm ctm),slm⟩)
  (cm:PySem.W.codeIn K cdm "Face.put"=true)
  (km:PySem.W.keepIn K (.ref fm)=true)
  (tm:PySem.W.isFn K (.ref fm)=true)
  (lT3:K.lookup T3=some ⟨oT3,dT3,.seq #[.int 40 tk3] nT3,sT3⟩)
  (ih:PySem.W.findIn K (.ref CF) "hidden"=some (some (.ref fh)))
  (lh:K.lookup fh=some ⟨och,odh,.func (PySem.W.fnOf "hidden" "Face.hidden" (defArgs sHidden) (defBody sHidden) (defScope sHidden) .none kVh dch pmh anh cdh cth),slh⟩)
  (ch:PySem.W.codeIn K cdh "Face.hidden"=true)
  (kh:PySem.W.keepIn K (.ref fh)=true)
  (th:PySem.W.isFn K (.ref fh)=true)
  (iF:PySem.W.findIn K (.ref CF) "__init__"=some (some (.ref fi)))
  (li:K.lookup fi=some ⟨oci,odi,.func (PySem.W.fnOf "__init__" "Face.__init__" (defArgs sInit) (defBody sInit) (defScope sInit) .none kVi dci pmi ani cdi cti),sli⟩)
  (ci:PySem.W.codeIn K cdi "Face.__init__"=true)
  (ki:PySem.W.keepIn K (.ref fi)=true)
  (tF:PySem.W.isFn K (.ref fi)=true)
  (mk:PySem.W.makesIn K CF=true)
  (kF:PySem.W.keepIn K (.ref CF)=true)
  (pg:PySem.W.plainGet K CF Str.empty=true)
  (hd:PySem.W.hasDictIn K CF=true)
  (po:PySem.W.plainOver K CF=true)
  (sa:PySem.W.findIn K (.ref CF) "__setattr__"=some (some (.builtin "object.__setattr__")))
  (nK:PySem.W.findIn K (.ref CF) "kinds"=some none)
  (nF:PySem.W.findIn K (.ref CF) "funs"=some none)
  (jF:PySem.W.findIn K (.ref CN) "__init__"=some (some (.ref fj)))
  (lj:K.lookup fj=some ⟨ocj,odj,.func (PySem.W.fnOf "__init__" "NoFit.__init__" (defArgs sInitN) (defBody sInitN) (defScope sInitN) .none kVj dcj pmj anj cdj ctj),slj⟩)
  (cj:PySem.W.codeIn K cdj "NoFit.__init__"=true)
  (kj:PySem.W.keepIn K (.ref fj)=true)
  (tj:PySem.W.typeIn K (.ref fj)=some (.type "function"))
  (xI:excInI K CN bmVE "ValueError.__new__"=true)
  (xK:PySem.W.excIn K CK bmVE "ValueError.__new__"=true)
  (xA:PySem.W.excIn K CA bmVE "ValueError.__new__"=true)
  (xT:PySem.W.excIn K CT bmVE "ValueError.__new__"=true)
  (bg:PySem.W.specialIn K (.ref CR) "__getattribute__"=some (some (.builtin "type.__getattribute__")))
  (br:PySem.W.readsIn K CR (.type "type")=true)
  (bf:PySem.W.findCls K (.ref CR) (.type "type") "__init__"=some (.val (.builtin "ValueError.__init__")))
  (saN:PySem.W.findIn K (.ref CN) "__setattr__"=some (some (.builtin "object.__setattr__")))
  (poN:(PySem.W.clsIn K CN).any (fun cd=>refPass cd.mro)=true)
  (hdN:PySem.W.hasDictIn K CN=true)
  (obN:PySem.W.mroIn K CN (.type "object")=some true)
  (sp:PySem.W.specialIn K (.builtin "object.__class__") "__get__"=some (some (.builtin "getset_descriptor.__get__")))
  (clF:PySem.W.findIn K (.ref CF) "__class__"=some (some (.builtin "object.__class__")))
  (obF:PySem.W.mroIn K CF (.type "object")=some true)
  (j5:PySem.W.kitOne K (.ref CF) (.ref CF)=some true)
  (tk1:PySem.W.takesIn K (.builtin "object.__class__")=some true)
  (t_part:PySem.W.takerIn K CN "part"=some none)
  (t_name:PySem.W.takerIn K CN "name"=some none)
  (t_due:PySem.W.takerIn K CN "due"=some none)
  (t_found:PySem.W.takerIn K CN "found"=some none)
  (z1:PySem.W.nsIn K mainGlobals "len"=some none)
  (z2:PySem.W.nsIn K mainGlobals "list"=some none)
  (z3:PySem.W.nsIn K mainGlobals "range"=some none)
  (z4:PySem.W.nsIn K mainGlobals "dict"=some none)
  (z5:PySem.W.nsIn K mainGlobals "tuple"=some none)
  (z6:PySem.W.nsIn K mainGlobals "int"=some none)
  (z7:PySem.W.nsIn K mainGlobals "isinstance"=some none)
  (z8:PySem.W.nsIn K mainGlobals "str"=some none)
  (z9:PySem.W.nsIn K mainGlobals "bool"=some none)
  (z10:PySem.W.nsIn K mainGlobals "all"=some none) :
  ∃fd:FuncData,(∀(s:Shared) (v:Value),BindsTo s fd ⟨[v],[]⟩ [("_law_script",v)])∧∀base:Heap,K.In base→base.Ns mainGlobals mg→FnOk l.prog w K mg base CX0 47 fa fd ["_law_script"] (spLaw K):=by
 have e:=hfa.symm.trans (PySem.W.mg_of X G a29)
 cases e
 have F1:=fun_mk (st:=sWords) l1 c1 k1
 have F2:=fun_mk (st:=sNames) l2 c2 k2
 have F3:=fun_mk (st:=sPut) l3 c3 k3
 have F4:=fun_mk (st:=sBounded) l4 c4 k4
 have F5:=fun_mk (st:=sToldKind) l5 c5 k5
 have F6:=fun_mk (st:=sOwn) l6 c6 k6
 have F7:=fun_mk (st:=sPutFace) l7 c7 k7
 have F8:=fun_mk (st:=sPutFun) l8 c8 k8
 have F9:=fun_mk (st:=sRefined) l9 c9 k9
 have F10:=fun_mk (st:=sWanted) l10 c10 k10
 have F11:=fun_mk (st:=sSeenFace) l11 c11 k11
 have F12:=fun_mk (st:=sToldWith) l12 c12 k12
 have F13:=fun_mk (st:=sHiddenBy) l13 c13 k13
 have F14:=fun_mk (st:=sCell) l14 c14 k14
 have F15:=fun_mk (st:=sWordL) l15 c15 k15
 have F16:=fun_mk (st:=sMix) l16 c16 k16
 have F17:=fun_mk (st:=sPutL) l17 c17 k17
 have F18:=fun_mk (st:=sAlike) l18 c18 k18
 have F19:=fun_mk (st:=sSame) l19 c19 k19
 have F20:=fun_mk (st:=sFace) l20 c20 k20
 have F21:=fun_mk (st:=sHiddenL) l21 c21 k21
 have F22:=fun_mk (st:=sPutAll) l22 c22 k22
 have F23:=fun_mk (st:=sHiding) l23 c23 k23
 have F24:=fun_mk (st:=sThere) l24 c24 k24
 have F25:=fun_mk (st:=sWiths) l25 c25 k25
 have F26:=fun_mk (st:=sFull) l26 c26 k26
 have F27:=fun_mk (st:=sMade) l27 c27 k27
 have F28:=fun_mk (st:=sSeen) l28 c28 k28
 have F29:=fun_mk (st:=sLaw) l29 c29 k29
 have b1:=F1.binds (ps:=["kind"]) fun _ _ _ _ _ _ us hl=>match us,hl with|[_],_=>rfl
 have b2:=F2.binds (ps:=["kind"]) fun _ _ _ _ _ _ us hl=>match us,hl with|[_],_=>rfl
 have b3:=F3.binds (ps:=["kind","given"]) fun _ _ _ _ _ _ us hl=>match us,hl with|[_,_],_=>rfl
 have b4:=F4.binds (ps:=["kind","most"]) fun _ _ _ _ _ _ us hl=>match us,hl with|[_,_],_=>rfl
 have b5:=F5.binds (ps:=["part","word","own","parts"]) fun _ _ _ _ _ _ us hl=>match us,hl with|[_,_,_,_],_=>rfl
 have b6:=F6.binds (ps:=["word"]) fun _ _ _ _ _ _ us hl=>match us,hl with|[_],_=>rfl
 have b7:=F7.binds (ps:=["face","given"]) fun _ _ _ _ _ _ us hl=>match us,hl with|[_,_],_=>rfl
 have b8:=F8.binds (ps:=["fun","given"]) fun _ _ _ _ _ _ us hl=>match us,hl with|[_,_],_=>rfl
 have b9:=F9.binds (ps:=["face","withs"]) fun _ _ _ _ _ _ us hl=>match us,hl with|[_,_],_=>rfl
 have b10:=F10.binds (ps:=["seal","faces","parts"]) fun _ _ _ _ _ _ us hl=>match us,hl with|[_,_,_],_=>rfl
 have b11:=F11.binds (ps:=["full","want","part"]) fun _ _ _ _ _ _ us hl=>match us,hl with|[_,_,_],_=>rfl
 have b12:=F12.binds (ps:=["want","part"]) fun _ _ _ _ _ _ us hl=>match us,hl with|[_,_],_=>rfl
 have b13:=F13.binds (ps:=["want","part"]) fun _ _ _ _ _ _ us hl=>match us,hl with|[_,_],_=>rfl
 have b14:=F14.binds (ps:=["_law_script","_law_k"]) fun _ _ _ _ _ _ us hl=>match us,hl with|[_,_],_=>rfl
 have b15:=F15.binds (ps:=["_law_cell_here","_law_k"]) fun _ _ _ _ _ _ us hl=>match us,hl with|[_,_],_=>rfl
 have b16:=F16.binds (ps:=["_law_cell_here","_law_leaves"]) fun _ _ _ _ _ _ us hl=>match us,hl with|[_,_],_=>rfl
 have b17:=F17.binds (ps:=["_law_kind","_law_given"]) fun _ _ _ _ _ _ us hl=>match us,hl with|[_,_],_=>rfl
 have b18:=F18.binds (ps:=["_law_found","_law_due"]) fun _ _ _ _ _ _ us hl=>match us,hl with|[_,_],_=>rfl
 have b19:=F19.binds (ps:=["_law_face_here","_law_kinds","_law_funs"]) fun _ _ _ _ _ _ us hl=>match us,hl with|[_,_,_],_=>rfl
 have b20:=F20.binds (ps:=["_law_script","_law_at","_law_shift","_law_leaves"]) fun _ _ _ _ _ _ us hl=>match us,hl with|[_,_,_,_],_=>rfl
 have b21:=F21.binds (ps:=["_law_kinds"]) fun _ _ _ _ _ _ us hl=>match us,hl with|[_],_=>rfl
 have b22:=F22.binds (ps:=["_law_face_here","_law_given"]) fun _ _ _ _ _ _ us hl=>match us,hl with|[_,_],_=>rfl
 have b23:=F23.binds (ps:=["_law_face_here","_law_part"]) fun _ _ _ _ _ _ us hl=>match us,hl with|[_,_],_=>rfl
 have b24:=F24.binds (ps:=["_law_part"]) fun _ _ _ _ _ _ us hl=>match us,hl with|[_],_=>rfl
 have b25:=F25.binds (ps:=["_law_script","_law_part","_law_hidden_here"]) fun _ _ _ _ _ _ us hl=>match us,hl with|[_,_,_],_=>rfl
 have b26:=F26.binds (ps:=["_law_script","_law_face_here"]) fun _ _ _ _ _ _ us hl=>match us,hl with|[_,_],_=>rfl
 have b27:=F27.binds (ps:=["_law_face_here"]) fun _ _ _ _ _ _ us hl=>match us,hl with|[_],_=>rfl
 have b28:=F28.binds (ps:=["_law_full_here","_law_want","_law_part","_law_due"]) fun _ _ _ _ _ _ us hl=>match us,hl with|[_,_,_,_],_=>rfl
 refine⟨PySem.W.fnOf "law" "law" (defArgs sLaw) (defBody sLaw) (defScope sLaw) .none kV29 dc29 pm29 an29 cd29 ct29,fun s v=>.of_eq rfl,fun base _ _=>?_⟩
 have FF:FunD K "fitted" "fitted" sFitted (.ref T) ff (PySem.W.fnOf "fitted" "fitted" (defArgs sFitted) (defBody sFitted) (defScope sFitted) (.ref T) kVf dcf pmf anf cdf ctf):=⟨⟨ocf,odf,kVf,dcf,pmf,anf,cdf,ctf,slf,rfl,lf,cf⟩,kf⟩
 have FNo:FunD K "normal" "normal" sNormal (.ref T1) fn (PySem.W.fnOf "normal" "normal" (defArgs sNormal) (defBody sNormal) (defScope sNormal) (.ref T1) kVn dcn pmn ann cdn ctn):=⟨⟨ocn,odn,kVn,dcn,pmn,ann,cdn,ctn,sln,rfl,ln,cn⟩,kn⟩
 have FM:FunD K "put" "Face.put" sPutM (.ref T3) fm (PySem.W.fnOf "put" "Face.put" (defArgs sPutM) (defBody sPutM) (defScope sPutM) (.ref T3) kVm dcm pmm anm cdm ctm):=⟨⟨ocm,odm,kVm,dcm,pmm,anm,cdm,ctm,slm,rfl,lm,cm⟩,km⟩
 have Fi:=fun_mk (st:=sInit) li ci ki
 have bI:=Fi.binds (ps:=["self","kinds","funs"]) fun _ _ _ _ _ _ us hl=>match us,hl with|[_,_,_],_=>rfl
 have Fh:=fun_mk (st:=sHidden) lh ch kh
 have bH:=Fh.binds (ps:=["self"]) fun _ _ _ _ _ _ us hl=>match us,hl with|[_],_=>rfl
 have Fj:=fun_mk (st:=sInitN) lj cj kj
 have bJ:=Fj.binds (ps:=["self","part","name","due","found"]) fun _ _ _ _ _ _ us hl=>match us,hl with|[_,_,_,_,_],_=>rfl
 have MF:Mk K CF fi:=⟨mk,iF,tF,kF⟩
 have MH:Meth K CF "hidden" fh:=⟨ih,th,kh⟩
 have MM:Meth K CF "put" fm:=⟨im,tm,km⟩
 have cF:Cls K CF:=⟨pg,hd,po,sa⟩
 have MX:MkX K CN fj:=⟨xI,jF,tj⟩
 have BR:BaseI K CR:=⟨bg,br,bf⟩
 have XS:ExcSet K CN:=⟨saN,poN,hdN,obN⟩
 have GWi:=ok_words (P:=l.prog) (w:=w) (base:=base) (mg:=mg) F1 (PySem.W.mg_none_of X G z1)
 have GNa:=ok_names (P:=l.prog) (w:=w) (base:=base) (mg:=mg) F2 (PySem.W.mg_none_of X G z1) (PySem.W.mg_none_of X G z2)
 have GP:=ok_put (P:=l.prog) (w:=w) (base:=base) (mg:=mg) F3 b3 k3 (PySem.W.mg_of X G a3) 40
 have GB:=ok_bounded (P:=l.prog) (w:=w) (base:=base) (mg:=mg) F4 GWi b1 k1 (PySem.W.mg_of X G a1) (PySem.W.mg_of X G aT) xT
 have GTK:=ok_toldKind (P:=l.prog) (w:=w) (base:=base) (mg:=mg) F5 cF nK (PySem.W.mg_of X G aK) xK
 have GNo:=ok_normal (P:=l.prog) (w:=w) (base:=base) (mg:=mg) FNo GNa b2 k2 (PySem.W.mg_of X G a2) GP b3 k3 (PySem.W.mg_of X G a3) GB b4 k4 (PySem.W.mg_of X G a4) GTK b5 k5 (PySem.W.mg_of X G a5)
 have GO:=ok_own (P:=l.prog) (w:=w) (base:=base) (mg:=mg) F6
 have GPF:=ok_putFun (P:=l.prog) (w:=w) (base:=base) (mg:=mg) F8 GP b3 k3 (PySem.W.mg_of X G a3) (PySem.W.mg_none_of X G z5)
 have GI:=ok_initF (P:=l.prog) (w:=w) (base:=base) (mg:=mg) Fi cF nK nF (PySem.W.mg_none_of X G z4)
 have GFa:=ok_putFace (P:=l.prog) (w:=w) (base:=base) (mg:=mg) F7 GP b3 k3 (PySem.W.mg_of X G a3) GPF b8 k8 (PySem.W.mg_of X G a8) GI bI MF (PySem.W.mg_of X G aF) cF nK nF
 have GJ:=ok_initN (P:=l.prog) (w:=w) (base:=base) (mg:=mg) Fj (PySem.W.mg_of X G aR) BR xI XS t_part t_name t_due t_found
 have GH:=ok_hidden (P:=l.prog) (w:=w) (base:=base) (mg:=mg) Fh GO b6 k6 (PySem.W.mg_of X G a6) cF nK
 have GFi:=ok_fitted (P:=l.prog) (w:=w) (base:=base) (mg:=mg) FF GP b3 k3 (PySem.W.mg_of X G a3) GPF b8 k8 (PySem.W.mg_of X G a8) MH GH bH MX GJ bJ (PySem.W.mg_of X G aN) cF nK nF
 have GM:=ok_putM (P:=l.prog) (w:=w) (base:=base) (mg:=mg) FM GFa b7 k7 (PySem.W.mg_of X G a7) GB b4 k4 (PySem.W.mg_of X G a4) cF nK nF
 have GR:=ok_refined (P:=l.prog) (w:=w) (base:=base) (mg:=mg) F9 GI bI MF (PySem.W.mg_of X G aF) cF nK nF GH bH MH FM lT3 GM MM (PySem.W.mg_of X G aK) xK
 have GWn:=ok_wanted (P:=l.prog) (w:=w) (base:=base) (mg:=mg) F10 GR b9 k9 (PySem.W.mg_of X G a9) FNo lT1 GNo kn (PySem.W.mg_of X G an) (PySem.W.mg_of X G aA) xA
 have GHB:=ok_hiddenBy (P:=l.prog) (w:=w) (base:=base) (mg:=mg) F13 MH GH bH cF
 have GTW:=ok_toldWith (P:=l.prog) (w:=w) (base:=base) (mg:=mg) F12 GFa b7 k7 (PySem.W.mg_of X G a7) GHB b13 k13 (PySem.W.mg_of X G a13)
 have GSF:=ok_seenFace (P:=l.prog) (w:=w) (base:=base) (mg:=mg) F11 GFi (bindF3 FF lT) kf (PySem.W.mg_of X G af) GTW b12 k12 (PySem.W.mg_of X G a12) GI bI MF (PySem.W.mg_of X G aF) cF nK nF
 have GC:=ok_cellX (P:=l.prog) (w:=w) (base:=base) (mg:=mg) F14 (PySem.W.mg_none_of X G z1)
 have GW:=ok_wordL (P:=l.prog) (w:=w) (base:=base) (mg:=mg) F15 (PySem.W.mg_none_of X G z6) (PySem.W.mg_none_of X G z3)
 have GMx:=ok_mix (P:=l.prog) (w:=w) (base:=base) (mg:=mg) F16 (PySem.W.mg_none_of X G z1)
 have GPL:=ok_putL (P:=l.prog) (w:=w) (base:=base) (mg:=mg) F17 b17 k17 (PySem.W.mg_of X G a17) 20
 have GPL3:=ok_putL (P:=l.prog) (w:=w) (base:=base) (mg:=mg) F17 b17 k17 (PySem.W.mg_of X G a17) 3
 have GAl:=ok_alike (P:=l.prog) (w:=w) (base:=base) (mg:=mg) F18 b18 k18 (PySem.W.mg_of X G a18) (PySem.W.mg_none_of X G z7) (PySem.W.mg_none_of X G z8) (PySem.W.mg_none_of X G z5) (PySem.W.mg_none_of X G z6) (PySem.W.mg_none_of X G z9) (PySem.W.mg_none_of X G z1) (PySem.W.mg_none_of X G z3) (PySem.W.mg_none_of X G z10) 42
 have GSm:=ok_same (P:=l.prog) (w:=w) (base:=base) (mg:=mg) F19 GAl b18 k18 (PySem.W.mg_of X G a18) (PySem.W.mg_of X G aF) (PySem.W.mg_none_of X G z7) (PySem.W.mg_none_of X G z4) (PySem.W.mg_none_of X G z5) cF nK nF clF sp tk1 obF j5
 have GFc:=ok_face (P:=l.prog) (w:=w) (base:=base) (mg:=mg) F20 GC b14 k14 (PySem.W.mg_of X G a14) GW b15 k15 (PySem.W.mg_of X G a15) GMx b16 k16 (PySem.W.mg_of X G a16) (PySem.W.mg_none_of X G z5) (PySem.W.mg_none_of X G z3) (PySem.W.mg_none_of X G z1)
 have GHl:=ok_hiddenL (P:=l.prog) (w:=w) (base:=base) (mg:=mg) F21
 have GPA:=ok_putAll (P:=l.prog) (w:=w) (base:=base) (mg:=mg) F22 GPL b17 k17 (PySem.W.mg_of X G a17) (PySem.W.mg_none_of X G z5)
 have GHd:=ok_hiding (P:=l.prog) (w:=w) (base:=base) (mg:=mg) F23 GHl b21 k21 (PySem.W.mg_of X G a21) GPA b22 k22 (PySem.W.mg_of X G a22)
 have GTh:=ok_there (P:=l.prog) (w:=w) (base:=base) (mg:=mg) F24
 have GWs:=ok_withs (P:=l.prog) (w:=w) (base:=base) (mg:=mg) F25 GC b14 k14 (PySem.W.mg_of X G a14) GMx b16 k16 (PySem.W.mg_of X G a16) GPL3 b17 k17 (PySem.W.mg_of X G a17) GTh b24 k24 (PySem.W.mg_of X G a24) (PySem.W.mg_none_of X G z5) (PySem.W.mg_none_of X G z3) (PySem.W.mg_none_of X G z1)
 have GFu:=ok_full (P:=l.prog) (w:=w) (base:=base) (mg:=mg) F26 GC b14 k14 (PySem.W.mg_of X G a14) GW b15 k15 (PySem.W.mg_of X G a15) GHl b21 k21 (PySem.W.mg_of X G a21) GMx b16 k16 (PySem.W.mg_of X G a16) GPA b22 k22 (PySem.W.mg_of X G a22) (PySem.W.mg_none_of X G z3) (PySem.W.mg_none_of X G z1)
 have GMd:=ok_made (P:=l.prog) (w:=w) (base:=base) (mg:=mg) F27 GI bI MF (PySem.W.mg_of X G aF) (PySem.W.mg_none_of X G z4)
 have GSn:=ok_seen (P:=l.prog) (w:=w) (base:=base) (mg:=mg) F28 (by decide) GSF b11 k11 (PySem.W.mg_of X G a11) GSm b19 k19 (PySem.W.mg_of X G a19) cF nK nF
 exact ok_law F29 GSm b19 k19 (PySem.W.mg_of X G a19) GSn b28 k28 (PySem.W.mg_of X G a28) GWn b10 k10 (PySem.W.mg_of X G a10) (PySem.W.mg_none_of X G z2) GPA b22 k22 (PySem.W.mg_of X G a22) GFu b26 k26 (PySem.W.mg_of X G a26) GMd b27 k27 (PySem.W.mg_of X G a27) GC b14 k14 (PySem.W.mg_of X G a14) GW b15 k15 (PySem.W.mg_of X G a15) GHd b23 k23 (PySem.W.mg_of X G a23) GTh b24 k24 (PySem.W.mg_of X G a24) GHl b21 k21 (PySem.W.mg_of X G a21) GWs b25 k25 (PySem.W.mg_of X G a25) GFc b20 k20 (PySem.W.mg_of X G a20) GI bI MF (PySem.W.mg_of X G aF) (PySem.W.mg_none_of X G z4) cF nK
theorem walk{l:PySem.W.OpenLaw}{q:Program}{loose:List Str}{XP:(Str→Option Value)→Heap→Prop}{YP:World→Heap→Prop}{d:DefRec}{K:Params→PySem.W.Frag}(hn:l.most=some 63)(hdf:d.params.defaults=[])
  (hY:∀(w:World) (h:Heap),YP w h→(K w.params).In h)
  (F:∀(w:World) (mg:Str→Option Value) (fa:Addr) (h:Heap),(K w.params).In h→h.Ns mainGlobals mg→mg d.name=some (.ref fa) →
   ∃fd:FuncData,(∀(s:Shared) (u:Value),BindsTo s fd ⟨[u],[]⟩ [("_law_script",u)])∧∀base:Heap,(K w.params).In base→base.Ns mainGlobals mg→FnOk l.prog w (K w.params) mg base CX0 47 fa fd ["_law_script"] (spLaw (K w.params))) :
  PySem.W.WalkO q loose XP YP l.row.toRowW d [] (fun f vs=>PySem.call f vs) :=
 L2.walk_of (n:=63) (k:=47) (x:="_law_script") (CX:=fun _=>CX0) (sp:=fun w=>spLaw (K w.params)) hn (by decide) hdf ⟨rfl,by decide,by decide,rfl⟩ hY F (fun _ _ a ns hl _ hS=>⟨a,ns,rfl,hS,hl,fun _=>rfl⟩) fun _ _ _ _ _ z=>z
end K42
open PySem PySem.W PyProof.Rows
set_option maxRecDepth 100000 in
set_option maxHeartbeats 0 in
theorem PySem.Challenge.cw_sealhouse_k42_seals_holds : PySem.Challenge.rw_sealhouse_k42_seals.Holds := by
 w_on;o_law;z_head;(case hw=>w_witness2)
 k_fill
 refine L2.walk_z (fun _=>rfl) ?_
 refine K42.walk (l:=PySem.Challenge.rw_sealhouse_k42_seals) rfl rfl (fun w h Y=>Y) ?F
 case F =>
  intro w mg fa h KX G hmg
  refine' K42.all_mk KX G hmg ?a1 ?l1 ?c1 ?k1 ?a2 ?l2 ?c2 ?k2 ?a3 ?l3 ?c3 ?k3 ?a4 ?l4 ?c4 ?k4 ?a5 ?l5 ?c5 ?k5 ?a6 ?l6 ?c6 ?k6 ?a7 ?l7 ?c7 ?k7 ?a8 ?l8 ?c8 ?k8 ?a9 ?l9 ?c9 ?k9 ?a10 ?l10 ?c10 ?k10 ?a11 ?l11 ?c11 ?k11 ?a12 ?l12 ?c12 ?k12 ?a13 ?l13 ?c13 ?k13 ?a14 ?l14 ?c14 ?k14 ?a15 ?l15 ?c15 ?k15 ?a16 ?l16 ?c16 ?k16 ?a17 ?l17 ?c17 ?k17 ?a18 ?l18 ?c18 ?k18 ?a19 ?l19 ?c19 ?k19 ?a20 ?l20 ?c20 ?k20 ?a21 ?l21 ?c21 ?k21 ?a22 ?l22 ?c22 ?k22 ?a23 ?l23 ?c23 ?k23 ?a24 ?l24 ?c24 ?k24 ?a25 ?l25 ?c25 ?k25 ?a26 ?l26 ?c26 ?k26 ?a27 ?l27 ?c27 ?k27 ?a28 ?l28 ?c28 ?k28 ?a29 ?l29 ?c29 ?k29 ?aF ?aN ?aK ?aA ?aT ?aR ?af ?lf ?cf ?kf ?lT ?an ?ln ?cn ?kn ?lT1 ?im ?lm ?cm ?km ?tm ?lT3 ?ih ?lh ?ch ?kh ?th ?iF ?li ?ci ?ki ?tF ?mk ?kF ?pg ?hd ?po ?sa ?nK ?nF ?jF ?lj ?cj ?kj ?tj ?xI ?xK ?xA ?xT ?bg ?br ?bf ?saN ?poN ?hdN ?obN ?sp ?clF ?obF ?j5 ?tk1 ?t_part ?t_name ?t_due ?t_found ?z1 ?z2 ?z3 ?z4 ?z5 ?z6 ?z7 ?z8 ?z9 ?z10
  (case a1=>k_is)
  (case l1=>k_is)
  (case c1=>k_is)
  (case k1=>k_is)
  (case a2=>k_is)
  (case l2=>k_is)
  (case c2=>k_is)
  (case k2=>k_is)
  (case a3=>k_is)
  (case l3=>k_is)
  (case c3=>k_is)
  (case k3=>k_is)
  (case a4=>k_is)
  (case l4=>k_is)
  (case c4=>k_is)
  (case k4=>k_is)
  (case a5=>k_is)
  (case l5=>k_is)
  (case c5=>k_is)
  (case k5=>k_is)
  (case a6=>k_is)
  (case l6=>k_is)
  (case c6=>k_is)
  (case k6=>k_is)
  (case a7=>k_is)
  (case l7=>k_is)
  (case c7=>k_is)
  (case k7=>k_is)
  (case a8=>k_is)
  (case l8=>k_is)
  (case c8=>k_is)
  (case k8=>k_is)
  (case a9=>k_is)
  (case l9=>k_is)
  (case c9=>k_is)
  (case k9=>k_is)
  (case a10=>k_is)
  (case l10=>k_is)
  (case c10=>k_is)
  (case k10=>k_is)
  (case a11=>k_is)
  (case l11=>k_is)
  (case c11=>k_is)
  (case k11=>k_is)
  (case a12=>k_is)
  (case l12=>k_is)
  (case c12=>k_is)
  (case k12=>k_is)
  (case a13=>k_is)
  (case l13=>k_is)
  (case c13=>k_is)
  (case k13=>k_is)
  (case a14=>k_is)
  (case l14=>k_is)
  (case c14=>k_is)
  (case k14=>k_is)
  (case a15=>k_is)
  (case l15=>k_is)
  (case c15=>k_is)
  (case k15=>k_is)
  (case a16=>k_is)
  (case l16=>k_is)
  (case c16=>k_is)
  (case k16=>k_is)
  (case a17=>k_is)
  (case l17=>k_is)
  (case c17=>k_is)
  (case k17=>k_is)
  (case a18=>k_is)
  (case l18=>k_is)
  (case c18=>k_is)
  (case k18=>k_is)
  (case a19=>k_is)
  (case l19=>k_is)
  (case c19=>k_is)
  (case k19=>k_is)
  (case a20=>k_is)
  (case l20=>k_is)
  (case c20=>k_is)
  (case k20=>k_is)
  (case a21=>k_is)
  (case l21=>k_is)
  (case c21=>k_is)
  (case k21=>k_is)
  (case a22=>k_is)
  (case l22=>k_is)
  (case c22=>k_is)
  (case k22=>k_is)
  (case a23=>k_is)
  (case l23=>k_is)
  (case c23=>k_is)
  (case k23=>k_is)
  (case a24=>k_is)
  (case l24=>k_is)
  (case c24=>k_is)
  (case k24=>k_is)
  (case a25=>k_is)
  (case l25=>k_is)
  (case c25=>k_is)
  (case k25=>k_is)
  (case a26=>k_is)
  (case l26=>k_is)
  (case c26=>k_is)
  (case k26=>k_is)
  (case a27=>k_is)
  (case l27=>k_is)
  (case c27=>k_is)
  (case k27=>k_is)
  (case a28=>k_is)
  (case l28=>k_is)
  (case c28=>k_is)
  (case k28=>k_is)
  (case a29=>k_is)
  (case l29=>k_is)
  (case c29=>k_is)
  (case k29=>k_is)
  (case aF=>k_is)
  (case aN=>k_is)
  (case aK=>k_is)
  (case aA=>k_is)
  (case aT=>k_is)
  (case aR=>k_is)
  (case af=>k_is)
  (case lf=>k_is)
  (case cf=>k_is)
  (case kf=>k_is)
  (case lT=>k_is)
  (case an=>k_is)
  (case ln=>k_is)
  (case cn=>k_is)
  (case kn=>k_is)
  (case lT1=>k_is)
  (case im=>k_is)
  (case lm=>k_is)
  (case cm=>k_is)
  (case km=>k_is)
  (case tm=>k_is)
  (case lT3=>k_is)
  (case ih=>k_is)
  (case lh=>k_is)
  (case ch=>k_is)
  (case kh=>k_is)
  (case th=>k_is)
  (case iF=>k_is)
  (case li=>k_is)
  (case ci=>k_is)
  (case ki=>k_is)
  (case tF=>k_is)
  (case mk=>k_is)
  (case kF=>k_is)
  (case pg=>k_is)
  (case hd=>k_is)
  (case po=>k_is)
  (case sa=>k_is)
  (case nK=>k_is)
  (case nF=>k_is)
  (case jF=>k_is)
  (case lj=>k_is)
  (case cj=>k_is)
  (case kj=>k_is)
  (case tj=>k_is)
  (case xI=>with_unfolding_all exact rfl)
  (case xK=>with_unfolding_all exact rfl)
  (case xA=>with_unfolding_all exact rfl)
  (case xT=>with_unfolding_all exact rfl)
  (case bg=>k_is)
  (case br=>k_is)
  (case bf=>k_is)
  (case saN=>k_is)
  (case poN=>exact rfl)
  (case hdN=>k_is)
  (case obN=>k_is)
  (case sp=>k_is)
  (case clF=>k_is)
  (case obF=>k_is)
  (case j5=>exact rfl)
  (case tk1=>k_is)
  (case t_part=>k_is)
  (case t_name=>k_is)
  (case t_due=>k_is)
  (case t_found=>k_is)
  (case z1=>k_is)
  (case z2=>k_is)
  (case z3=>k_is)
  (case z4=>k_is)
  (case z5=>k_is)
  (case z6=>k_is)
  (case z7=>k_is)
  (case z8=>k_is)
  (case z9=>k_is)
  (case z10=>k_is)
#print axioms PySem.Challenge.cw_sealhouse_k42_seals_holds
