import PyProof.Rows.All
import Wide.All
import OpenK.AllK
import Wide.FinOn
import Lean
import PyProof.EqAt
import PyProof.EqKinds
import PyProof.TupleCall
import PySem.Challenge.RW_sealhouse_k71_single_expressions
set_option Elab.async false
set_option linter.all false
set_option maxRecDepth 100000
namespace L2
open PySem PySem.Spec PyProof.Rows
abbrev Key:=Sum Int Str
def keyIs:Key→Value→Bool
 |.inl k,v=>Value.isInt k v
 |.inr x,v=>Value.isStrOf x v
def keyH(w:World):Key→Int
 |.inl k=>hashInt k
 |.inr x=>hashStr w x
theorem keyIs_shape:∀{k:Key} {v:Value},keyIs k v=true→(∃i t,k=Sum.inl i∧v=Value.int i t)∨(∃x t,k=Sum.inr x∧v=Value.str x t)
 |.inl i,v,h=>by
  obtain⟨t,e⟩:=Value.isInt_shape (k:=i) (v:=v) h
  exact .inl ⟨i,t,rfl,e⟩
 |.inr x,v,h=>by
  obtain⟨t,e⟩:=Value.isStrOf_shape (x:=x) (v:=v) h
  exact .inr ⟨x,t,rfl,e⟩
theorem keyIs_int(i:Int)(t:Tok):keyIs (.inl i) (.int i t)=true:=by simp [keyIs,Value.isInt]
theorem keyIs_str(x:Str)(t:Tok):keyIs (.inr x) (.str x t)=true:=by simp [keyIs,Value.isStrOf]
theorem key_ll(a b:Int):decide ((Sum.inl a:Key)=Sum.inl b)=(a==b):=by
 by_cases e:a=b
 ·subst e;simp
 ·have h:¬(Sum.inl a:Key)=Sum.inl b:=fun q=>e (Sum.inl.inj q)
  rw [decide_eq_false h]
  exact(beq_eq_false_iff_ne.mpr e).symm
theorem key_rr(a b:Str):decide ((Sum.inr a:Key)=Sum.inr b)=decide (a=b):=by
 by_cases e:a=b
 ·subst e;simp
 ·have h:¬(Sum.inr a:Key)=Sum.inr b:=fun q=>e (Sum.inr.inj q)
  rw [decide_eq_false h,decide_eq_false e]
theorem key_lr(a:Int)(b:Str):decide ((Sum.inl a:Key)=Sum.inr b)=false:=decide_eq_false (fun q=>nomatch q)
theorem key_rl(a:Str)(b:Int):decide ((Sum.inr a:Key)=Sum.inl b)=false:=decide_eq_false (fun q=>nomatch q)
def mixKind(prog:Program)(w:World):PySem.KeyKind prog w Key where
 is:=keyIs
 hash:=keyH w
 inj:=fun v a b ha hb=>by
  rcases keyIs_shape ha with ⟨i,t,rfl,rfl⟩|⟨x,t,rfl,rfl⟩
  ·rcases keyIs_shape hb with ⟨j,u,rfl,e⟩|⟨y,u,rfl,e⟩
   ·injection e with e1 _;rw [e1]
   ·exact nomatch e
  ·rcases keyIs_shape hb with ⟨j,u,rfl,e⟩|⟨y,u,rfl,e⟩
   ·exact nomatch e
   ·injection e with e1 _;rw [e1]
 byValue:=fun k v h=>by
  rcases keyIs_shape h with ⟨i,t,rfl,rfl⟩|⟨x,t,rfl,rfl⟩<;>rfl
 pyHash:=fun hv h=>by
  rcases keyIs_shape hv with ⟨i,t,rfl,rfl⟩|⟨x,t,rfl,rfl⟩
  ·exact wpAny_pyHash_int h
  ·exact wpAny_pyHash_str h
 eqBool:=fun hu hv h=>by
  rcases keyIs_shape hu with ⟨i,t,rfl,rfl⟩|⟨x,t,rfl,rfl⟩
  ·rcases keyIs_shape hv with ⟨j,u,rfl,rfl⟩|⟨y,u,rfl,rfl⟩
   ·rw [key_ll] at h;exact wpAny_eqBool_int h
   ·rw [key_lr] at h;exact SeqAt.EqAt.int_str i t y u _ _ _ _ h
  ·rcases keyIs_shape hv with ⟨j,u,rfl,rfl⟩|⟨y,u,rfl,rfl⟩
   ·rw [key_rl] at h;exact SeqAt.EqAt.str_int x t j u _ _ _ _ h
   ·rw [key_rr] at h;exact wpAny_eqBool_str h
 «strs»:=fun k x t v h=>by
  rcases keyIs_shape h with ⟨i,u,rfl,e⟩|⟨y,u,rfl,e⟩
  ·exact nomatch e
  ·injection e with e1 _
   subst e1
   cases v<;>rfl
theorem mixKind_int(prog:Program)(w:World)(i:Int)(t:Tok):(mixKind prog w).is (.inl i) (.int i t)=true:=keyIs_int i t
theorem mixKind_str(prog:Program)(w:World)(x:Str)(t:Tok):(mixKind prog w).is (.inr x) (.str x t)=true:=keyIs_str x t
end L2
namespace L2
open PySem PySem.Spec PyProof.Rows
inductive V where
 |non|bl (b:Bool)|int (i:Int)|str (x:Str)|byt (b:Array UInt8)|flt (b:UInt64)|ref (a:Addr)|ty (n:String)
 deriving DecidableEq
def RelV:V→Value→Prop
 |.non,u=>u=Value.none
 |.bl b,u=>u=Value.bool b
 |.int i,u=>∃t,u=Value.int i t
 |.str x,u=>∃t,u=Value.str x t
 |.byt b,u=>∃t,u=Value.bytes b t
 |.flt b,u=>∃t,u=Value.float b t
 |.ref a,u=>u=Value.ref a
 |.ty n,u=>u=Value.type n
abbrev Vals:List V→List Value→Prop:=Paired RelV
theorem Vals.length{xs:List V}{us:List Value}(r:Vals xs us):xs.length=us.length:=Paired.length r
theorem Vals.get:∀{xs:List V} {us:List Value} {i:Nat} {x:V},Vals xs us→xs[i]?=some x→∃u,us[i]?=some u∧RelV x u
 |_,_,_,_,.nil,e=>by simp at e
 |_,_,0,_,.cons r _,e=>by simp at e;subst e;exact⟨_,rfl,r⟩
 |_,_,i+1,x,.cons _ t,e=>by
  obtain⟨u,h1,h2⟩:=Vals.get (i:=i) (x:=x) t (by simpa using e)
  exact⟨u,by simpa using h1,h2⟩
theorem Vals.append:∀{xs ys:List V} {us ws:List Value},Vals xs us→Vals ys ws→Vals (xs++ys) (us++ws)
 |_,_,_,_,.nil,s=>s
 |_,_,_,_,.cons r t,s=>.cons r (Vals.append t s)
theorem Vals.take:∀{xs:List V} {us:List Value} (n:Nat),Vals xs us→Vals (xs.take n) (us.take n)
 |_,_,0,_=>.nil
 |_,_,_+1,.nil=>.nil
 |_,_,n+1,.cons r t=>.cons r (Vals.take n t)
theorem Vals.drop:∀{xs:List V} {us:List Value} (n:Nat),Vals xs us→Vals (xs.drop n) (us.drop n)
 |_,_,0,r=>r
 |_,_,_+1,.nil=>.nil
 |_,_,n+1,.cons _ t=>Vals.drop n t
def RelO:Option V→Option Value→Prop
 |some v,some u=>RelV v u
 |none,none=>True
 |_,_=>False
def KV{κ:Type}:List (κ × V)→List (κ × Value)→Prop:=Paired fun(p:κ × V) (q:κ × Value)=>p.1=q.1∧RelV p.2 q.2
def kV:Key→V
 |.inl i=>.int i
 |.inr x=>.str x
inductive HO where
 |lst (xs:List V)
 |tup (xs:List V)
 |dK (kvs:List (Key × V))|dT (kvs:List (List Key × V))
 |set (S:Int→Bool) (n:Nat)
 |ins (C dx:Addr) (fs:List (Str × V))
 |own (x:Addr)
 |xd (fs:List (Str × V))
 |met (f x:Addr)
 |rng (lo hi:Int)
 |frz (o:Obj) (u:HO)
 |tbl (ps:Array Value)
 |cod (q:Str)|cel (v:V)|fnc (fd:FuncData)
 |ext (φ:Heap→Prop)
abbrev Hp:=Addr→Option HO
def upd(H:Hp)(a:Addr)(o:HO):Hp:=fun b=>if b=a then some o else H b
theorem upd_same{H:Hp}{a:Addr}{o:HO}:upd H a o a=some o:=by unfold upd;rw [if_pos rfl]
theorem upd_ne{H:Hp}{a b:Addr}{o:HO}(h:b≠a):upd H a o b=H b:=by unfold upd;rw [if_neg h]
theorem ne_of{H:Hp}{a b:Addr}{o u:HO}(h:H a=some o)(h':H b=some u)(d:o≠u):a≠b:=by
 intro e;subst e;rw [h] at h';exact d (Option.some.inj h')
theorem ne_of_none{H:Hp}{a b:Addr}{o:HO}(h:H a=some o)(h':H b=none):a≠b:=by
 intro e;subst e;rw [h] at h';cases h'
def qualAt:List Value→Pos→Option Str
 |.int l _::.int c _::.str q _::r,p=>if l==p.line&&c==p.col then some q else qualAt r p
 |_,_=>none
inductive FxO where
 |tup (xs:List V)|cod (q:Str)
def FxO.ho:FxO→HO
 |.tup xs=>.tup xs
 |.cod q=>.cod q
section
variable(P:Program)(w:World)
def ObjOk(H:Hp)(h:Heap)(a:Addr):HO→Prop
 |.lst xs=>xs.length≤sizeLine∧∃(its:List Value) (n:Nat),Vals xs its∧h.get? a=some { cls:=.type "list",data:=.seq its.toArray n }
 |.tup xs=>xs.length≤sizeLine∧∃its:List Value,Vals xs its∧IsTup h a its.toArray
 |.dK kvs=>kvs.length≤sizeLine∧(a==sysModules)=false∧∃vs,KV kvs vs∧h.DictOf (mixKind P w) a vs
 |.dT kvs=>kvs.length≤sizeLine∧(a==sysModules)=false∧∃xs:List (List Key × Addr × Value),
   Paired (fun(p:List Key × V) (q:List Key × Addr × Value)=>p.1=q.1∧H q.2.1=some (.tup (p.1.map kV))∧RelV p.2 q.2.2) kvs xs ∧
   ∃o es ep,h.get? a=some o∧o.ExactDict∧o.data=.dict es ep∧es.toList=xs.map (entryOfKey (tupleKind (mixKind P w)))∧(xs.map (·.1)).Nodup
 |.set S n=>h.SetOf (intKind P w) a S n
 |.ins C dx fs=>H dx=some (.own a)∧fs.length≤1000∧dx≠a∧h.get? a=some (PySem.W.instObj C dx) ∧
   ∃mA,h.Ns1 dx mA∧(∀f,RelO (fs.lookup f) (mA f))∧PySem.Within mA (fs.map (·.1))
 |.own _=>∃o,h.get? a=some o
 |.xd fs=>∃mA,h.Ns1 a mA∧∀f,RelO (fs.lookup f) (mA f)
 |.rng lo hi=>∃t u v,h.get? a=some { cls:=.type "range",data:=.fields #[.int lo t,.int hi u,.int 1 v] }
 |.frz o u=>h.get? a=some o∧ObjOk H h a u
 |.tbl ps=>∃tb:Array Value,h.get? a=some { cls:=.none,data:=.fields tb }∧TriplesOk tb.toList∧∀(p:Pos) (q:Str),qualAt ps.toList p=some q→∀cv,codeAmong p tb.toList=some cv→∃c,cv=Value.ref c∧H c=some (.cod q)
 |.cod q=>h.CodeRec (.ref a) q
 |.cel v=>∃u,RelV v u∧h.IsCell a (some u)
 |.fnc fd=>∃oc od sl,h.get? a=some ⟨oc,od,.func fd,sl⟩
 |.met f x=>h.get? a=some (PySem.W.methodObj (.ref f) (.ref x))
 |.ext φ=>φ h∧(∃o,h.get? a=some o)∧∀h1 h2:Heap,φ h1→(∀o,h1.get? a=some o→h2.get? a=some o)→φ h2
def HOk(H:Hp)(h:Heap):Prop:=∀a o,H a=some o→ObjOk P w H h a o
end
section
variable{P:Program}{w:World}{H H':Hp}{h h':Heap}{a:Addr}{o:HO}
theorem ObjOk.lt(x:ObjOk P w H h a o):a < h.objs.size:=by
 cases o with
 |lst xs=>obtain⟨_,_,_,_,e⟩:=x;exact Heap.lt_size e
 |tup xs=>obtain⟨_,_,_,p⟩:=x;exact p.lt
 |dK kvs=>obtain⟨_,_,_,_,o,_,_,e,_⟩:=x;exact Heap.lt_size e
 |dT kvs=>obtain⟨_,_,_,_,o,_,_,e,_⟩:=x;exact Heap.lt_size e
 |set S n=>obtain⟨o,_,_,_,e,_⟩:=x;exact Heap.lt_size e
 |ins C dx fs=>obtain⟨_,_,_,e,_⟩:=x;exact Heap.lt_size e
 |own y=>obtain⟨_,e⟩:=x;exact Heap.lt_size e
 |xd fs=>obtain⟨_,⟨_,_,_,e,_⟩,_⟩:=x;exact Heap.lt_size e
 |rng lo hi=>obtain⟨_,_,_,e⟩:=x;exact Heap.lt_size e
 |frz ob u=>obtain⟨e,_⟩:=x;exact Heap.lt_size e
 |tbl ps=>obtain⟨_,e,_⟩:=x;exact Heap.lt_size e
 |cod q=>obtain⟨_,_,_,_,e0,e,_⟩:=x;cases e0;exact Heap.lt_size e
 |cel v=>obtain⟨_,_,_,e,_⟩:=x;exact Heap.lt_size e
 |fnc fd=>obtain⟨_,_,_,e⟩:=x;exact Heap.lt_size e
 |met f y=>exact Heap.lt_size (show h.get? a=some _ from x)
 |ext φ=>obtain⟨_,⟨_,e⟩,_⟩:=x;exact Heap.lt_size e
theorem Paired.mapP{α β:Type}{F G:α→β→Prop}:∀{l₁:List α} {l₂:List β},Paired F l₁ l₂→(∀a b,F a b→G a b)→Paired G l₁ l₂
 |_,_,.nil,_=>.nil
 |_,_,.cons r t,f=>.cons (f _ _ r) (Paired.mapP t f)
theorem ObjOk.stay(x:ObjOk P w H h a o)(k:∀b u,(b=a∨H b=some (.own a))→h.get? b=some u→h'.get? b=some u)
  (ho:∀b,H b=some (.own a)→H' b=some (.own a)) (ht:∀b (xs:FxO),H b=some xs.ho→H' b=some xs.ho):ObjOk P w H' h' a o:=by
 induction o with
 |lst xs=>obtain⟨z,its,n,r,e⟩:=x;exact⟨z,its,n,r,k _ _ (.inl rfl) e⟩
 |tup xs=>obtain⟨z,its,r,ob,e,c⟩:=x;exact⟨z,its,r,ob,k _ _ (.inl rfl) e,c⟩
 |dK kvs=>obtain⟨z,y,vs,r,ob,es,ep,e,c⟩:=x;exact⟨z,y,vs,r,ob,es,ep,k _ _ (.inl rfl) e,c⟩
 |dT kvs =>
  obtain⟨z,y,xs,r,ob,es,ep,e,c⟩:=x
  exact⟨z,y,xs,Paired.mapP r fun p q z=>⟨z.1,ht _ (.tup _) z.2.1,z.2.2⟩,ob,es,ep,k _ _ (.inl rfl) e,c⟩
 |set S n=>obtain⟨ob,es,ep,t,e,c⟩:=x;exact⟨ob,es,ep,t,k _ _ (.inl rfl) e,c⟩
 |ins C dx fs =>
  obtain⟨d,z,ne,e,mA,⟨od,es,ep,e2,c⟩,r⟩:=x
  exact⟨ho _ d,z,ne,k _ _ (.inl rfl) e,mA,⟨od,es,ep,k _ _ (.inr d) e2,c⟩,r⟩
 |own y=>obtain⟨ob,e⟩:=x;exact⟨ob,k _ _ (.inl rfl) e⟩
 |xd fs=>obtain⟨mA,⟨od,es,ep,e,c⟩,r⟩:=x;exact⟨mA,⟨od,es,ep,k _ _ (.inl rfl) e,c⟩,r⟩
 |rng lo hi=>obtain⟨t,u,v,e⟩:=x;exact⟨t,u,v,k _ _ (.inl rfl) e⟩
 |frz ob u ih=>obtain⟨e,q⟩:=x;exact⟨k _ _ (.inl rfl) e,ih q⟩
 |tbl ps =>
  obtain⟨tb,e,tr,q⟩:=x
  exact⟨tb,k a _ (.inl rfl) e,tr,fun p z hz cv hc=>let ⟨c,e1,e2⟩:=q p z hz cv hc;⟨c,e1,ht c (.cod z) e2⟩⟩
 |cod q=>obtain⟨c,ob,vs,t,e0,e,r⟩:=x;cases e0;exact⟨_,ob,vs,t,rfl,k _ _ (.inl rfl) e,r⟩
 |cel v=>obtain⟨u,r,ob,e,d⟩:=x;exact⟨u,r,ob,k _ _ (.inl rfl) e,d⟩
 |fnc fd=>obtain⟨oc,od,sl,e⟩:=x;exact⟨oc,od,sl,k _ _ (.inl rfl) e⟩
 |met f y =>
  have e:h.get? a=some (PySem.W.methodObj (.ref f) (.ref y)):=x
  show h'.get? a=some (PySem.W.methodObj (.ref f) (.ref y))
  exact k a _ (.inl rfl) e
 |ext φ=>obtain⟨p,⟨o,e⟩,st⟩:=x;exact⟨st _ _ p fun o q=>k _ _ (.inl rfl) q,⟨o,k _ _ (.inl rfl) e⟩,st⟩
theorem HOk.lt(x:HOk P w H h)(e:H a=some o):a < h.objs.size:=(x a o e).lt
theorem HOk.fresh(x:HOk P w H h)(e:h.objs.size≤a):H a=none:=by
 cases q:H a with
 |none=>rfl
 |some u=>exact absurd (Nat.lt_of_lt_of_le (x.lt q) e) (Nat.lt_irrefl _)
theorem HOk.kept(x:HOk P w H h)(k:∀b u,h.get? b=some u→h'.get? b=some u):HOk P w H h':=fun a o e =>
 (x a o e).stay (fun b u _ q=>k b u q) (fun _ q=>q) fun _ _ q=>q
theorem HOk.laid(x:HOk P w H h)(k:∀b u,h.get? b=some u→h'.get? b=some u)(hp:h.objs.size≤a)(new:ObjOk P w (upd H a o) h' a o):HOk P w (upd H a o) h':=fun b u e=>by
 have hn:=x.fresh hp
 by_cases hb:b=a
 ·subst hb;rw [upd_same] at e;cases e;exact new
 ·rw [upd_ne hb] at e
  exact(x b u e).stay (fun c v _ q=>k c v q) (fun c q=>by rw [upd_ne (ne_of_none q hn)];exact q) fun c xs q=>by rw [upd_ne (ne_of_none q hn)];exact q
end
def Rd(H:Hp)(a:Addr)(u:HO):Prop:=H a=some u∨∃o,H a=some (.frz o u)
theorem Rd.ok{P:Program}{w:World}{H:Hp}{h:Heap}{a:Addr}{u:HO}(r:Rd H a u)(x:HOk P w H h):ObjOk P w H h a u:=by
 rcases r with r|⟨o,r⟩
 ·exact x a u r
 ·obtain⟨_,q⟩:=x a _ r
  exact q
def Mut:Option HO→Prop
 |some (.lst _)=>True
 |some (.dK _)=>True
 |some (.dT _)=>True
 |some (.set _ _)=>True
 |some (.ins _ _ _)=>True
 |some (.ext _)=>True
 |_=>False
section
variable{P:Program}{w:World}{H:Hp}{h h':Heap}{x e:Addr}{o':HO}
theorem HOk.write(ok:HOk P w H h)(mu:Mut (H x))(he:e=x∨H e=some (.own x))(k:∀b u,b≠e→h.get? b=some u→h'.get? b=some u)(heo:∃u,h'.get? e=some u)
  (new:ObjOk P w (upd H x o') h' x o'):HOk P w (upd H x o') h':=fun b u q=>by
 have nown:∀c y,H c=some (.own y)→c≠x:=fun c y r z=>by subst z;rw [r] at mu;exact mu
 have ntup:∀c (xs:FxO),H c=some xs.ho→c≠x:=fun c xs r z=>by subst z;rw [r] at mu;cases xs<;>exact mu
 by_cases hb:b=x
 ·subst hb;rw [upd_same] at q;cases q;exact new
 ·rw [upd_ne hb] at q
  by_cases hbe:b=e
  ·have q':H b=some (.own x):=by
    rcases he with z|z
    ·exact absurd (hbe.trans z) hb
    ·rw [hbe];exact z
   rw [q] at q';cases q'
   obtain⟨v,hv⟩:=heo
   exact⟨v,by rw [hbe];exact hv⟩
  ·refine(ok b u q).stay (fun c v hc r=>k c v ?_ r) (fun c r=>by rw [upd_ne (nown c b r)];exact r) fun c xs r=>by rw [upd_ne (ntup c xs r)];exact r
   rcases hc with rfl|hc
   ·exact hbe
   ·rintro rfl
    rcases he with z|z
    ·exact nown c b hc z
    ·rw [hc] at z;cases z;exact hb rfl
end
structure Un(fs ex:List Addr)(H H':Hp)(h h':Heap):Prop where
 keep:∀b o,h.get? b=some o→H b=none→b∉fs→b∉ex→h'.get? b=some o
 slot:∀b o,h.get? b=some o→H b=none→b∈fs→b∉ex→∃sl,h'.get? b=some { o with slots:=sl }
 free:∀b o,h.get? b=some o→H b=none→b∉ex→H' b=none
 there:∀b o,h.get? b=some o→b∉ex→∃o',h'.get? b=some o'
 tups:∀b xs,H b=some (.tup xs)→H' b=some (.tup xs)
 frzs:∀b o u,H b=some (.frz o u)→H' b=some (.frz o u)
 tbls:∀b ps,H b=some (.tbl ps)→∃more,H' b=some (.tbl (ps++more))
section
variable{fs fs' ex ex':List Addr}{H H1 H2:Hp}{h h1 h2 h':Heap}{a x e:Addr}{o:HO}
theorem Un.any(u:Un fs ex H H1 h h1){b:Addr}{ob:Obj}(q:h.get? b=some ob)(n:H b=none)(hx:b∉ex):∃sl,h1.get? b=some { ob with slots:=sl }:=by
 by_cases hb:b∈fs
 ·exact u.slot b ob q n hb hx
 ·exact⟨ob.slots,u.keep b ob q n hb hx⟩
theorem Un.kept(k:∀b u,h.get? b=some u→h'.get? b=some u):Un fs ex H H h h' :=
 ⟨fun b ob q _ _ _=>k b ob q,fun b ob q _ _ _=>⟨ob.slots,k b ob q⟩,fun _ _ _ n _=>n,fun b ob q _=>⟨ob,k b ob q⟩,fun _ _ q=>q,fun _ _ _ q=>q,fun _ ps q=>⟨#[],by rw [q];simp⟩⟩
theorem Un.refl:Un fs ex H H h h:=Un.kept fun _ _ q=>q
theorem Un.laid(k:∀b u,h.get? b=some u→h'.get? b=some u)(hp:h.objs.size≤a)(hn:H a=none):Un fs ex H (upd H a o) h h' where
 keep:=fun b u q _ _ _=>k b u q
 slot:=fun b u q _ _ _=>⟨u.slots,k b u q⟩
 free:=fun b u q n _=>by rw [upd_ne (Nat.ne_of_lt (Nat.lt_of_lt_of_le (Heap.lt_size q) hp))];exact n
 there:=fun b u q _=>⟨u,k b u q⟩
 tups:=fun b xs q=>by rw [upd_ne (ne_of_none q hn)];exact q
 frzs:=fun b u xs q=>by rw [upd_ne (ne_of_none q hn)];exact q
 tbls:=fun b ps q=>⟨#[],by rw [upd_ne (ne_of_none q hn),q];simp⟩
theorem Un.write(mu:Mut (H x))(he:e=x∨H e=some (.own x))(k:∀b u,b≠e→h.get? b=some u→h'.get? b=some u)(heo:∃u,h'.get? e=some u):Un fs ex H (upd H x o) h h':=by
 have hx:∀b,H b=none→b≠x:=fun b n z=>by subst z;rw [n] at mu;exact mu
 have hb:∀b,H b=none→b≠e:=fun b n z=>by
  subst z
  rcases he with r|r
  ·exact hx b n r
  ·rw [n] at r;cases r
 have hm:∀b u,H b=some u→¬Mut (some u)→b≠x:=fun b u q nm z=>by subst z;rw [q] at mu;exact nm mu
 refine⟨fun b u q n _ _=>k b u (hb b n) q,fun b u q n _ _=>⟨u.slots,k b u (hb b n) q⟩,fun b u q n _=>by rw [upd_ne (hx b n)];exact n,fun b u q _=>?_,
  fun b xs q=>by rw [upd_ne (hm b _ q fun z=>z)];exact q,fun b u xs q=>by rw [upd_ne (hm b _ q fun z=>z)];exact q,fun b ps q=>⟨#[],by rw [upd_ne (hm b _ q fun z=>z),q];simp⟩⟩
 by_cases hbe:b=e
 ·subst hbe;exact heo
 ·exact⟨u,k b u hbe q⟩
end
def trk(h:Heap)(H:Hp):List Addr:=(List.range h.objs.size).filter fun a=>(H a).isSome
def hidT(h:Heap)(H:Hp):Heap:=PySem.W.hideAll h (trk h H)
theorem hidT_size(h:Heap)(H:Hp):(hidT h H).objs.size=h.objs.size:=PySem.W.hideAll_size _ _
theorem hidT_get{h:Heap}{H:Hp}{b:Addr}{o:Obj}(e:h.get? b=some o)(n:H b=none):(hidT h H).get? b=some o :=
 PySem.W.hideAll_get _ e fun hm=>by
  have q:(H b).isSome=true:=(List.mem_filter.mp hm).2
  rw [n] at q;simp at q
theorem of_hidT{h:Heap}{H:Hp}{b:Addr}{o:Obj}(e:(hidT h H).get? b=some o):h.get? b=some o∧H b=none:=by
 have e':h.get? b=some o:=PySem.W.of_hideAll (trk h H) e
 refine⟨e',?_⟩
 cases q:H b with
 |none=>rfl
 |some x =>
  have hm:b∈trk h H:=List.mem_filter.mpr ⟨List.mem_range.mpr (Heap.lt_size e'),by simp [q]⟩
  have z:(hidT h H).get? b=none:=PySem.W.hideAll_none (trk h H) hm
  rw [z] at e;cases e
def allNews(g h:Heap)(L:Addr):List (Addr × Obj):=(List.range h.objs.size).filterMap fun a=>if a=L∨(g.get? a).isSome=true then none else (h.get? a).map fun o=>(a,o)
def rest(g h:Heap)(L d:Addr):List (Addr × Obj):=(allNews g h L).filter fun p=>decide (p.1≠d)
end L2
namespace L2
open PySem PySem.Spec PyProof.Rows
structure Mod(K:PySem.W.Frag)(mg:Str→Option Value)(base:Heap):Prop where
 kin:K.In base
 glob:base.Ns mainGlobals mg
 blt:∃mb,base.Ns builtinsNs mb∧∀x:Str,x≠"__name__"→mb x=bootBuiltins x
 nolimit:base.NoLimit
 bmn:∃bm ob,mg "__builtins__"=some (.ref bm)∧bm≠builtinsNs∧base.get? bm=some ob∧ob.cls=.type "module"∧ob.dict=some builtinsNs∧ob.data=.plain
structure Cx where
 prog:Program
 w:World
 K:PySem.W.Frag
 mg:Str→Option Value
 base:Heap
 A:Around
 N:List Str
 s₀:Shared
 H₀:Hp
 env:Env
 outer:List Env
 stack:List Env
 ex:List Addr
 fn:Str→Bool
 calm:Bool
 pn:List (Addr × Obj)
 xe:Value→Shared→Prop
def frs(l:List Env):List Addr:=l.filterMap (·.frame)
abbrev Cx.fs(X:Cx):List Addr:=frs X.outer
def Vis(sc:Scope)(x:Str):Prop:=sc.names.lookup x=some .local∨sc.names.lookup x=some .cell∨sc.names.lookup x=some .free
def Loc(sc:Scope)(x:Str):Prop:=sc.names.lookup x=some .local∨sc.names.lookup x=some .cell
def Look(env:Env)(h:Heap)(m:Str→Option Value)(x:Str)(u:Value):Prop :=
 (env.kindOf x=some .local∧m x=some u)∨((env.kindOf x=some .cell∨env.kindOf x=some .free)∧∃c,env.cells.lookup x=some c∧h.IsCell c (some u))
structure Cx.Ok(X:Cx):Prop where
 mod:Mod X.K X.mg X.base
 kind:X.env.scope.kind=.function
 glob:X.env.globals=mainGlobals
 blt:X.env.builtins=builtinsNs
 above:X.s₀.heap.objs.size≤X.env.locals
 inj:∀x y c,X.env.cells.lookup x=some c→X.env.cells.lookup y=some c→x=y
 has:∀x,(X.env.kindOf x=some .cell∨X.env.kindOf x=some .free)→∃c,X.env.cells.lookup x=some c
 cab:∀x c,X.fn x=true→X.env.cells.lookup x=some c→X.s₀.heap.objs.size≤c
 hd:X.calm=true→X.A.handled=none
 frames:X.A.frames=some X.stack
 stk:X.stack=X.outer∨(X.stack=X.env::X.outer∧X.env.frame=some X.env.locals)
 exf:∀b∈X.ex,b≠X.env.locals∧∀x c,X.env.cells.lookup x=some c→c≠b
 bs:∀b o,X.base.get? b=some o→X.s₀.heap.get? b=some o∧X.H₀ b=none
 bsz:X.base.objs.size≤X.s₀.heap.objs.size
 noex:∀b o,X.base.get? b=some o→b∉X.ex
 exfs:∀b∈X.ex,b∉X.fs
 funs:X.s₀.heap.FunFrames X.base X.outer
 frf:∀b∈X.fs,X.H₀ b=none
structure Inv(X:Cx)(pins:List (Addr × Obj))(σ:List (Option V))(H:Hp)(s:Shared):Prop where
 ok:X.Ok
 os:s.os=X.s₀.os
 bare:AllBare s.gens
 base:Un X.fs X.ex X.H₀ H X.s₀.heap s.heap
 loc:∃m,s.heap.Ns X.env.locals m∧∀(i:Nat) (x:Str) (v:V),X.N[i]?=some x→σ[i]?=some (some v)→Vis X.env.scope x→∃u,RelV v u∧Look X.env s.heap m x u
 cell:∀x c,X.env.cells.lookup x=some c→∃v,s.heap.IsCell c v
 free:H X.env.locals=none
 freeC:∀x c,X.env.cells.lookup x=some c→H c=none
 pin:∀p∈X.pn++pins,s.heap.get? p.1=some p.2∧H p.1=none∧p.1≠X.env.locals∧p.1∉X.fs∧∀v,p.2.data≠.cell v
 hok:HOk X.prog X.w H s.heap
 len:σ.length=X.N.length
section
variable{X:Cx}{pins:List (Addr × Obj)}{σ:List (Option V)}{H H':Hp}{s:Shared}{h':Heap}
theorem Cx.Ok.nofr(ok:X.Ok){b:Addr}{o:Obj}(e:X.base.get? b=some o):b∉X.fs:=fun hb=>by
 have:=(ok.funs.mem hb).1
 rw [e] at this;cases this
theorem Inv.bs(I:Inv X pins σ H s):∀b o,X.base.get? b=some o→s.heap.get? b=some o∧H b=none:=fun b o e =>
 ⟨I.base.keep b o (I.ok.bs b o e).1 (I.ok.bs b o e).2 (I.ok.nofr e) (I.ok.noex b o e),I.base.free b o (I.ok.bs b o e).1 (I.ok.bs b o e).2 (I.ok.noex b o e)⟩
theorem Inv.bk(I:Inv X pins σ H s):∀b o,X.base.get? b=some o→s.heap.get? b=some o:=fun b o e=>(I.bs b o e).1
theorem Inv.mod(I:Inv X pins σ H s):Mod X.K X.mg X.base:=I.ok.mod
theorem Inv.kIn(I:Inv X pins σ H s):X.K.In s.heap:=I.ok.mod.kin.keeps I.bk
theorem Inv.lt(I:Inv X pins σ H s):X.env.locals < s.heap.objs.size:=let ⟨_,hn,_⟩:=I.loc;hn.lt
theorem Inv.sz(I:Inv X pins σ H s):X.s₀.heap.objs.size≤s.heap.objs.size:=Nat.le_trans I.ok.above (Nat.le_of_lt I.lt)
theorem Inv.nofs(I:Inv X pins σ H s){a:Addr}(h:s.heap.objs.size≤a):a∉X.fs:=fun hb=>by
 obtain⟨_,o,ho,_⟩:=I.ok.funs.mem hb
 exact absurd (Nat.lt_of_lt_of_le (Heap.lt_size ho) (Nat.le_trans I.sz h)) (Nat.lt_irrefl _)
theorem Inv.cne(I:Inv X pins σ H s):∀x c,X.env.cells.lookup x=some c→c≠X.env.locals:=fun x c e z=>by
 obtain⟨v,o,ho,hd⟩:=I.cell x c e
 obtain⟨m,⟨o',es,ep,ho',hd',_⟩,_⟩:=I.loc
 rw [z,ho'] at ho;cases ho;rw [hd'] at hd;cases hd
theorem Inv.funs(I:Inv X pins σ H s):s.heap.FunFrames X.base X.outer:=by
 have all:∀(l:List Env),(∀b∈frs l,b∈X.fs)→X.s₀.heap.FunFrames X.base l→s.heap.FunFrames X.base l:=by
  intro l
  induction l with
  |nil=>intro _ _;trivial
  |cons env r ih =>
   intro hs hl
   obtain⟨hk,⟨L,o,hf,hn,ho,hd⟩,hr⟩:=hl
   have hL:L∈X.fs:=hs L (by unfold frs;rw [List.filterMap_cons,hf];exact List.mem_cons_self)
   obtain⟨sl,e⟩:=I.base.slot L o ho (I.ok.frf L hL) hL fun z=>I.ok.exfs L z hL
   exact⟨hk,⟨L,_,hf,hn,e,hd⟩,ih (fun b hb=>hs b (by unfold frs;rw [List.filterMap_cons,hf];exact List.mem_cons_of_mem _ hb)) hr⟩
 exact all X.outer (fun _ hb=>hb) I.ok.funs
theorem Inv.stack(I:Inv X pins σ H s):s.heap.FunFrames X.base X.stack:=by
 rcases I.ok.stk with e|⟨e,hf⟩
 ·rw [e];exact I.funs
 ·rw [e]
  obtain⟨m,hn,_⟩:=I.loc
  refine .cons (by rw [I.ok.kind];decide) hf hn ?_ I.funs
  exact Heap.get?_none_of_le (Nat.le_trans I.ok.bsz I.ok.above)
theorem Inv.stkSub(I:Inv X pins σ H s):∀b∈frs X.stack,b∈X.env.locals::X.fs:=fun b hb=>by
 rcases I.ok.stk with e|⟨e,hf⟩
 ·rw [e] at hb;exact List.mem_cons_of_mem _ hb
 ·rw [e] at hb
  unfold frs at hb
  rw [List.filterMap_cons,hf] at hb
  exact hb
theorem Inv.stkFree(I:Inv X pins σ H s):∀b∈frs X.stack,H b=none:=fun b hb=>by
 rcases List.mem_cons.mp (I.stkSub b hb) with e|hb
 ·rw [e];exact I.free
 ·obtain⟨_,o,ho,_⟩:=I.ok.funs.mem hb
  exact I.base.free b o ho (I.ok.frf b hb) fun z=>I.ok.exfs b z hb
theorem Inv.step{g':Array GenState}{t':Nat}{d':Drawn}{ch:List Addr}(I:Inv X pins σ H s)
  (hch:∀b∈ch,(b∈X.ex∨X.s₀.heap.objs.size≤b)∧b≠X.env.locals∧(∀x c,X.env.cells.lookup x=some c→c≠b)∧∀p∈X.pn++pins,p.1≠b)
  (keep:∀b o,b≠X.env.locals→b∉X.fs→b∉ch→s.heap.get? b=some o→H b=none→h'.get? b=some o)
  (slot:∀b o,b≠X.env.locals→b∈X.fs→b∉ch→s.heap.get? b=some o→H b=none→∃sl,h'.get? b=some { o with slots:=sl }) (free:∀b o,b∉ch→s.heap.get? b=some o→H b=none→H' b=none)
  (there:∀b o,b∉ch→s.heap.get? b=some o→∃o',h'.get? b=some o')
  (tups:∀b xs,H b=some (.tup xs)→H' b=some (.tup xs)) (frzs:∀b o u,H b=some (.frz o u)→H' b=some (.frz o u)) (tbls:∀b ps,H b=some (.tbl ps)→∃more,H' b=some (.tbl (ps++more)))
  (ns:∀m,s.heap.Ns X.env.locals m→h'.Ns X.env.locals m) (hok:HOk X.prog X.w H' h') (hg:AllBare g') :
  Inv X pins σ H' { s with heap:=h',gens:=g',drawn:=d',toks:=t' }:=by
 have neL:∀b o,X.s₀.heap.get? b=some o→b≠X.env.locals:=fun b o e=>Nat.ne_of_lt (Nat.lt_of_lt_of_le (Heap.lt_size e) I.ok.above)
 have neC:∀b o,X.s₀.heap.get? b=some o→b∉X.ex→b∉ch:=fun b o e hx hb=>by
  rcases (hch b hb).1 with z|z
  ·exact hx z
  ·exact absurd (Nat.lt_of_lt_of_le (Heap.lt_size e) z) (Nat.lt_irrefl _)
 have cellK:∀x c,X.env.cells.lookup x=some c→∀v,s.heap.IsCell c v→h'.IsCell c v:=fun x c e v ⟨o,ho,hd⟩=>by
  have nch:c∉ch:=fun z=>(hch c z).2.2.1 x c e rfl
  by_cases hc:c∈X.fs
  ·obtain⟨sl,q⟩:=slot c o (I.cne x c e) hc nch ho (I.freeC x c e)
   exact⟨_,q,hd⟩
  ·exact⟨o,keep c o (I.cne x c e) hc nch ho (I.freeC x c e),hd⟩
 refine⟨I.ok,I.os,hg,⟨fun b o e n hb hx=>?_,fun b o e n hb hx=>?_,fun b o e n hx=>?_,fun b o e hx=>?_,fun b xs e=>tups b xs (I.base.tups b xs e),fun b o xs e=>frzs b o xs (I.base.frzs b o xs e),fun b ps e=>?_⟩,?_,fun x c e=>?_,?_,fun x c e=>?_,fun p hp=>?_,hok,I.len⟩
 ·exact keep b o (neL b o e) hb (neC b o e hx) (I.base.keep b o e n hb hx) (I.base.free b o e n hx)
 ·obtain⟨sl,e1⟩:=I.base.slot b o e n hb hx
  obtain⟨sl',e2⟩:=slot b _ (neL b o e) hb (neC b o e hx) e1 (I.base.free b o e n hx)
  exact⟨sl',e2⟩
 ·obtain⟨o',e1⟩:=I.base.there b o e hx
  exact free b o' (neC b o e hx) e1 (I.base.free b o e n hx)
 ·obtain⟨o',e1⟩:=I.base.there b o e hx
  exact there b o' (neC b o e hx) e1
 ·obtain⟨m1,e1⟩:=I.base.tbls b ps e
  obtain⟨m2,e2⟩:=tbls b _ e1
  exact⟨m1++m2,by rw [e2,Array.append_assoc]⟩
 ·obtain⟨m,hn,hl⟩:=I.loc
  refine⟨m,ns m hn,fun i x v e1 e2 e3=>?_⟩
  obtain⟨u,r,l⟩:=hl i x v e1 e2 e3
  refine⟨u,r,?_⟩
  rcases l with l|⟨k,c,e,z⟩
  ·exact .inl l
  ·exact .inr ⟨k,c,e,cellK x c e _ z⟩
 ·obtain⟨v,z⟩:=I.cell x c e
  exact⟨v,cellK x c e v z⟩
 ·obtain⟨m,⟨o,_,_,ho,_⟩,_⟩:=I.loc
  exact free _ o (fun z=>(hch _ z).2.1 rfl) ho I.free
 ·obtain⟨v,o,ho,hd⟩:=I.cell x c e
  exact free c o (fun z=>(hch c z).2.2.1 x c e rfl) ho (I.freeC x c e)
 ·obtain⟨e,n,ne,nf,d⟩:=I.pin p hp
  have nch:p.1∉ch:=fun z=>(hch p.1 z).2.2.2 p hp rfl
  exact⟨keep p.1 p.2 ne nf nch e n,free p.1 p.2 nch e n,ne,nf,d⟩
theorem Inv.un{t':Nat}(I:Inv X pins σ H s)(u:Un X.fs [] H H' s.heap h')(hok:HOk X.prog X.w H' h'):Inv X pins σ H' { s with heap:=h',toks:=t' }:=by
 obtain⟨m,⟨o,es,ep,ho,r⟩,_⟩:=id I.loc
 obtain⟨sl,hL⟩:=u.any ho I.free (by simp)
 exact I.step (g':=s.gens) (d':=s.drawn) (ch:=[]) (fun _ z=>nomatch z) (fun b o _ hb _ e n=>u.keep b o e n hb (by simp)) (fun b o _ hb _ e n=>u.slot b o e n hb (by simp)) (fun b o _ e n=>u.free b o e n (by simp)) (fun b o _ e=>u.there b o e (by simp)) u.tups u.frzs u.tbls (fun m' hm=>by
  obtain⟨o',es',ep',ho',r'⟩:=hm
  rw [ho] at ho';cases ho'
  exact⟨_,es',ep',hL,r'⟩) hok I.bare
theorem Inv.call{g':Array GenState}{t':Nat}{d':Drawn}{ch:List Addr}(I:Inv X pins σ H s)(u:Un (frs X.stack) ch H H' s.heap h')(hok:HOk X.prog X.w H' h')(hg:AllBare g')
  (hch:∀b∈ch,(b∈X.ex∨X.s₀.heap.objs.size≤b)∧b≠X.env.locals∧(∀x c,X.env.cells.lookup x=some c→c≠b)∧∀p∈X.pn++pins,p.1≠b) :
  Inv X pins σ H' { s with heap:=h',gens:=g',drawn:=d',toks:=t' }:=by
 obtain⟨m,⟨o,es,ep,ho,r⟩,_⟩:=id I.loc
 obtain⟨sl,hL⟩:=u.any ho I.free fun z=>(hch _ z).2.1 rfl
 exact I.step (ch:=ch) hch (fun b o hL hb hc e n=>u.keep b o e n (fun z=>(List.mem_cons.mp (I.stkSub b z)).elim hL hb) hc) (fun b o _ _ hc e n=>u.any e n hc) (fun b o hc e n=>u.free b o e n hc) (fun b o hc e=>u.there b o e hc) u.tups u.frzs u.tbls (fun m' hm=>by
  obtain⟨o',es',ep',ho',r'⟩:=hm
  rw [ho] at ho';cases ho'
  exact⟨_,es',ep',hL,r'⟩) hok hg
theorem Inv.turned{t':Nat}{it:Addr}(I:Inv X pins σ H s)(k:∀b o,b≠it→s.heap.get? b=some o→h'.get? b=some o)(hn:H it=none)(hL:it≠X.env.locals)
  (h1:it∈X.ex∨X.s₀.heap.objs.size≤it) (h2:∀x c,X.env.cells.lookup x=some c→c≠it) (h3:∀p∈X.pn++pins,p.1≠it):Inv X pins σ H { s with heap:=h',toks:=t' }:=by
 have nit:∀b u,H b=some u→b≠it:=fun b u e z=>by rw [z,hn] at e;cases e
 refine I.step (g':=s.gens) (d':=s.drawn) (ch:=[it]) (fun b hb=>?_) (fun b o _ _ hc e _=>k b o (fun z=>hc (by simp [z])) e) (fun b o _ _ hc e _=>⟨o.slots,k b o (fun z=>hc (by simp [z])) e⟩) (fun _ _ _ _ n=>n)
  (fun b o hc e=>⟨o,k b o (fun z=>hc (by simp [z])) e⟩) (fun _ _ e=>e) (fun _ _ _ e=>e) (fun b ps e=>⟨#[],by rw [e];simp⟩) (fun m hm=>?_) (fun b u e=>?_) I.bare
 ·have e:b=it:=by simpa using hb
  subst e
  exact⟨h1,hL,h2,h3⟩
 ·obtain⟨o,es,ep,ho,r⟩:=hm
  exact⟨o,es,ep,k _ o (Ne.symm hL) ho,r⟩
 ·refine(I.hok b u e).stay (fun c v hc q=>k c v ?_ q) (fun _ q=>q) fun _ _ q=>q
  rcases hc with z|z
  ·rw [z];exact nit b u e
  ·exact nit c _ z
theorem Inv.tok(I:Inv X pins σ H s)(t:Nat):Inv X pins σ H { s with toks:=t }:=I.un (h':=s.heap) (t':=t) Un.refl I.hok
theorem Inv.kept{t':Nat}(I:Inv X pins σ H s)(k:∀b u,s.heap.get? b=some u→h'.get? b=some u):Inv X pins σ H { s with heap:=h',toks:=t' }:=I.un (Un.kept k) (I.hok.kept k)
theorem Inv.laid{a:Addr}{o:HO}{t':Nat}(I:Inv X pins σ H s)(k:∀b u,s.heap.get? b=some u→h'.get? b=some u)(hp:s.heap.objs.size≤a)(new:ObjOk X.prog X.w (upd H a o) h' a o) :
  Inv X pins σ (upd H a o) { s with heap:=h',toks:=t' }:=I.un (Un.laid k hp (I.hok.fresh hp)) (I.hok.laid k hp new)
theorem Inv.write{x e:Addr}{o:HO}{t':Nat}(I:Inv X pins σ H s)(mu:Mut (H x))(he:e=x∨H e=some (.own x))(k:∀b u,b≠e→s.heap.get? b=some u→h'.get? b=some u)(heo:∃u,h'.get? e=some u)
  (new:ObjOk X.prog X.w (upd H x o) h' x o):Inv X pins σ (upd H x o) { s with heap:=h',toks:=t' }:=I.un (Un.write mu he k heo) (I.hok.write mu he k heo new)
theorem Inv.weak{σ':List (Option V)}(I:Inv X pins σ H s)(hl:σ'.length=σ.length)(w:∀(i:Nat) v,σ'[i]?=some (some v)→σ[i]?=some (some v)):Inv X pins σ' H s :=
 ⟨I.ok,I.os,I.bare,I.base,let ⟨m,hn,hl'⟩:=I.loc;⟨m,hn,fun i x v e1 e2 e3=>hl' i x v e1 (w i v e2) e3⟩,I.cell,I.free,I.freeC,I.pin,I.hok,hl.trans I.len⟩
theorem Inv.pins_of{pins':List (Addr × Obj)}(I:Inv X pins σ H s)(h:∀p∈pins',s.heap.get? p.1=some p.2∧H p.1=none∧p.1≠X.env.locals∧p.1∉X.fs∧∀v,p.2.data≠.cell v):Inv X pins' σ H s :=
 ⟨I.ok,I.os,I.bare,I.base,I.loc,I.cell,I.free,I.freeC,fun p hp=>(List.mem_append.mp hp).elim (fun z=>I.pin p (List.mem_append_left _ z)) (h p),I.hok,I.len⟩
theorem nodup_ix{N:List Str}(hN:N.Nodup){i j:Nat}{x:Str}(a:N[i]?=some x)(b:N[j]?=some x):i=j:=by
 obtain⟨h1,e1⟩:=List.getElem?_eq_some_iff.mp a
 obtain⟨h2,e2⟩:=List.getElem?_eq_some_iff.mp b
 exact(List.getElem_inj hN).mp (e1.trans e2.symm)
theorem store_ok2{M:Model}{A:Around}{E:Value→Shared→Prop}{i:Nat}{x:Str}{v:V}{u:Value}{Q:Unit→Shared→Prop}(I:Inv X pins σ H s)(hN:X.N.Nodup)(hi:X.N[i]?=some x)(hx:Loc X.env.scope x)(r:RelV v u)
  (h:∀s',Inv X pins (σ.set i (some v)) H s'→(∃a,Heap.SameBut a s.heap s'.heap∧(a=X.env.locals∨X.env.cells.lookup x=some a))→Q () s') (hf:X.fn x=true∨X.env.scope.names.lookup x=some .local:=by first|exact .inl rfl|exact .inr rfl|assumption):wpAny M A (storeName X.env x u) Q E s:=by
 obtain⟨m,hn,hl⟩:=id I.loc
 have hcls:(X.env.scope.kind==.class||(X.env.scope.kind==.module&&X.env.locals != X.env.globals))=false:=by rw [I.ok.kind];rfl
 have hiσ:i < σ.length:=by rw [I.len];exact(List.getElem?_eq_some_iff.mp hi).1
 have cne:=I.cne
 have tracked:∀{a:Addr} {h':Heap},(∃o,s.heap.get? a=some o∧H a=none)→Heap.SameBut a s.heap h'→HOk X.prog X.w H h':=fun {a h'} ha hs b ob e=>by
  obtain⟨_,_,hfree⟩:=ha
  refine(I.hok b ob e).stay (fun c w' hc q=>(hs.2 c ?_).trans q) (fun _ q=>q) fun _ _ q=>q
  rintro rfl
  rcases hc with rfl|hc
  ·rw [hfree] at e;cases e
  ·rw [hfree] at hc;cases hc
 rcases hx with hk|hk
 ·refine wpAny_storeName_local hk hn (fun h' hn' hs=>?_) hcls
  obtain⟨oL,_,_,hoL,_⟩:=id hn
  refine h _ ⟨I.ok,I.os,I.bare,⟨fun b o e n hb hx=>?_,fun b o e n hb hx=>?_,I.base.free,fun b o e hx=>?_,I.base.tups,I.base.frzs,I.base.tbls⟩,⟨_,hn',fun j y v' e1 e2 e3=>?_⟩,fun y c e=>?_,I.free,I.freeC,fun p hp=>?_,tracked ⟨oL,hoL,I.free⟩ hs,by simpa using I.len⟩ ⟨_,hs,.inl rfl⟩
  ·exact(hs.2 b (Nat.ne_of_lt (Nat.lt_of_lt_of_le (Heap.lt_size e) I.ok.above))).trans (I.base.keep b o e n hb hx)
  ·obtain⟨sl,e1⟩:=I.base.slot b o e n hb hx
   exact⟨sl,(hs.2 b (Nat.ne_of_lt (Nat.lt_of_lt_of_le (Heap.lt_size e) I.ok.above))).trans e1⟩
  ·obtain⟨o',e1⟩:=I.base.there b o e hx
   exact⟨o',(hs.2 b (Nat.ne_of_lt (Nat.lt_of_lt_of_le (Heap.lt_size e) I.ok.above))).trans e1⟩
  ·by_cases hj:j=i
   ·subst hj
    rw [hi] at e1;cases e1
    rw [List.getElem?_set_self hiσ] at e2
    cases e2
    exact⟨u,r,.inl ⟨hk,by simp⟩⟩
   ·rw [List.getElem?_set_ne (Ne.symm hj)] at e2
    obtain⟨u',r',q⟩:=hl j y v' e1 e2 e3
    refine⟨u',r',?_⟩
    rcases q with ⟨k,e⟩|⟨k,c,e,z⟩
    ·refine .inl ⟨k,?_⟩
     have:y≠x:=fun e=>hj (nodup_ix hN e1 (e▸hi))
     simp [this,e]
    ·exact .inr ⟨k,c,e,z.sameBut hs (cne y c e)⟩
  ·obtain⟨w',z⟩:=I.cell y c e
   exact⟨w',z.sameBut hs (cne y c e)⟩
  ·obtain⟨e,n,ne,nf,d⟩:=I.pin p hp
   exact⟨(hs.2 p.1 ne).trans e,n,ne,nf,d⟩
 ·have hfn:X.fn x=true:=by
   rcases hf with z|z
   ·exact z
   ·rw [z] at hk;cases hk
  obtain⟨c,hc⟩:=I.ok.has x (.inl hk)
  obtain⟨w',z⟩:=I.cell x c hc
  refine wpAny_storeName_cell I.ok.kind hk hc z (fun h' hc' hs=>?_)
  obtain⟨oc,hoc,hocd⟩:=id z
  refine h { s with heap:=h' } ⟨I.ok,I.os,I.bare,⟨fun b o e n hb hx=>?_,fun b o e n hb hx=>?_,I.base.free,fun b o e hx=>?_,I.base.tups,I.base.frzs,I.base.tbls⟩,⟨m,hn.sameBut hs (Ne.symm (cne x c hc)),fun j y v' e1 e2 e3=>?_⟩,fun y c' e=>?_,I.free,I.freeC,fun p hp=>?_,tracked ⟨oc,hoc,I.freeC x c hc⟩ hs,by simpa using I.len⟩ ⟨c,hs,.inr hc⟩
  ·exact(hs.2 b (Nat.ne_of_lt (Nat.lt_of_lt_of_le (Heap.lt_size e) (I.ok.cab x c hfn hc)))).trans (I.base.keep b o e n hb hx)
  ·obtain⟨sl,e1⟩:=I.base.slot b o e n hb hx
   exact⟨sl,(hs.2 b (Nat.ne_of_lt (Nat.lt_of_lt_of_le (Heap.lt_size e) (I.ok.cab x c hfn hc)))).trans e1⟩
  ·obtain⟨o',e1⟩:=I.base.there b o e hx
   exact⟨o',(hs.2 b (Nat.ne_of_lt (Nat.lt_of_lt_of_le (Heap.lt_size e) (I.ok.cab x c hfn hc)))).trans e1⟩
  ·by_cases hj:j=i
   ·subst hj
    rw [hi] at e1;cases e1
    rw [List.getElem?_set_self hiσ] at e2
    cases e2
    exact⟨u,r,.inr ⟨.inl hk,c,hc,hc'⟩⟩
   ·rw [List.getElem?_set_ne (Ne.symm hj)] at e2
    obtain⟨u',r',q⟩:=hl j y v' e1 e2 e3
    refine⟨u',r',?_⟩
    rcases q with q|⟨k,c',e,z'⟩
    ·exact .inl q
    ·refine .inr ⟨k,c',e,z'.sameBut hs ?_⟩
     rintro rfl
     exact hj (nodup_ix hN e1 (I.ok.inj _ _ _ e hc▸hi))
  ·by_cases hcc:c'=c
   ·subst hcc;exact⟨_,hc'⟩
   ·obtain⟨w2,z2⟩:=I.cell y c' e
    exact⟨w2,z2.sameBut hs hcc⟩
  ·obtain⟨e,n,ne,nf,d⟩:=I.pin p hp
   refine⟨(hs.2 p.1 ?_).trans e,n,ne,nf,d⟩
   intro q
   rw [q,hoc] at e
   have q':oc=p.2:=Option.some.inj e
   exact d w' (by rw [←q'];exact hocd)
theorem store_ok{M:Model}{A:Around}{E:Value→Shared→Prop}{i:Nat}{x:Str}{v:V}{u:Value}{Q:Unit→Shared→Prop}(I:Inv X pins σ H s)(hN:X.N.Nodup)(hi:X.N[i]?=some x)(hx:Loc X.env.scope x)(r:RelV v u)
  (h:∀s',Inv X pins (σ.set i (some v)) H s'→Q () s') (hf:X.fn x=true∨X.env.scope.names.lookup x=some .local:=by first|exact .inl rfl|exact .inr rfl|assumption):wpAny M A (storeName X.env x u) Q E s :=
 store_ok2 I hN hi hx r (fun s' I' _=>h s' I') hf
theorem Inv.call'{s':Shared}{ch:List Addr}(I:Inv X pins σ H s)(ho:s'.os=s.os)(u:Un (frs X.stack) ch H H' s.heap s'.heap)(hok:HOk X.prog X.w H' s'.heap)(hg:AllBare s'.gens)
  (hch:∀b∈ch,(b∈X.ex∨X.s₀.heap.objs.size≤b)∧b≠X.env.locals∧(∀x c,X.env.cells.lookup x=some c→c≠b)∧∀p∈X.pn++pins,p.1≠b):Inv X pins σ H' s':=by
 obtain⟨h',g',d',t',o'⟩:=s'
 have e:o'=s.os:=ho
 subst e
 exact I.call (g':=g') (t':=t') (d':=d') u hok hg hch
end
abbrev XK:=Value→Option Addr→Hp→Prop
abbrev St:=List (Option V)
abbrev VK:=V→Hp→Prop
abbrev TE:=St→Hp→VK→Prop
abbrev TT:=St→Hp→(Bool→Hp→Prop)→Prop
abbrev TA:=St→Hp→(List V→Hp→Prop)→Prop
structure Ends where
 nx:St→Hp→Prop
 rt:VK
 bk:St→Hp→Prop:=fun _ _=>False
 ct:St→Hp→Prop:=fun _ _=>False
abbrev TS:=Ends→St→Hp→Prop
def EP(X:Cx)(pins:List (Addr × Obj))(σ:St)(Q:VK)(u:Value)(s':Shared):Prop:=∃v H',Inv X pins σ H' s'∧RelV v u∧Q v H'
def TP(X:Cx)(pins:List (Addr × Obj))(σ:St)(Q:Bool→Hp→Prop)(b:Bool)(s':Shared):Prop:=∃H',Inv X pins σ H' s'∧Q b H'
def AP(X:Cx)(pins:List (Addr × Obj))(σ:St)(Q:List V→Hp→Prop)(us:List Value)(s':Shared):Prop:=∃vs H',Inv X pins σ H' s'∧Vals vs us∧Q vs H'
def SP(X:Cx)(pins:List (Addr × Obj))(D:Ends)(f:Flow)(s':Shared):Prop :=
 match f with
 |.next=>∃σ' H',Inv X pins σ' H' s'∧D.nx σ' H'
 |.brk=>∃σ' H',Inv X pins σ' H' s'∧D.bk σ' H'
 |.cont=>∃σ' H',Inv X pins σ' H' s'∧D.ct σ' H'
 |.ret u=>∃v σ' H',Inv X pins σ' H' s'∧RelV v u∧D.rt v H'
def PE(X:Cx)(e:Expr)(t:TE):Prop :=
 ∀(pins:List (Addr × Obj)) (s:Shared) (σ:St) (H:Hp) (Q:VK),Inv X pins σ H s→t σ H Q→wpAny (model X.prog X.w) X.A (eval e X.env) (EP X pins σ Q) X.xe s
def PT(X:Cx)(e:Expr)(t:TT):Prop :=
 ∀(pins:List (Addr × Obj)) (s:Shared) (σ:St) (H:Hp) (Q:Bool→Hp→Prop),Inv X pins σ H s→t σ H Q→wpAny (model X.prog X.w) X.A (isTrue e X.env (eval e X.env)) (TP X pins σ Q) X.xe s
def PW(X:Cx)(e:Expr)(t:TT):Prop :=
 ∀(whole:Sem Value) (pins:List (Addr × Obj)) (s:Shared) (σ:St) (H:Hp) (Q:Bool→Hp→Prop),Inv X pins σ H s→t σ H Q→wpAny (model X.prog X.w) X.A (isTrue e X.env whole) (TP X pins σ Q) X.xe s
theorem PW.pt{X:Cx}{e:Expr}{t:TT}(h:PW X e t):PT X e t:=h _
def PA(X:Cx)(es:List Expr)(t:TA):Prop :=
 ∀(pos:Pos) (pins:List (Addr × Obj)) (s:Shared) (σ:St) (H:Hp) (Q:List V→Hp→Prop),Inv X pins σ H s→t σ H Q→wpAny (model X.prog X.w) X.A (spliced (backTo pos (starEach es X.env))) (AP X pins σ Q) X.xe s
def PS(X:Cx)(st:Stmt)(t:TS):Prop :=
 ∀(pins:List (Addr × Obj)) (s:Shared) (σ:St) (H:Hp) (D:Ends),Inv X pins σ H s→t D σ H→wpAny (model X.prog X.w) X.A (exec st X.env) (SP X pins D) X.xe s
def PSs(X:Cx)(st:List Stmt)(t:TS):Prop :=
 ∀(pins:List (Addr × Obj)) (s:Shared) (σ:St) (H:Hp) (D:Ends),Inv X pins σ H s→t D σ H→wpAny (model X.prog X.w) X.A (execs st X.env) (SP X pins D) X.xe s
theorem thn{α:Type}{t:Sem α}{Q Q':α→Shared→Prop}{M:Model}{A:Around}{E:Value→Shared→Prop}{s:Shared}(h:wpAny M A t Q E s)(hQ:∀a s,Q a s→Q' a s):wpAny M A t Q' E s:=wpAny_mono h hQ fun _ _ x=>x
end L2
namespace L2
open PySem PySem.Spec PyProof.Rows
section
variable{X:Cx}
inductive Wi (i:Nat) (σ:St) (H:Hp) (Q:VK):Prop
 |mk (v:V) (h:σ[i]?=some (some v)) (q:Q v H)
def tVar(i:Nat):TE:=fun σ H Q=>Wi i σ H Q
def tC(v:V):TE:=fun _ H Q=>Q v H
theorem pe_var{i:Nat}{x:Str}{pos:Pos}(hN:X.N[i]?=some x)(hv:Vis X.env.scope x) (hd:(x==("__debug__":Str))=false:=by decide) (hcd:(x==("__classdict__":Str))=false:=by decide):PE X (.Name x pos) (tVar i):=by
 intro pins s σ H Q I h
 obtain⟨v,e,h⟩:=h
 obtain⟨m,hn,hl⟩:=I.loc
 obtain⟨u,r,l⟩:=hl i x v hN e hv
 have fin:EP X pins σ Q u s:=⟨v,H,I,r,h⟩
 rcases l with ⟨hk,hm⟩|⟨hk,c,hc,hcell⟩
 ·exact wpAny_Name (wpAny_loadName_local I.ok.kind hk hn hm fin) hd
 ·rcases hk with hk|hk
  ·exact wpAny_Name (wpAny_loadName_cell I.ok.kind hk hc hcell fin) hd
  ·exact wpAny_Name (wpAny_loadName_free I.ok.kind hk hc hcell fin hcd) hd
theorem pe_int{i j pos}:PE X (.Constant (.int i) j pos) (tC (.int i)):=fun _ _ _ H _ I h=>wpAny_Constant_int ⟨.int i,H,I.tok _,⟨_,rfl⟩,h⟩
theorem pe_bl{b j pos}:PE X (.Constant (.bool b) j pos) (tC (.bl b)):=fun _ _ _ H _ I h=>Constant_bool ⟨.bl b,H,I,rfl,h⟩
theorem pe_str{x j pos}:PE X (.Constant (.str x) j pos) (tC (.str x)):=fun _ _ _ H _ I h=>Calls.Constant_str ⟨.str x,H,I.tok _,⟨_,rfl⟩,h⟩
def Gl(X:Cx)(x:Str):Prop:=X.env.kindOf x=some .globalImplicit
theorem ld_glob{E:Value→Shared→Prop}{pins:List (Addr × Obj)}{s:Shared}{σ:St}{H:Hp}{x:Str}{u:Value}{pos:Pos}{Q:Value→Shared→Prop}(I:Inv X pins σ H s)(hg:Gl X x)(hm:X.mg x=some u)(h:Q u s)
  (hd:(x==("__debug__":Str))=false:=by decide):wpAny (model X.prog X.w) X.A (eval (.Name x pos) X.env) Q E s :=
 Calls.Name_function_global I.ok.kind hg (Calls.loadGlobal_global (by rw [I.ok.glob];exact I.mod.glob.keeps I.bk) hm h) hd
theorem ld_blt{E:Value→Shared→Prop}{pins:List (Addr × Obj)}{s:Shared}{σ:St}{H:Hp}{x:Str}{u:Value}{pos:Pos}{Q:Value→Shared→Prop}(I:Inv X pins σ H s)(hg:Gl X x)(hm:X.mg x=none)(hv:bootBuiltins x=some u)(h:Q u s)
  (hn:x≠"__name__":=by decide) (hd:(x==("__debug__":Str))=false:=by decide):wpAny (model X.prog X.w) X.A (eval (.Name x pos) X.env) Q E s:=by
 obtain⟨mb,h1,h2⟩:=I.mod.blt
 exact Calls.Name_function_global I.ok.kind hg (Calls.loadGlobal_builtin (by rw [I.ok.glob];exact I.mod.glob.keeps I.bk) hm (by rw [I.ok.blt];exact h1.keeps I.bk) ((h2 x hn).trans hv) h) hd
theorem pe_glob{x:Str}{v:V}{u:Value}{pos:Pos}(hg:Gl X x)(hm:X.mg x=some u)(r:RelV v u) (hd:(x==("__debug__":Str))=false:=by decide):PE X (.Name x pos) (tC v) :=
 fun _ _ _ H _ I h=>ld_glob I hg hm ⟨v,H,I,r,h⟩ hd
theorem pe_bltn{x:Str}{v:V}{u:Value}{pos:Pos}(hg:Gl X x)(hm:X.mg x=none)(hv:bootBuiltins x=some u)(r:RelV v u) (hn:x≠"__name__":=by decide) (hd:(x==("__debug__":Str))=false:=by decide):PE X (.Name x pos) (tC v) :=
 fun _ _ _ H _ I h=>ld_blt I hg hm hv ⟨v,H,I,r,h⟩ hn hd
variable{a b:Expr}{ta tb:TE}{pos:Pos}
def PC(X:Cx)(op:CmpOp)(a b:Expr)(t:TE):Prop :=
 ∀(pins:List (Addr × Obj)) (s:Shared) (σ:St) (H:Hp) (Q:VK),Inv X pins σ H s→t σ H Q →
  wpAny (model X.prog X.w) X.A (eval a X.env) (fun v s₁=>wpAny (model X.prog X.w) X.A (eval b X.env) (fun u s₂=>wpAny (model X.prog X.w) X.A (compareOp op v u) (EP X pins σ Q) X.xe s₂) X.xe s₁) X.xe s
inductive Wb (x:V) (H:Hp) (Q:Bool→Hp→Prop):Prop
 |mk (c:Bool) (h:x=.bl c) (q:Q c H)
def tB(t:TE):TT:=fun σ H Q=>t σ H fun x H1=>Wb x H1 Q
theorem pt_cmp{op:CmpOp}{t:TE}(h:PC X op a b t)(h1:behindInMarks op b=false:=by first|exact nobehind _ (by decide) (by decide)|rfl):PT X (.Compare a [op] [b] pos) (tB t):=by
 intro pins s σ H Q I hw
 refine wpAny_isTrue_Compare1 (thn (h pins s σ H _ I hw) fun v s1 h1=>thn h1 fun u s2 h2=>thn h2 fun c s3 ⟨x,H1,I1,r1,q1⟩=>?_) h1
 obtain⟨d,rfl,q⟩:=q1
 cases r1
 exact wpAny_truthy_bool ⟨H1,I1,q⟩
theorem pt_val{e:Expr}{t:TE}(h:PE X e t)(he:∀whole,isTrue e X.env whole=(do let v ←whole;standAt e.pos;holding [v] (truthy v)):=by intro _;rfl):PT X e (tB t):=by
 intro pins s σ H Q I hw
 refine isTrue_plain (thn (h pins s σ H _ I hw) fun v s1 ⟨x,H1,I1,r1,q1⟩=>?_) (he _)
 obtain⟨d,rfl,q⟩:=q1
 cases r1
 exact wpAny_truthy_bool ⟨H1,I1,q⟩
variable{tA tB':TT}{rest:List Expr}
def tOr(t u:TT):TT:=fun σ H Q=>t σ H fun c H1=>if c=true then Q true H1 else u σ H1 Q
def tNot(t:TT):TT:=fun σ H Q=>t σ H fun c H1=>Q (!c) H1
theorem pw_or1(ha:PT X a tA):PW X (.BoolOp .Or [a] pos) tA:=by
 intro wh pins s σ H Q I h
 refine isTrue_or (thn (ha pins s σ H Q I h) fun c s1 e=>?_)
 cases c with
 |false=>exact isTrue_or_nil e
 |true=>exact e
theorem pw_or(ha:PT X a tA)(hb:PW X (.BoolOp .Or (b::rest) pos) tB'):PW X (.BoolOp .Or (a::b::rest) pos) (tOr tA tB'):=by
 intro wh pins s σ H Q I h
 refine isTrue_or (thn (ha pins s σ H _ I h) fun c s1 ⟨H1,I1,q1⟩=>?_)
 cases c with
 |true=>exact⟨H1,I1,q1⟩
 |false=>exact hb wh pins s1 σ H1 Q I1 q1
theorem pt_not(ha:PT X a tA):PT X (.UnaryOp .Not a pos) (tNot tA):=by
 intro pins s σ H Q I h
 exact isTrue_not (ha pins s σ H (fun c H1=>Q (!c) H1) I h)
def tAndV(ta tb:TE):TE:=fun σ H Q=>ta σ H fun x H1=>∃c,x=.bl c∧if c=true then tb σ H1 Q else Q (.bl false) H1
def tNotV(ta:TE):TE:=fun σ H Q=>ta σ H fun x H1=>∃c,x=.bl c∧Q (.bl (!c)) H1
theorem pe_one{op}{t:TE}(h:PE X a t):PE X (.BoolOp op [a] pos) t:=fun pins s σ H Q I hw=>BoolOp_one (h pins s σ H Q I hw)
theorem pe_and(ha:PE X a ta)(hb:PE X (.BoolOp .And (b::rest) pos) tb):PE X (.BoolOp .And (a::b::rest) pos) (tAndV ta tb):=by
 intro pins s σ H Q I h
 refine BoolOp_and (thn (ha pins s σ H _ I h) fun v s1 ⟨x,H1,I1,r1,q1⟩=>?_)
 obtain⟨c,rfl,q1⟩:=q1
 cases r1
 refine wpAny_truthy_bool ?_
 cases c with
 |true=>exact hb pins s1 σ H1 Q I1 q1
 |false=>exact⟨.bl false,H1,I1,rfl,q1⟩
theorem pe_not(ha:PE X a ta):PE X (.UnaryOp .Not a pos) (tNotV ta):=by
 intro pins s σ H Q I h
 refine UnaryOp_ (thn (ha pins s σ H _ I h) fun v s1 ⟨x,H1,I1,r1,q1⟩=>?_)
 obtain⟨c,rfl,q1⟩:=q1
 cases r1
 exact not_of (wpAny_truthy_bool ⟨.bl (!c),H1,I1,rfl,q1⟩)
def tIf(t:TT)(ta tb:TE):TE:=fun σ H Q=>t σ H fun c H1=>if c=true then ta σ H1 Q else tb σ H1 Q
theorem pe_ifExp{c:Expr}(hc:PT X c tA)(ha:PE X a ta)(hb:PE X b tb):PE X (.IfExp c a b pos) (tIf tA ta tb):=by
 intro pins s σ H Q I h
 refine wpAny_IfExp (thn (hc pins s σ H _ I h) fun d s1 ⟨H1,I1,q1⟩=>?_)
 cases d with
 |true=>exact ha pins s1 σ H1 Q I1 q1
 |false=>exact hb pins s1 σ H1 Q I1 q1
end
end L2
namespace L2
open PySem PySem.Spec PyProof.Rows
def SqL(K:PySem.W.Frag)(H:Hp)(a:Addr)(xs:List V):Prop :=
 Rd H a (.lst xs) ∨
  ∃(o:Obj) (its:Array Value) (n:Nat),K.lookup a=some o∧o.cls=.type "list"∧o.dict=none∧o.data=.seq its n∧its.size≤sizeLine∧Vals xs its.toList
def SqT(K:PySem.W.Frag)(H:Hp)(a:Addr)(xs:List V):Prop :=
 Rd H a (.tup xs) ∨
  ∃(o:Obj) (its:Array Value) (n:Nat),K.lookup a=some o∧o.cls=.type "tuple"∧o.data=.seq its n∧its.size≤sizeLine∧Vals xs its.toList
def absV:Value→Option V
 |.none=>some .non
 |.bool b=>some (.bl b)
 |.int i _=>some (.int i)
 |.str x _=>some (.str x)
 |.bytes b _=>some (.byt b)
 |.float b _=>some (.flt b)
 |.ref a=>some (.ref a)
 |.type n=>some (.ty n)
 |_=>none
theorem RelV.abs{x:V}{u:Value}(r:RelV x u):absV u=some x:=by
 cases x with
 |non=>cases r;rfl
 |bl _=>cases r;rfl
 |int _=>obtain⟨t,rfl⟩:=r;rfl
 |str _=>obtain⟨t,rfl⟩:=r;rfl
 |byt _=>obtain⟨t,rfl⟩:=r;rfl
 |flt _=>obtain⟨t,rfl⟩:=r;rfl
 |ref _=>cases r;rfl
 |ty _=>cases r;rfl
theorem RelV.inj{x y:V}{u:Value}(r:RelV x u)(q:RelV y u):x=y:=Option.some.inj (r.abs.symm.trans q.abs)
theorem Vals.inj:∀{xs ys:List V} {us:List Value},Vals xs us→Vals ys us→xs=ys
 |_,_,_,.nil,.nil=>rfl
 |_,_,_,.cons r t,.cons r' t'=>by rw [r.inj r',Vals.inj t t']
section
variable{X:Cx}{pins:List (Addr × Obj)}{σ:St}{H:Hp}{s:Shared}{a:Addr}{xs ys:List V}
theorem SqL.of{K:PySem.W.Frag}(h:H a=some (.lst xs)):SqL K H a xs:=.inl (.inl h)
theorem SqT.of{K:PySem.W.Frag}(h:H a=some (.tup xs)):SqT K H a xs:=.inl (.inl h)
theorem Inv.list(I:Inv X pins σ H s)(h:SqL X.K H a xs):∃its:List Value,Vals xs its∧PlainL s.heap a its.toArray∧xs.length≤sizeLine:=by
 rcases h with h|⟨o,its,n,hk,hc,hd,hs,hz,r⟩
 ·obtain⟨z,its,n,r,e⟩:=h.ok I.hok
  exact⟨its,r,⟨_,n,e,rfl,rfl,rfl⟩,z⟩
 ·refine⟨its.toList,r,⟨o,n,I.kIn a o hk,hc,hd,by simpa using hs⟩,?_⟩
  have e:=r.length
  simp only [Array.length_toList] at e
  omega
theorem Inv.tuple(I:Inv X pins σ H s)(h:SqT X.K H a xs):∃its:List Value,Vals xs its∧IsTup s.heap a its.toArray∧xs.length≤sizeLine:=by
 rcases h with h|⟨o,its,n,hk,hc,hs,hz,r⟩
 ·obtain⟨z,its,r,p⟩:=h.ok I.hok
  exact⟨its,r,p,z⟩
 ·refine⟨its.toList,r,⟨o,I.kIn a o hk,hc,n,by simpa using hs⟩,?_⟩
  have e:=r.length
  simp only [Array.length_toList] at e
  omega
theorem Inv.list_inj(I:Inv X pins σ H s)(h:SqL X.K H a xs)(h':SqL X.K H a ys):xs=ys:=by
 obtain⟨its,r,⟨o,n,e,_,_,d⟩,_⟩:=I.list h
 obtain⟨its',r',⟨o',n',e',_,_,d'⟩,_⟩:=I.list h'
 rw [e] at e';cases e'
 rw [d] at d'
 injection d' with d1 _
 have:its=its':=by simpa using congrArg Array.toList d1
 subst this
 exact r.inj r'
theorem Inv.tuple_inj(I:Inv X pins σ H s)(h:SqT X.K H a xs)(h':SqT X.K H a ys):xs=ys:=by
 obtain⟨its,r,⟨o,e,_,n,d⟩,_⟩:=I.tuple h
 obtain⟨its',r',⟨o',e',_,n',d'⟩,_⟩:=I.tuple h'
 rw [e] at e';cases e'
 rw [d] at d'
 injection d' with d1 _
 have:its=its':=by simpa using congrArg Array.toList d1
 subst this
 exact r.inj r'
end
abbrev Cx.wish(X:Cx)(E:Value→Shared→Prop):Cx:={ X with xe:=E }
abbrev Cx.nox(X:Cx):Cx:=X.wish fun _ _=>False
theorem Cx.Ok.wish{X:Cx}(ok:X.Ok)(E:Value→Shared→Prop):(X.wish E).Ok :=
 ⟨ok.mod,ok.kind,ok.glob,ok.blt,ok.above,ok.inj,ok.has,ok.cab,ok.hd,ok.frames,ok.stk,ok.exf,ok.bs,ok.bsz,ok.noex,ok.exfs,ok.funs,ok.frf⟩
theorem Cx.Ok.unwish{X:Cx}{E:Value→Shared→Prop}(ok:(X.wish E).Ok):X.Ok :=
 ⟨ok.mod,ok.kind,ok.glob,ok.blt,ok.above,ok.inj,ok.has,ok.cab,ok.hd,ok.frames,ok.stk,ok.exf,ok.bs,ok.bsz,ok.noex,ok.exfs,ok.funs,ok.frf⟩
section
variable{X:Cx}{pins:List (Addr × Obj)}{σ:St}{H:Hp}{s:Shared}{E:Value→Shared→Prop}
theorem Inv.wish(I:Inv X pins σ H s)(E:Value→Shared→Prop):Inv (X.wish E) pins σ H s:=⟨I.ok.wish E,I.os,I.bare,I.base,I.loc,I.cell,I.free,I.freeC,I.pin,I.hok,I.len⟩
theorem Inv.unwish(I:Inv (X.wish E) pins σ H s):Inv X pins σ H s:=⟨I.ok.unwish,I.os,I.bare,I.base,I.loc,I.cell,I.free,I.freeC,I.pin,I.hok,I.len⟩
theorem SP.unwish{D:Ends}{f:Flow}{s':Shared}(h:SP (X.wish E) pins D f s'):SP X pins D f s':=by
 cases f with
 |next=>obtain⟨σ',H',I,q⟩:=h;exact⟨σ',H',I.unwish,q⟩
 |brk=>obtain⟨σ',H',I,q⟩:=h;exact⟨σ',H',I.unwish,q⟩
 |cont=>obtain⟨σ',H',I,q⟩:=h;exact⟨σ',H',I.unwish,q⟩
 |ret u=>obtain⟨v,σ',H',I,r,q⟩:=h;exact⟨v,σ',H',I.unwish,r,q⟩
theorem PSs.nox{st:List Stmt}{t:TS}(h:PSs X.nox st t):PSs X st t:=fun pins s σ H D I hw =>
 wpAny_mono (h pins s σ H D (I.wish _) hw) (fun _ _ q=>q.unwish) fun _ _ z=>False.elim z
end
section
variable{X:Cx}{st:Stmt}{rest:List Stmt}{t u:TS}{e:Expr}{te:TE}{pos:Pos}
def tNext:TS:=fun D σ H=>D.nx σ H
def tSeq(t u:TS):TS:=fun D σ H=>t { D with nx:=u D } σ H
theorem pss_nil:PSs X [] tNext:=fun _ _ σ H _ I h=>wpAny_execs_nil ⟨σ,H,I,h⟩
theorem pss_cons(h1:PS X st t)(h2:PSs X rest u):PSs X (st::rest) (tSeq t u):=by
 intro pins s σ H D I h
 refine wpAny_execs_cons (thn (h1 pins s σ H { D with nx:=u D } I h) fun f s1 q=>?_)
 cases f with
 |next =>
  obtain⟨σ',H',I',q⟩:=q
  exact h2 pins s1 σ' H' D I' q
 |ret v=>exact q
 |brk=>exact q
 |cont=>exact q
theorem pss_one(h1:PS X st t):PSs X [st] t:=by
 intro pins s σ H D I h
 refine wpAny_execs_cons (thn (h1 pins s σ H D I h) fun f s1 q=>?_)
 cases f with
 |next=>exact wpAny_execs_nil q
 |ret v=>exact q
 |brk=>exact q
 |cont=>exact q
theorem Inv.quiet{pins:List (Addr × Obj)}{σ:St}{H:Hp}{s:Shared}(I:Inv X pins σ H s):interactive X.env=false:=by simp [interactive,I.ok.kind]
def tDrop(te:TE):TS:=fun D σ H=>te σ H fun _ H1=>D.nx σ H1
theorem ps_expr(he:PE X e te)(hs:swapsWith e none pos.line X.env=pure false:=by rfl):PS X (.Expr e pos) (tDrop te):=by
 intro pins s σ H D I h
 exact wpAny_Expr_any (thn (he pins s σ H _ I h) fun v s1 ⟨x,H1,I1,r1,q1⟩=>⟨σ,H1,I1,q1⟩) I.quiet hs
def tRet(te:TE):TS:=fun D σ H=>te σ H D.rt
theorem ps_ret(he:PE X e te):PS X (.Return (some e) pos) (tRet te):=by
 intro pins s σ H D I h
 exact wpAny_Return_some (thn (he pins s σ H _ I h) fun v s1 ⟨x,H1,I1,r1,q1⟩=>⟨x,σ,H1,I1,r1,q1⟩)
def tIfS(c:TT)(t u:TS):TS:=fun D σ H=>c σ H fun b H1=>if b=true then t D σ H1 else u D σ H1
theorem ps_if{c:Expr}{a b:List Stmt}{tc:TT}(hc:PT X c tc)(ha:PSs X a t)(hb:PSs X b u):PS X (.If c a b pos) (tIfS tc t u):=by
 intro pins s σ H D I h
 refine wpAny_If (thn (hc pins s σ H _ I h) fun d s1 ⟨H1,I1,q1⟩=>?_)
 cases d with
 |true=>exact ha pins s1 σ H1 D I1 q1
 |false=>exact hb pins s1 σ H1 D I1 q1
end
abbrev TG:=V→St→Hp→(St→Hp→Prop)→Prop
abbrev TGs:=List V→St→Hp→(St→Hp→Prop)→Prop
def PG(X:Cx)(target:Expr)(t:TG):Prop :=
 ∀(pins:List (Addr × Obj)) (s:Shared) (σ:St) (H:Hp) (v:V) (u:Value) (Q:St→Hp→Prop),Inv X pins σ H s→RelV v u→t v σ H Q →
  wpAny (model X.prog X.w) X.A (assign target X.env u) (fun _ s'=>∃σ' H',Inv X pins σ' H' s'∧Q σ' H') X.xe s
def PGs(X:Cx)(ts:List Expr)(t:TGs):Prop :=
 ∀(pins:List (Addr × Obj)) (s:Shared) (σ:St) (H:Hp) (vs:List V) (us:List Value) (Q:St→Hp→Prop),Inv X pins σ H s→Vals vs us→t vs σ H Q →
  wpAny (model X.prog X.w) X.A (assignInOrder ((assignEach ts X.env).map (·.2)) us) (fun _ s'=>∃σ' H',Inv X pins σ' H' s'∧Q σ' H') X.xe s
section
variable{X:Cx}{pos:Pos}
def gName(i:Nat):TG:=fun v σ H Q=>Q (σ.set i (some v)) H
theorem pg_name{i:Nat}{x:Str}(hN:X.N.Nodup)(hi:X.N[i]?=some x)(hx:Loc X.env.scope x)(hf:X.fn x=true∨X.env.scope.names.lookup x=some .local:=by first|exact .inl rfl|exact .inr rfl|assumption):PG X (.Name x pos) (gName i):=by
 intro pins s σ H v u Q I r h
 exact wpAny_assign_Name (store_ok I hN hi hx r (fun s' I'=>⟨_,H,I',h⟩) hf)
def gNil:TGs:=fun vs σ H Q=>vs=[]∧Q σ H
inductive Wc (t:TG) (u:TGs) (vs:List V) (σ:St) (H:Hp) (Q:St→Hp→Prop):Prop
 |mk (v:V) (r:List V) (h:vs=v::r) (q:t v σ H fun σ' H'=>u r σ' H' Q)
def gCons(t:TG)(u:TGs):TGs:=fun vs σ H Q=>Wc t u vs σ H Q
theorem pgs_nil:PGs X [] gNil:=by
 intro pins s σ H vs us Q I r h
 obtain⟨e,h⟩:=h
 subst e
 cases r
 exact assignInOrder_nil ⟨σ,H,I,h⟩
theorem pgs_cons{e:Expr}{es:List Expr}{t:TG}{u:TGs}(h1:PG X e t)(h2:PGs X es u)
  (hs:(assignEach (e::es) X.env).map (·.2)=assign e X.env::(assignEach es X.env).map (·.2):=by rfl):PGs X (e::es) (gCons t u):=by
 intro pins s σ H vs us Q I r h
 obtain⟨v,vr,e1,h⟩:=h
 subst e1
 cases r with
 |cons r rr =>
  rw [hs]
  refine assignInOrder_cons (thn (h1 pins s σ H _ _ _ I r h) fun _ s1 ⟨σ1,H1,I1,q1⟩=>?_)
  exact h2 pins s1 σ1 H1 _ _ Q I1 rr q1
def gTup(K:PySem.W.Frag)(n:Nat)(t:TGs):TG:=fun v σ H Q=>∃a xs,v=.ref a∧SqT K H a xs∧xs.length=n∧t xs σ H Q
theorem pg_tup{es:List Expr}{k:Nat}{t:TGs}{n:Nat}(hc:X.calm=true)(h:PGs X es t)
  (hn:(assignEach es X.env).length=n:=by rfl) (hst:(assignEach es X.env).findIdx? (·.1)=none:=by rfl):PG X (.Tuple es k pos) (gTup X.K n t):=by
 intro pins s σ H v u Q I r hw
 obtain⟨a,xs,e1,hq,hl,hw⟩:=hw
 subst e1
 cases r
 obtain⟨its,rv,ht,hz⟩:=I.tuple hq
 refine assign_Tuple_tuple (I.ok.hd hc) ht (by simp [hn,←hl,rv.length]) hst fun h' hx=>?_
 have I1:Inv X pins σ H { s with heap:=h' }:=I.kept (t':=s.toks) fun b o e=>hx b o (Nat.ne_of_lt (Heap.lt_size e)) e
 exact h pins _ σ H xs _ Q I1 (by simpa using rv) hw
def tAsg(te:TE)(g:TG):TS:=fun D σ H=>te σ H fun x H1=>g x σ H1 D.nx
theorem ps_asg{tg e:Expr}{te:TE}{g:TG}(he:PE X e te)(hg:PG X tg g)(hs:swapsWithSole [tg] e pos.line X.env=pure false:=by rfl)(hw:swappedStores [tg] e X.env=pure none:=by rfl)
  (h1:(assignEach [tg] X.env).map (·.2)=[assign tg X.env]:=by rfl):PS X (.Assign [tg] e pos) (tAsg te g):=by
 intro pins s σ H D I h
 refine wpAny_Assign_stores (thn (he pins s σ H _ I h) fun v s1 ⟨x,H1,I1,r1,q1⟩=>?_) hs hw
 rw [h1]
 exact thn (hg pins s1 σ H1 x v _ I1 r1 q1) fun _ s2 q=>q
theorem ps_set{i:Nat}{x:Str}{e:Expr}{te:TE}{pos':Pos}(hN:X.N.Nodup)(hi:X.N[i]?=some x)(hx:Loc X.env.scope x)(he:PE X e te)(hs:swapsWith e (some (.Name x pos')) pos.line X.env=pure false:=by rfl)(hf:X.fn x=true∨X.env.scope.names.lookup x=some .local:=by first|exact .inl rfl|exact .inr rfl|assumption) :
  PS X (.Assign [.Name x pos'] e pos) (tAsg te (gName i)):=by
 intro pins s σ H D I h
 refine wpAny_Assign_Name (thn (he pins s σ H _ I h) fun v s1 ⟨y,H1,I1,r1,q1⟩=>?_) hs
 exact store_ok I1 hN hi hx r1 (fun s2 I2=>⟨_,H1,I2,q1⟩) hf
end
section
variable{X:Cx}{pos:Pos}
end
structure It where
 go:Nat→Hp→Prop
 yld:Nat→Hp→V→Hp→Prop
 stop:Nat→Hp→Prop
def FpOk(X:Cx)(pins:List (Addr × Obj))(H:Hp)(b:Addr):Prop :=
 H b=none∧b≠X.env.locals∧b∉X.fs∧(b∈X.ex∨X.s₀.heap.objs.size≤b)∧(∀x c,X.env.cells.lookup x=some c→c≠b)∧∀p∈X.pn++pins,p.1≠b
theorem Inv.fpOk{X:Cx}{pins:List (Addr × Obj)}{σ:St}{H H':Hp}{s:Shared}{b:Addr}(I:Inv X pins σ H s)(hb:s.heap.objs.size≤b)(hn:H' b=none):FpOk X pins H' b:=by
 refine⟨hn,Nat.ne_of_gt (Nat.lt_of_lt_of_le I.lt hb),I.nofs hb,.inr (Nat.le_trans I.sz hb),fun x c e z=>?_,fun p hp z=>?_⟩
 ·obtain⟨v,q⟩:=I.cell x c e
  exact absurd (Nat.lt_of_lt_of_le q.lt (by rw [z];exact hb)) (Nat.lt_irrefl _)
 ·exact absurd (Nat.lt_of_lt_of_le (Heap.lt_size (I.pin p hp).1) (by rw [z];exact hb)) (Nat.lt_irrefl _)
structure Turn(P:Program)(w:World)(K:PySem.W.Frag)(tg:Expr)(J:It)(fp:List Addr)(it:Addr)(tn:Nat→Heap→Prop):Prop where
 mem:it∈fp
 obj:∀i h,tn i h→∀b∈fp,∃o,h.get? b=some o∧∀v,o.data≠.cell v
 keep:∀i h h',tn i h→(∀b∈fp,∀o,h.get? b=some o→h'.get? b=some o)→tn i h'
 item:∀(X:Cx),X.prog=P→X.w=w→X.K=K→X.calm=true→∀(i:Nat) (pins:List (Addr × Obj)) (s:Shared) (σ:St) (H:Hp) (E:Value→Shared→Prop),Inv X pins σ H s→(∀b∈fp,FpOk X pins H b)→tn i s.heap→J.go i H →
  wpAny (model P w) X.A (pyNext (.ref it)) (fun r s1=>∃u,r=some u ∧
   wpAny (model P w) X.A (letOwnedTupleGo tg (.ref it) u) (fun _ s2=>∃x H',Inv X pins σ H' s2∧RelV x u∧J.yld i H x H'∧tn (i+1) s2.heap∧∀b∈fp,H' b=none) E s1) E s
 done:∀(X:Cx),X.prog=P→X.w=w→X.K=K→X.calm=true→∀(i:Nat) (pins:List (Addr × Obj)) (s:Shared) (σ:St) (H:Hp) (E:Value→Shared→Prop),Inv X pins σ H s→(∀b∈fp,FpOk X pins H b)→tn i s.heap→J.stop i H →
  wpAny (model P w) X.A (pyNext (.ref it)) (fun r s1=>r=none∧Inv X pins σ H s1) E s
 self:∀(A:Around) (i:Nat) (s:Shared) (Q:Value→Shared→Prop) (E:Value→Shared→Prop),tn i s.heap→Q (.ref it) s→wpAny (model P w) A (pyIter (.ref it)) Q E s
abbrev TI:=St→Hp→(It→Hp→Prop)→Prop
def PIE(X:Cx)(pins:List (Addr × Obj))(σ:St)(tg:Expr)(R:It→Hp→Prop)(itv:Value)(s2:Shared):Prop :=
 ∃(it:Addr) (fp:List Addr) (tn:Nat→Heap→Prop) (J:It) (H':Hp),itv=.ref it∧Inv X pins σ H' s2∧Turn X.prog X.w X.K tg J fp it tn∧tn 0 s2.heap∧(∀b∈fp,FpOk X pins H' b)∧R J H'
def PI(X:Cx)(tg iter:Expr)(wi:TI):Prop :=
 ∀(pins:List (Addr × Obj)) (s:Shared) (σ:St) (H:Hp) (R:It→Hp→Prop),Inv X pins σ H s→wi σ H R →
  wpAny (model X.prog X.w) X.A (eval iter X.env) (fun v s1=>wpAny (model X.prog X.w) X.A (pyIter v) (PIE X pins σ tg R) X.xe s1) X.xe s
theorem go_of{M:Model}{A:Around}{E:Value→Shared→Prop}{s:Shared}{tg:Expr}{it:Addr}{u:Value}{o:Obj}{n:String}{vs:Array Value}{Q:Unit→Shared→Prop}(ho:s.heap.get? it=some o)(hc:o.cls=.type n)(hd:o.data=.fields vs)
    (hn:["enumerate","zip","dict_itemiterator","dict_reverseitemiterator","odict_iterator","itertools.zip_longest","itertools.pairwise"].contains n=false) (hQ:Q () s):wpAny M A (letOwnedTupleGo tg (.ref it) u) Q E s:=by
  unfold letOwnedTupleGo
  cases tg<;>first
    | exact wpAny_pure hQ
    | (cases u<;>first
        | exact wpAny_pure hQ
        | (refine wpAny_bind (wpAny_load ho ?_)
           rw [hc,hd]
           show wpAny M A (if (["enumerate","zip","dict_itemiterator","dict_reverseitemiterator","odict_iterator","itertools.zip_longest","itertools.pairwise"].contains n&&vs[0]?==some (rawInt _))=true then _ else _) Q E s
           rw [if_neg (by intro h;rw [hn,Bool.false_and] at h;cases h)]
           exact wpAny_pure hQ))
def Itl(K:PySem.W.Frag)(a:Addr):It :=
 ⟨fun i H=>∃xs x,SqL K H a xs∧xs[i]?=some x,fun i H x H'=>H'=H∧∀xs,SqL K H a xs→xs[i]?=some x,fun i H=>∃xs,SqL K H a xs∧xs.length≤i⟩
def Itt(K:PySem.W.Frag)(a:Addr):It :=
 ⟨fun i H=>∃xs x,SqT K H a xs∧xs[i]?=some x,fun i H x H'=>H'=H∧∀xs,SqT K H a xs→xs[i]?=some x,fun i H=>∃xs,SqT K H a xs∧xs.length≤i⟩
def Itr(lo:Int)(n:Nat):It:=⟨fun i _=>i < n,fun i H x H'=>H'=H∧x=.int (lo+i),fun i _=>n≤i⟩
theorem turn_list{P:Program}{w:World}{K:PySem.W.Frag}{tg:Expr}(a it:Addr):Turn P w K tg (Itl K a) [it] it (fun i h=>h.IsListIter it a i) where
 mem:=by simp
 obj:=fun i h st b hb=>by
  have e:b=it:=by simpa using hb
  subst e
  obtain⟨o,e,c,d⟩:=st
  exact⟨o,e,fun v z=>by rw [d] at z;cases z⟩
 keep:=fun i h h' st k=>st.at fun o e=>k it (by simp) o e
 item:=by
  intro X hP hw hK hc i pins s σ H E I hf st hg
  subst hP hw hK
  obtain⟨xs,x,hq,hx⟩:=hg
  obtain⟨its,rv,p,hz⟩:=I.list hq
  obtain⟨u,hu,ru⟩:=rv.get hx
  obtain⟨f0,f1,f2,f3,f4,f5⟩:=hf it (by simp)
  refine wpAny_pyNext_list_item st p.isList (x:=u) (by simpa using hu) fun h' st' sb=>?_
  have I1:Inv X pins σ H { s with heap:=h' }:=I.turned (t':=s.toks) (fun b o hb e=>(sb.2 b hb).trans e) f0 f1 f3 f4 f5
  obtain⟨o,e,c,d⟩:=id st'
  exact⟨u,rfl,go_of (s:={ s with heap:=h' }) e c d (by decide) ⟨x,H,I1,ru,⟨rfl,fun ys hy=>by rw [I.list_inj hy hq];exact hx⟩,st',fun b hb=>(hf b hb).1⟩⟩
 done:=by
  intro X hP hw hK hc i pins s σ H E I hf st hg
  subst hP hw hK
  obtain⟨xs,hq,hx⟩:=hg
  obtain⟨its,rv,p,hz⟩:=I.list hq
  obtain⟨f0,f1,f2,f3,f4,f5⟩:=hf it (by simp)
  have hl:=rv.length
  exact wpAny_pyNext_list_end (I.ok.hd hc) st p.isList (by simp;omega) fun h' eb=>⟨rfl,I.turned (t':=s.toks) (fun b o hb e=>eb b o hb e) f0 f1 f3 f4 f5⟩
 self:=fun _ _ _ _ _ st h=>wpAny_pyIter_listiter st h
theorem turn_tuple{P:Program}{w:World}{K:PySem.W.Frag}{tg:Expr}(a it:Addr):Turn P w K tg (Itt K a) [it] it (fun i h=>h.IsTupleIter it a i) where
 mem:=by simp
 obj:=fun i h st b hb=>by
  have e:b=it:=by simpa using hb
  subst e
  obtain⟨o,e,c,d⟩:=st
  exact⟨o,e,fun v z=>by rw [d] at z;cases z⟩
 keep:=fun i h h' st k=>st.at fun o e=>k it (by simp) o e
 item:=by
  intro X hP hw hK hc i pins s σ H E I hf st hg
  subst hP hw hK
  obtain⟨xs,x,hq,hx⟩:=hg
  obtain⟨its,rv,p,hz⟩:=I.tuple hq
  obtain⟨u,hu,ru⟩:=rv.get hx
  obtain⟨f0,f1,f2,f3,f4,f5⟩:=hf it (by simp)
  refine wpAny_pyNext_tuple_item st (show s.heap.IsTuple a its.toArray from p) (x:=u) (by simpa using hu) fun h' st' sb=>?_
  have I1:Inv X pins σ H { s with heap:=h' }:=I.turned (t':=s.toks) (fun b o hb e=>(sb.2 b hb).trans e) f0 f1 f3 f4 f5
  obtain⟨o,e,c,d⟩:=id st'
  exact⟨u,rfl,go_of (s:={ s with heap:=h' }) e c d (by decide) ⟨x,H,I1,ru,⟨rfl,fun ys hy=>by rw [I.tuple_inj hy hq];exact hx⟩,st',fun b hb=>(hf b hb).1⟩⟩
 done:=by
  intro X hP hw hK hc i pins s σ H E I hf st hg
  subst hP hw hK
  obtain⟨xs,hq,hx⟩:=hg
  obtain⟨its,rv,p,hz⟩:=I.tuple hq
  obtain⟨f0,f1,f2,f3,f4,f5⟩:=hf it (by simp)
  have hl:=rv.length
  exact wpAny_pyNext_tuple_end (I.ok.hd hc) st (show s.heap.IsTuple a its.toArray from p) (by simp;omega) fun h' eb=>⟨rfl,I.turned (t':=s.toks) (fun b o hb e=>eb b o hb e) f0 f1 f3 f4 f5⟩
 self:=fun _ _ _ _ _ st h=>wpAny_pyIter_tupleiter st h
theorem turn_range{P:Program}{w:World}{K:PySem.W.Frag}{tg:Expr}(it:Addr)(lo:Int)(n:Nat):Turn P w K tg (Itr lo n) [it] it (fun i h=>IsRangeIter h it (lo+(i:Nat)*1) ((n:Int) - (i:Nat)) 1) where
 mem:=by simp
 obj:=fun i h st b hb=>by
  have e:b=it:=by simpa using hb
  subst e
  exact⟨_,st,fun v z=>by
   have z':Data.fields _=Data.cell v:=z
   cases z'⟩
 keep:=fun i h h' st k=>k it (by simp) _ st
 item:=by
  intro X hP hw hK hc i pins s σ H E I hf st hg
  subst hP hw hK
  obtain⟨f0,f1,f2,f3,f4,f5⟩:=hf it (by simp)
  have W:=Walks.range (prog:=X.prog) (w:=X.w) (I.ok.hd hc) it lo 1 n
  refine W.item i s _ _ hg st fun v h' tk hv st' kk=>?_
  obtain⟨t,rfl⟩:=hv
  have I1:Inv X pins σ H { s with heap:=h',toks:=tk }:=I.turned (fun b o hb e=>kk b o (by simpa using hb) e) f0 f1 f3 f4 f5
  refine⟨_,rfl,go_of (s:={ s with heap:=h',toks:=tk }) (n:="range_iterator") st' rfl rfl (by decide) ⟨.int (lo+i),H,I1,⟨t,?_⟩,⟨rfl,rfl⟩,st',fun b hb=>(hf b hb).1⟩⟩
  rw [Int.mul_one]
 done:=by
  intro X hP hw hK hc i pins s σ H E I hf st hg
  subst hP hw hK
  obtain⟨f0,f1,f2,f3,f4,f5⟩:=hf it (by simp)
  exact wpAny_pyNext_range_end (I.ok.hd hc) st (by have:n≤i:=hg;omega) fun h' eb=>⟨rfl,I.turned (t':=s.toks) (fun b o hb e=>eb b o hb e) f0 f1 f3 f4 f5⟩
 self:=fun _ _ _ _ _ st h=>wpAny_pyIter_rangeiter st h
end L2
namespace L2
open PySem PySem.Spec PyProof.Rows
section
variable{X:Cx}{tg:Expr}
def iList(K:PySem.W.Frag)(tl:TE):TI:=fun σ H R=>tl σ H fun x H1=>∃a,x=.ref a∧(∃xs,SqL K H1 a xs)∧R (Itl K a) H1
def iTup(K:PySem.W.Frag)(tl:TE):TI:=fun σ H R=>tl σ H fun x H1=>∃a,x=.ref a∧(∃xs,SqT K H1 a xs)∧R (Itt K a) H1
theorem pi_list{l:Expr}{tl:TE}(hl:PE X l tl):PI X tg l (iList X.K tl):=by
 intro pins s σ H R I h
 refine thn (hl pins s σ H _ I h) fun v s1 ⟨x,H1,I1,r1,q1⟩=>?_
 obtain⟨a,e,⟨xs,hq⟩,q⟩:=q1
 subst e
 cases r1
 obtain⟨its,rv,p,hz⟩:=I1.list hq
 refine wpAny_pyIter_list p.isList ?_
 refine⟨s1.heap.objs.size,[s1.heap.objs.size],_,_,H1,rfl,I1.kept (t':=s1.toks) fun b o e=>Heap.get?_push_of_some _ e,turn_list a _,⟨_,Heap.get?_push_size _ rfl,rfl,rfl⟩,fun b hb=>?_,q⟩
 have e:b=s1.heap.objs.size:=by simpa using hb
 subst e
 exact I1.fpOk (Nat.le_refl _) (I1.hok.fresh (Nat.le_refl _))
theorem pi_tup{l:Expr}{tl:TE}(hl:PE X l tl):PI X tg l (iTup X.K tl):=by
 intro pins s σ H R I h
 refine thn (hl pins s σ H _ I h) fun v s1 ⟨x,H1,I1,r1,q1⟩=>?_
 obtain⟨a,e,⟨xs,hq⟩,q⟩:=q1
 subst e
 cases r1
 obtain⟨its,rv,p,hz⟩:=I1.tuple hq
 refine wpAny_pyIter_tuple (show s1.heap.IsTuple a its.toArray from p) ?_
 refine⟨s1.heap.objs.size,[s1.heap.objs.size],_,_,H1,rfl,I1.kept (t':=s1.toks) fun b o e=>Heap.get?_push_of_some _ e,turn_tuple a _,⟨_,Heap.get?_push_size _ rfl,rfl,rfl⟩,fun b hb=>?_,q⟩
 have e:b=s1.heap.objs.size:=by simpa using hb
 subst e
 exact I1.fpOk (Nat.le_refl _) (I1.hok.fresh (Nat.le_refl _))
theorem range_it{pins:List (Addr × Obj)}{σ:St}{H:Hp}{s:Shared}{R:It→Hp→Prop}{E:Value→Shared→Prop}{lo hi:Int}{t u v:Tok}{tk:Nat}(I:Inv X pins σ H s)(h1:-(2 ^ 62)≤lo)(h2:lo < 2 ^ 62)(h3:-(2 ^ 62)≤hi)(h4:hi < 2 ^ 62)
  (q:R (Itr lo (hi - lo).toNat) H):wpAny (model X.prog X.w) X.A (pyIter (.ref s.heap.objs.size)) (PIE X pins σ tg R) E { s with heap:=s.heap.push { cls:=.type "range",data:=.fields #[.int lo t,.int hi u,.int 1 v] },toks:=tk }:=by
 refine wpAny_pyIter_range (IsRange.new ..) (small_one h1 h2 h3 h4) ?_
 have I1:Inv X pins σ H { s with heap:=s.heap.push { cls:=.type "range",data:=.fields #[.int lo t,.int hi u,.int 1 v] },toks:=tk }:=I.kept fun b o e=>Heap.get?_push_of_some _ e
 refine⟨(s.heap.push { cls:=.type "range",data:=.fields #[.int lo t,.int hi u,.int 1 v] }).objs.size,[(s.heap.push { cls:=.type "range",data:=.fields #[.int lo t,.int hi u,.int 1 v] }).objs.size],_,_,H,rfl,
  I1.kept (t':=tk) fun b o e=>Heap.get?_push_of_some _ e,turn_range _ lo (hi - lo).toNat,?_,fun b hb=>?_,q⟩
 ·have e1:lo+((0:Nat):Int)*1=lo:=by simp
  have e2:(((hi - lo).toNat:Nat):Int) - ((0:Nat):Int)=Builtin.Range.rangeSize lo hi 1:=by rw [rangeSize_one];split<;>omega
  show IsRangeIter _ _ (lo+((0:Nat):Int)*1) ((((hi - lo).toNat:Nat):Int) - ((0:Nat):Int)) 1
  rw [e1,e2]
  exact Heap.get?_push_size _ rfl
 ·have e:b=(s.heap.push { cls:=.type "range",data:=.fields #[.int lo t,.int hi u,.int 1 v] }).objs.size:=by simpa using hb
  subst e
  exact I1.fpOk (Nat.le_refl _) (I1.hok.fresh (Nat.le_refl _))
def iRng1(ta:TA):TI:=fun σ H R=>ta σ H fun vs H1=>∃j:Int,vs=[.int j]∧-(2 ^ 62)≤j∧j < 2 ^ 62∧R (Itr 0 j.toNat) H1
theorem pi_range1{a:Expr}{ta:TA}{p pos:Pos} (hg:Gl X "range") (hm:X.mg "range"=none) (ha:PA X [a] ta) (hs:starEach [a] X.env=[(false,eval a X.env)]:=by rfl):PI X tg (.Call (.Name "range" p) [a] [] pos) (iRng1 ta):=by
 intro pins s σ H R I h
 refine Call_ (ld_blt I hg hm boot_range (PyProof.Rows.callWith_type1 (thn (ha pos pins s σ H _ I h) fun us s1 ⟨vs,H1,I1,r1,q1⟩=>?_) hs rfl))
 obtain⟨j,e,q1,q2,q⟩:=q1
 subst e
 cases r1 with
 |cons r rr =>
  cases rr
  obtain⟨t,rfl⟩:=r
  exact call_range_1 (range_it I1 (by omega) (by omega) q1 q2 (by simpa using q))
def tFor(wi:TI)(g:TG)(tb:TS):TS:=fun D σ H=>wi σ H fun J H1=>∃W:Nat→Nat→St→Hp→Prop,(∃m,W 0 m σ H1)∧∀i m σ H,W i m σ H →
 (J.stop i H∧D.nx σ H)∨(J.go i H∧∃N:St→Hp→Prop,(∀σ' H',N σ' H'→∃m',m' < m∧W (i+1) m' σ' H')∧∀x H',J.yld i H x H'→g x σ H' fun σ2 H2=>tb { D with nx:=N,ct:=N,bk:=D.nx } σ2 H2)
def pinsAt(fp:List Addr)(h:Heap):List (Addr × Obj):=fp.filterMap fun b=>(h.get? b).map fun o=>(b,o)
theorem mem_pinsAt{fp:List Addr}{h:Heap}{b:Addr}{o:Obj}(hb:b∈fp)(e:h.get? b=some o):(b,o)∈pinsAt fp h:=List.mem_filterMap.mpr ⟨b,hb,by rw [e];rfl⟩
theorem of_pinsAt{fp:List Addr}{h:Heap}{p:Addr × Obj}(hp:p∈pinsAt fp h):p.1∈fp∧h.get? p.1=some p.2:=by
 obtain⟨b,hb,e⟩:=List.mem_filterMap.mp hp
 cases q:h.get? b with
 |none=>rw [q] at e;cases e
 |some o =>
  rw [q] at e
  have e':(b,o)=p:=Option.some.inj e
  subst e'
  exact⟨hb,q⟩
theorem Inv.pinned{pins:List (Addr × Obj)}{σ:St}{H:Hp}{s:Shared}{fp:List Addr}(I:Inv X pins σ H s)(hf:∀b∈fp,FpOk X pins H b)(ho:∀b∈fp,∃o,s.heap.get? b=some o∧∀v,o.data≠.cell v):Inv X (pins++pinsAt fp s.heap) σ H s :=
 I.pins_of fun p hp=>(List.mem_append.mp hp).elim (fun z=>I.pin p (List.mem_append_right _ z)) fun z=>by
  obtain⟨hb,e⟩:=of_pinsAt z
  obtain⟨f0,f1,f2,_⟩:=hf p.1 hb
  obtain⟨o,e',d⟩:=ho p.1 hb
  rw [e] at e';cases e'
  exact⟨e,f0,f1,f2,d⟩
theorem Inv.unpinned{pins pl:List (Addr × Obj)}{σ:St}{H:Hp}{s:Shared}(I:Inv X (pins++pl) σ H s):Inv X pins σ H s:=I.pins_of fun p hp=>I.pin p (List.mem_append_right _ (List.mem_append_left _ hp))
theorem ps_for{iter:Expr}{body:List Stmt}{wi:TI}{g:TG}{tb:TS}{pos:Pos}(hp:PassesOwn (model X.prog X.w) X.A X.env X.xe)(hc:X.calm=true)(hi:PI X tg iter wi)(hg:PG X tg g)(hb:PSs X body tb)
  (hs:∀x,foldedSetIterable iter X.env x=pure x:=by intro _;rfl):PS X (.For tg iter body [] pos) (tFor wi g tb):=by
 intro pins s σ H D I h
 refine wpAny_For (thn (hi pins s σ H _ I h) fun v s1 h1=>thn h1 fun itv s2 h2=>?_) hs
 obtain⟨it,fp,tn,J,H2,e,I2,T,st2,f2,W,⟨m0,w0⟩,turn⟩:=h2
 subst e
 have stat:∀{H':Hp},(∀b∈fp,H' b=none)→∀b∈fp,FpOk X pins H' b:=fun hn b hb=>⟨hn b hb,(f2 b hb).2⟩
 refine codeAny_forLoop_any (fun n s'=>∃i σ' H',Inv X pins σ' H' s'∧tn i s'.heap∧(∀b∈fp,H' b=none)∧W i n σ' H') ?_ m0 ⟨0,σ,H2,I2,st2,fun b hb=>(f2 b hb).1,w0⟩
 rintro n s3 ⟨i,σ3,H3,I3,st3,fr3,w3⟩
 rcases turn i n σ3 H3 w3 with ⟨stop,qn⟩|⟨go,N,hN,step⟩
 ·refine wpAny_passesOwn hp (thn (T.done X rfl rfl rfl hc i pins s3 σ3 H3 X.xe I3 (stat fr3) st3 stop) fun r s4 ⟨hr,I4⟩=>?_)
  subst hr
  exact wpAny_execs_nil ⟨σ3,H3,I4,qn⟩
 ·refine wpAny_passesOwn hp (thn (T.item X rfl rfl rfl hc i pins s3 σ3 H3 X.xe I3 (stat fr3) st3 go) fun r s4 ⟨u,hr,h4⟩=>?_)
  subst hr
  refine wpAny_passesOwn hp (thn h4 fun _ s5 ⟨x,H5,I5,r5,y5,st5,fr5⟩=>?_)
  have I5':=I5.pinned (stat fr5) (T.obj _ _ st5)
  refine wpAny_passesOwn hp (thn (hg _ s5 σ3 H5 x u _ I5' r5 (step x H5 y5)) fun _ s6 ⟨σ6,H6,I6,q6⟩=>?_)
  refine wpAny_passesOwn hp (thn (hb _ s6 σ6 H6 _ I6 q6) fun f s7 q7=>?_)
  have again:∀{σ7:St} {H7:Hp},Inv X (pins++pinsAt fp s5.heap) σ7 H7 s7→N σ7 H7→∃m,m < n∧∃i σ' H',Inv X pins σ' H' s7∧tn i s7.heap∧(∀b∈fp,H' b=none)∧W i m σ' H':=fun {σ7 H7} I7 n7=>by
   obtain⟨m',hm,w7⟩:=hN σ7 H7 n7
   refine⟨m',hm,i+1,σ7,H7,I7.unpinned,T.keep _ _ _ st5 fun b hb o e=>(I7.pin (b,o) (List.mem_append_right _ (List.mem_append_right _ (mem_pinsAt hb e)))).1,fun b hb=>?_,w7⟩
   obtain⟨o,e,d⟩:=T.obj _ _ st5 b hb
   exact(I7.pin (b,o) (List.mem_append_right _ (List.mem_append_right _ (mem_pinsAt hb e)))).2.1
  cases f with
  |next=>obtain⟨σ7,H7,I7,n7⟩:=q7;exact again I7 n7
  |cont=>obtain⟨σ7,H7,I7,n7⟩:=q7;exact again I7 n7
  |brk=>obtain⟨σ7,H7,I7,q7⟩:=q7;exact⟨σ7,H7,I7.unpinned,q7⟩
  |ret v=>obtain⟨x7,σ7,H7,I7,r7,q7⟩:=q7;exact⟨x7,σ7,H7,I7.unpinned,r7,q7⟩
end
theorem for_list{K:PySem.W.Frag}{a:Addr}{xs:List V}{g:TG}{tb:TS}{D:Ends}{σ:St}{H:Hp}(Pv:Nat→St→Hp→Prop)(h0:Pv 0 σ H)(hl:∀i σ H,i≤xs.length→Pv i σ H→SqL K H a xs)
  (hs:∀i x σ H,xs[i]?=some x→Pv i σ H→g x σ H fun σ2 H2=>tb { D with nx:=Pv (i+1),ct:=Pv (i+1),bk:=D.nx } σ2 H2) (hd:∀σ H,Pv xs.length σ H→D.nx σ H) :
  ∃W:Nat→Nat→St→Hp→Prop,(∃m,W 0 m σ H)∧∀i m σ H,W i m σ H →
   ((Itl K a).stop i H∧D.nx σ H)∨((Itl K a).go i H∧∃N:St→Hp→Prop,(∀σ' H',N σ' H'→∃m',m' < m∧W (i+1) m' σ' H')∧∀x H',(Itl K a).yld i H x H'→g x σ H' fun σ2 H2=>tb { D with nx:=N,ct:=N,bk:=D.nx } σ2 H2):=by
 refine⟨fun i m σ H=>m=xs.length - i∧i≤xs.length∧Pv i σ H,⟨xs.length,by simp,Nat.zero_le _,h0⟩,?_⟩
 rintro i m σ H ⟨rfl,hi,p⟩
 have q:=hl i σ H hi p
 by_cases hlt:i < xs.length
 ·refine .inr ⟨⟨xs,xs[i],q,by simp [hlt]⟩,Pv (i+1),fun σ' H' p'=>⟨xs.length - (i+1),by omega,rfl,hlt,p'⟩,fun x H' y=>?_⟩
  obtain⟨e,y⟩:=y
  subst e
  exact hs i x σ _ (y xs q) p
 ·have e:i=xs.length:=by omega
  subst e
  exact .inl ⟨⟨xs,q,Nat.le_refl _⟩,hd σ H p⟩
theorem for_tup{K:PySem.W.Frag}{a:Addr}{xs:List V}{g:TG}{tb:TS}{D:Ends}{σ:St}{H:Hp}(Pv:Nat→St→Hp→Prop)(h0:Pv 0 σ H)(hl:∀i σ H,i≤xs.length→Pv i σ H→SqT K H a xs)
  (hs:∀i x σ H,xs[i]?=some x→Pv i σ H→g x σ H fun σ2 H2=>tb { D with nx:=Pv (i+1),ct:=Pv (i+1),bk:=D.nx } σ2 H2) (hd:∀σ H,Pv xs.length σ H→D.nx σ H) :
  ∃W:Nat→Nat→St→Hp→Prop,(∃m,W 0 m σ H)∧∀i m σ H,W i m σ H →
   ((Itt K a).stop i H∧D.nx σ H)∨((Itt K a).go i H∧∃N:St→Hp→Prop,(∀σ' H',N σ' H'→∃m',m' < m∧W (i+1) m' σ' H')∧∀x H',(Itt K a).yld i H x H'→g x σ H' fun σ2 H2=>tb { D with nx:=N,ct:=N,bk:=D.nx } σ2 H2):=by
 refine⟨fun i m σ H=>m=xs.length - i∧i≤xs.length∧Pv i σ H,⟨xs.length,by simp,Nat.zero_le _,h0⟩,?_⟩
 rintro i m σ H ⟨rfl,hi,p⟩
 have q:=hl i σ H hi p
 by_cases hlt:i < xs.length
 ·refine .inr ⟨⟨xs,xs[i],q,by simp [hlt]⟩,Pv (i+1),fun σ' H' p'=>⟨xs.length - (i+1),by omega,rfl,hlt,p'⟩,fun x H' y=>?_⟩
  obtain⟨e,y⟩:=y
  subst e
  exact hs i x σ _ (y xs q) p
 ·have e:i=xs.length:=by omega
  subst e
  exact .inl ⟨⟨xs,q,Nat.le_refl _⟩,hd σ H p⟩
theorem for_range{lo:Int}{n:Nat}{g:TG}{tb:TS}{D:Ends}{σ:St}{H:Hp}(Pv:Nat→St→Hp→Prop)(h0:Pv 0 σ H)
  (hs:∀i σ H,i < n→Pv i σ H→g (.int (lo+i)) σ H fun σ2 H2=>tb { D with nx:=Pv (i+1),ct:=Pv (i+1),bk:=D.nx } σ2 H2) (hd:∀σ H,Pv n σ H→D.nx σ H) :
  ∃W:Nat→Nat→St→Hp→Prop,(∃m,W 0 m σ H)∧∀i m σ H,W i m σ H →
   ((Itr lo n).stop i H∧D.nx σ H)∨((Itr lo n).go i H∧∃N:St→Hp→Prop,(∀σ' H',N σ' H'→∃m',m' < m∧W (i+1) m' σ' H')∧∀x H',(Itr lo n).yld i H x H'→g x σ H' fun σ2 H2=>tb { D with nx:=N,ct:=N,bk:=D.nx } σ2 H2):=by
 refine⟨fun i m σ H=>m=n - i∧i≤n∧Pv i σ H,⟨n,by simp,Nat.zero_le _,h0⟩,?_⟩
 rintro i m σ H ⟨rfl,hi,p⟩
 by_cases hlt:i < n
 ·refine .inr ⟨hlt,Pv (i+1),fun σ' H' p'=>⟨n - (i+1),by omega,rfl,hlt,p'⟩,fun x H' y=>?_⟩
  obtain⟨e,y⟩:=y
  subst e y
  exact hs i σ _ hlt p
 ·have e:i=n:=by omega
  subst e
  exact .inl ⟨Nat.le_refl _,hd σ H p⟩
end L2
namespace L2
open PySem PySem.Spec PyProof.Rows
abbrev R2:=V→V→Hp→VK→Prop
def OpR(X:Cx)(f:Value→Value→Sem Value)(r:R2):Prop :=
 ∀(pins:List (Addr × Obj)) (s:Shared) (σ:St) (H:Hp) (x y:V) (v u:Value) (Q:VK),Inv X pins σ H s→RelV x v→RelV y u→r x y H Q →
  wpAny (model X.prog X.w) X.A (f v u) (EP X pins σ Q) X.xe s
def CallR(X:Cx)(f:Value)(r:List V→Hp→VK→Prop):Prop :=
 ∀(pins:List (Addr × Obj)) (s:Shared) (σ:St) (H:Hp) (xs:List V) (us:List Value) (Q:VK),Inv X pins σ H s→Vals xs us→r xs H Q →
  wpAny (model X.prog X.w) X.A (call f us) (EP X pins σ Q) X.xe s
def tOp(r:R2)(ta tb:TE):TE:=fun σ H Q=>ta σ H fun x H1=>tb σ H1 fun y H2=>r x y H2 Q
inductive Wd (C:Int→Int→Prop) (g:Int→Int→V) (x y:V) (H:Hp) (Q:VK):Prop
 |mk (i j:Int) (a:x=.int i) (b:y=.int j) (c:C i j) (q:Q (g i j) H)
def rI(C:Int→Int→Prop)(g:Int→Int→V):R2:=fun x y H Q=>Wd C g x y H Q
inductive We (g:Int→Int→V) (x y:V) (H:Hp) (Q:VK):Prop
 |mk (i j:Int) (a:x=.int i) (b:y=.int j) (q:Q (g i j) H)
def rI0(g:Int→Int→V):R2:=fun x y H Q=>We g x y H Q
section
variable{X:Cx}{a b c:Expr}{ta tb tc:TE}{pos:Pos}
theorem binT(ha:PE X a ta)(hb:PE X b tb){pins:List (Addr × Obj)}{s:Shared}{σ:St}{H:Hp}{R:V→V→Hp→Prop}(I:Inv X pins σ H s)
  (h:ta σ H fun x H1=>tb σ H1 fun y H2=>R x y H2) {Q:Value→Shared→Prop} {f:Value→Value→Sem Value}
  (hf:∀v u s2 x y H2,Inv X pins σ H2 s2→RelV x v→RelV y u→R x y H2→wpAny (model X.prog X.w) X.A (f v u) Q X.xe s2) :
  wpAny (model X.prog X.w) X.A (eval a X.env) (fun v s₁=>wpAny (model X.prog X.w) X.A (eval b X.env) (fun u s₂=>wpAny (model X.prog X.w) X.A (f v u) Q X.xe s₂) X.xe s₁) X.xe s:=by
 refine thn (ha pins s σ H _ I h) fun v s1 ⟨x,H1,I1,r1,q1⟩=>?_
 refine thn (hb pins s1 σ H1 _ I1 q1) fun u s2 ⟨y,H2,I2,r2,q2⟩=>?_
 exact hf v u s2 x y H2 I2 r1 r2 q2
theorem pe_op{op:Operator}{r:R2}(ho:OpR X (binaryOp op) r)(ha:PE X a ta)(hb:PE X b tb):PE X (.BinOp a op b pos) (tOp r ta tb):=by
 intro pins s σ H Q I h
 exact wpAny_BinOp (binT ha hb I h fun v u s2 x y H2 I2 rx ry q=>ho pins s2 σ H2 x y v u Q I2 rx ry q)
theorem opI{f:Value→Value→Sem Value}{C:Int→Int→Prop}{g:Int→Int→Int}
  (rule:∀(i j:Int) (t u:Tok) (s:Shared) (Q:Value→Shared→Prop) (E:Value→Shared→Prop),C i j→Q (.int (g i j) s.toks) { s with toks:=s.toks+1 }→wpAny (model X.prog X.w) X.A (f (.int i t) (.int j u)) Q E s) :
  OpR X f (rI C fun i j=>.int (g i j)):=by
 intro pins s σ H x y v u Q I rx ry h
 obtain⟨i,j,rfl,rfl,hc,q⟩:=h
 obtain⟨t,rfl⟩:=rx
 obtain⟨t',rfl⟩:=ry
 exact rule i j t t' s _ _ hc ⟨.int (g i j),H,I.tok _,⟨_,rfl⟩,q⟩
theorem opI0{f:Value→Value→Sem Value}{g:Int→Int→Int}
  (rule:∀(i j:Int) (t u:Tok) (s:Shared) (Q:Value→Shared→Prop) (E:Value→Shared→Prop),Q (.int (g i j) s.toks) { s with toks:=s.toks+1 }→wpAny (model X.prog X.w) X.A (f (.int i t) (.int j u)) Q E s) :
  OpR X f (rI0 fun i j=>.int (g i j)):=by
 intro pins s σ H x y v u Q I rx ry h
 obtain⟨i,j,rfl,rfl,q⟩:=h
 obtain⟨t,rfl⟩:=rx
 obtain⟨t',rfl⟩:=ry
 exact rule i j t t' s _ _ ⟨.int (g i j),H,I.tok _,⟨_,rfl⟩,q⟩
theorem opB0{f:Value→Value→Sem Value}{g:Int→Int→Bool}
  (rule:∀(i j:Int) (t u:Tok) (s:Shared) (Q:Value→Shared→Prop) (E:Value→Shared→Prop),Q (.bool (g i j)) s→wpAny (model X.prog X.w) X.A (f (.int i t) (.int j u)) Q E s) :
  OpR X f (rI0 fun i j=>.bl (g i j)):=by
 intro pins s σ H x y v u Q I rx ry h
 obtain⟨i,j,rfl,rfl,q⟩:=h
 obtain⟨t,rfl⟩:=rx
 obtain⟨t',rfl⟩:=ry
 exact rule i j t t' s _ _ ⟨.bl (g i j),H,I,rfl,q⟩
def CDiv(i j:Int):Prop:=0 < j∧j < 1073741824
def CPow(i j:Int):Prop:=0≤j∧j≤1000000∧i.natAbs < 2 ^ 64
def CMul(i j:Int):Prop:=(-(2 ^ 64) < i∧i < 2 ^ 64)∨(-(2 ^ 64) < j∧j < 2 ^ 64)
theorem CMul.ok{i j:Int}(h:CMul i j):IntMulOk i j:=by
 rcases h with ⟨h1,h2⟩|⟨h1,h2⟩
 ·exact .of_left (intBits_le_64 h1 h2)
 ·exact .of_right (intBits_le_64 h1 h2)
theorem op_add:OpR X (binaryOp .Add) (rI0 fun i j=>.int (i+j)):=opI0 fun _ _ _ _ _ _ _ q=>add_int q
theorem op_sub:OpR X (binaryOp .Sub) (rI0 fun i j=>.int (i - j)):=opI0 fun _ _ _ _ _ _ _ q=>sub_int q
theorem op_mul:OpR X (binaryOp .Mult) (rI CMul fun i j=>.int (i*j)):=opI fun _ _ _ _ _ _ _ hc q=>mul_int q hc.ok
theorem op_fdiv:OpR X (binaryOp .FloorDiv) (rI CDiv fun i j=>.int (i / j)):=opI fun i j _ _ _ _ _ hc q=>by
 have h1:(0:Int) < j:=hc.1
 have h2:j < 1073741824:=hc.2
 exact floordiv_int (by omega) (by rw [Int.fdiv_eq_ediv_of_nonneg i (by omega)];exact q) (.inl (PyProof.noPylong_small (by omega)))
theorem op_mod:OpR X (binaryOp .Mod) (rI (fun _ j=>0 < j) fun i j=>.int (i%j)):=opI fun i j _ _ _ _ _ hc q=>by
 have h1:(0:Int) < j:=hc
 exact mod_int' (by omega) (by rw [Int.fmod_eq_emod_of_nonneg i (by omega)];exact q)
theorem op_pow:OpR X (binaryOp .Pow) (rI CPow fun i j=>.int (i ^ j.toNat)):=opI fun _ _ _ _ _ _ _ hc q=>pow_int_small hc.1 hc.2.1 hc.2.2 q
end
def scal:V→V→Bool
 |.non,.non=>true|.non,.int _=>true|.int _,.non=>true|.non,.bl _=>true|.bl _,.non=>true|.non,.str _=>true|.str _,.non=>true
 |.int _,.int _=>true|.bl _,.bl _=>true|.str _,.str _=>true|.byt _,.byt _=>true
 |.int _,.str _=>true|.str _,.int _=>true|.bl _,.str _=>true|.str _,.bl _=>true
 |_,_=>false
def rEq:R2:=fun x y H Q=>scal x y=true∧Q (.bl (decide (x=y))) H
def rNe:R2:=fun x y H Q=>scal x y=true∧Q (.bl (!decide (x=y))) H
theorem dec_int{i j:Int}:decide (V.int i=V.int j)=(i==j):=by
 rw [Bool.eq_iff_iff]
 simp
theorem dec_bl{i j:Bool}:decide (V.bl i=V.bl j)=(i==j):=by
 rw [Bool.eq_iff_iff]
 simp
theorem dec_str{i j:Str}:decide (V.str i=V.str j)=(i==j):=by
 rw [Bool.eq_iff_iff]
 simp
theorem dec_byt{i j:Array UInt8}:decide (V.byt i=V.byt j)=(i.toList==j.toList):=by
 rw [Bool.eq_iff_iff]
 cases i
 cases j
 simp
section
variable{X:Cx}{a b c:Expr}{ta tb tc:TE}{pos:Pos}
theorem fin_bl{pins:List (Addr × Obj)}{σ:St}{H:Hp}{s:Shared}{Q:VK}{k k':Bool}(I:Inv X pins σ H s)(q:Q (.bl k) H)(e:k=k'):EP X pins σ Q (.bool k') s:=by
 subst e
 exact⟨.bl k,H,I,rfl,q⟩
theorem op_eq:OpR X (compareOp .Eq) rEq:=by
 intro pins s σ H x y v u Q I rx ry h
 obtain⟨hs,q⟩:=h
 cases x with
 |non =>
  cases rx
  cases y with
  |non=>cases ry;exact PySem.EqNone.eq_none_none (fin_bl I q (by simp))
  |bl j=>cases ry;exact PySem.EqNone.eq_none_bool (fin_bl I q (by simp))
  |int j=>obtain⟨t',rfl⟩:=ry;exact PySem.EqNone.eq_none_int (fin_bl I q (by simp))
  |str j=>obtain⟨t',rfl⟩:=ry;exact PySem.EqNone.eq_none_str (fin_bl I q (by simp))
  |_=>exact absurd (show false=true from hs) Bool.false_ne_true
 |bl i =>
  cases rx
  cases y with
  |non=>cases ry;exact PySem.EqNone.eq_bool_none (fin_bl I q (by simp))
  |bl j=>cases ry;exact eq_bool (fin_bl I q dec_bl)
  |str j=>obtain⟨t',rfl⟩:=ry;exact PySem.EqMixed.eq_bool_str (fin_bl I q (by simp))
  |_=>exact absurd (show false=true from hs) Bool.false_ne_true
 |int i =>
  obtain⟨t,rfl⟩:=rx
  cases y with
  |non=>cases ry;exact PySem.EqNone.eq_int_none (fin_bl I q (by simp))
  |int j=>obtain⟨t',rfl⟩:=ry;exact eq_int (fin_bl I q dec_int)
  |str j=>obtain⟨t',rfl⟩:=ry;exact PySem.EqMixed.eq_int_str (fin_bl I q (by simp))
  |_=>exact absurd (show false=true from hs) Bool.false_ne_true
 |str i =>
  obtain⟨t,rfl⟩:=rx
  cases y with
  |non=>cases ry;exact PySem.EqNone.eq_str_none (fin_bl I q (by simp))
  |bl j=>cases ry;exact PySem.EqMixed.eq_str_bool (fin_bl I q (by simp))
  |int j=>obtain⟨t',rfl⟩:=ry;exact PySem.EqMixed.eq_str_int (fin_bl I q (by simp))
  |str j=>obtain⟨t',rfl⟩:=ry;exact eq_str (fin_bl I q dec_str)
  |_=>exact absurd (show false=true from hs) Bool.false_ne_true
 |byt i =>
  obtain⟨t,rfl⟩:=rx
  cases y with
  |byt j=>obtain⟨t',rfl⟩:=ry;exact PySem.W.eq_bytes (fin_bl I q dec_byt)
  |_=>exact absurd (show false=true from hs) Bool.false_ne_true
 |_=>cases y<;>exact absurd (show false=true from hs) Bool.false_ne_true
theorem op_ne:OpR X (compareOp .NotEq) rNe:=by
 intro pins s σ H x y v u Q I rx ry h
 obtain⟨hs,q⟩:=h
 cases x with
 |non =>
  cases rx
  cases y with
  |non=>cases ry;exact PySem.EqNone.ne_none_none (fin_bl I q (by simp))
  |bl j=>cases ry;exact PySem.EqNone.ne_none_bool (fin_bl I q (by simp))
  |int j=>obtain⟨t',rfl⟩:=ry;exact PySem.EqNone.ne_none_int (fin_bl I q (by simp))
  |str j=>obtain⟨t',rfl⟩:=ry;exact PySem.EqNone.ne_none_str (fin_bl I q (by simp))
  |_=>exact absurd (show false=true from hs) Bool.false_ne_true
 |bl i =>
  cases rx
  cases y with
  |non=>cases ry;exact PySem.EqNone.ne_bool_none (fin_bl I q (by simp))
  |bl j=>cases ry;exact ne_bool (fin_bl I q (congrArg not dec_bl))
  |str j=>obtain⟨t',rfl⟩:=ry;exact PySem.EqMixed.ne_bool_str (fin_bl I q (by simp))
  |_=>exact absurd (show false=true from hs) Bool.false_ne_true
 |int i =>
  obtain⟨t,rfl⟩:=rx
  cases y with
  |non=>cases ry;exact PySem.EqNone.ne_int_none (fin_bl I q (by simp))
  |int j=>obtain⟨t',rfl⟩:=ry;exact ne_int (fin_bl I q (congrArg not dec_int))
  |str j=>obtain⟨t',rfl⟩:=ry;exact PySem.EqMixed.ne_int_str (fin_bl I q (by simp))
  |_=>exact absurd (show false=true from hs) Bool.false_ne_true
 |str i =>
  obtain⟨t,rfl⟩:=rx
  cases y with
  |non=>cases ry;exact PySem.EqNone.ne_str_none (fin_bl I q (by simp))
  |bl j=>cases ry;exact PySem.EqMixed.ne_str_bool (fin_bl I q (by simp))
  |int j=>obtain⟨t',rfl⟩:=ry;exact PySem.EqMixed.ne_str_int (fin_bl I q (by simp))
  |str j=>obtain⟨t',rfl⟩:=ry;exact ne_str (fin_bl I q (congrArg not dec_str))
  |_=>exact absurd (show false=true from hs) Bool.false_ne_true
 |byt i =>
  obtain⟨t,rfl⟩:=rx
  cases y with
  |byt j=>obtain⟨t',rfl⟩:=ry;exact PySem.W.ne_bytes (fin_bl I q (congrArg not dec_byt))
  |_=>exact absurd (show false=true from hs) Bool.false_ne_true
 |_=>cases y<;>exact absurd (show false=true from hs) Bool.false_ne_true
theorem op_lt:OpR X (compareOp .Lt) (rI0 fun i j=>.bl (decide (i < j))):=opB0 fun _ _ _ _ _ _ _ q=>lt_int q
theorem op_gt:OpR X (compareOp .Gt) (rI0 fun i j=>.bl (decide (j < i))):=opB0 fun _ _ _ _ _ _ _ q=>gt_int q
theorem nomark(b:Expr){op:CmpOp}(h:op≠.In:=by decide)(h2:op≠.NotIn:=by decide):behindInMarks op b=false:=by
 have e1:(op==CmpOp.In)=false:=by cases op<;>first|rfl|exact absurd rfl h
 have e2:(op==CmpOp.NotIn)=false:=by cases op<;>first|rfl|exact absurd rfl h2
 cases b<;>simp [behindInMarks,e1,e2]
theorem pe_cmpR{op:CmpOp}{r:R2}(ho:OpR X (compareOp op) r)(ha:PE X a ta)(hb:PE X b tb)(hm:behindInMarks op b=false):PE X (.Compare a [op] [b] pos) (tOp r ta tb):=by
 intro pins s σ H Q I h
 exact wpAny_Compare1 (binT ha hb I h fun v u s2 x y H2 I2 rx ry q=>ho pins s2 σ H2 x y v u Q I2 rx ry q) hm
def tTest(t:TE):TT:=fun σ H Q=>t σ H fun x H'=>Wb x H' Q
theorem pt_cmpR{op:CmpOp}{r:R2}(ho:OpR X (compareOp op) r)(ha:PE X a ta)(hb:PE X b tb)(hm:behindInMarks op b=false):PT X (.Compare a [op] [b] pos) (tTest (tOp r ta tb)):=by
 intro pins s σ H Q I h
 refine wpAny_isTrue_Compare1 (thn (ha pins s σ H _ I h) fun v s1 ⟨x,H1,I1,r1,q1⟩=>thn (hb pins s1 σ H1 _ I1 q1) fun u s2 ⟨y,H2,I2,r2,q2⟩ =>
  thn (ho pins s2 σ H2 x y v u _ I2 r1 r2 q2) fun c s3 ⟨z,H3,I3,r3,k,e,q3⟩=>?_) hm
 subst e
 cases r3
 exact wpAny_truthy_bool ⟨H3,I3,q3⟩
theorem line63:(sizeLine:Nat) < 2 ^ 63:=by rw [sizeLine_eq];decide
theorem op_add_str:OpR X (binaryOp .Add) (fun x y H Q=>∃i j,x=.str i∧y=.str j∧i.length+j.length≤sizeLine∧Q (.str (i++j)) H):=by
 intro pins s σ H x y v u Q I rx ry h
 obtain⟨i,j,rfl,rfl,hz,q⟩:=h
 obtain⟨t,rfl⟩:=rx
 obtain⟨t',rfl⟩:=ry
 exact add_str (fun t' tk=>⟨.str (i++j),H,I.tok _,⟨_,rfl⟩,q⟩) hz
theorem vals1{x:V}{us:List Value}(r:Vals [x] us):∃u,us=[u]∧RelV x u:=by
 cases r with
 |cons r1 r2=>cases r2;exact⟨_,rfl,r1⟩
theorem call_int1:CallR X (.type "int") (fun xs H Q=>(∃i,xs=[.int i]∧Q (.int i) H)∨∃k,xs=[.bl k]∧Q (.int (if k then 1 else 0)) H):=by
 intro pins s σ H xs us Q I r h
 rcases h with ⟨i,rfl,q⟩|⟨k,rfl,q⟩
 ·obtain⟨u,rfl,t,rfl⟩:=vals1 r
  exact call_int_int ⟨.int i,H,I,⟨_,rfl⟩,q⟩
 ·obtain⟨u,rfl,r1⟩:=vals1 r
  cases r1
  exact call_int_bool ⟨.int (if k then 1 else 0),H,I.tok _,⟨_,rfl⟩,q⟩
end
end L2
namespace L2
open PySem PySem.Spec PyProof.Rows
structure ObjM(h:Heap)(x dx C:Addr)(mA:Str→Option Value):Prop where
 obj:h.get? x=some (PySem.W.instObj C dx)
 ns:h.Ns1 dx mA
 ne:dx≠x
theorem lookIn_ns{h:Heap}{dx:Addr}{mA:Str→Option Value}(n:h.Ns1 dx mA):∃od,h.get? dx=some od∧∀name,PySem.W.lookIn name od=some (mA name):=by
 obtain⟨o,es,ep,ho,hd,hk,_,hm⟩:=n
 refine⟨o,ho,fun name=>?_⟩
 have e:=hm name
 unfold nsFind findBy at e
 rw [←Array.find?_toList] at e
 unfold PySem.W.lookIn
 rw [hd]
 dsimp only
 split
 ·rename_i y q
  rw [q] at e
  exact congrArg some e
 ·rename_i q
  rw [q] at e
  have a:es.toList.any (·.refKey)=false:=by
   rw [List.any_eq_false]
   intro y hy
   obtain⟨z,t,hkey⟩:=hk y (Array.mem_toList_iff.mp hy)
   simp [DictEntry.refKey,hkey]
  have a':¬es.toList.any (·.refKey)=true:=by rw [a];exact Bool.false_ne_true
  rw [if_neg a']
  exact congrArg some e
theorem ObjM.look{h:Heap}{x dx C:Addr}{mA:Str→Option Value}(I:ObjM h x dx C mA):∃od,PySem.W.InstAt h x (PySem.W.instObj C dx) C (some od)∧∀name,PySem.W.lookIn name od=some (mA name) :=
 let ⟨od,ho,hl⟩:=lookIn_ns I.ns
 ⟨od,⟨I.obj,rfl,rfl,ho⟩,hl⟩
section
variable{prog:Program}{w:World}{A:Around}{E:Value→Shared→Prop}{s:Shared}{K:PySem.W.Frag}{x dx C f:Addr}{mA:Str→Option Value}{name:Str}{v:Value}
end
theorem RelO.some_of{v:V}{o:Option Value}(r:RelO (some v) o):∃u,o=some u∧RelV v u:=by
 cases o with
 |none=>exact(show False from r).elim
 |some u=>exact⟨u,rfl,r⟩
section
variable{P:Program}{w:World}{H H':Hp}{h h':Heap}{a C dx:Addr}{fs fs':List (Str × V)}
theorem ins_get(hok:HOk P w H h)(e:H a=some (.ins C dx fs)):∃mA,ObjM h a dx C mA∧(∀f,RelO (fs.lookup f) (mA f))∧PySem.Within mA (fs.map (·.1))∧fs.length≤1000∧H dx=some (.own a):=by
 obtain⟨d,z,ne,ob,mA,n,r,q⟩:=(show ObjOk P w H h a (.ins C dx fs) from hok a _ e)
 exact⟨mA,⟨ob,n,ne⟩,r,q,z,d⟩
end
structure Cls(K:PySem.W.Frag)(C:Addr):Prop where
 pg:PySem.W.plainGet K C Str.empty=true
 hd:PySem.W.hasDictIn K C=true
 po:PySem.W.plainOver K C=true
 sa:PySem.W.findIn K (.ref C) "__setattr__"=some (some (.builtin "object.__setattr__"))
theorem Cls.get{K:PySem.W.Frag}{C:Addr}(c:Cls K C)(f:Str):PySem.W.plainGet K C f=true:=c.pg
structure Con(K:PySem.W.Frag)(C:Addr)(f:Str)(v:V)(u:Value):Prop where
 at_:PySem.W.findIn K (.ref C) f=some (some u)
 rel:RelV v u
 get:PySem.W.specialIn K u "__get__"=some none
 cp:PySem.W.copiedNames.contains f=false
structure Meth(K:PySem.W.Frag)(C:Addr)(m:Str)(f:Addr):Prop where
 at_:PySem.W.findIn K (.ref C) m=some (some (.ref f))
 fn:PySem.W.isFn K (.ref f)=true
 kp:PySem.W.keepIn K (.ref f)=true
section
variable{X:Cx}{pins:List (Addr × Obj)}{σ:St}{H:Hp}{s:Shared}{a C dx:Addr}{fs:List (Str × V)}{f:Str}{v:V}{A:Around}{E:Value→Shared→Prop}
end
section
variable{X:Cx}{o e value:Expr}{f:Str}{pos pos' tpos:Pos}{ta tv:TE}
end
section
variable{X:Cx}{pins:List (Addr × Obj)}{σ:St}{H:Hp}{s:Shared}{A:Around}{E:Value→Shared→Prop}{Q:Value→Shared→Prop}{c:Value}{b:Bool}
inductive TyOf (K:PySem.W.Frag) (H:Hp):V→Value→Prop where
 |non:TyOf K H .non (.type "NoneType")
 |bl (x:Bool):TyOf K H (.bl x) (.type "bool")
 |int (i:Int):TyOf K H (.int i) (.type "int")
 |str (x:Str):TyOf K H (.str x) (.type "str")
 |flt (x:UInt64):TyOf K H (.flt x) (.type "float")
 |lst {a:Addr} {xs:List V} (e:H a=some (.lst xs)):TyOf K H (.ref a) (.type "list")
 |frz {a:Addr} {o:Obj} {xs:List V} (e:H a=some (.frz o (.lst xs))):TyOf K H (.ref a) (.type "list")
 |tup {a:Addr} {xs:List V} (e:H a=some (.tup xs)):TyOf K H (.ref a) (.type "tuple")
 |dK {a:Addr} {kvs:List (Key × V)} (e:H a=some (.dK kvs)):TyOf K H (.ref a) (.type "dict")
 |dT {a:Addr} {kvs:List (List Key × V)} (e:H a=some (.dT kvs)):TyOf K H (.ref a) (.type "dict")
 |ins {a C dx:Addr} {fs:List (Str × V)} (e:H a=some (.ins C dx fs)) (cl:Cls K C) (ha:PySem.W.findIn K (.ref C) "__class__"=some (some (.builtin "object.__class__")))
   (hn:PySem.W.specialIn K (.builtin "object.__class__") "__get__"=some (some (.builtin "getset_descriptor.__get__"))) (htk:PySem.W.takesIn K (.builtin "object.__class__")=some true)
   (hm:PySem.W.mroIn K C (.type "object")=some true):TyOf K H (.ref a) (.ref C)
theorem isinst_ok{x:V}{u t:Value}(I:Inv X pins σ H s)(rx:RelV x u)(ty:TyOf X.K H x t)(e:PySem.W.kitOne X.K t c=some b)(h:∀tk,Q (.bool b) { s with toks:=tk }) :
  wpAny (model X.prog X.w) A (call (.builtin "isinstance") [u,c]) Q E s:=by
 cases ty with
 |non=>cases (show u=Value.none from rx);exact PySem.W.kia_one PySem.W.kitx_none I.kIn True.intro e (fun z=>nomatch z) h
 |bl y=>cases (show u=Value.bool y from rx);exact PySem.W.kia_one PySem.W.kitx_bool I.kIn True.intro e (fun z=>nomatch z) h
 |int i=>obtain⟨t,q⟩:=(show ∃t,u=Value.int i t from rx);cases q;exact PySem.W.kia_one PySem.W.kitx_int I.kIn True.intro e (fun z=>nomatch z) h
 |str y=>obtain⟨t,q⟩:=(show ∃t,u=Value.str y t from rx);cases q;exact PySem.W.kia_one PySem.W.kitx_str I.kIn True.intro e (fun z=>nomatch z) h
 |flt y=>obtain⟨t,q⟩:=(show ∃t,u=Value.float y t from rx);cases q;exact PySem.W.kia_one PySem.W.kitx_float I.kIn True.intro e (fun z=>nomatch z) h
 |@lst a xs ea =>
  cases (show u=Value.ref a from rx)
  obtain⟨_,_,n,_,h1⟩:=(show ObjOk X.prog X.w H s.heap a (.lst xs) from I.hok a _ ea)
  exact PySem.W.kia_one PySem.W.kitx_list I.kIn ⟨_,h1,rfl⟩ e (fun z=>nomatch z) h
 |@frz a ob xs ea =>
  cases (show u=Value.ref a from rx)
  obtain⟨_,_,_,n,_,h1⟩:=(show ObjOk X.prog X.w H s.heap a (.frz ob (.lst xs)) from I.hok a _ ea)
  exact PySem.W.kia_one PySem.W.kitx_list I.kIn ⟨_,h1,rfl⟩ e (fun z=>nomatch z) h
 |@tup a xs ea =>
  cases (show u=Value.ref a from rx)
  obtain⟨_,_,_,p⟩:=(show ObjOk X.prog X.w H s.heap a (.tup xs) from I.hok a _ ea)
  obtain⟨o,h1,h2,_⟩:=p
  exact PySem.W.kia_one PySem.W.kitx_tuple I.kIn ⟨o,h1,h2⟩ e (fun z=>nomatch z) h
 |@dK a kvs ea =>
  cases (show u=Value.ref a from rx)
  obtain⟨_,_,vs,_,p⟩:=(show ObjOk X.prog X.w H s.heap a (.dK kvs) from I.hok a _ ea)
  obtain⟨o,es,ep,h1,h2,_⟩:=p
  exact PySem.W.kia_one PySem.W.kitx_dict I.kIn ⟨o,h1,h2.1⟩ e (fun z=>nomatch z) h
 |@dT a kvs ea =>
  cases (show u=Value.ref a from rx)
  obtain⟨_,_,xs,_,o,es,ep,h1,h2,_⟩:=(show ObjOk X.prog X.w H s.heap a (.dT kvs) from I.hok a _ ea)
  exact PySem.W.kia_one PySem.W.kitx_dict I.kIn ⟨o,h1,h2.1⟩ e (fun z=>nomatch z) h
 |@ins a C dx fs ea cl ha hn htk hm =>
  cases (show u=Value.ref a from rx)
  obtain⟨mA,O,_⟩:=ins_get I.hok ea
  obtain⟨od,J,_⟩:=O.look
  exact PySem.W.kia_one (PySem.W.kitx_own (cl.get _) cl.hd ha hn htk hm) I.kIn J e (fun z=>nomatch z) h
end
end L2
namespace L2
open PySem PySem.Spec PyProof.Rows
structure Room(k:Nat)(A:Around):Prop where
 hd:A.handled=none
 dp:A.depth+3*k+5 < recursionLimit
 un:A.units+16*k+200 < cLine
 gd:A.guards=some []
theorem Room.mono{j k:Nat}{A:Around}(r:Room k A)(h:j≤k):Room j A:=⟨r.hd,by have:=r.dp;omega,by have:=r.un;omega,r.gd⟩
theorem Room.deeper{k:Nat}{A:Around}(r:Room (k+1) A)(env:Env):Room k (A.deeper env) :=
 ⟨r.hd,by have:=r.dp;show A.depth+1+3*k+5 < _;omega,by have:=r.un;show A.units+3+16*k+200 < _;omega,r.gd⟩
theorem Room.depth{k:Nat}{A:Around}(r:Room k A):A.depth < recursionLimit:=by have:=r.dp;omega
theorem Room.units{k:Nat}{A:Around}(r:Room k A):A.units+64 < cLine:=by have:=r.un;omega
def tNil:TA:=fun _ H Q=>Q [] H
def tCons(ta:TE)(tr:TA):TA:=fun σ H Q=>ta σ H fun x H1=>tr σ H1 fun xs H2=>Q (x::xs) H2
section
variable{X:Cx}{e:Expr}{es:List Expr}{te:TE}{t:TA}{pos:Pos}
theorem pa_nil:PA X [] tNil:=fun _ _ _ _ H Q I h=>Calls.spliced_nil ⟨[],H,I,.nil,h⟩
theorem pa_cons(ha:PE X e te)(hr:PA X es t)(hs:starEach (e::es) X.env=(false,eval e X.env)::starEach es X.env:=by rfl):PA X (e::es) (tCons te t):=by
 intro pos pins s σ H Q I h
 rw [hs]
 show wpAny _ _ (spliced ((false,eval e X.env)::backTo pos (starEach es X.env))) _ _ s
 refine Calls.spliced_cons (thn (ha pins s σ H _ I h) fun u s1 ⟨x,H1,I1,r1,q1⟩=>?_)
 exact thn (hr pos pins s1 σ H1 _ I1 q1) fun us s2 ⟨xs,H2,I2,r2,q2⟩=>⟨x::xs,H2,I2,.cons r1 r2,q2⟩
structure Wf(o:List V→HO)(xs:List V)(H:Hp)(Q:VK):Prop where
 h:xs.length≤sizeLine
 q:∀p,H p=none→Q (.ref p) (upd H p (o xs))
def tTup(t:TA):TE:=fun σ H Q=>t σ H fun xs H1=>Wf .tup xs H1 Q
def tLst(t:TA):TE:=fun σ H Q=>t σ H fun xs H1=>Wf .lst xs H1 Q
theorem pe_tup{x1}(h:PA X es t):PE X (.Tuple es x1 pos) (tTup t):=by
 intro pins s σ H Q I hq
 refine wpAny_Tuple_spliced (thn (h pos pins s σ H _ I hq) fun us s1 ⟨xs,H1,I1,r,z,q⟩=>⟨by rw [←r.length];exact z,?_⟩)
 have hf:H1 s1.heap.objs.size=none:=I1.hok.fresh (Nat.le_refl _)
 refine⟨.ref s1.heap.objs.size,upd H1 s1.heap.objs.size (.tup xs),I1.laid (t':=s1.toks) (fun b u e=>Heap.get?_push_of_some _ e) (Nat.le_refl _) ?_,rfl,q _ hf⟩
 exact⟨z,us,r,⟨_,Heap.get?_push_size _ rfl,rfl,_,rfl⟩⟩
theorem pe_lst(h:PA X es t):PE X (.List es pos) (tLst t):=by
 intro pins s σ H Q I hq
 refine wpAny_List_spliced (thn (h pos pins s σ H _ I hq) fun us s1 ⟨xs,H1,I1,r,z,q⟩=>⟨by rw [←r.length];exact z,?_⟩)
 have hf:H1 s1.heap.objs.size=none:=I1.hok.fresh (Nat.le_refl _)
 refine⟨.ref s1.heap.objs.size,upd H1 s1.heap.objs.size (.lst xs),I1.laid (t':=s1.toks) (fun b u e=>Heap.get?_push_of_some _ e) (Nat.le_refl _) ?_,rfl,q _ hf⟩
 exact⟨z,us,0,r,Heap.get?_push_size _ rfl⟩
end
abbrev Sp:=List V→Hp→VK→XK→Prop
abbrev CXT:=List Env→Hp→Shared→XK→Value→Shared→Prop
structure Env0(P:Program)(w:World)(K:PySem.W.Frag)(mg:Str→Option Value)(base:Heap)(A:Around)(outer:List Env)(s:Shared)(H:Hp):Prop where
 frames:A.frames=some outer
 mod:Mod K mg base
 bs:∀b o,base.get? b=some o→s.heap.get? b=some o∧H b=none
 bsz:base.objs.size≤s.heap.objs.size
 funs:s.heap.FunFrames base outer
 frf:∀b∈frs outer,H b=none
 hok:HOk P w H s.heap
 bare:AllBare s.gens
def CE(outer:List Env)(P:Program)(w:World)(H:Hp)(s:Shared)(Q:VK)(u:Value)(s':Shared):Prop :=
 ∃v H',s'.os=s.os∧AllBare s'.gens∧Un (frs outer) [] H H' s.heap s'.heap∧HOk P w H' s'.heap∧RelV v u∧Q v H'
def CR(CX:CXT)(outer:List Env)(P:Program)(w:World)(H:Hp)(s:Shared)(Q:VK)(E:XK)(r:Result)(s':Shared):Prop :=
 match r with
 |.ok (.ret u)=>CE outer P w H s Q u s'
 |.ok _=>False
 |.error e=>CX outer H s E e s'
structure FnOk(P:Program)(w:World)(K:PySem.W.Frag)(mg:Str→Option Value)(base:Heap)(CX:CXT)(k:Nat)(f:Addr)(fd:FuncData)(ps:List Str)(sp:Sp):Prop where
 len:∀vs H Q E,sp vs H Q E→vs.length=ps.length
 run:∀(A:Around) (outer:List Env) (s:Shared) (H:Hp) (args:Args) (us:List Value) (vs:List V) (Q:VK) (E:XK),Room k A→Env0 P w K mg base A outer s H→BindsTo s fd args (ps.zip us)→Vals vs us→sp vs H Q E →
  codeAny (model P w) A (.call (.ref f) args) (CR CX outer P w H s Q E) s
section
variable{X:Cx}{pins:List (Addr × Obj)}{σ:St}{H:Hp}{s s':Shared}
theorem Inv.env0(I:Inv X pins σ H s):Env0 X.prog X.w X.K X.mg X.base X.A X.stack s H :=
 ⟨I.ok.frames,I.ok.mod,I.bs,Nat.le_trans I.ok.bsz I.sz,I.stack,I.stkFree,I.hok,I.bare⟩
theorem Inv.after{Q:VK}{u:Value}(I:Inv X pins σ H s)(h:CE X.stack X.prog X.w H s Q u s'):EP X pins σ Q u s':=by
 obtain⟨v,H',os,bare,un,hok,r,q⟩:=h
 obtain⟨hh,g,d,t,os'⟩:=s'
 obtain rfl:os'=s.os:=os
 exact⟨v,H',I.call (h':=hh) (g':=g) (d':=d) (t':=t) (ch:=[]) un hok bare (fun b z=>absurd z (by simp)),r,q⟩
end
def tCall(sp:Sp)(dvs:List V)(E:XK)(t:TA):TE:=fun σ H Q=>t σ H fun vs H1=>sp (vs++dvs) H1 Q E
def Binds(K:PySem.W.Frag)(fd:FuncData)(ps:List Str)(ds:List Value):Prop :=
 ∀(s:Shared) (us:List Value),K.In s.heap→(us++ds).length=ps.length→BindsTo s fd ⟨us,[]⟩ (ps.zip (us++ds))
theorem Binds.all{K:PySem.W.Frag}{fd:FuncData}{ps:List Str}(h:∀us:List Value,us.length=ps.length→bindArgs fd ⟨us,[]⟩=pure (ps.zip us)):Binds K fd ps []:=fun s us _ hl=>by
 rw [List.append_nil] at hl ⊢
 exact .of_eq (h us hl)
def Passes(CX:CXT)(X:Cx)(E:XK):Prop:=∀(pins:List (Addr × Obj)) (σ:St) (H:Hp) (s:Shared) (e:Value) (s':Shared),Inv X pins σ H s→CX X.stack H s E e s'→X.xe e s'
section
variable{X:Cx}{CX:CXT}{k:Nat}{f C:Addr}{fd:FuncData}{ps:List Str}{sp:Sp}{dvs:List V}{ds:List Value}{E:XK}{x m:Str}{p pos apos:Pos}{e o:Expr}{es:List Expr}{ta:TE}{t:TA}
theorem run_fn{pins:List (Addr × Obj)}{σ:St}{H:Hp}{s:Shared}{Q:VK}{us:List Value}{vs:List V}(F:FnOk X.prog X.w X.K X.mg X.base CX k f fd ps sp)(hr:Room k X.A)(hb:Binds X.K fd ps ds)(hd:Vals dvs ds)(hx:Passes CX X E)
  (I:Inv X pins σ H s) (r:Vals vs us) (h:sp (vs++dvs) H Q E):wpAny (model X.prog X.w) X.A (call (.ref f) us) (EP X pins σ Q) X.xe s:=by
 have r2:Vals (vs++dvs) (us++ds):=r.append hd
 have hl:(us++ds).length=ps.length:=by rw [←r2.length];exact F.len _ _ _ _ h
 refine wpAny_call (codeAny_mono (F.run X.A X.stack s H ⟨us,[]⟩ (us++ds) (vs++dvs) Q E hr I.env0 (hb s us I.kIn hl) r2 h) fun r s' hq=>?_)
 cases r with
 |error e=>exact hx pins σ H s e s' I hq
 |ok fl =>
  cases fl with
  |ret u=>exact I.after hq
  |next=>exact False.elim hq
  |brk=>exact False.elim hq
  |cont=>exact False.elim hq
theorem pe_call(F:FnOk X.prog X.w X.K X.mg X.base CX k f fd ps sp)(hr:Room k X.A)(hg:Gl X x)(hm:X.mg x=some (.ref f))(hk:PySem.W.keepIn X.K (.ref f)=true)(hb:Binds X.K fd ps ds)(hd:Vals dvs ds)(hx:Passes CX X E)
  (ha:PA X (e::es) t) (hdb:(x==("__debug__":Str))=false:=by decide) (he:starEach (e::es) X.env=(false,eval e X.env)::starEach es X.env:=by rfl) (hpl:(backTo pos (starEach es X.env)).any (·.1)=false:=by rfl) :
  PE X (.Call (.Name x p) (e::es) [] pos) (tCall sp dvs E t):=by
 intro pins s σ H Q I h
 refine wpAny_Call_Name_kw (ld_glob I hg hm ?_ hdb)
 refine PySem.W.callWith_K (h₀:=X.base) I.ok.mod.kin hk (thn (ha pos pins s σ H _ I h) fun us s1 ⟨vs,H1,I1,r,q⟩=>⟨I1.kIn,?_⟩) he hpl
 exact run_fn F hr hb hd hx I1 r q
structure Mk(K:PySem.W.Frag)(C f:Addr):Prop where
 makes:PySem.W.makesIn K C=true
 init:PySem.W.findIn K (.ref C) "__init__"=some (some (.ref f))
 fn:PySem.W.isFn K (.ref f)=true
 kp:PySem.W.keepIn K (.ref C)=true
end
section
variable{X:Cx}{CX:CXT}{k:Nat}{f C:Addr}{fd:FuncData}{ps ks:List Str}{sp:Sp}{E:XK}{x m:Str}{p pos apos kpos:Pos}{e o:Expr}{es:List Expr}{kws:List Keyword}{te ta:TE}{t tk:TA}{nm:Option Str}
structure KBinds(K:PySem.W.Frag)(fd:FuncData)(ps ks:List Str)(g:List Value→List Value→List Value)(gV:List V→List V→List V):Prop where
 to:∀(s:Shared) (us ws:List Value),K.In s.heap→(g us ws).length=ps.length→BindsTo s fd ⟨us,ks.zip ws⟩ (ps.zip (g us ws))
 rel:∀{vs:List V} {us:List Value} {zs:List V} {ws:List Value},Vals vs us→Vals zs ws→Vals (gV vs zs) (g us ws)
variable{g:List Value→List Value→List Value}{gV:List V→List V→List V}
end
structure FnScope(N P:List Str)(sc:Scope):Prop where
 kind:sc.kind=.function
 co:sc.isCoroutine=false
 gen:sc.isGenerator=false
 nd:N.Nodup
 pre:N.take P.length=P
 par:∀x∈P,sc.names.lookup x=some .local∨sc.names.lookup x=some .cell
 nofree:∀y∈sc.names,y.2≠.free
theorem bindL_out{kindOf:Str→Option NameKind}{x:Str}:∀{binds:List (Str × Value)} {m:Str→Option Value},(∀v,(x,v)∉binds)→bindL kindOf binds m x=m x
 |[],_,_=>rfl
 |(n,v)::r,m,h=>by
  unfold bindL
  rw [bindL_out fun w hw=>h w (List.mem_cons_of_mem _ hw)]
  split
  ·have:x≠n:=by rintro rfl;exact h v List.mem_cons_self
   simp [this]
  ·rfl
theorem bindC_out{kindOf:Str→Option NameKind}{x:Str}:∀{binds:List (Str × Value)} {m:Str→Option Value},(∀v,(x,v)∉binds)→bindC kindOf binds m x=m x
 |[],_,_=>rfl
 |(n,v)::r,m,h=>by
  unfold bindC
  rw [bindC_out fun w hw=>h w (List.mem_cons_of_mem _ hw)]
  split
  ·rfl
  ·have:x≠n:=by rintro rfl;exact h v List.mem_cons_self
   simp [this]
theorem bindL_get{kindOf:Str→Option NameKind}{x:Str}{v:Value}:∀{P:List Str} {vs:List Value} {i:Nat} {m:Str→Option Value},P.Nodup→P[i]?=some x→vs[i]?=some v→kindOf x=some .local →
  bindL kindOf (P.zip vs) m x=some v
 |[],_,_,_,_,h,_,_=>by simp at h
 |_::_,[],_,_,_,_,h,_=>by simp at h
 |p::P,w::vs,0,m,nd,h1,h2,hk=>by
  simp at h1 h2;subst h1;subst h2
  show bindL kindOf ((p,w)::P.zip vs) m p=_
  unfold bindL
  rw [bindL_out fun v hv=>(List.nodup_cons.mp nd).1 (List.of_mem_zip hv).1,if_pos hk]
  simp
 |p::P,w::vs,i+1,m,nd,h1,h2,hk=>by
  show bindL kindOf ((p,w)::P.zip vs) m x=_
  unfold bindL
  exact bindL_get (i:=i) (List.nodup_cons.mp nd).2 (by simpa using h1) (by simpa using h2) hk
theorem bindC_get{kindOf:Str→Option NameKind}{x:Str}{v:Value}:∀{P:List Str} {vs:List Value} {i:Nat} {m:Str→Option Value},P.Nodup→P[i]?=some x→vs[i]?=some v→kindOf x≠some .local →
  bindC kindOf (P.zip vs) m x=some v
 |[],_,_,_,_,h,_,_=>by simp at h
 |_::_,[],_,_,_,_,h,_=>by simp at h
 |p::P,w::vs,0,m,nd,h1,h2,hk=>by
  simp at h1 h2;subst h1;subst h2
  show bindC kindOf ((p,w)::P.zip vs) m p=_
  unfold bindC
  rw [bindC_out fun v hv=>(List.nodup_cons.mp nd).1 (List.of_mem_zip hv).1,if_neg hk]
  simp
 |p::P,w::vs,i+1,m,nd,h1,h2,hk=>by
  show bindC kindOf ((p,w)::P.zip vs) m x=_
  unfold bindC
  exact bindC_get (i:=i) (List.nodup_cons.mp nd).2 (by simpa using h1) (by simpa using h2) hk
def start(N:List Str)(vs:List V):St:=vs.map some++List.replicate (N.length - vs.length) none
def cxOf(CX:CXT)(P:Program)(w:World)(K:PySem.W.Frag)(mg:Str→Option Value)(base:Heap)(N:List Str)(qual:Str)(scope:Scope)(f:Addr)(cd:Value)(A:Around)(outer:List Env)(s:Shared)(H:Hp)(E:XK):Cx where
 prog:=P
 w:=w
 K:=K
 mg:=mg
 base:=base
 A:=A.deeper (envOfC qual scope s.heap.objs.size f cd)
 N:=N
 s₀:=s
 H₀:=H
 env:=envOfC qual scope s.heap.objs.size f cd
 outer:=outer
 stack:=envOfC qual scope s.heap.objs.size f cd::outer
 ex:=[]
 calm:=true
 fn:=fun _=>true
 pn:=[]
 xe:=fun e s'=>wpAny (model P w) (A.deeper (envOfC qual scope s.heap.objs.size f cd)) (leaving (envOfC qual scope s.heap.objs.size f cd) e) (fun _ s''=>CX outer H s E e s'') (fun e' s''=>CX outer H s E e' s'') s'
theorem cell_has{sc:Scope}{n:Nat}{x:Str}(h:sc.names.lookup x=some .cell):∃c,(cellsFrom n sc.names []).lookup x=some c:=by
 have q:=PySem.W.cellsFrom_some sc.names n [] (.inl h)
 exact Option.isSome_iff_exists.mp q
theorem inv_start{CX:CXT}{P:Program}{w:World}{K:PySem.W.Frag}{mg:Str→Option Value}{base:Heap}{N ps:List Str}{qual:Str}{scope:Scope}{f:Addr}{cd:Value}{A:Around}{outer:List Env}{s s1:Shared}{H:Hp}{E:XK}{us:List Value}{vs:List V}
  (S:FnScope N ps scope) (hd:A.handled=none) (e0:Env0 P w K mg base A outer s H) (hl:vs.length=ps.length) (r:Vals vs us)
  (x:InCallC s s.heap.objs.size (bindL (envOfC qual scope s.heap.objs.size f cd).kindOf (ps.zip us) fun _=>none) (cellsFrom (s.heap.objs.size+1) scope.names []) (bindC (envOfC qual scope s.heap.objs.size f cd).kindOf (ps.zip us) fun _=>none) s1) :
  Inv (cxOf CX P w K mg base N qual scope f cd A outer s H E) [] (start N vs) H s1:=by
 have hpl:ps.length≤N.length:=by have:=congrArg List.length S.pre;rw [List.length_take] at this;omega
 obtain⟨h1,tk,rfl,hk⟩:=x.done
 have noA:∀b:Addr,b∉(cxOf CX P w K mg base N qual scope f cd A outer s H E).ex:=fun b z=>absurd (show b∈([]:List Addr) from z) (by simp)
 refine⟨⟨e0.mod,S.kind,rfl,rfl,Nat.le_refl _,fun y z c h1 h2=>?_,fun y hy=>?_,fun y c _ h=>?_,fun _=>hd,Around.frames_deeper e0.frames,.inr ⟨rfl,rfl⟩,fun b z=>absurd z (noA b),e0.bs,e0.bsz,fun b _ _=>noA b,fun b z=>absurd z (noA b),e0.funs,e0.frf⟩,
  rfl,e0.bare,Un.kept hk,⟨_,x.toInCall.ns,fun i y v h1 h2 h3=>?_⟩,fun y c h=>⟨_,x.cell y c h⟩,e0.hok.fresh (Nat.le_refl _),fun y c h=>?_,fun p hp=>absurd (show p∈([]:List (Addr × Obj)) from hp) (by simp),e0.hok.kept hk,?_⟩
 ·exact name_of_addr x.apart (PySem.mem_of_lookup h1) (PySem.mem_of_lookup h2)
 ·have hy:scope.names.lookup y=some .cell∨scope.names.lookup y=some .free:=hy
  rcases hy with hy|hy
  ·exact cell_has hy
  ·exact absurd rfl (S.nofree _ (PySem.mem_of_lookup hy))
 ·exact Nat.le_of_lt (x.above y c (PySem.mem_of_lookup h))
 ·have hi:i < vs.length:=by
   unfold start at h2
   by_cases hi:i < vs.length
   ·exact hi
   ·rw [List.getElem?_append_right (by simpa using hi)] at h2
    rw [List.getElem?_replicate] at h2
    split at h2<;>cases h2
  have ha:vs[i]?=some v:=by
   unfold start at h2
   rw [List.getElem?_append_left (by simpa using hi),List.getElem?_map] at h2
   cases e:vs[i]? with
   |none=>rw [e] at h2;cases h2
   |some a=>rw [e] at h2;cases h2;rfl
  obtain⟨u,hu,rv⟩:=r.get ha
  have hp:ps[i]?=some y:=by
   rw [←S.pre,List.getElem?_take_of_lt (by omega)];exact h1
  have ndP:ps.Nodup:=by rw [←S.pre];exact S.nd.sublist (List.take_sublist _ _)
  refine⟨u,rv,?_⟩
  rcases S.par y (List.mem_of_getElem? hp) with k|k
  ·exact .inl ⟨k,bindL_get ndP hp hu k⟩
  ·obtain⟨c,e⟩:=cell_has (n:=s.heap.objs.size+1) k
   refine .inr ⟨.inl k,c,e,?_⟩
   have q:=x.cell y c e
   rw [bindC_get ndP hp hu (by show scope.names.lookup y≠_;rw [k];decide)] at q
   exact q
 ·exact e0.hok.fresh (Nat.le_of_lt (x.above y c (PySem.mem_of_lookup h)))
 ·unfold start
  show _=N.length
  rw [List.length_append,List.length_map,List.length_replicate]
  omega
theorem fn_of{CX:CXT}{P:Program}{w:World}{K:PySem.W.Frag}{mg:Str→Option Value}{base:Heap}{k:Nat}{f:Addr}{name qual:Str}{params:Arguments}{body:List Stmt}{scope:Scope}{dV kV doc pm cdv ct oc:Value}{an od:Option Addr}
  {osl:Array (Option Value)} {N ps:List Str} {sp:Sp} (lk:K.lookup f=some ⟨oc,od,.func (PySem.W.fnOf name qual params body scope dV kV doc pm an cdv ct),osl⟩) (hcd:PySem.W.codeIn K cdv qual=true) (S:FnScope N ps scope)
  (len:∀vs H Q E,sp vs H Q E→vs.length=ps.length)
  (hbody:∀(A:Around) (outer:List Env) (s:Shared) (H:Hp) (vs:List V) (Q:VK) (E:XK),Room k (A.deeper (envOfC qual scope s.heap.objs.size f cdv))→sp vs H Q E →
   ∃t,PSs (cxOf CX P w K mg base N qual scope f cdv A outer s H E) body t∧t { nx:=fun _ H'=>Q .non H',rt:=Q } (start N vs) H) :
  FnOk P w K mg base CX (k+1) f (PySem.W.fnOf name qual params body scope dV kV doc pm an cdv ct) ps sp:=by
 refine⟨len,fun A outer s H args us vs Q E hr e0 hb r hsp=>?_⟩
 have hl:=len _ _ _ _ hsp
 have KX:K.In s.heap:=e0.mod.kin.keeps fun b o e=>(e0.bs b o e).1
 have lim:s.heap.NoLimit:=e0.mod.nolimit.keeps fun b o e=>(e0.bs b o e).1
 have hkind:∀y∈ps.zip us,scope.names.lookup y.1=some .local∨(scope.names.lookup y.1=some .cell∧((cellsFrom (s.heap.objs.size+1) scope.names []).lookup y.1).isSome=true):=fun⟨n,v⟩ hy=>by
  rcases S.par n (List.of_mem_zip hy).1 with q|q
  ·exact .inl q
  ·exact .inr ⟨q,PySem.W.cellsFrom_some _ _ _ (.inl q)⟩
 refine codeAny_call_function hr.depth (KX _ _ lk) rfl S.co S.gen rfl (PySem.W.codeRec_of KX hcd) (hb _ _ _ _ ?_)
 refine wpAny_newFunctionEnv_cells S.kind hkind fun env he s1 x=>?_
 subst he
 refine⟨lim.keeps x.toInCall.keep,codeAny_func ?_⟩
 obtain⟨t,ht,hq⟩:=hbody A outer s H vs Q E (hr.deeper _) hsp
 have I:Inv (cxOf CX P w K mg base N qual scope f cdv A outer s H E) [] (start N vs) H s1:=inv_start S hr.hd e0 hl r x
 refine wpAny_mono (ht [] s1 (start N vs) H _ I hq) (fun fl s' hs=>?_) fun e s' hs=>hs
 have fin:∀{σ':St} {H':Hp} {v:V} {u:Value},Inv (cxOf CX P w K mg base N qual scope f cdv A outer s H E) [] σ' H' s'→RelV v u→Q v H'→CE outer P w H s Q u s' :=
  fun {σ' H' v u} J rv q=>⟨v,H',J.os,J.bare,J.base,J.hok,rv,q⟩
 cases fl with
 |ret u =>
  obtain⟨v,σ',H',J,rv,q⟩:=hs
  exact fin J rv q
 |next =>
  obtain⟨σ',H',J,q⟩:=hs
  exact fin (v:=V.non) (u:=Value.none) J rfl q
 |brk =>
  obtain⟨_,_,_,q⟩:=hs
  exact False.elim q
 |cont =>
  obtain⟨_,_,_,q⟩:=hs
  exact False.elim q
end L2
namespace L2
open PySem PySem.Spec PyProof.Rows
section
variable{X:Cx}{x:Str}{p pos:Pos}{e:Expr}{es:List Expr}{t:TA}{id T:String}{r:List V→Hp→VK→Prop}
def tCB(r:List V→Hp→VK→Prop)(t:TA):TE:=fun σ H Q=>t σ H fun vs H1=>r vs H1 Q
theorem pe_callB(hc:CallR X (.builtin id) r)(hg:Gl X x)(hm:X.mg x=none)(hv:bootBuiltins x=some (.builtin id))(ha:PA X (e::es) t) (hn:x≠"__name__":=by decide) (hdb:(x==("__debug__":Str))=false:=by decide)
  (he:starEach (e::es) X.env=(false,eval e X.env)::starEach es X.env:=by rfl) (hpl:(backTo pos (starEach es X.env)).any (·.1)=false:=by rfl):PE X (.Call (.Name x p) (e::es) [] pos) (tCB r t):=by
 intro pins s σ H Q I h
 refine wpAny_Call_Name_kw (ld_blt I hg hm hv ?_ hn hdb)
 exact PyProof.Rows.callWith_builtin1 (thn (ha pos pins s σ H _ I h) fun us s1 ⟨vs,H1,I1,r1,q1⟩=>hc pins s1 σ H1 vs us Q I1 r1 q1) he hpl
theorem pe_callTy(hc:CallR X (.type T) r)(hg:Gl X x)(hm:X.mg x=none)(hv:bootBuiltins x=some (.type T))(ha:PA X (e::es) t) (hn:x≠"__name__":=by decide) (hdb:(x==("__debug__":Str))=false:=by decide)
  (he:starEach (e::es) X.env=(false,eval e X.env)::starEach es X.env:=by rfl) (hpl:(backTo pos (starEach es X.env)).any (·.1)=false:=by rfl):PE X (.Call (.Name x p) (e::es) [] pos) (tCB r t):=by
 intro pins s σ H Q I h
 refine wpAny_Call_Name_kw (ld_blt I hg hm hv ?_ hn hdb)
 exact PyProof.Rows.callWith_type1 (thn (ha pos pins s σ H _ I h) fun us s1 ⟨vs,H1,I1,r1,q1⟩=>hc pins s1 σ H1 vs us Q I1 r1 q1) he hpl
end
end L2
namespace HT
open PySem PyProof.Rows
section
open PySem.SeqAt
open PySem.AutoSeq1 (wpAny_loadPart')
open PySem.MeetsSeq PySem.MeetsSeq2 PySem.MeetsSeq3
end
section
variable{prog:Program}{w:World}{A:Around}{E:Value→Shared→Prop}{s:Shared}
def sIx(n d:Nat):Option Int→Nat
 |none=>d
 |some v=>if v < 0 then (v+(n:Int)).toNat else min v.toNat n
theorem sIx_none(n d:Nat):sIx n d none=d:=rfl
theorem sIx_nat(n d k:Nat):sIx n d (some (k:Int))=min k n:=by
 show(if (k:Int) < 0 then ((k:Int)+(n:Int)).toNat else min (k:Int).toNat n)=min k n
 rw [if_neg (by omega),Int.toNat_natCast]
theorem sIx_le(n d:Nat)(hd:d≤n)(o:Option Int):sIx n d o≤n:=by
 cases o with
 |none=>exact hd
 |some v =>
  show(if v < 0 then (v+(n:Int)).toNat else min v.toNat n)≤n
  by_cases hv:v < 0
  ·rw [if_pos hv];omega
  ·rw [if_neg hv];exact Nat.min_le_right _ _
theorem clip_eq(v:Int)(n d:Nat):(if v < 0 then max (v+(n:Int)) 0 else min v (n:Int))=((sIx n d (some v):Nat):Int):=by
 show(if v < 0 then max (v+(n:Int)) 0 else min v (n:Int))=(((if v < 0 then (v+(n:Int)).toNat else min v.toNat n):Nat):Int)
 by_cases hv:v < 0
 ·simp only [if_pos hv];omega
 ·simp only [if_neg hv];omega
theorem adjust_gen(lo hi:Option Int)(n:Nat):Builtin.Slice.sliceAdjust lo hi 1 (n:Int)=(((sIx n 0 lo:Nat):Int),((sIx n n hi:Nat):Int)):=by
 have h1:¬((1:Int) < 0):=by omega
 unfold Builtin.Slice.sliceAdjust
 simp only [h1,if_false]
 refine Prod.ext ?_ ?_
 ·cases lo with
  |none=>rfl
  |some v=>exact clip_eq v n 0
 ·cases hi with
  |none=>rfl
  |some v=>exact clip_eq v n n
theorem places_gen(i j:Nat):Builtin.Slice.slicePlaces (i:Int) (j:Int) 1=j - i:=by
 unfold Builtin.Slice.slicePlaces
 have h1:(1:Int) > 0:=by omega
 simp only [h1,if_true,Int.ediv_one]
 split<;>omega
theorem slicePart_{v:Value}{o:Option Int}{Q:Option Int→Shared→Prop}(p:IsPart v o)(h:Q o s):wpAny (model prog w) A (Builtin.Slice.slicePartIndex v) Q E s:=by
 cases p with
 |none=>exact slicePart_none h
 |int i t=>exact slicePart_int h
theorem sliceApplied_gen{sl:Addr}{vl vu:Value}{lo hi:Option Int}{n:Nat}{Q:Int × Int × Nat→Shared→Prop}(hs:s.heap.IsSliceOf sl vl vu .none)(pl:IsPart vl lo)(pu:IsPart vu hi)
  (h:Q (((sIx n 0 lo:Nat):Int),1,sIx n n hi - sIx n 0 lo) s):wpAny (model prog w) A (Builtin.Slice.sliceApplied (.ref sl) (pure (n:Int))) Q E s:=by
 obtain⟨os,hos,hcs,hds⟩:=id hs
 unfold Builtin.Slice.sliceApplied Builtin.Slice.sliceFields
 refine wpAny_bind (wpAny_bind (wpAny_field hos hds (x:=vl) rfl (wpAny_bind (wpAny_field hos hds (x:=vu) rfl (wpAny_bind (wpAny_field hos hds (x:=.none) rfl (wpAny_pure ?_)))))))
 refine wpAny_bind (slicePart_none ?_)
 show wpAny _ _ (if ((1:Int)==0)=true then _ else _) _ _ s
 rw [if_neg (by decide)]
 refine wpAny_bind (slicePart_ pl (wpAny_bind (slicePart_ pu (wpAny_bind (wpAny_pure ?_)))))
 show wpAny _ _ (match Builtin.Slice.sliceAdjust lo hi 1 (n:Int) with|(lo,hi)=>pure (lo,(1:Int),Builtin.Slice.slicePlaces lo hi 1)) _ _ s
 rw [adjust_gen lo hi n]
 show wpAny _ _ (pure (((sIx n 0 lo:Nat):Int),(1:Int),Builtin.Slice.slicePlaces ((sIx n 0 lo:Nat):Int) ((sIx n n hi:Nat):Int) 1)) _ _ s
 rw [places_gen]
 exact wpAny_pure h
theorem pick_gen(xs:Array Value)(i k:Nat):((List.range k).filterMap fun(m:Nat)=>xs[((i:Int)+(m:Int)*1).toNat]?).toArray=((xs.toList.drop i).take k).toArray:=by
 have e:(fun(m:Nat)=>xs[((i:Int)+(m:Int)*1).toNat]?)=fun m=>xs[i+m]?:=by
  funext m
  have:((i:Int)+(m:Int)*1).toNat=i+m:=by omega
  rw [this]
 rw [e]
 have:=pick_run xs i k
 rw [List.filterMap_map] at this
 have e2:((fun x=>xs[x]?)∘fun x=>i+x)=fun m=>xs[i+m]?:=rfl
 rw [e2] at this
 rw [this]
theorem getItem_tuple_cut{t sl:Addr}{items:Array Value}{vl vu:Value}{lo hi:Option Int}{Q:Value→Shared→Prop}(ht:IsTup s.heap t items)(hs:s.heap.IsSliceOf sl vl vu .none)(pl:IsPart vl lo)(pu:IsPart vu hi)
  (hw:¬(sIx items.size 0 lo=0∧sIx items.size items.size hi=items.size))
  (h:Q (.ref s.heap.objs.size) { s with heap:=s.heap.push { cls:=.type "tuple",data:=.seq ((items.toList.drop (sIx items.size 0 lo)).take (sIx items.size items.size hi - sIx items.size 0 lo)).toArray } })
  (hsz:items.size≤sizeLine):wpAny (model prog w) A (getItem (.ref t) (.ref sl)) Q E s:=by
 have htake:sizeOk (.seq ((items.toList.drop (sIx items.size 0 lo)).take (sIx items.size items.size hi - sIx items.size 0 lo)).toArray):=by
  show((items.toList.drop (sIx items.size 0 lo)).take (sIx items.size items.size hi - sIx items.size 0 lo)).toArray.size≤sizeLine
  rw [List.size_toArray,List.length_take,List.length_drop,Array.length_toList]
  omega
 have hj:sIx items.size items.size hi≤items.size:=sIx_le _ _ (Nat.le_refl _) hi
 obtain⟨os,hos,hcs,hds⟩:=id hs
 have hTs:s.TypeIs (.ref sl) "slice":=⟨os,hos,hcs⟩
 unfold getItem
 try with_reducible refine wpAny_holding ?_
 first|refine wpAny_bind (wpAny_pure ?_)|skip
 refine wpAny_bind (wpAny_sequenceKey ht.typeIs (by decide) ?_)
 refine wpAny_bind (wpAny_callSpecial?_slot (name:=Str.ofString "__getitem__") ht.typeIs PyProof.Rows.slot_tuple_getitem
  (wpAny_call_entry PyProof.Rows.slot_tuple_getitem ht.typeIs entry_tuple_getitem ?_ (args_tuple_getitem _ _)))
 show wpAny _ _ (Builtin.Tuple.tupleItemsOf (.ref t) >>= _) _ _ s
 refine wpAny_bind (tupleItemsOf_ ht ?_)
 refine wpAny_bind (wpAny_typeOf hTs ?_)
 rw [if_pos (by decide)]
 refine wpAny_bind (sliceApplied_gen hs pl pu ?_)
 have hno:¬((((sIx items.size 0 lo:Nat):Int)==0&&(1:Int)==1&&(sIx items.size items.size hi - sIx items.size 0 lo)==items.size)=true):=by
  intro q
  rw [Bool.and_eq_true,Bool.and_eq_true] at q
  have q1:((sIx items.size 0 lo:Nat):Int)=0:=eq_of_beq q.1.1
  have q2:sIx items.size items.size hi - sIx items.size 0 lo=items.size:=eq_of_beq q.2
  exact hw ⟨by omega,by omega⟩
 show wpAny _ _ (if (((sIx items.size 0 lo:Nat):Int)==0&&(1:Int)==1&&(sIx items.size items.size hi - sIx items.size 0 lo)==items.size)=true then _ else _) _ _ s
 rw [if_neg hno,pick_gen]
 first
  |exact wpAny_bind (m:=Builtin.Tuple.tupleExact _) (wpAny_newObj_type (wpAny_pure ⟨_,rfl,wpAny_pure h⟩) htake)
  |exact wpAny_bind (m:=Builtin.Tuple.tupleExact _) (wpAny_newObj_type (wpAny_bind (wpAny_pure (wpAny_pure ⟨_,rfl,wpAny_pure h⟩))) htake)
  |exact wpAny_bind (wpAny_bind (m:=Builtin.Tuple.tupleExact _) (wpAny_newObj_type (wpAny_pure (wpAny_pure ⟨_,rfl,wpAny_pure h⟩)) htake))
  |exact wpAny_bind (wpAny_bind (m:=Builtin.Tuple.tupleExact _) (wpAny_newObj_type (wpAny_pure ⟨_,rfl,wpAny_pure h⟩) htake))
end
end HT
namespace L2
open PySem PySem.Spec PyProof.Rows
abbrev TO:=St→Hp→(Option Int→Hp→Prop)→Prop
def PO(X:Cx)(e:Option Expr)(t:TO):Prop :=
 ∀(pins:List (Addr × Obj)) (s:Shared) (σ:St) (H:Hp) (Q:Option Int→Hp→Prop),Inv X pins σ H s→t σ H Q →
  wpAny (model X.prog X.w) X.A (evalPart e X.env) (fun u s'=>∃o H',Inv X pins σ H' s'∧IsPart u o∧Q o H') X.xe s
def tNoPart:TO:=fun _ H Q=>Q none H
def tPart(t:TE):TO:=fun σ H Q=>t σ H fun x H1=>∃i,x=.int i∧Q (some i) H1
section
variable{X:Cx}{e:Expr}{te:TE}{lo hi:Option Expr}{tl th:TO}{pos p2:Pos}
theorem po_none:PO X none tNoPart:=by
 intro pins s σ H Q I h
 rw [evalPart_none]
 exact wpAny_pure ⟨none,H,I,.none,h⟩
theorem po_some(h:PE X e te):PO X (some e) (tPart te):=by
 intro pins s σ H Q I hw
 rw [evalPart_some]
 refine thn (h pins s σ H _ I hw) fun u s1 ⟨x,H1,I1,r1,q1⟩=>?_
 obtain⟨i,rfl,q⟩:=q1
 obtain⟨t,rfl⟩:=r1
 exact⟨some i,H1,I1,.int i t,q⟩
def SlR(X:Cx)(r:V→Option Int→Option Int→Hp→VK→Prop):Prop :=
 ∀(pins:List (Addr × Obj)) (s:Shared) (σ:St) (H:Hp) (x:V) (v vl vu:Value) (lo hi:Option Int) (sl:Addr) (Q:VK),Inv X pins σ H s→RelV x v→s.heap.IsSliceOf sl vl vu .none→IsPart vl lo→IsPart vu hi→r x lo hi H Q →
  ∃T id,typeLookup (.type T) "__getitem__"=pure (some (.builtin id))∧s.TypeIs v T∧wpAny (model X.prog X.w) X.A (getItem v (.ref sl)) (EP X pins σ Q) X.xe s
def tSl(r:V→Option Int→Option Int→Hp→VK→Prop)(te:TE)(tl th:TO):TE:=fun σ H Q=>te σ H fun x H1=>tl σ H1 fun l H2=>th σ H2 fun u H3=>r x l u H3 Q
theorem pe_slice{r:V→Option Int→Option Int→Hp→VK→Prop}(hr:SlR X r)(he:PE X e te)(hl:PO X lo tl)(hu:PO X hi th):PE X (.Subscript e (.Slice lo hi none p2) pos) (tSl r te tl th):=by
 intro pins s σ H Q I h
 refine Subscript_ (thn (he pins s σ H _ I h) fun v s1 ⟨x,H1,I1,r1,q1⟩=>?_)
 refine wpAny_Slice (thn (hl pins s1 σ H1 _ I1 q1) fun vl s2 ⟨l,H2,I2,pl,q2⟩=>thn (hu pins s2 σ H2 _ I2 q2) fun vu s3 ⟨u,H3,I3,pu,q3⟩=>?_)
 rw [evalPart_none]
 refine wpAny_pure ?_
 have I4:Inv X pins σ H3 { s3 with heap:=s3.heap.push { cls:=.type "slice",data:=.fields #[vl,vu,.none] } }:=I3.kept (t':=s3.toks) fun b ob q=>Heap.get?_push_of_some _ q
 obtain⟨T,id,hT,ht,hg⟩:=hr pins { s3 with heap:=s3.heap.push { cls:=.type "slice",data:=.fields #[vl,vu,.none] } } σ H3 x v vl vu l u s3.heap.objs.size Q I4 r1 (Heap.IsSliceOf.new ..) pl pu q3
 show wpAny (model X.prog X.w) X.A (subscriptTail e (.Slice lo hi none p2) v (.ref s3.heap.objs.size)) (EP X pins σ Q) X.xe { s3 with heap:=s3.heap.push { cls:=.type "slice",data:=.fields #[vl,vu,.none] } }
 exact tail_any (ops:=[.ref s3.heap.objs.size,v]) ht hT hg (by with_unfolding_all rfl)
def cutV(xs:List V)(lo hi:Option Int):List V:=(xs.drop (HT.sIx xs.length 0 lo)).take (HT.sIx xs.length xs.length hi - HT.sIx xs.length 0 lo)
theorem cutV_length(xs:List V)(lo hi:Option Int):(cutV xs lo hi).length≤xs.length:=by
 unfold cutV
 rw [List.length_take,List.length_drop]
 omega
def rSlT(K:PySem.W.Frag):V→Option Int→Option Int→Hp→VK→Prop:=fun x lo hi H Q=>∃a xs,x=.ref a∧SqT K H a xs ∧
 ¬(HT.sIx xs.length 0 lo=0∧HT.sIx xs.length xs.length hi=xs.length)∧∀p,H p=none→Q (.ref p) (upd H p (.tup (cutV xs lo hi)))
theorem sl_tup:SlR X (rSlT X.K):=by
 intro pins s σ H x v vl vu lo hi sl Q I rx hs pl pu h
 obtain⟨a,xs,rfl,hx,hw,q⟩:=h
 cases rx
 obtain⟨its,r,ht,hz⟩:=I.tuple hx
 have hlen:its.toArray.size=xs.length:=by rw [List.size_toArray];exact r.length.symm
 refine⟨"tuple",_,PyProof.Rows.slot_tuple_getitem.lookup,ht.typeIs,?_⟩
 refine HT.getItem_tuple_cut ht hs pl pu (by rw [hlen];exact hw) ?_ (by rw [hlen];exact hz)
 rw [hlen]
 refine⟨.ref s.heap.objs.size,_,I.laid (t':=s.toks) (o:=.tup (cutV xs lo hi)) (fun b ob q=>Heap.get?_push_of_some _ q) (Nat.le_refl _) ?_,rfl,q _ (I.hok.fresh (Nat.le_refl _))⟩
 exact⟨Nat.le_trans (cutV_length xs lo hi) hz,_,(r.drop (HT.sIx xs.length 0 lo)).take (HT.sIx xs.length xs.length hi - HT.sIx xs.length 0 lo),IsTup.new _ _⟩
end
end L2
namespace L2
open PySem PySem.Spec PyProof.Rows
def ixN(n:Nat)(i:Int):Option Nat:=if 0≤i then (if i < n then some i.toNat else none) else if -(n:Int)≤i then some (i+n).toNat else none
def atI{α:Type}(xs:List α)(i:Int):Option α:=(ixN xs.length i).bind fun j=>xs[j]?
theorem ixN_seq{n:Nat}{i:Int}{j:Nat}(h:ixN n i=some j):seqIndex? i n=some j∧j < n∧-(n:Int)≤i∧i < n:=by
 unfold ixN at h
 by_cases h0:0≤i
 ·rw [if_pos h0] at h
  by_cases h1:i < n
  ·rw [if_pos h1] at h
   have e:i.toNat=j:=Option.some.inj h
   exact⟨by rw [seqIndex_of h0 h1,e],by omega,by omega,h1⟩
  ·rw [if_neg h1] at h;cases h
 ·rw [if_neg h0] at h
  by_cases h1:-(n:Int)≤i
  ·rw [if_pos h1] at h
   have e:(i+n).toNat=j:=Option.some.inj h
   exact⟨by rw [seqIndex_neg (by omega) h1,e],by omega,h1,by omega⟩
  ·rw [if_neg h1] at h;cases h
theorem atI_get{α:Type}{xs:List α}{i:Int}{v:α}(h:atI xs i=some v):∃j,seqIndex? i xs.length=some j∧xs[j]?=some v∧j < xs.length∧-(xs.length:Int)≤i∧i < xs.length:=by
 unfold atI at h
 cases e:ixN xs.length i with
 |none=>rw [e] at h;cases h
 |some j =>
  rw [e] at h
  obtain⟨h1,h2,h3,h4⟩:=ixN_seq e
  exact⟨j,h1,h,h2,h3,h4⟩
theorem atI_nat{α:Type}{xs:List α}{j:Nat}{v:α}(h:xs[j]?=some v):atI xs (j:Int)=some v:=by
 have hj:j < xs.length:=(List.getElem?_eq_some_iff.mp h).1
 have e:ixN xs.length (j:Int)=some j:=by
  unfold ixN
  rw [if_pos (by omega),if_pos (by omega)];simp
 unfold atI;rw [e];exact h
def PlainIx(b:Expr):Prop:=∀o i,subscripted b false o i=operate [o,i] (getItem o i)
def IxR(X:Cx)(r:R2):Prop :=
 ∀(value slice:Expr) (pins:List (Addr × Obj)) (s:Shared) (σ:St) (H:Hp) (x y:V) (v u:Value) (Q:VK),Inv X pins σ H s→RelV x v→RelV y u→r x y H Q →
  subscripted slice false v u=operate [v,u] (getItem v u)→wpAny (model X.prog X.w) X.A (subscriptTail value slice v u) (EP X pins σ Q) X.xe s
def MtR(X:Cx)(id:String)(r:V→List V→Hp→VK→Prop):Prop :=
 ∀(pins:List (Addr × Obj)) (s:Shared) (σ:St) (H:Hp) (x:V) (xs:List V) (v:Value) (us:List Value) (Q:VK),Inv X pins σ H s→RelV x v→Vals xs us→r x xs H Q →
  wpAny (model X.prog X.w) X.A (call (.builtin id) (v::us)) (EP X pins σ Q) X.xe s
section
variable{X:Cx}{a b:Expr}{ta tb:TE}{pos:Pos}
theorem pe_ix{r:R2}(hr:IxR X r)(ha:PE X a ta)(hb:PE X b tb)(hs:PlainIx b):PE X (.Subscript a b pos) (tOp r ta tb):=by
 intro pins s σ H Q I h
 exact Subscript_ (binT ha hb I h fun v u s2 x y H2 I2 rx ry q=>hr a b pins s2 σ H2 x y v u Q I2 rx ry q (hs _ _))
inductive Wg (S:PySem.W.Frag→Hp→Addr→List V→Prop) (K:PySem.W.Frag) (x y:V) (H:Hp) (Q:VK):Prop
 |mk (p:Addr) (xs:List V) (i:Int) (v:V) (a:x=.ref p) (b:y=.int i) (c:S K H p xs) (d:atI xs i=some v) (q:Q v H)
def rIxL(K:PySem.W.Frag):R2:=fun x y H Q=>Wg SqL K x y H Q
def rIxT(K:PySem.W.Frag):R2:=fun x y H Q=>Wg SqT K x y H Q
def rIxS:R2:=fun x y H Q=>∃z i c,x=.str z∧y=.int i∧z.length≤sizeLine∧atI z.cps.toList i=some c∧Q (.str ⟨#[c]⟩) H
theorem ix_list:IxR X (rIxL X.K):=by
 intro value slice pins s σ H x y v u Q I rx ry h hs
 obtain⟨p,xs,i,z,rfl,rfl,hq,he,q⟩:=h
 cases rx
 obtain⟨t,rfl⟩:=ry
 obtain⟨its,r,pl,hz⟩:=I.list hq
 obtain⟨j,h1,h2,h3,h4,h5⟩:=atI_get he
 obtain⟨w,ew,rw'⟩:=r.get h2
 have hl:=r.length
 have hn:=line63
 have fin:EP X pins σ Q w s:=⟨z,H,I,rw',q⟩
 by_cases h0:0≤i
 ·have hj:i.toNat=j:=by
   rw [seqIndex_of h0 h5] at h1
   exact Option.some.inj h1
  exact item_listR pl.isList h0 (by omega) (by rw [hj];simpa using ew) fin hs
 ·have hj:(i+(its.toArray.size:Int)).toNat=j:=by
   rw [seqIndex_neg (by omega) h4] at h1
   rw [List.size_toArray,←hl]
   exact Option.some.inj h1
  exact subscriptTail_builtinR (x:=w) pl.isList.typeIs slot_list_getitem.lookup
   (wpAny_getItem_list_neg (Q:=fun r s'=>r=w∧EP X pins σ Q r s') pl.isList (by omega) (by rw [List.size_toArray]<;>omega) (by omega) (by rw [hj];simpa using ew) ⟨rfl,fin⟩) hs
theorem ix_tup:IxR X (rIxT X.K):=by
 intro value slice pins s σ H x y v u Q I rx ry h hs
 obtain⟨p,xs,i,z,rfl,rfl,hq,he,q⟩:=h
 cases rx
 obtain⟨t,rfl⟩:=ry
 obtain⟨its,r,pl,hz⟩:=I.tuple hq
 obtain⟨j,h1,h2,h3,h4,h5⟩:=atI_get he
 obtain⟨w,ew,rw'⟩:=r.get h2
 have hl:=r.length
 have hn:=line63
 have fin:EP X pins σ Q w s:=⟨z,H,I,rw',q⟩
 exact subscriptTail_builtinR (x:=w) pl.typeIs slot_tuple_getitem.lookup
  (getItem_tuple (j:=j) (Q:=fun r s'=>r=w∧EP X pins σ Q r s') pl (by omega) (by omega) (by rw [List.size_toArray,←hl];exact h1) (by simpa using ew) ⟨rfl,fin⟩) hs
theorem ix_str:IxR X rIxS:=by
 intro value slice pins s σ H x y v u Q I rx ry h hs
 obtain⟨z,i,c,rfl,rfl,hz,he,q⟩:=h
 obtain⟨t,rfl⟩:=rx
 obtain⟨t',rfl⟩:=ry
 obtain⟨j,h1,h2,h3,h4,h5⟩:=atI_get he
 have hl:z.cps.toList.length=z.length:=by simp [Str.length]
 rw [hl] at h1 h4 h5
 have hn:=line63
 exact tail_any (typeIs_str s z t) slot_str_getitem.lookup (getItem_str (c:=c) (by
  have e1:decide (i < -(2 ^ 63:Int))=false:=decide_eq_false (by omega)
  have e2:decide (i≥2 ^ 63)=false:=decide_eq_false (by omega)
  rw [e1,e2,Bool.or_false]) (by rw [h1];simpa using h2) ⟨.str ⟨#[c]⟩,H,I.tok _,⟨_,rfl⟩,q⟩) hs
theorem slice_bounds(lo hi:Option Int)(n:Nat):(sliceBounds lo hi none n).1=((HT.sIx n 0 lo:Nat):Int)∧(sliceBounds lo hi none n).2.1=((HT.sIx n n hi:Nat):Int)∧(sliceBounds lo hi none n).2.2=1:=by
 refine⟨?_,?_,rfl⟩
 ·cases lo with
  |none=>simp [sliceBounds,HT.sIx]
  |some i =>
   simp only [sliceBounds,HT.sIx,Option.getD_none,show(1:Int) > 0 by decide,if_true]
   by_cases h:i < 0
   ·simp only [h,if_true]<;>omega
   ·simp only [h,if_false]<;>omega
 ·cases hi with
  |none=>simp [sliceBounds,HT.sIx]
  |some i =>
   simp only [sliceBounds,HT.sIx,Option.getD_none,show(1:Int) > 0 by decide,if_true]
   by_cases h:i < 0
   ·simp only [h,if_true]<;>omega
   ·simp only [h,if_false]<;>omega
theorem slicePick_cut(its:List Value)(lo hi:Option Int):slicePick its.toArray lo hi none=((its.drop (HT.sIx its.length 0 lo)).take (HT.sIx its.length its.length hi - HT.sIx its.length 0 lo)).toArray:=by
 obtain⟨h1,h2,h3⟩:=slice_bounds lo hi its.toArray.size
 unfold slicePick
 rw [h1,h2,h3]
 simp only [sliceRange_one,pick_run,List.size_toArray]<;>rfl
def rSlL(K:PySem.W.Frag):V→Option Int→Option Int→Hp→VK→Prop:=fun x lo hi H Q=>∃a xs,x=.ref a∧SqL K H a xs∧∀p,H p=none→Q (.ref p) (upd H p (.lst (cutV xs lo hi)))
theorem sl_list:SlR X (rSlL X.K):=by
 intro pins s σ H x v vl vu lo hi sl Q I rx hs pl pu h
 obtain⟨a,xs,rfl,hx,q⟩:=h
 cases rx
 obtain⟨its,r,ht,hz⟩:=I.list hx
 have hlen:=r.length
 refine⟨"list",_,slot_list_getitem.lookup,ht.isList.typeIs,?_⟩
 refine wpAny_getItem_list_slice ht.isList hs pl pu .none (by simp) ?_ (by rw [List.size_toArray]<;>omega)
 rw [slicePick_cut,←hlen]
 refine⟨.ref s.heap.objs.size,_,I.laid (t':=s.toks) (o:=.lst (cutV xs lo hi)) (fun b ob q=>Heap.get?_push_of_some _ q) (Nat.le_refl _) ?_,rfl,q _ (I.hok.fresh (Nat.le_refl _))⟩
 exact⟨Nat.le_trans (cutV_length xs lo hi) hz,_,0,(r.drop (HT.sIx xs.length 0 lo)).take (HT.sIx xs.length xs.length hi - HT.sIx xs.length 0 lo),Heap.get?_push_size _ rfl⟩
def flatV:V→Bool
 |.non=>true
 |.bl _=>true
 |.int _=>true
 |.str _=>true
 |_=>false
def eqV:V→V→Bool
 |.non,.non=>true
 |.bl a,.bl b=>a==b
 |.bl a,.int b=>(if a then 1 else 0)==b
 |.int a,.bl b=>a==(if b then 1 else 0)
 |.int a,.int b=>a==b
 |.str a,.str b=>a==b
 |_,_=>false
theorem eqAt_V{A:Around}{s:Shared}{y x:V}{u v:Value}(ry:RelV y u)(rx:RelV x v)(fy:flatV y=true)(fx:flatV x=true):SeqAt.EqAt A s u v (eqV y x):=by
 cases y with
 |non =>
  cases ry
  cases x with
  |non=>cases rx;exact SeqAt.EqAt.same _
  |bl b=>cases rx;exact SeqAt.EqAt.none_bool b
  |int b=>obtain⟨t,rfl⟩:=rx;exact SeqAt.EqAt.none_int b t
  |str b=>obtain⟨t,rfl⟩:=rx;exact SeqAt.EqAt.none_str b t
  |_=>exact absurd (show false=true from fx) Bool.false_ne_true
 |bl a =>
  cases ry
  cases x with
  |non=>cases rx;exact SeqAt.EqAt.bool_none a
  |bl b=>cases rx;exact SeqAt.EqAt.bool_bool a b
  |int b=>obtain⟨t,rfl⟩:=rx;exact SeqAt.EqAt.bool_int a b t
  |str b=>obtain⟨t,rfl⟩:=rx;exact SeqAt.EqAt.bool_str a b t
  |_=>exact absurd (show false=true from fx) Bool.false_ne_true
 |int a =>
  obtain⟨t',rfl⟩:=ry
  cases x with
  |non=>cases rx;exact SeqAt.EqAt.int_none a t'
  |bl b=>cases rx;exact SeqAt.EqAt.int_bool a t' b
  |int b=>obtain⟨t,rfl⟩:=rx;exact SeqAt.EqAt.int_int a t' b t
  |str b=>obtain⟨t,rfl⟩:=rx;exact SeqAt.EqAt.int_str a t' b t
  |_=>exact absurd (show false=true from fx) Bool.false_ne_true
 |str a =>
  obtain⟨t',rfl⟩:=ry
  cases x with
  |non=>cases rx;exact SeqAt.EqAt.str_none a t'
  |bl b=>cases rx;exact SeqAt.EqAt.str_bool a t' b
  |int b=>obtain⟨t,rfl⟩:=rx;exact SeqAt.EqAt.str_int a t' b t
  |str b=>obtain⟨t,rfl⟩:=rx;exact SeqAt.EqAt.str_str a t' b t
  |_=>exact absurd (show false=true from fx) Bool.false_ne_true
 |_=>exact absurd (show false=true from fy) Bool.false_ne_true
def eqU(x:V)(u:Value):Bool:=match u with
 |.none=>eqV .non x
 |.bool b=>eqV (.bl b) x
 |.int i _=>eqV (.int i) x
 |.str z _=>eqV (.str z) x
 |_=>false
theorem eqU_of{x y:V}{u:Value}(r:RelV y u)(f:flatV y=true):eqU x u=eqV y x:=by
 cases y with
 |non=>cases r;rfl
 |bl b=>cases r;rfl
 |int i=>obtain⟨t,rfl⟩:=r;rfl
 |str z=>obtain⟨t,rfl⟩:=r;rfl
 |_=>exact absurd (show false=true from f) Bool.false_ne_true
theorem any_eqU{x:V}:∀{xs:List V} {us:List Value},Vals xs us→xs.all flatV=true→us.any (eqU x)=xs.any fun y=>eqV y x
 |_,_,.nil,_=>rfl
 |y::xs,u::us,.cons r t,f=>by
  rw [List.all_cons,Bool.and_eq_true] at f
  rw [List.any_cons,List.any_cons,eqU_of r f.1,any_eqU t f.2]
theorem mem_eqAt{A:Around}{s:Shared}{x:V}{v:Value}(rx:RelV x v)(fx:flatV x=true):∀{xs:List V} {us:List Value},Vals xs us→xs.all flatV=true→∀u∈us,SeqAt.EqAt A s u v (eqU x u)
 |_,_,.nil,_=>fun u hu=>by cases hu
 |y::xs,u::us,.cons r t,f=>fun u' hu=>by
  rw [List.all_cons,Bool.and_eq_true] at f
  rcases List.mem_cons.mp hu with rfl|hu
  ·rw [eqU_of r f.1];exact eqAt_V r rx f.1 fx
  ·exact mem_eqAt rx fx t f.2 u' hu
def inV(x:V)(xs:List V):Bool:=xs.any fun y=>eqV y x
def rIn(K:PySem.W.Frag)(neg:Bool):R2:=fun x y H Q=>∃p xs,y=.ref p∧(SqL K H p xs∨SqT K H p xs)∧flatV x=true∧xs.all flatV=true∧Q (.bl (if neg then !inV x xs else inV x xs)) H
theorem op_in_seq:OpR X (compareOp .In) (rIn X.K false):=by
 intro pins s σ H x y v u Q I rx ry h
 obtain⟨p,xs,rfl,hq,fx,fs,q⟩:=h
 cases ry
 rcases hq with hq|hq
 ·obtain⟨its,r,pl,hz⟩:=I.list hq
  refine SeqAt.in_listAt (eqU x) pl.isList (fun w hw=>mem_eqAt rx fx r fs w (by simpa using hw)) ⟨.bl _,H,I,rfl,?_⟩
  rw [show its.toArray.any (eqU x)=its.any (eqU x) by simp,any_eqU r fs]
  exact q
 ·obtain⟨its,r,pl,hz⟩:=I.tuple hq
  refine SeqAt.in_tupleAt (eqU x) pl (fun w hw=>mem_eqAt rx fx r fs w (by simpa using hw)) ⟨.bl _,H,I,rfl,?_⟩
  rw [show its.toArray.any (eqU x)=its.any (eqU x) by simp,any_eqU r fs]
  exact q
theorem call_len_seq:CallR X (.builtin "len") (fun xs H Q=>∃p ys,xs=[.ref p]∧(SqL X.K H p ys∨SqT X.K H p ys)∧Q (.int ys.length) H):=by
 intro pins s σ H xs us Q I r h
 obtain⟨p,ys,rfl,hq,q⟩:=h
 obtain⟨u,rfl,rx⟩:=vals1 r
 cases rx
 have hn:=line63
 rcases hq with hq|hq
 ·obtain⟨its,r',pl,hz⟩:=I.list hq
  have hlen:=r'.length
  exact Calls.call_len_list pl.isList (by simp only [List.size_toArray]<;>omega) ⟨.int ys.length,H,I.tok _,⟨s.toks+1,by rw [List.size_toArray,hlen]⟩,q⟩
 ·obtain⟨its,r',pl,hz⟩:=I.tuple hq
  have hlen:=r'.length
  exact len_tuple pl (by simp only [List.size_toArray]<;>omega) ⟨.int ys.length,H,I.tok _,⟨s.toks+1,by rw [List.size_toArray,hlen]⟩,q⟩
theorem call_tuple_of:CallR X (.type "tuple") (fun xs H Q=>∃p ys,xs=[.ref p]∧((SqL X.K H p ys∧∀l,H l=none→Q (.ref l) (upd H l (.tup ys)))∨(SqT X.K H p ys∧Q (.ref p) H))):=by
 intro pins s σ H xs us Q I r h
 obtain⟨p,ys,rfl,h⟩:=h
 obtain⟨u,rfl,rx⟩:=vals1 r
 cases rx
 rcases h with ⟨hq,q⟩|⟨hq,q⟩
 ·obtain⟨its,r',pl,hz⟩:=I.list hq
  have hlen:=r'.length
  refine call_tuple_list pl.isList (fun h' kp=>?_) (by simp only [List.size_toArray]<;>omega)
  have I1:Inv X pins σ H { s with heap:=h' }:=I.kept (t':=s.toks) kp
  have I2:Inv X pins σ (upd H h'.objs.size (.tup ys)) { s with heap:=h'.push { cls:=.type "tuple",data:=.seq its.toArray } } :=
   I1.laid (t':=s.toks) (fun b o e=>Heap.get?_push_of_some _ e) (Nat.le_refl _) (show ObjOk X.prog X.w _ _ _ (.tup ys) from⟨hz,its,r',IsTup.new _ _⟩)
  exact⟨.ref h'.objs.size,_,I2,rfl,q _ (I1.hok.fresh (Nat.le_refl _))⟩
 ·obtain⟨its,r',pl,hz⟩:=I.tuple hq
  exact call_tuple_same pl ⟨.ref p,H,I,rfl,q⟩
def tyV(K:PySem.W.Frag)(T:String)(x:V)(H:Hp):Prop:=match x with
 |.str _=>T="str"
 |.int _=>T="int"
 |.ref p=>(T="list"∧∃xs,SqL K H p xs)∨(T="tuple"∧∃o,K.lookup p=some o∧o.cls=.type "tuple"∧o.dict=none) ∨
   (T="dict"∧((∃kvs,H p=some (.dK kvs))∨∃kvs,H p=some (.dT kvs)))∨(T="set"∧∃S n,H p=some (.set S n))
 |_=>False
theorem tyV_is{pins:List (Addr × Obj)}{σ:St}{H:Hp}{s:Shared}{T:String}{x:V}{v:Value}(I:Inv X pins σ H s)(r:RelV x v)(ty:tyV X.K T x H) :
  s.TypeIs v T∧∀a,v=.ref a→∃ob,s.heap.get? a=some ob∧ob.dict=none:=by
 cases x with
 |str z =>
  obtain⟨t,rfl⟩:=r
  cases (show T="str" from ty)
  exact⟨typeIs_str s z t,fun _ e=>nomatch e⟩
 |int i =>
  obtain⟨t,rfl⟩:=r
  cases (show T="int" from ty)
  exact⟨typeIs_int s i t,fun _ e=>nomatch e⟩
 |ref p =>
  cases r
  rcases ty with ⟨rfl,xs,hq⟩|⟨rfl,o,hk,hc,hd⟩|⟨rfl,hk⟩|⟨rfl,S,n,hk⟩
  ·obtain⟨its,_,pl,_⟩:=I.list hq
   refine⟨pl.isList.typeIs,fun a e=>?_⟩
   cases e
   obtain⟨o,n,e,c,hd,_⟩:=pl
   exact⟨o,e,hd⟩
  ·refine⟨⟨o,I.kIn p o hk,hc⟩,fun a e=>?_⟩
   cases e
   exact⟨o,I.kIn _ o hk,hd⟩
  ·have z:∃o,s.heap.get? p=some o∧o.ExactDict:=by
    rcases hk with ⟨kvs,hk⟩|⟨kvs,hk⟩
    ·obtain⟨_,_,_,_,o,_,_,e,ex,_⟩:=I.hok p _ hk
     exact⟨o,e,ex⟩
    ·obtain⟨_,_,_,_,o,_,_,e,ex,_⟩:=I.hok p _ hk
     exact⟨o,e,ex⟩
   obtain⟨o,e,ex⟩:=z
   refine⟨⟨o,e,ex.1⟩,fun a e2=>?_⟩
   cases e2
   exact⟨o,e,ex.2.1⟩
  ·obtain⟨o,_,_,_,e,ex,_⟩:=I.hok p _ hk
   refine⟨⟨o,e,ex.1⟩,fun a e2=>?_⟩
   cases e2
   exact⟨o,e,ex.2.1⟩
 |_=>exact False.elim ty
structure Wh(K:PySem.W.Frag)(T:String)(r:V→List V→Hp→VK→Prop)(t:TA)(x:V)(σ:St)(H:Hp)(Q:VK):Prop where
 h:tyV K T x H
 q:t σ H fun xs H2=>r x xs H2 Q
def tBM(K:PySem.W.Frag)(T:String)(r:V→List V→Hp→VK→Prop)(to:TE)(t:TA):TE:=fun σ H Q=>to σ H fun x H1=>Wh K T r t x σ H1 Q
variable{o e:Expr}{es:List Expr}{to:TE}{t:TA}{name:Str}{apos cpos:Pos}{T id:String}{r:V→List V→Hp→VK→Prop}
theorem pe_bm(pa:PlainAttrs T)(slot:Slot T name id) (hty:typeOf (.builtin id)=pure (.type "method_descriptor")) (hm:MtR X id r) (ho:PE X o to) (ha:PA X (e::es) t)
  (hbase:attributeBase o name X.env (eval o X.env)=eval o X.env:=by rfl)
  (hfew:((backTo cpos (starEach (e::es) X.env)).all (fun x=>!x.1)&&(backToKw cpos (keywordEach [] X.env)).all (fun x=>x.1.isSome)
   && decide ((e::es).length+([]:List Keyword).length+(if ([]:List Keyword).isEmpty then 0 else 1) < 30))=true:=by rfl)
  (hline:(apos.endLine==cpos.line)=true:=by rfl) (hs:starEach (e::es) X.env=(false,eval e X.env)::starEach es X.env:=by rfl) (hplain:(backTo cpos (starEach es X.env)).any (·.1)=false:=by rfl) :
  PE X (.Call (.Attribute o name apos) (e::es) [] cpos) (tBM X.K T r to t):=by
 intro pins s σ H Q I h
 refine wpAny_Call_method_late hbase hfew hline rfl (thn (ho pins s σ H _ I h) fun v s1 ⟨x,H1,I1,r1,ty,q1⟩=>?_)
 obtain⟨h1,h2⟩:=tyV_is I1 r1 ty
 refine⟨T,id,pa,slot,hty,h1,h2,?_⟩
 have hA:=ha cpos pins s1 σ H1 _ I1 q1
 rw [hs] at hA ⊢
 refine Calls.callWith_builtin (by show(false||(backTo cpos (starEach es X.env)).any (·.1))=false;rw [hplain]<;>rfl) (Calls.evalArgs_plain ?_)
 exact thn hA fun us s2 ⟨vs,H2,I2,r2,q2⟩=>hm pins s2 σ H2 x vs v us Q I2 r1 r2 q2
/- xs.append(e),list.index on a module's tuple .. are MtR facts of 06m -/
end
end L2
namespace L2
open PySem PySem.Spec PyProof.Rows
def MtM(X:Cx)(id:String)(r:V→List V→Hp→VK→Prop):Prop :=
 ∀(pins:List (Addr × Obj)) (s:Shared) (σ:St) (H:Hp) (x:V) (xs:List V) (v:Value) (us:List Value) (Q:VK),Inv X pins σ H s→RelV x v→Vals xs us→r x xs H Q →
  wpAny (model X.prog X.w) X.A (call (.builtin id) (v::us)) (EP X pins σ Q) X.xe s
theorem Vals.one:∀{x:V} {us:List Value},Vals [x] us→∃u,us=[u]∧RelV x u
 |_,_,.cons r .nil=>⟨_,rfl,r⟩
theorem Vals.two:∀{x y:V} {us:List Value},Vals [x,y] us→∃u v,us=[u,v]∧RelV x u∧RelV y v
 |_,_,_,.cons r (.cons q .nil)=>⟨_,_,rfl,r,q⟩
section
variable{X:Cx}{pins:List (Addr × Obj)}{σ:St}{H:Hp}{s:Shared}{l b:Addr}{xs ys zs:List V}
theorem Inv.lset{its its':List Value}{n:Nat}{f:Array Value→Array Value}{t':Nat}(I:Inv X pins σ H s)(hH:H l=some (.lst xs))
  (e:s.heap.get? l=some { cls:=.type "list",data:=.seq its.toArray n }) (hf:f its.toArray=its'.toArray) (hv:Vals ys its') (hz:ys.length≤sizeLine) :
  Inv X pins σ (upd H l (.lst ys)) { s with heap:=s.heap.update l (Obj.mapSeq f),toks:=t' }:=by
 have q:=PySem.IsL.update e f
 rw [hf] at q
 refine I.write (x:=l) (e:=l) (by rw [hH];exact trivial) (.inl rfl) (fun b' u hb hu=>(Heap.get?_update_other s.heap (Obj.mapSeq f) (Ne.symm hb)).trans hu) ⟨_,q⟩ ?_
 exact⟨hz,its',_,hv,q⟩
theorem Inv.lnew{its:List Value}{t':Nat}(I:Inv X pins σ H s)(hv:Vals ys its)(hz:ys.length≤sizeLine) :
  Inv X pins σ (upd H s.heap.objs.size (.lst ys)) { s with heap:=s.heap.push { cls:=.type "list",data:=.seq its.toArray },toks:=t' } :=
 I.laid (fun _ _ q=>Heap.get?_push_of_some _ q) (Nat.le_refl _) ⟨hz,its,0,hv,Heap.get?_push_size _ rfl⟩
theorem Inv.fresh(I:Inv X pins σ H s):H s.heap.objs.size=none:=I.hok.fresh (Nat.le_refl _)
theorem Inv.lstM(I:Inv X pins σ H s)(hH:H l=some (.lst xs)):xs.length≤sizeLine∧∃(its:List Value) (n:Nat),Vals xs its∧xs.length=its.length∧s.heap.get? l=some { cls:=.type "list",data:=.seq its.toArray n }:=by
 obtain⟨z,its,n,r,e⟩:=I.hok l _ hH
 exact⟨z,its,n,r,r.length,e⟩
end
section
variable{X:Cx}
def rAppend:V→List V→Hp→VK→Prop:=fun x vs H Q=>∃l xs y,x=.ref l∧vs=[y]∧H l=some (.lst xs)∧xs.length < sizeLine∧Q .non (upd H l (.lst (xs++[y])))
theorem mt_append:MtM X "list.append" rAppend:=by
 intro pins s σ H x vs v us Q I rx rv h
 obtain⟨l,xs,y,rfl,rfl,hH,hz,q⟩:=h
 cases rx
 obtain⟨u,rfl,ru⟩:=rv.one
 obtain⟨z,its,n,r,hl,e⟩:=I.lstM hH
 refine call_meets F.slot_list_append ⟨_,e,rfl⟩ F.entry_list_append (F.args_list_append_2 _ _) (PySem.list_append l its.toArray n u (by rw [List.size_toArray];omega)) ⟨e,?_⟩
 refine⟨.non,_,I.lset (its':=its++[u]) hH e (by simp) (r.append (.cons ru .nil)) ?_,rfl,q⟩
 rw [List.length_append,List.length_singleton]
 omega
def rCat:R2:=fun x y H Q=>∃l b xs zs,x=.ref l∧y=.ref b∧H l=some (.lst xs)∧H b=some (.lst zs)∧xs.length+zs.length≤sizeLine∧∀p,H p=none→Q (.ref p) (upd H p (.lst (xs++zs)))
theorem op_cat:OpR X (binaryOp .Add) rCat:=by
 intro pins s σ H x y v u Q I rx ry h
 obtain⟨l,b,xs,zs,rfl,rfl,hH,hB,hz,q⟩:=h
 cases rx
 cases ry
 obtain⟨z,its,n,r,hl,e⟩:=I.lstM hH
 obtain⟨z2,its2,n2,r2,hl2,e2⟩:=I.lstM hB
 refine PySem.P.add_list e e2 ?_ (by rw [List.size_toArray,List.size_toArray];omega)
 have ea:its.toArray++its2.toArray=(its++its2).toArray:=by simp
 rw [ea]
 exact⟨.ref _,_,I.lnew (t':=s.toks) (r.append r2) (by rw [List.length_append];omega),rfl,q _ I.fresh⟩
end
section
variable{prog:Program}{w:World}{A:Around}{E:Value→Shared→Prop}{s:Shared}
end
section
variable{X:Cx}
end
end L2
namespace L2
open PySem PySem.Spec PyProof.Rows
section
variable{κ:Type}[DecidableEq κ]
def valV(kvs:List (κ × V))(k:κ):Option V:=(kvs.find? fun kv=>decide (kv.1=k)).map (·.2)
def putK(kvs:List (κ × V))(k:κ)(v:V):List (κ × V) :=
 if (kvs.any fun kv=>decide (kv.1=k))=true then kvs.map (fun kv=>if kv.1=k then (kv.1,v) else kv) else kvs++[(k,v)]
theorem valV_pos{p:κ × V}{r:List (κ × V)}{k:κ}(e:p.1=k):valV (p::r) k=some p.2:=by simp [valV,List.find?_cons,e]
theorem valV_neg{p:κ × V}{r:List (κ × V)}{k:κ}(e:¬p.1=k):valV (p::r) k=valV r k:=by simp [valV,List.find?_cons,e]
theorem valV_any(k:κ):∀kvs:List (κ × V),(kvs.any fun kv=>decide (kv.1=k))=(valV kvs k).isSome
 |[]=>rfl
 |p::r=>by
  rw [List.any_cons]
  by_cases e:p.1=k
  ·simp only [valV_pos e,decide_eq_true e,Bool.true_or,Option.isSome_some]
  ·rw [valV_neg e,decide_eq_false e,Bool.false_or];exact valV_any k r
theorem valV_map(k j:κ)(y:V):∀kvs:List (κ × V),valV (kvs.map fun kv=>if kv.1=k then (kv.1,y) else kv) j=(valV kvs j).map fun x=>if j=k then y else x
 |[]=>rfl
 |p::r=>by
  have ih:=valV_map k j y r
  rw [List.map_cons]
  by_cases h:p.1=k
  ·rw [if_pos h]
   by_cases e:p.1=j
   ·rw [valV_pos (p:=(p.1,y)) e,valV_pos e,Option.map_some,if_pos (e.symm.trans h)]
   ·rw [valV_neg (p:=(p.1,y)) e,valV_neg e,ih]
  ·rw [if_neg h]
   by_cases e:p.1=j
   ·rw [valV_pos (p:=p) e,valV_pos e,Option.map_some,if_neg (fun z=>h (e.trans z))]
   ·rw [valV_neg (p:=p) e,valV_neg e,ih]
theorem valV_snoc(k j:κ)(y:V):∀kvs:List (κ × V),valV kvs k=none→valV (kvs++[(k,y)]) j=if j=k then some y else valV kvs j
 |[],_=>by
  by_cases e:k=j
  ·rw [if_pos e.symm];exact valV_pos (p:=(k,y)) e
  ·rw [if_neg (fun z=>e z.symm)];exact valV_neg (p:=(k,y)) e
 |p::r,hn=>by
  rw [List.cons_append]
  have hk:¬p.1=k:=fun z=>by rw [valV_pos z] at hn;cases hn
  rw [valV_neg hk] at hn
  have ih:=valV_snoc k j y r hn
  by_cases e:p.1=j
  ·rw [valV_pos e,valV_pos e,if_neg (fun z=>hk (e.trans z))]
  ·rw [valV_neg e,valV_neg e,ih]
theorem valV_put(kvs:List (κ × V))(k j:κ)(y:V):valV (putK kvs k y) j=if j=k then some y else valV kvs j:=by
 unfold putK
 by_cases a:(kvs.any fun kv=>decide (kv.1=k))=true
 ·rw [if_pos a,valV_map]
  rw [valV_any] at a
  by_cases e:j=k
  ·obtain⟨x,hx⟩:=Option.isSome_iff_exists.mp a
   rw [if_pos e,e,hx,Option.map_some,if_pos rfl]
  ·rw [if_neg e]
   cases valV kvs j with
   |none=>rfl
   |some x=>rw [Option.map_some,if_neg e]
 ·rw [if_neg a]
  refine valV_snoc k j y kvs ?_
  rw [valV_any] at a
  cases q:valV kvs k with
  |none=>rfl
  |some x=>rw [q] at a;exact(a rfl).elim
theorem length_putK(kvs:List (κ × V))(k:κ)(v:V):(putK kvs k v).length≤kvs.length+1:=by
 unfold putK
 split
 ·rw [List.length_map];omega
 ·rw [List.length_append,List.length_cons,List.length_nil];omega
theorem RelO.isSome_eq{o:Option V}{u:Option Value}(r:RelO o u):o.isSome=u.isSome:=by
 cases o with
 |none=>cases u with
  |none=>rfl
  |some _=>exact(show False from r).elim
 |some _=>cases u with
  |none=>exact(show False from r).elim
  |some _=>rfl
theorem KV.val{kvs:List (κ × V)}{vs:List (κ × Value)}(r:KV kvs vs)(k:κ):RelO (valV kvs k) (valueAt vs k):=by
 unfold KV at r
 induction r with
 |nil=>exact True.intro
 |@cons p q ps qs h t ih =>
  obtain⟨h1,h2⟩:=h
  by_cases e:p.1=k
  ·have e':q.1=k:=h1.symm.trans e
   have b:valueAt (q::qs) k=some q.2:=by simp [valueAt,List.find?_cons,e']
   rw [valV_pos e,b];exact h2
  ·have e':¬q.1=k:=fun z=>e (h1.trans z)
   have b:valueAt (q::qs) k=valueAt qs k:=by simp [valueAt,List.find?_cons,e']
   rw [valV_neg e,b];exact ih
theorem KV.any{kvs:List (κ × V)}{vs:List (κ × Value)}(r:KV kvs vs)(k:κ):(kvs.any fun kv=>decide (kv.1=k))=vs.any fun kv=>decide (kv.1=k):=by
 unfold KV at r
 induction r with
 |nil=>rfl
 |cons h t ih=>rw [List.any_cons,List.any_cons,ih,h.1]
theorem KV.repl{kvs:List (κ × V)}{vs:List (κ × Value)}(r:KV kvs vs)(k:κ){y:V}{u:Value}(ry:RelV y u) :
  KV (kvs.map fun kv=>if kv.1=k then (kv.1,y) else kv) (vs.map fun kv=>if kv.1=k then (kv.1,u) else kv):=by
 unfold KV at r ⊢
 induction r with
 |nil=>exact .nil
 |@cons p q ps qs h t ih =>
  rw [List.map_cons,List.map_cons]
  refine .cons ?_ ih
  obtain⟨h1,h2⟩:=h
  by_cases e:p.1=k
  ·rw [if_pos e,if_pos (h1.symm.trans e)];exact⟨h1,ry⟩
  ·rw [if_neg e,if_neg (fun z=>e (h1.trans z))];exact⟨h1,h2⟩
theorem KV.put{kvs:List (κ × V)}{vs:List (κ × Value)}(r:KV kvs vs)(k:κ){y:V}{u:Value}(ry:RelV y u):KV (putK kvs k y) (stored vs k u):=by
 unfold putK stored
 rw [r.any k]
 by_cases e:(vs.any fun kv=>decide (kv.1=k))=true
 ·rw [if_pos e,if_pos e];exact r.repl k ry
 ·rw [if_neg e,if_neg e];exact Paired.snoc r ⟨rfl,ry⟩
theorem KV.length{kvs:List (κ × V)}{vs:List (κ × Value)}(r:KV kvs vs):kvs.length=vs.length:=Paired.length r
end
theorem kV_is{P:Program}{w:World}{k:Key}{u:Value}(r:RelV (kV k) u):(mixKind P w).is k u=true:=by
 cases k with
 |inl i=>obtain⟨t,e⟩:=(show ∃t,u=Value.int i t from r);subst e;exact mixKind_int P w i t
 |inr x=>obtain⟨t,e⟩:=(show ∃t,u=Value.str x t from r);subst e;exact mixKind_str P w x t
theorem items_are{P:Program}{w:World}:∀{ks:List Key} {us:List Value},Vals (ks.map kV) us→ItemsAre (mixKind P w) ks us
 |[],_,r=>by rw [List.map_nil] at r;cases r;exact .nil
 |k::ks,_,r=>by
  rw [List.map_cons] at r
  cases r with
  |cons h t=>exact .cons (kV_is h) (items_are t)
abbrev KT(H:Hp):List (List Key × V)→List (List Key × Addr × Value)→Prop:=Paired fun p q=>p.1=q.1∧H q.2.1=some (.tup (p.1.map kV))∧RelV p.2 q.2.2
theorem KT.val{H:Hp}{kvs:List (List Key × V)}{xs:List (List Key × Addr × Value)}(r:KT H kvs xs)(k:List Key):RelO (valV kvs k) ((atKey xs k).map (·.2)):=by
 induction r with
 |nil=>exact True.intro
 |@cons p q ps qs h t ih =>
  obtain⟨h1,_,h2⟩:=h
  by_cases e:p.1=k
  ·have e':q.1=k:=h1.symm.trans e
   have b:atKey (q::qs) k=some q.2:=by simp [atKey,List.find?_cons,e']
   rw [valV_pos e,b];exact h2
  ·have e':¬q.1=k:=fun z=>e (h1.trans z)
   have b:atKey (q::qs) k=atKey qs k:=by simp [atKey,List.find?_cons,e']
   rw [valV_neg e,b];exact ih
theorem KT.repl{H:Hp}{kvs:List (List Key × V)}{xs:List (List Key × Addr × Value)}(r:KT H kvs xs)(k:List Key){y:V}{u:Value}(ry:RelV y u) :
  KT H (kvs.map fun kv=>if kv.1=k then (kv.1,y) else kv) (xs.map (putAt k u)):=by
 induction r with
 |nil=>exact .nil
 |@cons p q ps qs h t ih =>
  rw [List.map_cons,List.map_cons]
  refine .cons ?_ ih
  obtain⟨h1,h2,h3⟩:=h
  unfold putAt
  by_cases e:p.1=k
  ·rw [if_pos e,if_pos (h1.symm.trans e)];exact⟨h1,h2,ry⟩
  ·rw [if_neg e,if_neg (fun z=>e (h1.trans z))];exact⟨h1,h2,h3⟩
theorem KT.put{H:Hp}{kvs:List (List Key × V)}{xs:List (List Key × Addr × Value)}(r:KT H kvs xs)(k:List Key){b:Addr}{y:V}{u:Value}(hb:H b=some (.tup (k.map kV)))(ry:RelV y u) :
  KT H (putK kvs k y) (storedH xs k b u):=by
 have e:(kvs.any fun kv=>decide (kv.1=k))=(atKey xs k).isSome:=by
  rw [valV_any,(r.val k).isSome_eq,Option.isSome_map]
 unfold putK storedH
 rw [e]
 by_cases q:(atKey xs k).isSome=true
 ·rw [if_pos q,if_pos q];exact r.repl k ry
 ·rw [if_neg q,if_neg q];exact Paired.snoc r ⟨rfl,hb,ry⟩
theorem KT.keeps{H H':Hp}{kvs:List (List Key × V)}{xs:List (List Key × Addr × Value)}(r:KT H kvs xs)(ht:∀b ys,H b=some (.tup ys)→H' b=some (.tup ys)):KT H' kvs xs :=
 Paired.mapP r fun _ _ z=>⟨z.1,ht _ _ z.2.1,z.2.2⟩
section
variable{P:Program}{w:World}{H:Hp}{h:Heap}{a:Addr}
theorem rd_of{u:HO}(ok:HOk P w H h)(e:Rd H a u):ObjOk P w H h a u:=e.ok ok
theorem dk_rd{kvs:List (Key × V)}(ok:HOk P w H h)(e:Rd H a (.dK kvs)):kvs.length≤sizeLine∧(a==sysModules)=false∧∃vs,KV kvs vs∧h.DictOf (mixKind P w) a vs :=
 show ObjOk P w H h a (.dK kvs) from rd_of ok e
theorem dk_of{kvs:List (Key × V)}(ok:HOk P w H h)(e:H a=some (.dK kvs)):kvs.length≤sizeLine∧(a==sysModules)=false∧∃vs,KV kvs vs∧h.DictOf (mixKind P w) a vs:=dk_rd ok (.inl e)
theorem key_of{ks:List Key}(ok:HOk P w H h)(e:H a=some (.tup (ks.map kV))):(tupleKind (mixKind P w)).is h ks a:=by
 obtain⟨_,its,r,o,h1,h2,n,h3⟩:=(show ObjOk P w H h a (.tup (ks.map kV)) from ok a _ e)
 exact⟨o,its.toArray,n,h1,h2,h3,by simpa using items_are r⟩
theorem dt_rd{kvs:List (List Key × V)}(ok:HOk P w H h)(e:Rd H a (.dT kvs)):kvs.length≤sizeLine∧(a==sysModules)=false ∧
  ∃xs,KT H kvs xs∧h.DictOfH (tupleKind (mixKind P w)) a xs:=by
 obtain⟨z,y,xs,r,o,es,ep,h1,h2,h3,h4,h5⟩:=(show ObjOk P w H h a (.dT kvs) from rd_of ok e)
 refine⟨z,y,xs,r,o,es,ep,h1,h2,h3,h4,fun x hx=>?_,h5⟩
 have all:∀{l:List (List Key × V)} {m:List (List Key × Addr × Value)},KT H l m→∀x∈m,(tupleKind (mixKind P w)).is h x.1 x.2.1:=by
  intro l m q
  induction q with
  |nil=>intro x hx;exact nomatch hx
  |@cons p q ps qs hq t ih =>
   intro x hx
   rcases List.mem_cons.mp hx with e|hx
   ·subst e
    exact key_of ok (by rw [←hq.1];exact hq.2.1)
   ·exact ih x hx
 exact all r x hx
theorem dt_of{kvs:List (List Key × V)}(ok:HOk P w H h)(e:H a=some (.dT kvs)):kvs.length≤sizeLine∧(a==sysModules)=false ∧
  ∃xs,KT H kvs xs∧h.DictOfH (tupleKind (mixKind P w)) a xs:=dt_rd ok (.inl e)
end
def DGet(H:Hp)(a:Addr)(y:V)(r:Option V):Prop :=
 (∃kvs k,Rd H a (.dK kvs)∧y=kV k∧r=valV kvs k)∨∃kvs k b,Rd H a (.dT kvs)∧y=.ref b∧H b=some (.tup (k.map kV))∧r=valV kvs k
def DPut(H:Hp)(a:Addr)(y v:V)(H':Hp):Prop :=
 (∃kvs k,H a=some (.dK kvs)∧y=kV k∧kvs.length < sizeLine∧H'=upd H a (.dK (putK kvs k v))) ∨
 ∃kvs k b,H a=some (.dT kvs)∧y=.ref b∧H b=some (.tup (k.map kV))∧kvs.length < sizeLine∧H'=upd H a (.dT (putK kvs k v))
theorem DGet.k{H:Hp}{a:Addr}{kvs:List (Key × V)}{k:Key}(e:H a=some (.dK kvs)):DGet H a (kV k) (valV kvs k):=.inl ⟨kvs,k,.inl e,rfl,rfl⟩
theorem DPut.k{H:Hp}{a:Addr}{kvs:List (Key × V)}{k:Key}{v:V}(e:H a=some (.dK kvs))(hl:kvs.length < sizeLine):DPut H a (kV k) v (upd H a (.dK (putK kvs k v))):=.inl ⟨kvs,k,e,rfl,hl,rfl⟩
section
variable{X:Cx}{pins:List (Addr × Obj)}{σ:St}{H:Hp}{s:Shared}{a:Addr}{y v:V}{u r:Value}{o:Option V}{A:Around}{E:Value→Shared→Prop}
theorem Inv.big(I:Inv X pins σ H s):sysModules < s.heap.objs.size:=by
 have h:mainGlobals < s.heap.objs.size:=(I.mod.glob.keeps I.bk).lt
 exact Nat.lt_trans (by decide) h
theorem d_getItem{Q:Value→Shared→Prop}(hu:A.units+1 < cLine)(I:Inv X pins σ H s)(g:DGet H a y (some v))(ry:RelV y u)(h:∀w' s',Inv X pins σ H s'→RelV v w'→Q w' s') :
  wpAny (model X.prog X.w) A (getItem (.ref a) u) Q E s:=by
 rcases g with ⟨kvs,k,e,ey,l⟩|⟨kvs,k,b,e,ey,eb,l⟩
 ·subst ey
  obtain⟨z,hd,vs,rel,dd⟩:=dk_rd I.hok e
  obtain⟨w',hw,rw'⟩:=RelO.some_of (v:=v) (o:=valueAt vs k) (by rw [l];exact rel.val k)
  exact wpAny_getItem_of (kV_is ry) dd.mapOf hw (h w' _ (I.tok _) rw')
 ·subst ey
  cases (show u=Value.ref b from ry)
  obtain⟨z,hd,xs,rel,dd⟩:=dt_rd I.hok e
  obtain⟨w',hw,rw'⟩:=RelO.some_of (v:=v) (o:=(atKey xs k).map (·.2)) (by rw [l];exact rel.val k)
  obtain⟨p,hp,hp2⟩:=Option.map_eq_some_iff.mp hw
  refine wpAny_getItem_heap (tupleKind_room_in1 hu) (key_of I.hok eb) dd hp ?_
  rw [hp2]
  exact h w' _ (I.tok _) rw'
theorem d_notIn{Q:Value→Shared→Prop}(hu:A.units+1 < cLine)(I:Inv X pins σ H s)(g:DGet H a y o)(ry:RelV y u)(h:∀s',Inv X pins σ H s'→Q (.bool (!o.isSome)) s') :
  wpAny (model X.prog X.w) A (compareOp .NotIn u (.ref a)) Q E s:=by
 rcases g with ⟨kvs,k,e,ey,l⟩|⟨kvs,k,b,e,ey,eb,l⟩
 ·subst ey
  obtain⟨z,hd,vs,rel,dd⟩:=dk_rd I.hok e
  refine wpAny_notIn_of (kV_is ry) hd dd.mapOf ?_
  rw [←(rel.val k).isSome_eq,←l]
  exact h _ (I.tok _)
 ·subst ey
  cases (show u=Value.ref b from ry)
  obtain⟨z,hd,xs,rel,dd⟩:=dt_rd I.hok e
  refine wpAny_notIn_heap (tupleKind_room_in1 hu) (key_of I.hok eb) hd dd ?_
  have q:=(rel.val k).isSome_eq
  rw [Option.isSome_map] at q
  rw [←q,←l]
  exact h _ (I.tok _)
theorem d_write{h':Heap}{t':Nat}{ob:HO}(I:Inv X pins σ H s)(mu:Mut (H a))(hs:Heap.SameBut a s.heap h')(he:∃q,h'.get? a=some q)(new:ObjOk X.prog X.w (upd H a ob) h' a ob) :
  Inv X pins σ (upd H a ob) { s with heap:=h',toks:=t' } :=
 I.write (x:=a) (e:=a) mu (.inl rfl) (fun b q hb z=>(hs.2 b hb).trans z) he new
theorem dk_new{P:Program}{w:World}{H':Hp}{h':Heap}{kvs:List (Key × V)}{vs:List (Key × Value)}(z:kvs.length≤sizeLine)(hd:(a==sysModules)=false)(rel:KV kvs vs)(dd:h'.DictOf (mixKind P w) a vs) :
  ObjOk P w H' h' a (.dK kvs):=⟨z,hd,vs,rel,dd⟩
theorem d_setItem{H':Hp}{Q:Unit→Shared→Prop}(hu:A.units+1 < cLine)(I:Inv X pins σ H s)(g:DPut H a y v H')(ry:RelV y u)(rv:RelV v r)(h:∀s',Inv X pins σ H' s'→Q () s') :
  wpAny (model X.prog X.w) A (setItem (.ref a) u r) Q E s:=by
 rcases g with ⟨kvs,k,e,ey,l,eH⟩|⟨kvs,k,b,e,ey,eb,l,eH⟩
 ·subst ey eH
  obtain⟨z,hd,vs,rel,dd⟩:=dk_of I.hok e
  have hz:vs.length≤sizeLine:=by rw [←rel.length];exact z
  have hl:(putK kvs k v).length≤sizeLine:=by have:=length_putK kvs k v;omega
  refine wpAny_setItem_pairs (hsz:=hz) (kV_is ry) dd fun h' dd' hs=>h _ ?_
  have he:∃q,h'.get? a=some q:=let ⟨q,_,_,hq,_⟩:=dd';⟨q,hq⟩
  exact d_write I (by rw [e];exact True.intro) hs he (dk_new hl hd (rel.put k rv) dd')
 ·subst ey eH
  cases (show u=Value.ref b from ry)
  obtain⟨z,hd,xs,rel,dd⟩:=dt_of I.hok e
  have hz:xs.length≤sizeLine:=by rw [←Paired.length rel];exact z
  have hl:(putK kvs k v).length≤sizeLine:=by have:=length_putK kvs k v;omega
  refine wpAny_setItem_heap (hsz:=hz) (tupleKind_room_in1 hu) (key_of I.hok eb) dd fun h' dd' hs=>h _ ?_
  obtain⟨q,es,ep,hq,h2,h3,h4,_,h5⟩:=dd'
  refine d_write I (by rw [e];exact True.intro) hs ⟨q,hq⟩ ⟨hl,hd,_,(rel.put k eb rv).keeps fun c ys ec=>?_,q,es,ep,hq,h2,h3,h4,h5⟩
  rw [upd_ne (ne_of ec e (fun z=>nomatch z))]
  exact ec
end
section
variable{X:Cx}{pins:List (Addr × Obj)}{σ:St}{H:Hp}{s:Shared}{a:Addr}{kvs:List (Key × V)}{k:Key}{u:Value}{A:Around}{E:Value→Shared→Prop}
end
def NoSl(i:Expr):Prop:=∀ov iv,subscripted i false ov iv=operate [ov,iv] (getItem ov iv)
theorem subD_of{prog:Program}{w:World}{A:Around}{E:Value→Shared→Prop}{s:Shared}{env:Env}{value slice:Expr}{pos:Pos}{T id:String}{Q:Value→Shared→Prop}
  (hl:typeLookup (.type T) "__getitem__"=pure (some (.builtin id))) (hs:NoSl slice)
  (h:wpAny (model prog w) A (eval value env) (fun o s₁=>wpAny (model prog w) A (eval slice env) (fun i s₂=>s₂.TypeIs o T∧wpAny (model prog w) A (getItem o i) Q E s₂) E s₁) E s) :
  wpAny (model prog w) A (eval (.Subscript value slice pos) env) Q E s:=by
 refine Subscript_ (wpAny_mono h (fun o s₁ h₁=>wpAny_mono h₁ (fun i s₂ h₂=>?_) fun _ _ x=>x) fun _ _ x=>x)
 obtain⟨hT,h₂⟩:=h₂
 unfold subscriptTail
 refine wpAny_bind ?_
 rw [getitemInPython_of_ne hT.not_modules]
 refine wpAny_bind (wpAny_specialOf hT hl ?_)
 have fin:wpAny (model prog w) A (subscripted slice false o i) (fun r s₃=>wpAny (model prog w) A (letTemporaryGo value o r >>= fun _=>pure r) Q E s₃) E s₂:=by
  rw [hs o i]
  exact wpAny_operating (wpAny_mono h₂ (fun r s₃ h₃=>wpAny_bind (wpAny_letTemporaryGo (wpAny_pure h₃))) fun _ _ x=>x)
 first
  |exact wpAny_pure (wpAny_bind fin)
  |exact wpAny_bind (wpAny_pure (wpAny_bind fin))
  |exact wpAny_bind fin
theorem dict_typeIs{X:Cx}{pins:List (Addr × Obj)}{σ:St}{H:Hp}{s:Shared}{a:Addr}{y:V}{o:Option V}(I:Inv X pins σ H s)(g:DGet H a y o):s.TypeIs (.ref a) "dict":=by
 rcases g with ⟨kvs,k,e,_,_⟩|⟨kvs,k,b,e,_,_,_⟩
 ·obtain⟨_,_,vs,_,dd⟩:=dk_rd I.hok e
  exact dd.typeIs
 ·obtain⟨_,_,xs,_,dd⟩:=dt_rd I.hok e
  exact dd.typeIs
def tDGet(td ty:TE):TE:=fun σ H Q=>td σ H fun x H1=>ty σ H1 fun y H2=>∃a v,x=.ref a∧DGet H2 a y (some v)∧Q v H2
def tDNotIn(ty td:TE):TE:=fun σ H Q=>ty σ H fun y H1=>td σ H1 fun x H2=>∃a o,x=.ref a∧DGet H2 a y o∧Q (.bl (!o.isSome)) H2
def sDPut(td ty tv:TE):TS:=fun D σ H=>tv σ H fun v H1=>td σ H1 fun x H2=>ty σ H2 fun y H3=>∃a H4,x=.ref a∧DPut H3 a y v H4∧D.nx σ H4
section
variable{X:Cx}{o i e value:Expr}{pos pos' tpos:Pos}{td ty tv:TE}
theorem pe_dget(hu:X.A.units+1 < cLine)(ho:PE X o td)(hi:PE X i ty)(hs:NoSl i):PE X (.Subscript o i pos) (tDGet td ty):=by
 intro pins s σ H Q I h
 refine subD_of PySem.F.slot_dict_getitem.lookup hs (thn (ho pins s σ H _ I h) fun u s1 ⟨x,H1,I1,rx,q1⟩=>thn (hi pins s1 σ H1 _ I1 q1) fun iv s2 ⟨y,H2,I2,ry,a,v,ex,g,q2⟩=>?_)
 subst ex
 obtain rfl:u=Value.ref a:=rx
 exact⟨dict_typeIs I2 g,d_getItem hu I2 g ry fun w' s3 I3 rw'=>⟨v,H2,I3,rw',q2⟩⟩
theorem pc_dnotin(hu:X.A.units+1 < cLine)(hi:PE X i ty)(ho:PE X o td):PC X .NotIn i o (tDNotIn ty td):=by
 intro pins s σ H Q I h
 refine thn (hi pins s σ H _ I h) fun iv s1 ⟨y,H1,I1,ry,q1⟩=>thn (ho pins s1 σ H1 _ I1 q1) fun u s2 ⟨x,H2,I2,rx,a,ov,ex,g,q2⟩=>?_
 subst ex
 obtain rfl:u=Value.ref a:=rx
 exact d_notIn hu I2 g ry fun s3 I3=>⟨.bl (!ov.isSome),H2,I3,rfl,q2⟩
theorem ps_dput(hu:X.A.units+1 < cLine)(ho:PE X o td)(hi:PE X i ty)(hv:PE X value tv)(hs:swapsWith value (some (.Subscript o i pos')) pos.line X.env=pure false) :
  PS X (.Assign [.Subscript o i pos'] value pos) (sDPut td ty tv):=by
 intro pins s σ H D I h
 refine wpAny_Assign_Subscript (thn (hv pins s σ H _ I h) fun r s1 ⟨v,H1,I1,rv,q1⟩=>thn (ho pins s1 σ H1 _ I1 q1) fun u s2 ⟨x,H2,I2,rx,q2⟩=>thn (hi pins s2 σ H2 _ I2 q2) fun iv s3 ⟨y,H3,I3,ry,a,H4,ex,g,q3⟩=>?_) hs
 subst ex
 obtain rfl:u=Value.ref a:=rx
 exact d_setItem hu I3 g ry rv fun s4 I4=>⟨σ,H4,I4,q3⟩
end
theorem dk_empty{P:Program}{w:World}{H:Hp}(h:Heap)(hb:sysModules < h.objs.size):ObjOk P w H (h.push { cls:=.type "dict",data:=.dict #[] }) h.objs.size (.dK []) :=
 ⟨Nat.zero_le _,beq_eq_false_iff_ne.mpr (Ne.symm (Nat.ne_of_lt hb)),[],.nil,Heap.DictOf.new h⟩
section
variable{X:Cx}{pos:Pos}
end
def tPairs:List (TE × TE)→St→Hp→(List (V × V)→Hp→Prop)→Prop
 |[],_,H,Q=>Q [] H
 |(tk,tv)::r,σ,H,Q=>tk σ H fun x H1=>tv σ H1 fun y H2=>tPairs r σ H2 fun ps H3=>Q ((x,y)::ps) H3
abbrev VV:List (V × V)→List (Value × Value)→Prop:=Paired fun p q=>RelV p.1 q.1∧RelV p.2 q.2
def PPs(X:Cx)(pos:Pos)(keys:List (Option Expr))(values:List Expr)(trs:List (TE × TE)):Prop :=
 ∀(pins:List (Addr × Obj)) (s:Shared) (σ:St) (H:Hp) (Q:List (V × V)→Hp→Prop),Inv X pins σ H s→tPairs trs σ H Q →
  wpAny (model X.prog X.w) X.A (evalPairs (pairTrees keys values X.env pos)) (fun vs s'=>∃ps H',Inv X pins σ H' s'∧VV ps vs∧Q ps H') X.xe s
theorem pps_nil{X:Cx}{pos:Pos}:PPs X pos [] [] []:=fun pins s σ H Q I h=>pairTrees_nil_walk ⟨[],H,I,.nil,h⟩
theorem pps_cons{X:Cx}{pos:Pos}{k v:Expr}{ks:List (Option Expr)}{vs:List Expr}{tk tv:TE}{trs:List (TE × TE)}(hk:PE X k tk)(hv:PE X v tv)(hr:PPs X pos ks vs trs) :
  PPs X pos (some k::ks) (v::vs) ((tk,tv)::trs):=fun pins s σ H Q I h =>
 pairTrees_cons_walk (thn (hk pins s σ H _ I h) fun u s1 ⟨x,H1,I1,rx,q1⟩=>thn (hv pins s1 σ H1 _ I1 q1) fun w2 s2 ⟨y,H2,I2,ry,q2⟩ =>
  thn (hr pins s2 σ H2 _ I2 q2) fun ws s3 ⟨ps,H3,I3,rel,q3⟩=>⟨(x,y)::ps,H3,I3,.cons ⟨rx,ry⟩ rel,q3⟩)
def mergeK(kvs more:List (Key × V)):List (Key × V):=more.foldl (fun acc kv=>putK acc kv.1 kv.2) kvs
theorem KV.merge:∀{more:List (Key × V)} {rs:List (Key × Value)} {kvs:List (Key × V)} {vs:List (Key × Value)},KV more rs→KV kvs vs→KV (mergeK kvs more) (merged vs rs):=by
 intro more rs kvs vs r
 unfold KV at r
 induction r generalizing kvs vs with
 |nil=>intro q;exact q
 |@cons p q ps qs h t ih =>
  intro r0
  have e:KV (putK kvs p.1 p.2) (stored vs q.1 q.2):=by
   have:=r0.put p.1 h.2
   rw [←h.1];exact this
  exact ih e
theorem length_mergeK:∀(more kvs:List (Key × V)),(mergeK kvs more).length≤kvs.length+more.length
 |[],kvs=>by show kvs.length≤kvs.length+0;omega
 |p::r,kvs=>by
  have h1:=length_mergeK r (putK kvs p.1 p.2)
  have h2:=length_putK kvs p.1 p.2
  show(mergeK (putK kvs p.1 p.2) r).length≤_
  rw [List.length_cons];omega
theorem carries_of{P:Program}{w:World}:∀{kvs:List (Key × V)} {ws:List (Value × Value)},VV (kvs.map fun kv=>(kV kv.1,kv.2)) ws→∃rs,Carries (mixKind P w) ws rs∧KV kvs rs
 |[],_,r=>by rw [List.map_nil] at r;cases r;exact⟨[],True.intro,.nil⟩
 |p::kvs,_,r=>by
  rw [List.map_cons] at r
  cases r with
  |@cons a b as bs h t =>
   obtain⟨rs,c,q⟩:=carries_of (P:=P) (w:=w) t
   obtain⟨b1,b2⟩:=b
   exact⟨(p.1,b2)::rs,⟨kV_is h.1,rfl,c⟩,.cons ⟨rfl,h.2⟩ q⟩
def tDisp(trs:List (TE × TE)):TE:=fun σ H Q=>∀p,H p=none→tPairs trs σ (upd H p (.dK [])) fun ps H2=>H2 p=some (.dK [])∧∃kvs:List (Key × V),ps=kvs.map (fun kv=>(kV kv.1,kv.2))∧kvs.length≤15∧Q (.ref p) (upd H2 p (.dK (mergeK [] kvs)))
theorem pe_disp{X:Cx}{pos:Pos}{keys:List (Option Expr)}{values:List Expr}{trs:List (TE × TE)}(h:PPs X pos keys values trs)(hall:keys.all (·.isSome)=true)(hl:keys.length=values.length)(h0:keys≠[])
  (h15:keys.length≤15):PE X (.Dict keys values pos) (tDisp trs):=by
 intro pins s σ H Q I q
 have hn:=I.hok.fresh (Nat.le_refl s.heap.objs.size)
 have I1:=I.laid (a:=s.heap.objs.size) (o:=.dK []) (h':=s.heap.push { cls:=.type "dict",data:=.dict #[] }) (t':=s.toks) (fun _ _ q=>Heap.get?_push_of_some _ q) (Nat.le_refl _) (dk_empty s.heap I.big)
 refine wpAny_Dict_walk (knd:=mixKind X.prog X.w) hall hl h0 h15 (thn (h pins _ σ _ _ I1 (q _ hn)) fun ws s2 ⟨ps,H2,I2,rel,e,kvs,ep,lk,q2⟩=>?_)
 subst ep
 obtain⟨rs,c,rk⟩:=carries_of (P:=X.prog) (w:=X.w) rel
 obtain⟨z,hd,vs0,r0,dd⟩:=dk_of I2.hok e
 cases r0
 refine⟨rs,c,dd,fun h' dd' hs=>⟨.ref s.heap.objs.size,_,?_,rfl,q2⟩⟩
 have hz:(mergeK [] kvs).length≤sizeLine:=by
  have h1:=length_mergeK kvs []
  rw [List.length_nil] at h1
  rw [sizeLine_eq];omega
 have he:∃q,h'.get? s.heap.objs.size=some q:=let ⟨q,_,_,hq,_⟩:=dd';⟨q,hq⟩
 exact d_write I2 (by rw [e];exact True.intro) hs he (dk_new hz hd (rk.merge .nil) dd')
structure M1(X:Cx)(o:Expr)(m:Str)(apos:Pos)(e:Expr)(cpos:Pos):Prop where
 base:attributeBase o m X.env (eval o X.env)=eval o X.env
 few:((backTo cpos (starEach [e] X.env)).all (fun x=>!x.1)&&(backToKw cpos (keywordEach [] X.env)).all (fun x=>x.1.isSome)
  && decide (([e]:List Expr).length+([]:List Keyword).length+(if ([]:List Keyword).isEmpty then 0 else 1) < 30))=true
 line:(apos.endLine==cpos.line)=true
 trees:backTo cpos (starEach [e] X.env)=[(false,eval e X.env)]
structure M2(X:Cx)(o:Expr)(m:Str)(apos:Pos)(e f:Expr)(cpos:Pos):Prop where
 base:attributeBase o m X.env (eval o X.env)=eval o X.env
 few:((backTo cpos (starEach [e,f] X.env)).all (fun x=>!x.1)&&(backToKw cpos (keywordEach [] X.env)).all (fun x=>x.1.isSome)
  && decide (([e,f]:List Expr).length+([]:List Keyword).length+(if ([]:List Keyword).isEmpty then 0 else 1) < 30))=true
 line:(apos.endLine==cpos.line)=true
 trees:backTo cpos (starEach [e,f] X.env)=[(false,eval e X.env),(false,eval f X.env)]
section
variable{X:Cx}{pins:List (Addr × Obj)}{σ:St}{H:Hp}{s:Shared}{a:Addr}{y d:V}{u r:Value}{o:Option V}{A:Around}{E:Value→Shared→Prop}
end
section
variable{X:Cx}{o e f:Expr}{apos cpos:Pos}{td ty tx:TE}
end
section
variable{X:Cx}{pins:List (Addr × Obj)}{σ:St}{H:Hp}{s:Shared}{a:Addr}{kvs:List (Key × V)}{A:Around}{E:Value→Shared→Prop}
end
section
variable{X:Cx}{pins:List (Addr × Obj)}{σ:St}{H:Hp}{s:Shared}{a:Addr}{y:V}{u:Value}{A:Around}{E:Value→Shared→Prop}
end
end L2
namespace Att
open PySem PySem.W PySem.Calls PyProof.Rows
theorem ints_of_wellAll{P:Params}{h:Heap}:∀(ns:List Int) (vs:List Value),WellAll P h vs (ns.map WData.int)→IntsAre vs ns:=by
 intro ns
 induction ns with
 |nil =>
  intro vs w
  rw [List.map_nil] at w
  cases w
  exact .nil
 |cons n ns ih =>
  intro vs w
  rw [List.map_cons] at w
  cases w with
  |cons a b =>
   cases a
   exact .cons _ _ (ih _ b)
theorem script_of{l:OpenLaw}{n:Nat}(hn:l.most=some n){P:Params}{h:Heap}{args:List WData}{vals:List Value}
  (hpre:l.row.toRowW.claim.pre args=true) (hwl:WellAll P h vals args) :
  ∃a vs ns,vals=[Value.ref a]∧args=[WData.list (ns.map WData.int)]∧h.get? a=some { cls:=.type "list",data:=.seq vs.toArray }∧IntsAre vs ns∧ns.length≤n:=by
 have hsh:WShape.hasAll [] args [.list .int]=true:=(pre_splitW hpre).1
 have hc:l.pre.holds [] { args:=args }=true:=(pre_splitW hpre).2
 obtain⟨d,r,rfl,h1,h2⟩:=hasAllW_cons hsh
 obtain rfl:=hasAllW_nil h2
 obtain⟨xs,rfl,h3⟩:=hasW_list h1
 obtain⟨ns,rfl⟩:=items_int h3
 have hlen:ns.length≤n:=by
  unfold OpenLaw.pre at hc
  have h4:(WTm.not (.lt (.lit (.int (n:Int))) (.len (.arg 0)))).holds [] { args:=[.list (ns.map .int)] }=true:=by
   have h4:=(holds_andW hc).1
   rw [hn] at h4
   exact h4
  have h5:=condW_of h4 (w_not (w_lt w_lit (w_len_list (w_arg rfl))))
  rw [List.length_map] at h5
  refine Nat.le_of_not_lt fun q=>?_
  have q':(n:Int) < ((ns.length:Nat):Int):=by omega
  first
   |(rw [decide_eq_true q'] at h5;exact absurd h5 (by decide))
   |(simp at h5;omega)
 cases hwl with
 |cons w1 w2 =>
  cases w2
  cases w1 with
  |list ho hall=>exact⟨_,_,ns,rfl,rfl,ho,ints_of_wellAll ns _ hall,hlen⟩
theorem post_true(l:OpenLaw)(args:List WData):l.row.toRowW.claim.post args (.bool true) args=true :=
 postW_of (r:=l.row.toRowW) (X:=(true==true))
  (show WShape.has [] (.bool true) .bool=true by first|rfl|decide|simp [WShape.has,WShape.arms,WShape.armsAll])
  (show(WTm.eq .res (.lit (.bool true))).value [] { args:=args,res:=some (.bool true),after:=args }=some (.bool (true==true)) from w_eq_bool (w_res rfl) w_lit) rfl
theorem attach_call{l:OpenLaw}{n:Nat}{q:Program}{loose:List Str}{XP:(Str→Option Value)→Heap→Prop}{YP:World→Heap→Prop}{d:DefRec}
  (hn:l.most=some n) (hdf:d.params.defaults=[])
  (call:∀(w:World) (s₀ s₁:Shared) (mg mb:Str→Option Value) (fa:Addr) (o:Obj) (pm cd doc:Value) (a:Addr) (vs:List Value) (ns:List Int),
   Ground q loose [] XP w s₀ mg mb s₁.heap→YP w s₁.heap →
   s₁.heap.get? fa=some o→o.data=.func (docDef d.name d.params d.body d.scope pm cd doc)→s₁.heap.CodeRec cd d.name→mg d.name=some (.ref fa) →
   s₁.heap.get? a=some { cls:=.type "list",data:=.seq vs.toArray }→IntsAre vs ns→ns.length≤n→s₁.gens=#[] →
   codeAny (model l.prog w) callerA (.call (.ref fa) ⟨[.ref a],[]⟩) (fun r s'=>r=.ok (.ret (.bool true))∧OldK s₁.heap s'.heap∧s'.os=s₁.os∧AllBare s'.gens) s₁) :
  WalkO q loose XP YP l.row.toRowW d [] (fun f vs=>PySem.call f vs):=by
 intro w s₀ s₁ mg mb G Y fa o pm cd doc dV kV ho hd hcd hD hmg hg args vals as hpre hlay hrd hwl hlo
 obtain rfl:dV=.none:=Dflts.none hD hdf
 obtain rfl:kV=.none:=Dflts.noKw hD
 obtain⟨a,vs,ns,rfl,rfl,hobj,hints,hlen⟩:=script_of hn hpre hwl
 refine enter_call (codeAny_mono (call w s₀ s₁ mg mb fa o pm cd doc a vs ns G Y ho (fd_plain hd) hcd hmg hobj hints hlen hg) fun r s' hq=>?_)
 obtain⟨rfl,h2,h3,h4⟩:=hq
 exact⟨.inl ⟨.bool true,.bool true,[],rfl,fun _=>rfl,.bool true,post_true l _,fun _=>⟨List.Pairwise.nil,fun _ hm=>(nomatch hm)⟩⟩,h2,h3,h4⟩
section
variable{prog:Program}{w:World}{A:Around}{E:Value→Shared→Prop}{s:Shared}{K:Frag}
def ledger(h:Heap)(L d:Addr):List (Addr × Obj):=(List.range h.objs.size).filterMap fun a=>if a=L∨a=d then none else (h.get? a).map fun o=>(a,o)
end
end Att
namespace L2
open PySem PySem.Spec PyProof.Rows
theorem vals_ints:∀{vs:List Value} {ns:List Int},IntsAre vs ns→Vals (ns.map V.int) vs
 |_,_,.nil=>.nil
 |_,_,.cons n t h=>.cons ⟨t,rfl⟩ (vals_ints h)
end L2
namespace L2
open PySem PySem.Spec PyProof.Rows
abbrev KOf{K:PySem.W.Frag}{h:Heap}(_:K.In h):PySem.W.Frag:=K
end L2
/- THE LAST THEOREM (shape;LID,My.* are yours):
   My.Adr: a structure of the addresses that your layer names (classes,functions);My.Txt K t: a structure (Prop) of the equations over K;
   My.txt_mk:{K} {implicit addresses ..} (e1:nsIn K mainGlobals "law"=some (some (.ref f))) (e2:K.lookup f=some ⟨oc,od,.func (fnOf "law" "law" params body scope dV kV doc pm an cdv ct),sl⟩) (e3:codeIn K cdv "law"=true) ..:∃t,My.Txt K t
set_option maxRecDepth 100000 in
set_option maxHeartbeats 0 in
theorem PySem.Challenge.cw_LID_holds : PySem.Challenge.rw_LID.Holds := by
 w_on;o_law;k_head;(case hw=>w_witness2)
 k_fill
 refine L2.walk_of (l:=PySem.Challenge.rw_LID) (n:=63) (k:=40) (x:="script") (CX:=fun w=>..) (sp:=fun _=>My.sp_law) rfl (by decide) rfl ⟨rfl,by decide,by decide⟩ (fun w h Y=>PySem.W.kIn_of Y) ?F ?S ?C
 case F =>
  intro w mg fa h KX G hmg
  have T:∃t,My.Txt (L2.KOf KX) t:=by
   dsimp only [L2.KOf]                          -- K must stand as «<heap const> w.params» for k_is
   refine' My.txt_mk ?e1 ?e2 ?e3 ..
   (case e1=>PySem.W.k_is)                    -- in the order: a name -> its address -> its object -> its parts
   (case e2=>PySem.W.k_is)
   ..
  obtain⟨t,T⟩:=T
  have e0:=hmg.symm.trans (PySem.W.mg_of KX G T.law)
  cases e0                                       -- fa is the law's own address
  exact⟨_,fun s u=>.of_eq rfl,fun base kb nb=>My.law_fn T kb nb⟩     -- if «.of_eq rfl» comes too early: refine' ⟨_,?b,fun base kb nb=>My.law_fn T kb nb⟩;exact fun s u=>.of_eq rfl
 case S=>exact fun w H a ns hl hO hS=>..
 case C=>exact ..
(the tactic k_is has no namespace: write k_is) -/
namespace L2
open PySem PySem.Spec PyProof.Rows
def defArgs(s:Stmt):Arguments:=match s with
 |.FunctionDef _ a _ _ _ _ _ _ _ _=>a
 |_=>{ posonlyargs:=[],args:=[],vararg:=none,kwonlyargs:=[],kw_defaults:=[],kwarg:=none,defaults:=[] }
def defBody(s:Stmt):List Stmt:=match s with
 |.FunctionDef _ _ b _ _ _ _ _ _ _=>b
 |_=>[]
def defScope(s:Stmt):Scope:=match s with
 |.FunctionDef _ _ _ _ _ _ sc _ _ _=>sc
 |_=>{ kind:=.function,names:=[],isGenerator:=false,isCoroutine:=false }
abbrev CX0:CXT:=fun _ _ _ _ _ _=>False
abbrev E0:XK:=fun _ _ _=>False
theorem pass0{X:Cx}:Passes CX0 X E0:=fun _ _ _ _ _ _ _ h=>h.elim
structure Fun(K:PySem.W.Frag)(x qual:Str)(st:Stmt)(f:Addr)(fd:FuncData):Prop where
 ex:∃(oc:Value) (od:Option Addr) (kV doc pm:Value) (an:Option Addr) (cdv ct:Value) (osl:Array (Option Value)),
  fd=PySem.W.fnOf x qual (defArgs st) (defBody st) (defScope st) .none kV doc pm an cdv ct∧K.lookup f=some ⟨oc,od,.func fd,osl⟩∧PySem.W.codeIn K cdv qual=true
 kp:PySem.W.keepIn K (.ref f)=true
section
variable{P:Program}{w:World}{K:PySem.W.Frag}{mg:Str→Option Value}{base:Heap}
theorem Fun.ok{x qual:Str}{st:Stmt}{f:Addr}{fd:FuncData}{N ps:List Str}{k:Nat}{sp:Sp}(F:Fun K x qual st f fd)(S:FnScope N ps (defScope st))(len:∀vs H Q E,sp vs H Q E→vs.length=ps.length)
  (hbody:∀(cdv:Value) (A:Around) (outer:List Env) (s:Shared) (H:Hp) (vs:List V) (Q:VK) (E:XK),Room k (A.deeper (envOfC qual (defScope st) s.heap.objs.size f cdv))→sp vs H Q E →
   ∃t,PSs (cxOf CX0 P w K mg base N qual (defScope st) f cdv A outer s H E).nox (defBody st) t∧t { nx:=fun _ H'=>Q .non H',rt:=Q } (start N vs) H):FnOk P w K mg base CX0 (k+1) f fd ps sp:=by
 obtain⟨oc,od,kV,doc,pm,an,cdv,ct,osl,rfl,lk,hcd⟩:=F.ex
 refine fn_of lk hcd S len fun A outer s H vs Q E hr hsp=>?_
 obtain⟨t,h,q⟩:=hbody cdv A outer s H vs Q E hr hsp
 exact⟨t,h.nox,q⟩
theorem Fun.binds{x qual:Str}{st:Stmt}{f:Addr}{fd:FuncData}{ps:List Str}(F:Fun K x qual st f fd)
  (h:∀(kV doc pm:Value) (an:Option Addr) (cdv ct:Value) (us:List Value),us.length=ps.length→bindArgs (PySem.W.fnOf x qual (defArgs st) (defBody st) (defScope st) .none kV doc pm an cdv ct) ⟨us,[]⟩=pure (ps.zip us)):Binds K fd ps []:=by
 obtain⟨oc,od,kV,doc,pm,an,cdv,ct,osl,rfl,lk,hcd⟩:=F.ex
 exact .all (h kV doc pm an cdv ct)
theorem fun_mk{x qual:Str}{st:Stmt}{f:Addr}{oc:Value}{od an:Option Addr}{osl:Array (Option Value)}{kV doc pm cdv ct:Value}(l:K.lookup f=some ⟨oc,od,.func (PySem.W.fnOf x qual (defArgs st) (defBody st) (defScope st) .none kV doc pm an cdv ct),osl⟩)
  (c:PySem.W.codeIn K cdv qual=true) (k:PySem.W.keepIn K (.ref f)=true):Fun K x qual st f (PySem.W.fnOf x qual (defArgs st) (defBody st) (defScope st) .none kV doc pm an cdv ct):=⟨⟨oc,od,kV,doc,pm,an,cdv,ct,osl,rfl,l,c⟩,k⟩
end
theorem hu_of{A:Around}{k:Nat}(hr:Room k A):A.units+1 < cLine:=Nat.lt_of_le_of_lt (Nat.add_le_add_left (by decide:1≤64) _) hr.units
theorem small1000{n:Nat}(h:n≤1000):n < sizeLine:=Nat.lt_of_le_of_lt h (by decide)
section
variable{X:Cx}
theorem pv(i:Nat){x:Str}{pos:Pos}(hN:X.N[i]?=some x:=by rfl)(hv:Vis X.env.scope x:=by first|exact Or.inl rfl|exact Or.inr (Or.inl rfl)|exact Or.inr (Or.inr rfl)) (hd:(x==("__debug__":Str))=false:=by decide)
  (hcd:(x==("__classdict__":Str))=false:=by decide):PE X (.Name x pos) (tVar i):=pe_var hN hv hd hcd
end
theorem iteF{A B:Prop}(h:B):if false=true then A else B:=by
 rw [if_neg Bool.false_ne_true]
 exact h
theorem iteT{A B:Prop}(h:A):if true=true then A else B:=by
 rw [if_pos rfl]
 exact h
theorem ite2{c A B:Prop}[Decidable c](h1:c→A)(h2:¬c→B):if c then A else B:=by
 by_cases h:c
 ·rw [if_pos h]
  exact h1 h
 ·rw [if_neg h]
  exact h2 h
def Same(H H':Hp):Prop:=∀b o,H b=some o→H' b=some o
theorem Same.refl(H:Hp):Same H H:=fun _ _ h=>h
theorem Same.trans{H H1 H2:Hp}(a:Same H H1)(b:Same H1 H2):Same H H2:=fun c o h=>b c o (a c o h)
theorem Same.seq{K:PySem.W.Frag}{H H':Hp}{a:Addr}{xs:List V}(e:Same H H')(h:SqL K H a xs):SqL K H' a xs:=by
 rcases h with (h|⟨o,h⟩)|h
 ·exact .inl (.inl (e _ _ h))
 ·exact .inl (.inr ⟨o,e _ _ h⟩)
 ·exact .inr h
end L2
namespace L2
open PySem PySem.Spec PyProof.Rows
section
variable{X:Cx}
end
end L2
namespace L2
open PySem PySem.Spec PyProof.Rows
section
variable{κ:Type}[DecidableEq κ]
end
end L2
namespace L2
open PySem PySem.Spec PyProof.Rows
section
variable{X:Cx}{tg:Expr}
end
abbrev blk(X:Cx)(N':List Str)(sc:Scope)(cl:List (Str × Addr))(s₀:Shared)(H₀:Hp)(C:Addr)(ex:List Addr):Cx :=
 { X with N:=N',s₀:=s₀,H₀:=H₀,env:=compEnvC sc cl C X.env,outer:=X.stack,ex:=ex,fn:=fun _=>false,xe:=fun _ _=>False }
structure BlkSc(X:Cx)(caps:List Str)(sc:Scope)(cl:List (Str × Addr)):Prop where
 kind:sc.kind=.function
 nocell:∀y∈sc.names,y.2≠.cell
 names:∀y∈sc.names,y.2=.local→sc.names.lookup y.1=some .local
 clos:closureFor sc X.env=pure cl
 has:(sc.names.all fun y=>y.2 != .free||(cl.lookup y.1).isSome)=true
 sub:∀y∈cl,X.env.cells.lookup y.1=some y.2
 caps:∀x∈caps,(X.env.kindOf x=some .cell∨X.env.kindOf x=some .free)∧(cl.lookup x).isSome=true∧((relabel sc X.env).names.lookup x=some .cell∨(relabel sc X.env).names.lookup x=some .free)
theorem relabel_inv{env:Env}:∀{names:List (Str × NameKind)} {x:Str} {k:NameKind},(names.map fun(n,k)=>if (k==NameKind.free&&env.scope.kind==.function&&env.kindOf n==some .cell) then (n,NameKind.cell) else (n,k)).lookup x=some k →
  ∃k',(x,k')∈names∧(k'=k∨k'=.free)
 |[],_,_,h=>by simp at h
 |(n,k0)::r,x,k,h=>by
  have h':List.lookup x ((if (k0==NameKind.free&&env.scope.kind==.function&&env.kindOf n==some .cell)=true then (n,NameKind.cell) else (n,k0))::(r.map fun(n,k)=>if (k==NameKind.free&&env.scope.kind==.function&&env.kindOf n==some .cell) then (n,NameKind.cell) else (n,k)))=some k:=h
  by_cases hx:x=n
  ·subst hx
   refine⟨k0,List.mem_cons_self,?_⟩
   by_cases hc:(k0==NameKind.free&&env.scope.kind==.function&&env.kindOf x==some .cell)=true
   ·have hf:(k0==NameKind.free)=true:=by
     rw [Bool.and_eq_true,Bool.and_eq_true] at hc
     exact hc.1.1
    exact .inr (by cases k0<;>first|rfl|exact absurd hf (by decide))
   ·rw [if_neg hc,List.lookup_cons_self] at h'
    exact .inl (Option.some.inj h')
  ·have hb:(x==n)=false:=beq_eq_false_iff_ne.mpr hx
   have h2:(r.map fun(n,k)=>if (k==NameKind.free&&env.scope.kind==.function&&env.kindOf n==some .cell) then (n,NameKind.cell) else (n,k)).lookup x=some k:=by
    split at h'<;>simpa [List.lookup_cons,hb] using h'
   obtain⟨k',hm,hk⟩:=relabel_inv h2
   exact⟨k',List.mem_cons_of_mem _ hm,hk⟩
theorem BlkSc.hasc{X:Cx}{caps:List Str}{sc:Scope}{cl:List (Str × Addr)}(S:BlkSc X caps sc cl){x:Str}(h:(relabel sc X.env).names.lookup x=some .cell∨(relabel sc X.env).names.lookup x=some .free):∃c,cl.lookup x=some c:=by
 have key:(x,NameKind.free)∈sc.names:=by
  rcases h with h|h
  ·obtain⟨k',hm,hk⟩:=relabel_inv h
   rcases hk with rfl|rfl
   ·exact absurd rfl (S.nocell _ hm)
   ·exact hm
  ·obtain⟨k',hm,hk⟩:=relabel_inv h
   rcases hk with rfl|rfl<;>exact hm
 have q:=List.all_eq_true.mp S.has _ key
 have q2:(cl.lookup x).isSome=true:=by simpa using q
 exact Option.isSome_iff_exists.mp q2
theorem BlkSc.subc{X:Cx}{caps:List Str}{sc:Scope}{cl:List (Str × Addr)}(S:BlkSc X caps sc cl){x:Str}{c:Addr}(h:cl.lookup x=some c):X.env.cells.lookup x=some c:=S.sub _ (PySem.mem_of_lookup h)
def blkSt(n:Nat)(κ:List Nat)(σ:St):St:=List.replicate n none++κ.map fun k=>(σ[k]?).join
def CompRun(n:Nat)(κ:List Nat)(g:TG)(tc:TT)(te:TE)(σ:St)(J:It)(H1:Hp)(Q:VK):Prop :=
 ∃W:Nat→Nat→List V→Hp→Prop,(∃m,W 0 m [] H1)∧∀i m ys H2,W i m ys H2 →
  (J.stop i H2∧∀D,H2 D=none→Q (.ref D) (upd H2 D (.lst ys))) ∨
  (J.go i H2∧ys.length < sizeLine∧∀x H3,J.yld i H2 x H3→g x (blkSt n κ σ) H3 fun σ4 H4=>σ4.drop n=(blkSt n κ σ).drop n ∧
   tc σ4 H4 fun b H5=>if b=true then te σ4 H5 fun v H6=>∃m',m' < m∧W (i+1) m' (ys++[v]) H6 else ∃m',m' < m∧W (i+1) m' ys H5)
def tComp(n:Nat)(κ:List Nat)(wi:TI)(g:TG)(tc:TT)(te:TE):TE:=fun σ H Q=>wi σ H fun J H1=>CompRun n κ g tc te σ J H1 Q
def tYes:TT:=fun _ H Q=>Q true H
theorem tYes_go{σ:St}{H:Hp}{A B:Hp→Prop}(h:A H):tYes σ H fun b H5=>if b=true then A H5 else B H5:=by
 show(if true=true then A H else B H)
 rw [if_pos rfl]
 exact h
section
variable{X:Cx}{pins:List (Addr × Obj)}{σ:St}{H:Hp}{s:Shared}
theorem Inv.block{caps:List Str}{own:List Str}{κ:List Nat}{sc:Scope}{cl:List (Str × Addr)}{fp:List Addr}{h₁:Heap}{tk:Nat}(S:BlkSc X caps sc cl)(hκ:κ.map (fun k=>X.N[k]?)=caps.map some)(I:Inv X pins σ H s)
  (f2:∀b∈fp,FpOk X pins H b) (hfp:∀b∈fp,b < s.heap.objs.size)
  {hp:Heap} {ol:Obj} (ehp:hp=s.heap.push ol) (hns:h₁.Ns hp.objs.size fun _=>none) (old:∀b o,hp.get? b=some o→h₁.get? b=some o) :
  Inv (blk X (own++caps) sc cl { s with heap:=hp } H hp.objs.size (s.heap.objs.size::fp)) pins (blkSt own.length κ σ) H { s with heap:=h₁,toks:=tk }:=by
 have hsz:hp.objs.size=s.heap.objs.size+1:=by rw [ehp,Heap.size_push]
 have up:∀b o,s.heap.get? b=some o→hp.get? b=some o:=fun b o e=>by rw [ehp];exact Heap.get?_push_of_some _ e
 have I3:Inv X pins σ H { s with heap:=hp }:=I.kept (t':=s.toks) up
 have stk:∀b,b≠X.env.locals→b∉X.fs→b∉frs X.stack:=fun b h1 h2 z=>(List.mem_cons.mp (I.stkSub b z)).elim h1 h2
 have dD:s.heap.objs.size≠X.env.locals:=Nat.ne_of_gt I.lt
 have cellLt:∀x c,X.env.cells.lookup x=some c→c < s.heap.objs.size:=fun x c e=>by
  obtain⟨v,q⟩:=I.cell x c e
  exact q.lt
 have ltC:∀b,b < s.heap.objs.size→b≠hp.objs.size:=fun b hb=>by rw [hsz];exact Nat.ne_of_lt (Nat.lt_succ_of_lt hb)
 have cellK:∀c v,s.heap.IsCell c v→h₁.IsCell c v:=fun c v ⟨o,ho,hd⟩=>⟨o,old _ _ (up _ _ ho),hd⟩
 refine⟨⟨I.ok.mod,?_,I.ok.glob,I.ok.blt,Nat.le_refl _,fun x y c h1 h2=>I.ok.inj x y c (S.subc h1) (S.subc h2),fun x h=>S.hasc h,fun _ _ z=>absurd z Bool.false_ne_true,I.ok.hd,I.ok.frames,.inl rfl,fun b hb=>?_,fun b o e=>⟨up _ _ (I.bs b o e).1,(I.bs b o e).2⟩,
   Nat.le_trans (Nat.le_trans I.ok.bsz I.sz) (by show s.heap.objs.size≤hp.objs.size;rw [hsz];exact Nat.le_succ _),fun b o e hb=>?_,fun b hb=>?_,I3.stack,I.stkFree⟩,
  rfl,I.bare,Un.kept old,⟨_,hns,fun i x v e1 e2 e3=>?_⟩,fun x c h=>?_,I.hok.fresh (by rw [hsz];exact Nat.le_succ _),fun x c h=>I.freeC x c (S.subc h),fun p hp'=>?_,I.hok.kept fun b u e=>old _ _ (up _ _ e),?_⟩
 ·show(relabel sc X.env).kind=.function
  exact S.kind
 ·show b≠hp.objs.size∧∀x c,cl.lookup x=some c→c≠b
  rcases List.mem_cons.mp hb with rfl|hb
  ·exact⟨by rw [hsz];exact Nat.ne_of_lt (Nat.lt_succ_self _),fun x c h=>Nat.ne_of_lt (cellLt x c (S.subc h))⟩
  ·exact⟨ltC b (hfp b hb),fun x c h=>(f2 b hb).2.2.2.2.1 x c (S.subc h)⟩
 ·have hlt:b < X.s₀.heap.objs.size:=Nat.lt_of_lt_of_le (Heap.lt_size e) I.ok.bsz
  rcases List.mem_cons.mp hb with rfl|hb
  ·exact absurd (Nat.lt_of_lt_of_le hlt I.sz) (Nat.lt_irrefl _)
  ·rcases (f2 b hb).2.2.2.1 with z|z
   ·exact I.ok.noex b o e z
   ·exact absurd (Nat.lt_of_lt_of_le hlt z) (Nat.lt_irrefl _)
 ·rcases List.mem_cons.mp hb with rfl|hb
  ·exact stk _ dD (I.nofs (Nat.le_refl _))
  ·exact stk _ (f2 b hb).2.1 (f2 b hb).2.2.1
 ·have e1':(own++caps)[i]?=some x:=e1
  have hlen:(List.replicate own.length (none:Option V)).length=own.length:=List.length_replicate
  have hge:own.length≤i:=by
   refine Nat.le_of_not_lt fun hlt=>?_
   unfold blkSt at e2
   rw [List.getElem?_append_left (by rw [hlen];exact hlt),List.getElem?_replicate,if_pos hlt] at e2
   cases e2
  unfold blkSt at e2
  rw [List.getElem?_append_right (by rw [hlen];exact hge),hlen,List.getElem?_map] at e2
  rw [List.getElem?_append_right hge] at e1'
  cases ek:κ[i - own.length]? with
  |none=>rw [ek] at e2;cases e2
  |some k =>
   rw [ek] at e2
   have e2':(σ[k]?).join=some v:=Option.some.inj e2
   have e4:σ[k]?=some (some v):=by
    cases eσ:σ[k]? with
    |none=>rw [eσ] at e2';cases e2'
    |some w=>rw [eσ] at e2';exact congrArg some e2'
   have e5:X.N[k]?=some x:=by
    have z:=congrArg (fun l=>l[i - own.length]?) hκ
    simp only [List.getElem?_map,ek,e1',Option.map_some] at z
    exact Option.some.inj z
   obtain⟨c1,c2,c3⟩:=S.caps x (List.mem_of_getElem? e1')
   obtain⟨m,hn,hl⟩:=I.loc
   obtain⟨u,r,l⟩:=hl k x v e5 e4 (c1.elim (fun z=>.inr (.inl z)) fun z=>.inr (.inr z))
   refine⟨u,r,?_⟩
   rcases l with ⟨hk,_⟩|⟨_,c,hc,hcell⟩
   ·rcases c1 with z|z<;>(rw [hk] at z;cases z)
   ·obtain⟨c',hc'⟩:=Option.isSome_iff_exists.mp c2
    have ecc:c'=c:=Option.some.inj ((S.subc hc').symm.trans hc)
    subst ecc
    exact .inr ⟨c3,c',hc',cellK _ _ hcell⟩
 ·obtain⟨v,q⟩:=I.cell x c (S.subc h)
  exact⟨v,cellK c v q⟩
 ·obtain⟨e,n,ne,nf,d⟩:=I.pin p hp'
  exact⟨old _ _ (up _ _ e),n,ltC _ (Heap.lt_size e),stk _ ne nf,d⟩
 ·show(blkSt own.length κ σ).length=(own++caps).length
  have z:=congrArg List.length hκ
  rw [List.length_map,List.length_map] at z
  unfold blkSt
  rw [List.length_append,List.length_append,List.length_replicate,List.length_map,z]
theorem Inv.unblock{own caps:List Str}{sc:Scope}{cl:List (Str × Addr)}{fp:List Addr}{H':Hp}{s4:Shared}{σ':St}{pins':List (Addr × Obj)}{hp h':Heap}{ol:Obj}{ys:List V}{its:List Value}{cap:Nat}(I:Inv X pins σ H s)
  (f2:∀b∈fp,FpOk X pins H b) (ehp:hp=s.heap.push ol)
  (J:Inv (blk X (own++caps) sc cl { s with heap:=hp } H hp.objs.size (s.heap.objs.size::fp)) pins' σ' H' s4)
  (hD:s4.heap.get? s.heap.objs.size=some { cls:=.type "list",data:=.seq its.toArray cap }) (nD:H' s.heap.objs.size=none) (r:Vals ys its) (hz:ys.length≤sizeLine) (sb:Heap.SameBut hp.objs.size s4.heap h') :
  Inv X pins σ (upd H' s.heap.objs.size (.lst ys)) { s4 with heap:=h' }:=by
 have hsz:hp.objs.size=s.heap.objs.size+1:=by rw [ehp,Heap.size_push]
 have up:∀b o,s.heap.get? b=some o→hp.get? b=some o:=fun b o e=>by rw [ehp];exact Heap.get?_push_of_some _ e
 have nDs:H s.heap.objs.size=none:=I.hok.fresh (Nat.le_refl _)
 have neD:∀b o,s.heap.get? b=some o→b≠s.heap.objs.size:=fun b o e=>Nat.ne_of_lt (Heap.lt_size e)
 have neC:∀b o,s.heap.get? b=some o→b≠hp.objs.size:=fun b o e=>by rw [hsz];exact Nat.ne_of_lt (Nat.lt_succ_of_lt (Heap.lt_size e))
 have nex:∀b o,s.heap.get? b=some o→b∉fp→b∉s.heap.objs.size::fp:=fun b o e hb z=>(List.mem_cons.mp z).elim (neD b o e) hb
 have u:=J.base
 have hDC:s.heap.objs.size≠hp.objs.size:=by rw [hsz];exact Nat.ne_of_lt (Nat.lt_succ_self _)
 have eD:h'.get? s.heap.objs.size=some { cls:=.type "list",data:=.seq its.toArray cap }:=(sb.2 _ hDC).trans hD
 refine I.call' (ch:=fp) J.os ⟨fun b o e n hb hx=>?_,fun b o e n hb hx=>?_,fun b o e n hx=>?_,fun b o e hx=>?_,fun b xs e=>?_,fun b o x e=>?_,fun b ps e=>?_⟩ (fun b o e=>?_) J.bare fun b hb=>?_
 ·exact(sb.2 b (neC b o e)).trans (u.keep b o (up _ _ e) n hb (nex b o e hx))
 ·obtain⟨sl,q⟩:=u.slot b o (up _ _ e) n hb (nex b o e hx)
  exact⟨sl,(sb.2 b (neC b o e)).trans q⟩
 ·rw [upd_ne (neD b o e)]
  exact u.free b o (up _ _ e) n (nex b o e hx)
 ·obtain⟨o',q⟩:=u.there b o (up _ _ e) (nex b o e hx)
  exact⟨o',(sb.2 b (neC b o e)).trans q⟩
 ·rw [upd_ne (ne_of_none e nDs)]
  exact u.tups b xs e
 ·rw [upd_ne (ne_of_none e nDs)]
  exact u.frzs b o x e
 ·rw [upd_ne (ne_of_none e nDs)]
  exact u.tbls b ps e
 ·by_cases hb:b=s.heap.objs.size
  ·subst hb
   rw [upd_same] at e
   cases e
   exact⟨hz,its,cap,r,eD⟩
  ·rw [upd_ne hb] at e
   have nC:∀c w,H' c=some w→c≠hp.objs.size:=fun c w q=>ne_of_none q J.free
   refine(J.hok b o e).stay (fun c v hc q=>(sb.2 c ?_).trans q) (fun c q=>by rw [upd_ne (ne_of_none q nD)];exact q) fun c xs q=>by rw [upd_ne (ne_of_none q nD)];exact q
   rcases hc with rfl|hc
   ·exact nC c o e
   ·exact nC c _ hc
 ·obtain⟨_,f1,_,f3,f4,f5⟩:=f2 b hb
  exact⟨f3,f1,f4,f5⟩
end
section
variable{X:Cx}
theorem pe_compG{tg elt iter:Expr}{ifs:List Expr}{own caps:List Str}{κ:List Nat}{sc:Scope}{cl:List (Str × Addr)}{pos:Pos}{wi:TI}{g:TG}{tc:TT}{te:TE}(hcalm:X.calm=true)(S:BlkSc X caps sc cl)(hκ:κ.map (fun k=>X.N[k]?)=caps.map some)
  (hi:PI X tg iter wi) (hg:∀s₀ H₀ C ex,PG (blk X (own++caps) sc cl s₀ H₀ C ex) tg g)
  (hc:∀s₀ H₀ C ex (pins:List (Addr × Obj)) (s:Shared) (σ:St) (H:Hp) (Q:Bool→Hp→Prop),Inv (blk X (own++caps) sc cl s₀ H₀ C ex) pins σ H s→tc σ H Q →
   wpAny (model X.prog X.w) X.A (forIn ifs true fun c r=>if r=true then do let ok ←isTrue c (compEnvC sc cl C X.env) (eval c (compEnvC sc cl C X.env));pure (ForInStep.yield ok) else pure (ForInStep.yield r)) (TP (blk X (own++caps) sc cl s₀ H₀ C ex) pins σ Q) (fun _ _=>False) s)
  (he:∀s₀ H₀ C ex,PE (blk X (own++caps) sc cl s₀ H₀ C ex) elt te)
  (hs:∀x,foldedSetIterable iter X.env x=pure x:=by intro _;rfl):PE X (.ListComp elt [⟨tg,iter,ifs,0⟩] sc pos) (tComp own.length κ wi g tc te):=by
 intro pins s σ H Q I h
 rw [eval_ListComp]
 refine wpAny_comprehension_free (use:=none) rfl hs S.clos S.kind S.names (thn (hi pins s σ H _ I h) fun v s1 h1=>thn h1 fun itv s2 h2=>?_)
 obtain⟨it,fp,tn,J,H2,e,I2,T,st2,f2,W,⟨m0,w0⟩,turn⟩:=h2
 subst e
 have hfp:∀b∈fp,b < s2.heap.objs.size:=fun b hb=>by
  obtain⟨o,e,_⟩:=T.obj _ _ st2 b hb
  exact Heap.lt_size e
 refine wpAny_newObj_type (wpAny_newFunctionEnv S.nocell (fun y hy=>nomatch hy) (fun h₁ hns hsb=>?_) S.kind)
 generalize ehp:s2.heap.push { cls:=.type "list",dict:=none,data:=.seq ([]:List Value).toArray }=hp at hns hsb ⊢
 have hsz:hp.objs.size=s2.heap.objs.size+1:=by rw [←ehp,Heap.size_push]
 have hDC:s2.heap.objs.size≠hp.objs.size:=by rw [hsz];exact Nat.ne_of_lt (Nat.lt_succ_self _)
 have old:∀b o,hp.get? b=some o→h₁.get? b=some o:=fun b o e=>(hsb.2 b (Nat.ne_of_lt (Heap.lt_size e))).trans (Heap.get?_push_of_some _ e)
 have eD:h₁.get? s2.heap.objs.size=some { cls:=.type "list",data:=.seq ([]:List Value).toArray }:=old _ _ (by rw [←ehp];exact Heap.get?_push_size _ rfl)
 have I0:=Inv.block (own:=own) (h₁:=h₁) (tk:=s2.toks+([]:List (Str × Value)).length) S hκ I2 f2 hfp ehp.symm hns old
 have stkD:s2.heap.objs.size∉frs X.stack:=fun z=>(List.mem_cons.mp (I2.stkSub _ z)).elim (Nat.ne_of_gt I2.lt) (I2.nofs (Nat.le_refl _))
 have cellD:∀x c,cl.lookup x=some c→c≠s2.heap.objs.size:=fun x c q=>by
  obtain⟨v,z⟩:=I2.cell x c (S.subc q)
  exact Nat.ne_of_lt z.lt
 have pinD:∀p∈X.pn++pins,p.1≠s2.heap.objs.size:=fun p hp=>Nat.ne_of_lt (Heap.lt_size (I2.pin p hp).1)
 have stkF:∀b∈fp,b∉frs X.stack:=fun b hb z=>(List.mem_cons.mp (I2.stkSub _ z)).elim (f2 b hb).2.1 (f2 b hb).2.2.1
 have loop:codeAny (model X.prog X.w) X.A (.compLoop (.ListComp elt [⟨tg,iter,ifs,0⟩] sc pos) 0 (.ref it) (.ref s2.heap.objs.size) (compEnvC sc cl hp.objs.size X.env))
   (compPost (model X.prog X.w) X.A X.xe none (EP X pins σ Q) (.ref s2.heap.objs.size) hp.objs.size) { s2 with heap:=h₁,toks:=s2.toks+([]:List (Str × Value)).length }:=by
  refine codeAny_loop rfl (fun n s'=>∃(i:Nat) (ys:List V) (its:List Value) (cap:Nat) (H':Hp),Inv (blk X (own++caps) sc cl { s2 with heap:=hp } H2 hp.objs.size (s2.heap.objs.size::fp)) pins (blkSt own.length κ σ) H' s'∧tn i s'.heap∧(∀b∈fp,H' b=none) ∧
   s'.heap.get? s2.heap.objs.size=some { cls:=.type "list",data:=.seq its.toArray cap }∧H' s2.heap.objs.size=none∧Vals ys its∧ys.length≤sizeLine∧W i n ys H') (fun n s3 hI=>?_) m0
   ⟨0,[],[],0,H2,I0,T.keep _ _ _ st2 fun b hb o e=>old _ _ (by rw [←ehp];exact Heap.get?_push_of_some _ e),fun b hb=>(f2 b hb).1,eD,I2.hok.fresh (Nat.le_refl _),.nil,Nat.zero_le _,w0⟩
  obtain⟨i,ys,its,cap,H3,I3,st3,fr3,eD3,nD3,rv,hz,w3⟩:=hI
  show wpAny _ X.A ((compTurn (.ListComp elt [⟨tg,iter,ifs,0⟩] sc pos) 0 (.ref it) (.ref s2.heap.objs.size) (compEnvC sc cl hp.objs.size X.env)).onRaise fun x=>do noteFrame x (compEnvC sc cl hp.objs.size X.env);theTreesLotGoes x) _ _ s3
  refine wpAny_noted ?_
  rw [compTurn_list]
  have I3':Inv (blk X (own++caps) sc cl { s2 with heap:=hp } H2 hp.objs.size (s2.heap.objs.size::fp)) (pins++[(s2.heap.objs.size,{ cls:=.type "list",data:=.seq its.toArray cap })]) (blkSt own.length κ σ) H3 s3:=by
   refine I3.pins_of fun p hp=>(List.mem_append.mp hp).elim (fun z=>I3.pin p (List.mem_append_right _ z)) fun z=>?_
   obtain rfl:=List.mem_singleton.mp z
   exact⟨eD3,nD3,hDC,stkD,fun v q=>by cases q⟩
  have fpk:∀{H':Hp},(∀b∈fp,H' b=none)→∀b∈fp,FpOk (blk X (own++caps) sc cl { s2 with heap:=hp } H2 hp.objs.size (s2.heap.objs.size::fp)) (pins++[(s2.heap.objs.size,{ cls:=.type "list",data:=.seq its.toArray cap })]) H' b:=fun {H'} hn b hb =>
   ⟨hn b hb,by show b≠hp.objs.size;rw [hsz];exact Nat.ne_of_lt (Nat.lt_succ_of_lt (hfp b hb)),stkF b hb,.inl (List.mem_cons_of_mem _ hb),fun x c q=>(f2 b hb).2.2.2.2.1 x c (S.subc q),fun p hp=>by
    rw [←List.append_assoc] at hp
    rcases List.mem_append.mp hp with z|z
    ·exact(f2 b hb).2.2.2.2.2 p z
    ·obtain rfl:=List.mem_singleton.mp z
     exact Nat.ne_of_gt (hfp b hb)⟩
  rcases turn i n ys H3 w3 with ⟨stop,fin⟩|⟨go,hlt,step⟩
  ·refine wpAny_bind (wpAny_standAt (wpAny_bind (thn (T.done (blk X (own++caps) sc cl { s2 with heap:=hp } H2 hp.objs.size (s2.heap.objs.size::fp)) rfl rfl rfl hcalm i _ s3 _ H3 _ I3' (fpk fr3) st3 stop) fun r s4 ⟨hr,I4⟩=>?_)))
   subst hr
   refine wpAny_pure ?_
   obtain⟨m,hm,_⟩:=I4.loc
   refine⟨m,hm,fun h' sb=>?_⟩
   have eD4:=(I4.pin (s2.heap.objs.size,{ cls:=.type "list",data:=.seq its.toArray cap }) (List.mem_append_right _ (List.mem_append_right _ (List.mem_singleton.mpr rfl)))).1
   exact⟨.ref s2.heap.objs.size,_,Inv.unblock I2 f2 ehp.symm I4 eD4 nD3 rv hz sb,rfl,fin _ nD3⟩
  ·refine wpAny_bind (wpAny_standAt (wpAny_bind (thn (T.item (blk X (own++caps) sc cl { s2 with heap:=hp } H2 hp.objs.size (s2.heap.objs.size::fp)) rfl rfl rfl hcalm i _ s3 _ H3 _ I3' (fpk fr3) st3 go) fun r s4 ⟨u,hr,h4⟩=>?_)))
   subst hr
   refine wpAny_bind (thn h4 fun _ s5 ⟨x,H5,I5,r5,y5,st5,fr5⟩=>?_)
   have I5':=I5.pinned (fpk fr5) (T.obj _ _ st5)
   refine wpAny_bind (wpAny_mono (hg _ _ _ _ _ s5 _ H5 x u _ I5' r5 (step x H5 y5)) (fun _ s6 ⟨σ6,H6,I6,eσ,q6⟩=>?_) fun _ _ z=>z.elim)
   refine wpAny_bind (wpAny_mono (hc _ _ _ _ _ s6 σ6 H6 _ I6 q6) (fun ok s7 ⟨H7,I7,q7⟩=>?_) fun _ _ z=>z.elim)
   have back:∀{s8:Shared} {H8:Hp},Inv (blk X (own++caps) sc cl { s2 with heap:=hp } H2 hp.objs.size (s2.heap.objs.size::fp)) ((pins++[(s2.heap.objs.size,{ cls:=.type "list",data:=.seq its.toArray cap })])++pinsAt fp s5.heap) σ6 H8 s8 →
     Inv (blk X (own++caps) sc cl { s2 with heap:=hp } H2 hp.objs.size (s2.heap.objs.size::fp)) pins (blkSt own.length κ σ) H8 s8∧tn (i+1) s8.heap∧(∀b∈fp,H8 b=none)∧s8.heap.get? s2.heap.objs.size=some { cls:=.type "list",data:=.seq its.toArray cap }∧H8 s2.heap.objs.size=none:=by
    intro s8 H8 I8
    have pk:∀b∈fp,∀o,s5.heap.get? b=some o→s8.heap.get? b=some o∧H8 b=none:=fun b hb o e=>by
     have z:=I8.pin (b,o) (List.mem_append_right _ (List.mem_append_right _ (mem_pinsAt hb e)))
     exact⟨z.1,z.2.1⟩
    have zD:=I8.pin (s2.heap.objs.size,{ cls:=.type "list",data:=.seq its.toArray cap }) (List.mem_append_right _ (List.mem_append_left _ (List.mem_append_right _ (List.mem_singleton.mpr rfl))))
    refine⟨(I8.pins_of fun p hp=>I8.pin p (List.mem_append_right _ (List.mem_append_left _ (List.mem_append_left _ hp)))).weak ?_ fun j v e=>?_,T.keep _ _ _ st5 fun b hb o e=>(pk b hb o e).1,fun b hb=>?_,zD.1,zD.2.1⟩
    ·exact I3.len.trans I8.len.symm
    ·have hge:own.length≤j:=by
      refine Nat.le_of_not_lt fun q=>?_
      unfold blkSt at e
      rw [List.getElem?_append_left (by rw [List.length_replicate];exact q),List.getElem?_replicate,if_pos q] at e
      cases e
     have z:=congrArg (fun l=>l[j - own.length]?) eσ
     simp only [List.getElem?_drop] at z
     rw [show own.length+(j - own.length)=j by omega] at z
     rw [z]
     exact e
    ·obtain⟨o,e,_⟩:=T.obj _ _ st5 b hb
     exact(pk b hb o e).2
   cases ok with
   |false =>
    obtain⟨m',hm,w7⟩:=(if_neg Bool.false_ne_true)▸q7
    obtain⟨I8,st8,fr8,e8,n8⟩:=back I7
    exact wpAny_pure ⟨rfl,m',hm,i+1,ys,its,cap,H7,I8,st8,fr8,e8,n8,rv,hz,w7⟩
   |true =>
    have q7':=(if_pos rfl)▸q7
    refine wpAny_bind (wpAny_bind (wpAny_mono (he _ _ _ _ _ s7 σ6 H7 _ I7 q7') (fun y s8 ⟨v8,H8,I8,r8,m',hm,w8⟩=>?_) fun _ _ z=>z.elim))
    obtain⟨I9,st9,fr9,e9,n9⟩:=back I8
    have hl:=rv.length
    refine wpAny_bind (wpAny_list_append_plain (items:=its.toArray) ⟨cap,e9⟩ (fun h' hl' sb=>?_) (by rw [List.size_toArray,←hl];exact hz))
    obtain⟨cap',e'⟩:=hl'
    refine wpAny_pure (wpAny_pure ⟨rfl,m',hm,i+1,ys++[v8],its++[y],cap',H8,?_,?_,fr9,?_,n9,Vals.append rv (.cons r8 .nil),?_,w8⟩)
    ·exact I9.turned (t':=s8.toks) (fun b o hb e=>(sb.2 b hb).trans e) n9 hDC (.inl List.mem_cons_self) cellD pinD
    ·exact T.keep _ _ _ st9 fun b hb o e=>(sb.2 b (Nat.ne_of_lt (hfp b hb))).trans e
    ·rw [e']
     congr 3
     simp
    ·rw [List.length_append]
     exact hlt
 exact codeAny_compStart_list loop (T.self _ 0 _ _ _ (T.keep _ _ _ st2 fun b hb o e=>old _ _ (by rw [←ehp];exact Heap.get?_push_of_some _ e)) loop)
theorem pe_comp{tg elt iter:Expr}{own caps:List Str}{κ:List Nat}{sc:Scope}{cl:List (Str × Addr)}{pos:Pos}{wi:TI}{g:TG}{te:TE}(hcalm:X.calm=true)(S:BlkSc X caps sc cl)(hκ:κ.map (fun k=>X.N[k]?)=caps.map some)
  (hi:PI X tg iter wi) (hg:∀s₀ H₀ C ex,PG (blk X (own++caps) sc cl s₀ H₀ C ex) tg g) (he:∀s₀ H₀ C ex,PE (blk X (own++caps) sc cl s₀ H₀ C ex) elt te)
  (hs:∀x,foldedSetIterable iter X.env x=pure x:=by intro _;rfl):PE X (.ListComp elt [⟨tg,iter,[],0⟩] sc pos) (tComp own.length κ wi g tYes te) :=
 pe_compG hcalm S hκ hi hg (fun s₀ H₀ C ex pins s σ H Q I h=>wpAny_tests_nil ⟨H,I,h⟩) he hs
end
end L2
namespace L2
open PySem PySem.Spec PyProof.Rows
section
variable{X:Cx}
theorem bootAll:bootBuiltins "all"=some (.builtin "all"):=by decide +kernel
theorem bootIsi:bootBuiltins "isinstance"=some (.builtin "isinstance"):=by decide +kernel
theorem bools_of:∀{bs:List Bool} {us:List Value},Vals (bs.map V.bl) us→LSm.BoolsAre us bs
 |[],_,r=>by cases r;exact .nil
 |b::bs,_,r=>by
  cases r with
  |cons r1 r2 =>
   cases r1
   exact .cons b (bools_of r2)
theorem call_allB(hc:X.calm=true):CallR X (.builtin "all") (fun xs H Q=>∃(p:Addr) (bs:List Bool),xs=[.ref p]∧SqL X.K H p (bs.map V.bl)∧Q (.bl (bs.all id)) H):=by
 intro pins s σ H xs us Q I r h
 obtain⟨p,bs,rfl,hq,q⟩:=h
 obtain⟨u,rfl,rx⟩:=vals1 r
 cases rx
 obtain⟨its,rv,pl,hz⟩:=I.list hq
 have hb:=bools_of rv
 have hlt:p < s.heap.objs.size:=by obtain⟨_,e,_⟩:=pl.isList;exact Heap.lt_size e
 refine call_all_walk (wpAny_pyIter_list pl.isList ?_)
 refine⟨s.heap.objs.size,[s.heap.objs.size,p],[s.heap.objs.size],its.toArray.size,_,_,fun i=>(bs[i]?).getD true,rfl,Walks.list (A:=X.A.in1) (I.ok.hd hc) _ p (Nat.ne_of_lt hlt) its.toArray,
  ⟨⟨_,Heap.get?_push_size _ rfl,rfl,rfl⟩,pl.isList.push _⟩,fun i v s' Q' E' hP hQ=>?_,fun h' tk hk=>?_⟩
 ·obtain⟨b,e,rfl⟩:=hb.get i v (by simpa using hP)
  have hQ':Q' ((bs[i]?).getD true) s':=hQ
  rw [e] at hQ'
  exact wpAny_truthy_bool hQ'
 ·have e:((List.range its.toArray.size).all fun i=>(bs[i]?).getD true)=bs.all id:=by
   rw [List.size_toArray,hb.length]
   exact LSm.range_all bs
  rw [e]
  exact⟨.bl (bs.all id),H,I.kept (LSm.kept_iter hk),rfl,q⟩
end
end L2
namespace L2
open PySem PySem.Spec PyProof.Rows
end L2
namespace L2
open PySem PySem.Spec PyProof.Rows
theorem comp_by{J:It}{xs:List V}{n:Nat}{κ:List Nat}{g:TG}{tc:TT}{te:TE}{σ:St}{H:Hp}{Q:VK}(Pv:Nat→List V→Hp→Prop)(h0:Pv 0 [] H)(hz:xs.length≤sizeLine)(hlen:∀i ys H2,Pv i ys H2→ys.length≤i)
  (hgo:∀i x ys H2,xs[i]?=some x→Pv i ys H2→J.go i H2) (hyl:∀i ys x H2 H',i < xs.length→Pv i ys H2→J.yld i H2 x H'→H'=H2∧xs[i]?=some x) (hst:∀ys H2,Pv xs.length ys H2→J.stop xs.length H2)
  (hs:∀i x ys H2 (N:List V→Hp→Prop),(∀ys' H',Pv (i+1) ys' H'→N ys' H')→xs[i]?=some x→Pv i ys H2→g x (blkSt n κ σ) H2 fun σ4 H4=>σ4.drop n=(blkSt n κ σ).drop n∧tc σ4 H4 fun b H5=>if b=true then te σ4 H5 fun v H6=>N (ys++[v]) H6 else N ys H5)
  (hQ:∀ys H2 D,Pv xs.length ys H2→H2 D=none→Q (.ref D) (upd H2 D (.lst ys))) :
  CompRun n κ g tc te σ J H Q:=by
 refine⟨fun i m ys H2=>m=xs.length - i∧i≤xs.length∧Pv i ys H2,⟨xs.length,rfl,Nat.zero_le _,h0⟩,?_⟩
 rintro i m ys H2 ⟨rfl,hi,p⟩
 by_cases hlt:i < xs.length
 ·have e:xs[i]?=some xs[i]:=List.getElem?_eq_getElem hlt
  refine .inr ⟨hgo i _ ys H2 e p,Nat.lt_of_le_of_lt (hlen i ys H2 p) (Nat.lt_of_lt_of_le hlt hz),fun x H3 y=>?_⟩
  obtain⟨rfl,ex⟩:=hyl i ys x H2 H3 hlt p y
  exact hs i x ys _ (fun ys' H'=>∃m',m' < xs.length - i∧m'=xs.length - (i+1)∧i+1≤xs.length∧Pv (i+1) ys' H') (fun ys' H' p'=>⟨xs.length - (i+1),by omega,rfl,hlt,p'⟩) ex p
 ·obtain rfl:i=xs.length:=by omega
  exact .inl ⟨hst ys H2 p,fun D hD=>hQ ys H2 D p hD⟩
def rangeV(lo:Int)(n:Nat):List V:=(List.range n).map fun i=>V.int (lo+(i:Nat))
theorem rangeV_len(lo:Int)(n:Nat):(rangeV lo n).length=n:=by simp [rangeV]
theorem rangeV_get{lo:Int}{n i:Nat}{x:V}:(rangeV lo n)[i]?=some x↔i < n∧x=.int (lo+i):=by
 unfold rangeV
 rw [List.getElem?_map]
 by_cases h:i < n
 ·rw [List.getElem?_range h]
  simp [h,eq_comm]
 ·rw [List.getElem?_eq_none (by simp;omega)]
  simp [h]
theorem itr_go{lo:Int}{n:Nat}{H:Hp}{i:Nat}{x:V}(h:(rangeV lo n)[i]?=some x):(Itr lo n).go i H:=(rangeV_get.mp h).1
theorem itr_yld'{lo:Int}{n:Nat}{H H':Hp}{i:Nat}{x:V}(hi:i < n)(h:(Itr lo n).yld i H x H'):H'=H∧(rangeV lo n)[i]?=some x:=⟨h.1,rangeV_get.mpr ⟨hi,h.2⟩⟩
section
variable{X:Cx}
theorem strs_of:∀{ys:List Str} {us:List Value},Vals (ys.map V.str) us→StrsAre us ys
 |[],_,r=>by cases r;exact .nil
 |y::ys,_,r=>by
  cases r with
  |cons r1 r2 =>
   obtain⟨t,rfl⟩:=r1
   exact .cons y t (strs_of r2)
theorem mt_join:MtR X "str.join" (fun x vs H Q=>∃sep p ys,x=.str sep∧vs=[.ref p]∧SqL X.K H p (ys.map V.str)∧(ys.map (·.length)).sum+ys.length*sep.length≤16777216∧Q (.str (Txt.join sep ys)) H):=by
 intro pins s σ H x xs v us Q I rx rv h
 obtain⟨sep,p,ys,rfl,rfl,hq,hz,q⟩:=h
 obtain⟨t,rfl⟩:=rx
 obtain⟨u,rfl,ru⟩:=rv.one
 cases ru
 obtain⟨its,r,pl,_⟩:=I.list hq
 exact join_list pl.isList (by simpa using strs_of r) hz fun t' k=>⟨.str _,H,I.tok _,⟨_,rfl⟩,q⟩
end
end L2
namespace L2
open PySem PySem.Spec PyProof.Rows
mutual
inductive Dat (K:PySem.W.Frag) (H:Hp):V→PyData→Prop
 |non:Dat K H .non .none
 |bl (b:Bool):Dat K H (.bl b) (.bool b)
 |int (i:Int):Dat K H (.int i) (.int i)
 |str (x:Str):Dat K H (.str x) (.str x)
 |tup {a:Addr} {xs:List V} {ds:List PyData}:SqT K H a xs→Dats K H xs ds→Dat K H (.ref a) (.tuple ds)
 |lst {a:Addr} {xs:List V} {ds:List PyData}:SqL K H a xs→Dats K H xs ds→Dat K H (.ref a) (.list ds)
inductive Dats (K:PySem.W.Frag) (H:Hp):List V→List PyData→Prop
 |nil:Dats K H [] []
 |cons {x:V} {d:PyData} {xs:List V} {ds:List PyData}:Dat K H x d→Dats K H xs ds→Dats K H (x::xs) (d::ds)
end
theorem Same.tup {K : PySem.W.Frag} {H H' : Hp} {a : Addr} {xs : List V} (e : Same H H') (h : SqT K H a xs) : SqT K H' a xs := by
  rcases h with (h | ⟨o, h⟩) | h
  · exact .inl (.inl (e _ _ h))
  · exact .inl (.inr ⟨o, e _ _ h⟩)
  · exact .inr h
mutual
theorem Dat.same{K:PySem.W.Frag}{H H':Hp}(e:Same H H'):∀{x:V} {d:PyData},Dat K H x d→Dat K H' x d
 |_,_,.non=>.non
 |_,_,.bl b=>.bl b
 |_,_,.int i=>.int i
 |_,_,.str x=>.str x
 |_,_,.tup h r=>.tup (e.tup h) (Dats.same e r)
 |_,_,.lst h r=>.lst (e.seq h) (Dats.same e r)
theorem Dats.same{K:PySem.W.Frag}{H H':Hp}(e:Same H H'):∀{xs:List V} {ds:List PyData},Dats K H xs ds→Dats K H' xs ds
 |_,_,.nil=>.nil
 |_,_,.cons h r=>.cons (Dat.same e h) (Dats.same e r)
end
section
variable{X:Cx}{pins:List (Addr × Obj)}{σ:St}{H:Hp}{s:Shared}
mutual
theorem Dat.reads(I:Inv X pins σ H s):∀{x:V} {d:PyData} {v:Value},Dat X.K H x d→RelV x v→∃as,Reads s.heap v d as
 |_,_,_,.non,r=>by cases r;exact⟨_,.none⟩
 |_,_,_,.bl b,r=>by cases r;exact⟨_,.bool b⟩
 |_,_,_,.int i,r=>by obtain⟨t,rfl⟩:=r;exact⟨_,.int i t⟩
 |_,_,_,.str x,r=>by obtain⟨t,rfl⟩:=r;exact⟨_,.str x t⟩
 |_,_,_,.tup hq ds,r=>by
  cases r
  obtain⟨its,rv,p,_⟩:=I.tuple hq
  obtain⟨as,q⟩:=Dats.reads I ds rv
  obtain⟨o,e,c,n,dt⟩:=p
  exact⟨as,.tuple e c dt (by simpa using q)⟩
 |_,_,_,.lst hq ds,r=>by
  cases r
  obtain⟨its,rv,p,_⟩:=I.list hq
  obtain⟨as,q⟩:=Dats.reads I ds rv
  obtain⟨o,n,e,c,_,dt⟩:=p
  exact⟨_,.list e c dt (by simpa using q)⟩
theorem Dats.reads(I:Inv X pins σ H s):∀{xs:List V} {ds:List PyData} {vs:List Value},Dats X.K H xs ds→Vals xs vs→∃as,ReadsAll s.heap vs ds as
 |_,_,_,.nil,r=>by cases r;exact⟨_,.nil⟩
 |_,_,_,.cons h t,r=>by
  cases r with
  |cons r1 r2 =>
   obtain⟨as,q⟩:=Dat.reads I h r1
   obtain⟨bs,q2⟩:=Dats.reads I t r2
   exact⟨_,.cons q q2⟩
end
end
section
variable{X:Cx}
def rEqD(K:PySem.W.Frag)(neg:Bool):R2:=fun x y H Q=>∃dx dy,Dat K H x dx∧Dat K H y dy∧SeqAt.shaped dx=true∧SeqAt.shaped dy=true∧Q (.bl (if neg then !PyData.eqv dx dy else PyData.eqv dx dy)) H
theorem op_eqD(hu:X.A.units+64 < cLine):OpR X (compareOp .Eq) (rEqD X.K false):=by
 intro pins s σ H x y v u Q I rx ry h
 obtain⟨dx,dy,hx,hy,sx,sy,q⟩:=h
 obtain⟨as,ra⟩:=Dat.reads I hx rx
 obtain⟨bs,rb⟩:=Dat.reads I hy ry
 exact eq_dataH ra rb sx sy hu ⟨.bl _,H,I,rfl,q⟩
theorem op_neD(hu:X.A.units+64 < cLine):OpR X (compareOp .NotEq) (rEqD X.K true):=by
 intro pins s σ H x y v u Q I rx ry h
 obtain⟨dx,dy,hx,hy,sx,sy,q⟩:=h
 obtain⟨as,ra⟩:=Dat.reads I hx rx
 obtain⟨bs,rb⟩:=Dat.reads I hy ry
 exact ne_dataH ra rb sx sy hu ⟨.bl _,H,I,rfl,q⟩
end
end L2
namespace L2
open PySem PySem.Spec PyProof.Rows
section
variable{X:Cx}
open Classical in
end
end L2
namespace L2
open PySem PySem.Spec PyProof.Rows
section
variable{prog:Program}{w:World}{A:Around}{E:Value→Shared→Prop}{s:Shared}
end
end L2
namespace L2
open PySem PySem.Spec PyProof.Rows
section
variable{X:Cx}
end
end L2
namespace Kk
open PySem L2
inductive Kd where
 |num (n:Int)
 |name (q t:Str)
 |pair (a b:Kd)
 deriving DecidableEq
def Kd.words:Kd→Nat
 |.num _=>1
 |.name _ _=>1
 |.pair a b=>1+a.words+b.words
def Kd.leaves:Kd→List Kd
 |.num n=>[.num n]
 |.name q t=>[.name q t]
 |.pair a b=>a.leaves++b.leaves
def Kd.leaf:Kd→Bool
 |.pair _ _=>false
 |_=>true
inductive KdAt (K:PySem.W.Frag) (H:Hp):V→Kd→Prop
 |num {a:Addr} {n:Int}:SqT K H a [.str "num",.int n]→KdAt K H (.ref a) (.num n)
 |name {a:Addr} {q t:Str}:SqT K H a [.str "name",.str q,.str t]→KdAt K H (.ref a) (.name q t)
 |pair {a:Addr} {x y:V} {k l:Kd}:SqT K H a [.str "pair",x,y]→KdAt K H x k→KdAt K H y l→KdAt K H (.ref a) (.pair k l)
end Kk
namespace L2
open PySem PySem.Spec PyProof.Rows
section
variable{α β:Type}{P:Shared→Prop}
variable{x:Addr}{d:Option Addr}
end
end L2
namespace L2
open PySem PySem.Spec PyProof.Rows
section
variable{P:Program}{w:World}
structure Fly(P:Program)(w:World)(outer:List Env)(H:Hp)(s:Shared)(x:Addr)(cls:Value)(H':Hp)(s':Shared):Prop where
 os:s'.os=s.os
 bare:AllBare s'.gens
 un:Un (frs outer) [] H H' s.heap s'.heap
 hok:HOk P w H' s'.heap
 fl:∃B a0,Heap.FlyingW B outer x cls a0 s'.heap∧(∀b o,H' b=some o→∃u,B.get? b=some u)∧∀b o,s.heap.get? b=some o→b∉frs outer→∃u,B.get? b=some u
 free:H' x=none
end
section
variable{X:Cx}{pins:List (Addr × Obj)}{σ:St}{H H':Hp}{s s':Shared}{x:Addr}{cls:Value}{E:Value→Shared→Prop}{Q:Unit→Shared→Prop}
end
section
variable{P:Program}{w:World}{K:PySem.W.Frag}{mg:Str→Option Value}{base:Heap}{N:List Str}{qual:Str}{scope:Scope}{f:Addr}{cd:Value}{A:Around}{outer:List Env}{s:Shared}{H:Hp}{E:XK}
end
abbrev bmVE:List Value:=[.type "ValueError",.type "Exception",.type "BaseException",.type "object"]
section
variable{P:Program}{w:World}{K:PySem.W.Frag}{mg:Str→Option Value}{base:Heap}
end
end L2
namespace L2
open PySem PySem.Spec PyProof.Rows
section
variable{X:Cx}{pins:List (Addr × Obj)}{σ:St}{H H':Hp}{s s':Shared}{x:Addr}{cls:Value}
end
abbrev Cx.inE(X:Cx)(e:Addr):Cx:={ X with A:=X.A.mark (some (.ref e)),calm:=false }
section
variable{X:Cx}{pins:List (Addr × Obj)}{σ:St}{H:Hp}{s:Shared}
end
def etry(X:Cx)(hs:List ExceptHandler)(pins:List (Addr × Obj))(D:Ends):Value→Shared→Prop:=fun e s1 =>
 wpAny (model X.prog X.w) X.A (noteFrame e X.env) (fun _ s2=>wpAny (model X.prog X.w) X.A (setFlight e none) (fun _ s3=>wpAny (model X.prog X.w) X.A (handleBy e X.env hs) (SP X pins D) X.xe s3) X.xe s2) X.xe s1
abbrev Cx.tryIn(X:Cx)(hs:List ExceptHandler)(pins:List (Addr × Obj))(D:Ends):Cx:={ X with pn:=X.pn++pins,xe:=etry X hs pins D }
section
variable{X:Cx}{hs:List ExceptHandler}{pins pins':List (Addr × Obj)}{D D':Ends}{σ:St}{H:Hp}{s:Shared}
end
section
variable{X:Cx}{CX:CXT}{k:Nat}{f C:Addr}{fd:FuncData}{ps:List Str}{sp:Sp}{dvs:List V}{ds:List Value}{E:St→XK}{x m:Str}{p pos apos:Pos}{e o:Expr}{es:List Expr}{ta:TE}{t:TA}
end
end L2
namespace L2
open PySem PySem.Spec PyProof.Rows
section
variable{X:Cx}{pos:Pos}{e:Expr}{es:List Expr}{te:TE}
end
end L2
namespace L2
open PySem PySem.Spec PyProof.Rows
section
variable{prog:Program}{w:World}{A:Around}{s:Shared}{E:Value→Shared→Prop}{K:Type}[DecidableEq K]{knd:KeyKind prog w K}
end
section
variable{X:Cx}
theorem valV_nodup{kvs:List (Key × V)}(hn:(kvs.map (·.1)).Nodup):∀p∈kvs,valV kvs p.1=some p.2:=by
 intro p hp
 induction kvs with
 |nil=>cases hp
 |cons q r ih =>
  have hn:=List.nodup_cons.mp (List.map_cons▸hn)
  unfold valV
  rw [List.find?_cons]
  by_cases e:q.1=p.1
  ·have eq:q=p:=by
    rcases List.mem_cons.mp hp with z|z
    ·exact z.symm
    ·exact absurd (List.mem_map.mpr ⟨p,z,e.symm⟩) hn.1
   rw [decide_eq_true e,eq]<;>rfl
  ·rw [decide_eq_false e]
   have hp':p∈r:=(List.mem_cons.mp hp).resolve_left fun z=>e (by rw [z])
   exact ih hn.2 hp'
theorem call_dict_dK:CallR X (.type "dict") (fun xs H Q=>∃a kvs,xs=[.ref a]∧H a=some (.dK kvs)∧∀l,H l=none→Q (.ref l) (upd H l (.dK kvs))):=by
 intro pins s σ H xs us Q I r h
 obtain⟨a,kvs,rfl,ha,q⟩:=h
 obtain⟨u,rfl,ru⟩:=vals1 r
 cases ru
 obtain⟨z,hd,vs,rel,dd⟩:=dk_of I.hok ha
 refine PySem.kt_call_dict hd dd (by rw [←rel.length];exact z) fun h' dd' hs=>?_
 have keep:∀b o,s.heap.get? b=some o→h'.get? b=some o:=fun b o e=>(hs.2 b (Nat.ne_of_lt (Heap.lt_size e))).trans (Heap.get?_push_of_some _ e)
 refine⟨.ref s.heap.objs.size,_,I.laid (o:=.dK kvs) (t':=s.toks) keep (Nat.le_refl _) ⟨z,beq_eq_false_iff_ne.mpr (Ne.symm (Nat.ne_of_lt I.big)),vs,rel,dd'⟩,rfl,q _ (I.hok.fresh (Nat.le_refl _))⟩
theorem dK_nodup{pins:List (Addr × Obj)}{σ:St}{H:Hp}{s:Shared}{a:Addr}{kvs:List (Key × V)}(I:Inv X pins σ H s)(e:H a=some (.dK kvs)):(kvs.map (·.1)).Nodup:=by
 obtain⟨_,_,vs,rel,dd⟩:=dk_of I.hok e
 obtain⟨_,_,_,_,_,_,_,_,hn⟩:=dd
 have ek:∀{l:List (Key × V)} {m:List (Key × Value)},KV l m→l.map (·.1)=m.map (·.1):=fun {l m} p=>by
  unfold KV at p
  induction p with
  |nil=>rfl
  |cons h _ ih=>rw [List.map_cons,List.map_cons,ih,h.1]
 rw [ek rel]
 exact hn
end
end L2
namespace L2
open PySem PySem.Spec PyProof.Rows
structure ExcCls(K:PySem.W.Frag)(D:Addr):Prop where
 is:(match K.lookup D with|some ⟨_,_,.cls _,_⟩=>true|_=>false)=true
 ga:PySem.W.findIn K (.ref D) "__getattribute__"=some (some (.builtin "BaseException.__getattribute__"))
 gh:PySem.W.findIn K (.ref D) "__getattr__"=some none
 cl:PySem.W.findIn K (.ref D) "__class__"=some (some (.builtin "object.__class__"))
 sp:PySem.W.specialIn K (.builtin "object.__class__") "__get__"=some (some (.builtin "getset_descriptor.__get__"))
 tk:PySem.W.takesIn K (.builtin "object.__class__")=some true
 ob:PySem.W.mroIn K D (.type "object")=some true
 be:PySem.W.mroIn K D (.type "BaseException")=some true
section
variable{prog:Program}{w:World}{A:Around}{E:Value→Shared→Prop}{s:Shared}{K:PySem.W.Frag}{x D:Addr}
end
section
variable{X:Cx}
end
section
variable{X:Cx}{pins:List (Addr × Obj)}{σ:St}{H H':Hp}{s s':Shared}{x:Addr}{cls:Value}
def Ends.gone(D:Ends)(i:Nat):Ends:={ nx:=fun σ H=>D.nx (σ.set i none) H,rt:=D.rt,bk:=fun σ H=>D.bk (σ.set i none) H,ct:=fun σ H=>D.ct (σ.set i none) H }
end
end L2
namespace L2
open PySem PySem.Spec PyProof.Rows
structure FunD(K:PySem.W.Frag)(x qual:Str)(st:Stmt)(dV:Value)(f:Addr)(fd:FuncData):Prop where
 ex:∃(oc:Value) (od:Option Addr) (kV doc pm:Value) (an:Option Addr) (cdv ct:Value) (osl:Array (Option Value)),
  fd=PySem.W.fnOf x qual (defArgs st) (defBody st) (defScope st) dV kV doc pm an cdv ct∧K.lookup f=some ⟨oc,od,.func fd,osl⟩∧PySem.W.codeIn K cdv qual=true
 kp:PySem.W.keepIn K (.ref f)=true
section
variable{P:Program}{w:World}{K:PySem.W.Frag}{mg:Str→Option Value}{base:Heap}
end
end L2
namespace L2
open PySem PySem.Spec PyProof.Rows
section
variable{X:Cx}
theorem ps_compG{i0:Nat}{y0:Str}{py0 spos:Pos}{tg elt iter:Expr}{ifs:List Expr}{own caps:List Str}{κ:List Nat}{sc:Scope}{cl:List (Str × Addr)}{pos:Pos}{wi:TI}{g:TG}{tc:TT}{te:TE}(hN:X.N.Nodup)(hi0:X.N[i0]?=some y0)(hy0:Loc X.env.scope y0)(hcalm:X.calm=true)(S:BlkSc X caps sc cl)(hκ:κ.map (fun k=>X.N[k]?)=caps.map some)
  (hi:PI X tg iter wi) (hg:∀s₀ H₀ C ex,PG (blk X (own++caps) sc cl s₀ H₀ C ex) tg g)
  (hc:∀s₀ H₀ C ex (pins:List (Addr × Obj)) (s:Shared) (σ:St) (H:Hp) (Q:Bool→Hp→Prop),Inv (blk X (own++caps) sc cl s₀ H₀ C ex) pins σ H s→tc σ H Q →
   wpAny (model X.prog X.w) X.A (forIn ifs true fun c r=>if r=true then do let ok ←isTrue c (compEnvC sc cl C X.env) (eval c (compEnvC sc cl C X.env));pure (ForInStep.yield ok) else pure (ForInStep.yield r)) (TP (blk X (own++caps) sc cl s₀ H₀ C ex) pins σ Q) (fun _ _=>False) s)
  (he:∀s₀ H₀ C ex,PE (blk X (own++caps) sc cl s₀ H₀ C ex) elt te)
  (hs:∀x,foldedSetIterable iter X.env x=pure x:=by intro _;rfl) (hsw:swapsWith (.ListComp elt [⟨tg,iter,ifs,0⟩] sc pos) (some (.Name y0 py0)) spos.line X.env=pure true:=by rfl)
  (hf0:X.fn y0=true∨X.env.scope.names.lookup y0=some .local:=by first|exact .inl rfl|exact .inr rfl|assumption) :
  PS X (.Assign [.Name y0 py0] (.ListComp elt [⟨tg,iter,ifs,0⟩] sc pos) spos) (tAsg (tComp own.length κ wi g tc te) (gName i0)):=by
 intro pins s σ H D0 I h
 rw [exec_Assign_Name_used _ _ _ _ hsw]
 refine wpAny_bind (wpAny_standAt (wpAny_bind ?_))
 show wpAny _ X.A (do let _ ←comprehension (.ListComp elt [⟨tg,iter,ifs,0⟩] sc pos) sc X.env _ (newList []) false (eval iter X.env) (some (assign (.Name y0 py0) X.env))) _ _ s
 refine wpAny_bind (wpAny_mono (wpAny_comprehension_free (use:=some (assign (.Name y0 py0) X.env)) (Q:=fun _ s'=>SP X pins D0 .next s') rfl hs S.clos S.kind S.names (thn (hi pins s σ H _ I h) fun v s1 h1=>thn h1 fun itv s2 h2=>?_))
  (fun _ s' hq=>wpAny_pure (wpAny_pure hq)) fun _ _ e=>e)
 obtain⟨it,fp,tn,J,H2,e,I2,T,st2,f2,W,⟨m0,w0⟩,turn⟩:=h2
 subst e
 have hfp:∀b∈fp,b < s2.heap.objs.size:=fun b hb=>by
  obtain⟨o,e,_⟩:=T.obj _ _ st2 b hb
  exact Heap.lt_size e
 refine wpAny_newObj_type (wpAny_newFunctionEnv S.nocell (fun y hy=>nomatch hy) (fun h₁ hns hsb=>?_) S.kind)
 generalize ehp:s2.heap.push { cls:=.type "list",dict:=none,data:=.seq ([]:List Value).toArray }=hp at hns hsb ⊢
 have hsz:hp.objs.size=s2.heap.objs.size+1:=by rw [←ehp,Heap.size_push]
 have hDC:s2.heap.objs.size≠hp.objs.size:=by rw [hsz];exact Nat.ne_of_lt (Nat.lt_succ_self _)
 have old:∀b o,hp.get? b=some o→h₁.get? b=some o:=fun b o e=>(hsb.2 b (Nat.ne_of_lt (Heap.lt_size e))).trans (Heap.get?_push_of_some _ e)
 have eD:h₁.get? s2.heap.objs.size=some { cls:=.type "list",data:=.seq ([]:List Value).toArray }:=old _ _ (by rw [←ehp];exact Heap.get?_push_size _ rfl)
 have I0:=Inv.block (own:=own) (h₁:=h₁) (tk:=s2.toks+([]:List (Str × Value)).length) S hκ I2 f2 hfp ehp.symm hns old
 have stkD:s2.heap.objs.size∉frs X.stack:=fun z=>(List.mem_cons.mp (I2.stkSub _ z)).elim (Nat.ne_of_gt I2.lt) (I2.nofs (Nat.le_refl _))
 have cellD:∀x c,cl.lookup x=some c→c≠s2.heap.objs.size:=fun x c q=>by
  obtain⟨v,z⟩:=I2.cell x c (S.subc q)
  exact Nat.ne_of_lt z.lt
 have pinD:∀p∈X.pn++pins,p.1≠s2.heap.objs.size:=fun p hp=>Nat.ne_of_lt (Heap.lt_size (I2.pin p hp).1)
 have stkF:∀b∈fp,b∉frs X.stack:=fun b hb z=>(List.mem_cons.mp (I2.stkSub _ z)).elim (f2 b hb).2.1 (f2 b hb).2.2.1
 have loop:codeAny (model X.prog X.w) X.A (.compLoop (.ListComp elt [⟨tg,iter,ifs,0⟩] sc pos) 0 (.ref it) (.ref s2.heap.objs.size) (compEnvC sc cl hp.objs.size X.env))
   (compPost (model X.prog X.w) X.A X.xe (some (assign (.Name y0 py0) X.env)) (fun _ s'=>SP X pins D0 .next s') (.ref s2.heap.objs.size) hp.objs.size) { s2 with heap:=h₁,toks:=s2.toks+([]:List (Str × Value)).length }:=by
  refine codeAny_loop rfl (fun n s'=>∃(i:Nat) (ys:List V) (its:List Value) (cap:Nat) (H':Hp),Inv (blk X (own++caps) sc cl { s2 with heap:=hp } H2 hp.objs.size (s2.heap.objs.size::fp)) pins (blkSt own.length κ σ) H' s'∧tn i s'.heap∧(∀b∈fp,H' b=none) ∧
   s'.heap.get? s2.heap.objs.size=some { cls:=.type "list",data:=.seq its.toArray cap }∧H' s2.heap.objs.size=none∧Vals ys its∧ys.length≤sizeLine∧W i n ys H') (fun n s3 hI=>?_) m0
   ⟨0,[],[],0,H2,I0,T.keep _ _ _ st2 fun b hb o e=>old _ _ (by rw [←ehp];exact Heap.get?_push_of_some _ e),fun b hb=>(f2 b hb).1,eD,I2.hok.fresh (Nat.le_refl _),.nil,Nat.zero_le _,w0⟩
  obtain⟨i,ys,its,cap,H3,I3,st3,fr3,eD3,nD3,rv,hz,w3⟩:=hI
  show wpAny _ X.A ((compTurn (.ListComp elt [⟨tg,iter,ifs,0⟩] sc pos) 0 (.ref it) (.ref s2.heap.objs.size) (compEnvC sc cl hp.objs.size X.env)).onRaise fun x=>do noteFrame x (compEnvC sc cl hp.objs.size X.env);theTreesLotGoes x) _ _ s3
  refine wpAny_noted ?_
  rw [compTurn_list]
  have I3':Inv (blk X (own++caps) sc cl { s2 with heap:=hp } H2 hp.objs.size (s2.heap.objs.size::fp)) (pins++[(s2.heap.objs.size,{ cls:=.type "list",data:=.seq its.toArray cap })]) (blkSt own.length κ σ) H3 s3:=by
   refine I3.pins_of fun p hp=>(List.mem_append.mp hp).elim (fun z=>I3.pin p (List.mem_append_right _ z)) fun z=>?_
   obtain rfl:=List.mem_singleton.mp z
   exact⟨eD3,nD3,hDC,stkD,fun v q=>by cases q⟩
  have fpk:∀{H':Hp},(∀b∈fp,H' b=none)→∀b∈fp,FpOk (blk X (own++caps) sc cl { s2 with heap:=hp } H2 hp.objs.size (s2.heap.objs.size::fp)) (pins++[(s2.heap.objs.size,{ cls:=.type "list",data:=.seq its.toArray cap })]) H' b:=fun {H'} hn b hb =>
   ⟨hn b hb,by show b≠hp.objs.size;rw [hsz];exact Nat.ne_of_lt (Nat.lt_succ_of_lt (hfp b hb)),stkF b hb,.inl (List.mem_cons_of_mem _ hb),fun x c q=>(f2 b hb).2.2.2.2.1 x c (S.subc q),fun p hp=>by
    rw [←List.append_assoc] at hp
    rcases List.mem_append.mp hp with z|z
    ·exact(f2 b hb).2.2.2.2.2 p z
    ·obtain rfl:=List.mem_singleton.mp z
     exact Nat.ne_of_gt (hfp b hb)⟩
  rcases turn i n ys H3 w3 with ⟨stop,fin⟩|⟨go,hlt,step⟩
  ·refine wpAny_bind (wpAny_standAt (wpAny_bind (thn (T.done (blk X (own++caps) sc cl { s2 with heap:=hp } H2 hp.objs.size (s2.heap.objs.size::fp)) rfl rfl rfl hcalm i _ s3 _ H3 _ I3' (fpk fr3) st3 stop) fun r s4 ⟨hr,I4⟩=>?_)))
   subst hr
   refine wpAny_pure ?_
   obtain⟨m,hm,_⟩:=I4.loc
   have eD4:=(I4.pin (s2.heap.objs.size,{ cls:=.type "list",data:=.seq its.toArray cap }) (List.mem_append_right _ (List.mem_append_right _ (List.mem_singleton.mpr rfl)))).1
   have I5:Inv X pins σ (upd H3 s2.heap.objs.size (.lst ys)) { s4 with heap:=s4.heap }:=Inv.unblock I2 f2 ehp.symm I4 eD4 nD3 rv hz (Heap.SameBut.refl ..)
   have neL:hp.objs.size≠X.env.locals:=by rw [hsz];exact Nat.ne_of_gt (Nat.lt_succ_of_lt I2.lt)
   have neC:∀x c,X.env.cells.lookup x=some c→c≠hp.objs.size:=fun x c q=>by
    obtain⟨v,z⟩:=I2.cell x c q
    rw [hsz]
    exact Nat.ne_of_lt (Nat.lt_succ_of_lt z.lt)
   have frC:upd H3 s2.heap.objs.size (.lst ys) hp.objs.size=none:=by rw [upd_ne (Ne.symm hDC)];exact I4.free
   show wpAny (model X.prog X.w) X.A (assign (.Name y0 py0) X.env (.ref s2.heap.objs.size)) _ X.xe s4
   refine wpAny_assign_Name (store_ok2 (v:=.ref s2.heap.objs.size) I5 hN hi0 hy0 rfl (fun s5 I6 ⟨a,sb,ha⟩=>?_) hf0)
   have hCa:hp.objs.size≠a:=by
    rcases ha with ha|ha
    ·rw [ha];exact neL
    ·exact Ne.symm (neC _ _ ha)
   refine⟨m,hm.sameBut sb hCa,fun h' sb'=>⟨_,_,I6.turned (t':=s5.toks) (fun b o hb e=>(sb'.2 b hb).trans e) frC neL (.inr ?_) neC (fun p hp'=>?_),fin _ nD3⟩⟩
   ·exact Nat.le_trans I2.sz (by rw [hsz];exact Nat.le_succ _)
   ·have:=Heap.lt_size (I2.pin p hp').1
    rw [hsz]
    exact Nat.ne_of_lt (Nat.lt_succ_of_lt this)
  ·refine wpAny_bind (wpAny_standAt (wpAny_bind (thn (T.item (blk X (own++caps) sc cl { s2 with heap:=hp } H2 hp.objs.size (s2.heap.objs.size::fp)) rfl rfl rfl hcalm i _ s3 _ H3 _ I3' (fpk fr3) st3 go) fun r s4 ⟨u,hr,h4⟩=>?_)))
   subst hr
   refine wpAny_bind (thn h4 fun _ s5 ⟨x,H5,I5,r5,y5,st5,fr5⟩=>?_)
   have I5':=I5.pinned (fpk fr5) (T.obj _ _ st5)
   refine wpAny_bind (wpAny_mono (hg _ _ _ _ _ s5 _ H5 x u _ I5' r5 (step x H5 y5)) (fun _ s6 ⟨σ6,H6,I6,eσ,q6⟩=>?_) fun _ _ z=>z.elim)
   refine wpAny_bind (wpAny_mono (hc _ _ _ _ _ s6 σ6 H6 _ I6 q6) (fun ok s7 ⟨H7,I7,q7⟩=>?_) fun _ _ z=>z.elim)
   have back:∀{s8:Shared} {H8:Hp},Inv (blk X (own++caps) sc cl { s2 with heap:=hp } H2 hp.objs.size (s2.heap.objs.size::fp)) ((pins++[(s2.heap.objs.size,{ cls:=.type "list",data:=.seq its.toArray cap })])++pinsAt fp s5.heap) σ6 H8 s8 →
     Inv (blk X (own++caps) sc cl { s2 with heap:=hp } H2 hp.objs.size (s2.heap.objs.size::fp)) pins (blkSt own.length κ σ) H8 s8∧tn (i+1) s8.heap∧(∀b∈fp,H8 b=none)∧s8.heap.get? s2.heap.objs.size=some { cls:=.type "list",data:=.seq its.toArray cap }∧H8 s2.heap.objs.size=none:=by
    intro s8 H8 I8
    have pk:∀b∈fp,∀o,s5.heap.get? b=some o→s8.heap.get? b=some o∧H8 b=none:=fun b hb o e=>by
     have z:=I8.pin (b,o) (List.mem_append_right _ (List.mem_append_right _ (mem_pinsAt hb e)))
     exact⟨z.1,z.2.1⟩
    have zD:=I8.pin (s2.heap.objs.size,{ cls:=.type "list",data:=.seq its.toArray cap }) (List.mem_append_right _ (List.mem_append_left _ (List.mem_append_right _ (List.mem_singleton.mpr rfl))))
    refine⟨(I8.pins_of fun p hp=>I8.pin p (List.mem_append_right _ (List.mem_append_left _ (List.mem_append_left _ hp)))).weak ?_ fun j v e=>?_,T.keep _ _ _ st5 fun b hb o e=>(pk b hb o e).1,fun b hb=>?_,zD.1,zD.2.1⟩
    ·exact I3.len.trans I8.len.symm
    ·have hge:own.length≤j:=by
      refine Nat.le_of_not_lt fun q=>?_
      unfold blkSt at e
      rw [List.getElem?_append_left (by rw [List.length_replicate];exact q),List.getElem?_replicate,if_pos q] at e
      cases e
     have z:=congrArg (fun l=>l[j - own.length]?) eσ
     simp only [List.getElem?_drop] at z
     rw [show own.length+(j - own.length)=j by omega] at z
     rw [z]
     exact e
    ·obtain⟨o,e,_⟩:=T.obj _ _ st5 b hb
     exact(pk b hb o e).2
   cases ok with
   |false =>
    obtain⟨m',hm,w7⟩:=(if_neg Bool.false_ne_true)▸q7
    obtain⟨I8,st8,fr8,e8,n8⟩:=back I7
    exact wpAny_pure ⟨rfl,m',hm,i+1,ys,its,cap,H7,I8,st8,fr8,e8,n8,rv,hz,w7⟩
   |true =>
    have q7':=(if_pos rfl)▸q7
    refine wpAny_bind (wpAny_bind (wpAny_mono (he _ _ _ _ _ s7 σ6 H7 _ I7 q7') (fun y s8 ⟨v8,H8,I8,r8,m',hm,w8⟩=>?_) fun _ _ z=>z.elim))
    obtain⟨I9,st9,fr9,e9,n9⟩:=back I8
    have hl:=rv.length
    refine wpAny_bind (wpAny_list_append_plain (items:=its.toArray) ⟨cap,e9⟩ (fun h' hl' sb=>?_) (by rw [List.size_toArray,←hl];exact hz))
    obtain⟨cap',e'⟩:=hl'
    refine wpAny_pure (wpAny_pure ⟨rfl,m',hm,i+1,ys++[v8],its++[y],cap',H8,?_,?_,fr9,?_,n9,Vals.append rv (.cons r8 .nil),?_,w8⟩)
    ·exact I9.turned (t':=s8.toks) (fun b o hb e=>(sb.2 b hb).trans e) n9 hDC (.inl List.mem_cons_self) cellD pinD
    ·exact T.keep _ _ _ st9 fun b hb o e=>(sb.2 b (Nat.ne_of_lt (hfp b hb))).trans e
    ·rw [e']
     congr 3
     simp
    ·rw [List.length_append]
     exact hlt
 exact codeAny_compStart_list loop (T.self _ 0 _ _ _ (T.keep _ _ _ st2 fun b hb o e=>old _ _ (by rw [←ehp];exact Heap.get?_push_of_some _ e)) loop)
theorem ps_comp{i0:Nat}{y0:Str}{py0 spos:Pos}{tg elt iter:Expr}{own caps:List Str}{κ:List Nat}{sc:Scope}{cl:List (Str × Addr)}{pos:Pos}{wi:TI}{g:TG}{te:TE}(hN:X.N.Nodup)(hi0:X.N[i0]?=some y0)(hy0:Loc X.env.scope y0)(hcalm:X.calm=true)(S:BlkSc X caps sc cl)(hκ:κ.map (fun k=>X.N[k]?)=caps.map some)
  (hi:PI X tg iter wi) (hg:∀s₀ H₀ C ex,PG (blk X (own++caps) sc cl s₀ H₀ C ex) tg g) (he:∀s₀ H₀ C ex,PE (blk X (own++caps) sc cl s₀ H₀ C ex) elt te)
  (hs:∀x,foldedSetIterable iter X.env x=pure x:=by intro _;rfl) (hsw:swapsWith (.ListComp elt [⟨tg,iter,[],0⟩] sc pos) (some (.Name y0 py0)) spos.line X.env=pure true:=by rfl)
  (hf0:X.fn y0=true∨X.env.scope.names.lookup y0=some .local:=by first|exact .inl rfl|exact .inr rfl|assumption) :
  PS X (.Assign [.Name y0 py0] (.ListComp elt [⟨tg,iter,[],0⟩] sc pos) spos) (tAsg (tComp own.length κ wi g tYes te) (gName i0)) :=
 ps_compG hN hi0 hy0 hcalm S hκ hi hg (fun s₀ H₀ C ex pins s σ H Q I h=>wpAny_tests_nil ⟨H,I,h⟩) he hs hsw hf0
end
end L2
namespace L2
open PySem PySem.Spec PyProof.Rows
section
variable{X:Cx}{pins:List (Addr × Obj)}{σ:St}{H:Hp}{s:Shared}{h':Heap}
end
section
variable{X:Cx}{tg:Expr}
end
section
variable{prog:Program}{w:World}{A:Around}{E:Value→Shared→Prop}{s:Shared}
theorem nextT_item{j t:Addr}{n:Nat}{its:Array Value}{v:Value}{Q:Value→Shared→Prop}(hj:s.heap.IsTupleIter j t n)(ht:s.heap.IsTuple t its)(hv:its[n]?=some v)
  (q:∀h',h'.IsTupleIter j t (n+1)→Heap.SameBut j s.heap h'→Q v { s with heap:=h' }):wpAny (model prog w) A (Builtin.SmallTypes.nextOf (.ref j)) Q E s:=by
 obtain⟨oj,ej,cj,dj⟩:=id hj
 obtain⟨ot,et,_,nt,dt⟩:=ht
 unfold Builtin.SmallTypes.nextOf
 refine wpAny_bind (wpAny_callSpecial?_slot (name:=Str.ofString "__next__") hj.typeIs F.slot_tuple_iterator_next (wpAny_call_entry F.slot_tuple_iterator_next hj.typeIs F.entry_tuple_iterator_next ?_ (F.args_tuple_iterator_next_1 _)))
 show wpAny _ _ (field (.ref j) 0 >>= _) _ _ s
 refine wpAny_bind (wpAny_field ej dj (x:=.ref t) rfl ?_)
 show wpAny _ _ (if (Value.ref t==Value.none)=true then _ else _) _ _ _
 rw [if_neg (show ¬(Value.ref t==Value.none)=true from Bool.false_ne_true)]
 show wpAny _ _ (field (.ref j) 1 >>= _) _ _ s
 refine wpAny_bind (wpAny_field ej dj (x:=.int n 0) rfl ?_)
 show wpAny _ _ (seqItems? (.ref t) >>= _) _ _ _
 refine wpAny_bind (wpAny_seqItems et dt ?_)
 simp only [Int.toNat_natCast,hv]
 refine wpAny_bind (wpAny_setField ej dj (by simp) (wpAny_pure ⟨v,rfl,wpAny_pure (q _ ?_ (Heap.SameBut.update ..))⟩))
 exact⟨_,Heap.get?_update_self _ ej (Obj.isFreed_of_fields (Obj.data_mapFields dj _)),(Obj.cls_mapFields ..).trans cj,by rw [Obj.data_mapFields dj];simp [rawInt]⟩
theorem nextT_end{j t:Addr}{n:Nat}{its:Array Value}{Q:Value→Shared→Prop}(hh:A.handled=none)(hj:s.heap.IsTupleIter j t n)(ht:s.heap.IsTuple t its)(hv:its[n]?=none)
  (q:∀h' e,Heap.ExtBut j s.heap h'→(∃o,h'.get? e=some o∧o.cls=.type "StopIteration")→E (.ref e) { s with heap:=h' }):wpAny (model prog w) A (Builtin.SmallTypes.nextOf (.ref j)) Q E s:=by
 obtain⟨oj,ej,cj,dj⟩:=id hj
 obtain⟨ot,et,_,nt,dt⟩:=ht
 unfold Builtin.SmallTypes.nextOf
 refine wpAny_bind (wpAny_callSpecial?_slot (name:=Str.ofString "__next__") hj.typeIs F.slot_tuple_iterator_next (wpAny_call_entry F.slot_tuple_iterator_next hj.typeIs F.entry_tuple_iterator_next ?_ (F.args_tuple_iterator_next_1 _)))
 show wpAny _ _ (field (.ref j) 0 >>= _) _ _ s
 refine wpAny_bind (wpAny_field ej dj (x:=.ref t) rfl ?_)
 show wpAny _ _ (if (Value.ref t==Value.none)=true then _ else _) _ _ _
 rw [if_neg (show ¬(Value.ref t==Value.none)=true from Bool.false_ne_true)]
 show wpAny _ _ (field (.ref j) 1 >>= _) _ _ s
 refine wpAny_bind (wpAny_field ej dj (x:=.int n 0) rfl ?_)
 show wpAny _ _ (seqItems? (.ref t) >>= _) _ _ _
 refine wpAny_bind (wpAny_seqItems et dt ?_)
 simp only [Int.toNat_natCast,hv]
 refine wpAny_bind (wpAny_rule (wpAny_bind (wpAny_setField ej dj (by simp) ?_)))
 refine wpAny_bind (m:=newExc (.type "StopIteration") []) ?_
 simp only [newExc,newTuple]
 refine wpAny_bind (wpAny_newObj_type (wpAny_bind (m:=firstArgMember _ _) (wpAny_of_eq (a:=Value.none) (by first|rfl|(simp only [firstArgMember];rfl)) (wpAny_newObj_type ?_ (by size_fits)))) (by size_fits))
 simp only [raiseNew]
 refine wpAny_bind (wpAny_handled ?_)
 first|rw [show A.in1.handled=none from hh]|rw [hh]
 exact wpAny_bind (wpAny_pure (wpAny_throw (q _ _ (((Heap.SameBut.update ..).extBut.push _).push _) ⟨_,Heap.get?_push_size _ rfl,rfl⟩)))
open AutoSeq1 (wpAny_loadPart') in
end
section
variable{X:Cx}
end
end L2
namespace L2
open PySem PySem.Spec PyProof.Rows
section
variable{X:Cx}{pins:List (Addr × Obj)}{σ:St}{H H':Hp}{s:Shared}{h':Heap}
end
section
variable{X:Cx}
end
end L2
namespace L2
open PySem PySem.Spec PyProof.Rows
section
variable{X:Cx}{pins:List (Addr × Obj)}{σ:St}{H:Hp}{s:Shared}{d:Addr}{o:Obj}{u:HO}
end
section
variable{X:Cx}
end
end L2
namespace L2
open PySem PySem.Spec PyProof.Rows
section
variable{X:Cx}{tg:Expr}
end
end L2
namespace L2
open PySem PySem.Spec PyProof.Rows
section
variable{X:Cx}{tg:Expr}
end
end L2
namespace L2
open PySem PySem.Spec PyProof.Rows
section
variable{X:Cx}
end
end L2
namespace L2
open PySem PySem.Spec PyProof.Rows
section
variable{X:Cx}{K:PySem.W.Frag}
end
end L2
namespace L2
open PySem PySem.Spec PyProof.Rows
end L2
namespace L2
open PySem PySem.Spec PyProof.Rows
def excInI(K:PySem.W.Frag)(C:Addr)(bmB:List Value)(newId:String):Bool:=match K.lookup C with|some ⟨.type "type",_,.cls cd,sl⟩=>(match cd.mro,sl.toList with|.ref C'::bm,[_,_,_,_,some (.builtin n),_]=>C'==C&&n==newId&&!cd.hasDel&&PySem.W.tailIn K bmB bm|_,_=>false)|_=>false
structure ExcI(h:Heap)(C:Addr)(bmB:List Value)(newId:String):Prop where
 obj:∃bm N nm q bs hdct sn sub ab col dd k0 k1 k2 k3 k5,h.get? C=some (excClassObj nm q C N bs bm hdct sn sub ab col dd k0 k1 k2 k3 k5 newId)∧OwnTail h bmB bm
section
variable{prog:Program}{w:World}{A:Around}{E:Value→Shared→Prop}{h:Heap}{g:Array GenState}{d:Drawn}{t:Nat}{os:OsState}{K:PySem.W.Frag}{C fI:Addr}{us:List Value}
end
section
variable{prog:Program}{w:World}{A:Around}{E:Value→Shared→Prop}{s:Shared}{env:Env}{K:PySem.W.Frag}{C fI:Addr}
end
end L2
namespace L2
open PySem PySem.Spec PyProof.Rows
section
variable{X:Cx}{pins:List (Addr × Obj)}{σ:St}{H:Hp}{s:Shared}{x:Addr}
end
section
variable{P:Program}{w:World}{K:PySem.W.Frag}{mg:Str→Option Value}{base:Heap}
structure MkX(K:PySem.W.Frag)(C fI:Addr):Prop where
 ex:excInI K C bmVE "ValueError.__new__"=true
 init:PySem.W.findIn K (.ref C) "__init__"=some (some (.ref fI))
 fn:PySem.W.typeIn K (.ref fI)=some (.type "function")
end
end L2
namespace L2
open PySem PySem.Spec PyProof.Rows Builtin Builtin.ObjectAttr
def refPass(l:List Value):Bool:=l.dropWhile (fun|.ref _=>true|_=>false)==bmVE
structure ExcSet(K:PySem.W.Frag)(C:Addr):Prop where
 sa:PySem.W.findIn K (.ref C) "__setattr__"=some (some (.builtin "object.__setattr__"))
 po:(PySem.W.clsIn K C).any (fun cd=>refPass cd.mro)=true
 hd:PySem.W.hasDictIn K C=true
 ob:PySem.W.mroIn K C (.type "object")=some true
section
variable{prog:Program}{w:World}{A:Around}{E:Value→Shared→Prop}{s:Shared}{K:PySem.W.Frag}{x C:Addr}{name:Str}{v:Value}
end
section
variable{X:Cx}{pins:List (Addr × Obj)}{σ:St}{H H0:Hp}{s s0:Shared}{dx:Addr}
end
section
variable{X:Cx}{o value:Expr}{f:Str}{pos pos':Pos}{ta tv:TE}
end
end L2
namespace L2
open PySem PySem.Spec PyProof.Rows Builtin Builtin.ObjectAttr
structure BaseI(K:PySem.W.Frag)(R:Addr):Prop where
 ga:PySem.W.specialIn K (.ref R) "__getattribute__"=some (some (.builtin "type.__getattribute__"))
 rd:PySem.W.readsIn K R (.type "type")=true
 fi:PySem.W.findCls K (.ref R) (.type "type") "__init__"=some (.val (.builtin "ValueError.__init__"))
section
variable{X:Cx}
end
section
variable{prog:Program}{w:World}{A:Around}{E:Value→Shared→Prop}{s:Shared}{K:PySem.W.Frag}{x D:Addr}{name:Str}{v:Value}
end
section
variable{X:Cx}{e:Expr}{f:Str}{pos:Pos}{ta:TE}
end
end L2
namespace L2
open PySem PySem.Spec PyProof.Rows
structure Shw(d:PyData)(n m:Nat):Prop where
 sh:d.showable=true
 nd:d.hasDict=false
 dp:d.depth≤m
 ln:d.shown.length≤n
structure Shws(ds:List PyData)(n m:Nat):Prop where
 sh:PyData.showableAll ds=true
 nd:PyData.hasDictAll ds=false
 dp:PyData.depthAll ds≤m
 ln:piled (PyData.shownAll ds)≤n
section
variable{X:Cx}{k:Nat}{pos:Pos}{e:Expr}{te:TE}
end
end L2
namespace L2
open PySem PySem.Spec PyProof.Rows
section
variable{α β:Type}
variable{P:Shared→Prop}
end
section
variable{X:Cx}{st:Stmt}{rest:List Stmt}{t u:TS}{pos:Pos}
end
section
variable{X:Cx}
end
end L2
local macro_rules
 |`(sortPriv% $n:ident)=>do
  if n.getId==`rn then return Lean.mkCIdent (Lean.mkPrivateNameCore `PySem.Builtin.Int.W0All `PySem.Builtin.readNumeral)
  if n.getId==`vl then return Lean.mkCIdent (Lean.mkPrivateNameCore `PySem.Builtin.Int.W0All `PySem.Builtin.Numeral.value)
  if n.getId==`nd then return Lean.mkCIdent (Lean.mkPrivateNameCore `PySem.Builtin.Int.W0All `PySem.Builtin.numeralDigits?)
  if n.getId==`bl then return Lean.mkCIdent (Lean.mkPrivateNameCore `PySem.Builtin.Int.W0All `PySem.Builtin.isBlank)
  Lean.Macro.throwUnsupported
namespace L2
open PySem
section
variable{prog:Program}{w:World}{A:Around}{E:Value→Shared→Prop}{s:Shared}
end
end L2
namespace L2
open PySem PySem.Spec PyProof.Rows
section
variable{X:Cx}{pos:Pos}{e:Expr}{es:List Expr}{te:TE}
theorem pss_no{X:Cx}{ss:List Stmt}:PSs X ss (fun _ _ _=>False):=fun _ _ _ _ _ _ h=>h.elim
end
end L2
namespace L2
open PySem PySem.Spec PyProof.Rows
section
variable{prog:Program}{w:World}{A:Around}{R:Result→Shared→Prop}{I S:Addr}{fp wr:List Addr}{n:Nat}{P:Nat→Value→Prop}{St:Nat→Heap→Prop}{d:Value}
end
section
variable{X:Cx}{e:Expr}{es:List Expr}{kws:List Keyword}{t tk:TA}{p pos:Pos}
end
end L2
namespace L2
open PySem PySem.Spec PyProof.Rows
inductive EntOk (w:World):List DictEntry→List (Str × Int)→Prop
 |nil:EntOk w [] []
 |cons {h:Int} {s:Str} {n:Int} {t t':Tok} {es:List DictEntry} {ps:List (Str × Int)}:h=hashStr w s→EntOk w es ps→EntOk w (⟨h,.str s t,.int n t'⟩::es) ((s,n)::ps)
structure DKt(K:PySem.W.Frag)(w:World)(a:Addr)(ps:List (Str × Int)):Prop where
 ns:(a==sysModules)=false
 at_:∀(P:Program) (h:Heap),K.In h→∃vs:List (Key × Value),KV (ps.map fun p=>((Sum.inr p.1:Key),V.int p.2)) vs∧h.DictOf (mixKind P w) a vs
theorem ent_ok{P:Program}{w:World}{es:List DictEntry}{ps:List (Str × Int)}(h:EntOk w es ps):∃vs:List (Key × Value),KV (ps.map fun p=>((Sum.inr p.1:Key),V.int p.2)) vs∧Pairs (mixKind P w) es vs∧(∀e∈es,∃k:Key,(mixKind P w).is k e.key=true∧e.hash=(mixKind P w).hash k)∧vs.map (·.1)=ps.map fun p=>(Sum.inr p.1:Key):=by
 induction h with
 |nil=>exact⟨[],.nil,.nil,(fun e he=>by cases he),rfl⟩
 |@cons hh s n t t' es ps e _ ih =>
  obtain⟨vs,a,b,c,d⟩:=ih
  refine⟨(Sum.inr s,.int n t')::vs,.cons ⟨rfl,⟨t',rfl⟩⟩ a,.cons (mixKind_str P w s t) rfl b,fun e2 he=>?_,?_⟩
  ·rcases List.mem_cons.mp he with rfl|he
   ·exact⟨Sum.inr s,mixKind_str P w s t,e⟩
   ·exact c e2 he
  ·rw [List.map_cons,List.map_cons,d]
theorem dkt_of{K:PySem.W.Frag}{w:World}{a:Addr}{ps:List (Str × Int)}{es:Array DictEntry}{ep:Nat} (hl:K.lookup a=some ⟨.type "dict",none,.dict es ep,#[]⟩) (hs:(a==sysModules)=false) (he:EntOk w es.toList ps) (nd:(ps.map (·.1)).Nodup):DKt K w a ps:=by
 refine⟨hs,fun P h hK=>?_⟩
 obtain⟨vs,v1,v2,v3,v4⟩:=ent_ok (P:=P) he
 refine⟨vs,v1,_,es,ep,hK _ _ hl,⟨rfl,rfl,rfl⟩,rfl,fun e h2=>v3 e (Array.mem_toList_iff.mpr h2),v2,?_⟩
 rw [v4]
 have:(ps.map fun p=>(Sum.inr p.1:Key))=(ps.map (·.1)).map Sum.inr:=by rw [List.map_map];rfl
 rw [this]
 exact List.Pairwise.map _ (fun _ _ h z=>h (Sum.inr.inj z)) nd
def numAtS(ps:List (Str × Int))(s:Str):Option Int:=(ps.find? fun p=>decide (p.1=s)).map (·.2)
theorem valV_num(ps:List (Str × Int))(s:Str):valV (ps.map fun p=>((Sum.inr p.1:Key),V.int p.2)) (Sum.inr s)=(numAtS ps s).map V.int:=by
 induction ps with
 |nil=>rfl
 |cons p r ih =>
  unfold valV numAtS at ih ⊢
  rw [List.map_cons,List.find?_cons,List.find?_cons]
  by_cases e:p.1=s
  ·rw [decide_eq_true (show(Sum.inr p.1:Key)=Sum.inr s by rw [e]),decide_eq_true e]
   rfl
  ·rw [decide_eq_false (show ¬(Sum.inr p.1:Key)=Sum.inr s from fun z=>e (Sum.inr.inj z)),decide_eq_false e]
   exact ih
section
variable{X:Cx}{o i:Expr}{pos:Pos}{td ty:TE}
def tDGetK(K:PySem.W.Frag)(w:World)(td ty:TE):TE:=fun σ H Q=>td σ H fun x H1=>ty σ H1 fun y H2=>∃a ps s n,x=.ref a∧DKt K w a ps∧y=.str s∧numAtS ps s=some n∧Q (.int n) H2
theorem pe_dgetK(ho:PE X o td)(hi:PE X i ty)(hs:NoSl i):PE X (.Subscript o i pos) (tDGetK X.K X.w td ty):=by
 intro pins s σ H Q I h
 refine subD_of PySem.F.slot_dict_getitem.lookup hs (thn (ho pins s σ H _ I h) fun u s1 ⟨x,H1,I1,rx,q1⟩=>thn (hi pins s1 σ H1 _ I1 q1) fun iv s2 ⟨y,H2,I2,ry,a,ps,z,n,ex,g,ey,en,q2⟩=>?_)
 subst ex ey
 obtain rfl:u=Value.ref a:=rx
 obtain⟨vs,rel,dd⟩:=g.at_ X.prog s2.heap I2.kIn
 obtain⟨w',hw,rw'⟩:=RelO.some_of (v:=.int n) (o:=valueAt vs (Sum.inr z)) (by have:=rel.val (Sum.inr z);rw [valV_num,en] at this;exact this)
 exact⟨dd.typeIs,wpAny_getItem_of (kV_is (k:=Sum.inr z) ry) dd.mapOf hw ⟨.int n,H2,I2.tok _,rw',q2⟩⟩
end
end L2
namespace L2
open PySem PySem.Spec PyProof.Rows
section
variable{P:Program}{w:World}{K:PySem.W.Frag}{mg:Str→Option Value}{base:Heap}
end
end L2
namespace L2
open PySem PySem.Spec PyProof.Rows
section
variable{prog:Program}{w:World}{A:Around}{E:Value→Shared→Prop}{s:Shared}
end
end L2
namespace L2
open PySem PySem.Spec PyProof.Rows
section
variable{X:Cx}
end
end L2
namespace L2
open PySem PySem.Spec PyProof.Rows
section
variable{X:Cx}
end
end L2
namespace L2
open PySem PySem.Spec PyProof.Rows PySem.Calls
section
variable{prog:Program}{w:World}{K:Type}[DecidableEq K]{knd:HeapKind prog w K}{A:Around}{E:Value→Shared→Prop}{s:Shared}
end
section
variable{X:Cx}
end
end L2
namespace L2
open PySem PySem.Spec PyProof.Rows PySem.W
section
variable{prog:Program}{w:World}{A:Around}{E:Value→Shared→Prop}{s:Shared}
structure RawG(es:Array DictEntry)(lo:Addr)(h:Heap)(as:List Addr):Prop where
 rise:as.Pairwise (· < ·)
 up:∀a∈as,lo < a
 at':∀(j:Nat) (a:Addr),as[j]?=some a→∃en,es[j]?=some en∧h.get? a=some { cls:=.type "tuple",data:=.seq #[en.key,en.val] }
end
section
variable{prog:Program}{w:World}{A:Around}{s:Shared}{R:Result→Shared→Prop}{es:Array DictEntry}{ep:Nat}
end
section
variable{prog:Program}{w:World}{A:Around}{E:Value→Shared→Prop}{s:Shared}{r d:Addr}{es:Array DictEntry}{ep:Nat}
end
end L2
namespace L2
open PySem PySem.Spec PyProof.Rows
section
variable{X:Cx}
end
section
variable{prog:Program}{w:World}{A:Around}{E:Value→Shared→Prop}{s:Shared}
end
section
variable{X:Cx}{l:Expr}{tl:TE}{p p2 pos pos2:Pos}
end
end L2
namespace L2
open PySem PySem.Spec PyProof.Rows
section
variable{X:Cx}
end
end L2
namespace L2
open PySem PySem.Spec PyProof.Rows
section
variable{prog:Program}{w:World}{A:Around}{E:Value→Shared→Prop}{s:Shared}{a:Addr}{xs:Array Value}{k:Nat}{sl:Array (Option Value)}
end
section
variable{X:Cx}{pins:List (Addr × Obj)}{σ:St}
end
end L2
namespace L2
open PySem PySem.Spec PyProof.Rows
section
variable{prog:Program}{w:World}{A:Around}{E:Value→Shared→Prop}{s:Shared}{K:Type}[DecidableEq K]{knd:HeapKind prog w K}
end
section
variable{X:Cx}
end
end L2
namespace L2
open PySem PySem.Spec PyProof.Rows
section
variable{M:Model}{A:Around}{E:Value→Shared→Prop}{s:Shared}
end
section
variable{X:Cx}{pins:List (Addr × Obj)}{σ:St}{H H':Hp}{s s':Shared}{x C:Addr}{cls:Value}{d:Option Addr}
end
section
variable{X:Cx}
end
section
variable{P:Program}{w:World}{K:PySem.W.Frag}{mg:Str→Option Value}{base:Heap}{N:List Str}{qual:Str}{scope:Scope}{f:Addr}{cd:Value}{A:Around}{outer:List Env}{s:Shared}{H:Hp}{E:XK}
end
end L2
namespace L2
open PySem PySem.Spec PyProof.Rows
section
variable{X:Cx}
end
section
variable{X:Cx}{pins:List (Addr × Obj)}{σ:St}
end
end L2
namespace HT
open PySem PySem.Spec PyProof.Rows
section
variable{prog:Program}{w:World}{A:Around}{E:Value→Shared→Prop}{s:Shared}
end
end HT
namespace L2
open PySem PySem.Spec PyProof.Rows
section
variable{X:Cx}
theorem call_isiTup:CallR X (.builtin "isinstance") (fun xs H Q=>∃a ys,xs=[.ref a,.ty "tuple"]∧SqT X.K H a ys∧Q (.bl true) H):=by
 intro pins s σ H xs us Q I rv h
 obtain⟨a,ys,rfl,hq,q⟩:=h
 obtain⟨u,v,rfl,r1,r2⟩:=rv.two
 cases r2
 cases (show u=Value.ref a from r1)
 obtain⟨its,_,⟨o,h1,h2,_⟩,_⟩:=I.tuple hq
 exact PySem.W.kia_one (t:=.type "tuple") (b:=true) PySem.W.kitx_tuple I.kIn ⟨o,h1,h2⟩ rfl (fun z=>nomatch z) fun tk=>⟨.bl true,H,I.tok _,rfl,q⟩
theorem call_isiTA:CallR X (.builtin "isinstance") (fun xs H Q=>∃x,xs=[x,.ty "tuple"]∧((∃z,x=.str z∧Q (.bl false) H)∨(∃i,x=.int i∧Q (.bl false) H)∨∃a ys,x=.ref a∧SqT X.K H a ys∧Q (.bl true) H)):=by
 intro pins s σ H xs us Q I rv h
 obtain⟨x,rfl,h⟩:=h
 rcases h with ⟨z,rfl,q⟩|⟨i,rfl,q⟩|⟨a,ys,rfl,hq,q⟩
 ·obtain⟨u,v,rfl,r1,r2⟩:=rv.two
  cases r2
  exact isinst_ok (t:=.type "str") (b:=false) I r1 (.str z) rfl fun tk=>⟨.bl false,H,I.tok _,rfl,q⟩
 ·obtain⟨u,v,rfl,r1,r2⟩:=rv.two
  cases r2
  exact isinst_ok (t:=.type "int") (b:=false) I r1 (.int i) rfl fun tk=>⟨.bl false,H,I.tok _,rfl,q⟩
 ·exact call_isiTup pins s σ H _ us Q I rv ⟨a,ys,rfl,hq,q⟩
end
end L2
namespace L2
open PySem PySem.Spec PyProof.Rows
end L2
namespace L2
open PySem PySem.Spec PyProof.Rows
section
variable{X:Cx}{tg:Expr}
end
end L2
namespace HT
open PySem PySem.Spec PyProof.Rows
section
variable{prog:Program}{w:World}{K:Type}[DecidableEq K]{knd:KeyKind prog w K}{A:Around}{E:Value→Shared→Prop}{s:Shared}{r d:Addr}{kvs:List (K × Value)}{ep:Nat}
end
end HT
namespace L2
open PySem PySem.Spec PyProof.Rows
section
variable{X:Cx}
end
end L2
namespace HT
open PySem PySem.Spec PyProof.Rows
section
variable{prog:Program}{w:World}{A:Around}{E:Value→Shared→Prop}{s:Shared}
end
end HT
namespace L2
open PySem PySem.Spec PyProof.Rows
section
variable{X:Cx}
end
end L2
namespace L2
open PySem PySem.Spec PyProof.Rows
section
variable{X:Cx}
end
end L2
namespace L2
open PySem PySem.Spec PyProof.Rows
section
variable{P:Program}{w:World}
variable{K:PySem.W.Frag}{mg:Str→Option Value}{base:Heap}{N:List Str}{qual:Str}{scope:Scope}{f:Addr}{cd:Value}{A:Around}{outer:List Env}{s:Shared}{H:Hp}{E:XK}
end
end L2
namespace L2
open PySem PySem.Spec PyProof.Rows
section
variable{X:Cx}{tg:Expr}
end
end L2
namespace L2
open PySem PySem.Spec PyProof.Rows
section
variable{X:Cx}{pins:List (Addr × Obj)}{σ:St}{H:Hp}{s:Shared}{h':Heap}
theorem Inv.turnedL{t':Nat}{fp:List Addr}{p:Addr}{o:HO}(I:Inv X pins σ H s)(k:∀b ob,b∉fp→s.heap.get? b=some ob→h'.get? b=some ob)(hf:∀b∈fp,FpOk X pins H b)(hp:s.heap.objs.size≤p)
  (new:ObjOk X.prog X.w (upd H p o) h' p o):Inv X pins σ (upd H p o) { s with heap:=h',toks:=t' }:=by
 have hn:H p=none:=I.hok.fresh hp
 have nn:∀b u,H b=some u→b∉fp:=fun b u q z=>by rw [(hf b z).1] at q;cases q
 have lt:∀b ob,s.heap.get? b=some ob→b≠p:=fun b ob q z=>absurd (Nat.lt_of_lt_of_le (Heap.lt_size q) (by rw [z];exact hp)) (Nat.lt_irrefl _)
 refine I.step (g':=s.gens) (d':=s.drawn) (ch:=fp) (fun b hb=>?_) (fun b ob _ _ hc q _=>k b ob hc q) (fun b ob _ _ hc q _=>⟨ob.slots,k b ob hc q⟩) (fun b ob hc q n=>by rw [upd_ne (lt b ob q)];exact n)
  (fun b ob hc q=>⟨ob,k b ob hc q⟩) (fun b xs q=>by rw [upd_ne (ne_of_none q hn)];exact q) (fun b ob u q=>by rw [upd_ne (ne_of_none q hn)];exact q) (fun b ps q=>⟨#[],by rw [upd_ne (ne_of_none q hn),q];simp⟩) (fun m hm=>?_) (fun b u q=>?_) I.bare
 ·have fe:=hf b hb
  exact⟨fe.2.2.2.1,fe.2.1,fe.2.2.2.2.1,fe.2.2.2.2.2⟩
 ·obtain⟨ob,es,ep,q,r⟩:=hm
  exact⟨ob,es,ep,k _ ob (fun z=>(hf _ z).2.1 rfl) q,r⟩
 ·by_cases hb:b=p
  ·subst hb
   rw [upd_same] at q
   cases q
   exact new
  ·rw [upd_ne hb] at q
   refine(I.hok b u q).stay (fun c v hc z=>?_) (fun c z=>by rw [upd_ne (ne_of_none z hn)];exact z) fun c xs z=>by rw [upd_ne (ne_of_none z hn)];exact z
   rcases hc with hc|hc
   ·rw [hc] at z ⊢
    exact k b v (nn b u q) z
   ·exact k c v (nn c _ hc) z
theorem Inv.turnedR{t':Nat}{fp:List Addr}(I:Inv X pins σ H s)(k:∀b ob,b∉fp→s.heap.get? b=some ob→h'.get? b=some ob)(hf:∀b∈fp,FpOk X pins H b):Inv X pins σ H { s with heap:=h',toks:=t' }:=by
 have nn:∀b u,H b=some u→b∉fp:=fun b u q z=>by rw [(hf b z).1] at q;cases q
 refine I.step (g':=s.gens) (d':=s.drawn) (ch:=fp) (fun b hb=>?_) (fun b ob _ _ hc q _=>k b ob hc q) (fun b ob _ _ hc q _=>⟨ob.slots,k b ob hc q⟩) (fun b ob hc q n=>n)
  (fun b ob hc q=>⟨ob,k b ob hc q⟩) (fun b xs q=>q) (fun b ob u q=>q) (fun b ps q=>⟨#[],by rw [q];simp⟩) (fun m hm=>?_) (fun b u q=>?_) I.bare
 ·have fe:=hf b hb
  exact⟨fe.2.2.2.1,fe.2.1,fe.2.2.2.2.1,fe.2.2.2.2.2⟩
 ·obtain⟨ob,es,ep,q,r⟩:=hm
  exact⟨ob,es,ep,k _ ob (fun z=>(hf _ z).2.1 rfl) q,r⟩
 ·refine(I.hok b u q).stay (fun c v hc z=>?_) (fun c z=>z) fun c xs z=>z
  rcases hc with hc|hc
  ·rw [hc] at z ⊢
   exact k b v (nn b u q) z
  ·exact k c v (nn c _ hc) z
end
structure ZipFp(z TI TO i1 i2:Addr):Prop where
 TIz:TI≠z
 TOz:TO≠z
 i1z:i1≠z
 i2z:i2≠z
 TITO:TI≠TO
 TIi1:TI≠i1
 TIi2:TI≠i2
 TOi1:TO≠i1
 TOi2:TO≠i2
 i12:i1≠i2
section
variable{X:Cx}{es:List Expr}{k:Nat}{ps:Pos}
theorem bootZip:bootBuiltins "zip"=some (.type "zip"):=by decide +kernel
end
end L2
namespace L2
open PySem PySem.Spec PyProof.Rows
theorem among_snoc{p pos:Pos}{c cv:Value}(ls:List Value)(h:TriplesOk ls)(e:codeAmong p (ls++[rawInt pos.line,rawInt pos.col,c])=some cv) :
  codeAmong p ls=some cv∨(p.line=pos.line∧p.col=pos.col∧cv=c):=by
 fun_induction TriplesOk ls with
 |case1 =>
  simp only [List.nil_append,codeAmong,rawInt] at e
  split at e
  ·rename_i hc
   simp only [Bool.and_eq_true,beq_iff_eq] at hc
   cases e
   exact .inr ⟨by omega,by omega,rfl⟩
  ·cases e
 |case2 a t b u x rest ih =>
  simp only [List.cons_append,codeAmong] at e ⊢
  split at e
  ·rename_i hc;rw [if_pos hc];exact .inl e
  ·rename_i hc;rw [if_neg hc];exact ih h e
 |case3 ls h1 h2=>exact h.elim
theorem qualAt_same{p pos:Pos}(h1:p.line=pos.line)(h2:p.col=pos.col)(l:List Value):qualAt l p=qualAt l pos:=by
 fun_induction qualAt l p with
 |case1 p l t c t' q t'' r hc=>rw [qualAt,←h1,←h2,if_pos hc]
 |case2 p l t c t' q t'' r hc ih=>rw [qualAt,←h1,←h2,if_neg hc];exact ih h1 h2
 |case3 p l h=>rw [qualAt];exact h
section
variable{X:Cx}{pins:List (Addr × Obj)}{σ:St}{H:Hp}{s:Shared}{P c:Addr}{ps:Array Value}{pos:Pos}{q:Str}
theorem Inv.mgP(I:Inv X pins σ H s){o:HO}(hP:H P=some o):mainGlobals≠P:=fun z=>by
 obtain⟨ob,es,ep,e,_⟩:=I.mod.glob
 have:=(I.bs _ _ e).2
 rw [z,hP] at this;cases this
theorem Inv.bltAt(I:Inv X pins σ H s){o:HO}(hP:H P=some o):s.heap.BuiltinsAt X.mg P:=by
 obtain⟨bm,ob,b1,b2,b3,b4,b5,b6⟩:=I.mod.bmn
 refine⟨bm,ob,b1,b2,fun z=>?_,fun z=>?_,I.bk _ _ b3,b4,b5,b6⟩
 ·obtain⟨og,es,ep,e,d,_⟩:=I.mod.glob
  rw [z,e] at b3;cases b3;rw [d] at b6;cases b6
 ·have:=(I.bs _ _ b3).2
  rw [z,hP] at this;cases this
theorem Inv.hitC{h':Heap}{f:Addr}{fd:FuncData}{oc:Value}{tk:Nat}(I:Inv X pins σ H s)(hc:H c=some (.cod q))(k:∀b o,s.heap.get? b=some o→h'.get? b=some o)(hs:s.heap.objs.size≤h'.objs.size)(hf:f=h'.objs.size) :
  Inv X pins σ (upd (upd H c (.cod q)) f (.fnc fd)) { s with heap:=h'.push { cls:=oc,data:=.func fd },toks:=tk }:=by
 have e:upd H c (.cod q)=H:=by funext b;unfold upd;split<;>simp_all
 subst hf
 rw [e]
 exact I.laid (fun b u z=>Heap.get?_push_of_some _ (k b u z)) hs ⟨_,_,_,Heap.get?_push_size _ rfl⟩
theorem Inv.missC{h':Heap}{f c':Addr}{fd:FuncData}{oc:Value}{tk:Nat}{tb:Array Value}(I:Inv X pins σ H s)(hP:H P=some (.tbl ps))(hq:qualAt ps.toList pos=some q)(e:s.heap.get? P=some (PySem.W.tabObj tb))(tr:TriplesOk tb.toList)
  (al:∀(p:Pos) (q:Str),qualAt ps.toList p=some q→∀cv,codeAmong p tb.toList=some cv→∃c,cv=Value.ref c∧H c=some (.cod q))
  (hx:Heap.ExtBut P s.heap h') (hge:s.heap.objs.size≤c') (hlt:c' < h'.objs.size) (hrec:h'.CodeRec (.ref c') q) (htb:h'.get? P=some (PySem.W.tabObj (tb++#[rawInt pos.line,rawInt pos.col,.ref c']))) (hf:f=h'.objs.size) :
  Inv X pins σ (upd (upd H c' (.cod q)) f (.fnc fd)) { s with heap:=h'.push { cls:=oc,data:=.func fd },toks:=tk }:=by
 subst hf
 have lt:∀b u,H b=some u→b < s.heap.objs.size:=fun b u z=>Nat.lt_of_not_le fun y=>by rw [I.hok.fresh y] at z;cases z
 have new:∀b,b < s.heap.objs.size→upd (upd H c' (.cod q)) h'.objs.size (.fnc fd) b=H b:=fun b hb=>by
  rw [upd_ne (Nat.ne_of_lt (Nat.lt_trans (Nat.lt_of_lt_of_le hb hge) hlt)),upd_ne (Nat.ne_of_lt (Nat.lt_of_lt_of_le hb hge))]
 have kp:∀b o,b≠P→s.heap.get? b=some o→(h'.push { cls:=oc,data:=.func fd }).get? b=some o:=fun b o hb z=>Heap.get?_push_of_some _ (hx b o hb z)
 have nP:∀b,H b=none→b≠P:=fun b n z=>by rw [z,hP] at n;cases n
 refine I.step (g':=s.gens) (d':=s.drawn) (ch:=[]) (fun _ z=>nomatch z) (fun b ob _ _ _ z n=>kp b ob (nP b n) z) (fun b ob _ _ _ z n=>⟨ob.slots,kp b ob (nP b n) z⟩) (fun b ob _ z n=>by rw [new b (Heap.lt_size z)];exact n)
  (fun b ob _ z=>?_) (fun b xs z=>by rw [new b (lt _ _ z)];exact z) (fun b ob u z=>by rw [new b (lt _ _ z)];exact z) (fun b ps z=>⟨#[],by rw [new b (lt _ _ z),z];simp⟩) (fun m hm=>?_) (fun b u z=>?_) I.bare
 ·by_cases hb:b=P
  ·subst hb;exact⟨_,Heap.get?_push_of_some _ htb⟩
  ·exact⟨ob,kp b ob hb z⟩
 ·obtain⟨ob,es,ep,z,r⟩:=hm
  exact⟨ob,es,ep,kp _ ob (nP _ I.free) z,r⟩
 ·by_cases h1:b=h'.objs.size
  ·subst h1;rw [upd_same] at z;cases z
   exact⟨_,_,_,Heap.get?_push_size _ rfl⟩
  ·rw [upd_ne h1] at z
   by_cases h2:b=c'
   ·subst h2;rw [upd_same] at z;cases z
    obtain⟨c₂,oc',vs,t,e2,hoc,r⟩:=hrec
    cases e2
    exact⟨_,oc',vs,t,rfl,Heap.get?_push_of_some _ hoc,r⟩
   ·rw [upd_ne h2] at z
    by_cases h3:b=P
    ·subst h3
     rw [hP] at z;cases z
     have hl:(tb++#[rawInt pos.line,rawInt pos.col,Value.ref c']).toList=tb.toList++[rawInt pos.line,rawInt pos.col,.ref c']:=by simp
     refine⟨_,Heap.get?_push_of_some _ htb,by rw [hl];exact TriplesOk_snoc _ _ _ _ tr,fun p q' hq' cv hcv=>?_⟩
     rw [hl] at hcv
     rcases among_snoc _ tr hcv with hcv|⟨e1,e2,rfl⟩
     ·obtain⟨c,e1,e2⟩:=al p q' hq' cv hcv
      exact⟨c,e1,by rw [new c (lt _ _ e2)];exact e2⟩
     ·rw [qualAt_same e1 e2,hq] at hq'
      cases hq'
      exact⟨c',rfl,by rw [upd_ne (Nat.ne_of_lt hlt),upd_same]⟩
    ·refine(I.hok b u z).stay (fun a v ha y=>kp a v (fun w=>?_) y) (fun a y=>by rw [new a (lt _ _ y)];exact y) fun a xs y=>by rw [new a (lt _ _ y)];exact y
     subst w
     rcases ha with w|w
     ·exact h3 w.symm
     ·rw [hP] at w;cases w
def tLam(P:Addr)(pos:Pos)(q:Str)(mk:Addr→Value→FuncData):TE:=fun _ H Q=>(∃ps,H P=some (.tbl ps)∧qualAt ps.toList pos=some q) ∧
 ∀f c ctv,H f=none→f≠c→(H c=none∨H c=some (.cod q))→Q (.ref f) (upd (upd H c (.cod q)) f (.fnc (mk c ctv)))
theorem pe_lam{params:Arguments}{body:Expr}{scope:Scope}{clos:List (Str × Addr)}(hcode:X.env.code=.ref c)(C:PySem.W.CodeHd X.base c P) (hq:X.env.qual++"<lambda>"=q) (hdef:defaultsOf params X.env=([],[]):=by rfl) (hcl:closureFor scope X.env=pure clos:=by rfl) :
  PE X (.Lambda params body scope pos) (tLam P pos q fun c' ctv=>PySem.W.kla_fn "<lambda>" q params body scope clos ((X.mg "__name__").getD .none) (.ref c') ctv):=by
 intro pins s σ H Q I h
 obtain⟨⟨ps,hP,hqa⟩,h⟩:=h
 obtain⟨tb,e,tr,al⟩:=I.hok P _ hP
 refine PySem.W.kla_eval hdef ?_
 rw [hq]
 cases hh:codeAmong pos tb.toList with
 |some cv =>
  obtain⟨c',rfl,hc⟩:=al pos q hqa cv hh
  refine PySem.W.kla_makeFunctionHit (mg:=X.mg) hcl I.ok.glob (I.mod.glob.keeps I.bk) hcode (C.keeps I.bk) e tr hh (I.bltAt hP) fun ctv h' tk hk hsz=>?_
  have hn:H h'.objs.size=none:=I.hok.fresh hsz
  exact⟨.ref h'.objs.size,_,I.hitC hc hk hsz rfl,rfl,h _ c' ctv hn (fun z=>by rw [z,hc] at hn;cases hn) (.inr hc)⟩
 |none =>
  refine PySem.W.kla_makeFunction (mg:=X.mg) hcl I.ok.glob (I.mod.glob.keeps I.bk) hcode (C.keeps I.bk) e tr hh (I.mgP hP) (I.bltAt hP) fun c' ctv h' tk hx hge hlt hrec htb=>?_
  exact⟨.ref h'.objs.size,_,I.missC hP hqa e tr al hx hge hlt hrec htb rfl,rfl,h _ c' ctv (I.hok.fresh (Nat.le_trans hge (Nat.le_of_lt hlt))) (Nat.ne_of_gt hlt) (.inl (I.hok.fresh hge))⟩
end
end L2
namespace L2
open PySem PySem.Spec PyProof.Rows
def dropC(ads:List Addr)(H:Hp):Hp:=fun b=>if b∈ads then none else H b
def addC(ads:List Addr)(H H':Hp):Hp:=fun b=>if b∈ads then H b else H' b
theorem drop_in{ads:List Addr}{H:Hp}{b:Addr}(h:b∈ads):dropC ads H b=none:=if_pos h
theorem drop_no{ads:List Addr}{H:Hp}{b:Addr}(h:b∉ads):dropC ads H b=H b:=if_neg h
theorem add_in{ads:List Addr}{H H':Hp}{b:Addr}(h:b∈ads):addC ads H H' b=H b:=if_pos h
theorem add_no{ads:List Addr}{H H':Hp}{b:Addr}(h:b∉ads):addC ads H H' b=H' b:=if_neg h
abbrev Froz(H:Hp):List Addr→List V→Prop:=Paired fun c v=>∃o,H c=some (.frz o (.cel v))
def FrzAll(H:Hp)(ads:List Addr):Prop:=∀c∈ads,∃o v,H c=some (.frz o (.cel v))
theorem Froz.all{H:Hp}:∀{ads:List Addr} {cvs:List V},Froz H ads cvs→FrzAll H ads
 |_,_,.nil=>fun _ z=>nomatch z
 |_,_,.cons ⟨o,r⟩ t=>fun c hc=>by
  rcases List.mem_cons.mp hc with rfl|hc
  ·exact⟨o,_,r⟩
  ·exact Froz.all t c hc
theorem Froz.get{H:Hp}:∀{ads:List Addr} {cvs:List V} {i:Nat} {c:Addr},Froz H ads cvs→ads[i]?=some c→∃v o,cvs[i]?=some v∧H c=some (.frz o (.cel v))
 |_,_,_,_,.nil,e=>by simp at e
 |_,_,0,_,.cons ⟨o,r⟩ _,e=>by simp at e;subst e;exact⟨_,o,rfl,r⟩
 |_,_,i+1,c,.cons _ t,e=>by
  obtain⟨v,o,h1,h2⟩:=Froz.get (i:=i) (c:=c) t (by simpa using e)
  exact⟨v,o,by simpa using h1,h2⟩
theorem Froz.same{H H':Hp}(s:Same H H'):∀{ads:List Addr} {cvs:List V},Froz H ads cvs→Froz H' ads cvs
 |_,_,.nil=>.nil
 |_,_,.cons ⟨o,r⟩ t=>.cons ⟨o,s _ _ r⟩ (Froz.same s t)
theorem Same.dropC{H0 H:Hp}{ads:List Addr}(s:Same H0 H)(n:∀c∈ads,H0 c=none):Same H0 (dropC ads H):=fun b o e=>by
 rw [drop_no fun z=>by rw [n b z] at e;cases e]
 exact s b o e
theorem tup_drop{H:Hp}{ads:List Addr}(f:FrzAll H ads){b:Addr}{xs:List V}(e:H b=some (.tup xs)):dropC ads H b=some (.tup xs):=by
 rw [drop_no fun z=>by obtain⟨o,v,q⟩:=f b z;rw [e] at q;cases q]
 exact e
section
variable{P:Program}{w:World}{H H':Hp}{h h':Heap}{ads:List Addr}{fs:List Addr}
theorem HOk.drop(x:HOk P w H h)(f:FrzAll H ads):HOk P w (dropC ads H) h:=fun b u e=>by
 by_cases hb:b∈ads
 ·rw [drop_in hb] at e;cases e
 ·rw [drop_no hb] at e
  have no:∀a o,H a=some o→(∀ob v,o≠.frz ob (.cel v))→dropC ads H a=some o:=fun a o z n=>by
   rw [drop_no fun y=>by obtain⟨ob,v,q⟩:=f a y;rw [z] at q;exact n ob v (Option.some.inj q)]
   exact z
  exact(x b u e).stay (fun _ _ _ q=>q) (fun a z=>no a _ z fun _ _=>nofun) fun a xs z=>no a _ z (by cases xs<;>exact fun _ _=>nofun)
theorem HOk.add(x:HOk P w H h)(x':HOk P w H' h')(f:FrzAll H ads)(n:∀c∈ads,H' c=none)(k:∀c∈ads,∀o,h.get? c=some o→h'.get? c=some o):HOk P w (addC ads H H') h':=fun b u e=>by
 by_cases hb:b∈ads
 ·rw [add_in hb] at e
  obtain⟨o,v,q⟩:=f b hb
  rw [q] at e;cases e
  obtain⟨e1,u,r,ob,e2,d⟩:=x b _ q
  exact⟨k b hb _ e1,u,r,ob,k b hb _ e2,d⟩
 ·rw [add_no hb] at e
  have no:∀a o,H' a=some o→addC ads H H' a=some o:=fun a o z=>by
   rw [add_no fun y=>by rw [n a y] at z;cases z]
   exact z
  exact(x' b u e).stay (fun _ _ _ q=>q) (fun a z=>no a _ z) fun a xs z=>no a _ z
theorem Un.drop(x:HOk P w H h)(x':HOk P w H' h')(f:FrzAll H ads)(u:Un fs [] H H' h h'):Un fs [] (dropC ads H) (dropC ads H') h h':=by
 have f':FrzAll H' ads:=fun c hc=>let ⟨o,v,e⟩:=f c hc;⟨o,v,u.frzs _ _ _ e⟩
 have no:∀a o,H a=some o→(∀ob v,o≠.frz ob (.cel v))→a∉ads:=fun a o z n y=>by obtain⟨ob,v,q⟩:=f a y;rw [z] at q;exact n ob v (Option.some.inj q)
 have kp:∀b o,b∈ads→h.get? b=some o→h'.get? b=some o:=fun b o hb e=>by
  obtain⟨o1,v,q⟩:=f b hb
  obtain⟨e1,_⟩:=x b _ q
  obtain⟨e2,_⟩:=x' b _ (u.frzs _ _ _ q)
  rw [e] at e1;cases e1;exact e2
 refine⟨fun b o e n hb hx=>?_,fun b o e n hb hx=>?_,fun b o e n hx=>?_,u.there,fun b xs e=>?_,fun b o v e=>?_,fun b ps e=>?_⟩
 ·by_cases hc:b∈ads
  ·exact kp b o hc e
  ·rw [drop_no hc] at n;exact u.keep b o e n hb hx
 ·by_cases hc:b∈ads
  ·exact⟨o.slots,kp b o hc e⟩
  ·rw [drop_no hc] at n;exact u.slot b o e n hb hx
 ·by_cases hc:b∈ads
  ·exact drop_in hc
  ·rw [drop_no hc] at n ⊢;exact u.free b o e n hx
 ·by_cases hc:b∈ads
  ·rw [drop_in hc] at e;cases e
  ·rw [drop_no hc] at e ⊢;exact u.tups b xs e
 ·by_cases hc:b∈ads
  ·rw [drop_in hc] at e;cases e
  ·rw [drop_no hc] at e ⊢;exact u.frzs b o v e
 ·by_cases hc:b∈ads
  ·rw [drop_in hc] at e;cases e
  ·rw [drop_no hc] at e ⊢;exact u.tbls b ps e
theorem Un.adds(x:HOk P w H h)(f:FrzAll H ads)(nf:∀c∈ads,c∉fs)(u:Un fs [] (dropC ads H) H' h h') :
  Un fs [] H (addC ads H H') h h'∧(∀c∈ads,H' c=none)∧∀c∈ads,∀o,h.get? c=some o→h'.get? c=some o:=by
 have th:∀c∈ads,∃o,h.get? c=some o:=fun c hc=>let ⟨o,v,e⟩:=f c hc;⟨o,(x c _ e).1⟩
 refine⟨⟨fun b o e n hb hx=>?_,fun b o e n hb hx=>?_,fun b o e n hx=>?_,u.there,fun b xs e=>?_,fun b o v e=>?_,fun b ps e=>?_⟩,fun c hc=>let ⟨o,e⟩:=th c hc;u.free c o e (drop_in hc) (by simp),fun c hc o e=>u.keep c o e (drop_in hc) (nf c hc) (by simp)⟩
 ·exact u.keep b o e (by unfold dropC;split<;>first|rfl|exact n) hb hx
 ·exact u.slot b o e (by unfold dropC;split<;>first|rfl|exact n) hb hx
 ·by_cases hc:b∈ads
  ·rw [add_in hc];exact n
  ·rw [add_no hc];exact u.free b o e (by rw [drop_no hc];exact n) hx
 ·by_cases hc:b∈ads
  ·rw [add_in hc];exact e
  ·rw [add_no hc];exact u.tups b xs (by rw [drop_no hc];exact e)
 ·by_cases hc:b∈ads
  ·rw [add_in hc];exact e
  ·rw [add_no hc];exact u.frzs b o v (by rw [drop_no hc];exact e)
 ·by_cases hc:b∈ads
  ·exact⟨#[],by rw [add_in hc,e];simp⟩
  ·obtain⟨m,z⟩:=u.tbls b ps (by rw [drop_no hc];exact e)
   exact⟨m,by rw [add_no hc];exact z⟩
end
structure CXF(P:Program)(w:World)(CX:CXT):Prop where
 drop:∀(outer:List Env) (H:Hp) (ads:List Addr) (s:Shared) (E:XK) (e:Value) (s':Shared),HOk P w H s.heap→FrzAll H ads→CX outer H s (fun c d H'=>E c d (dropC ads H')) e s'→CX outer (dropC ads H) s E e s'
 add:∀(outer:List Env) (H:Hp) (ads:List Addr) (s:Shared) (E:XK) (e:Value) (s':Shared),HOk P w H s.heap→FrzAll H ads→(∀b∈frs outer,H b=none)→CX outer (dropC ads H) s (fun c d H'=>(∀a∈ads,H' a=none)→E c d (addC ads H H')) e s'→CX outer H s E e s'
theorem cxf0{P:Program}{w:World}:CXF P w CX0:=⟨fun _ _ _ _ _ _ _ _ _ h=>h,fun _ _ _ _ _ _ _ _ _ _ h=>h⟩
inductive CapsOk (X:Cx):List (Nat × Str × Addr)→Prop
 |nil:CapsOk X []
 |cons {i:Nat} {y:Str} {c:Addr} {l:List (Nat × Str × Addr)} (h1:X.N[i]?=some y) (h2:X.env.kindOf y=some .cell) (h3:X.env.cells.lookup y=some c) (h4:X.fn y=true) (r:CapsOk X l):CapsOk X ((i,y,c)::l)
theorem CapsOk.mem{X:Cx}:∀{l:List (Nat × Str × Addr)},CapsOk X l→∀p∈l,X.N[p.1]?=some p.2.1∧X.env.kindOf p.2.1=some .cell∧X.env.cells.lookup p.2.1=some p.2.2∧X.fn p.2.1=true
 |_,.nil=>fun _ z=>nomatch z
 |_,.cons h1 h2 h3 h4 r=>fun p hp=>by
  rcases List.mem_cons.mp hp with rfl|hp
  ·exact⟨h1,h2,h3,h4⟩
  ·exact r.mem p hp
theorem CapsOk.nodup{X:Cx}(ok:X.Ok):∀{l:List (Nat × Str × Addr)},CapsOk X l→(l.map (·.2.1)).Nodup→(l.map (·.2.2)).Nodup
 |_,.nil,_=>List.nodup_nil
 |_,.cons (y:=y) (c:=c) h1 h2 h3 _ r,nd=>by
  obtain⟨n1,n2⟩:=List.nodup_cons.mp nd
  refine List.nodup_cons.mpr ⟨fun z=>?_,r.nodup ok n2⟩
  obtain⟨p,hp,e⟩:=List.mem_map.mp z
  have h4:=(r.mem p hp).2.2.1
  have e':p.2.2=c:=e
  rw [e'] at h4
  have:p.2.1=y:=ok.inj _ _ _ h4 h3
  exact n1 (List.mem_map.mpr ⟨p,hp,this⟩)
theorem froz_mk{X:Cx}{pins:List (Addr × Obj)}{σ:St}{H:Hp}{s:Shared}(I:Inv X pins σ H s):∀{l:List (Nat × Str × Addr)} {cvs:List V},CapsOk X l→(l.map (·.2.2)).Nodup→Paired (fun p v=>σ[p.1]?=some (some v)) l cvs →
  ∃g:Addr→Option HO,Froz g (l.map (·.2.2)) cvs∧(∀c,c∉l.map (·.2.2)→g c=none)∧∀c o,g c=some o→∃ob v,o=.frz ob (.cel v)∧s.heap.get? c=some ob∧∃u,RelV v u∧s.heap.IsCell c (some u)
 |_,_,.nil,_,.nil=>⟨fun _=>none,.nil,fun _ _=>rfl,fun _ _ z=>nomatch z⟩
 |_,_,.cons (i:=i) (y:=y) (c:=c) h1 h2 h3 _ r,nd,.cons (b:=v) e t=>by
  obtain⟨n1,n2⟩:=List.nodup_cons.mp nd
  obtain⟨g,f1,f2,f3⟩:=froz_mk I r n2 t
  obtain⟨m,hn,hl⟩:=I.loc
  obtain⟨u,rv,lk⟩:=hl i y v h1 e (.inr (.inl h2))
  have cel:s.heap.IsCell c (some u):=by
   rcases lk with ⟨k,_⟩|⟨_,c',e1,e2⟩
   ·rw [h2] at k;cases k
   ·rw [h3] at e1;cases e1;exact e2
  obtain⟨ob,ho,hd⟩:=id cel
  refine⟨fun b=>if b=c then some (.frz ob (.cel v)) else g b,.cons ⟨ob,if_pos rfl⟩ ?_,fun b hb=>?_,fun b o z=>?_⟩
  ·have up:∀{as:List Addr} {vs:List V},c∉as→Froz g as vs→Froz (fun b=>if b=c then some (.frz ob (.cel v)) else g b) as vs:=by
    intro as
    induction as with
    |nil=>intro vs _ h;cases h;exact .nil
    |cons a as ih =>
     intro vs hn h
     cases h with
     |cons r t =>
      obtain⟨o,r⟩:=r
      exact .cons ⟨o,(if_neg fun z=>hn (by rw [←z];exact .head _)).trans r⟩ (ih (fun z=>hn (.tail _ z)) t)
   exact up n1 f1
  ·have:b≠c:=fun z=>hb (by rw [z];exact .head _)
   show(if b=c then _ else _)=_
   rw [if_neg this]
   exact f2 b fun z=>hb (.tail _ z)
  ·by_cases hb:b=c
   ·subst hb
    have z':=(if_pos rfl).symm.trans z
    cases z'
    exact⟨ob,v,rfl,ho,u,rv,cel⟩
   ·have z':=(if_neg hb).symm.trans z
    exact f3 b o z'
section
variable{X:Cx}{CX:CXT}{k:Nat}{f C:Addr}{fd:FuncData}{ps:List Str}{sp:Sp}{dvs:List V}{ds:List Value}{E:XK}{x m:Str}{p pos apos:Pos}{e o:Expr}{es:List Expr}{ta:TE}{t:TA}
theorem run_fnF{pins:List (Addr × Obj)}{σ:St}{H:Hp}{s:Shared}{Q:VK}{us:List Value}{vs cvs:List V}{l:List (Nat × Str × Addr)}(fx:CXF X.prog X.w CX)(F:FnOk X.prog X.w X.K X.mg X.base CX k f fd ps sp)(hr:Room k X.A)(hb:Binds X.K fd ps ds)(hd:Vals dvs ds)(hx:Passes CX X E)
  (hl:CapsOk X l) (hnd:(l.map (·.2.1)).Nodup) (I:Inv X pins σ H s) (r:Vals vs us) (hc:Paired (fun p v=>σ[p.1]?=some (some v)) l cvs)
  (h:∀H2,dropC (l.map (·.2.2)) H2=H→Same H H2→(∀c∈l.map (·.2.2),H c=none)→Froz H2 (l.map (·.2.2)) cvs→sp (vs++dvs) H2 (fun v H'=>Q v (dropC (l.map (·.2.2)) H')) (fun c d H'=>E c d (dropC (l.map (·.2.2)) H'))):wpAny (model X.prog X.w) X.A (call (.ref f) us) (EP X pins σ Q) X.xe s:=by
 have nd:=hl.nodup I.ok hnd
 obtain⟨g,g1,g2,g3⟩:=froz_mk I hl nd hc
 have cn:∀c∈l.map (·.2.2),H c=none:=fun c hc=>by
  obtain⟨p,hp,rfl⟩:=List.mem_map.mp hc
  exact I.freeC _ _ (hl.mem p hp).2.2.1
 have hnF:∀c∈l.map (·.2.2),c∉frs X.stack:=fun c hc z=>by
  obtain⟨p,hp,rfl⟩:=List.mem_map.mp hc
  rcases List.mem_cons.mp (I.stkSub _ z) with y|y
  ·exact I.cne _ _ (hl.mem p hp).2.2.1 y
  ·obtain⟨_,of,hof,_⟩:=I.ok.funs.mem y
   exact Nat.lt_irrefl _ (Nat.lt_of_lt_of_le (Heap.lt_size hof) (I.ok.cab _ _ (hl.mem p hp).2.2.2 (hl.mem p hp).2.2.1))
 have hnB:∀c∈l.map (·.2.2),X.base.get? c=none:=fun c hc=>by
  obtain⟨p,hp,rfl⟩:=List.mem_map.mp hc
  exact Heap.get?_none_of_le (Nat.le_trans I.ok.bsz (I.ok.cab _ _ (hl.mem p hp).2.2.2 (hl.mem p hp).2.2.1))
 generalize hads:l.map (·.2.2)=ads at *
 have hH2:∃H2:Hp,dropC ads H2=H∧Same H H2∧Froz H2 ads cvs∧∀b o,H2 b=some o→(b∉ads∧H b=some o)∨(b∈ads∧g b=some o):=by
  refine⟨fun b=>if b∈ads then g b else H b,?_,fun b o e=>?_,?_,fun b o e=>?_⟩
  ·funext b
   unfold dropC
   by_cases hb:b∈ads
   ·rw [if_pos hb];exact(cn b hb).symm
   ·rw [if_neg hb];exact if_neg hb
  ·show(if b∈ads then g b else H b)=_
   rw [if_neg fun z=>by rw [cn b z] at e;cases e]
   exact e
  ·have up:∀{as:List Addr} {vs:List V},(∀a∈as,a∈ads)→Froz g as vs→Froz (fun b=>if b∈ads then g b else H b) as vs:=by
    intro as
    induction as with
    |nil=>intro vs _ h;cases h;exact .nil
    |cons a as ih =>
     intro vs hn h
     cases h with
     |cons r t =>
      obtain⟨o,r⟩:=r
      exact .cons ⟨o,(if_pos (hn _ (.head _))).trans r⟩ (ih (fun z hz=>hn z (.tail _ hz)) t)
   exact up (fun _ z=>z) g1
  ·by_cases hb:b∈ads
   ·exact .inr ⟨hb,(if_pos hb).symm.trans e⟩
   ·exact .inl ⟨hb,(if_neg hb).symm.trans e⟩
 obtain⟨H2,e2,sm,fz,cs⟩:=hH2
 have ok2:HOk X.prog X.w H2 s.heap:=fun b o e=>by
  rcases cs b o e with ⟨_,q⟩|⟨_,q⟩
  ·exact(I.hok b o q).stay (fun _ _ _ z=>z) (fun a z=>sm a _ z) fun a xs z=>sm a _ z
  ·obtain⟨ob,v,rfl,h1,u,h2,h3⟩:=g3 b o q
   exact⟨h1,u,h2,h3⟩
 have e0:=I.env0
 have e02:Env0 X.prog X.w X.K X.mg X.base X.A X.stack s H2:=⟨e0.frames,e0.mod,fun b o e=>⟨(e0.bs b o e).1,?_⟩,e0.bsz,e0.funs,fun b hb=>?_,ok2,e0.bare⟩
 ·have r2:Vals (vs++dvs) (us++ds):=r.append hd
  have hq:=h H2 e2 sm cn fz
  have hlen:(us++ds).length=ps.length:=by rw [←r2.length];exact F.len _ _ _ _ hq
  refine wpAny_call (codeAny_mono (F.run X.A X.stack s H2 ⟨us,[]⟩ (us++ds) (vs++dvs) _ _ hr e02 (hb s us I.kIn hlen) r2 hq) fun r s' hq=>?_)
  have fa:=fz.all
  cases r with
  |error e=>exact hx pins σ H s e s' I (by rw [←e2];exact fx.drop _ _ _ _ _ _ _ ok2 fa hq)
  |ok fl =>
   cases fl with
   |ret u =>
    obtain⟨v,H',os,bare,un,hok,rv,q⟩:=hq
    have f':FrzAll H' ads:=fun c hc=>let ⟨o,v,e⟩:=fa c hc;⟨o,v,un.frzs _ _ _ e⟩
    exact I.after ⟨v,dropC ads H',os,bare,e2▸Un.drop ok2 hok fa un,hok.drop f',rv,q⟩
   |next=>exact False.elim hq
   |brk=>exact False.elim hq
   |cont=>exact False.elim hq
 ·cases q:H2 b with
  |none=>rfl
  |some u =>
   rcases cs b u q with ⟨_,z⟩|⟨hb,z⟩
   ·rw [(e0.bs b o e).2] at z;cases z
   ·rw [hnB b hb] at e;cases e
 ·cases q:H2 b with
  |none=>rfl
  |some u =>
   rcases cs b u q with ⟨_,z⟩|⟨hc,z⟩
   ·rw [e0.frf b hb] at z;cases z
   ·exact absurd hb (hnF b hc)
def tCallF(sp:Sp)(dvs:List V)(E:XK)(l:List (Nat × Str × Addr))(t:TA):TE:=fun σ H Q=>t σ H fun vs H1=>∃cvs,Paired (fun p v=>σ[p.1]?=some (some v)) l cvs ∧
 ∀H2,dropC (l.map (·.2.2)) H2=H1→Same H1 H2→(∀c∈l.map (·.2.2),H1 c=none)→Froz H2 (l.map (·.2.2)) cvs→sp (vs++dvs) H2 (fun v H'=>Q v (dropC (l.map (·.2.2)) H')) (fun c d H'=>E c d (dropC (l.map (·.2.2)) H'))
theorem pe_callF{l:List (Nat × Str × Addr)}(fx:CXF X.prog X.w CX)(F:FnOk X.prog X.w X.K X.mg X.base CX k f fd ps sp)(hr:Room k X.A)(hg:Gl X x)(hm:X.mg x=some (.ref f))(hk:PySem.W.keepIn X.K (.ref f)=true)(hb:Binds X.K fd ps ds)(hd:Vals dvs ds)(hx:Passes CX X E)
  (hl:CapsOk X l) (hnd:(l.map (·.2.1)).Nodup) (ha:PA X (e::es) t) (hdb:(x==("__debug__":Str))=false:=by decide) (he:starEach (e::es) X.env=(false,eval e X.env)::starEach es X.env:=by rfl) (hpl:(backTo pos (starEach es X.env)).any (·.1)=false:=by rfl) :
  PE X (.Call (.Name x p) (e::es) [] pos) (tCallF sp dvs E l t):=by
 intro pins s σ H Q I h
 refine wpAny_Call_Name_kw (ld_glob I hg hm ?_ hdb)
 refine PySem.W.callWith_K (h₀:=X.base) I.ok.mod.kin hk (thn (ha pos pins s σ H _ I h) fun us s1 ⟨vs,H1,I1,r,q⟩=>⟨I1.kIn,?_⟩) he hpl
 obtain⟨cvs,hc,q⟩:=q
 exact run_fnF fx F hr hb hd hx hl hnd I1 r hc q
def tCallV(X:Cx)(CX:CXT)(E:XK)(i:Nat)(t:TA):TE:=fun σ H Q=>∃f fd,σ[i]?=some (some (.ref f))∧H f=some (.fnc fd)∧t σ H fun vs H1=>∃fd ps sp k,H1 f=some (.fnc fd)∧FnOk X.prog X.w X.K X.mg X.base CX k f fd ps sp∧Room k X.A∧Binds X.K fd ps []∧sp vs H1 Q E
theorem Inv.fnAt{pins:List (Addr × Obj)}{σ:St}{H:Hp}{s:Shared}(I:Inv X pins σ H s)(h:H f=some (.fnc fd)):PySem.W.FnAt f s.heap:=let ⟨oc,od,sl,e⟩:=I.hok f _ h;⟨oc,od,fd,sl,e⟩
theorem pe_callV{i:Nat}(hN:PE X (.Name x p) (tVar i))(hx:Passes CX X E)(ha:PA X (e::es) t)(he:starEach (e::es) X.env=(false,eval e X.env)::starEach es X.env:=by rfl)(hpl:(backTo pos (starEach es X.env)).any (·.1)=false:=by rfl) :
  PE X (.Call (.Name x p) (e::es) [] pos) (tCallV X CX E i t):=by
 intro pins s σ H Q I h
 obtain⟨f,fd,hi,hf,h⟩:=h
 refine wpAny_Call_Name_kw (thn (hN pins s σ H (fun v H'=>v=.ref f∧H'=H) I ⟨_,hi,rfl,rfl⟩) fun u s1 ⟨v,H1,I1,rv,e1,e2⟩=>?_)
 subst e1;subst e2
 obtain rfl:u=Value.ref f:=rv
 refine PySem.W.callWith_F (I1.fnAt hf) (thn (ha pos pins s1 σ H1 _ I1 h) fun us s2 ⟨vs,H2,I2,r,q⟩=>?_) he hpl
 obtain⟨fd,ps,sp,k,hf2,F,hr,hb,q⟩:=q
 exact⟨I2.fnAt hf2,run_fn (dvs:=[]) F hr hb .nil hx I2 r (by rw [List.append_nil];exact q)⟩
end
end L2
namespace L2
open PySem PySem.Spec PyProof.Rows
structure CloScope(ps caps:List Str)(sc:Scope):Prop where
 kind:sc.kind=.function
 co:sc.isCoroutine=false
 gen:sc.isGenerator=false
 nd:(ps++caps).Nodup
 par:∀x∈ps,sc.names.lookup x=some .local
 cap:∀x∈caps,sc.names.lookup x=some .free
 nocell:∀y∈sc.names,y.2≠.cell
 free:∀y∈sc.names,y.2=.free→y.1∈caps
def cxClo(CX:CXT)(P:Program)(w:World)(K:PySem.W.Frag)(mg:Str→Option Value)(base:Heap)(N:List Str)(qual:Str)(scope:Scope)(f:Addr)(cd:Value)(cl:List (Str × Addr))(A:Around)(outer:List Env)(s:Shared)(H:Hp)(E:XK):Cx where
 prog:=P
 w:=w
 K:=K
 mg:=mg
 base:=base
 A:=A.deeper (PySem.W.envX qual scope s.heap.objs.size f cd cl)
 N:=N
 s₀:=s
 H₀:=H
 env:=PySem.W.envX qual scope s.heap.objs.size f cd cl
 outer:=outer
 stack:=PySem.W.envX qual scope s.heap.objs.size f cd cl::outer
 ex:=[]
 calm:=true
 fn:=fun _=>false
 pn:=[]
 xe:=fun e s'=>wpAny (model P w) (A.deeper (PySem.W.envX qual scope s.heap.objs.size f cd cl)) (leaving (PySem.W.envX qual scope s.heap.objs.size f cd cl) e) (fun _ s''=>CX outer H s E e s'') (fun e' s''=>CX outer H s E e' s'') s'
theorem zip_lookup{y:Str}{c:Addr}:∀{caps:List Str} {ads:List Addr},(caps.zip ads).lookup y=some c→∃i:Nat,caps[i]?=some y∧ads[i]?=some c
 |[],_,h=>by cases h
 |_::_,[],h=>by cases h
 |a::caps,b::ads,h=>by
  rw [List.zip_cons_cons,List.lookup_cons] at h
  cases q:y==a with
  |true=>rw [q] at h;cases h;exact⟨0,by rw [eq_of_beq q];rfl,rfl⟩
  |false=>rw [q] at h;obtain⟨i,h1,h2⟩:=zip_lookup h;exact⟨i+1,h1,h2⟩
theorem lookup_zip{y:Str}:∀{caps:List Str} {ads:List Addr} {i:Nat},caps.length=ads.length→caps.Nodup→caps[i]?=some y→∃c,(caps.zip ads).lookup y=some c∧ads[i]?=some c
 |[],_,_,_,_,h=>by simp at h
 |_::_,[],_,l,_,_=>by simp at l
 |a::caps,b::ads,0,_,_,h=>by
  simp at h;subst h
  exact⟨b,by rw [List.zip_cons_cons,List.lookup_cons];simp,rfl⟩
 |a::caps,b::ads,i+1,l,nd,h=>by
  obtain⟨n1,n2⟩:=List.nodup_cons.mp nd
  have h':caps[i]?=some y:=by simpa using h
  obtain⟨c,h1,h2⟩:=lookup_zip (i:=i) (ads:=ads) (by simpa using l) n2 h'
  refine⟨c,?_,h2⟩
  rw [List.zip_cons_cons,List.lookup_cons]
  have:(y==a)=false:=beq_eq_false_iff_ne.mpr fun z=>n1 (by rw [←z];exact List.mem_of_getElem? h')
  rw [this];exact h1
theorem rev_lookup{y:Str}{u:Value}:∀{ps:List Str} {us:List Value} {i:Nat},ps.Nodup→ps[i]?=some y→us[i]?=some u→(ps.zip us).reverse.lookup y=some u
 |[],_,_,_,h,_=>by simp at h
 |_::_,[],_,_,_,h=>by simp at h
 |a::ps,b::us,i,nd,h1,h2=>by
  obtain⟨n1,n2⟩:=List.nodup_cons.mp nd
  rw [List.zip_cons_cons,List.reverse_cons,List.lookup_append]
  cases i with
  |zero =>
   simp at h1 h2;subst h1;subst h2
   have:(ps.zip us).reverse.lookup a=none:=List.lookup_eq_none_iff.mpr fun p hp=>by
    have:=(List.of_mem_zip (List.mem_reverse.mp hp)).1
    have q:a≠p.1:=fun z=>n1 (by rw [z];exact this)
    simpa using q
   rw [this];simp
  |succ i=>rw [rev_lookup (i:=i) n2 (by simpa using h1) (by simpa using h2)];rfl
theorem Froz.len{H:Hp}{ads:List Addr}{cvs:List V}(f:Froz H ads cvs):ads.length=cvs.length:=Paired.length f
theorem inv_clo{CX:CXT}{P:Program}{w:World}{K:PySem.W.Frag}{mg:Str→Option Value}{base:Heap}{ps caps:List Str}{qual:Str}{scope:Scope}{f:Addr}{cd:Value}{ads:List Addr}{cvs:List V}{A:Around}{outer:List Env}{s:Shared}{h₁:Heap}{tk:Nat}{H:Hp}{E:XK}{us:List Value}{vs:List V}
  (S:CloScope ps caps scope) (hd:A.handled=none) (e0:Env0 P w K mg base A outer s H) (hl:vs.length=ps.length) (r:Vals vs us) (fz:Froz H ads cvs) (hc:caps.length=ads.length) (nd:ads.Nodup)
  (hns:h₁.Ns s.heap.objs.size (fun x=>(ps.zip us).reverse.lookup x)) (hk:∀b o,s.heap.get? b=some o→h₁.get? b=some o) :
  Inv (cxClo CX P w K mg base (ps++caps) qual scope f cd (caps.zip ads) A outer s (dropC ads H) E) [] (start (ps++caps) (vs++cvs)) (dropC ads H) { s with heap:=h₁,toks:=tk }:=by
 have noA:∀b:Addr,b∉(cxClo CX P w K mg base (ps++caps) qual scope f cd (caps.zip ads) A outer s (dropC ads H) E).ex:=fun b z=>absurd (show b∈([]:List Addr) from z) (by simp)
 have ndp:ps.Nodup:=S.nd.sublist (List.sublist_append_left _ _)
 have ndc:caps.Nodup:=S.nd.sublist (List.sublist_append_right _ _)
 have fa:=fz.all
 have dn:∀b,H b=none→dropC ads H b=none:=fun b n=>by unfold dropC;split<;>first|rfl|exact n
 have cin:∀y c,(caps.zip ads).lookup y=some c→c∈ads:=fun y c h=>let ⟨_,_,h2⟩:=zip_lookup h;List.mem_of_getElem? h2
 have cel:∀c∈ads,∀o v,H c=some (.frz o (.cel v))→∃u,RelV v u∧h₁.IsCell c (some u):=fun c _ o v e=>by
  obtain⟨_,u,rv,ic⟩:=e0.hok c _ e
  exact⟨u,rv,ic.keeps hk⟩
 refine⟨⟨e0.mod,S.kind,rfl,rfl,Nat.le_refl _,fun y z c h1 h2=>?_,fun y hy=>?_,(fun y c h _=>absurd (show false=true from h) Bool.false_ne_true),fun _=>hd,Around.frames_deeper e0.frames,.inr ⟨rfl,rfl⟩,fun b z=>absurd z (noA b),fun b o e=>⟨(e0.bs b o e).1,dn b (e0.bs b o e).2⟩,e0.bsz,fun b _ _=>noA b,fun b z=>absurd z (noA b),e0.funs,fun b hb=>dn b (e0.frf b hb)⟩,
  rfl,e0.bare,Un.kept hk,⟨_,hns,fun i y v h1 h2 h3=>?_⟩,fun y c h=>?_,dn _ (e0.hok.fresh (Nat.le_refl _)),fun y c h=>drop_in (cin y c h),fun p hp=>absurd (show p∈([]:List (Addr × Obj)) from hp) (by simp),(HOk.drop e0.hok fa).kept hk,?_⟩
 ·obtain⟨i,a1,a2⟩:=zip_lookup h1
  obtain⟨j,b1,b2⟩:=zip_lookup h2
  obtain⟨i1,i2⟩:=List.getElem?_eq_some_iff.mp a2
  obtain⟨j1,j2⟩:=List.getElem?_eq_some_iff.mp b2
  have:i=j:=(List.getElem_inj nd).mp (i2.trans j2.symm)
  subst this
  rw [a1] at b1;exact Option.some.inj b1
 ·have hy:scope.names.lookup y=some .cell∨scope.names.lookup y=some .free:=hy
  rcases hy with hy|hy
  ·exact absurd rfl (S.nocell _ (PySem.mem_of_lookup hy))
  ·have:=S.free _ (PySem.mem_of_lookup hy) rfl
   obtain⟨i,hi⟩:=List.getElem?_of_mem this
   obtain⟨c,h1,_⟩:=lookup_zip hc ndc hi
   exact⟨c,h1⟩
 ·unfold start at h2
  have hlc:=fz.len
  have ei:(vs++cvs)[i]?=some v:=by
   by_cases hi:i < (vs++cvs).length
   ·rw [List.getElem?_append_left (by simpa using hi),List.getElem?_map] at h2
    cases e:(vs++cvs)[i]? with
    |none=>rw [e] at h2;cases h2
    |some a=>rw [e] at h2;cases h2;rfl
   ·rw [List.getElem?_append_right (by simpa using hi),List.getElem?_replicate] at h2
    split at h2<;>cases h2
  by_cases hi:i < ps.length
  ·have hy:ps[i]?=some y:=by rw [←h1];exact(List.getElem?_append_left hi).symm
   rw [List.getElem?_append_left (by omega)] at ei
   obtain⟨u,hu,rv⟩:=r.get ei
   exact⟨u,rv,.inl ⟨S.par y (List.mem_of_getElem? hy),rev_lookup ndp hy hu⟩⟩
  ·have hy:caps[i - ps.length]?=some y:=by rw [←h1];exact(List.getElem?_append_right (by omega)).symm
   rw [List.getElem?_append_right (by omega),hl] at ei
   obtain⟨c,e1,e2⟩:=lookup_zip hc ndc hy
   obtain⟨v',o,e3,e4⟩:=fz.get e2
   rw [ei] at e3;cases e3
   obtain⟨u,rv,ic⟩:=cel c (List.mem_of_getElem? e2) o v e4
   exact⟨u,rv,.inr ⟨.inr (S.cap y (List.mem_of_getElem? hy)),c,e1,ic⟩⟩
 ·obtain⟨o,v,e⟩:=fa c (cin y c h)
  obtain⟨u,_,ic⟩:=cel c (cin y c h) o v e
  exact⟨_,ic⟩
 ·have:=fz.len
  unfold start
  show _=(ps++caps).length
  rw [List.length_append,List.length_map,List.length_replicate,List.length_append,List.length_append]
  omega
def spClo(f:Addr)(fd:FuncData)(c:Addr)(q:Str)(ads:List Addr)(cvs:List V)(n:Nat)(B:Sp):Sp:=fun vs H Q E=>vs.length=n∧H f=some (.fnc fd)∧H c=some (.cod q)∧Froz H ads cvs ∧
 B vs (dropC ads H) (fun v H'=>(∀a∈ads,H' a=none)→Q v (addC ads H H')) (fun k d H'=>(∀a∈ads,H' a=none)→E k d (addC ads H H'))
section
variable{CX:CXT}{P:Program}{w:World}{K:PySem.W.Frag}{mg:Str→Option Value}{base:Heap}{k:Nat}{f c:Addr}{name qual:Str}{params:Arguments}{scope:Scope}{ps caps:List Str}{ads:List Addr}{cvs:List V}{B:Sp}
theorem fn_lam{body:Expr}{pm ctv:Value}(fx:CXF P w CX)(S:CloScope ps caps scope)(hc:caps.length=ads.length)(nd:ads.Nodup)
  (hbody:∀(A:Around) (outer:List Env) (s:Shared) (H:Hp) (vs:List V) (Q:VK) (E:XK),Room k (A.deeper (PySem.W.envX qual scope s.heap.objs.size f (.ref c) (caps.zip ads)))→B vs H Q E→vs.length=ps.length →
   ∃t,PE (cxClo CX P w K mg base (ps++caps) qual scope f (.ref c) (caps.zip ads) A outer s H E) body t∧t (start (ps++caps) (vs++cvs)) H Q) :
  FnOk P w K mg base CX (k+1) f (PySem.W.kla_fn name qual params body scope (caps.zip ads) pm (.ref c) ctv) ps (spClo f (PySem.W.kla_fn name qual params body scope (caps.zip ads) pm (.ref c) ctv) c qual ads cvs ps.length B):=by
 refine⟨fun _ _ _ _ h=>h.1,fun A outer s H args us vs Q E hr e0 hb r hsp=>?_⟩
 obtain⟨hl,hf,hcd,fz,hB⟩:=hsp
 obtain⟨oc,od,sl,e⟩:=e0.hok f _ hf
 have lim:s.heap.NoLimit:=e0.mod.nolimit.keeps fun b o e=>(e0.bs b o e).1
 have hloc:∀y∈ps.zip us,scope.names.lookup y.1=some .local:=fun⟨n,v⟩ hy=>S.par n (List.of_mem_zip hy).1
 refine PySem.W.kla_callFunE hr.depth e rfl S.co S.gen rfl (e0.hok c _ hcd) (hb _ _ _ _ ?_)
 refine wpAny_newFunctionEnv S.nocell hloc (fun h₁ hns hsb=>⟨lim.fresh _ hsb,?_⟩) S.kind
 have hk:∀b o,s.heap.get? b=some o→h₁.get? b=some o:=fun b o e=>hsb.extBut b o (Nat.ne_of_lt (Heap.lt_size e)) (Heap.get?_push_of_some _ e)
 show codeAny _ _ (.expr body (PySem.W.envX qual scope s.heap.objs.size f (.ref c) (caps.zip ads))) _ _
 obtain⟨t,ht,hq⟩:=hbody A outer s (dropC ads H) vs _ _ (hr.deeper _) hB hl
 have I:=inv_clo (CX:=CX) (qual:=qual) (f:=f) (cd:=.ref c) (tk:=s.toks+(ps.zip us).length) (E:=fun k d H'=>(∀a∈ads,H' a=none)→E k d (addC ads H H')) S hr.hd e0 hl r fz hc nd hns hk
 have fa:=fz.all
 have na:∀c∈ads,c∉frs outer:=fun c hc z=>by obtain⟨o,v,e⟩:=fa c hc;rw [e0.frf c z] at e;cases e
 refine PySem.W.kla_codeExpr (wpAny_mono (ht [] _ _ _ _ I hq) (fun u s' hs=>?_) fun e s' hs=>?_)
 ·obtain⟨v,H',J,rv,q⟩:=hs
  obtain⟨un,n,kk⟩:=Un.adds e0.hok fa na J.base
  exact⟨v,addC ads H H',J.os,J.bare,un,HOk.add e0.hok J.hok fa n kk,rv,q n⟩
 ·exact wpAny_mono hs (fun _ s'' z=>fx.add _ _ _ _ _ _ _ e0.hok fa e0.frf z) fun _ s'' z=>fx.add _ _ _ _ _ _ _ e0.hok fa e0.frf z
end
end L2
namespace L2
open PySem PySem.Spec PyProof.Rows
structure FunT(K:PySem.W.Frag)(x qual:Str)(st:Stmt)(f:Addr)(fd:FuncData)(c P:Addr):Prop where
 ex:∃(oc:Value) (od:Option Addr) (kV doc pm:Value) (an:Option Addr) (ct:Value) (osl:Array (Option Value)),
  fd=PySem.W.fnOf x qual (defArgs st) (defBody st) (defScope st) .none kV doc pm an (.ref c) ct∧K.lookup f=some ⟨oc,od,.func fd,osl⟩∧PySem.W.codeIn K (.ref c) qual=true
 kp:PySem.W.keepIn K (.ref f)=true
 hd:PySem.W.codeHdIn K c P=true
section
variable{Pr:Program}{w:World}{K:PySem.W.Frag}{mg:Str→Option Value}{base:Heap}{x qual:Str}{st:Stmt}{f c P:Addr}{fd:FuncData}{N ps:List Str}{k:Nat}{sp:Sp}
theorem FunT.okG{CX:CXT}(F:FunT K x qual st f fd c P)(S:FnScope N ps (defScope st))(len:∀vs H Q E,sp vs H Q E→vs.length=ps.length)
  (hbody:∀(A:Around) (outer:List Env) (s:Shared) (H:Hp) (vs:List V) (Q:VK) (E:XK),Room k (A.deeper (envOfC qual (defScope st) s.heap.objs.size f (.ref c)))→sp vs H Q E →
   ∃t,PSs (cxOf CX Pr w K mg base N qual (defScope st) f (.ref c) A outer s H E) (defBody st) t∧t { nx:=fun _ H'=>Q .non H',rt:=Q } (start N vs) H):FnOk Pr w K mg base CX (k+1) f fd ps sp:=by
 obtain⟨oc,od,kV,doc,pm,an,ct,osl,rfl,lk,hcd⟩:=F.ex
 exact fn_of lk hcd S len hbody
theorem FunT.ok(F:FunT K x qual st f fd c P)(S:FnScope N ps (defScope st))(len:∀vs H Q E,sp vs H Q E→vs.length=ps.length)
  (hbody:∀(A:Around) (outer:List Env) (s:Shared) (H:Hp) (vs:List V) (Q:VK) (E:XK),Room k (A.deeper (envOfC qual (defScope st) s.heap.objs.size f (.ref c)))→sp vs H Q E →
   ∃t,PSs (cxOf CX0 Pr w K mg base N qual (defScope st) f (.ref c) A outer s H E).nox (defBody st) t∧t { nx:=fun _ H'=>Q .non H',rt:=Q } (start N vs) H):FnOk Pr w K mg base CX0 (k+1) f fd ps sp :=
 F.okG S len fun A outer s H vs Q E hr h=>let ⟨t,h1,h2⟩:=hbody A outer s H vs Q E hr h;⟨t,h1.nox,h2⟩
theorem FunT.code(F:FunT K x qual st f fd c P)(X:K.In base):PySem.W.CodeHd base c P:=PySem.W.codeHd_of_K X F.hd
theorem funt_mk{oc:Value}{od an:Option Addr}{osl:Array (Option Value)}{kV doc pm ct:Value}(l:K.lookup f=some ⟨oc,od,.func (PySem.W.fnOf x qual (defArgs st) (defBody st) (defScope st) .none kV doc pm an (.ref c) ct),osl⟩)
  (cd:PySem.W.codeIn K (.ref c) qual=true) (k:PySem.W.keepIn K (.ref f)=true) (h:PySem.W.codeHdIn K c P=true):FunT K x qual st f (PySem.W.fnOf x qual (defArgs st) (defBody st) (defScope st) .none kV doc pm an (.ref c) ct) c P:=⟨⟨oc,od,kV,doc,pm,an,ct,osl,rfl,l,cd⟩,k,h⟩
end
theorem tab_lookup:∀{tabs:List (Addr × Array Value)} {q:Addr × Array Value},(tabs.map (·.1)).Nodup→q∈tabs→tabs.lookup q.1=some q.2
 |[],_,_,h=>nomatch h
 |p::r,q,nd,h=>by
  obtain⟨n1,n2⟩:=List.nodup_cons.mp nd
  rw [show(p::r).lookup q.1=_ from List.lookup_cons]
  rcases List.mem_cons.mp h with rfl|hq
  ·rw [beq_self_eq_true]
  ·have:(q.1==p.1)=false:=beq_eq_false_iff_ne.mpr fun z=>n1 (List.mem_map.mpr ⟨q,hq,z⟩)
   rw [this];exact tab_lookup n2 hq
theorem tab_mem{b:Addr}{ps:Array Value}:∀{tabs:List (Addr × Array Value)},tabs.lookup b=some ps→(b,ps)∈tabs
 |[],h=>nomatch h
 |p::r,h=>by
  rw [show(p::r).lookup b=_ from List.lookup_cons] at h
  cases q:b==p.1 with
  |true=>rw [q] at h;cases h;rw [eq_of_beq q];exact .head _
  |false=>rw [q] at h;exact .tail _ (tab_mem h)
theorem law_callT{P:Program}{w:World}{K:PySem.W.Frag}{mg mb:Str→Option Value}{CX:CXT}{k:Nat}{fa a:Addr}{fd:FuncData}{x:Str}{sp:Sp}{s₁:Shared}{vs:List Value}{ns:List Int}{tabs:List (Addr × Array Value)}
  (KX:K.In s₁.heap) (hns:s₁.heap.Ns mainGlobals mg) (hb:s₁.heap.Ns builtinsNs mb) (hbb:∀x:Str,x≠"__name__"→mb x=bootBuiltins x) (hlim:s₁.heap.NoLimit) (hbm:∃bm ob,mg "__builtins__"=some (.ref bm)∧bm≠builtinsNs∧s₁.heap.get? bm=some ob∧ob.cls=.type "module"∧ob.dict=some builtinsNs∧ob.data=.plain) (hg:s₁.gens=#[])
  (ha:s₁.heap.get? a=some { cls:=.type "list",data:=.seq vs.toArray }) (hi:IntsAre vs ns) (hl:ns.length≤sizeLine) (hr:Room k callerA)
  (hT:∀q∈tabs,s₁.heap.get? q.1=some (PySem.W.tabObj #[])∧isCodeTable s₁.heap q.1) (hnd:(tabs.map (·.1)).Nodup) (hNT:PySem.W.noTabs K=true)
  (F:∀base:Heap,K.In base→base.Ns mainGlobals mg→FnOk P w K mg base CX k fa fd [x] sp) (hbind:∀(s:Shared) (u:Value),BindsTo s fd ⟨[u],[]⟩ [(x,u)])
  (hsp:∀H:Hp,(∀q∈tabs,H q.1=some (.tbl q.2))→SqL K H a (ns.map V.int)→sp [.ref a] H (fun v _=>v=.bl true) fun _ _ _=>False)
  (hCX:∀H e s',CX [] H s₁ (fun _ _ _=>False) e s'→False) :
  codeAny (model P w) callerA (.call (.ref fa) ⟨[.ref a],[]⟩) (fun r s'=>r=.ok (.ret (.bool true))∧OldK s₁.heap s'.heap∧s'.os=s₁.os∧AllBare s'.gens) s₁:=by
 have rv:=vals_ints hi
 have lenV:=hi.length
 have core:∀H:Hp,(∀q∈tabs,H q.1=some (.tbl q.2))→SqL K H a (ns.map V.int)→HOk P w H s₁.heap→(∀b u,H b=some u→(b=a∧K.lookup a=none∧∃o xs,u=.frz o (.lst xs))∨∃ps,(b,ps)∈tabs∧u=.tbl ps) →
   codeAny (model P w) callerA (.call (.ref fa) ⟨[.ref a],[]⟩) (fun r s'=>r=.ok (.ret (.bool true))∧OldK s₁.heap s'.heap∧s'.os=s₁.os∧AllBare s'.gens) s₁:=by
  intro H hO hS hok hA
  have base_of:∀{b:Addr} {o:Obj},s₁.heap.get? b=some o→H b=none→(hidT s₁.heap H).get? b=some o:=fun e n=>hidT_get e n
  have no:∀{b:Addr} {o:Obj},s₁.heap.get? b=some o→(∀its n,o.data≠.seq its n)→(∀vs,o.data≠.fields vs)→H b=none:=fun {b o} e d1 d2=>by
   cases q:H b with
   |none=>rfl
   |some u =>
    rcases hA b u q with ⟨rfl,_⟩|⟨ps,hp,_⟩
    ·rw [ha] at e;cases e
     exact absurd rfl (d1 _ _)
    ·rw [(hT _ hp).1] at e;cases e
     exact absurd rfl (d2 _)
  have nsK:∀{b:Addr} {m:Str→Option Value},s₁.heap.Ns b m→(hidT s₁.heap H).Ns b m:=fun {b m} ⟨o,es,ep,e,d,r⟩=>⟨o,es,ep,base_of e (no e (fun _ _ z=>by rw [d] at z;cases z) (fun _ z=>by rw [d] at z;cases z)),d,r⟩
  have hKb:K.In (hidT s₁.heap H):=fun b o e=>base_of (KX b o e) (by
   cases q:H b with
   |none=>rfl
   |some u =>
    rcases hA b u q with ⟨rfl,z,_⟩|⟨ps,hp,_⟩
    ·rw [z] at e;cases e
    ·have e1:=KX b o e
     rw [(hT _ hp).1] at e1;cases e1
     exact absurd (show false=true from List.all_eq_true.mp hNT _ (PySem.W.mem_of_lookupK e)) Bool.false_ne_true)
  have hM:Mod K mg (hidT s₁.heap H):=⟨hKb,nsK hns,⟨mb,nsK hb,hbb⟩,let ⟨mc,h1,h2⟩:=hlim;⟨mc,nsK h1,h2⟩,let ⟨bm,ob,b1,b2,b3,b4,b5,b6⟩:=hbm;⟨bm,ob,b1,b2,base_of b3 (no b3 (fun _ _ z=>by rw [b6] at z;cases z) (fun _ z=>by rw [b6] at z;cases z)),b4,b5,b6⟩⟩
  have e0:Env0 P w K mg (hidT s₁.heap H) callerA [] s₁ H:=⟨rfl,hM,fun b o e=>of_hidT e,Nat.le_of_eq (hidT_size _ _),trivial,fun b hb=>absurd (show b∈([]:List Addr) from hb) (by simp),hok,.of_eq hg⟩
  refine codeAny_mono ((F _ hKb (nsK hns)).run callerA [] s₁ H ⟨[.ref a],[]⟩ [.ref a] [.ref a] _ _ hr e0 (hbind s₁ (.ref a)) (.cons rfl .nil) (hsp H hO hS)) fun r s' h=>?_
  cases r with
  |error e=>exact(hCX H e s' h).elim
  |ok fl =>
   cases fl with
   |next=>exact False.elim h
   |brk=>exact False.elim h
   |cont=>exact False.elim h
   |ret u =>
    obtain⟨v,H',os,bare,un,hok',r',q⟩:=h
    have q':v=.bl true:=q
    subst q'
    obtain rfl:u=Value.bool true:=r'
    have fin:∀b o,s₁.heap.get? b=some o→(s'.heap.get? b=some o)∨(isCodeTable s₁.heap b∧o=PySem.W.tabObj #[]∧∃tb,s'.heap.get? b=some (PySem.W.tabObj tb)):=fun b o e=>by
     cases q:H b with
     |none=>exact .inl (un.keep b o e q (by intro z;exact absurd (show b∈([]:List Addr) from z) (by simp)) (by simp))
     |some u =>
      rcases hA b u q with ⟨rfl,_,ob,xs,rfl⟩|⟨ps,hp,rfl⟩
      ·have z2:=un.frzs b ob _ q
       obtain⟨e1,_⟩:=hok b _ q
       obtain⟨e2,_⟩:=hok' b _ z2
       rw [e] at e1;cases e1
       exact .inl e2
      ·obtain⟨more,z⟩:=un.tbls b ps q
       obtain⟨tb,e2,_⟩:=hok' b _ z
       have e3:=(hT _ hp).1
       rw [e] at e3;cases e3
       exact .inr ⟨(hT _ hp).2,rfl,tb,e2⟩
    refine⟨rfl,⟨fun b o e=>?_,fun b o e=>?_⟩,os,bare⟩
    ·rcases fin b o e with z|⟨z,rfl,tb,z2⟩
     ·exact .inl z
     ·exact .inr (.inl ⟨z,rfl,#[],tb,rfl,by rw [Array.empty_append];exact z2⟩)
    ·rcases fin b o e with z|⟨z,rfl,tb,z2⟩
     ·exact⟨_,z⟩
     ·exact⟨_,z2⟩
 have lk:∀q∈tabs,tabs.lookup q.1=some q.2:=fun q hq=>tab_lookup hnd hq
 have lm:∀b ps,tabs.lookup b=some ps→(b,ps)∈tabs:=fun b ps h=>tab_mem h
 have na:∀q∈tabs,q.1≠a:=fun q hq z=>by
  have e:=(hT q hq).1
  rw [z,ha] at e;cases e
 have tok:∀{H:Hp} {b:Addr} {ps:Array Value},(b,ps)∈tabs→ObjOk P w H s₁.heap b (.tbl ps):=fun {H b ps} hp=>⟨#[],(hT _ hp).1,trivial,fun _ _ _ _ z=>nomatch z⟩
 cases hk:K.lookup a with
 |some o =>
  have e:=KX a o hk
  rw [ha] at e
  cases e
  refine core (fun b=>(tabs.lookup b).map .tbl) (fun q hq=>by rw [lk q hq];rfl) (.inr ⟨_,vs.toArray,_,hk,rfl,rfl,rfl,by rw [List.size_toArray,lenV];exact hl,by simpa using rv⟩) (fun b u z=>?_) (fun b u z=>?_)
  ·obtain⟨ps,h1,rfl⟩:=Option.map_eq_some_iff.mp z
   exact tok (lm b ps h1)
  ·obtain⟨ps,h1,rfl⟩:=Option.map_eq_some_iff.mp z
   exact .inr ⟨ps,lm b ps h1,rfl⟩
 |none =>
  refine core (fun b=>if b=a then some (.frz { cls:=.type "list",data:=.seq vs.toArray } (.lst (ns.map V.int))) else (tabs.lookup b).map .tbl) (fun q hq=>(if_neg (na q hq)).trans (by rw [lk q hq];rfl)) (.inl (.inr ⟨{ cls:=.type "list",data:=.seq vs.toArray },if_pos rfl⟩)) (fun b u z=>?_) (fun b u z=>?_)
  ·by_cases hb:b=a
   ·have z':=(if_pos hb).symm.trans z
    cases z'
    subst hb
    exact⟨ha,by rw [List.length_map];exact hl,vs,_,rv,ha⟩
   ·have z':=(if_neg hb).symm.trans z
    obtain⟨ps,h1,rfl⟩:=Option.map_eq_some_iff.mp z'
    exact tok (lm b ps h1)
  ·by_cases hb:b=a
   ·have z':=(if_pos hb).symm.trans z
    cases z'
    exact .inl ⟨hb,hk,_,_,rfl⟩
   ·have z':=(if_neg hb).symm.trans z
    obtain⟨ps,h1,rfl⟩:=Option.map_eq_some_iff.mp z'
    exact .inr ⟨ps,lm b ps h1,rfl⟩
def TabsOf(q:Program)(K:PySem.W.Frag)(tabs:List (Addr × Array Value)):Prop:=∀t∈tabs,∃(x:Str) (c:Addr) (d:DefRec),PySem.W.tabIn K x=some (c,t.1)∧(recsOf q).find? (fun e=>e.name==x)=some d
theorem walk_ofT{l:PySem.W.OpenLaw}{n k:Nat}{q:Program}{loose:List Str}{XP:(Str→Option Value)→Heap→Prop}{YP:World→Heap→Prop}{d:DefRec}{K:Params→PySem.W.Frag}{CX:World→CXT}{x:Str}
  (hn:l.most=some n) (hn2:n≤sizeLine) (hdf:d.params.defaults=[]) (hr:Room k callerA)
  (hY:∀(w:World) (h:Heap),YP w h→(K w.params).In h)
  (F:∀(w:World) (mg:Str→Option Value) (fa:Addr) (h:Heap),(K w.params).In h→h.Ns mainGlobals mg→mg d.name=some (.ref fa) →
   ∃(fd:FuncData) (tabs:List (Addr × Array Value)) (sp:Sp),(∀(s:Shared) (u:Value),BindsTo s fd ⟨[u],[]⟩ [(x,u)])∧TabsOf q (K w.params) tabs∧(tabs.map (·.1)).Nodup∧PySem.W.noTabs (K w.params)=true ∧
    (∀base:Heap,(K w.params).In base→base.Ns mainGlobals mg→FnOk l.prog w (K w.params) mg base (CX w) k fa fd [x] sp) ∧
    ∀(H:Hp) (a:Addr) (ns:List Int),ns.length≤n→(∀t∈tabs,H t.1=some (.tbl t.2))→SqL (K w.params) H a (ns.map V.int)→sp [.ref a] H (fun v _=>v=.bl true) fun _ _ _=>False)
  (hCX:∀(w:World) (H:Hp) (s:Shared) (e:Value) (s':Shared),CX w [] H s (fun _ _ _=>False) e s'→False) :
  PySem.W.WalkO q loose XP YP l.row.toRowW d [] (fun f vs=>PySem.call f vs):=by
 refine Att.attach_call hn hdf fun w s₀ s₁ mg mb fa o pm cd doc a vs ns G Y ho hd hcd hmg hobj hints hlen hg=>?_
 have KX:=hY w _ Y
 obtain⟨fd,tabs,sp,hb,hT,hnd,hNT,hF,hsp⟩:=F w mg fa _ KX G.T.g hmg
 exact law_callT KX G.T.g G.T.b G.T.builtins G.T.nolimit G.T.bmain hg hobj hints (Nat.le_trans hlen hn2) hr (fun t ht=>by
  obtain⟨x,c,d,h1,h2⟩:=hT t ht
  obtain⟨z1,z2⟩:=PySem.W.tab_of G.T KX h2 h1
  exact⟨z2,(z1.tab z2).isCodeTable⟩) hnd hNT hF hb (fun H hO hS=>hsp H a ns hlen hO hS) fun H e s'=>hCX w H s₁ e s'
end L2
namespace L2
open PySem PySem.Spec PyProof.Rows
def SI(b:Bool)(h:Heap)(j l:Addr)(n:Nat):Prop:=match b with
 |true=>h.IsListIter j l n
 |false=>h.IsTupleIter j l n
def SQ(b:Bool)(h:Heap)(l:Addr)(its:Array Value):Prop:=match b with
 |true=>h.IsList l its
 |false=>h.IsTuple l its
theorem SI.get{b:Bool}{h:Heap}{j l:Addr}{n:Nat}(x:SI b h j l n):∃o vs,h.get? j=some o∧o.data=.fields vs:=by
 cases b with
 |true=>obtain⟨o,e,_,d⟩:=x;exact⟨o,_,e,d⟩
 |false=>obtain⟨o,e,_,d⟩:=x;exact⟨o,_,e,d⟩
theorem SI.up{b:Bool}{h h':Heap}{j l:Addr}{n:Nat}(x:SI b h j l n)(k:∀o,h.get? j=some o→h'.get? j=some o):SI b h' j l n:=by
 cases b with
 |true=>obtain⟨o,e,r⟩:=x;exact⟨o,k o e,r⟩
 |false=>obtain⟨o,e,r⟩:=x;exact⟨o,k o e,r⟩
theorem SQ.up{b:Bool}{h h':Heap}{l:Addr}{its:Array Value}(x:SQ b h l its)(k:∀o,h.get? l=some o→h'.get? l=some o):SQ b h' l its:=by
 cases b with
 |true=>obtain⟨o,e,r⟩:=x;exact⟨o,k o e,r⟩
 |false=>obtain⟨o,e,r⟩:=x;exact⟨o,k o e,r⟩
section
variable{P:Program}{w:World}{A:Around}{E:Value→Shared→Prop}{s:Shared}{b c:Bool}{z TI TO i1 i2 l1 l2 j l:Addr}{n n2:Nat}{its jts:Array Value}{x y p q:Value}
theorem si_item{Q:Value→Shared→Prop}(h1:SI b s.heap j l n)(h2:SQ b s.heap l its)(e:its[n]?=some x)(g:∀h',SI b h' j l (n+1)→Heap.SameBut j s.heap h'→Q x { s with heap:=h' }):wpAny (model P w) A (Builtin.SmallTypes.nextOf (.ref j)) Q E s:=by
 cases b with
 |true=>exact wpAny_nextOf_list_item h1 h2 e g
 |false=>exact nextT_item h1 h2 e g
theorem si_end{Q:Value→Shared→Prop}(hh:A.handled=none)(h1:SI b s.heap j l n)(h2:SQ b s.heap l its)(e:its[n]?=none) (g:∀h' u,Heap.ExtBut j s.heap h'→(∃o,h'.get? u=some o∧o.cls=.type "StopIteration")→E (.ref u) { s with heap:=h' }):wpAny (model P w) A (Builtin.SmallTypes.nextOf (.ref j)) Q E s:=by
 cases b with
 |true=>exact wpAny_nextOf_list_end hh h1 h2 e g
 |false=>exact nextT_end hh h1 h2 e g
theorem zn_item{Q:Value→Shared→Prop}(D:ZipApart z TI TO i1 i2 l1 l2)(Z:IsZip s.heap z TI TO .none)(T1:IsPair s.heap TI (.ref i1) (.ref i2))(T2:IsPair s.heap TO p q)(h1:SI b s.heap i1 l1 n)(h2:SI c s.heap i2 l2 n2)(g1:SQ b s.heap l1 its)(g2:SQ c s.heap l2 jts)(ex:its[n]?=some x)(ey:jts[n2]?=some y)
  (k:∀h',IsZip h' z TI TO (rawInt s.heap.objs.size)→IsPair h' TO x y→SI b h' i1 l1 (n+1)→SI c h' i2 l2 (n2+1)→IsPair h' s.heap.objs.size x y →
   (∀d o,d≠z→d≠TO→d≠i1→d≠i2→s.heap.get? d=some o→h'.get? d=some o)→Q (.ref s.heap.objs.size) { s with heap:=h' }) :
  wpAny (model P w) A (Builtin.«zip.__next__» ⟨[.ref z],[]⟩) (fun fin s'=>∃v,fin=.done (.ret v)∧Q v s') E s:=by
 show wpAny (model P w) A (field (.ref z) 2 >>= _) _ _ s
 refine wpAny_bind (wpAny_field Z rfl (x:=.bool false) rfl ?_);show wpAny (model P w) A (field (.ref z) 3 >>= _) _ _ s
 refine wpAny_bind (wpAny_field Z rfl (x:=.ref TI) rfl (wpAny_bind (wpAny_seqItems T1 rfl ?_)));show wpAny (model P w) A (Builtin.SmallTypes.ownedTupleIsFree (.ref z) >>= _) _ _ s
 refine wpAny_bind ?_;unfold Builtin.SmallTypes.ownedTupleIsFree
 refine wpAny_bind (wpAny_field Z rfl (x:=.none) rfl (wpAny_pure ?_));simp only [if_true]
 refine wpAny_bind (wpAny_rule (wpAny_bind (wpAny_field Z rfl (x:=.ref TO) rfl (wpAny_bind (wpAny_setField_rec Z (by simp) fun a1 Z1 b1=>?_)))))
 replace Z1:IsZip a1 z TI TO .ellipsis:=Z1
 refine wpAny_bind ?_;simp only [List.zipIdx_cons,List.zipIdx_nil,List.forIn_cons,List.forIn_nil]
 refine wpAny_bind (wpAny_bind (wpAny_onRaise ?_));show wpAny (model P w) A (Builtin.SmallTypes.nextOf (.ref i1) >>= _) _ _ _
 refine wpAny_bind (si_item (h1.up fun o e=>b1.extBut _ _ D.i1z e) (g1.up fun o e=>b1.extBut _ _ D.l1z e) ex fun a2 s1 b2=>wpAny_pure ?_)
 have T3:IsPair a2 TO p q:=b2.extBut _ _ D.TOi1 (b1.extBut _ _ D.TOz T2)
 refine wpAny_bind (wpAny_seqItems T3 rfl (wpAny_bind (wpAny_updateSeq_pair T3 fun a3 T4 b3=>?_)))
 replace T4:IsPair a3 TO x q:=T4
 refine wpAny_bind (wpAny_letGo (wpAny_pure (wpAny_bind (wpAny_bind (wpAny_onRaise ?_)))));show wpAny (model P w) A (Builtin.SmallTypes.nextOf (.ref i2) >>= _) _ _ _
 refine wpAny_bind (si_item (h2.up fun o e=>b3.extBut _ _ D.TOi2.symm (b2.extBut _ _ D.i12.symm (b1.extBut _ _ D.i2z e))) (g2.up fun o e=>b3.extBut _ _ D.l2TO (b2.extBut _ _ D.l2i1 (b1.extBut _ _ D.l2z e))) ey fun a4 s2 b4=>wpAny_pure ?_)
 have T5:IsPair a4 TO x q:=b4.extBut _ _ D.TOi2 T4
 refine wpAny_bind (wpAny_seqItems T5 rfl (wpAny_bind (wpAny_updateSeq_pair T5 fun a5 T6 b5=>?_)))
 replace T6:IsPair a5 TO x y:=T6
 refine wpAny_bind (wpAny_letGo (wpAny_pure (wpAny_pure (wpAny_bind (wpAny_seqItems T6 rfl (wpAny_bind (wpAny_newTuple ?_)))))))
 have hz:a5.objs.size=s.heap.objs.size:=b5.1.trans (b4.1.trans (b3.1.trans (b2.1.trans b1.1)))
 have Z5:IsZip a5 z TI TO .ellipsis:=b5.extBut _ _ D.TOz.symm (b4.extBut _ _ D.i2z.symm (b3.extBut _ _ D.TOz.symm (b2.extBut _ _ D.i1z.symm Z1)))
 have k5:∀d o,d≠z→d≠TO→d≠i1→d≠i2→s.heap.get? d=some o→a5.get? d=some o:=fun d o c1 c2 c3 c4 e=>b5.extBut _ _ c2 (b4.extBut _ _ c4 (b3.extBut _ _ c2 (b2.extBut _ _ c3 (b1.extBut _ _ c1 e))))
 have s1':SI b a5 i1 l1 (n+1):=s1.up fun o e=>b5.extBut _ _ D.TOi1.symm (b4.extBut _ _ D.i12 (b3.extBut _ _ D.TOi1.symm e))
 have s2':SI c a5 i2 l2 (n2+1):=s2.up fun o e=>b5.extBut _ _ D.TOi2.symm e
 have zl:z < a5.objs.size:=Heap.lt_size Z5
 show wpAny (model P w) A (Builtin.SmallTypes.ownedTupleHandOut (.ref z) (.ref a5.objs.size) >>= _) _ _ _
 refine wpAny_bind ?_;unfold Builtin.SmallTypes.ownedTupleHandOut
 have Z6:IsZip (a5.push { cls:=.type "tuple",data:=.seq #[x,y] }) z TI TO .ellipsis:=Heap.get?_push_of_some _ Z5
 refine wpAny_bind (wpAny_setField_rec Z6 (by simp) fun a7 Z7 b7=>?_)
 replace Z7:IsZip a7 z TI TO (rawInt a5.objs.size):=Z7
 refine wpAny_setField_rec Z7 (by simp) fun a8 Z8 b8=>?_
 replace Z8:IsZip a8 z TI TO (rawInt a5.objs.size):=Z8
 have up:∀d o,d≠z→a5.get? d=some o→a8.get? d=some o:=fun d o c1 e=>b8.extBut _ _ c1 (b7.extBut _ _ c1 (Heap.get?_push_of_some _ e))
 have T8:IsPair a8 a5.objs.size x y:=b8.extBut _ _ (Nat.ne_of_gt zl) (b7.extBut _ _ (Nat.ne_of_gt zl) (Heap.get?_push_size _ rfl))
 rw [hz] at Z8 T8
 refine wpAny_pure ⟨_,rfl,?_⟩;show Q (.ref a5.objs.size) _
 rw [hz]
 exact k a8 Z8 (up _ _ D.TOz T6) (s1'.up fun o e=>up _ o D.i1z e) (s2'.up fun o e=>up _ o D.i2z e) T8 fun d o c1 c2 c3 c4 e=>up d o c1 (k5 d o c1 c2 c3 c4 e)
theorem zn_end{Q:Fin→Shared→Prop}(hh:A.handled=none)(D:ZipApart z TI TO i1 i2 l1 l2)(Z:IsZip s.heap z TI TO .none)(T1:IsPair s.heap TI (.ref i1) (.ref i2))(T2:IsPair s.heap TO p q)(h1:SI b s.heap i1 l1 n)(h2:SI c s.heap i2 l2 n2)(g1:SQ b s.heap l1 its)(g2:SQ c s.heap l2 jts)(en:its[n]?=none∨jts[n2]?=none)
  (k:∀h' u,(∀d o,d≠z→d≠TO→d≠i1→d≠i2→s.heap.get? d=some o→h'.get? d=some o)→(∃o,h'.get? u=some o∧o.cls=.type "StopIteration")→E (.ref u) { s with heap:=h' }) :
  wpAny (model P w) A (Builtin.«zip.__next__» ⟨[.ref z],[]⟩) Q E s:=by
 show wpAny (model P w) A (field (.ref z) 2 >>= _) _ _ s
 refine wpAny_bind (wpAny_field Z rfl (x:=.bool false) rfl ?_);show wpAny (model P w) A (field (.ref z) 3 >>= _) _ _ s
 refine wpAny_bind (wpAny_field Z rfl (x:=.ref TI) rfl (wpAny_bind (wpAny_seqItems T1 rfl ?_)));show wpAny (model P w) A (Builtin.SmallTypes.ownedTupleIsFree (.ref z) >>= _) _ _ s
 refine wpAny_bind ?_;unfold Builtin.SmallTypes.ownedTupleIsFree
 refine wpAny_bind (wpAny_field Z rfl (x:=.none) rfl (wpAny_pure ?_));simp only [if_true]
 refine wpAny_bind (wpAny_rule (wpAny_bind (wpAny_field Z rfl (x:=.ref TO) rfl (wpAny_bind (wpAny_setField_rec Z (by simp) fun a1 Z1 b1=>?_)))))
 replace Z1:IsZip a1 z TI TO .ellipsis:=Z1
 refine wpAny_bind ?_;simp only [List.zipIdx_cons,List.zipIdx_nil,List.forIn_cons,List.forIn_nil]
 refine wpAny_bind (wpAny_bind (wpAny_onRaise ?_));show wpAny (model P w) A (Builtin.SmallTypes.nextOf (.ref i1) >>= _) _ _ _
 cases ex:its[n]? with
 |none =>
  refine wpAny_bind (si_end hh (h1.up fun o e=>b1.extBut _ _ D.i1z e) (g1.up fun o e=>b1.extBut _ _ D.l1z e) ex fun a2 u b2 he=>?_)
  obtain⟨oe,e1,e2⟩:=he
  have Z2:IsZip a2 z TI TO .ellipsis:=b2 _ _ D.i1z.symm Z1
  have uz:u≠z:=fun t=>by subst t;rw [Z2] at e1;cases e1;simp at e2
  exact wpAny_setField_rec Z2 (by simp) fun a3 _ b3=>k a3 u (fun d o c1 _ c3 _ t=>b3.extBut _ _ c1 (b2 _ _ c3 (b1.extBut _ _ c1 t))) ⟨oe,b3.extBut _ _ uz e1,e2⟩
 |some x =>
  have ey:jts[n2]?=none:=by rcases en with t|t;rw [ex] at t;cases t;exact t
  refine wpAny_bind (si_item (h1.up fun o e=>b1.extBut _ _ D.i1z e) (g1.up fun o e=>b1.extBut _ _ D.l1z e) ex fun a2 s1 b2=>wpAny_pure ?_)
  have T3:IsPair a2 TO p q:=b2.extBut _ _ D.TOi1 (b1.extBut _ _ D.TOz T2)
  refine wpAny_bind (wpAny_seqItems T3 rfl (wpAny_bind (wpAny_updateSeq_pair T3 fun a3 T4 b3=>?_)))
  refine wpAny_bind (wpAny_letGo (wpAny_pure (wpAny_bind (wpAny_bind (wpAny_onRaise ?_)))));show wpAny (model P w) A (Builtin.SmallTypes.nextOf (.ref i2) >>= _) _ _ _
  refine wpAny_bind (si_end hh (h2.up fun o e=>b3.extBut _ _ D.TOi2.symm (b2.extBut _ _ D.i12.symm (b1.extBut _ _ D.i2z e))) (g2.up fun o e=>b3.extBut _ _ D.l2TO (b2.extBut _ _ D.l2i1 (b1.extBut _ _ D.l2z e))) ey fun a4 u b4 he=>?_)
  obtain⟨oe,e1,e2⟩:=he
  have Z4:IsZip a4 z TI TO .ellipsis:=b4 _ _ D.i2z.symm (b3.extBut _ _ D.TOz.symm (b2.extBut _ _ D.i1z.symm Z1))
  have uz:u≠z:=fun t=>by subst t;rw [Z4] at e1;cases e1;simp at e2
  exact wpAny_setField_rec Z4 (by simp) fun a5 _ b5=>k a5 u (fun d o c1 c2 c3 c4 t=>b5.extBut _ _ c1 (b4 _ _ c4 (b3.extBut _ _ c2 (b2.extBut _ _ c3 (b1.extBut _ _ c1 t))))) ⟨oe,b5.extBut _ _ uz e1,e2⟩
end
section
variable{P:Program}{w:World}{A:Around}{E:Value→Shared→Prop}{s:Shared}{b c:Bool}{z TI TO i1 i2 l1 l2:Addr}{n:Nat}{its jts:Array Value}{x y p q:Value}
theorem zn_next{Q:Option Value→Shared→Prop}(D:ZipApart z TI TO i1 i2 l1 l2)(Z:IsZip s.heap z TI TO .none)(T1:IsPair s.heap TI (.ref i1) (.ref i2))(T2:IsPair s.heap TO p q)(h1:SI b s.heap i1 l1 n)(h2:SI c s.heap i2 l2 n)(g1:SQ b s.heap l1 its)(g2:SQ c s.heap l2 jts)(ex:its[n]?=some x)(ey:jts[n]?=some y)
  (k:∀h',IsZip h' z TI TO (rawInt s.heap.objs.size)→IsPair h' TO x y→SI b h' i1 l1 (n+1)→SI c h' i2 l2 (n+1)→IsPair h' s.heap.objs.size x y →
   (∀d o,d≠z→d≠TO→d≠i1→d≠i2→s.heap.get? d=some o→h'.get? d=some o)→Q (some (.ref s.heap.objs.size)) { s with heap:=h' }):wpAny (model P w) A (pyNext (.ref z)) Q E s:=by
 have hT:s.TypeIs (.ref z) "zip":=⟨_,Z,rfl⟩
 unfold pyNext
 exact wpAny_bind (wpAny_attempt (wpAny_callSpecial?_slot (name:=Str.ofString "__next__") hT F.slot_zip_next (wpAny_call_entry F.slot_zip_next hT F.entry_zip_next (zn_item D Z T1 T2 h1 h2 g1 g2 ex ey fun h' a1 a2 a3 a4 a5 a6=>wpAny_pure (k h' a1 a2 a3 a4 a5 a6)) (F.args_zip_next_1 _))))
theorem zn_stop{Q:Option Value→Shared→Prop}(hh:A.handled=none)(D:ZipApart z TI TO i1 i2 l1 l2)(Z:IsZip s.heap z TI TO .none)(T1:IsPair s.heap TI (.ref i1) (.ref i2))(T2:IsPair s.heap TO p q)(h1:SI b s.heap i1 l1 n)(h2:SI c s.heap i2 l2 n)(g1:SQ b s.heap l1 its)(g2:SQ c s.heap l2 jts)(en:its[n]?=none∨jts[n]?=none)
  (k:∀h',(∀d o,d≠z→d≠TO→d≠i1→d≠i2→s.heap.get? d=some o→h'.get? d=some o)→Q none { s with heap:=h' }):wpAny (model P w) A (pyNext (.ref z)) Q E s:=by
 have hT:s.TypeIs (.ref z) "zip":=⟨_,Z,rfl⟩
 unfold pyNext
 refine wpAny_bind (wpAny_attempt (wpAny_callSpecial?_slot (name:=Str.ofString "__next__") hT F.slot_zip_next (wpAny_call_entry F.slot_zip_next hT F.entry_zip_next (zn_end hh D Z T1 T2 h1 h2 g1 g2 en fun h' u hk he=>?_) (F.args_zip_next_1 _))))
 obtain⟨o,ho,hc⟩:=he
 exact wpAny_bind (wpAny_isInstance (T:="StopIteration") (b:=true) ⟨o,ho,hc⟩ isSubtype_stop (wpAny_pure (k _ hk)))
end
def iob(b:Bool)(l:Addr):Obj:={ cls:=.type (match b with|true=>"list_iterator"|false=>"tuple_iterator"),data:=.fields #[.ref l,.int 0 0] }
def zh2(b c:Bool)(h:Heap)(l1 l2:Addr):Heap:=(h.push (iob b l1)).push (iob c l2)
def zh4(b c:Bool)(h:Heap)(l1 l2:Addr):Heap:=((zh2 b c h l1 l2).push { cls:=.type "tuple",data:=.seq #[.ref h.objs.size,.ref (h.push (iob b l1)).objs.size] }).push { cls:=.type "tuple",data:=.seq #[.none,.none] }
def zh5(b c:Bool)(h:Heap)(l1 l2:Addr):Heap:=(zh4 b c h l1 l2).push { cls:=.type "zip",data:=.fields #[.none,.bool false,.bool false,.ref (zh2 b c h l1 l2).objs.size,.ref ((zh2 b c h l1 l2).push { cls:=.type "tuple",data:=.seq #[.ref h.objs.size,.ref (h.push (iob b l1)).objs.size] }).objs.size] }
theorem si_iter{P:Program}{w:World}{A:Around}{E:Value→Shared→Prop}{s:Shared}{b:Bool}{l:Addr}{its:Array Value}{Q:Value→Shared→Prop}(h:SQ b s.heap l its)(k:Q (.ref s.heap.objs.size) { s with heap:=s.heap.push (iob b l) }):wpAny (model P w) A (pyIter (.ref l)) Q E s:=by
 cases b with
 |true=>exact wpAny_pyIter_list h k
 |false=>exact wpAny_pyIter_tuple h k
set_option maxHeartbeats 4000000 in
theorem zn_new(b c:Bool)(l1 l2:Addr)(its jts:Array Value):Meets (Builtin.«zip.__new__» ⟨[.type "zip",.ref l1,.ref l2],[]⟩) (fun _ R s=>SQ b s.heap l1 its∧SQ c s.heap l2 jts∧R (.ok (.ret (.ref (zh4 b c s.heap l1 l2).objs.size))) { s with heap:=zh5 b c s.heap l1 l2 }) :=
 .of_wp fun P w A R s h=>by
  obtain⟨hp,g,d,tk,os⟩:=s
  obtain⟨h1,h2,h⟩:=h
  have hsub:=sub_zip
  have k1:SQ b (Shared.heap ⟨hp,g,d,tk,os⟩) l1 its:=h1
  have k2:SQ c (Shared.heap ⟨hp.push (iob b l1),g,d,tk,os⟩) l2 jts:=h2.up fun o e=>Heap.get?_push_of_some _ e
  wp_walk using si_iter k1,si_iter k2
  exact⟨_,rfl,h⟩
theorem iob_si(b:Bool){h:Heap}{j l:Addr}(e:h.get? j=some (iob b l)):SI b h j l 0:=by
 cases b with
 |true=>exact⟨_,e,rfl,rfl⟩
 |false=>exact⟨_,e,rfl,rfl⟩
theorem call_zip{P:Program}{w:World}{A:Around}{E:Value→Shared→Prop}{s:Shared}{b c:Bool}{l1 l2:Addr}{its jts:Array Value}{Q:Value→Shared→Prop}(g1:SQ b s.heap l1 its)(g2:SQ c s.heap l2 jts)
  (k:∀h',IsZip h' (s.heap.objs.size+4) (s.heap.objs.size+2) (s.heap.objs.size+3) .none→IsPair h' (s.heap.objs.size+2) (.ref s.heap.objs.size) (.ref (s.heap.objs.size+1))→IsPair h' (s.heap.objs.size+3) .none .none →
   SI b h' s.heap.objs.size l1 0→SI c h' (s.heap.objs.size+1) l2 0→(∀d o,s.heap.get? d=some o→h'.get? d=some o)→Q (.ref (s.heap.objs.size+4)) { s with heap:=h' }) :
  wpAny (model P w) A (call (.type "zip") [.ref l1,.ref l2]) Q E s:=by
 refine callType_new F.called_zip (by decide) (F.typeCall_zip_2 _ _) (F.newCall_zip_2 _ _) (fun o=>F.args_object_init_3 o _ _) F.entry_zip_new (zn_new b c l1 l2 its jts) ⟨g1,g2,?_⟩
 have z1:(s.heap.push (iob b l1)).objs.size=s.heap.objs.size+1:=Heap.size_push ..
 have z2:(zh2 b c s.heap l1 l2).objs.size=s.heap.objs.size+2:=by unfold zh2;rw [Heap.size_push,z1]
 have z3:((zh2 b c s.heap l1 l2).push { cls:=.type "tuple",data:=.seq #[.ref s.heap.objs.size,.ref (s.heap.push (iob b l1)).objs.size] }).objs.size=s.heap.objs.size+3:=by rw [Heap.size_push,z2]
 have z4:(zh4 b c s.heap l1 l2).objs.size=s.heap.objs.size+4:=by unfold zh4;rw [Heap.size_push,z3]
 have u5:∀d o,(zh4 b c s.heap l1 l2).get? d=some o→(zh5 b c s.heap l1 l2).get? d=some o:=fun d o e=>by unfold zh5;exact Heap.get?_push_of_some _ e
 have u3:∀d o,(zh2 b c s.heap l1 l2).get? d=some o→(zh4 b c s.heap l1 l2).get? d=some o:=fun d o e=>by unfold zh4;exact Heap.get?_push_of_some _ (Heap.get?_push_of_some _ e)
 have e5:(zh5 b c s.heap l1 l2).get? (zh4 b c s.heap l1 l2).objs.size=some { cls:=.type "zip",data:=.fields #[.none,.bool false,.bool false,.ref (zh2 b c s.heap l1 l2).objs.size,.ref ((zh2 b c s.heap l1 l2).push { cls:=.type "tuple",data:=.seq #[.ref s.heap.objs.size,.ref (s.heap.push (iob b l1)).objs.size] }).objs.size] }:=by unfold zh5;exact Heap.get?_push_size _ rfl
 have e4:(zh5 b c s.heap l1 l2).get? ((zh2 b c s.heap l1 l2).push { cls:=.type "tuple",data:=.seq #[.ref s.heap.objs.size,.ref (s.heap.push (iob b l1)).objs.size] }).objs.size=some { cls:=.type "tuple",data:=.seq #[.none,.none] }:=u5 _ _ (by unfold zh4;exact Heap.get?_push_size _ rfl)
 have e3:(zh5 b c s.heap l1 l2).get? (zh2 b c s.heap l1 l2).objs.size=some { cls:=.type "tuple",data:=.seq #[.ref s.heap.objs.size,.ref (s.heap.push (iob b l1)).objs.size] }:=u5 _ _ (by unfold zh4;exact Heap.get?_push_of_some _ (Heap.get?_push_size _ rfl))
 have e2:(zh5 b c s.heap l1 l2).get? (s.heap.push (iob b l1)).objs.size=some (iob c l2):=u5 _ _ (u3 _ _ (by unfold zh2;exact Heap.get?_push_size _ rfl))
 have e1:(zh5 b c s.heap l1 l2).get? s.heap.objs.size=some (iob b l1):=u5 _ _ (u3 _ _ (by unfold zh2;exact Heap.get?_push_of_some _ (Heap.get?_push_size _ rfl)))
 rw [z2,z3,z4] at e5
 rw [z1,z2] at e3
 rw [z3] at e4
 rw [z1] at e2
 show _∧_
 rw [z4]
 exact⟨⟨_,e5,rfl⟩,k _ e5 e3 e4 (iob_si b e1) (iob_si c e2) fun d o e=>u5 _ _ (u3 _ _ (by unfold zh2;exact Heap.get?_push_of_some _ (Heap.get?_push_of_some _ e)))⟩
def sho(b:Bool)(xs:List V):HO:=match b with
 |true=>.lst xs
 |false=>.tup xs
theorem sho_inj{b:Bool}{xs ys:List V}(h:sho b xs=sho b ys):xs=ys:=by
 cases b<;>(cases h;rfl)
theorem Inv.sho{X:Cx}{pins:List (Addr × Obj)}{σ:St}{H:Hp}{s:Shared}{b:Bool}{l:Addr}{xs:List V}(I:Inv X pins σ H s)(h:H l=some (L2.sho b xs)):∃its:List Value,Vals xs its∧SQ b s.heap l its.toArray:=by
 cases b with
 |true=>obtain⟨its,r,p,_⟩:=I.list (SqL.of h);exact⟨its,r,p.isList⟩
 |false=>obtain⟨its,r,p,_⟩:=I.tuple (SqT.of h);exact⟨its,r,(show s.heap.IsTuple l its.toArray from p)⟩
def Itq(b c:Bool)(l1 l2:Addr):It :=
  ⟨fun i H=>∃xs ys x y,H l1=some (sho b xs)∧H l2=some (sho c ys)∧xs[i]?=some x∧ys[i]?=some y,
   fun i H v H'=>∃p x y,H p=none∧v=.ref p∧H'=upd H p (.tup [x,y])∧(∀xs,H l1=some (sho b xs)→xs[i]?=some x)∧∀ys,H l2=some (sho c ys)→ys[i]?=some y,
   fun i H=>∃xs ys,H l1=some (sho b xs)∧H l2=some (sho c ys)∧(xs.length≤i∨ys.length≤i)⟩
theorem turn_zipQ{P:Program}{w:World}{K:PySem.W.Frag}{es:List Expr}{k:Nat}{pos:Pos}(b c:Bool)(l1 l2 z TI TO i1 i2:Addr)(D:ZipFp z TI TO i1 i2) :
  Turn P w K (.Tuple es k pos) (Itq b c l1 l2) [z,TI,TO,i1,i2] z (fun i h=>IsZip h z TI TO .none∧IsPair h TI (.ref i1) (.ref i2)∧(∃u v,IsPair h TO u v)∧SI b h i1 l1 i∧SI c h i2 l2 i) where
 mem:=by simp
 obj:=fun i h st d hd=>by
  obtain⟨Z,T1,⟨u,v,T2⟩,h1,h2⟩:=st
  obtain⟨o1,v1,e1,d1⟩:=h1.get
  obtain⟨o2,v2,e2,d2⟩:=h2.get
  simp only [List.mem_cons,List.not_mem_nil,or_false] at hd
  rcases hd with rfl|rfl|rfl|rfl|rfl
  ·exact⟨_,Z,fun v z=>by cases z⟩
  ·exact⟨_,T1,fun v z=>by cases z⟩
  ·exact⟨_,T2,fun v z=>by cases z⟩
  ·exact⟨o1,e1,fun v z=>by rw [d1] at z;cases z⟩
  ·exact⟨o2,e2,fun v z=>by rw [d2] at z;cases z⟩
 keep:=fun i h h' st k=>by
  obtain⟨Z,T1,⟨u,v,T2⟩,h1,h2⟩:=st
  exact⟨k z (by simp) _ Z,k TI (by simp) _ T1,⟨u,v,k TO (by simp) _ T2⟩,h1.up fun o e=>k i1 (by simp) o e,h2.up fun o e=>k i2 (by simp) o e⟩
 item:=by
  intro X hP hw hK hc i pins s σ H E I hf st hg
  subst hP hw hK
  obtain⟨Z,T1,⟨a,a',T2⟩,h1,h2⟩:=st
  obtain⟨xs,ys,x,y,q1,q2,hx,hy⟩:=hg
  obtain⟨its,rv,p1⟩:=I.sho q1
  obtain⟨jts,rw',p2⟩:=I.sho q2
  obtain⟨u,hu,ru⟩:=rv.get hx
  obtain⟨v,hv,rv2⟩:=rw'.get hy
  have ne:∀d∈[z,TI,TO,i1,i2],l1≠d∧l2≠d:=fun d hd=>⟨fun t=>(by rw [t,(hf d hd).1] at q1;cases q1),fun t=>(by rw [t,(hf d hd).1] at q2;cases q2)⟩
  have lt:∀d∈[z,TI,TO,i1,i2],d < s.heap.objs.size:=fun d hd=>by
   obtain⟨o1,_,e1,_⟩:=h1.get
   obtain⟨o2,_,e2,_⟩:=h2.get
   simp only [List.mem_cons,List.not_mem_nil,or_false] at hd
   rcases hd with rfl|rfl|rfl|rfl|rfl
   ·exact Heap.lt_size Z
   ·exact Heap.lt_size T1
   ·exact Heap.lt_size T2
   ·exact Heap.lt_size e1
   ·exact Heap.lt_size e2
  have DD:ZipApart z TI TO i1 i2 l1 l2:=⟨D.TIz,D.TOz,D.i1z,D.i2z,D.TITO,D.TIi1,D.TIi2,D.TOi1,D.TOi2,D.i12,(ne z (by simp)).1,(ne TO (by simp)).1,(ne i1 (by simp)).1,(ne i2 (by simp)).1,(ne z (by simp)).2,(ne TO (by simp)).2,(ne i1 (by simp)).2,(ne i2 (by simp)).2⟩
  refine zn_next DD Z T1 T2 h1 h2 p1 p2 (x:=u) (y:=v) (by simpa using hu) (by simpa using hv) fun h3 z3 o3 j1 j2 t3 k3=>⟨_,rfl,wpAny_letOwnedTupleGo_zip z3 fun h4 z4 b4=>?_⟩
  have t4:h4.get? s.heap.objs.size=some { cls:=.type "tuple",data:=.seq #[u,v] }:=(b4.2 _ (Nat.ne_of_gt (lt z (by simp)))).trans t3
  have hn:H s.heap.objs.size=none:=I.hok.fresh (Nat.le_refl _)
  have I4:Inv X pins σ (upd H s.heap.objs.size (.tup [x,y])) { s with heap:=h4,toks:=s.toks }:=I.turnedL (fp:=[z,TI,TO,i1,i2]) (fun d ob hd t=>by
    simp only [List.mem_cons,List.not_mem_nil,or_false,not_or] at hd
    exact(b4.2 d hd.1).trans (k3 d ob hd.1 hd.2.2.1 hd.2.2.2.1 hd.2.2.2.2 t)) hf (Nat.le_refl _) ⟨by show 2≤sizeLine;decide,[u,v],.cons ru (.cons rv2 .nil),_,t4,rfl,_,rfl⟩
  refine⟨.ref s.heap.objs.size,_,I4,rfl,⟨_,x,y,hn,rfl,rfl,fun xs' h'=>by rw [q1] at h';rw [←sho_inj (Option.some.inj h')];exact hx,fun ys' h'=>by rw [q2] at h';rw [←sho_inj (Option.some.inj h')];exact hy⟩,
   ⟨z4,(b4.2 TI D.TIz).trans (k3 TI _ D.TIz D.TITO D.TIi1 D.TIi2 T1),⟨u,v,(b4.2 TO D.TOz).trans o3⟩,j1.up fun o e=>(b4.2 i1 D.i1z).trans e,j2.up fun o e=>(b4.2 i2 D.i2z).trans e⟩,fun d hd=>?_⟩
  rw [upd_ne (Nat.ne_of_lt (lt d hd))]
  exact(hf d hd).1
 done:=by
  intro X hP hw hK hc i pins s σ H E I hf st hg
  subst hP hw hK
  obtain⟨Z,T1,⟨a,a',T2⟩,h1,h2⟩:=st
  obtain⟨xs,ys,q1,q2,hl⟩:=hg
  obtain⟨its,rv,p1⟩:=I.sho q1
  obtain⟨jts,rw',p2⟩:=I.sho q2
  have e1:=rv.length
  have e2:=rw'.length
  have ne:∀d∈[z,TI,TO,i1,i2],l1≠d∧l2≠d:=fun d hd=>⟨fun t=>(by rw [t,(hf d hd).1] at q1;cases q1),fun t=>(by rw [t,(hf d hd).1] at q2;cases q2)⟩
  have DD:ZipApart z TI TO i1 i2 l1 l2:=⟨D.TIz,D.TOz,D.i1z,D.i2z,D.TITO,D.TIi1,D.TIi2,D.TOi1,D.TOi2,D.i12,(ne z (by simp)).1,(ne TO (by simp)).1,(ne i1 (by simp)).1,(ne i2 (by simp)).1,(ne z (by simp)).2,(ne TO (by simp)).2,(ne i1 (by simp)).2,(ne i2 (by simp)).2⟩
  refine zn_stop (I.ok.hd hc) DD Z T1 T2 h1 h2 p1 p2 ?_ fun h' k'=>⟨rfl,I.turnedR (t':=s.toks) (fp:=[z,TI,TO,i1,i2]) (fun d ob hd t=>by
    simp only [List.mem_cons,List.not_mem_nil,or_false,not_or] at hd
    exact k' d ob hd.1 hd.2.2.1 hd.2.2.2.1 hd.2.2.2.2 t) hf⟩
  rcases hl with hl|hl
  ·exact .inl (by simp;omega)
  ·exact .inr (by simp;omega)
 self:=fun _ _ _ _ _ st h=>wpAny_pyIter_zip st.1 h
section
variable{X:Cx}{es:List Expr}{k:Nat}{ps:Pos}
def iZipQ(b c:Bool)(ta:TA):TI:=fun σ H R=>ta σ H fun vs H1=>∃l1 l2 xs ys,vs=[.ref l1,.ref l2]∧H1 l1=some (sho b xs)∧H1 l2=some (sho c ys)∧R (Itq b c l1 l2) H1
theorem pi_zipQ(b c:Bool){l m:Expr}{ta:TA}{p pos:Pos} (hg:Gl X "zip") (hm:X.mg "zip"=none) (ha:PA X [l,m] ta) (hs:starEach [l,m] X.env=(false,eval l X.env)::starEach [m] X.env:=by rfl) (hpl:(backTo pos (starEach [m] X.env)).any (·.1)=false:=by rfl) :
  PI X (.Tuple es k ps) (.Call (.Name "zip" p) [l,m] [] pos) (iZipQ b c ta):=by
 intro pins s σ H R I h
 refine Call_ (ld_blt I hg hm bootZip (PyProof.Rows.callWith_type1 (thn (ha pos pins s σ H _ I h) fun us s1 ⟨vs,H1,I1,r1,q1⟩=>?_) hs hpl))
 obtain⟨l1,l2,xs,ys,e,q1,q2,q⟩:=q1
 subst e
 cases r1 with
 |cons ra rb =>
  cases rb with
  |cons rb rc =>
   cases rc
   cases ra
   cases rb
   obtain⟨its,rv,p1⟩:=I1.sho q1
   obtain⟨jts,rw',p2⟩:=I1.sho q2
   refine call_zip p1 p2 fun h' Z T1 T2 h1 h2 kk=>?_
   have n:∀a b:Nat,a≠b→s1.heap.objs.size+a≠s1.heap.objs.size+b:=fun a b h e=>h (Nat.add_left_cancel e)
   refine wpAny_pyIter_zip (s:={ s1 with heap:=h' }) Z ⟨s1.heap.objs.size+4,[s1.heap.objs.size+4,s1.heap.objs.size+2,s1.heap.objs.size+3,s1.heap.objs.size,s1.heap.objs.size+1],_,_,H1,rfl,I1.kept (t':=s1.toks) kk,
    turn_zipQ b c l1 l2 _ _ _ _ _ ⟨n 2 4 (by decide),n 3 4 (by decide),n 0 4 (by decide),n 1 4 (by decide),n 2 3 (by decide),n 2 0 (by decide),n 2 1 (by decide),n 3 0 (by decide),n 3 1 (by decide),n 0 1 (by decide)⟩,⟨Z,T1,⟨_,_,T2⟩,h1,h2⟩,fun d hd=>?_,q⟩
   have hd':s1.heap.objs.size≤d:=by
    simp only [List.mem_cons,List.not_mem_nil,or_false] at hd
    rcases hd with rfl|rfl|rfl|rfl|rfl<;>first|exact Nat.le_add_right _ _|exact Nat.le_refl _
   exact I1.fpOk hd' (I1.hok.fresh hd')
end
theorem comp_zipQ{b c:Bool}{l1 l2:Addr}{xs ys:List V}{n:Nat}{κ:List Nat}{g:TG}{tc:TT}{te:TE}{σ:St}{H:Hp}{Q:VK}(Pv:Nat→List V→Hp→Prop)(h0:Pv 0 [] H)(hz:xs.length≤sizeLine)(hxy:xs.length=ys.length)(hlen:∀i zs H2,Pv i zs H2→zs.length≤i)
  (hl:∀i zs H2,Pv i zs H2→H2 l1=some (sho b xs)∧H2 l2=some (sho c ys))
  (hs:∀i x y p zs H2 (N:List V→Hp→Prop),(∀zs' H',Pv (i+1) zs' H'→N zs' H')→xs[i]?=some x→ys[i]?=some y→H2 p=none→Pv i zs H2→g (.ref p) (blkSt n κ σ) (upd H2 p (.tup [x,y])) fun σ4 H4=>σ4.drop n=(blkSt n κ σ).drop n∧tc σ4 H4 fun t H5=>if t=true then te σ4 H5 fun v H6=>N (zs++[v]) H6 else N zs H5)
  (hQ:∀zs H2 D,Pv xs.length zs H2→H2 D=none→Q (.ref D) (upd H2 D (.lst zs))):CompRun n κ g tc te σ (Itq b c l1 l2) H Q:=by
 refine⟨fun i m zs H2=>m=xs.length - i∧i≤xs.length∧Pv i zs H2,⟨xs.length,rfl,Nat.zero_le _,h0⟩,?_⟩
 rintro i m zs H2 ⟨rfl,hi,p⟩
 obtain⟨q1,q2⟩:=hl i zs H2 p
 by_cases hlt:i < xs.length
 ·have ex:xs[i]?=some xs[i]:=List.getElem?_eq_getElem hlt
  have ey:ys[i]?=some (ys[i]'(by omega)):=List.getElem?_eq_getElem (by omega)
  refine .inr ⟨⟨xs,ys,_,_,q1,q2,ex,ey⟩,Nat.lt_of_le_of_lt (hlen i zs H2 p) (Nat.lt_of_lt_of_le hlt hz),fun x H3 y=>?_⟩
  obtain⟨a,u,v,ha,rfl,rfl,k1,k2⟩:=y
  exact hs i u v a zs _ (fun zs' H'=>∃m',m' < xs.length - i∧m'=xs.length - (i+1)∧i+1≤xs.length∧Pv (i+1) zs' H') (fun zs' H' p'=>⟨xs.length - (i+1),by omega,rfl,hlt,p'⟩) (k1 xs q1) (k2 ys q2) ha p
 ·obtain rfl:i=xs.length:=by omega
  exact .inl ⟨⟨xs,ys,q1,q2,.inl (Nat.le_refl _)⟩,fun D hD=>hQ zs H2 D p hD⟩
end L2
namespace L2
open PySem PySem.Spec PyProof.Rows
def gLst(K:PySem.W.Frag)(n:Nat)(t:TGs):TG:=fun v σ H Q=>∃a xs,v=.ref a∧SqL K H a xs∧xs.length=n∧t xs σ H Q
theorem pg_lst{X:Cx}{pos:Pos}{es:List Expr}{k:Nat}{t:TGs}{n:Nat}(hc:X.calm=true)(h:PGs X es t)
  (hn:(assignEach es X.env).length=n:=by rfl) (hst:(assignEach es X.env).findIdx? (·.1)=none:=by rfl):PG X (.Tuple es k pos) (gLst X.K n t):=by
 intro pins s σ H v u Q I r hw
 obtain⟨a,xs,e1,hq,hl,hw⟩:=hw
 subst e1
 cases r
 obtain⟨its,rv,ht,hz⟩:=I.list hq
 rw [assign_Tuple]
 refine wpAny_bind (wpAny_standAt ?_)
 unfold unpack
 have hs:(assignEach es X.env).length=its.toArray.size:=by rw [hn,←hl,rv.length,List.size_toArray]
 rw [hs,hst]
 refine wpAny_bind (wpAny_holding (PySem.W.kun_itemsOf (I.ok.hd hc) ht.isList fun h' hx=>?_))
 exact h pins _ σ H xs _ Q (I.kept (t':=s.toks) fun b o e=>hx b o (Nat.ne_of_lt (Heap.lt_size e)) e) (by simpa using rv) hw
end L2
namespace L2
open PySem PySem.Spec PyProof.Rows
def plainE:V→Bool
 |.ref _=>true
 |.int _=>true
 |.str _=>true
 |_=>false
def rSameE(neg:Bool):R2:=fun x y H Q=>∃a b kvs,x=.ref a∧y=.ref b∧H a=some (.dK kvs)∧H b=some (.dK kvs)∧(∀p∈kvs,plainE p.2=true)∧Q (.bl (!neg)) H
theorem eqAt_rel{A:Around}{s:Shared}{v:V}{a b:Value}(h:plainE v=true)(ha:RelV v a)(hb:RelV v b):SeqAt.EqAt A s a b true:=by
 cases v with
 |ref c=>cases ha;cases hb;exact SeqAt.EqAt.same _
 |int i =>
  obtain⟨t,rfl⟩:=ha
  obtain⟨u,rfl⟩:=hb
  have:=SeqAt.EqAt.int_int (A:=A) (s:=s) i t i u
  rw [beq_self_eq_true] at this
  exact this
 |str i =>
  obtain⟨t,rfl⟩:=ha
  obtain⟨u,rfl⟩:=hb
  have:=SeqAt.EqAt.str_str (A:=A) (s:=s) i t i u
  rw [beq_self_eq_true] at this
  exact this
 |_=>cases h
theorem keqE{A:Around}{s:Shared}{kvs:List (Key × V)}{us:List (Key × Value)}(r1:KV kvs us)(hr:∀p∈kvs,plainE p.2=true)(hn:(kvs.map (·.1)).Nodup):∀{l:List (Key × V)} {m:List (Key × Value)},KV l m→(∀p∈l,p∈kvs)→PySem.W.KeqHits A s us m true:=by
 intro l m p
 unfold KV at p
 induction p with
 |nil=>intro _;exact .nil
 |@cons a b as bs h t ih =>
  intro hm
  have ha:=hm a List.mem_cons_self
  have hx:=r1.val a.1
  rw [valV_nodup hn a ha] at hx
  obtain⟨b1,b2⟩:=b
  obtain⟨f1,f2⟩:=h
  have f1':a.1=b1:=f1
  rw [f1'] at hx
  obtain⟨y,hy,ry⟩:=RelO.some_of (v:=a.2) (o:=valueAt us b1) hx
  exact PySem.W.KeqHits.hit (e:=true) (b:=true) hy (eqAt_rel (hr a ha) f2 ry) (ih fun p hp=>hm p (List.mem_cons_of_mem _ hp))
section
variable{X:Cx}
theorem op_neE(hu:X.A.units+1 < cLine):OpR X (compareOp .NotEq) (rSameE true):=by
 intro pins s σ H x y v u Q I rx ry h
 obtain⟨a,b,kvs,rfl,rfl,ha,hb,hr,q⟩:=h
 cases rx
 cases ry
 obtain⟨za,ka,va,ra,da⟩:=dk_of I.hok ha
 obtain⟨zb,kb,vb,rb,db⟩:=dk_of I.hok hb
 refine PySem.W.keq_ne ka kb da db (by omega) (fun _=>keqE (kvs:=kvs) rb hr (dK_nodup I ha) ra fun p hp=>hp) ?_
 rw [←ra.length,←rb.length,beq_self_eq_true]
 exact⟨.bl _,H,I,rfl,q⟩
theorem op_eqE(hu:X.A.units+1 < cLine):OpR X (compareOp .Eq) (rSameE false):=by
 intro pins s σ H x y v u Q I rx ry h
 obtain⟨a,b,kvs,rfl,rfl,ha,hb,hr,q⟩:=h
 cases rx
 cases ry
 obtain⟨za,ka,va,ra,da⟩:=dk_of I.hok ha
 obtain⟨zb,kb,vb,rb,db⟩:=dk_of I.hok hb
 refine PySem.W.keq_eq ka kb da db (by omega) (fun _=>keqE (kvs:=kvs) rb hr (dK_nodup I ha) ra fun p hp=>hp) ?_
 rw [←ra.length,←rb.length,beq_self_eq_true]
 exact⟨.bl _,H,I,rfl,q⟩
end
end L2
namespace K71
open PySem L2
def top(i:Nat):Stmt:=PySem.Challenge.pw_sealhouse_k71_single_expressions.main.body.getD i (.Pass ⟨0,0,0,0⟩)
abbrev sWithin:Stmt:=top 5
abbrev sValue:Stmt:=top 7
abbrev sVar:Stmt:=top 8
abbrev sForm:Stmt:=top 9
abbrev sReck:Stmt:=top 10
abbrev sComp:Stmt:=top 11
abbrev sCell:Stmt:=top 13
abbrev sWhole:Stmt:=top 14
abbrev sAlike:Stmt:=top 15
abbrev sWords:Stmt:=top 16
abbrev sSide:Stmt:=top 17
abbrev sNoted:Stmt:=top 18
abbrev sReckL:Stmt:=top 19
abbrev sCasesL:Stmt:=top 20
abbrev sLaw:Stmt:=top 21
theorem small{n:Nat}(h:n≤1000):n≤sizeLine:=Nat.le_of_lt (small1000 h)
theorem same_new{H:Hp}{p:Addr}(h:H p=none)(o:HO):Same H (upd H p o):=fun b u q=>by rw [upd_ne (ne_of_none q h)];exact q
theorem sput{H H2:Hp}{a:Addr}{o:HO}(e:Same H H2)(h:H a=none):Same H (upd H2 a o):=fun b u q=>by rw [upd_ne (ne_of_none q h)];exact e b u q
end K71
namespace K71
open PySem L2
theorem at_int{ns:List Int}{i:Int}(h0:0≤i)(h1:i < ns.length):∃v:Int,atI (ns.map V.int) i=some (.int v):=by
 have hk:i.toNat < List.length ns:=by omega
 have e:i=((i.toNat:Nat):Int):=by omega
 have q:atI (ns.map V.int) ((i.toNat:Nat):Int)=some (.int ns[i.toNat]):=atI_nat (by simp [hk])
 rw [←e] at q
 exact⟨_,q⟩
def spCell(K:PySem.W.Frag):Sp:=fun vs H Q _=>∃(a:Addr) (ns:List Int) (k:Int),vs=[.ref a,.int k]∧SqL K H a (ns.map V.int)∧ns.length≤63∧0≤k∧k≤1000∧∀c:Int,Q (.int c) H
section
variable{P:Program}{w:World}{K:PySem.W.Frag}{mg:Str→Option Value}{base:Heap}
theorem scCell:FnScope ["_law_script","_law_k","_law_number"] ["_law_script","_law_k"] (defScope sCell):=⟨rfl,rfl,rfl,by decide +kernel,rfl,by decide +kernel,by decide +kernel⟩
theorem ok_cell{f:Addr}{fd:FuncData} (F:Fun K "_law_cell_at" "_law_cell_at" sCell f fd) (ml:mg "len"=none):FnOk P w K mg base CX0 1 f fd ["_law_script","_law_k"] (spCell K):=by
 refine F.ok scCell (fun vs H Q E h=>?_) (fun cdv A outer s H vs Q E hr h=>?_)
 ·obtain⟨a,ns,k,rfl,_⟩:=h
  rfl
 obtain⟨a,ns,k,rfl,hS,h63,h0,h1,q⟩:=h
 refine⟨_,pss_cons (ps_if (pt_cmpR op_lt (pv 1) (pe_callB call_len_seq rfl ml PySem.boot_len (pa_cons (pv 0) pa_nil)) (nomark _))
   (pss_one (ps_ret (pe_ix ix_list (pv 0) (pv 1) (fun _ _=>rfl)))) pss_nil)
  (pss_cons (ps_set (i:=2) scCell.nd rfl (Or.inl rfl) (pe_op op_add (pe_op op_mul pe_int (pv 1)) pe_int))
  (pss_cons (ps_if (pt_cmpR op_gt (pe_callB call_len_seq rfl ml PySem.boot_len (pa_cons (pv 0) pa_nil)) pe_int (nomark _))
   (pss_one (ps_set (i:=2) scCell.nd rfl (Or.inl rfl) (pe_op op_add (pe_op op_mul (pe_op op_mod (pe_ix ix_list (pv 0) (pe_op op_mod (pv 1) (pe_callB call_len_seq rfl ml PySem.boot_len (pa_cons (pv 0) pa_nil))) (fun _ _=>rfl)) pe_int) pe_int) (pe_op op_mul (pe_op op_mul pe_int (pv 1)) (pv 1))))) pss_nil)
  (pss_one (ps_ret (pe_op op_mod (pv 2) pe_int))))),?_⟩
 have hl:(ns.map V.int).length=ns.length:=List.length_map _
 refine⟨_,rfl,_,rfl,a,_,rfl,.inl hS,_,_,rfl,rfl,_,rfl,?_⟩
 refine ite2 (fun c=>?_) (fun c=>?_)
 ·have c':k < (((ns.map V.int).length:Nat):Int):=of_decide_eq_true c
  rw [hl] at c'
  obtain⟨v,hv⟩:=at_int (ns:=ns) h0 c'
  exact⟨_,rfl,_,rfl,a,_,_,_,rfl,rfl,hS,hv,q _⟩
 ·refine⟨_,rfl,_,_,rfl,rfl,.inl ⟨by omega,by omega⟩,_,_,rfl,rfl,?_⟩
  refine⟨_,rfl,a,_,rfl,.inl hS,_,_,rfl,rfl,_,rfl,?_⟩
  refine ite2 (fun d=>?_) (fun d=>?_)
  ·have d':0 < (((ns.map V.int).length:Nat):Int):=of_decide_eq_true d
   rw [hl] at d'
   obtain⟨v,hv⟩:=at_int (ns:=ns) (i:=k%(((ns.map V.int).length:Nat):Int)) (by rw [hl];exact Int.emod_nonneg _ (by omega)) (by rw [hl];exact Int.emod_lt_of_pos _ d')
   refine⟨_,rfl,_,rfl,_,rfl,a,_,rfl,.inl hS,_,_,rfl,rfl,(by rw [hl];exact d'),a,_,_,_,rfl,rfl,hS,hv,?_⟩
   refine⟨_,_,rfl,rfl,(by show(0:Int) < 1000003;decide),_,_,rfl,rfl,.inr ⟨by omega,by omega⟩,_,rfl,_,_,rfl,rfl,.inl ⟨by omega,by omega⟩,_,rfl,_,_,rfl,rfl,.inr ⟨by omega,by omega⟩,_,_,rfl,rfl,?_⟩
   exact⟨_,rfl,_,_,rfl,rfl,(by show(0:Int) < 2147483647;decide),q _⟩
  ·exact⟨_,rfl,_,_,rfl,rfl,(by show(0:Int) < 2147483647;decide),q _⟩
end
abbrev letters:Str:=Str.ofString "abcdefghijklmnopqrstuvwxyz"
def lt(i:Int):Nat:=letters.cps.toList.getD (i%26).toNat 0
theorem l26:letters.cps.toList.length=26:=by decide +kernel
theorem mod26(i:Int):0≤i%26∧i%26 < 26:=⟨Int.emod_nonneg _ (by decide),Int.emod_lt_of_pos _ (by decide)⟩
theorem get_at{α:Type}{xs:List α}{i:Int}{d:α}(h0:0≤i)(h1:i < xs.length):atI xs i=some (xs.getD i.toNat d):=by
 have hk:i.toNat < xs.length:=by omega
 have e:i=((i.toNat:Nat):Int):=by omega
 have q:atI xs ((i.toNat:Nat):Int)=some (xs.getD i.toNat d):=atI_nat (by rw [List.getD_eq_getElem?_getD,List.getElem?_eq_getElem hk]<;>rfl)
 rw [←e] at q
 exact q
theorem at_lt(i:Int):atI letters.cps.toList (i%26)=some (lt i):=get_at (mod26 i).1 (by rw [l26];exact(mod26 i).2)
theorem lt_fin:∀a < 26,∀b < 26,letters.cps.toList.getD a 0=letters.cps.toList.getD b 0→a=b:=by decide +kernel
theorem lt_small:∀a < 26,letters.cps.toList.getD a 0 < 0x110000:=by decide +kernel
theorem lt_inj{i j:Int}(h:lt i=lt j):i%26=j%26:=by
 have h1:=mod26 i
 have h2:=mod26 j
 have:=lt_fin (i%26).toNat (by omega) (j%26).toNat (by omega) h
 omega
theorem lt_ok(i:Int):lt i < 0x110000:=by
 have h1:=mod26 i
 exact lt_small (i%26).toNat (by omega)
def sign(i:Int):Str:=⟨#[lt i]⟩
def sg(c a k j:Int):Int:=c / 432+7*j*j+k*(if decide (V.int j=V.int a)=true then 1 else 0)
def kq(c:Int):Nat:=(Str.ofString "kqz").cps.toList.getD (c / 144%3).toNat 0
theorem k3:(Str.ofString "kqz").cps.toList.length=3:=by decide +kernel
theorem mod3(i:Int):0≤i%3∧i%3 < 3:=⟨Int.emod_nonneg _ (by decide),Int.emod_lt_of_pos _ (by decide)⟩
theorem at_kq(c:Int):atI (Str.ofString "kqz").cps.toList (c / 144%3)=some (kq c):=get_at (mod3 _).1 (by rw [k3];exact(mod3 _).2)
theorem kq_small:∀a < 3,(Str.ofString "kqz").cps.toList.getD a 0 < 0x110000:=by decide +kernel
theorem kq_ok(c:Int):kq c < 0x110000:=by
 have h1:=mod3 (c / 144)
 exact kq_small (c / 144%3).toNat (by omega)
def sgs(c:Int)(k n:Nat):List Str:=(List.range n).map fun(j:Nat)=>sign (sg c (c / 12%(c%12)) (0+(k:Int)) (0+(j:Int)))
def wd(c:Int)(k:Nat):Str:=if c%12=0 then sign (c / 12+(0+(k:Int))) else (⟨#[kq c]⟩:Str)++Txt.join (Str.ofString "") (sgs c k (c%12).toNat)
abbrev cps(x:Str):List Nat:=x.cps.toList
theorem cps_app(a b:Str):cps (a++b)=cps a++cps b:=by
 show(a.cps++b.cps).toList=_
 rw [Array.toList_append]
theorem cps_join0:∀ps:List Str,cps (Str.join (Str.ofString "") ps)=(ps.map cps).flatten
 |[]=>rfl
 |[p]=>by
  show cps p=cps p++[]
  rw [List.append_nil]
 |p::q::r=>by
  have ih:=cps_join0 (q::r)
  show cps (p++Str.ofString ""++Str.join (Str.ofString "") (q::r))=cps p++((q::r).map cps).flatten
  rw [cps_app,cps_app,ih]
  show cps p++[]++_=_
  rw [List.append_nil]
theorem cps_join(ps:List Str):cps (Txt.join (Str.ofString "") ps)=(ps.map cps).flatten:=by
 unfold Txt.join
 rw [StrLaws.glued_eq_join]
 exact cps_join0 ps
theorem flat_one{α β:Type}(g:α→β):∀l:List α,((l.map fun x=>[g x]):List (List β)).flatten=l.map g
 |[]=>rfl
 |x::r=>by
  show [g x]++((r.map fun x=>[g x]):List (List β)).flatten=g x::r.map g
  rw [flat_one g r]
  rfl
theorem cps_sgs(c:Int)(k n:Nat):((sgs c k n).map cps).flatten=(List.range n).map fun(j:Nat)=>lt (sg c (c / 12%(c%12)) (0+(k:Int)) (0+(j:Int))):=by
 unfold sgs
 rw [List.map_map]
 exact flat_one _ _
theorem wd_ne{c:Int}{k j:Nat}(hk:k < 26)(hj:j < 26)(h:wd c k=wd c j):k=j:=by
 unfold wd at h
 by_cases e:c%12=0
 ·rw [if_pos e,if_pos e] at h
  have h1:lt (c / 12+(0+(k:Int)))=lt (c / 12+(0+(j:Int))):=by
   have:=congrArg cps h
   exact(List.cons.inj this).1
  have:=lt_inj h1
  omega
 ·rw [if_neg e,if_neg e] at h
  have h0:=congrArg cps h
  rw [cps_app,cps_app] at h0
  have h1:=List.append_cancel_left h0
  rw [cps_join,cps_join,cps_sgs,cps_sgs] at h1
  have p0:=Int.emod_nonneg c (show(12:Int)≠0 by decide)
  have a0:=Int.emod_nonneg (c / 12) (show(c%12:Int)≠0 by omega)
  have a1:=Int.emod_lt_of_pos (c / 12) (show(0:Int) < c%12 by omega)
  have hn:(c / 12%(c%12)).toNat < (c%12).toNat:=by omega
  have h2:=congrArg (fun l:List Nat=>l[(c / 12%(c%12)).toNat]?) h1
  simp only [List.getElem?_map,List.getElem?_range hn,Option.map_some] at h2
  have h3:=lt_inj (Option.some.inj h2)
  unfold sg at h3
  have ed:decide (V.int (0+(((c / 12%(c%12)).toNat:Nat):Int))=V.int (c / 12%(c%12)))=true:=decide_eq_true (by rw [show 0+(((c / 12%(c%12)).toNat:Nat):Int)=c / 12%(c%12) by omega])
  rw [if_pos ed] at h3
  generalize c / 432+7*(0+(((c / 12%(c%12)).toNat:Nat):Int))*(0+(((c / 12%(c%12)).toNat:Nat):Int))=z at h3
  omega
theorem sok_iff(z:Str):PyData.strOk z=true↔∀c∈z.cps.toList,c < 0x110000:=by
 unfold PyData.strOk
 rw [Array.all_eq_true_iff_forall_mem]
 simp
theorem sok_sign(i:Int):PyData.strOk (sign i)=true:=by
 rw [sok_iff]
 intro d hd
 have:d=lt i:=by simpa [sign] using hd
 rw [this]
 exact lt_ok i
theorem wd_ok(c:Int)(k:Nat):PyData.strOk (wd c k)=true:=by
 unfold wd
 split
 ·exact sok_sign _
 ·rw [sok_iff]
  intro d hd
  have hd':d∈cps ((⟨#[kq c]⟩:Str)++Txt.join (Str.ofString "") (sgs c k (c%12).toNat)):=hd
  rw [cps_app,cps_join,cps_sgs] at hd'
  rcases List.mem_append.mp hd' with q|q
  ·have:d=kq c:=by simpa using q
   rw [this]
   exact kq_ok c
  ·obtain⟨j,_,rfl⟩:=List.mem_map.mp q
   exact lt_ok _
theorem join_len(c:Int)(k n:Nat):((sgs c k n).map (·.length)).sum=n:=by
 unfold sgs
 rw [List.map_map]
 induction n with
 |zero=>rfl
 |succ n ih =>
  rw [List.range_succ,List.map_append,List.sum_append,ih]
  rfl
def spWords(K:PySem.W.Frag):Sp:=fun vs H Q _=>∃(c:Int) (m:Nat),vs=[.int c,.int m]∧m≤26∧∀H' (l:Addr),Same H H'→H' l=some (.lst ((List.range m).map fun k=>.str (wd c k)))→Q (.ref l) H'
abbrev wordsN:List Str:=["_law_cell","_law_many","_law_letters","_law_size","_law_k","_law_at","_law_words_here","_law_signs"]
theorem bootInt:bootBuiltins "int"=some (.type "int"):=by decide +kernel
section
variable{P:Program}{w:World}{K:PySem.W.Frag}{mg:Str→Option Value}{base:Heap}
theorem scWords:FnScope ["_law_cell","_law_many","_law_letters","_law_size","_law_k","_law_at","_law_words_here","_law_signs"] ["_law_cell","_law_many"] (defScope sWords):=⟨rfl,rfl,rfl,by decide +kernel,rfl,by decide +kernel,by decide +kernel⟩
set_option maxHeartbeats 0 in
theorem ok_words{f:Addr}{fd:FuncData} (F:Fun K "_law_words" "_law_words" sWords f fd) (mr:mg "range"=none) (mi:mg "int"=none):FnOk P w K mg base CX0 1 f fd ["_law_cell","_law_many"] (spWords K):=by
 refine F.ok scWords (fun vs H Q E h=>?_) (fun cdv A outer s H vs Q E hr h=>?_)
 ·obtain⟨c,m,rfl,_⟩:=h
  rfl
 obtain⟨c,m,rfl,hm,q⟩:=h
 have ll:letters.length≤sizeLine:=by decide +kernel
 obtain⟨u3,d3,k3'⟩:∃t,PSs (cxOf CX0 P w K mg base wordsN "_law_words" (defScope sWords) f cdv A outer s H E).nox (List.drop 3 (defBody sWords)) t ∧
   (¬c%12=0→t { nx:=fun _ H'=>Q .non H',rt:=Q } [some (.int c),some (.int (m:Int)),some (.str letters),some (.int (c%12)),none,none,none,none] H):=by
  refine⟨_,pss_cons (ps_set (i:=5) scWords.nd rfl (Or.inr rfl) (pe_op op_mod (pe_op op_fdiv (pv 0) pe_int) (pv 3)))
   (pss_cons (ps_set (i:=6) scWords.nd rfl (Or.inl rfl) (pe_lst pa_nil))
   (pss_cons (ps_for PassesOwn.never rfl (pi_range1 rfl mr (pa_cons (pv 1) pa_nil)) (pg_name (i:=4) scWords.nd rfl (Or.inr rfl))
    (pss_cons (ps_comp (i0:=7) scWords.nd rfl (Or.inl rfl) (own:=["_law_j"]) (caps:=["_law_letters","_law_cell","_law_k","_law_at"]) (κ:=[2,0,4,5]) rfl
      ⟨rfl,by decide +kernel,by decide +kernel,rfl,rfl,(fun y hy=>by simp only [List.mem_cons,List.not_mem_nil,or_false] at hy;rcases hy with rfl|rfl|rfl|rfl<;>rfl),
       (fun y hy=>by simp only [List.mem_cons,List.not_mem_nil,or_false] at hy;rcases hy with rfl|rfl|rfl|rfl<;>exact⟨.inl rfl,rfl,.inl rfl⟩)⟩ rfl
      (pi_range1 rfl mr (pa_cons (pv 3) pa_nil)) (fun _ _ _ _=>pg_name (i:=0) (show(["_law_j","_law_letters","_law_cell","_law_k","_law_at"]:List Str).Nodup from by decide +kernel) rfl (Or.inl rfl))
      (fun _ _ _ _=>pe_ix ix_str (pv 1) (pe_op op_mod (pe_op op_add (pe_op op_add (pe_op op_fdiv (pv 2) pe_int) (pe_op op_mul (pe_op op_mul pe_int (pv 0)) (pv 0))) (pe_op op_mul (pv 3) (pe_callTy call_int1 rfl mi bootInt (pa_cons (pe_cmpR op_eq (pv 0) (pv 4) (nomark _)) pa_nil)))) pe_int) (fun _ _=>rfl)))
    (pss_one (ps_expr (pe_bm PySem.F.plainAttrs_list PySem.F.slot_list_append PySem.F.type_list_append mt_append (pv 6) (pa_cons (pe_op op_add_str (pe_ix ix_str pe_str (pe_op op_mod (pe_op op_fdiv (pv 0) pe_int) pe_int) (fun _ _=>rfl))
     (pe_bm PySem.F.plainAttrs_str PySem.F.slot_str_join PySem.F.type_str_join mt_join pe_str (pa_cons (pv 7) pa_nil))) pa_nil))))))
   (pss_one (ps_ret (pv 6))))),?_⟩
  intro hc
  have p0:=Int.emod_nonneg c (show(12:Int)≠0 by decide)
  have p1:=Int.emod_lt_of_pos c (show(0:Int) < 12 by decide)
  refine⟨_,rfl,_,_,rfl,rfl,⟨by decide,by decide⟩,_,rfl,_,_,rfl,rfl,(by show(0:Int) < c%12;omega),?_⟩
  refine⟨(by show 0≤sizeLine;decide),fun l hl=>?_⟩
  refine⟨_,rfl,(m:Int),rfl,by omega,by omega,for_range (n:=m) (fun i σ H2=>∃(v4 v7:Option V),σ=[some (.int c),some (.int (m:Int)),some (.str letters),some (.int (c%12)),v4,some (.int (c / 12%(c%12))),some (.ref l),v7]∧Same H H2∧H2 l=some (.lst ((List.range i).map fun k=>V.str (wd c k))))
   ⟨none,none,rfl,same_new hl _,upd_same⟩ ?_ ?_⟩
  ·rintro i σ H2 hi ⟨v4,v7,rfl,sH,hL⟩
   refine⟨_,rfl,c%12,rfl,by omega,by omega,?_⟩
   refine comp_by (J:=Itr 0 (c%12).toNat) (xs:=rangeV 0 (c%12).toNat) (fun n ys H3=>n≤(c%12).toNat∧H3=H2∧ys=(sgs c i n).map V.str) ⟨Nat.zero_le _,rfl,rfl⟩ (by rw [rangeV_len];exact small (by omega)) ?_ ?_ ?_ ?_ ?_ ?_
   ·rintro n ys H3 ⟨hn,rfl,rfl⟩
    rw [List.length_map]
    unfold sgs
    rw [List.length_map,List.length_range]
    exact Nat.le_refl _
   ·rintro n x ys H3 hx _
    exact itr_go hx
   ·rintro n ys x H3 H' hn _ hy
    rw [rangeV_len] at hn
    exact itr_yld' hn hy
   ·rintro ys H3 _
    rw [rangeV_len]
    exact Nat.le_refl _
   ·rintro n x ys H3 N hN hx ⟨hn,rfl,rfl⟩
    obtain⟨hn9,rfl⟩:=rangeV_get.mp hx
    refine⟨rfl,tYes_go ⟨_,rfl,_,rfl,_,_,rfl,rfl,⟨by decide,by decide⟩,_,rfl,_,_,rfl,rfl,.inl ⟨by decide,by decide⟩,_,rfl,_,_,rfl,rfl,.inr ⟨by omega,by omega⟩,_,_,rfl,rfl,_,rfl,_,rfl,_,rfl,rfl,
     .inr ⟨_,rfl,_,_,rfl,rfl,.inl ⟨by omega,by omega⟩,_,_,rfl,rfl,_,_,rfl,rfl,(by show(0:Int) < 26;decide),_,_,_,rfl,rfl,ll,at_lt _,hN _ _ ⟨by omega,rfl,?_⟩⟩⟩⟩
    unfold sgs
    rw [List.range_succ,List.map_append,List.map_append]
    rfl
   ·rintro ys H3 D ⟨hn,rfl,rfl⟩ hD
    rw [rangeV_len]
    have sD:=same_new hD (.lst ((sgs c i (c%12).toNat).map V.str))
    have hL1:=sD _ _ hL
    have e0:(Str.ofString "").length=0:=by decide +kernel
    have jl:=join_len c i (c%12).toNat
    have k3l:(Str.ofString "kqz").length≤sizeLine:=by decide +kernel
    have jn:=StrLaws.join_length_le (Str.ofString "") (sgs c i (c%12).toNat)
    have jt:(Txt.join (Str.ofString "") (sgs c i (c%12).toNat)).length≤100:=by
     unfold Txt.join
     rw [StrLaws.glued_eq_join]
     rw [jl,e0] at jn
     omega
    refine⟨_,rfl,.inl ⟨rfl,_,SqL.of hL1⟩,_,rfl,_,_,rfl,rfl,⟨by decide,by decide⟩,_,_,rfl,rfl,(by show(0:Int) < 3;decide),_,_,_,rfl,rfl,k3l,at_kq c,rfl,_,rfl,_,D,sgs c i (c%12).toNat,rfl,rfl,SqL.of upd_same,(by rw [jl,e0];omega),_,_,rfl,rfl,?_,l,_,_,rfl,rfl,hL1,?_,?_⟩
    ·have:Str.length ⟨#[kq c]⟩=1:=rfl
     exact small (by omega)
    ·rw [List.length_map,List.length_range]
     exact small1000 (by omega)
    ·refine⟨_,_,rfl,sput (sH.trans sD) hl,?_⟩
     rw [upd_same,List.range_succ,List.map_append]
     have ew:wd c i=(⟨#[kq c]⟩:Str)++Txt.join (Str.ofString "") (sgs c i (c%12).toNat):=by
      unfold wd
      rw [if_neg hc]
     rw [←ew]
     rfl
  ·rintro σ H2 ⟨v4,v7,rfl,sH,hL⟩
   exact⟨_,rfl,q _ l sH hL⟩
 refine⟨_,pss_cons (ps_set (i:=2) scWords.nd rfl (Or.inr rfl) pe_str)
  (pss_cons (ps_set (i:=3) scWords.nd rfl (Or.inl rfl) (pe_op op_mod (pv 0) pe_int))
  (pss_cons (ps_if (pt_cmpR op_eq (pv 3) pe_int (nomark _)) (pss_one (ps_ret (pe_comp (own:=["_law_k"]) (caps:=["_law_letters","_law_cell"]) (κ:=[2,0]) rfl
      ⟨rfl,by decide +kernel,by decide +kernel,rfl,rfl,(fun y hy=>by simp only [List.mem_cons,List.not_mem_nil,or_false] at hy;rcases hy with rfl|rfl<;>rfl),
       (fun y hy=>by simp only [List.mem_cons,List.not_mem_nil,or_false] at hy;rcases hy with rfl|rfl<;>exact⟨.inl rfl,rfl,.inl rfl⟩)⟩ rfl
      (pi_range1 rfl mr (pa_cons (pv 1) pa_nil)) (fun _ _ _ _=>pg_name (i:=0) (show(["_law_k","_law_letters","_law_cell"]:List Str).Nodup from by decide +kernel) rfl (Or.inl rfl))
      (fun _ _ _ _=>pe_ix ix_str (pv 1) (pe_op op_mod (pe_op op_add (pe_op op_fdiv (pv 2) pe_int) (pv 0)) pe_int) (fun _ _=>rfl))))) pss_nil) d3)),?_⟩
 refine⟨_,rfl,_,_,rfl,rfl,(by show(0:Int) < 12;decide),?_⟩
 refine⟨_,rfl,rfl,_,rfl,ite2 (fun e=>?_) (fun e=>k3' fun z=>e (decide_eq_true (show V.int (c%12)=V.int 0 by rw [z])))⟩
 have e':c%12=0:=V.int.inj (of_decide_eq_true e)
 refine⟨_,rfl,(m:Int),rfl,by omega,by omega,?_⟩
 refine comp_by (J:=Itr 0 m) (xs:=rangeV 0 m) (fun n ys H3=>n≤m∧H3=H∧ys=(List.range n).map fun k=>V.str (wd c k)) ⟨Nat.zero_le _,rfl,rfl⟩ (by rw [rangeV_len];exact small (by omega)) ?_ ?_ ?_ ?_ ?_ ?_
 ·rintro n ys H3 ⟨hn,rfl,rfl⟩
  rw [List.length_map,List.length_range]
  exact Nat.le_refl _
 ·rintro n x ys H3 hx _
  exact itr_go hx
 ·rintro n ys x H3 H' hn _ hy
  rw [rangeV_len] at hn
  exact itr_yld' hn hy
 ·rintro ys H3 _
  rw [rangeV_len]
  exact Nat.le_refl _
 ·rintro n x ys H3 N hN hx ⟨hn,rfl,rfl⟩
  obtain⟨hn9,rfl⟩:=rangeV_get.mp hx
  refine⟨rfl,tYes_go ⟨_,rfl,_,rfl,_,_,rfl,rfl,⟨by decide,by decide⟩,_,rfl,_,_,rfl,rfl,_,_,rfl,rfl,(by show(0:Int) < 26;decide),_,_,_,rfl,rfl,ll,at_lt _,hN _ _ ⟨by omega,rfl,?_⟩⟩⟩
  have ew:wd c n=sign (c / 12+(0+(n:Int))):=by
   unfold wd
   rw [if_pos e']
  rw [List.range_succ,List.map_append]
  show _=_++[V.str (wd c n)]
  rw [ew]
  rfl
 ·rintro ys H3 D ⟨hn,rfl,rfl⟩ hD
  exact q _ D (same_new hD _) (by rw [rangeV_len];exact upd_same)
end
end K71
namespace K71
open PySem L2
inductive Vl where
 |num (n:Int)
 |pr (a b:Vl)
inductive VAt (H:Hp):V→Vl→Prop
 |num {n:Int}:VAt H (.int n) (.num n)
 |pr {p:Addr} {x y:V} {a b:Vl}:H p=some (.tup [x,y])→VAt H x a→VAt H y b→VAt H (.ref p) (.pr a b)
theorem VAt.same{H H':Hp}{x:V}{v:Vl}(h:VAt H x v)(s:Same H H'):VAt H' x v:=by
 induction h with
 |num=>exact .num
 |pr hp _ _ i1 i2=>exact .pr (s _ _ hp) i1 i2
abbrev VsAt(H:Hp):List V→List Vl→Prop:=Paired (VAt H)
theorem VsAt.same{H H':Hp}(s:Same H H'){xs:List V}{vs:List Vl}(h:VsAt H xs vs):VsAt H' xs vs:=Paired.mapP h fun _ _ z=>z.same s
inductive Fm where
 |op (o:Str) (n:Int)
 |test (o:Str)
 |as_ (n:Int)
 |two
 |fst
 |snd
def Fm.vals:Fm→List V
 |.op o n=>[.str "op",.str o,.int n]
 |.test o=>[.str "test",.str o]
 |.as_ n=>[.str "as",.int n]
 |.two=>[.str "two"]
 |.fst=>[.str "first"]
 |.snd=>[.str "second"]
inductive Ex where
 |lit (v n:Int)
 |var (s:Str)
 |if_ (a b c:Ex)
 |let_ (x:Str) (a b:Ex)
 |nd (f:Fm) (es:List Ex)
 |call (q t:Str) (es:List Ex)
mutual
def Ex.ht:Ex→Nat
 |.lit _ _=>1
 |.var _=>1
 |.if_ a b c=>1+max a.ht (max b.ht c.ht)
 |.let_ _ a b=>1+max a.ht b.ht
 |.nd _ es=>1+max es.length (hts es)
 |.call _ _ es=>1+max es.length (hts es)
def hts:List Ex→Nat
 |[]=>0
 |e::es=>max e.ht (hts es)
end
theorem hts_mem:∀{es:List Ex} {e:Ex},e∈es→e.ht≤hts es
 |a::as,e,h=>by
  show _≤max a.ht (hts as)
  rcases List.mem_cons.mp h with rfl|z
  ·omega
  ·have:=hts_mem z;omega
def reck(o:Str)(a b:Int):Int:=if o="+" then a+b else if o="-" then a - b else a*b
def fmV:Fm→List Vl→Option Vl
 |.op o n,[.num a,.num b]=>if 0 < n∧-(2 ^ 64) < a∧a < 2 ^ 64 then some (.num (reck o a b%n)) else none
 |.test o,[.num a,.num b]=>some (.num (if (if o="=" then decide (V.int a=V.int b) else decide (a < b))=true then 1 else 0))
 |.as_ n,[.num a]=>if 0 < n then some (.num (a%n)) else none
 |.two,[a,b]=>some (.pr a b)
 |.fst,[.pr a _]=>some a
 |.snd,[.pr _ b]=>some b
 |_,_=>none
abbrev Orc:=Str→Str→List Vl→Option Vl
mutual
def ev(C:Orc)(ρ:Str→Option Vl):Ex→Option Vl
 |.lit v _=>some (.num v)
 |.var s=>ρ s
 |.if_ a b c=>match ev C ρ a with
  |some (.num n)=>if decide (V.int n=V.int 1)=true then ev C ρ b else ev C ρ c
  |_=>none
 |.let_ x a b=>match ev C ρ a with
  |some v=>ev C (fun y=>if y=x then some v else ρ y) b
  |none=>none
 |.nd f es=>match evs C ρ es with
  |some vs=>fmV f vs
  |none=>none
 |.call q t es=>match evs C ρ es with
  |some vs=>C q t vs
  |none=>none
def evs(C:Orc)(ρ:Str→Option Vl):List Ex→Option (List Vl)
 |[]=>some []
 |e::es=>match ev C ρ e,evs C ρ es with
  |some v,some vs=>some (v::vs)
  |_,_=>none
end
mutual
inductive ExAt (H:Hp):V→Ex→Prop
 |lit {p:Addr} {v n:Int}:H p=some (.tup [.str "lit",.int v,.int n])→ExAt H (.ref p) (.lit v n)
 |var {p:Addr} {s:Str}:H p=some (.tup [.str "var",.str s])→ExAt H (.ref p) (.var s)
 |if_ {p:Addr} {x y z:V} {a b c:Ex}:H p=some (.tup [.str "if",x,y,z])→ExAt H x a→ExAt H y b→ExAt H z c→ExAt H (.ref p) (.if_ a b c)
 |let_ {p:Addr} {s:Str} {x y:V} {a b:Ex}:H p=some (.tup [.str "let",.str s,x,y])→ExAt H x a→ExAt H y b→ExAt H (.ref p) (.let_ s a b)
 |nd {p:Addr} {f:Fm} {xs:List V} {es:List Ex}:H p=some (.tup (f.vals++xs))→ExsAt H xs es→ExAt H (.ref p) (.nd f es)
 |call {p p2:Addr} {q t:Str} {xs:List V} {es:List Ex}:H p=some (.tup [.str "call",.str q,.str t,.ref p2])→H p2=some (.tup xs)→ExsAt H xs es→ExAt H (.ref p) (.call q t es)
inductive ExsAt (H:Hp):List V→List Ex→Prop
 |nil:ExsAt H [] []
 |cons {x:V} {e:Ex} {xs:List V} {es:List Ex}:ExAt H x e→ExsAt H xs es→ExsAt H (x::xs) (e::es)
end
mutual
theorem ExAt.same{H H':Hp}(s:Same H H'):∀{x:V} {e:Ex},ExAt H x e→ExAt H' x e
 |_,_,.lit h=>.lit (s _ _ h)
 |_,_,.var h=>.var (s _ _ h)
 |_,_,.if_ h a b c=>.if_ (s _ _ h) (ExAt.same s a) (ExAt.same s b) (ExAt.same s c)
 |_,_,.let_ h a b=>.let_ (s _ _ h) (ExAt.same s a) (ExAt.same s b)
 |_,_,.nd h r=>.nd (s _ _ h) (ExsAt.same s r)
 |_,_,.call h h2 r=>.call (s _ _ h) (s _ _ h2) (ExsAt.same s r)
theorem ExsAt.same{H H':Hp}(s:Same H H'):∀{xs:List V} {es:List Ex},ExsAt H xs es→ExsAt H' xs es
 |_,_,.nil=>.nil
 |_,_,.cons a r=>.cons (ExAt.same s a) (ExsAt.same s r)
end
theorem ExsAt.get{H:Hp}:∀{xs:List V} {es:List Ex} {i:Nat} {x:V},ExsAt H xs es→xs[i]?=some x→∃e,es[i]?=some e∧ExAt H x e
 |_,_,_,_,.nil,h=>by simp at h
 |_,_,0,_,.cons a _,h=>by simp at h;subst h;exact⟨_,rfl,a⟩
 |_,_,i+1,x,.cons _ r,h=>by
  obtain⟨e,h1,h2⟩:=ExsAt.get (i:=i) (x:=x) r (by simpa using h)
  exact⟨e,by simpa using h1,h2⟩
theorem ExsAt.length{H:Hp}:∀{xs:List V} {es:List Ex},ExsAt H xs es→xs.length=es.length
 |_,_,.nil=>rfl
 |_,_,.cons _ r=>congrArg (·+1) r.length
theorem evs_get{C:Orc}{ρ:Str→Option Vl}:∀{es:List Ex} {vs:List Vl} {i:Nat} {e:Ex},evs C ρ es=some vs→es[i]?=some e→∃v,vs[i]?=some v∧ev C ρ e=some v
 |[],_,_,_,_,h=>by simp at h
 |a::as,vs,i,e,h,hi=>by
  rw [evs] at h
  cases h1:ev C ρ a with
  |none=>rw [h1] at h;cases h
  |some v =>
   cases h2:evs C ρ as with
   |none=>rw [h1,h2] at h;cases h
   |some ws =>
    rw [h1,h2] at h
    cases h
    cases i with
    |zero=>simp at hi;subst hi;exact⟨v,rfl,h1⟩
    |succ i =>
     obtain⟨u,h3,h4⟩:=evs_get (i:=i) h2 (by simpa using hi)
     exact⟨u,by simpa using h3,h4⟩
theorem evs_len{C:Orc}{ρ:Str→Option Vl}:∀{es:List Ex} {vs:List Vl},evs C ρ es=some vs→vs.length=es.length
 |[],_,h=>by rw [evs] at h;cases h;rfl
 |a::as,vs,h=>by
  rw [evs] at h
  cases h1:ev C ρ a with
  |none=>rw [h1] at h;cases h
  |some v =>
   cases h2:evs C ρ as with
   |none=>rw [h1,h2] at h;cases h
   |some ws=>rw [h1,h2] at h;cases h;exact congrArg (·+1) (evs_len h2)
def EnvAt(H:Hp)(d:Addr)(ρ:Str→Option Vl)(m:Nat):Prop:=∃kvs,H d=some (.dK kvs)∧kvs.length≤m∧∀s v,ρ s=some v→∃u,valV kvs (.inr s)=some u∧VAt H u v
theorem EnvAt.same{H H':Hp}{d:Addr}{ρ:Str→Option Vl}{m:Nat}(h:EnvAt H d ρ m)(s:Same H H'):EnvAt H' d ρ m:=by
 obtain⟨kvs,h1,h2,h3⟩:=h
 refine⟨kvs,s _ _ h1,h2,fun x v e=>?_⟩
 obtain⟨u,e1,e2⟩:=h3 x v e
 exact⟨u,e1,e2.same s⟩
abbrev ahs:List (Str × Int):=[("op",3),("test",2),("as",2),("let",2),("if",1),("two",1),("first",1),("second",1)]
abbrev lvV:List V:=[.str "lit",.str "var"]
theorem flat_lv:lvV.all flatV=true:=by decide +kernel
theorem fm_head(f:Fm):∃(z:Str) (r:List V),f.vals=.str z::r∧inV (.str z) lvV=false∧z≠"call"∧numAtS ahs z=some ((r.length+1:Nat):Int)∧z≠"lit"∧z≠"var"∧z≠"if"∧z≠"let":=by
 cases f with
 |op o n=>exact⟨_,_,rfl,by decide +kernel,by decide +kernel,rfl,by decide +kernel,by decide +kernel,by decide +kernel,by decide +kernel⟩
 |test o=>exact⟨_,_,rfl,by decide +kernel,by decide +kernel,rfl,by decide +kernel,by decide +kernel,by decide +kernel,by decide +kernel⟩
 |as_ n=>exact⟨_,_,rfl,by decide +kernel,by decide +kernel,rfl,by decide +kernel,by decide +kernel,by decide +kernel,by decide +kernel⟩
 |two=>exact⟨_,_,rfl,by decide +kernel,by decide +kernel,by decide +kernel,by decide +kernel,by decide +kernel,by decide +kernel,by decide +kernel⟩
 |fst=>exact⟨_,_,rfl,by decide +kernel,by decide +kernel,by decide +kernel,by decide +kernel,by decide +kernel,by decide +kernel,by decide +kernel⟩
 |snd=>exact⟨_,_,rfl,by decide +kernel,by decide +kernel,by decide +kernel,by decide +kernel,by decide +kernel,by decide +kernel,by decide +kernel⟩
theorem str_no{a b:Str}(h:a≠b):¬decide (V.str a=V.str b)=true:=fun z=>h (V.str.inj (of_decide_eq_true z))
theorem str_yes{a:Str}:decide (V.str a=V.str a)=true:=decide_eq_true rfl
theorem cut_from(xs:List V)(k:Nat):cutV xs (some (k:Int)) none=xs.drop k:=by
 unfold cutV
 rw [HT.sIx_nat,HT.sIx_none]
 by_cases h:k≤xs.length
 ·rw [Nat.min_eq_left h,List.take_of_length_le (by rw [List.length_drop];omega)]
 ·rw [Nat.min_eq_right (by omega),List.drop_length,List.drop_eq_nil_of_le (by omega),List.take_nil]
theorem not_whole{n k:Nat}(h:1≤k)(hn:1≤n):¬(HT.sIx n 0 (some (k:Int))=0∧HT.sIx n n none=n):=fun z=>by
 have:=z.1
 rw [HT.sIx_nat] at this
 omega
def spWithin:Sp:=fun vs H Q _=>∃(x:V) (xs:List V),vs=[x]∧((∃(p:Addr) (f:Fm),x=.ref p∧H p=some (.tup (f.vals++xs)))∨∃(p p2:Addr) (q t:Str),x=.ref p∧H p=some (.tup [.str "call",.str q,.str t,.ref p2])∧H p2=some (.tup xs))∧∀H' (r:Addr),Same H H'→H' r=some (.tup xs)→Q (.ref r) H'
section
variable{P:Program}{w:World}{K:PySem.W.Frag}{mg:Str→Option Value}{base:Heap}
theorem scWithin:FnScope ["expression","form"] ["expression"] (defScope sWithin):=⟨rfl,rfl,rfl,by decide +kernel,rfl,by decide +kernel,by decide +kernel⟩
theorem ok_within{f pA:Addr}{fd:FuncData} (F:Fun K "within" "within" sWithin f fd) (mA:mg "AHEAD"=some (.ref pA)) (hA:DKt K w pA ahs):FnOk P w K mg base CX0 1 f fd ["expression"] spWithin:=by
 refine F.ok scWithin (fun vs H Q E h=>?_) (fun cdv A outer s H vs Q E hr h=>?_)
 ·obtain⟨x,xs,rfl,_⟩:=h
  rfl
 obtain⟨x,xs,rfl,hx,q⟩:=h
 refine⟨_,pss_cons (ps_set (i:=1) scWithin.nd rfl (Or.inl rfl) (pe_ix ix_tup (pv 0) pe_int (fun _ _=>rfl)))
  (pss_cons (ps_if (pt_cmpR op_in_seq (pv 1) (pe_tup (pa_cons pe_str (pa_cons pe_str pa_nil))) (by with_unfolding_all rfl)) (pss_one (ps_ret (pe_tup pa_nil))) pss_nil)
  (pss_cons (ps_if (pt_cmpR op_eq (pv 1) pe_str (nomark _)) (pss_one (ps_ret (pe_ix ix_tup (pv 0) pe_int (fun _ _=>rfl)))) pss_nil)
  (pss_one (ps_ret (pe_slice sl_tup (pv 0) (po_some (pe_dgetK (pe_glob rfl mA (v:=.ref pA) rfl) (pv 1) (fun _ _=>rfl))) po_none))))),?_⟩
 rcases hx with ⟨p,fm,rfl,hp⟩|⟨p,p2,a,t,rfl,hp,hp2⟩
 ·obtain⟨z,r,e1,e2,e3,e4,_⟩:=fm_head fm
  rw [e1] at hp
  refine⟨_,rfl,p,_,_,.str z,rfl,rfl,SqT.of hp,?_,_,rfl,(by show 2≤sizeLine;decide),fun p3 hp3=>?_⟩
  ·exact(atI_nat (j:=0) rfl:atI (V.str z::(r++xs)) ((0:Nat):Int)=_)
  have s3:=same_new hp3 (.tup lvV)
  refine⟨p3,lvV,rfl,.inr (SqT.of upd_same),rfl,flat_lv,_,rfl,ite2 (fun c=>absurd c (by rw [e2];decide)) (fun _=>?_)⟩
  refine⟨_,rfl,rfl,_,rfl,ite2 (fun c=>absurd c (str_no e3)) (fun _=>?_)⟩
  refine⟨_,rfl,_,rfl,pA,ahs,z,_,rfl,hA,rfl,e4,_,rfl,p,_,rfl,SqT.of (s3 _ _ hp),not_whole (by omega) (by simp),fun p5 hp5=>?_⟩
  have e5:cutV (V.str z::r++xs) (some ((r.length+1:Nat):Int)) none=xs:=by
   rw [cut_from]
   simp
  have h5:∀Hq:Hp,(upd Hq p5 (.tup (cutV (V.str z::r++xs) (some ((r.length+1:Nat):Int)) none))) p5=some (.tup xs):=fun Hq=>by rw [upd_same,e5]
  exact q _ p5 (s3.trans (same_new hp5 _)) (h5 _)
 ·refine⟨_,rfl,p,_,_,.str "call",rfl,rfl,SqT.of hp,rfl,_,rfl,(by show 2≤sizeLine;decide),fun p3 hp3=>?_⟩
  have s3:=same_new hp3 (.tup lvV)
  refine⟨p3,lvV,rfl,.inr (SqT.of upd_same),rfl,flat_lv,_,rfl,ite2 (fun c=>absurd c (by decide +kernel)) (fun _=>?_)⟩
  refine⟨_,rfl,rfl,_,rfl,ite2 (fun _=>?_) (fun c=>absurd (by decide +kernel) c)⟩
  exact⟨_,rfl,p,_,_,.ref p2,rfl,rfl,SqT.of (s3 _ _ hp),rfl,q _ _ s3 (s3 _ _ hp2)⟩
end
end K71
namespace K71
open PySem L2
def spVar:Sp:=fun vs H Q _=>∃(s:Str) (d:Addr) (ρ:Str→Option Vl) (m:Nat) (v:Vl),vs=[.str s,.ref d]∧EnvAt H d ρ m∧ρ s=some v∧∀u,VAt H u v→Q u H
def spReck:Sp:=fun vs H Q _=>∃(o:Str) (a b:Int),vs=[.str o,.int a,.int b]∧-(2 ^ 64) < a∧a < 2 ^ 64∧Q (.int (reck o a b)) H
def spComp:Sp:=fun vs H Q _=>∃(o:Str) (a b:Int),vs=[.str o,.int a,.int b]∧Q (.int (if (if o="=" then decide (V.int a=V.int b) else decide (a < b))=true then 1 else 0)) H
def spForm(K:PySem.W.Frag):Sp:=fun vs H Q _=>∃(p l:Addr) (f:Fm) (xs us:List V) (ws:List Vl) (v:Vl),vs=[.ref p,.ref l]∧H p=some (.tup (f.vals++xs))∧H l=some (.lst us)∧VsAt H us ws∧fmV f ws=some v∧∀H' u,Same H H'→VAt H' u v→Q u H'
section
variable{P:Program}{w:World}{K:PySem.W.Frag}{mg:Str→Option Value}{base:Heap}
theorem scVar:FnScope ["word","variables"] ["word","variables"] (defScope sVar):=⟨rfl,rfl,rfl,by decide +kernel,rfl,by decide +kernel,by decide +kernel⟩
theorem ok_var{f:Addr}{fd:FuncData} (F:Fun K "variable_value" "variable_value" sVar f fd):FnOk P w K mg base CX0 1 f fd ["word","variables"] spVar:=by
 refine F.ok scVar (fun vs H Q E h=>?_) (fun cdv A outer s H vs Q E hr h=>?_)
 ·obtain⟨_,_,_,_,_,rfl,_⟩:=h
  rfl
 obtain⟨s',d,ρ,m,v,rfl,⟨kvs,hd,hm,hv⟩,hs,q⟩:=h
 obtain⟨u,e1,e2⟩:=hv s' v hs
 have hu:=hu_of hr
 refine⟨_,pss_cons (ps_if (pt_cmp (pc_dnotin hu (pv 0) (pv 1))) pss_no pss_nil) (pss_one (ps_ret (pe_dget hu (pv 1) (pv 0) (fun _ _=>rfl)))),?_⟩
 have g:=DGet.k (k:=Sum.inr s') hd
 rw [e1] at g
 refine⟨_,rfl,_,rfl,d,some u,rfl,g,_,rfl,iteF ?_⟩
 exact⟨_,rfl,_,rfl,d,u,rfl,g,q u e2⟩
theorem scReck:FnScope ["sign","one","other"] ["sign","one","other"] (defScope sReck):=⟨rfl,rfl,rfl,by decide +kernel,rfl,by decide +kernel,by decide +kernel⟩
theorem ok_reck{f:Addr}{fd:FuncData} (F:Fun K "reckoned" "reckoned" sReck f fd):FnOk P w K mg base CX0 1 f fd ["sign","one","other"] spReck:=by
 refine F.ok scReck (fun vs H Q E h=>?_) (fun cdv A outer s H vs Q E hr h=>?_)
 ·obtain⟨_,_,_,rfl,_⟩:=h
  rfl
 obtain⟨o,a,b,rfl,h1,h2,q⟩:=h
 refine⟨_,pss_cons (ps_if (pt_cmpR op_eq (pv 0) pe_str (nomark _)) (pss_one (ps_ret (pe_op op_add (pv 1) (pv 2)))) pss_nil)
  (pss_cons (ps_if (pt_cmpR op_eq (pv 0) pe_str (nomark _)) (pss_one (ps_ret (pe_op op_sub (pv 1) (pv 2)))) pss_nil)
  (pss_one (ps_ret (pe_op op_mul (pv 1) (pv 2))))),?_⟩
 unfold reck at q
 refine⟨_,rfl,rfl,_,rfl,ite2 (fun c=>?_) (fun c=>?_)⟩
 ·rw [if_pos (V.str.inj (of_decide_eq_true c))] at q
  exact⟨_,rfl,_,rfl,_,_,rfl,rfl,q⟩
 ·rw [if_neg fun z=>c (decide_eq_true (congrArg V.str z))] at q
  refine⟨_,rfl,rfl,_,rfl,ite2 (fun c=>?_) (fun c=>?_)⟩
  ·rw [if_pos (V.str.inj (of_decide_eq_true c))] at q
   exact⟨_,rfl,_,rfl,_,_,rfl,rfl,q⟩
  ·rw [if_neg fun z=>c (decide_eq_true (congrArg V.str z))] at q
   exact⟨_,rfl,_,rfl,_,_,rfl,rfl,.inl ⟨h1,h2⟩,q⟩
theorem scComp:FnScope ["sign","one","other","does"] ["sign","one","other"] (defScope sComp):=⟨rfl,rfl,rfl,by decide +kernel,rfl,by decide +kernel,by decide +kernel⟩
theorem ok_comp{f:Addr}{fd:FuncData} (F:Fun K "compared_values" "compared_values" sComp f fd):FnOk P w K mg base CX0 1 f fd ["sign","one","other"] spComp:=by
 refine F.ok scComp (fun vs H Q E h=>?_) (fun cdv A outer s H vs Q E hr h=>?_)
 ·obtain⟨_,_,_,rfl,_⟩:=h
  rfl
 obtain⟨o,a,b,rfl,q⟩:=h
 obtain⟨t2,d2,k2⟩:∃t,PSs (cxOf CX0 P w K mg base ["sign","one","other","does"] "compared_values" (defScope sComp) f cdv A outer s H E).nox (List.drop 1 (defBody sComp)) t ∧
   (∀c:Bool,Q (.int (if c=true then 1 else 0)) H→t { nx:=fun _ H'=>Q .non H',rt:=Q } [some (.str o),some (.int a),some (.int b),some (.bl c)] H):=by
  refine⟨_,pss_one (ps_ret (pe_ifExp (L2.pt_val (pv 3)) pe_int pe_int)),fun c hc=>?_⟩
  refine⟨_,rfl,c,rfl,?_⟩
  cases c with
  |true=>exact iteT hc
  |false=>exact iteF hc
 refine⟨_,pss_cons (ps_set (i:=3) scComp.nd rfl (Or.inl rfl) (pe_ifExp (pt_cmpR op_eq (pv 0) pe_str (nomark _)) (pe_cmpR op_eq (pv 1) (pv 2) (nomark _)) (pe_cmpR op_lt (pv 1) (pv 2) (nomark _)))) d2,?_⟩
 refine⟨_,rfl,rfl,_,rfl,ite2 (fun c=>?_) (fun c=>?_)⟩
 ·rw [if_pos (V.str.inj (of_decide_eq_true c))] at q
  exact⟨_,rfl,_,rfl,rfl,k2 _ q⟩
 ·rw [if_neg (show ¬o=Str.ofString "=" from fun z=>c (decide_eq_true (congrArg V.str z)))] at q
  exact⟨_,rfl,_,rfl,_,_,rfl,rfl,k2 _ q⟩
theorem scForm:FnScope ["expression","values","form"] ["expression","values"] (defScope sForm):=⟨rfl,rfl,rfl,by decide +kernel,rfl,by decide +kernel,by decide +kernel⟩
theorem vs2{H:Hp}{us:List V}{a b:Vl}(h:VsAt H us [a,b]):∃x y,us=[x,y]∧VAt H x a∧VAt H y b:=by
 cases h with
 |cons r t =>
  cases t with
  |cons r2 t2=>cases t2;exact⟨_,_,rfl,r,r2⟩
theorem vs1{H:Hp}{us:List V}{a:Vl}(h:VsAt H us [a]):∃x,us=[x]∧VAt H x a:=by
 cases h with
 |cons r t=>cases t;exact⟨_,rfl,r⟩
theorem v_num{H:Hp}{x:V}{n:Int}(h:VAt H x (.num n)):x=.int n:=by cases h;rfl
theorem v_pr{H:Hp}{x:V}{a b:Vl}(h:VAt H x (.pr a b)):∃p y z,x=.ref p∧H p=some (.tup [y,z])∧VAt H y a∧VAt H z b:=by
 cases h with
 |pr h1 h2 h3=>exact⟨_,_,_,rfl,h1,h2,h3⟩
theorem at0{x:V}{xs:List V}:atI (x::xs) 0=some x:=(atI_nat (j:=0) rfl:atI (x::xs) ((0:Nat):Int)=_)
theorem at1{x y:V}{xs:List V}:atI (x::y::xs) 1=some y:=(atI_nat (j:=1) rfl:atI (x::y::xs) ((1:Nat):Int)=_)
theorem at2{x y z:V}{xs:List V}:atI (x::y::z::xs) 2=some z:=(atI_nat (j:=2) rfl:atI (x::y::z::xs) ((2:Nat):Int)=_)
theorem at3{x y z u:V}{xs:List V}:atI (x::y::z::u::xs) 3=some u:=(atI_nat (j:=3) rfl:atI (x::y::z::u::xs) ((3:Nat):Int)=_)
set_option maxHeartbeats 0 in
theorem ok_form{f fr fc:Addr}{fd fdr fdc:FuncData} (F:Fun K "value_by_form" "value_by_form" sForm f fd)
  (GR:FnOk P w K mg base CX0 1 fr fdr ["sign","one","other"] spReck) (bR:Binds K fdr ["sign","one","other"] []) (kR:PySem.W.keepIn K (.ref fr)=true) (mR:mg "reckoned"=some (.ref fr))
  (GC:FnOk P w K mg base CX0 1 fc fdc ["sign","one","other"] spComp) (bC:Binds K fdc ["sign","one","other"] []) (kC:PySem.W.keepIn K (.ref fc)=true) (mC:mg "compared_values"=some (.ref fc)):FnOk P w K mg base CX0 2 f fd ["expression","values"] (spForm K):=by
 refine F.ok scForm (fun vs H Q E h=>?_) (fun cdv A outer s H vs Q E hr h=>?_)
 ·obtain⟨_,_,_,_,_,_,_,rfl,_⟩:=h
  rfl
 obtain⟨p,l,fm,xs,us,ws,v,rfl,hp,hl,hu,hv,q⟩:=h
 refine⟨_,pss_cons (ps_set (i:=2) scForm.nd rfl (Or.inl rfl) (pe_ix ix_tup (pv 0) pe_int (fun _ _=>rfl)))
  (pss_cons (ps_if (pt_cmpR op_eq (pv 2) pe_str (nomark _)) (pss_one (ps_ret (pe_op op_mod (pe_call GR hr rfl mR kR bR .nil pass0 (pa_cons (pe_ix ix_tup (pv 0) pe_int (fun _ _=>rfl)) (pa_cons (pe_ix ix_list (pv 1) pe_int (fun _ _=>rfl)) (pa_cons (pe_ix ix_list (pv 1) pe_int (fun _ _=>rfl)) pa_nil)))) (pe_ix ix_tup (pv 0) pe_int (fun _ _=>rfl))))) pss_nil)
  (pss_cons (ps_if (pt_cmpR op_eq (pv 2) pe_str (nomark _)) (pss_one (ps_ret (pe_call GC hr rfl mC kC bC .nil pass0 (pa_cons (pe_ix ix_tup (pv 0) pe_int (fun _ _=>rfl)) (pa_cons (pe_ix ix_list (pv 1) pe_int (fun _ _=>rfl)) (pa_cons (pe_ix ix_list (pv 1) pe_int (fun _ _=>rfl)) pa_nil)))))) pss_nil)
  (pss_cons (ps_if (pt_cmpR op_eq (pv 2) pe_str (nomark _)) (pss_one (ps_ret (pe_op op_mod (pe_ix ix_list (pv 1) pe_int (fun _ _=>rfl)) (pe_ix ix_tup (pv 0) pe_int (fun _ _=>rfl))))) pss_nil)
  (pss_cons (ps_if (pt_cmpR op_eq (pv 2) pe_str (nomark _)) (pss_one (ps_ret (pe_tup (pa_cons (pe_ix ix_list (pv 1) pe_int (fun _ _=>rfl)) (pa_cons (pe_ix ix_list (pv 1) pe_int (fun _ _=>rfl)) pa_nil))))) pss_nil)
  (pss_one (ps_ret (pe_ifExp (pt_cmpR op_eq (pv 2) pe_str (nomark _)) (pe_ix ix_tup (pe_ix ix_list (pv 1) pe_int (fun _ _=>rfl)) pe_int (fun _ _=>rfl)) (pe_ix ix_tup (pe_ix ix_list (pv 1) pe_int (fun _ _=>rfl)) pe_int (fun _ _=>rfl))))))))),?_⟩
 have no:∀{a b:Str} {A B:Prop},a≠b→B→(if decide (V.str a=V.str b)=true then A else B):=fun h hb=>by rw [if_neg (str_no h)];exact hb
 have yes:∀{a:Str} {A B:Prop},A→(if decide (V.str a=V.str a)=true then A else B):=fun h=>by rw [if_pos str_yes];exact h
 cases fm with
 |op o n =>
  match ws,hv with
  |[.num a,.num b],hv =>
   obtain⟨x,y,rfl,hx,hy⟩:=vs2 hu
   obtain rfl:=v_num hx
   obtain rfl:=v_num hy
   rw [fmV] at hv
   split at hv
   ·rename_i hc
    cases hv
    refine⟨_,rfl,p,_,_,_,rfl,rfl,SqT.of hp,at0,?_⟩
    refine⟨_,rfl,rfl,_,rfl,yes ⟨_,rfl,p,_,_,_,rfl,rfl,SqT.of hp,at1,_,rfl,l,_,_,_,rfl,rfl,SqL.of hl,at0,_,rfl,l,_,_,_,rfl,rfl,SqL.of hl,at1,?_⟩⟩
    exact⟨o,a,b,rfl,hc.2.1,hc.2.2,_,rfl,p,_,_,_,rfl,rfl,SqT.of hp,at2,_,_,rfl,rfl,hc.1,q _ _ (Same.refl _) .num⟩
   ·cases hv
 |test o =>
  match ws,hv with
  |[.num a,.num b],hv =>
   obtain⟨x,y,rfl,hx,hy⟩:=vs2 hu
   obtain rfl:=v_num hx
   obtain rfl:=v_num hy
   rw [fmV] at hv
   cases hv
   refine⟨_,rfl,p,_,_,_,rfl,rfl,SqT.of hp,at0,?_⟩
   refine⟨_,rfl,rfl,_,rfl,no (by decide +kernel) ?_⟩
   refine⟨_,rfl,rfl,_,rfl,yes ⟨_,rfl,p,_,_,_,rfl,rfl,SqT.of hp,at1,_,rfl,l,_,_,_,rfl,rfl,SqL.of hl,at0,_,rfl,l,_,_,_,rfl,rfl,SqL.of hl,at1,?_⟩⟩
   exact⟨o,a,b,rfl,q _ _ (Same.refl _) .num⟩
 |as_ n =>
  match ws,hv with
  |[.num a],hv =>
   obtain⟨x,rfl,hx⟩:=vs1 hu
   obtain rfl:=v_num hx
   rw [fmV] at hv
   split at hv
   ·rename_i hc
    cases hv
    refine⟨_,rfl,p,_,_,_,rfl,rfl,SqT.of hp,at0,?_⟩
    refine⟨_,rfl,rfl,_,rfl,no (by decide +kernel) ?_⟩
    refine⟨_,rfl,rfl,_,rfl,no (by decide +kernel) ?_⟩
    exact⟨_,rfl,rfl,_,rfl,yes ⟨_,rfl,l,_,_,_,rfl,rfl,SqL.of hl,at0,_,rfl,p,_,_,_,rfl,rfl,SqT.of hp,at1,_,_,rfl,rfl,hc,q _ _ (Same.refl _) .num⟩⟩
   ·cases hv
 |two =>
  match ws,hv with
  |[a,b],hv =>
   obtain⟨x,y,rfl,hx,hy⟩:=vs2 hu
   rw [fmV] at hv
   cases hv
   refine⟨_,rfl,p,_,_,_,rfl,rfl,SqT.of hp,at0,?_⟩
   refine⟨_,rfl,rfl,_,rfl,no (by decide +kernel) ?_⟩
   refine⟨_,rfl,rfl,_,rfl,no (by decide +kernel) ?_⟩
   refine⟨_,rfl,rfl,_,rfl,no (by decide +kernel) ?_⟩
   refine⟨_,rfl,rfl,_,rfl,yes ⟨_,rfl,l,_,_,_,rfl,rfl,SqL.of hl,at0,_,rfl,l,_,_,_,rfl,rfl,SqL.of hl,at1,(by show 2≤sizeLine;decide),fun t ht=>?_⟩⟩
   have sT:=same_new ht (.tup [x,y])
   exact q _ _ sT (.pr upd_same (hx.same sT) (hy.same sT))
 |fst =>
  match ws,hv with
  |[.pr a b],hv =>
   obtain⟨x,rfl,hx⟩:=vs1 hu
   obtain⟨t,y,z,rfl,ht,hy,hz⟩:=v_pr hx
   rw [fmV] at hv
   cases hv
   refine⟨_,rfl,p,_,_,_,rfl,rfl,SqT.of hp,at0,?_⟩
   refine⟨_,rfl,rfl,_,rfl,no (by decide +kernel) ?_⟩
   refine⟨_,rfl,rfl,_,rfl,no (by decide +kernel) ?_⟩
   refine⟨_,rfl,rfl,_,rfl,no (by decide +kernel) ?_⟩
   refine⟨_,rfl,rfl,_,rfl,no (by decide +kernel) ?_⟩
   exact⟨_,rfl,rfl,_,rfl,yes ⟨_,rfl,l,_,_,_,rfl,rfl,SqL.of hl,at0,t,_,_,_,rfl,rfl,SqT.of ht,at0,q _ _ (Same.refl _) hy⟩⟩
 |snd =>
  match ws,hv with
  |[.pr a b],hv =>
   obtain⟨x,rfl,hx⟩:=vs1 hu
   obtain⟨t,y,z,rfl,ht,hy,hz⟩:=v_pr hx
   rw [fmV] at hv
   cases hv
   refine⟨_,rfl,p,_,_,_,rfl,rfl,SqT.of hp,at0,?_⟩
   refine⟨_,rfl,rfl,_,rfl,no (by decide +kernel) ?_⟩
   refine⟨_,rfl,rfl,_,rfl,no (by decide +kernel) ?_⟩
   refine⟨_,rfl,rfl,_,rfl,no (by decide +kernel) ?_⟩
   refine⟨_,rfl,rfl,_,rfl,no (by decide +kernel) ?_⟩
   exact⟨_,rfl,rfl,_,rfl,no (by decide +kernel) ⟨_,rfl,l,_,_,_,rfl,rfl,SqL.of hl,at0,t,_,_,_,rfl,rfl,SqT.of ht,at1,q _ _ (Same.refl _) hz⟩⟩
end
end K71
namespace K71
open PySem L2
def ClosOk(P:Program)(w:World)(K:PySem.W.Frag)(mg:Str→Option Value)(base:Heap)(k:Nat)(f:Addr)(q t:Str)(H:Hp)(l:Addr)(Q:VK):Prop :=
 ∃fd ps sp,H f=some (.fnc fd)∧FnOk P w K mg base CX0 k f fd ps sp∧Binds K fd ps []∧sp [.str q,.str t,.ref l] H Q E0
def OrcOk(P:Program)(w:World)(K:PySem.W.Frag)(mg:Str→Option Value)(base:Heap)(k:Nat)(f:Addr)(H:Hp)(C:Orc):Prop :=
 ∀q t ws v H1 l us,C q t ws=some v→Same H H1→H1 l=some (.lst us)→VsAt H1 us ws→∀Q:VK,(∀H2 u,Same H1 H2→VAt H2 u v→Q u H2)→ClosOk P w K mg base k f q t H1 l Q
theorem OrcOk.same{P:Program}{w:World}{K:PySem.W.Frag}{mg:Str→Option Value}{base:Heap}{k:Nat}{f:Addr}{H H':Hp}{C:Orc}(h:OrcOk P w K mg base k f H C)(s:Same H H'):OrcOk P w K mg base k f H' C :=
 fun q t ws v H1 l us e s1=>h q t ws v H1 l us e (s.trans s1)
def spValue(P:Program)(w:World)(K:PySem.W.Frag)(mg:Str→Option Value)(base:Heap)(k n:Nat):Sp:=fun vs H Q _=>∃(x:V) (d f:Addr) (e:Ex) (ρ:Str→Option Vl) (m:Nat) (fd:FuncData) (C:Orc),vs=[x,.ref d,.ref f]∧ExAt H x e∧e.ht≤n∧EnvAt H d ρ m∧m+n≤500∧H f=some (.fnc fd)∧OrcOk P w K mg base k f H C ∧
  ((∃v,ev C ρ e=some v∧∀H' u,Same H H'→VAt H' u v→Q u H') ∨
   ∃q t es ws,e=.call q t es∧evs C ρ es=some ws∧∀H1 l us,Same H H1→H l=none→H1 l=some (.lst us)→VsAt H1 us ws→ClosOk P w K mg base k f q t H1 l Q)
theorem VAt.upd{H:Hp}{l:Addr}{us us':List V}(hl:H l=some (.lst us)){x:V}{v:Vl}(h:VAt H x v):VAt (L2.upd H l (.lst us')) x v:=by
 induction h with
 |num=>exact .num
 |pr hp _ _ i1 i2=>exact .pr (by rw [upd_ne (ne_of hp hl (by intro z;cases z))];exact hp) i1 i2
theorem VsAt.snoc{H:Hp}{x:V}{v:Vl}(h:VAt H x v):∀{xs:List V} {vs:List Vl},VsAt H xs vs→VsAt H (xs++[x]) (vs++[v])
 |_,_,.nil=>.cons h .nil
 |_,_,.cons a r=>.cons a (VsAt.snoc h r)
theorem take_snoc{α:Type}{l:List α}{i:Nat}{x:α}(h:l[i]?=some x):l.take i++[x]=l.take (i+1):=by
 rw [List.take_add_one,h];rfl
theorem bootDict:bootBuiltins "dict"=some (.type "dict"):=by decide +kernel
section
variable{P:Program}{w:World}{K:PySem.W.Frag}{mg:Str→Option Value}{base:Heap}
abbrev valN:List Str:=["expression","variables","call","form","asked","inner","values","each"]
theorem scValue:FnScope valN ["expression","variables","call"] (defScope sValue):=⟨rfl,rfl,rfl,by decide +kernel,rfl,by decide +kernel,by decide +kernel⟩
set_option maxHeartbeats 0 in
theorem ok_value{f fv fw ff:Addr}{fd fdv fdw fdf:FuncData}{k:Nat} (F:Fun K "value_of" "value_of" sValue f fd) (bS:Binds K fd ["expression","variables","call"] []) (mS:mg "value_of"=some (.ref f)) (md:mg "dict"=none)
    (GV:FnOk P w K mg base CX0 1 fv fdv ["word","variables"] spVar) (bV:Binds K fdv ["word","variables"] []) (kV:PySem.W.keepIn K (.ref fv)=true) (mV:mg "variable_value"=some (.ref fv))
    (GW:FnOk P w K mg base CX0 1 fw fdw ["expression"] spWithin) (bW:Binds K fdw ["expression"] []) (kW:PySem.W.keepIn K (.ref fw)=true) (mW:mg "within"=some (.ref fw))
    (GF:FnOk P w K mg base CX0 2 ff fdf ["expression","values"] (spForm K)) (bF:Binds K fdf ["expression","values"] []) (kF:PySem.W.keepIn K (.ref ff)=true) (mF:mg "value_by_form"=some (.ref ff)) :
    ∀n,FnOk P w K mg base CX0 (k+3+n) f fd ["expression","variables","call"] (spValue P w K mg base k n):=by
  intro n
  induction n with
  | zero =>
    refine⟨fun vs H Q E h=>?_,fun A outer s H args us vs Q E _ _ _ _ h=>?_⟩
    · obtain⟨_,_,_,_,_,_,_,_,rfl,_⟩:=h
      rfl
    · obtain⟨_,_,_,e,_,_,_,_,_,_,h0,_⟩:=h
      cases e<;>simp [Ex.ht] at h0
  | succ n ih =>
  refine F.ok (k:=k+3+n) scValue (fun vs H Q E h=>?_) (fun cdv A outer s H vs Q E hr h=>?_)
  · obtain⟨_,_,_,_,_,_,_,_,rfl,_⟩:=h
    rfl
  obtain⟨x,d,g,e,ρ,m,fdc,C,rfl,hx,hn,hd,hm,hg,hC,hq⟩:=h
  have hu:=hu_of hr
  have hr1:Room 1 _:=hr.mono (by omega)
  have hr2:Room 2 _:=hr.mono (by omega)
  have hrk:Room k _:=hr.mono (by omega)
  have kS:=F.kp
  have no:∀{a b:Str} {A B:Prop},a≠b→B→(if decide (V.str a=V.str b)=true then A else B):=fun h hb=>by rw [if_neg (str_no h)];exact hb
  have yes:∀{a:Str} {A B:Prop},A→(if decide (V.str a=V.str a)=true then A else B):=fun h=>by rw [if_pos str_yes];exact h
  obtain⟨t5,d5,k5⟩:∃t,PSs (cxOf CX0 P w K mg base valN "value_of" (defScope sValue) f cdv A outer s H E).nox (List.drop 5 (defBody sValue)) t ∧
      ∀(p:Addr) (z:Str) (xs:List V) (es:List Ex) (ws:List Vl),x=.ref p→ExsAt H xs es→(∀e∈es,e.ht≤n)→es.length≤n→evs C ρ es=some ws →
        ((∃(fm:Fm) (v:Vl) (r:List V),fm.vals=.str z::r∧z≠"call"∧H p=some (.tup (fm.vals++xs))∧fmV fm ws=some v∧∀H' u,Same H H'→VAt H' u v→Q u H') ∨
         ∃(p2:Addr) (q t:Str),z="call"∧H p=some (.tup [.str "call",.str q,.str t,.ref p2])∧H p2=some (.tup xs)∧∀H1 l us,Same H H1→H l=none→H1 l=some (.lst us)→VsAt H1 us ws→ClosOk P w K mg base k g q t H1 l Q) →
        t { nx:=fun _ H'=>Q .non H',rt:=Q } [some x,some (.ref d),some (.ref g),some (.str z),none,none,none,none] H:=by
    refine⟨_,pss_cons (ps_set (i:=6) scValue.nd rfl (Or.inl rfl) (pe_lst pa_nil))
      (pss_cons (ps_for PassesOwn.never rfl (pi_tup (pe_call GW hr1 rfl mW kW bW .nil pass0 (pa_cons (pv 0) pa_nil))) (pg_name (i:=7) scValue.nd rfl (Or.inl rfl))
        (pss_one (ps_expr (pe_bm PySem.F.plainAttrs_list PySem.F.slot_list_append PySem.F.type_list_append mt_append (pv 6) (pa_cons (pe_call ih hr rfl mS kS bS .nil pass0 (pa_cons (pv 7) (pa_cons (pv 1) (pa_cons (pv 2) pa_nil)))) pa_nil)))))
      (pss_cons (ps_if (pt_cmpR op_eq (pv 3) pe_str (nomark _)) (pss_one (ps_ret (pe_callV (pv 2) pass0 (pa_cons (pe_ix ix_tup (pv 0) pe_int (fun _ _=>rfl)) (pa_cons (pe_ix ix_tup (pv 0) pe_int (fun _ _=>rfl)) (pa_cons (pv 6) pa_nil)))))) pss_nil)
      (pss_one (ps_ret (pe_call GF hr2 rfl mF kF bF .nil pass0 (pa_cons (pv 0) (pa_cons (pv 6) pa_nil))))))),?_⟩
    intro p z xs es ws ex hxs hes hel hws hcase
    subst ex
    refine⟨(by show 0≤sizeLine;decide),fun l hl=>?_⟩
    have s1:=same_new hl (.lst [])
    refine⟨_,rfl,.ref p,xs,rfl,?_,fun H2 r s2 hr2'=>⟨r,rfl,⟨xs,SqT.of hr2'⟩,for_tup (xs:=xs) (fun i σ H3=>∃v7 us,σ=[some (.ref p),some (.ref d),some (.ref g),some (.str z),none,none,some (.ref l),v7]∧Same H H3∧H3 r=some (.tup xs)∧H3 l=some (.lst us)∧us.length=i∧VsAt H3 us (ws.take i)) ?_ ?_ ?_ ?_⟩⟩
    · rcases hcase with ⟨fm,v,r,e1,e2,e3,_⟩|⟨p2,q,t,rfl,e2,e3,_⟩
      · exact .inl ⟨p,fm,rfl,s1 _ _ e3⟩
      · exact .inr ⟨p,p2,q,t,rfl,s1 _ _ e2,s1 _ _ e3⟩
    · exact⟨none,[],rfl,s1.trans s2,hr2',s2 _ _ upd_same,rfl,.nil⟩
    · rintro i σ H3 hi ⟨v7,us,rfl,_,h4,_⟩
      exact SqT.of h4
    · rintro i y σ H3 hy ⟨v7,us,rfl,s3,h3,hl3,hl4,hus⟩
      obtain⟨e,he,hye⟩:=hxs.get hy
      obtain⟨v,hv1,hv2⟩:=evs_get hws he
      refine⟨_,rfl,.inl ⟨rfl,_,SqL.of hl3⟩,_,rfl,_,rfl,_,rfl,y,d,g,e,ρ,m,fdc,C,rfl,hye.same s3,hes e (List.mem_of_getElem? he),hd.same s3,by omega,s3 _ _ hg,hC.same s3,.inl ⟨v,hv2,fun H4 u s4 hu4=>?_⟩⟩
      have hl5:=s4 _ _ hl3
      refine⟨l,_,_,rfl,rfl,hl5,?_,_,us++[u],rfl,?_,?_,upd_same,by simp [hl4],?_⟩
      · have h8:=(List.getElem?_eq_some_iff.mp hy).1
        have h9:=hxs.length
        exact small1000 (by omega)
      · exact sput (s3.trans s4) hl
      · rw [upd_ne (ne_of (s4 _ _ h3) hl5 (by intro z;cases z))];exact s4 _ _ h3
      · rw [←take_snoc hv1]
        exact VsAt.snoc (hu4.upd hl5) (Paired.mapP (hus.same s4) fun _ _ z=>z.upd hl5)
    · rintro σ H3 ⟨v7,us,rfl,s3,h3,hl3,hl4,hus⟩
      have hwl:=evs_len hws
      have hxl:=hxs.length
      rw [List.take_of_length_le (by omega)] at hus
      rcases hcase with ⟨fm,v,r,e1,e2,e3,e4,hQ⟩|⟨p2,q,t,rfl,e2,e3,hQ⟩
      · refine⟨_,rfl,rfl,_,rfl,no e2 ?_⟩
        exact⟨_,rfl,_,rfl,p,l,fm,xs,us,ws,v,rfl,s3 _ _ e3,hl3,hus,e4,fun H4 u s4 hu4=>hQ H4 u (s3.trans s4) hu4⟩
      · refine⟨_,rfl,rfl,_,rfl,yes ?_⟩
        obtain⟨fd',ps',sp',c1,c2,c3,c4⟩:=hQ H3 l us s3 hl hl3 hus
        exact⟨g,fdc,rfl,s3 _ _ hg,_,rfl,p,_,_,_,rfl,rfl,SqT.of (s3 _ _ e2),at1,_,rfl,p,_,_,_,rfl,rfl,SqT.of (s3 _ _ e2),at2,_,rfl,fd',ps',sp',k,c1,c2,hrk,c3,c4⟩
  refine⟨_,pss_cons (ps_set (i:=3) scValue.nd rfl (Or.inl rfl) (pe_ix ix_tup (pv 0) pe_int (fun _ _=>rfl)))
    (pss_cons (ps_if (pt_cmpR op_eq (pv 3) pe_str (nomark _)) (pss_one (ps_ret (pe_ix ix_tup (pv 0) pe_int (fun _ _=>rfl)))) pss_nil)
    (pss_cons (ps_if (pt_cmpR op_eq (pv 3) pe_str (nomark _)) (pss_one (ps_ret (pe_call GV hr1 rfl mV kV bV .nil pass0 (pa_cons (pe_ix ix_tup (pv 0) pe_int (fun _ _=>rfl)) (pa_cons (pv 1) pa_nil))))) pss_nil)
    (pss_cons (ps_if (pt_cmpR op_eq (pv 3) pe_str (nomark _)) (pss_cons (ps_set (i:=4) scValue.nd rfl (Or.inl rfl) (pe_call ih hr rfl mS kS bS .nil pass0 (pa_cons (pe_ix ix_tup (pv 0) pe_int (fun _ _=>rfl)) (pa_cons (pv 1) (pa_cons (pv 2) pa_nil)))))
      (pss_one (ps_ret (pe_call ih hr rfl mS kS bS .nil pass0 (pa_cons (pe_ifExp (pt_cmpR op_eq (pv 4) pe_int (nomark _)) (pe_ix ix_tup (pv 0) pe_int (fun _ _=>rfl)) (pe_ix ix_tup (pv 0) pe_int (fun _ _=>rfl))) (pa_cons (pv 1) (pa_cons (pv 2) pa_nil))))))) pss_nil)
    (pss_cons (ps_if (pt_cmpR op_eq (pv 3) pe_str (nomark _)) (pss_cons (ps_set (i:=5) scValue.nd rfl (Or.inl rfl) (pe_callTy call_dict_dK rfl md bootDict (pa_cons (pv 1) pa_nil)))
      (pss_cons (ps_dput hu (pv 5) (pe_ix ix_tup (pv 0) pe_int (fun _ _=>rfl)) (pe_call ih hr rfl mS kS bS .nil pass0 (pa_cons (pe_ix ix_tup (pv 0) pe_int (fun _ _=>rfl)) (pa_cons (pv 1) (pa_cons (pv 2) pa_nil)))) rfl)
      (pss_one (ps_ret (pe_call ih hr rfl mS kS bS .nil pass0 (pa_cons (pe_ix ix_tup (pv 0) pe_int (fun _ _=>rfl)) (pa_cons (pv 5) (pa_cons (pv 2) pa_nil)))))))) pss_nil) d5)))),?_⟩
  cases hx with
  | @lit p v n' hp =>
    rcases hq with ⟨v',hv,q⟩|⟨_,_,_,_,z,_⟩
    · rw [ev] at hv
      cases hv
      refine⟨_,rfl,p,_,_,_,rfl,rfl,SqT.of hp,at0,?_⟩
      exact⟨_,rfl,rfl,_,rfl,yes ⟨_,rfl,p,_,_,_,rfl,rfl,SqT.of hp,at1,q _ _ (Same.refl _) .num⟩⟩
    · cases z
  | @var p y hp =>
    rcases hq with ⟨v',hv,q⟩|⟨_,_,_,_,z,_⟩
    · rw [ev] at hv
      refine⟨_,rfl,p,_,_,_,rfl,rfl,SqT.of hp,at0,?_⟩
      refine⟨_,rfl,rfl,_,rfl,no (by decide +kernel) ?_⟩
      exact⟨_,rfl,rfl,_,rfl,yes ⟨_,rfl,p,_,_,_,rfl,rfl,SqT.of hp,at1,_,rfl,y,d,ρ,m,v',rfl,hd,hv,fun u hu'=>q _ _ (Same.refl _) hu'⟩⟩
    · cases z
  | @if_ p a1 a2 a3 b1 b2 b3 hp h1 h2 h3 =>
    rcases hq with ⟨v',hv,q⟩|⟨_,_,_,_,z,_⟩
    · simp only [Ex.ht] at hn
      rw [ev] at hv
      cases hc:ev C ρ b1 with
      | none=>rw [hc] at hv;cases hv
      | some c =>
        cases c with
        | pr _ _=>rw [hc] at hv;cases hv
        | num c =>
          rw [hc] at hv
          refine⟨_,rfl,p,_,_,_,rfl,rfl,SqT.of hp,at0,?_⟩
          refine⟨_,rfl,rfl,_,rfl,no (by decide +kernel) ?_⟩
          refine⟨_,rfl,rfl,_,rfl,no (by decide +kernel) ?_⟩
          refine⟨_,rfl,rfl,_,rfl,yes ⟨_,rfl,p,_,_,_,rfl,rfl,SqT.of hp,at1,_,rfl,_,rfl,a1,d,g,b1,ρ,m,fdc,C,rfl,h1,by omega,hd,by omega,hg,hC,.inl ⟨_,hc,fun H2 u s2 hu2=>?_⟩⟩⟩
          obtain rfl:=v_num hu2
          refine⟨_,rfl,rfl,_,rfl,ite2 (fun z=>?_) (fun z=>?_)⟩
          · replace hv:ev C ρ b2=some v':=(if_pos z).symm.trans hv
            exact⟨_,rfl,p,_,_,_,rfl,rfl,SqT.of (s2 _ _ hp),at2,_,rfl,_,rfl,a2,d,g,b2,ρ,m,fdc,C,rfl,h2.same s2,by omega,hd.same s2,by omega,s2 _ _ hg,hC.same s2,.inl ⟨_,hv,fun H3 u s3 hu3=>q H3 u (s2.trans s3) hu3⟩⟩
          · replace hv:ev C ρ b3=some v':=(if_neg z).symm.trans hv
            exact⟨_,rfl,p,_,_,_,rfl,rfl,SqT.of (s2 _ _ hp),at3,_,rfl,_,rfl,a3,d,g,b3,ρ,m,fdc,C,rfl,h3.same s2,by omega,hd.same s2,by omega,s2 _ _ hg,hC.same s2,.inl ⟨_,hv,fun H3 u s3 hu3=>q H3 u (s2.trans s3) hu3⟩⟩
    · cases z
  | @let_ p y a1 a2 b1 b2 hp h1 h2 =>
    rcases hq with ⟨v',hv,q⟩|⟨_,_,_,_,z,_⟩
    · simp only [Ex.ht] at hn
      rw [ev] at hv
      cases hc:ev C ρ b1 with
      | none=>rw [hc] at hv;cases hv
      | some c =>
        rw [hc] at hv
        obtain⟨kvs,hk1,hk2,hk3⟩:=id hd
        refine⟨_,rfl,p,_,_,_,rfl,rfl,SqT.of hp,at0,?_⟩
        refine⟨_,rfl,rfl,_,rfl,no (by decide +kernel) ?_⟩
        refine⟨_,rfl,rfl,_,rfl,no (by decide +kernel) ?_⟩
        refine⟨_,rfl,rfl,_,rfl,no (by decide +kernel) ?_⟩
        refine⟨_,rfl,rfl,_,rfl,yes ⟨_,rfl,d,kvs,rfl,hk1,fun i hi=>?_⟩⟩
        have s1:=same_new hi (.dK kvs)
        refine⟨_,rfl,p,_,_,_,rfl,rfl,SqT.of (s1 _ _ hp),at2,_,rfl,_,rfl,a1,d,g,b1,ρ,m,fdc,C,rfl,h1.same s1,by omega,hd.same s1,by omega,s1 _ _ hg,hC.same s1,.inl ⟨_,hc,fun H2 u s2 hu2=>?_⟩⟩
        have s12:=s1.trans s2
        have hi2:=s2 _ _ (upd_same (H:=H) (a:=i) (o:=.dK kvs))
        refine⟨_,rfl,_,rfl,p,_,_,_,rfl,rfl,SqT.of (s12 _ _ hp),at1,i,_,rfl,DPut.k (k:=Sum.inr y) hi2 (small1000 (by omega)),?_⟩
        have s3:Same H (upd H2 i (.dK (putK kvs (Sum.inr y) u))):=sput s12 hi
        refine⟨_,rfl,p,_,_,_,rfl,rfl,SqT.of (s3 _ _ hp),at3,_,rfl,_,rfl,a2,i,g,b2,(fun z=>if z=y then some c else ρ z),m+1,fdc,C,rfl,h2.same s3,by omega,?_,by omega,s3 _ _ hg,hC.same s3,.inl ⟨_,hv,fun H3 u s4 hu3=>q H3 u (s3.trans s4) hu3⟩⟩
        refine⟨_,upd_same,Nat.le_trans (length_putK ..) (by omega),fun z v e=>?_⟩
        have ud:∀{x:V} {v:Vl},VAt H2 x v→VAt (upd H2 i (.dK (putK kvs (Sum.inr y) u))) x v:=fun h=>by
          induction h with
          | num=>exact .num
          | pr hp _ _ i1 i2=>exact .pr (by rw [upd_ne (ne_of hp hi2 (by intro z;cases z))];exact hp) i1 i2
        rw [valV_put]
        replace e:(if z=y then some c else ρ z)=some v:=e
        by_cases ez:z=y
        · subst ez
          rw [if_pos rfl] at e ⊢
          cases e
          exact⟨u,rfl,ud hu2⟩
        · rw [if_neg ez] at e
          rw [if_neg fun h=>ez (Sum.inr.inj h)]
          obtain⟨u',e1,e2⟩:=hk3 z v e
          exact⟨u',e1,e2.same s3⟩
    · cases z
  | @nd p fm xs es hp hxs =>
    rcases hq with ⟨v',hv,q⟩|⟨_,_,_,_,z,_⟩
    · simp only [Ex.ht] at hn
      rw [ev] at hv
      cases hc:evs C ρ es with
      | none=>rw [hc] at hv;cases hv
      | some ws =>
        rw [hc] at hv
        obtain⟨z,r,e1,_,e3,_,z1,z2,z3,z4⟩:=fm_head fm
        have hp':=hp
        rw [e1] at hp'
        refine⟨_,rfl,p,_,_,.str z,rfl,rfl,SqT.of hp',at0,?_⟩
        refine⟨_,rfl,rfl,_,rfl,no z1 ?_⟩
        refine⟨_,rfl,rfl,_,rfl,no z2 ?_⟩
        refine⟨_,rfl,rfl,_,rfl,no z3 ?_⟩
        refine⟨_,rfl,rfl,_,rfl,no z4 ?_⟩
        exact k5 p z xs es ws rfl hxs (fun e he=>by have:=hts_mem he;omega) (by omega) hc (.inl ⟨fm,v',r,e1,e3,hp,hv,q⟩)
    · cases z
  | @call p p2 q t xs es hp hp2 hxs =>
    simp only [Ex.ht] at hn
    have key:∀ws,evs C ρ es=some ws→(∀H1 l us,Same H H1→H l=none→H1 l=some (.lst us)→VsAt H1 us ws→ClosOk P w K mg base k g q t H1 l Q)→_:=fun ws hws hQ=>k5 p "call" xs es ws rfl hxs (fun e he=>by have:=hts_mem he;omega) (by omega) hws (.inr ⟨p2,q,t,rfl,hp,hp2,hQ⟩)
    refine⟨_,rfl,p,_,_,_,rfl,rfl,SqT.of hp,at0,?_⟩
    refine⟨_,rfl,rfl,_,rfl,no (by decide +kernel) ?_⟩
    refine⟨_,rfl,rfl,_,rfl,no (by decide +kernel) ?_⟩
    refine⟨_,rfl,rfl,_,rfl,no (by decide +kernel) ?_⟩
    refine⟨_,rfl,rfl,_,rfl,no (by decide +kernel) ?_⟩
    rcases hq with ⟨v',hv,q⟩|⟨q',t',es',ws,z,hws,hQ⟩
    · rw [ev] at hv
      cases hc:evs C ρ es with
      | none=>rw [hc] at hv;cases hv
      | some ws =>
        rw [hc] at hv
        exact key ws hc fun H1 l us s1 _ hl hus=>hC _ _ ws v' H1 l us hv s1 hl hus Q fun H2 u s2 hu2=>q H2 u (s1.trans s2) hu2
    · cases z
      exact key ws hws hQ
end
end K71
namespace K71
open PySem L2
theorem call_isi{X:Cx}:CallR X (.builtin "isinstance") (fun xs H Q=>∃x T t b,xs=[x,.ty T]∧TyOf X.K H x t∧PySem.W.kitOne X.K t (.type T)=some b∧Q (.bl b) H):=by
 intro pins s σ H xs us Q I rv h
 obtain⟨x,T,t,b,rfl,ty,e,q⟩:=h
 obtain⟨u,v,rfl,r1,r2⟩:=rv.two
 cases r2
 exact isinst_ok I r1 ty e fun tk=>⟨.bl b,H,I.tok _,rfl,q⟩
theorem kit_ii(K:PySem.W.Frag):PySem.W.kitOne K (.type "int") (.type "int")=some true:=rfl
theorem kit_ib(K:PySem.W.Frag):PySem.W.kitOne K (.type "int") (.type "bool")=some false:=rfl
theorem kit_is(K:PySem.W.Frag):PySem.W.kitOne K (.type "int") (.type "str")=some false:=rfl
theorem bootBoolT:bootBuiltins "bool"=some (.type "bool"):=by decide +kernel
theorem bootTuple:bootBuiltins "tuple"=some (.type "tuple"):=by decide +kernel
theorem bootStr:bootBuiltins "str"=some (.type "str"):=by decide +kernel
def Vl.ht:Vl→Nat
 |.num _=>1
 |.pr a b=>1+max a.ht b.ht
def spWhole:Sp:=fun vs H Q _=>∃n:Int,vs=[.int n]∧Q (.bl true) H
def spAlike(n:Nat):Sp:=fun vs H Q _=>∃(x y:V) (v:Vl),vs=[x,y]∧VAt H x v∧VAt H y v∧v.ht≤n∧∀H',Same H H'→Q (.bl true) H'
def spSide:Sp:=fun vs H Q _=>∃(c a m:Int) (y:Str),vs=[.int c,.str y,.int a,.int m]∧∀H' x e,Same H H'→ExAt H' x e→(e=.lit a m∨e=.var y)→Q x H'
def spNoted:Sp:=fun vs H Q _=>∃(l:Addr) (us:List V) (x y:V),vs=[.ref l,x,y]∧H l=some (.lst us)∧us.length≤100∧Q y (upd H l (.lst (us++[x])))
theorem all_true(n:Nat):(List.replicate n true).all id=true:=by
 rw [List.all_eq_true]
 intro x hx
 exact(List.mem_replicate.mp hx).2
section
variable{P:Program}{w:World}{K:PySem.W.Frag}{mg:Str→Option Value}{base:Heap}
theorem scWhole:FnScope ["_law_found"] ["_law_found"] (defScope sWhole):=⟨rfl,rfl,rfl,by decide +kernel,rfl,by decide +kernel,by decide +kernel⟩
theorem ok_whole{f:Addr}{fd:FuncData} (F:Fun K "_law_whole" "_law_whole" sWhole f fd) (mi:mg "isinstance"=none) (mI:mg "int"=none) (mb:mg "bool"=none):FnOk P w K mg base CX0 1 f fd ["_law_found"] spWhole:=by
 refine F.ok scWhole (fun vs H Q E h=>?_) (fun cdv A outer s H vs Q E hr h=>?_)
 ·obtain⟨_,rfl,_⟩:=h
  rfl
 obtain⟨n,rfl,q⟩:=h
 refine⟨_,pss_one (ps_ret (pe_and (pe_callB call_isi rfl mi bootIsi (pa_cons (pv 0) (pa_cons (pe_bltn rfl mI bootInt (v:=.ty "int") rfl) pa_nil))) (pe_one (pe_not (pe_callB call_isi rfl mi bootIsi (pa_cons (pv 0) (pa_cons (pe_bltn rfl mb bootBoolT (v:=.ty "bool") rfl) pa_nil))))))),?_⟩
 refine⟨_,rfl,.int n,"int",_,true,rfl,.int n,kit_ii K,true,rfl,iteT ?_⟩
 exact⟨_,rfl,.int n,"bool",_,false,rfl,.int n,kit_ib K,false,rfl,q⟩
abbrev alN:List Str:=["_law_found","_law_due"]
theorem scAlike:FnScope alN alN (defScope sAlike):=⟨rfl,rfl,rfl,by decide +kernel,rfl,by decide +kernel,by decide +kernel⟩
set_option maxHeartbeats 0 in
theorem ok_alike{f fw:Addr}{fd fdw:FuncData} (F:Fun K "_law_alike" "_law_alike" sAlike f fd) (bA:Binds K fd alN []) (mA:mg "_law_alike"=some (.ref f))
  (GW:FnOk P w K mg base CX0 1 fw fdw ["_law_found"] spWhole) (bW:Binds K fdw ["_law_found"] []) (kW:PySem.W.keepIn K (.ref fw)=true) (mW:mg "_law_whole"=some (.ref fw))
  (mi:mg "isinstance"=none) (ms:mg "str"=none) (mt:mg "tuple"=none) (ml:mg "len"=none) (mz:mg "zip"=none) (ma:mg "all"=none) :
  ∀n,FnOk P w K mg base CX0 (n+1) f fd alN (spAlike n)
 |0=>⟨fun vs H Q E h=>by obtain⟨x,y,d,rfl,_⟩:=h;rfl,fun A outer s H args us vs Q E _ _ _ _ h=>by
   obtain⟨x,y,d,_,_,_,h,_⟩:=h
   cases d<;>simp [Vl.ht] at h⟩
 |n+1=>by
  have IH:=ok_alike F bA mA GW bW kW mW mi ms mt ml mz ma n
  refine F.ok scAlike (fun vs H Q E h=>?_) (fun cdv A outer s H vs Q E hr h=>?_)
  ·obtain⟨x,y,d,rfl,_⟩:=h
   rfl
  obtain⟨x,y,d,rfl,hx,hy,hal,q⟩:=h
  have hr1:Room 1 _:=hr.mono (by omega)
  refine⟨_,(pss_cons (ps_if (L2.pt_val (pe_callB call_isiTA rfl mi bootIsi (pa_cons (pv 1) (pa_cons (pe_bltn rfl mt bootTuple (v:=.ty "tuple") rfl) pa_nil))))
    (pss_cons (ps_if (PW.pt (pw_or (pt_not (L2.pt_val (pe_callB call_isiTA rfl mi bootIsi (pa_cons (pv 0) (pa_cons (pe_bltn rfl mt bootTuple (v:=.ty "tuple") rfl) pa_nil))))) (pw_or1 (pt_cmpR op_ne (pe_callB call_len_seq rfl ml PySem.boot_len (pa_cons (pv 0) pa_nil)) (pe_callB call_len_seq rfl ml PySem.boot_len (pa_cons (pv 1) pa_nil)) (nomark _))))) (pss_one (ps_ret pe_bl)) pss_nil)
    (pss_one (ps_ret (pe_callB (call_allB rfl) rfl ma bootAll (pa_cons (pe_comp (own:=["_law_one","_law_other"]) (caps:=[]) (κ:=[]) (g:=gTup K 2 (gCons (gName 0) (gCons (gName 1) gNil))) rfl ⟨rfl,by decide +kernel,by decide +kernel,rfl,rfl,(fun y hy=>nomatch hy),(fun y hy=>nomatch hy)⟩ rfl
     (pi_zipQ false false rfl mz (pa_cons (pv 0) (pa_cons (pv 1) pa_nil))) (fun _ _ _ _=>pg_tup rfl (pgs_cons (pg_name (i:=0) (show(["_law_one","_law_other"]:List Str).Nodup from by decide +kernel) rfl (Or.inl rfl)) (pgs_cons (pg_name (i:=1) (show(["_law_one","_law_other"]:List Str).Nodup from by decide +kernel) rfl (Or.inl rfl)) pgs_nil)))
     (fun _ _ _ _=>pe_call IH hr rfl mA F.kp bA .nil pass0 (pa_cons (pv 0) (pa_cons (pv 1) pa_nil)))) pa_nil))))) pss_nil)
   (pss_cons (ps_if (L2.pt_val (pe_callB call_isi rfl mi bootIsi (pa_cons (pv 1) (pa_cons (pe_bltn rfl ms bootStr (v:=.ty "str") rfl) pa_nil)))) pss_no pss_nil)
   (pss_one (ps_ret (pe_and (pe_call GW hr1 rfl mW kW bW .nil pass0 (pa_cons (pv 0) pa_nil)) (pe_one (pe_cmpR op_eq (pv 0) (pv 1) (nomark _)))))))),?_⟩
  cases hy with
  |@num i0 =>
   obtain rfl:=v_num hx
   refine⟨_,rfl,.int i0,rfl,.inr (.inl ⟨i0,rfl,false,rfl,iteF ?_⟩)⟩
   refine⟨_,rfl,.int i0,"str",_,false,rfl,.int i0,kit_is K,false,rfl,iteF ?_⟩
   refine⟨_,rfl,i0,rfl,true,rfl,iteT ⟨_,rfl,_,rfl,rfl,?_⟩⟩
   show Q (.bl (decide (V.int i0=V.int i0))) H
   rw [decide_eq_true rfl]
   exact q _ (Same.refl _)
  |@pr b y1 y2 v1 v2 hb hy1 hy2 =>
   obtain⟨a,x1,x2,rfl,ha,hx1,hx2⟩:=v_pr hx
   simp only [Vl.ht] at hal
   refine⟨_,rfl,.ref b,rfl,.inr (.inr ⟨b,_,rfl,SqT.of hb,true,rfl,iteT ?_⟩)⟩
   refine⟨_,rfl,.ref a,rfl,.inr (.inr ⟨a,_,rfl,SqT.of ha,true,rfl,iteF ⟨_,rfl,a,_,rfl,.inr (SqT.of ha),_,rfl,b,_,rfl,.inr (SqT.of hb),rfl,_,rfl,iteF ?_⟩⟩)⟩
   refine⟨_,rfl,_,rfl,a,b,[x1,x2],[y1,y2],rfl,ha,hb,?_⟩
   refine comp_zipQ (b:=false) (c:=false) (xs:=[x1,x2]) (ys:=[y1,y2]) (fun i zs H3=>i≤2∧Same H H3∧zs=(List.replicate i true).map V.bl) ⟨Nat.zero_le _,Same.refl _,rfl⟩ (by show 2≤sizeLine;decide) rfl ?_ ?_ ?_ ?_
   ·rintro i zs H3 ⟨hi,_,rfl⟩
    rw [List.length_map,List.length_replicate]
    exact Nat.le_refl _
   ·rintro i zs H3 ⟨_,s3,_⟩
    exact⟨s3 _ _ ha,s3 _ _ hb⟩
   ·rintro i x y p zs H3 N hN hx hy hp ⟨hi,s3,rfl⟩
    have s4:=s3.trans (same_new hp (.tup [x,y]))
    have hv:∃v,VAt H x v∧VAt H y v∧v.ht≤n:=by
     match i,hx,hy with
     |0,hx,hy=>cases hx;cases hy;exact⟨v1,hx1,hy1,by omega⟩
     |1,hx,hy=>cases hx;cases hy;exact⟨v2,hx2,hy2,by omega⟩
     |i+2,hx,hy=>simp at hx
    have hi2:i < 2:=(List.getElem?_eq_some_iff.mp hx).1
    obtain⟨v,e1,e2,e3⟩:=hv
    refine⟨p,_,rfl,SqT.of upd_same,rfl,_,_,rfl,_,_,rfl,rfl,rfl,tYes_go ⟨_,rfl,_,rfl,x,y,v,rfl,e1.same s4,e2.same s4,e3,fun H5 s5=>hN _ _ ⟨by omega,s4.trans s5,?_⟩⟩⟩
    rw [List.replicate_succ',List.map_append]
    rfl
   ·rintro zs H3 D ⟨hi,s3,rfl⟩ hD
    refine⟨D,List.replicate _ true,rfl,SqL.of upd_same,?_⟩
    rw [all_true]
    exact q _ (s3.trans (same_new hD _))
theorem scSide:FnScope ["_law_cell","_law_name","_law_value","_law_many"] ["_law_cell","_law_name","_law_value","_law_many"] (defScope sSide):=⟨rfl,rfl,rfl,by decide +kernel,rfl,by decide +kernel,by decide +kernel⟩
theorem ok_side{f:Addr}{fd:FuncData} (F:Fun K "_law_side" "_law_side" sSide f fd):FnOk P w K mg base CX0 1 f fd ["_law_cell","_law_name","_law_value","_law_many"] spSide:=by
 refine F.ok scSide (fun vs H Q E h=>?_) (fun cdv A outer s H vs Q E hr h=>?_)
 ·obtain⟨_,_,_,_,rfl,_⟩:=h
  rfl
 obtain⟨c,a,m,y,rfl,q⟩:=h
 refine⟨_,pss_cons (ps_if (pt_cmpR op_eq (pe_op op_mod (pv 0) pe_int) pe_int (nomark _)) (pss_one (ps_ret (pe_tup (pa_cons pe_str (pa_cons (pv 2) (pa_cons (pv 3) pa_nil)))))) pss_nil) (pss_one (ps_ret (pe_tup (pa_cons pe_str (pa_cons (pv 1) pa_nil))))),?_⟩
 refine⟨_,rfl,_,_,rfl,rfl,(by show(0:Int) < 2;decide),rfl,_,rfl,ite2 (fun _=>?_) (fun _=>?_)⟩
 ·exact⟨_,rfl,_,rfl,(by show 3≤sizeLine;decide),fun p hp=>q _ _ _ (same_new hp _) (.lit upd_same) (.inl rfl)⟩
 ·exact⟨_,rfl,(by show 2≤sizeLine;decide),fun p hp=>q _ _ _ (same_new hp _) (.var upd_same) (.inr rfl)⟩
theorem scNoted:FnScope ["_law_heard","_law_call","_law_reply"] ["_law_heard","_law_call","_law_reply"] (defScope sNoted):=⟨rfl,rfl,rfl,by decide +kernel,rfl,by decide +kernel,by decide +kernel⟩
theorem ok_noted{f:Addr}{fd:FuncData} (F:Fun K "_law_noted" "_law_noted" sNoted f fd):FnOk P w K mg base CX0 1 f fd ["_law_heard","_law_call","_law_reply"] spNoted:=by
 refine F.ok scNoted (fun vs H Q E h=>?_) (fun cdv A outer s H vs Q E hr h=>?_)
 ·obtain⟨_,_,_,_,rfl,_⟩:=h
  rfl
 obtain⟨l,us,x,y,rfl,hl,hu,q⟩:=h
 refine⟨_,pss_cons (ps_expr (pe_bm PySem.F.plainAttrs_list PySem.F.slot_list_append PySem.F.type_list_append mt_append (pv 0) (pa_cons (pv 1) pa_nil))) (pss_one (ps_ret (pv 2))),?_⟩
 exact⟨_,rfl,.inl ⟨rfl,_,SqL.of hl⟩,_,rfl,l,_,_,rfl,rfl,hl,small1000 (by omega),_,rfl,q⟩
end
end K71
namespace K71
open PySem L2
abbrev C0:Orc:=fun _ _ _=>none
def CaseAt(H:Hp)(ρ:Str→Option Vl)(x:V):Prop:=∃(p:Addr) (xe y:V) (e:Ex) (v:Vl),x=.ref p∧H p=some (.tup [xe,y])∧ExAt H xe e∧VAt H y v∧e.ht≤5∧v.ht≤3∧ev C0 ρ e=some v
theorem CaseAt.same{H H':Hp}{ρ:Str→Option Vl}{x:V}(h:CaseAt H ρ x)(s:Same H H'):CaseAt H' ρ x:=by
 obtain⟨p,xe,y,e,v,h1,h2,h3,h4,h5⟩:=h
 exact⟨p,xe,y,e,v,h1,s _ _ h2,h3.same s,h4.same s,h5⟩
def Sd(H:Hp)(x:V)(e:Ex)(ρ:Str→Option Vl)(a:Int):Prop:=ExAt H x e∧e.ht=1∧ev C0 ρ e=some (.num a)
def spReckL:Sp:=fun vs H Q _=>∃(x y:V) (d1 d2:Ex) (a b m:Int) (ρ:Str→Option Vl),vs=[x,y,.int a,.int b,.int m]∧Sd H x d1 ρ a∧Sd H y d2 ρ b∧0 < m∧(-(2 ^ 64) < a∧a < 2 ^ 64)∧∀H' (l:Addr) (xs:List V),Same H H'→H' l=some (.lst xs)→xs.length≤5→(∀x∈xs,CaseAt H' ρ x)→Q (.ref l) H'
def spCasesL(K:PySem.W.Frag):Sp:=fun vs H Q _=>∃(w:Addr) (x y:V) (d1 d2:Ex) (a b m:Int) (ρ:Str→Option Vl) (X Y Z W:Str),vs=[.ref w,x,y,.int a,.int b,.int m]∧SqL K H w [.str X,.str Y,.str Z,.str W]∧Sd H x d1 ρ a∧Sd H y d2 ρ b∧0 < m ∧
 ρ X=some (.num a)∧ρ Y=some (.num b)∧ρ Z=some (.pr (.num a) (.num b))∧X≠Y∧Z≠W∧∀H' (l:Addr) (xs:List V),Same H H'→H' l=some (.lst xs)→xs.length≤12→(∀x∈xs,CaseAt H' ρ x)→Q (.ref l) H'
theorem mem5{p:V→Prop}{a b c d e:V}(ha:p a)(hb:p b)(hc:p c)(hd:p d)(he:p e):∀x∈[a,b,c,d,e],p x:=fun x hx=>by
 simp only [List.mem_cons,List.not_mem_nil,or_false] at hx
 rcases hx with rfl|rfl|rfl|rfl|rfl<;>assumption
section
variable{P:Program}{w:World}{K:PySem.W.Frag}{mg:Str→Option Value}{base:Heap}
abbrev rlN:List Str:=["_law_one","_law_other","_law_a","_law_b","_law_many"]
theorem scReckL:FnScope rlN rlN (defScope sReckL):=⟨rfl,rfl,rfl,by decide +kernel,rfl,by decide +kernel,by decide +kernel⟩
set_option maxHeartbeats 0 in
theorem ok_reckL{f:Addr}{fd:FuncData} (F:Fun K "_law_reckoned" "_law_reckoned" sReckL f fd) (mi:mg "int"=none):FnOk P w K mg base CX0 1 f fd rlN spReckL:=by
 refine F.ok scReckL (fun vs H Q E h=>?_) (fun cdv A outer s H vs Q E hr h=>?_)
 ·obtain⟨_,_,_,_,_,_,_,_,rfl,_⟩:=h
  rfl
 obtain⟨x,y,d1,d2,a,b,m,ρ,rfl,hx,hy,hm,ha,q⟩:=h
 refine⟨_,@pss_one _ _ _ (@ps_ret _ _ _ _ (pe_lst (@pa_cons _ _ _ _ _ (@pe_tup _ _ _ _ _ (@pa_cons _ _ _ _ _ (@pe_tup _ _ _ _ _ (@pa_cons _ _ _ _ _ pe_str (@pa_cons _ _ _ _ _ pe_str (@pa_cons _ _ _ _ _ (pv 4) (@pa_cons _ _ _ _ _ (pv 0) (@pa_cons _ _ _ _ _ (pv 1) pa_nil rfl) rfl) rfl) rfl) rfl)) (@pa_cons _ _ _ _ _ (pe_op op_mod (pe_op op_add (pv 2) (pv 3)) (pv 4)) pa_nil rfl) rfl)) (@pa_cons _ _ _ _ _ (@pe_tup _ _ _ _ _ (@pa_cons _ _ _ _ _ (@pe_tup _ _ _ _ _ (@pa_cons _ _ _ _ _ pe_str (@pa_cons _ _ _ _ _ pe_str (@pa_cons _ _ _ _ _ (pv 4) (@pa_cons _ _ _ _ _ (pv 0) (@pa_cons _ _ _ _ _ (pv 1) pa_nil rfl) rfl) rfl) rfl) rfl)) (@pa_cons _ _ _ _ _ (pe_op op_mod (pe_op op_sub (pv 2) (pv 3)) (pv 4)) pa_nil rfl) rfl)) (@pa_cons _ _ _ _ _ (@pe_tup _ _ _ _ _ (@pa_cons _ _ _ _ _ (@pe_tup _ _ _ _ _ (@pa_cons _ _ _ _ _ pe_str (@pa_cons _ _ _ _ _ pe_str (@pa_cons _ _ _ _ _ (pv 4) (@pa_cons _ _ _ _ _ (pv 0) (@pa_cons _ _ _ _ _ (pv 1) pa_nil rfl) rfl) rfl) rfl) rfl)) (@pa_cons _ _ _ _ _ (pe_op op_mod (pe_op op_mul (pv 2) (pv 3)) (pv 4)) pa_nil rfl) rfl)) (@pa_cons _ _ _ _ _ (@pe_tup _ _ _ _ _ (@pa_cons _ _ _ _ _ (@pe_tup _ _ _ _ _ (@pa_cons _ _ _ _ _ pe_str (@pa_cons _ _ _ _ _ pe_str (@pa_cons _ _ _ _ _ (pv 0) (@pa_cons _ _ _ _ _ (pv 1) pa_nil rfl) rfl) rfl) rfl)) (@pa_cons _ _ _ _ _ (pe_callTy call_int1 rfl mi bootInt (@pa_cons _ _ _ _ _ (pe_cmpR op_eq (pv 2) (pv 3) (nomark _)) pa_nil rfl)) pa_nil rfl) rfl)) (@pa_cons _ _ _ _ _ (@pe_tup _ _ _ _ _ (@pa_cons _ _ _ _ _ (@pe_tup _ _ _ _ _ (@pa_cons _ _ _ _ _ pe_str (@pa_cons _ _ _ _ _ pe_str (@pa_cons _ _ _ _ _ (pv 0) (@pa_cons _ _ _ _ _ (pv 1) pa_nil rfl) rfl) rfl) rfl)) (@pa_cons _ _ _ _ _ (pe_callTy call_int1 rfl mi bootInt (@pa_cons _ _ _ _ _ (pe_cmpR op_lt (pv 2) (pv 3) (nomark _)) pa_nil rfl)) pa_nil rfl) rfl)) pa_nil rfl) rfl) rfl) rfl) rfl))),?_⟩
 refine⟨_,rfl,_,rfl,_,rfl,(by show 5≤sizeLine;decide),fun p1 h1=>?_⟩
 have e1:=same_new h1 (.tup [.str "op",.str "+",.int m,x,y])
 have s1:=e1
 refine⟨_,rfl,_,rfl,_,_,rfl,rfl,_,rfl,_,_,rfl,rfl,hm,(by show 2≤sizeLine;decide),fun p2 h2=>?_⟩
 have e2:=same_new h2 (.tup [.ref p1,.int ((a+b)%m)])
 have s2:=s1.trans e2
 refine⟨_,rfl,_,rfl,_,rfl,(by show 5≤sizeLine;decide),fun p3 h3=>?_⟩
 have e3:=same_new h3 (.tup [.str "op",.str "-",.int m,x,y])
 have s3:=s2.trans e3
 refine⟨_,rfl,_,rfl,_,_,rfl,rfl,_,rfl,_,_,rfl,rfl,hm,(by show 2≤sizeLine;decide),fun p4 h4=>?_⟩
 have e4:=same_new h4 (.tup [.ref p3,.int ((a - b)%m)])
 have s4:=s3.trans e4
 refine⟨_,rfl,_,rfl,_,rfl,(by show 5≤sizeLine;decide),fun p5 h5=>?_⟩
 have e5:=same_new h5 (.tup [.str "op",.str "*",.int m,x,y])
 have s5:=s4.trans e5
 refine⟨_,rfl,_,rfl,_,_,rfl,rfl,.inl ha,_,rfl,_,_,rfl,rfl,hm,(by show 2≤sizeLine;decide),fun p6 h6=>?_⟩
 have e6:=same_new h6 (.tup [.ref p5,.int (a*b%m)])
 have s6:=s5.trans e6
 refine⟨_,rfl,_,rfl,(by show 4≤sizeLine;decide),fun p7 h7=>?_⟩
 have e7:=same_new h7 (.tup [.str "test",.str "=",x,y])
 have s7:=s6.trans e7
 refine⟨_,rfl,_,rfl,rfl,.inr ⟨_,rfl,?_⟩⟩
 refine⟨(by show 2≤sizeLine;decide),fun p8 h8=>?_⟩
 have e8:=same_new h8 (.tup [.ref p7,.int (if decide (V.int a=V.int b)=true then 1 else 0)])
 have s8:=s7.trans e8
 refine⟨_,rfl,_,rfl,(by show 4≤sizeLine;decide),fun p9 h9=>?_⟩
 have e9:=same_new h9 (.tup [.str "test",.str "<",x,y])
 have s9:=s8.trans e9
 refine⟨_,rfl,_,rfl,_,_,rfl,rfl,.inr ⟨_,rfl,?_⟩⟩
 refine⟨(by show 2≤sizeLine;decide),fun p10 h10=>?_⟩
 have e10:=same_new h10 (.tup [.ref p9,.int (if decide (a < b)=true then 1 else 0)])
 have s10:=s9.trans e10
 refine⟨(by show 5≤sizeLine;decide),fun p11 h11=>?_⟩
 have e11:=same_new h11 (.lst [.ref p2,.ref p4,.ref p6,.ref p8,.ref p10])
 have s11:=s10.trans e11
 have t10:=e11
 have t9:=e10.trans t10
 have t8:=e9.trans t9
 have t7:=e8.trans t8
 have t6:=e7.trans t7
 have t5:=e6.trans t6
 have t4:=e5.trans t5
 have t3:=e4.trans t4
 have t2:=e3.trans t3
 have t1:=e2.trans t2
 have hx':=hx.1.same s11
 have hy':=hy.1.same s11
 have he:∀(f:Fm) (v:Vl),fmV f [.num a,.num b]=some v→ev C0 ρ (.nd f [d1,d2])=some v:=fun f v h=>by
  rw [ev,evs,hx.2.2,evs,hy.2.2,evs];exact h
 have hh:∀f:Fm,(Ex.nd f [d1,d2]).ht≤5:=fun f=>by simp only [Ex.ht,hts,hx.2.1,hy.2.1,List.length_cons,List.length_nil];decide
 exact q _ _ _ s11 upd_same (Nat.le_refl _) (mem5
  ⟨_,_,_,.nd (.op "+" m) [d1,d2],.num ((a+b)%m),rfl,(t2 _ _ upd_same),.nd (t1 _ _ upd_same) (.cons hx' (.cons hy' .nil)),.num,hh _,by simp only [Vl.ht];decide,he _ _ (by rw [fmV,if_pos ⟨hm,ha.1,ha.2⟩];rfl)⟩
  ⟨_,_,_,.nd (.op "-" m) [d1,d2],.num ((a - b)%m),rfl,(t4 _ _ upd_same),.nd (t3 _ _ upd_same) (.cons hx' (.cons hy' .nil)),.num,hh _,by simp only [Vl.ht];decide,he _ _ (by rw [fmV,if_pos ⟨hm,ha.1,ha.2⟩];rfl)⟩
  ⟨_,_,_,.nd (.op "*" m) [d1,d2],.num (a*b%m),rfl,(t6 _ _ upd_same),.nd (t5 _ _ upd_same) (.cons hx' (.cons hy' .nil)),.num,hh _,by simp only [Vl.ht];decide,he _ _ (by rw [fmV,if_pos ⟨hm,ha.1,ha.2⟩];rfl)⟩
  ⟨_,_,_,.nd (.test "=") [d1,d2],.num (if decide (V.int a=V.int b)=true then 1 else 0),rfl,(t8 _ _ upd_same),.nd (t7 _ _ upd_same) (.cons hx' (.cons hy' .nil)),.num,hh _,by simp only [Vl.ht];decide,he _ _ (rfl)⟩
  ⟨_,_,_,.nd (.test "<") [d1,d2],.num (if decide (a < b)=true then 1 else 0),rfl,(t10 _ _ upd_same),.nd (t9 _ _ upd_same) (.cons hx' (.cons hy' .nil)),.num,hh _,by simp only [Vl.ht];decide,he _ _ (rfl)⟩)
abbrev csN:List Str:=["_law_words_here","_law_one","_law_other","_law_a","_law_b","_law_less","_law_x","_law_y","_law_z","_law_w","_law_both"]
theorem scCasesL:FnScope csN ["_law_words_here","_law_one","_law_other","_law_a","_law_b","_law_less"] (defScope sCasesL):=⟨rfl,rfl,rfl,by decide +kernel,rfl,by decide +kernel,by decide +kernel⟩
theorem mem12{p:V→Prop}{a b c d e f g h i j k l:V}(h1:p a)(h2:p b)(h3:p c)(h4:p d)(h5:p e)(h6:p f)(h7:p g)(h8:p h)(h9:p i)(h10:p j)(h11:p k)(h12:p l):∀x∈[a,b,c,d,e,f,g,h,i,j,k,l],p x:=fun x hx=>by
 simp only [List.mem_cons,List.not_mem_nil,or_false] at hx
 rcases hx with rfl|rfl|rfl|rfl|rfl|rfl|rfl|rfl|rfl|rfl|rfl|rfl<;>assumption
set_option maxHeartbeats 0 in
theorem ok_casesL{f:Addr}{fd:FuncData} (F:Fun K "_law_cases" "_law_cases" sCasesL f fd):FnOk P w K mg base CX0 1 f fd ["_law_words_here","_law_one","_law_other","_law_a","_law_b","_law_less"] (spCasesL K):=by
 refine F.ok scCasesL (fun vs H Q E h=>?_) (fun cdv A outer s H vs Q E hr h=>?_)
 ·obtain⟨_,_,_,_,_,_,_,_,_,_,_,_,_,rfl,_⟩:=h
  rfl
 obtain⟨wl,x,y,d1,d2,a,b,m,ρ,X,Y,Z,W,rfl,hw,hx,hy,hm,rX,rY,rZ,nXY,nZW,q⟩:=h
 refine⟨_,@pss_cons _ _ _ _ _ (ps_asg (pv 0) (pg_lst rfl (pgs_cons (pg_name (i:=6) scCasesL.nd rfl (Or.inl rfl)) (pgs_cons (pg_name (i:=7) scCasesL.nd rfl (Or.inl rfl)) (pgs_cons (pg_name (i:=8) scCasesL.nd rfl (Or.inl rfl)) (pgs_cons (pg_name (i:=9) scCasesL.nd rfl (Or.inl rfl)) pgs_nil)))))) (@pss_cons _ _ _ _ _ (ps_set (i:=10) scCasesL.nd rfl (Or.inl rfl) (@pe_tup _ _ _ _ _ (@pa_cons _ _ _ _ _ pe_str (@pa_cons _ _ _ _ _ (pv 1) (@pa_cons _ _ _ _ _ (pv 2) pa_nil rfl) rfl) rfl))) (@pss_one _ _ _ (@ps_ret _ _ _ _ (pe_lst (@pa_cons _ _ _ _ _ (@pe_tup _ _ _ _ _ (@pa_cons _ _ _ _ _ (@pe_tup _ _ _ _ _ (@pa_cons _ _ _ _ _ pe_str (@pa_cons _ _ _ _ _ (pv 3) (@pa_cons _ _ _ _ _ (pe_op op_add (pv 3) pe_int) pa_nil rfl) rfl) rfl)) (@pa_cons _ _ _ _ _ (pv 3) pa_nil rfl) rfl)) (@pa_cons _ _ _ _ _ (@pe_tup _ _ _ _ _ (@pa_cons _ _ _ _ _ (@pe_tup _ _ _ _ _ (@pa_cons _ _ _ _ _ pe_str (@pa_cons _ _ _ _ _ (pv 7) pa_nil rfl) rfl)) (@pa_cons _ _ _ _ _ (pv 4) pa_nil rfl) rfl)) (@pa_cons _ _ _ _ _ (@pe_tup _ _ _ _ _ (@pa_cons _ _ _ _ _ (@pe_tup _ _ _ _ _ (@pa_cons _ _ _ _ _ pe_str (@pa_cons _ _ _ _ _ (pv 8) pa_nil rfl) rfl)) (@pa_cons _ _ _ _ _ (@pe_tup _ _ _ _ _ (@pa_cons _ _ _ _ _ (pv 3) (@pa_cons _ _ _ _ _ (pv 4) pa_nil rfl) rfl)) pa_nil rfl) rfl)) (@pa_cons _ _ _ _ _ (@pe_tup _ _ _ _ _ (@pa_cons _ _ _ _ _ (@pe_tup _ _ _ _ _ (@pa_cons _ _ _ _ _ pe_str (@pa_cons _ _ _ _ _ (pv 5) (@pa_cons _ _ _ _ _ (pv 1) pa_nil rfl) rfl) rfl)) (@pa_cons _ _ _ _ _ (pe_op op_mod (pv 3) (pv 5)) pa_nil rfl) rfl)) (@pa_cons _ _ _ _ _ (@pe_tup _ _ _ _ _ (@pa_cons _ _ _ _ _ (@pe_tup _ _ _ _ _ (@pa_cons _ _ _ _ _ pe_str (@pa_cons _ _ _ _ _ (@pe_tup _ _ _ _ _ (@pa_cons _ _ _ _ _ pe_str (@pa_cons _ _ _ _ _ pe_int (@pa_cons _ _ _ _ _ pe_int pa_nil rfl) rfl) rfl)) (@pa_cons _ _ _ _ _ (pv 1) (@pa_cons _ _ _ _ _ (pv 2) pa_nil rfl) rfl) rfl) rfl)) (@pa_cons _ _ _ _ _ (pv 3) pa_nil rfl) rfl)) (@pa_cons _ _ _ _ _ (@pe_tup _ _ _ _ _ (@pa_cons _ _ _ _ _ (@pe_tup _ _ _ _ _ (@pa_cons _ _ _ _ _ pe_str (@pa_cons _ _ _ _ _ (@pe_tup _ _ _ _ _ (@pa_cons _ _ _ _ _ pe_str (@pa_cons _ _ _ _ _ pe_int (@pa_cons _ _ _ _ _ pe_int pa_nil rfl) rfl) rfl)) (@pa_cons _ _ _ _ _ (pv 1) (@pa_cons _ _ _ _ _ (pv 2) pa_nil rfl) rfl) rfl) rfl)) (@pa_cons _ _ _ _ _ (pv 4) pa_nil rfl) rfl)) (@pa_cons _ _ _ _ _ (@pe_tup _ _ _ _ _ (@pa_cons _ _ _ _ _ (@pe_tup _ _ _ _ _ (@pa_cons _ _ _ _ _ pe_str (@pa_cons _ _ _ _ _ (pv 7) (@pa_cons _ _ _ _ _ (pv 1) (@pa_cons _ _ _ _ _ (@pe_tup _ _ _ _ _ (@pa_cons _ _ _ _ _ pe_str (@pa_cons _ _ _ _ _ (@pe_tup _ _ _ _ _ (@pa_cons _ _ _ _ _ pe_str (@pa_cons _ _ _ _ _ (pv 7) pa_nil rfl) rfl)) (@pa_cons _ _ _ _ _ (@pe_tup _ _ _ _ _ (@pa_cons _ _ _ _ _ pe_str (@pa_cons _ _ _ _ _ (pv 6) pa_nil rfl) rfl)) pa_nil rfl) rfl) rfl)) pa_nil rfl) rfl) rfl) rfl)) (@pa_cons _ _ _ _ _ (@pe_tup _ _ _ _ _ (@pa_cons _ _ _ _ _ (pv 3) (@pa_cons _ _ _ _ _ (pv 3) pa_nil rfl) rfl)) pa_nil rfl) rfl)) (@pa_cons _ _ _ _ _ (@pe_tup _ _ _ _ _ (@pa_cons _ _ _ _ _ (@pe_tup _ _ _ _ _ (@pa_cons _ _ _ _ _ pe_str (@pa_cons _ _ _ _ _ (pv 9) (@pa_cons _ _ _ _ _ (pv 2) (@pa_cons _ _ _ _ _ (@pe_tup _ _ _ _ _ (@pa_cons _ _ _ _ _ pe_str (@pa_cons _ _ _ _ _ (@pe_tup _ _ _ _ _ (@pa_cons _ _ _ _ _ pe_str (@pa_cons _ _ _ _ _ (pv 9) pa_nil rfl) rfl)) (@pa_cons _ _ _ _ _ (@pe_tup _ _ _ _ _ (@pa_cons _ _ _ _ _ pe_str (@pa_cons _ _ _ _ _ (pv 8) pa_nil rfl) rfl)) pa_nil rfl) rfl) rfl)) pa_nil rfl) rfl) rfl) rfl)) (@pa_cons _ _ _ _ _ (@pe_tup _ _ _ _ _ (@pa_cons _ _ _ _ _ (pv 4) (@pa_cons _ _ _ _ _ (@pe_tup _ _ _ _ _ (@pa_cons _ _ _ _ _ (pv 3) (@pa_cons _ _ _ _ _ (pv 4) pa_nil rfl) rfl)) pa_nil rfl) rfl)) pa_nil rfl) rfl)) (@pa_cons _ _ _ _ _ (@pe_tup _ _ _ _ _ (@pa_cons _ _ _ _ _ (pv 10) (@pa_cons _ _ _ _ _ (@pe_tup _ _ _ _ _ (@pa_cons _ _ _ _ _ (pv 3) (@pa_cons _ _ _ _ _ (pv 4) pa_nil rfl) rfl)) pa_nil rfl) rfl)) (@pa_cons _ _ _ _ _ (@pe_tup _ _ _ _ _ (@pa_cons _ _ _ _ _ (@pe_tup _ _ _ _ _ (@pa_cons _ _ _ _ _ pe_str (@pa_cons _ _ _ _ _ (pv 10) pa_nil rfl) rfl)) (@pa_cons _ _ _ _ _ (pv 3) pa_nil rfl) rfl)) (@pa_cons _ _ _ _ _ (@pe_tup _ _ _ _ _ (@pa_cons _ _ _ _ _ (@pe_tup _ _ _ _ _ (@pa_cons _ _ _ _ _ pe_str (@pa_cons _ _ _ _ _ (pv 10) pa_nil rfl) rfl)) (@pa_cons _ _ _ _ _ (pv 4) pa_nil rfl) rfl)) (@pa_cons _ _ _ _ _ (@pe_tup _ _ _ _ _ (@pa_cons _ _ _ _ _ (@pe_tup _ _ _ _ _ (@pa_cons _ _ _ _ _ pe_str (@pa_cons _ _ _ _ _ (@pe_tup _ _ _ _ _ (@pa_cons _ _ _ _ _ pe_str (@pa_cons _ _ _ _ _ (pv 8) pa_nil rfl) rfl)) pa_nil rfl) rfl)) (@pa_cons _ _ _ _ _ (pv 4) pa_nil rfl) rfl)) pa_nil rfl) rfl) rfl) rfl) rfl) rfl) rfl) rfl) rfl) rfl) rfl) rfl))))),?_⟩
 refine⟨_,rfl,wl,_,rfl,hw,rfl,_,_,rfl,_,_,rfl,_,_,rfl,_,_,rfl,rfl,_,rfl,_,rfl,(by show 3≤sizeLine;decide),fun p1 h1=>?_⟩
 have e1:=same_new h1 (.tup [.str "two",x,y])
 have s1:=e1
 refine⟨_,rfl,_,rfl,_,_,rfl,rfl,(by show 3≤sizeLine;decide),fun p2 h2=>?_⟩
 have e2:=same_new h2 (.tup [.str "lit",.int a,.int (a+1)])
 have s2:=s1.trans e2
 refine⟨_,rfl,(by show 2≤sizeLine;decide),fun p3 h3=>?_⟩
 have e3:=same_new h3 (.tup [.ref p2,.int a])
 have s3:=s2.trans e3
 refine⟨_,rfl,(by show 2≤sizeLine;decide),fun p4 h4=>?_⟩
 have e4:=same_new h4 (.tup [.str "var",.str Y])
 have s4:=s3.trans e4
 refine⟨_,rfl,(by show 2≤sizeLine;decide),fun p5 h5=>?_⟩
 have e5:=same_new h5 (.tup [.ref p4,.int b])
 have s5:=s4.trans e5
 refine⟨_,rfl,(by show 2≤sizeLine;decide),fun p6 h6=>?_⟩
 have e6:=same_new h6 (.tup [.str "var",.str Z])
 have s6:=s5.trans e6
 refine⟨_,rfl,_,rfl,(by show 2≤sizeLine;decide),fun p7 h7=>?_⟩
 have e7:=same_new h7 (.tup [.int a,.int b])
 have s7:=s6.trans e7
 refine⟨(by show 2≤sizeLine;decide),fun p8 h8=>?_⟩
 have e8:=same_new h8 (.tup [.ref p6,.ref p7])
 have s8:=s7.trans e8
 refine⟨_,rfl,_,rfl,(by show 3≤sizeLine;decide),fun p9 h9=>?_⟩
 have e9:=same_new h9 (.tup [.str "as",.int m,x])
 have s9:=s8.trans e9
 refine⟨_,rfl,_,rfl,_,_,rfl,rfl,hm,(by show 2≤sizeLine;decide),fun p10 h10=>?_⟩
 have e10:=same_new h10 (.tup [.ref p9,.int (a%m)])
 have s10:=s9.trans e10
 refine⟨(by show 3≤sizeLine;decide),fun p11 h11=>?_⟩
 have e11:=same_new h11 (.tup [.str "lit",.int 1,.int 2])
 have s11:=s10.trans e11
 refine⟨_,rfl,_,rfl,(by show 4≤sizeLine;decide),fun p12 h12=>?_⟩
 have e12:=same_new h12 (.tup [.str "if",.ref p11,x,y])
 have s12:=s11.trans e12
 refine⟨_,rfl,(by show 2≤sizeLine;decide),fun p13 h13=>?_⟩
 have e13:=same_new h13 (.tup [.ref p12,.int a])
 have s13:=s12.trans e13
 refine⟨(by show 3≤sizeLine;decide),fun p14 h14=>?_⟩
 have e14:=same_new h14 (.tup [.str "lit",.int 0,.int 2])
 have s14:=s13.trans e14
 refine⟨_,rfl,_,rfl,(by show 4≤sizeLine;decide),fun p15 h15=>?_⟩
 have e15:=same_new h15 (.tup [.str "if",.ref p14,x,y])
 have s15:=s14.trans e15
 refine⟨_,rfl,(by show 2≤sizeLine;decide),fun p16 h16=>?_⟩
 have e16:=same_new h16 (.tup [.ref p15,.int b])
 have s16:=s15.trans e16
 refine⟨_,rfl,_,rfl,_,rfl,(by show 2≤sizeLine;decide),fun p17 h17=>?_⟩
 have e17:=same_new h17 (.tup [.str "var",.str Y])
 have s17:=s16.trans e17
 refine⟨_,rfl,(by show 2≤sizeLine;decide),fun p18 h18=>?_⟩
 have e18:=same_new h18 (.tup [.str "var",.str X])
 have s18:=s17.trans e18
 refine⟨(by show 3≤sizeLine;decide),fun p19 h19=>?_⟩
 have e19:=same_new h19 (.tup [.str "two",.ref p17,.ref p18])
 have s19:=s18.trans e19
 refine⟨(by show 4≤sizeLine;decide),fun p20 h20=>?_⟩
 have e20:=same_new h20 (.tup [.str "let",.str Y,x,.ref p19])
 have s20:=s19.trans e20
 refine⟨_,rfl,_,rfl,(by show 2≤sizeLine;decide),fun p21 h21=>?_⟩
 have e21:=same_new h21 (.tup [.int a,.int a])
 have s21:=s20.trans e21
 refine⟨(by show 2≤sizeLine;decide),fun p22 h22=>?_⟩
 have e22:=same_new h22 (.tup [.ref p20,.ref p21])
 have s22:=s21.trans e22
 refine⟨_,rfl,_,rfl,_,rfl,(by show 2≤sizeLine;decide),fun p23 h23=>?_⟩
 have e23:=same_new h23 (.tup [.str "var",.str W])
 have s23:=s22.trans e23
 refine⟨_,rfl,(by show 2≤sizeLine;decide),fun p24 h24=>?_⟩
 have e24:=same_new h24 (.tup [.str "var",.str Z])
 have s24:=s23.trans e24
 refine⟨(by show 3≤sizeLine;decide),fun p25 h25=>?_⟩
 have e25:=same_new h25 (.tup [.str "two",.ref p23,.ref p24])
 have s25:=s24.trans e25
 refine⟨(by show 4≤sizeLine;decide),fun p26 h26=>?_⟩
 have e26:=same_new h26 (.tup [.str "let",.str W,y,.ref p25])
 have s26:=s25.trans e26
 refine⟨_,rfl,_,rfl,_,rfl,(by show 2≤sizeLine;decide),fun p27 h27=>?_⟩
 have e27:=same_new h27 (.tup [.int a,.int b])
 have s27:=s26.trans e27
 refine⟨(by show 2≤sizeLine;decide),fun p28 h28=>?_⟩
 have e28:=same_new h28 (.tup [.int b,.ref p27])
 have s28:=s27.trans e28
 refine⟨(by show 2≤sizeLine;decide),fun p29 h29=>?_⟩
 have e29:=same_new h29 (.tup [.ref p26,.ref p28])
 have s29:=s28.trans e29
 refine⟨_,rfl,_,rfl,_,rfl,(by show 2≤sizeLine;decide),fun p30 h30=>?_⟩
 have e30:=same_new h30 (.tup [.int a,.int b])
 have s30:=s29.trans e30
 refine⟨(by show 2≤sizeLine;decide),fun p31 h31=>?_⟩
 have e31:=same_new h31 (.tup [.ref p1,.ref p30])
 have s31:=s30.trans e31
 refine⟨_,rfl,(by show 2≤sizeLine;decide),fun p32 h32=>?_⟩
 have e32:=same_new h32 (.tup [.str "first",.ref p1])
 have s32:=s31.trans e32
 refine⟨_,rfl,(by show 2≤sizeLine;decide),fun p33 h33=>?_⟩
 have e33:=same_new h33 (.tup [.ref p32,.int a])
 have s33:=s32.trans e33
 refine⟨_,rfl,(by show 2≤sizeLine;decide),fun p34 h34=>?_⟩
 have e34:=same_new h34 (.tup [.str "second",.ref p1])
 have s34:=s33.trans e34
 refine⟨_,rfl,(by show 2≤sizeLine;decide),fun p35 h35=>?_⟩
 have e35:=same_new h35 (.tup [.ref p34,.int b])
 have s35:=s34.trans e35
 refine⟨_,rfl,(by show 2≤sizeLine;decide),fun p36 h36=>?_⟩
 have e36:=same_new h36 (.tup [.str "var",.str Z])
 have s36:=s35.trans e36
 refine⟨(by show 2≤sizeLine;decide),fun p37 h37=>?_⟩
 have e37:=same_new h37 (.tup [.str "second",.ref p36])
 have s37:=s36.trans e37
 refine⟨_,rfl,(by show 2≤sizeLine;decide),fun p38 h38=>?_⟩
 have e38:=same_new h38 (.tup [.ref p37,.int b])
 have s38:=s37.trans e38
 refine⟨(by show 12≤sizeLine;decide),fun p39 h39=>?_⟩
 have e39:=same_new h39 (.lst [.ref p3,.ref p5,.ref p8,.ref p10,.ref p13,.ref p16,.ref p22,.ref p29,.ref p31,.ref p33,.ref p35,.ref p38])
 have s39:=s38.trans e39
 have t38:=e39
 have t37:=e38.trans t38
 have t36:=e37.trans t37
 have t35:=e36.trans t36
 have t34:=e35.trans t35
 have t33:=e34.trans t34
 have t32:=e33.trans t33
 have t31:=e32.trans t32
 have t30:=e31.trans t31
 have t29:=e30.trans t30
 have t28:=e29.trans t29
 have t27:=e28.trans t28
 have t26:=e27.trans t27
 have t25:=e26.trans t26
 have t24:=e25.trans t25
 have t23:=e24.trans t24
 have t22:=e23.trans t23
 have t21:=e22.trans t22
 have t20:=e21.trans t21
 have t19:=e20.trans t20
 have t18:=e19.trans t19
 have t17:=e18.trans t18
 have t16:=e17.trans t17
 have t15:=e16.trans t16
 have t14:=e15.trans t15
 have t13:=e14.trans t14
 have t12:=e13.trans t13
 have t11:=e12.trans t12
 have t10:=e11.trans t11
 have t9:=e10.trans t10
 have t8:=e9.trans t9
 have t7:=e8.trans t8
 have t6:=e7.trans t7
 have t5:=e6.trans t6
 have t4:=e5.trans t5
 have t3:=e4.trans t4
 have t2:=e3.trans t3
 have t1:=e2.trans t2
 have hx':=hx.1.same s39
 have hy':=hy.1.same s39
 have x1:=hx.2.1
 have y1:=hy.2.1
 have x2:=hx.2.2
 have y2:=hy.2.2
 have hB:ev C0 ρ (.nd .two [d1,d2])=some (.pr (.num a) (.num b)):=by rw [ev,evs,x2,evs,y2,evs];rfl
 exact q _ _ _ s39 upd_same (Nat.le_refl _) (mem12
  ⟨_,_,_,.lit a (a+1),.num a,rfl,(t3 _ _ upd_same),.lit (t2 _ _ upd_same),.num,by simp only [Ex.ht,hts,x1,y1,List.length_cons,List.length_nil];decide,by simp only [Vl.ht];decide,by rw [ev]⟩
  ⟨_,_,_,.var Y,.num b,rfl,(t5 _ _ upd_same),.var (t4 _ _ upd_same),.num,by simp only [Ex.ht,hts,x1,y1,List.length_cons,List.length_nil];decide,by simp only [Vl.ht];decide,by rw [ev];exact rY⟩
  ⟨_,_,_,.var Z,.pr (.num a) (.num b),rfl,(t8 _ _ upd_same),.var (t6 _ _ upd_same),.pr (t7 _ _ upd_same) .num .num,by simp only [Ex.ht,hts,x1,y1,List.length_cons,List.length_nil];decide,by simp only [Vl.ht];decide,by rw [ev];exact rZ⟩
  ⟨_,_,_,.nd (.as_ m) [d1],.num (a%m),rfl,(t10 _ _ upd_same),.nd (f:=.as_ m) (t9 _ _ upd_same) (.cons hx' .nil),.num,by simp only [Ex.ht,hts,x1,y1,List.length_cons,List.length_nil];decide,by simp only [Vl.ht];decide,by rw [ev,evs,x2,evs];exact if_pos hm⟩
  ⟨_,_,_,.if_ (.lit 1 2) d1 d2,.num a,rfl,(t13 _ _ upd_same),.if_ (t12 _ _ upd_same) (.lit (t11 _ _ upd_same)) hx' hy',.num,by simp only [Ex.ht,hts,x1,y1,List.length_cons,List.length_nil];decide,by simp only [Vl.ht];decide,by rw [ev,ev];exact x2⟩
  ⟨_,_,_,.if_ (.lit 0 2) d1 d2,.num b,rfl,(t16 _ _ upd_same),.if_ (t15 _ _ upd_same) (.lit (t14 _ _ upd_same)) hx' hy',.num,by simp only [Ex.ht,hts,x1,y1,List.length_cons,List.length_nil];decide,by simp only [Vl.ht];decide,by rw [ev,ev];exact y2⟩
  ⟨_,_,_,.let_ Y d1 (.nd .two [.var Y,.var X]),.pr (.num a) (.num a),rfl,(t22 _ _ upd_same),.let_ (t20 _ _ upd_same) hx' (.nd (f:=.two) (t19 _ _ upd_same) (.cons (.var (t17 _ _ upd_same)) (.cons (.var (t18 _ _ upd_same)) .nil))),.pr (t21 _ _ upd_same) .num .num,by simp only [Ex.ht,hts,x1,y1,List.length_cons,List.length_nil];decide,by simp only [Vl.ht];decide,by rw [ev,x2];show ev C0 (fun z=>if z=Y then some (.num a) else ρ z) _=_;rw [ev,evs,ev,evs,ev,evs];simp only [if_pos,if_neg nXY,rX,fmV]⟩
  ⟨_,_,_,.let_ W d2 (.nd .two [.var W,.var Z]),.pr (.num b) (.pr (.num a) (.num b)),rfl,(t29 _ _ upd_same),.let_ (t26 _ _ upd_same) hy' (.nd (f:=.two) (t25 _ _ upd_same) (.cons (.var (t23 _ _ upd_same)) (.cons (.var (t24 _ _ upd_same)) .nil))),.pr (t28 _ _ upd_same) .num (.pr (t27 _ _ upd_same) .num .num),by simp only [Ex.ht,hts,x1,y1,List.length_cons,List.length_nil];decide,by simp only [Vl.ht];decide,by rw [ev,y2];show ev C0 (fun z=>if z=W then some (.num b) else ρ z) _=_;rw [ev,evs,ev,evs,ev,evs];simp only [if_pos,if_neg nZW,rZ,fmV]⟩
  ⟨_,_,_,(.nd .two [d1,d2]),.pr (.num a) (.num b),rfl,(t31 _ _ upd_same),(.nd (f:=.two) (t1 _ _ upd_same) (.cons hx' (.cons hy' .nil))),.pr (t30 _ _ upd_same) .num .num,by simp only [Ex.ht,hts,x1,y1,List.length_cons,List.length_nil];decide,by simp only [Vl.ht];decide,by rw [ev,evs,x2,evs,y2,evs];rfl⟩
  ⟨_,_,_,.nd .fst [(.nd .two [d1,d2])],.num a,rfl,(t33 _ _ upd_same),.nd (f:=.fst) (t32 _ _ upd_same) (.cons (.nd (f:=.two) (t1 _ _ upd_same) (.cons hx' (.cons hy' .nil))) .nil),.num,by simp only [Ex.ht,hts,x1,y1,List.length_cons,List.length_nil];decide,by simp only [Vl.ht];decide,by rw [ev,evs,hB,evs];rfl⟩
  ⟨_,_,_,.nd .snd [(.nd .two [d1,d2])],.num b,rfl,(t35 _ _ upd_same),.nd (f:=.snd) (t34 _ _ upd_same) (.cons (.nd (f:=.two) (t1 _ _ upd_same) (.cons hx' (.cons hy' .nil))) .nil),.num,by simp only [Ex.ht,hts,x1,y1,List.length_cons,List.length_nil];decide,by simp only [Vl.ht];decide,by rw [ev,evs,hB,evs];rfl⟩
  ⟨_,_,_,.nd .snd [.var Z],.num b,rfl,(t38 _ _ upd_same),.nd (f:=.snd) (t37 _ _ upd_same) (.cons (.var (t36 _ _ upd_same)) .nil),.num,by simp only [Ex.ht,hts,x1,y1,List.length_cons,List.length_nil];decide,by simp only [Vl.ht];decide,by rw [ev,evs,ev,rZ,evs];rfl⟩)
end
end K71
namespace K71
open PySem L2
abbrev lamN:List Str:=["_law_q","_law_f","_law_values"]
abbrev lamC:List Str:=["_law_reply","_law_heard"]
abbrev lamSc:Scope:={ kind:=.function,names:=[("_law_q",.local),("_law_f",.local),("_law_values",.local),("_law_heard",.free),("_law_reply",.free),("_law_noted",.globalImplicit)],isGenerator:=false,isCoroutine:=false,more:=[] }
theorem scLam:CloScope lamN lamC lamSc:=⟨rfl,rfl,rfl,by decide +kernel,by decide +kernel,by decide +kernel,by decide +kernel,by decide +kernel⟩
abbrev lamE(p1 p2 p3 p4 p5 p6 p7 p8:Pos)(k:Nat):Expr:=.Call (.Name "_law_noted" p1) [.Name "_law_heard" p2,.Tuple [.Name "_law_q" p3,.Name "_law_f" p4,.Name "_law_values" p5] k p6,.Name "_law_reply" p7] [] p8
abbrev lamA(r1 r2 r3:Pos):Arguments:={ posonlyargs:=[],args:=[⟨"_law_q",none,r1⟩,⟨"_law_f",none,r2⟩,⟨"_law_values",none,r3⟩],vararg:=none,kwonlyargs:=[],kw_defaults:=[],kwarg:=none,defaults:=[] }
abbrev lamQ:Str:=("law"++".<locals>.":Str)++"<lambda>"
abbrev tabL:Array Value:=#[.int 117 0,.int 60 0,.str lamQ 0,.int 127 0,.int 50 0,.str lamQ 0]
def spLamB(rp:V)(hl:Addr):Sp:=fun vs H Q _=>∃(q t:Str) (l:Addr) (us:List V),vs=[.str q,.str t,.ref l]∧H hl=some (.lst us)∧us.length≤50∧∀p,H p=none→Q rp (upd (upd H p (.tup [.str q,.str t,.ref l])) hl (.lst (us++[.ref p])))
section
variable{P:Program}{w:World}{K:PySem.W.Frag}{mg:Str→Option Value}{base:Heap}
theorem ok_lam{f c a1 a2 fn hl:Addr}{fdn:FuncData}{params:Arguments}{pm ctv:Value}{p1 p2 p3 p4 p5 p6 p7 p8:Pos}{k:Nat}{rp:V} (GN:FnOk P w K mg base CX0 1 fn fdn ["_law_heard","_law_call","_law_reply"] spNoted) (bN:Binds K fdn ["_law_heard","_law_call","_law_reply"] []) (kN:PySem.W.keepIn K (.ref fn)=true) (mN:mg "_law_noted"=some (.ref fn)) (nd:[a1,a2].Nodup) :
  FnOk P w K mg base CX0 2 f (PySem.W.kla_fn "<lambda>" lamQ params (lamE p1 p2 p3 p4 p5 p6 p7 p8 k) lamSc (lamC.zip [a1,a2]) pm (.ref c) ctv) lamN (spClo f (PySem.W.kla_fn "<lambda>" lamQ params (lamE p1 p2 p3 p4 p5 p6 p7 p8 k) lamSc (lamC.zip [a1,a2]) pm (.ref c) ctv) c lamQ [a1,a2] [rp,.ref hl] lamN.length (spLamB rp hl)):=by
 refine fn_lam (k:=1) cxf0 scLam rfl nd fun A outer s H vs Q E hr h _=>?_
 obtain⟨q,t,l,us,rfl,hh,hu,k⟩:=h
 refine⟨_,pe_call GN hr rfl mN kN bN .nil pass0 (pa_cons (pv 4) (pa_cons (pe_tup (pa_cons (pv 0) (pa_cons (pv 1) (pa_cons (pv 2) pa_nil)))) (pa_cons (pv 3) pa_nil))),?_⟩
 refine⟨_,rfl,_,rfl,_,rfl,_,rfl,(by show 3≤sizeLine;decide),fun p hp=>⟨_,rfl,hl,us,_,_,rfl,?_,by omega,k p hp⟩⟩
 rw [upd_ne (ne_of_none hh hp)];exact hh
theorem b_lam{r1 r2 r3:Pos}{body:Expr}{sc:Scope}{cl:List (Str × Addr)}{pm cd ctv:Value}:Binds K (PySem.W.kla_fn "<lambda>" lamQ (lamA r1 r2 r3) body sc cl pm cd ctv) lamN []:=.all fun us hl=>match us,hl with|[_,_,_],_=>rfl
theorem VAt.drop{H:Hp}{ads:List Addr}(f:FrzAll H ads){x:V}{v:Vl}(h:VAt H x v):VAt (dropC ads H) x v:=by
 induction h with
 |num=>exact .num
 |pr hp _ _ i1 i2=>exact .pr (tup_drop f hp) i1 i2
theorem same_lam{H:Hp}{f c:Addr}{q:Str}{fd:FuncData}(hf:H f=none)(hfc:f≠c)(hc:H c=none∨H c=some (.cod q)):Same H (upd (upd H c (.cod q)) f (.fnc fd)):=by
 have s1:Same H (upd H c (.cod q)):=by
  rcases hc with hc|hc
  ·exact same_new hc _
  ·intro b o e
   by_cases hb:b=c
   ·subst hb;rw [upd_same];rw [hc] at e;exact e
   ·rw [upd_ne hb];exact e
 exact s1.trans (same_new (by rw [upd_ne hfc];exact hf) _)
def rho(a b:Int)(X Y Z:Str):Str→Option Vl:=fun y=>if y=Z then some (.pr (.num a) (.num b)) else if y=Y then some (.num b) else if y=X then some (.num a) else none
abbrev hkv(a b:Int)(X Y Z:Str)(t:Addr):List (Key × V):=putK (putK (putK [] (.inr X) (.int a)) (.inr Y) (.int b)) (.inr Z) (.ref t)
theorem mem_put{kvs:List (Key × V)}{k:Key}{v:V}{p:Key × V}(h:p∈putK kvs k v):p.2=v∨p∈kvs:=by
 unfold putK at h
 split at h
 ·obtain⟨q,hq,e⟩:=List.mem_map.mp h
  split at e
  ·rw [←e];exact .inl rfl
  ·rw [←e];exact .inr hq
 ·rcases List.mem_append.mp h with z|z
  ·exact .inr z
  ·rw [List.mem_singleton.mp z];exact .inl rfl
theorem hkv_plain(a b:Int)(X Y Z:Str)(t:Addr):∀p∈hkv a b X Y Z t,plainE p.2=true:=by
 have put:∀{kvs:List (Key × V)} {k:Key} {v:V},(∀p∈kvs,plainE p.2=true)→plainE v=true→∀p∈putK kvs k v,plainE p.2=true:=fun {kvs k v} h hv p hp=>by
  rcases mem_put hp with z|z
  ·rw [z];exact hv
  ·exact h p z
 exact put (put (put (fun _ z=>nomatch z) rfl) rfl) rfl
theorem env_hkv{H:Hp}{d t:Addr}{a b:Int}{X Y Z:Str}(hd:H d=some (.dK (hkv a b X Y Z t)))(ht:H t=some (.tup [.int a,.int b])):EnvAt H d (rho a b X Y Z) 3:=by
 refine⟨_,hd,?_,fun s v e=>?_⟩
 ·have f1:=length_putK ([]:List (Key × V)) (.inr X) (.int a)
  have h2:=length_putK (putK ([]:List (Key × V)) (.inr X) (.int a)) (.inr Y) (.int b)
  have h3:=length_putK (putK (putK ([]:List (Key × V)) (.inr X) (.int a)) (.inr Y) (.int b)) (.inr Z) (.ref t)
  simp only [List.length_nil] at f1
  exact Nat.le_trans h3 (by omega)
 ·unfold rho at e
  rw [valV_put,valV_put,valV_put]
  by_cases h1:s=Z
  ·rw [if_pos h1] at e
   rw [if_pos (congrArg Sum.inr h1)]
   cases e
   exact⟨_,rfl,.pr ht .num .num⟩
  ·rw [if_neg h1] at e
   rw [if_neg fun z=>h1 (Sum.inr.inj z)]
   by_cases h2:s=Y
   ·rw [if_pos h2] at e
    rw [if_pos (congrArg Sum.inr h2)]
    cases e
    exact⟨_,rfl,.num⟩
   ·rw [if_neg h2] at e
    rw [if_neg fun z=>h2 (Sum.inr.inj z)]
    by_cases h3:s=X
    ·rw [if_pos h3] at e
     rw [if_pos (congrArg Sum.inr h3)]
     cases e
     exact⟨_,rfl,.num⟩
    ·rw [if_neg h3] at e;cases e
end
end K71
namespace K71
open PySem L2
abbrev lwN:List Str:=["_law_script","_law_many","_law_less","_law_a","_law_b","_law_words_here","_law_one","_law_other","_law_held","_law_handed","_law_heard","_law_reply","_law_cases_here","_law_expression","_law_due","_law_found","_law_count","_law_part","_law_word","_law_call"]
theorem scLaw:FnScope lwN ["_law_script"] (defScope sLaw):=⟨rfl,rfl,rfl,by decide +kernel,rfl,by decide +kernel,by decide +kernel⟩
theorem bootListT:bootBuiltins "list"=some (.type "list"):=by decide +kernel
theorem kit_ll(K:PySem.W.Frag):PySem.W.kitOne K (.type "list") (.type "list")=some true:=rfl
structure Lf(H:Hp)(a b:Int)(X Y Z:Str)(d hd hl t T:Addr)(one oth rp:V)(e1 e2:Ex)(rv:Vl):Prop where
 tb:H T=some (.tbl tabL)
 hd1:H d=some (.dK (hkv a b X Y Z t))
 hd2:H hd=some (.dK (hkv a b X Y Z t))
 ht:H t=some (.tup [.int a,.int b])
 hl:H hl=some (.lst [])
 s1:Sd H one e1 (rho a b X Y Z) a
 s2:Sd H oth e2 (rho a b X Y Z) b
 rp:VAt H rp rv
 rh:rv.ht≤3
theorem Sd.same{H H':Hp}{x:V}{e:Ex}{ρ:Str→Option Vl}{a:Int}(h:Sd H x e ρ a)(s:Same H H'):Sd H' x e ρ a:=⟨h.1.same s,h.2⟩
theorem Lf.same{H H':Hp}{a b:Int}{X Y Z:Str}{d hd hl t T:Addr}{one oth rp:V}{e1 e2:Ex}{rv:Vl}(h:Lf H a b X Y Z d hd hl t T one oth rp e1 e2 rv)(s:Same H H'):Lf H' a b X Y Z d hd hl t T one oth rp e1 e2 rv :=
 ⟨s _ _ h.tb,s _ _ h.hd1,s _ _ h.hd2,s _ _ h.ht,s _ _ h.hl,h.s1.same s,h.s2.same s,h.rp.same s,h.rh⟩
section
variable{P:Program}{w:World}{K:PySem.W.Frag}{mg:Str→Option Value}{base:Heap}
set_option maxHeartbeats 0 in
theorem lw13{f c T fv fa:Addr}{fdv fda:FuncData}{A:Around}{outer:List Env}{s:Shared}{H:Hp}{E:XK}(C:PySem.W.CodeHd base c T)
  (GV:FnOk P w K mg base CX0 10 fv fdv ["expression","variables","call"] (spValue P w K mg base 2 5)) (bV:Binds K fdv ["expression","variables","call"] []) (kV:PySem.W.keepIn K (.ref fv)=true) (mV:mg "value_of"=some (.ref fv))
  (GA:FnOk P w K mg base CX0 4 fa fda alN (spAlike 3)) (bA:Binds K fda alN []) (kA:PySem.W.keepIn K (.ref fa)=true) (mA:mg "_law_alike"=some (.ref fa))
  (hr:Room 10 (A.deeper (PyProof.Rows.envOfC "law" (defScope sLaw) s.heap.objs.size f (.ref c)))) :
  ∃t,PS (cxOf CX0 P w K mg base lwN "law" (defScope sLaw) f (.ref c) A outer s H E).nox ((defBody sLaw).getD 13 (.Pass ⟨0,0,0,0⟩)) t ∧
   ∀(m le a b:Int) (X Y Z:Str) (wl sc d hd hl tt cl:Addr) (one oth rp:V) (e1 e2:Ex) (rv:Vl) (xs:List V) (H3:Hp) (D:Ends),Lf H3 a b X Y Z d hd hl tt T one oth rp e1 e2 rv→H3 cl=some (.lst xs)→(∀x∈xs,CaseAt H3 (rho a b X Y Z) x) →
    (∀H4 v13 v14 v15,Same H3 H4→D.nx [some (.ref sc),some (.int m),some (.int le),some (.int a),some (.int b),some (.ref wl),some one,some oth,some (.ref hd),some (.ref d),some (.ref hl),some rp,some (.ref cl),v13,v14,v15,none,none,none,none] H4) →
    t D [some (.ref sc),some (.int m),some (.int le),some (.int a),some (.int b),some (.ref wl),some one,some oth,some (.ref hd),some (.ref d),some (.ref hl),some rp,some (.ref cl),none,none,none,none,none,none,none] H3:=by
 have hr4:Room 4 _:=hr.mono (by decide)
 refine⟨_,ps_for PassesOwn.never rfl (pi_list (pv 12)) (pg_tup rfl (pgs_cons (pg_name (i:=13) scLaw.nd rfl (Or.inl rfl)) (pgs_cons (pg_name (i:=14) scLaw.nd rfl (Or.inl rfl)) pgs_nil)))
  (pss_cons (ps_set (i:=15) scLaw.nd rfl (Or.inl rfl) (pe_callF (l:=[(11,"_law_reply",_),(10,"_law_heard",_)]) cxf0 GV hr rfl mV kV bV .nil pass0 (.cons rfl rfl rfl rfl (.cons rfl rfl rfl rfl .nil)) (show(["_law_reply","_law_heard"]:List Str).Nodup from by decide +kernel) (pa_cons (pv 13) (pa_cons (pv 9) (pa_cons (pe_lam (P:=T) (q:=lamQ) rfl C rfl) pa_nil)))))
  (pss_one (ps_if (pt_not (L2.pt_val (pe_call GA hr4 rfl mA kA bA .nil pass0 (pa_cons (pv 15) (pa_cons (pv 14) pa_nil))))) pss_no pss_nil))),?_⟩
 intro m le a b X Y Z wl sc d hd hl tt cl one oth rp e1 e2 rv xs H3 D F hcl hxs hD
 refine⟨_,rfl,cl,rfl,⟨_,SqL.of hcl⟩,for_list (xs:=xs) (fun i σ H4=>∃v13 v14 v15,σ=[some (.ref sc),some (.int m),some (.int le),some (.int a),some (.int b),some (.ref wl),some one,some oth,some (.ref hd),some (.ref d),some (.ref hl),some rp,some (.ref cl),v13,v14,v15,none,none,none,none]∧Same H3 H4) ⟨_,_,_,rfl,Same.refl _⟩ ?_ ?_ ?_⟩
 ·rintro i σ H4 hi ⟨_,_,_,rfl,s4⟩
  exact SqL.of (s4 _ _ hcl)
 ·rintro i x σ H4 hx ⟨v13,v14,v15,rfl,s4⟩
  obtain⟨p,xe,y,e,v,rfl,hp,he,hv,h5,h6,hev⟩:=hxs x (List.mem_of_getElem? hx)
  have F4:=F.same s4
  refine⟨p,_,rfl,SqT.of (s4 _ _ hp),rfl,_,_,rfl,_,_,rfl,rfl,?_⟩
  refine⟨_,rfl,_,rfl,⟨_,F4.tb,rfl⟩,fun g cc ctv hg hgc hcc=>?_⟩
  refine⟨[rp,.ref hl],.cons rfl (.cons rfl .nil),fun H5 e5 s6 n6 fz=>?_⟩
  have s5':Same H4 H5:=(same_lam hg hgc hcc).trans s6
  have s56:=s4.trans s5'
  refine⟨xe,d,g,e,rho a b X Y Z,3,_,C0,rfl,he.same s56,h5,env_hkv (s5' _ _ F4.hd1) (s5' _ _ F4.ht),by decide,s6 _ _ upd_same,(fun _ _ _ _ _ _ _ z=>(nomatch z)),.inl ⟨v,hev,fun H6 u s7 hu=>?_⟩⟩
  have fa:=(fz.same s7).all
  have s8:=(same_lam hg hgc hcc).trans ((s6.trans s7).dropC n6)
  refine⟨_,rfl,_,rfl,u,y,v,rfl,hu.drop fa,hv.same (s4.trans s8),h6,fun H7 s9=>⟨true,rfl,iteF ⟨_,_,_,rfl,s4.trans (s8.trans s9)⟩⟩⟩
 ·rintro σ H4 ⟨v13,v14,v15,rfl,s4⟩
  exact hD H4 v13 v14 v15 s4
end
end K71
namespace K71
open PySem L2
theorem cut_to(xs:List V)(k:Nat):cutV xs none (some (k:Int))=xs.take k:=by
 unfold cutV
 rw [HT.sIx_none,HT.sIx_nat,List.drop_zero,Nat.sub_zero]
 by_cases h:k≤xs.length
 ·rw [Nat.min_eq_left h]
 ·rw [Nat.min_eq_right (by omega),List.take_of_length_le (Nat.le_refl _),List.take_of_length_le (by omega)]
abbrev al4{α:Type}(x y:α):List α:=[x,y,x,y]
theorem take4{H:Hp}{one oth:V}{e1 e2:Ex}{ρ:Str→Option Vl}{a b:Int}(h1:Sd H one e1 ρ a)(h2:Sd H oth e2 ρ b):∀k,k≤4 →
  ExsAt H ((al4 one oth).take k) ((al4 e1 e2).take k)∧evs C0 ρ ((al4 e1 e2).take k)=some ((al4 (Vl.num a) (.num b)).take k)∧hts ((al4 e1 e2).take k)≤1∧((al4 e1 e2).take k).length=k:=by
 have x1:=h1.2.1
 have y1:=h2.2.1
 have x2:=h1.2.2
 have y2:=h2.2.2
 intro k hk
 match k,hk with
 |0,_=>exact⟨.nil,by rw [List.take_zero,evs];rfl,Nat.zero_le _,rfl⟩
 |1,_=>exact⟨.cons h1.1 .nil,by show evs C0 ρ [e1]=_;rw [evs,x2,evs];rfl,by show hts [e1]≤1;simp only [hts,x1];decide,rfl⟩
 |2,_=>exact⟨.cons h1.1 (.cons h2.1 .nil),by show evs C0 ρ [e1,e2]=_;rw [evs,x2,evs,y2,evs];rfl,by show hts [e1,e2]≤1;simp only [hts,x1,y1];decide,rfl⟩
 |3,_=>exact⟨.cons h1.1 (.cons h2.1 (.cons h1.1 .nil)),by show evs C0 ρ [e1,e2,e1]=_;rw [evs,x2,evs,y2,evs,x2,evs];rfl,by show hts [e1,e2,e1]≤1;simp only [hts,x1,y1];decide,rfl⟩
 |4,_=>exact⟨.cons h1.1 (.cons h2.1 (.cons h1.1 (.cons h2.1 .nil))),by show evs C0 ρ [e1,e2,e1,e2]=_;rw [evs,x2,evs,y2,evs,x2,evs,y2,evs];rfl,by show hts [e1,e2,e1,e2]≤1;simp only [hts,x1,y1];decide,rfl⟩
theorem nums_at{H:Hp}:∀{us:List V} {ns:List Int},VsAt H us (ns.map Vl.num)→us=ns.map V.int
 |_,[],h=>by cases h;rfl
 |_,n::ns,h=>by
  cases h with
  |cons r t=>rw [v_num r,nums_at t];rfl
theorem dats_int{K:PySem.W.Frag}{H:Hp}:∀ns:List Int,Dats K H (ns.map V.int) (ns.map PyData.int)
 |[]=>.nil
 |n::ns=>.cons (.int n) (dats_int ns)
theorem lay_ints:∀ns:List Int,PyData.canLayAll0 (ns.map PyData.int)=true
 |[]=>by simp [PyData.canLayAll0]
 |n::ns=>by simp only [List.map_cons,PyData.canLayAll0,PyData.canLay0,lay_ints ns,Bool.and_self]
theorem dep_ints:∀ns:List Int,PyData.depthAll (ns.map PyData.int)≤2
 |[]=>by simp only [List.map_nil,PyData.depthAll];decide
 |n::ns=>by have:=dep_ints ns;simp only [List.map_cons,PyData.depthAll,PyData.depth];omega
abbrev hdD(p t:Str)(ns:List Int):PyData:=.list [.tuple [.str p,.str t,.list (ns.map PyData.int)]]
theorem hd_lay{p t:Str}{ns:List Int}(hp:PyData.strOk p=true)(ht:PyData.strOk t=true):(hdD p t ns).canLay0=true:=by
 simp only [PyData.canLay0,PyData.canLayAll0,hp,ht,lay_ints,Bool.and_self]
theorem hd_shaped{p t:Str}{ns:List Int}(hp:PyData.strOk p=true)(ht:PyData.strOk t=true):SeqAt.shaped (hdD p t ns)=true:=by
 have:=dep_ints ns
 have h4:(hdD p t ns).depth≤64:=by
  simp only [PyData.depth,PyData.depthAll]
  omega
 unfold SeqAt.shaped
 rw [hd_lay hp ht,decide_eq_true h4]
 rfl
theorem nil_shaped:SeqAt.shaped (.list [])=true:=by decide +kernel
section
variable{P:Program}{w:World}{K:PySem.W.Frag}{mg:Str→Option Value}{base:Heap}
theorem drop_add{ads:List Addr}{H Y:Hp}(n:∀a∈ads,Y a=none):dropC ads (addC ads H Y)=Y:=by
 funext b
 unfold dropC addC
 by_cases hb:b∈ads
 ·rw [if_pos hb];exact(n b hb).symm
 ·rw [if_neg hb,if_neg hb]
set_option maxHeartbeats 0 in
theorem lw20{f c fa:Addr}{fda:FuncData}{A:Around}{outer:List Env}{s:Shared}{H:Hp}{E:XK}
  (GA:FnOk P w K mg base CX0 4 fa fda alN (spAlike 3)) (bA:Binds K fda alN []) (kA:PySem.W.keepIn K (.ref fa)=true) (mA:mg "_law_alike"=some (.ref fa))
  (ml:mg "len"=none) (mi:mg "isinstance"=none) (mL:mg "list"=none)
  (hr:Room 10 (A.deeper (PyProof.Rows.envOfC "law" (defScope sLaw) s.heap.objs.size f (.ref c)))) :
  ∃t,PSs (cxOf CX0 P w K mg base lwN "law" (defScope sLaw) f (.ref c) A outer s H E).nox (List.drop 20 (defBody sLaw)) t ∧
   ∀(m le a b:Int) (X Y Z:Str) (wl sc d hd hl tt cl p l:Addr) (one oth rp v19:V) (rv:Vl) (v13 v14:Option V) (k:Nat) (pt wd:Str) (H3:Hp) (D:Ends),H3 d=some (.dK (hkv a b X Y Z tt))→H3 hd=some (.dK (hkv a b X Y Z tt))→VAt H3 rp rv→rv.ht≤3 →
    H3 hl=some (.lst [.ref p])→H3 p=some (.tup [.str pt,.str wd,.ref l])→H3 l=some (.lst (((al4 a b).take k).map V.int))→k≤4→PyData.strOk pt=true→PyData.strOk wd=true →
    (∀H4,D.rt (.bl true) H4) →
    t D [some (.ref sc),some (.int m),some (.int le),some (.int a),some (.int b),some (.ref wl),some one,some oth,some (.ref hd),some (.ref d),some (.ref hl),some rp,some (.ref cl),v13,v14,some rp,some (.int k),some (.str pt),some (.str wd),some v19] H3:=by
 have hr4:Room 4 _:=hr.mono (by decide)
 have hu:=hu_of hr
 have hu64:=hr.units
 refine⟨_,@pss_cons _ _ _ _ _ (ps_if (PW.pt (pw_or (pt_not (L2.pt_val (pe_call GA hr4 rfl mA kA bA .nil pass0 (@pa_cons _ _ _ _ _ (pv 15) (@pa_cons _ _ _ _ _ (pv 11) pa_nil rfl) rfl)))) (pw_or (pt_cmpR op_ne (pe_callB call_len_seq rfl ml PySem.boot_len (@pa_cons _ _ _ _ _ (pv 10) pa_nil rfl)) pe_int (nomark _)) (pw_or1 (pt_not (L2.pt_val (pe_callB call_isi rfl mi bootIsi (@pa_cons _ _ _ _ _ (pe_ix ix_tup (pe_ix ix_list (pv 10) pe_int (fun _ _=>rfl)) pe_int (fun _ _=>rfl)) (@pa_cons _ _ _ _ _ (pe_bltn rfl mL bootListT (v:=.ty "list") rfl) pa_nil rfl) rfl)))))))) pss_no pss_nil)
  (@pss_one _ _ _ (@ps_ret _ _ _ _ (pe_and (pe_cmpR (op_eqD hu64) (pv 10) (pe_lst (@pa_cons _ _ _ _ _ (@pe_tup _ _ _ _ _ (@pa_cons _ _ _ _ _ (pv 17) (@pa_cons _ _ _ _ _ (pv 18) (@pa_cons _ _ _ _ _ (pe_slice sl_list (pe_lst (@pa_cons _ _ _ _ _ (pv 3) (@pa_cons _ _ _ _ _ (pv 4) (@pa_cons _ _ _ _ _ (pv 3) (@pa_cons _ _ _ _ _ (pv 4) pa_nil rfl) rfl) rfl) rfl)) po_none (po_some (pv 16))) pa_nil rfl) rfl) rfl)) pa_nil rfl)) (nomark _)) (pe_one (pe_cmpR (op_eqE hu) (pv 9) (pv 8) (nomark _)))))) ,?_⟩
 intro m le a b X Y Z wl sc d hd hl tt cl p l one oth rp v19 rv v13 v14 k pt wd H3 D h1 h2 h3 h4 h5 h6 h7 hk op ow hD
 refine⟨_,rfl,_,rfl,rp,rp,rv,rfl,h3,h3,h4,fun H4 s4=>⟨true,rfl,iteF ?_⟩⟩
 refine⟨_,rfl,hl,_,rfl,.inl (SqL.of (s4 _ _ h5)),rfl,_,rfl,iteF ?_⟩
 refine⟨_,rfl,hl,_,_,_,rfl,rfl,SqL.of (s4 _ _ h5),at0,p,_,_,_,rfl,rfl,SqT.of (s4 _ _ h6),at2,.ref l,"list",_,true,rfl,.lst (s4 _ _ h7),kit_ll K,true,rfl,iteF ?_⟩
 refine⟨_,rfl,_,rfl,_,rfl,_,rfl,_,rfl,_,rfl,_,rfl,(by show 4≤sizeLine;decide),fun q1 g1=>?_⟩
 have e1:=same_new g1 (.lst [.int a,.int b,.int a,.int b])
 refine⟨_,rfl,_,rfl,q1,_,rfl,SqL.of upd_same,fun q2 g2=>?_⟩
 have e2:=same_new g2 (.lst (cutV [.int a,.int b,.int a,.int b] none (some (k:Int))))
 refine⟨(by show 3≤sizeLine;decide),fun q3 g3=>⟨(by show 1≤sizeLine;decide),fun q4 g4=>?_⟩⟩
 have e3:=same_new g3 (.tup [.str pt,.str wd,.ref q2])
 have e4:=same_new g4 (.lst [.ref q3])
 have c2:_=some (HO.lst (((al4 a b).take k).map V.int)):=(e3.trans e4) _ _ ((upd_same (H:=_) (a:=q2) (o:=.lst (cutV [.int a,.int b,.int a,.int b] none (some (k:Int))))).trans (by rw [cut_to,List.map_take];rfl))
 have s8:=s4.trans (e1.trans (e2.trans (e3.trans e4)))
 refine⟨hdD pt wd ((al4 a b).take k),hdD pt wd ((al4 a b).take k),.lst (SqL.of (s8 _ _ h5)) (.cons (.tup (SqT.of (s8 _ _ h6)) (.cons (.str _) (.cons (.str _) (.cons (.lst (SqL.of (s8 _ _ h7)) (dats_int _)) .nil)))) .nil),
  .lst (SqL.of upd_same) (.cons (.tup (SqT.of (e4 _ _ upd_same)) (.cons (.str _) (.cons (.str _) (.cons (.lst (SqL.of c2) (dats_int _)) .nil)))) .nil),hd_shaped op ow,hd_shaped op ow,?_⟩
 refine⟨_,rfl,?_⟩
 rw [show(if false=true then !PyData.eqv (hdD pt wd ((al4 a b).take k)) (hdD pt wd ((al4 a b).take k)) else PyData.eqv (hdD pt wd ((al4 a b).take k)) (hdD pt wd ((al4 a b).take k)))=true from(if_neg Bool.false_ne_true).trans (SeqAt.eqv_refl _ (hd_lay op ow))]
 exact iteT ⟨_,rfl,_,rfl,d,hd,_,rfl,rfl,s8 _ _ h1,s8 _ _ h2,hkv_plain _ _ _ _ _ _,hD _⟩
set_option maxHeartbeats 0 in
theorem lw18{f c T fv fa fn:Addr}{fdv fda fdn:FuncData}{A:Around}{outer:List Env}{s:Shared}{H:Hp}{E:XK}(C:PySem.W.CodeHd base c T)
  (GV:FnOk P w K mg base CX0 10 fv fdv ["expression","variables","call"] (spValue P w K mg base 2 5)) (bV:Binds K fdv ["expression","variables","call"] []) (kV:PySem.W.keepIn K (.ref fv)=true) (mV:mg "value_of"=some (.ref fv))
  (GA:FnOk P w K mg base CX0 4 fa fda alN (spAlike 3)) (bA:Binds K fda alN []) (kA:PySem.W.keepIn K (.ref fa)=true) (mA:mg "_law_alike"=some (.ref fa))
  (GN:FnOk P w K mg base CX0 1 fn fdn ["_law_heard","_law_call","_law_reply"] spNoted) (bN:Binds K fdn ["_law_heard","_law_call","_law_reply"] []) (kN:PySem.W.keepIn K (.ref fn)=true) (mN:mg "_law_noted"=some (.ref fn))
  (mt:mg "tuple"=none) (ml:mg "len"=none) (mi:mg "isinstance"=none) (mL:mg "list"=none)
  (hr:Room 10 (A.deeper (PyProof.Rows.envOfC "law" (defScope sLaw) s.heap.objs.size f (.ref c)))) :
  ∃t,PSs (cxOf CX0 P w K mg base lwN "law" (defScope sLaw) f (.ref c) A outer s H E).nox (List.drop 18 (defBody sLaw)) t ∧
   ∀(m le a b:Int) (X Y Z:Str) (wl sc d hd hl tt cl:Addr) (one oth rp:V) (e1 e2:Ex) (rv:Vl) (v13 v14 v15:Option V) (k:Nat) (pt wd:Str) (H3:Hp) (D:Ends),Lf H3 a b X Y Z d hd hl tt T one oth rp e1 e2 rv→k≤4→PyData.strOk pt=true→PyData.strOk wd=true →
    (∀H4,D.rt (.bl true) H4) →
    t D [some (.ref sc),some (.int m),some (.int le),some (.int a),some (.int b),some (.ref wl),some one,some oth,some (.ref hd),some (.ref d),some (.ref hl),some rp,some (.ref cl),v13,v14,v15,some (.int k),some (.str pt),some (.str wd),none] H3:=by
 have hr4:Room 4 _:=hr.mono (by decide)
 have hu:=hu_of hr
 have hu64:=hr.units
 obtain⟨t20,d20,k20⟩:=lw20 (f:=f) (c:=c) (outer:=outer) (H:=H) (E:=E) (P:=P) (w:=w) (base:=base) GA bA kA mA ml mi mL hr
 refine⟨_,@pss_cons _ _ _ _ _ (ps_set (i:=19) scLaw.nd rfl (Or.inl rfl) (@pe_tup _ _ _ _ _ (@pa_cons _ _ _ _ _ pe_str (@pa_cons _ _ _ _ _ (pv 17) (@pa_cons _ _ _ _ _ (pv 18) (@pa_cons _ _ _ _ _ (pe_callTy call_tuple_of rfl mt bootTuple (@pa_cons _ _ _ _ _ (pe_slice sl_list (pe_lst (@pa_cons _ _ _ _ _ (pv 6) (@pa_cons _ _ _ _ _ (pv 7) (@pa_cons _ _ _ _ _ (pv 6) (@pa_cons _ _ _ _ _ (pv 7) pa_nil rfl) rfl) rfl) rfl)) po_none (po_some (pv 16))) pa_nil rfl)) pa_nil rfl) rfl) rfl) rfl)))
  (@pss_cons _ _ _ _ _ (ps_set (i:=15) scLaw.nd rfl (Or.inl rfl) (pe_callF (l:=[(11,"_law_reply",_),(10,"_law_heard",_)]) cxf0 GV hr rfl mV kV bV .nil pass0 (.cons rfl rfl rfl rfl (.cons rfl rfl rfl rfl .nil)) (show(["_law_reply","_law_heard"]:List Str).Nodup from by decide +kernel) (@pa_cons _ _ _ _ _ (pv 19) (@pa_cons _ _ _ _ _ (pv 9) (@pa_cons _ _ _ _ _ (pe_lam (P:=T) (q:=lamQ) rfl C rfl) pa_nil rfl) rfl) rfl)))
  d20) ,?_⟩
 intro m le a b X Y Z wl sc d hd hl tt cl one oth rp e1 e2 rv v13 v14 v15 k pt wd H3 D F hk op ow hD
 obtain⟨x1,x2,x3,x4⟩:=take4 F.s1 F.s2 k hk
 refine⟨_,rfl,_,rfl,_,rfl,_,rfl,_,rfl,_,rfl,(by show 4≤sizeLine;decide),fun q1 h1=>?_⟩
 have g1:=same_new h1 (.lst [one,oth,one,oth])
 refine⟨_,rfl,_,rfl,q1,_,rfl,SqL.of upd_same,fun q2 h2=>?_⟩
 have g2:=same_new h2 (.lst (cutV [one,oth,one,oth] none (some (k:Int))))
 refine⟨q2,_,rfl,.inl ⟨SqL.of upd_same,fun q3 h3=>⟨(by show 4≤sizeLine;decide),fun q4 h4=>?_⟩⟩⟩
 have g3:=same_new h3 (.tup (cutV [one,oth,one,oth] none (some (k:Int))))
 have g4:=same_new h4 (.tup [.str "call",.str pt,.str wd,.ref q3])
 have s4:=g1.trans (g2.trans (g3.trans g4))
 have F4:=F.same s4
 have c3:=g4 _ _ (upd_same (H:=_) (a:=q3) (o:=.tup (cutV [one,oth,one,oth] none (some (k:Int)))))
 rw [show some (HO.tup (cutV [one,oth,one,oth] none (some (k:Int))))=some (HO.tup ([one,oth,one,oth].take k)) from by rw [cut_to]] at c3
 have c4:=upd_same (H:=(upd (upd (upd H3 q1 (.lst [one,oth,one,oth])) q2 (.lst (cutV [one,oth,one,oth] none (some (k:Int))))) q3 (.tup (cutV [one,oth,one,oth] none (some (k:Int)))))) (a:=q4) (o:=.tup [.str "call",.str pt,.str wd,.ref q3])
 have hex:ExAt _ (.ref q4) (.call pt wd ((al4 e1 e2).take k)):=.call c4 c3 (x1.same s4)
 generalize (upd (upd (upd (upd H3 q1 (.lst [one,oth,one,oth])) q2 (.lst (cutV [one,oth,one,oth] none (some (k:Int))))) q3 (.tup (cutV [one,oth,one,oth] none (some (k:Int))))) q4 (.tup [.str "call",.str pt,.str wd,.ref q3]))=H4 at *
 refine⟨_,rfl,_,rfl,⟨_,F4.tb,rfl⟩,fun g cc ctv hg hgc hcc=>⟨[rp,.ref hl],.cons rfl (.cons rfl .nil),fun H5 e5 s6 n6 fz=>?_⟩⟩
 have s5':Same H4 H5:=(same_lam hg hgc hcc).trans s6
 refine⟨.ref q4,d,g,_,rho a b X Y Z,3,_,C0,rfl,hex.same s5',?_,env_hkv (s5' _ _ F4.hd1) (s5' _ _ F4.ht),by decide,s6 _ _ upd_same,(fun _ _ _ _ _ _ _ z=>(nomatch z)),.inr ⟨pt,wd,_,_,rfl,x2,fun H7 l us s7 hl5 hl7 hus=>?_⟩⟩
 ·simp only [Ex.ht,x4];omega
 have fz7:=fz.same s7
 have fa:=fz7.all
 have s8:=(same_lam hg hgc hcc).trans ((s6.trans s7).dropC n6)
 have nd:([s.heap.objs.size+1+1,s.heap.objs.size+1]:List Nat).Nodup:=by simp
 refine⟨_,lamN,_,s7 _ _ (s6 _ _ upd_same),ok_lam (rp:=rp) (hl:=hl) GN bN kN mN nd,b_lam,rfl,s7 _ _ (s6 _ _ upd_same),s7 _ _ (s6 _ _ (by rw [upd_ne (Ne.symm hgc),upd_same])),fz7,pt,wd,l,[],rfl,s8 _ _ F4.hl,by decide,fun p hp nC=>?_⟩
 have eF:=drop_add (H:=H7) nC
 show t20 D _ (dropC [s.heap.objs.size+1+1,s.heap.objs.size+1] _)
 rw [eF]
 have hlD:dropC [s.heap.objs.size+1+1,s.heap.objs.size+1] H7 hl=some (.lst []):=s8 _ _ F4.hl
 have pne:p≠hl:=fun z=>by rw [z,hlD] at hp;cases hp
 have lne:l≠hl:=fun z=>by rw [z,s5' _ _ F4.hl] at hl5;cases hl5
 have lD:dropC [s.heap.objs.size+1+1,s.heap.objs.size+1] H7 l=some (.lst us):=by
  rw [drop_no fun z=>by obtain⟨o,v,e⟩:=fa l z;rw [hl7] at e;cases e]
  exact hl7
 have hus':us=((al4 a b).take k).map V.int:=nums_at (by rw [List.map_take];exact hus)
 have s9:=same_new hp (.tup [.str pt,.str wd,.ref l])
 have ud:∀{x:Addr} {o:HO},upd (dropC [s.heap.objs.size+1+1,s.heap.objs.size+1] H7) p (.tup [.str pt,.str wd,.ref l]) x=some o→x≠hl→upd (upd (dropC [s.heap.objs.size+1+1,s.heap.objs.size+1] H7) p (.tup [.str pt,.str wd,.ref l])) hl (.lst ([]++[.ref p])) x=some o:=fun e n=>by rw [upd_ne n];exact e
 refine k20 m le a b X Y Z wl sc d hd hl tt cl p l one oth rp (.ref q4) rv v13 v14 k pt wd _ D (ud (s9 _ _ (s8 _ _ F4.hd1)) (ne_of F4.hd1 F4.hl (by intro z;cases z))) (ud (s9 _ _ (s8 _ _ F4.hd2)) (ne_of F4.hd2 F4.hl (by intro z;cases z))) ((F4.rp.same (s8.trans s9)).upd (s9 _ _ hlD)) F4.rh upd_same (ud upd_same pne) (ud (s9 _ _ (hus'▸lD)) lne) hk op ow hD
end
end K71
namespace K71
open PySem L2
def spLaw(K:PySem.W.Frag)(T:Addr):Sp:=fun vs H Q _=>∃(sc:Addr) (ns:List Int),vs=[.ref sc]∧SqL K H sc (ns.map V.int)∧ns.length≤63∧H T=some (.tbl tabL)∧∀H',Q (.bl true) H'
theorem wd4(c:Int):(List.range 4).map (fun k=>V.str (wd c k))=[.str (wd c 0),.str (wd c 1),.str (wd c 2),.str (wd c 3)]:=rfl
theorem wd2(c:Int):(List.range 2).map (fun k=>V.str (wd c k))=[.str (wd c 0),.str (wd c 1)]:=rfl
theorem pw18:(10:Int) ^ (18:Int).toNat=1000000000000000000:=by decide
theorem strOk_nil:PyData.strOk ""=true:=by decide +kernel
theorem rho_X{a b:Int}{X Y Z:Str}(h1:X≠Y)(h2:X≠Z):rho a b X Y Z X=some (.num a):=by unfold rho;rw [if_neg h2,if_neg h1,if_pos rfl]
theorem rho_Y{a b:Int}{X Y Z:Str}(h2:Y≠Z):rho a b X Y Z Y=some (.num b):=by unfold rho;rw [if_neg h2,if_pos rfl]
theorem rho_Z{a b:Int}{X Y Z:Str}:rho a b X Y Z Z=some (.pr (.num a) (.num b)):=by unfold rho;rw [if_pos rfl]
section
variable{P:Program}{w:World}{K:PySem.W.Frag}{mg:Str→Option Value}{base:Heap}
abbrev ctP:List Str:=["_law_script","_law_k"]
abbrev wdP:List Str:=["_law_cell","_law_many"]
abbrev sdP:List Str:=["_law_cell","_law_name","_law_value","_law_many"]
abbrev csP:List Str:=["_law_words_here","_law_one","_law_other","_law_a","_law_b","_law_less"]
abbrev ntP:List Str:=["_law_heard","_law_call","_law_reply"]
abbrev vlP:List Str:=["expression","variables","call"]
set_option maxHeartbeats 0 in
theorem lw14{f c T fv fa fn fc fw:Addr}{fdv fda fdn fdc fdw:FuncData}{A:Around}{outer:List Env}{s:Shared}{H:Hp}{E:XK}(C:PySem.W.CodeHd base c T)
  (GV:FnOk P w K mg base CX0 10 fv fdv vlP (spValue P w K mg base 2 5)) (bV:Binds K fdv vlP []) (kV:PySem.W.keepIn K (.ref fv)=true) (mV:mg "value_of"=some (.ref fv))
  (GA:FnOk P w K mg base CX0 4 fa fda alN (spAlike 3)) (bA:Binds K fda alN []) (kA:PySem.W.keepIn K (.ref fa)=true) (mA:mg "_law_alike"=some (.ref fa))
  (GN:FnOk P w K mg base CX0 1 fn fdn ntP spNoted) (bN:Binds K fdn ntP []) (kN:PySem.W.keepIn K (.ref fn)=true) (mN:mg "_law_noted"=some (.ref fn))
  (GC:FnOk P w K mg base CX0 1 fc fdc ctP (spCell K)) (bC:Binds K fdc ctP []) (kC:PySem.W.keepIn K (.ref fc)=true) (mC:mg "_law_cell_at"=some (.ref fc))
  (GW:FnOk P w K mg base CX0 1 fw fdw wdP (spWords K)) (bW:Binds K fdw wdP []) (kW:PySem.W.keepIn K (.ref fw)=true) (mW:mg "_law_words"=some (.ref fw))
  (mt:mg "tuple"=none) (ml:mg "len"=none) (mi:mg "isinstance"=none) (mL:mg "list"=none)
  (hr:Room 10 (A.deeper (PyProof.Rows.envOfC "law" (defScope sLaw) s.heap.objs.size f (.ref c)))) :
  ∃t,PSs (cxOf CX0 P w K mg base lwN "law" (defScope sLaw) f (.ref c) A outer s H E).nox (List.drop 14 (defBody sLaw)) t ∧
   ∀(m le a b:Int) (X Y Z:Str) (wl sc d hd hl tt cl:Addr) (one oth rp:V) (e1 e2:Ex) (rv:Vl) (v13 v14 v15:Option V) (ns:List Int) (H3:Hp) (D:Ends),Lf H3 a b X Y Z d hd hl tt T one oth rp e1 e2 rv→SqL K H3 sc (ns.map V.int)→ns.length≤63 →
    (∀H4,D.rt (.bl true) H4) →
    t D [some (.ref sc),some (.int m),some (.int le),some (.int a),some (.int b),some (.ref wl),some one,some oth,some (.ref hd),some (.ref d),some (.ref hl),some rp,some (.ref cl),v13,v14,v15,none,none,none,none] H3:=by
 have hr1:Room 1 _:=hr.mono (by decide)
 have hu:=hu_of hr
 have hu64:=hr.units
 obtain⟨t18,d18,k18⟩:=lw18 (f:=f) (c:=c) (outer:=outer) (H:=H) (E:=E) (P:=P) (w:=w) (base:=base) C GV bV kV mV GA bA kA mA GN bN kN mN mt ml mi mL hr
 refine⟨_,@pss_cons _ _ _ _ _ (ps_if (PW.pt (pw_or (pt_cmpR (op_neD hu64) (pv 10) (pe_lst pa_nil) (nomark _)) (pw_or1 (pt_cmpR (op_neE hu) (pv 9) (pv 8) (nomark _))))) pss_no pss_nil)
  (@pss_cons _ _ _ _ _ (ps_set (i:=16) scLaw.nd rfl (Or.inl rfl) (pe_op op_mod (pe_op op_fdiv (pe_call GC hr1 rfl mC kC bC .nil pass0 (@pa_cons _ _ _ _ _ (pv 0) (@pa_cons _ _ _ _ _ pe_int pa_nil rfl) rfl)) pe_int) pe_int))
  (@pss_cons _ _ _ _ _ (ps_asg (pe_call GW hr1 rfl mW kW bW .nil pass0 (@pa_cons _ _ _ _ _ (pe_call GC hr1 rfl mC kC bC .nil pass0 (@pa_cons _ _ _ _ _ (pv 0) (@pa_cons _ _ _ _ _ pe_int pa_nil rfl) rfl)) (@pa_cons _ _ _ _ _ pe_int pa_nil rfl) rfl)) (pg_lst rfl (pgs_cons (pg_name (i:=17) scLaw.nd rfl (Or.inl rfl)) (pgs_cons (pg_name (i:=18) scLaw.nd rfl (Or.inl rfl)) pgs_nil))))
  (@pss_cons _ _ _ _ _ (ps_if (pt_cmpR op_eq (pe_op op_mod (pe_call GC hr1 rfl mC kC bC .nil pass0 (@pa_cons _ _ _ _ _ (pv 0) (@pa_cons _ _ _ _ _ pe_int pa_nil rfl) rfl)) pe_int) pe_int (nomark _)) (@pss_one _ _ _ (ps_set (i:=17) scLaw.nd rfl (Or.inl rfl) pe_str)) pss_nil)
  d18))),?_⟩
 intro m le a b X Y Z wl sc d hd hl tt cl one oth rp e1 e2 rv v13 v14 v15 ns H3 D F hS h63 hD
 refine⟨_,rfl,(by show 0≤sizeLine;decide),fun q1 h1=>?_⟩
 have s1:=same_new h1 (.lst [])
 refine⟨.list [],.list [],.lst (SqL.of (s1 _ _ F.hl)) .nil,.lst (SqL.of upd_same) .nil,nil_shaped,nil_shaped,false,rfl,iteF ?_⟩
 refine⟨_,rfl,_,rfl,d,hd,_,rfl,rfl,s1 _ _ F.hd1,s1 _ _ F.hd2,hkv_plain _ _ _ _ _ _,false,rfl,iteF ?_⟩
 refine⟨_,rfl,sc,ns,7,rfl,s1.seq hS,h63,by decide,by decide,fun c7=>⟨_,_,rfl,rfl,⟨by decide,by decide⟩,_,_,rfl,rfl,(by show(0:Int) < 5;decide),?_⟩⟩
 refine⟨_,rfl,sc,ns,8,rfl,s1.seq hS,h63,by decide,by decide,fun c8=>⟨c8,2,rfl,by decide,fun H4 l s4 hl4=>?_⟩⟩
 rw [wd2] at hl4
 refine⟨l,_,rfl,SqL.of hl4,rfl,_,_,rfl,_,_,rfl,rfl,?_⟩
 have s14:=s1.trans s4
 have m5:0≤c7 / 2%5∧c7 / 2%5 < 5:=⟨Int.emod_nonneg _ (by decide),Int.emod_lt_of_pos _ (by decide)⟩
 obtain⟨k,hk⟩:∃k:Nat,c7 / 2%5=(k:Int):=⟨(c7 / 2%5).toNat,by omega⟩
 have hk4:k≤4:=by omega
 refine⟨_,rfl,sc,ns,9,rfl,s14.seq hS,h63,by decide,by decide,fun c9=>⟨_,_,rfl,rfl,(by show(0:Int) < 3;decide),rfl,_,rfl,ite2 (fun _=>?_) (fun _=>?_)⟩⟩
 ·have z:=k18 m le a b X Y Z wl sc d hd hl tt cl one oth rp e1 e2 rv v13 v14 v15 k "" (wd c8 1) _ D (F.same s14) hk4 strOk_nil (wd_ok _ _) hD
  rw [←hk] at z
  exact z
 ·have z:=k18 m le a b X Y Z wl sc d hd hl tt cl one oth rp e1 e2 rv v13 v14 v15 k (wd c8 0) (wd c8 1) _ D (F.same s14) hk4 (wd_ok _ _) (wd_ok _ _) hD
  rw [←hk] at z
  exact z
theorem side_sd{H:Hp}{x:V}{e:Ex}{a m:Int}{y:Str}{ρ:Str→Option Vl}(h:ExAt H x e)(he:e=.lit a m∨e=.var y)(hr:ρ y=some (.num a)):Sd H x e ρ a:=by
 refine⟨h,?_,?_⟩
 ·rcases he with rfl|rfl<;>rfl
 ·rcases he with rfl|rfl
  ·rw [ev]
  ·rw [ev];exact hr
set_option maxHeartbeats 0 in
theorem ok_law{f c T fv fa fn fc fw fs fr fl:Addr}{fd fdv fda fdn fdc fdw fds fdr fdl:FuncData} (F:FunT K "law" "law" sLaw f fd c T) (hK:K.In base)
  (GV:FnOk P w K mg base CX0 10 fv fdv vlP (spValue P w K mg base 2 5)) (bV:Binds K fdv vlP []) (kV:PySem.W.keepIn K (.ref fv)=true) (mV:mg "value_of"=some (.ref fv))
  (GA:FnOk P w K mg base CX0 4 fa fda alN (spAlike 3)) (bA:Binds K fda alN []) (kA:PySem.W.keepIn K (.ref fa)=true) (mA:mg "_law_alike"=some (.ref fa))
  (GN:FnOk P w K mg base CX0 1 fn fdn ntP spNoted) (bN:Binds K fdn ntP []) (kN:PySem.W.keepIn K (.ref fn)=true) (mN:mg "_law_noted"=some (.ref fn))
  (GC:FnOk P w K mg base CX0 1 fc fdc ctP (spCell K)) (bC:Binds K fdc ctP []) (kC:PySem.W.keepIn K (.ref fc)=true) (mC:mg "_law_cell_at"=some (.ref fc))
  (GW:FnOk P w K mg base CX0 1 fw fdw wdP (spWords K)) (bW:Binds K fdw wdP []) (kW:PySem.W.keepIn K (.ref fw)=true) (mW:mg "_law_words"=some (.ref fw))
  (GS:FnOk P w K mg base CX0 1 fs fds sdP spSide) (bS:Binds K fds sdP []) (kS:PySem.W.keepIn K (.ref fs)=true) (mS:mg "_law_side"=some (.ref fs))
  (GR:FnOk P w K mg base CX0 1 fr fdr rlN spReckL) (bR:Binds K fdr rlN []) (kR:PySem.W.keepIn K (.ref fr)=true) (mR:mg "_law_reckoned"=some (.ref fr))
  (GL:FnOk P w K mg base CX0 1 fl fdl csP (spCasesL K)) (bL:Binds K fdl csP []) (kL:PySem.W.keepIn K (.ref fl)=true) (mL':mg "_law_cases"=some (.ref fl))
  (mt:mg "tuple"=none) (ml:mg "len"=none) (mi:mg "isinstance"=none) (mL:mg "list"=none) (md:mg "dict"=none):FnOk P w K mg base CX0 11 f fd ["_law_script"] (spLaw K T):=by
 refine F.ok scLaw (fun vs H Q E h=>?_) (fun A outer s H vs Q E hr h=>?_)
 ·obtain⟨_,_,rfl,_⟩:=h
  rfl
 obtain⟨sc,ns,rfl,hS,h63,hT,q⟩:=h
 have C:=F.code hK
 have hr1:Room 1 _:=hr.mono (by decide)
 have hu:=hu_of hr
 obtain⟨t14,d14,k14⟩:=lw14 (f:=f) (c:=c) (outer:=outer) (H:=H) (E:=E) (P:=P) (w:=w) (base:=base) C GV bV kV mV GA bA kA mA GN bN kN mN GC bC kC mC GW bW kW mW mt ml mi mL hr
 obtain⟨t13,d13,k13⟩:=lw13 (f:=f) (c:=c) (outer:=outer) (H:=H) (E:=E) (P:=P) (w:=w) (base:=base) C GV bV kV mV GA bA kA mA hr
 obtain⟨t5,d5,k5⟩:∃t,PSs (cxOf CX0 P w K mg base lwN "law" (defScope sLaw) f (.ref c) A outer s H E).nox (List.drop 5 (defBody sLaw)) t ∧
   ∀(m le a b:Int) (H3:Hp),Same H H3→0 < le→0 < m→(0≤a∧a < 1000000000000000001)→t { nx:=fun _ H'=>Q .non H',rt:=Q } [some (.ref sc),some (.int m),some (.int le),some (.int a),some (.int b),none,none,none,none,none,none,none,none,none,none,none,none,none,none,none] H3:=by
  refine⟨_,@pss_cons _ _ _ _ _ (ps_set (i:=5) scLaw.nd rfl (Or.inl rfl) (pe_call GW hr1 rfl mW kW bW .nil pass0 (@pa_cons _ _ _ _ _ (pe_call GC hr1 rfl mC kC bC .nil pass0 (@pa_cons _ _ _ _ _ (pv 0) (@pa_cons _ _ _ _ _ pe_int pa_nil rfl) rfl)) (@pa_cons _ _ _ _ _ pe_int pa_nil rfl) rfl)))
   (@pss_cons _ _ _ _ _ (ps_set (i:=6) scLaw.nd rfl (Or.inl rfl) (pe_call GS hr1 rfl mS kS bS .nil pass0 (@pa_cons _ _ _ _ _ (pe_call GC hr1 rfl mC kC bC .nil pass0 (@pa_cons _ _ _ _ _ (pv 0) (@pa_cons _ _ _ _ _ pe_int pa_nil rfl) rfl)) (@pa_cons _ _ _ _ _ (pe_ix ix_list (pv 5) pe_int (fun _ _=>rfl)) (@pa_cons _ _ _ _ _ (pv 3) (@pa_cons _ _ _ _ _ (pv 1) pa_nil rfl) rfl) rfl) rfl)))
   (@pss_cons _ _ _ _ _ (ps_set (i:=7) scLaw.nd rfl (Or.inl rfl) (pe_call GS hr1 rfl mS kS bS .nil pass0 (@pa_cons _ _ _ _ _ (pe_op op_fdiv (pe_call GC hr1 rfl mC kC bC .nil pass0 (@pa_cons _ _ _ _ _ (pv 0) (@pa_cons _ _ _ _ _ pe_int pa_nil rfl) rfl)) pe_int) (@pa_cons _ _ _ _ _ (pe_ix ix_list (pv 5) pe_int (fun _ _=>rfl)) (@pa_cons _ _ _ _ _ (pv 4) (@pa_cons _ _ _ _ _ (pv 1) pa_nil rfl) rfl) rfl) rfl)))
   (@pss_cons _ _ _ _ _ (ps_set (i:=8) scLaw.nd rfl (Or.inl rfl) (pe_disp (pps_cons (pe_ix ix_list (pv 5) pe_int (fun _ _=>rfl)) (pv 3) (pps_cons (pe_ix ix_list (pv 5) pe_int (fun _ _=>rfl)) (pv 4) (pps_cons (pe_ix ix_list (pv 5) pe_int (fun _ _=>rfl)) (@pe_tup _ _ _ _ _ (@pa_cons _ _ _ _ _ (pv 3) (@pa_cons _ _ _ _ _ (pv 4) pa_nil rfl) rfl)) pps_nil))) rfl rfl (fun e=>nomatch e) (Nat.le_of_ble_eq_true rfl)))
   (@pss_cons _ _ _ _ _ (ps_set (i:=9) scLaw.nd rfl (Or.inl rfl) (pe_callTy call_dict_dK rfl md bootDict (@pa_cons _ _ _ _ _ (pv 8) pa_nil rfl)))
   (@pss_cons _ _ _ _ _ (ps_set (i:=10) scLaw.nd rfl (Or.inr rfl) (pe_lst pa_nil))
   (@pss_cons _ _ _ _ _ (ps_set (i:=11) scLaw.nd rfl (Or.inr rfl) (pe_ix ix_list (pe_lst (@pa_cons _ _ _ _ _ (pv 4) (@pa_cons _ _ _ _ _ (@pe_tup _ _ _ _ _ (@pa_cons _ _ _ _ _ (pv 4) (@pa_cons _ _ _ _ _ (pv 3) pa_nil rfl) rfl)) pa_nil rfl) rfl)) (pe_op op_mod (pe_call GC hr1 rfl mC kC bC .nil pass0 (@pa_cons _ _ _ _ _ (pv 0) (@pa_cons _ _ _ _ _ pe_int pa_nil rfl) rfl)) pe_int) (fun _ _=>rfl)))
   (@pss_cons _ _ _ _ _ (ps_set (i:=12) scLaw.nd rfl (Or.inl rfl) (pe_op op_cat (pe_call GR hr1 rfl mR kR bR .nil pass0 (@pa_cons _ _ _ _ _ (pv 6) (@pa_cons _ _ _ _ _ (pv 7) (@pa_cons _ _ _ _ _ (pv 3) (@pa_cons _ _ _ _ _ (pv 4) (@pa_cons _ _ _ _ _ (pv 1) pa_nil rfl) rfl) rfl) rfl) rfl)) (pe_call GL hr1 rfl mL' kL bL .nil pass0 (@pa_cons _ _ _ _ _ (pv 5) (@pa_cons _ _ _ _ _ (pv 6) (@pa_cons _ _ _ _ _ (pv 7) (@pa_cons _ _ _ _ _ (pv 3) (@pa_cons _ _ _ _ _ (pv 4) (@pa_cons _ _ _ _ _ (pv 2) pa_nil rfl) rfl) rfl) rfl) rfl) rfl))))
   (@pss_cons _ _ _ _ _ d13 d14)))))))),?_⟩
  intro m le a b H3 s3 hle hm ha
  refine⟨_,rfl,sc,ns,5,rfl,s3.seq hS,h63,by decide,by decide,fun c5=>⟨c5,4,rfl,by decide,fun H4 wl s4 hwl=>?_⟩⟩
  rw [wd4] at hwl
  have nXY:wd c5 0≠wd c5 1:=fun z=>absurd (wd_ne (by decide) (by decide) z) (by decide)
  have nXZ:wd c5 0≠wd c5 2:=fun z=>absurd (wd_ne (by decide) (by decide) z) (by decide)
  have nYZ:wd c5 1≠wd c5 2:=fun z=>absurd (wd_ne (by decide) (by decide) z) (by decide)
  have nZW:wd c5 2≠wd c5 3:=fun z=>absurd (wd_ne (by decide) (by decide) z) (by decide)
  have r1:=rho_X (a:=a) (b:=b) nXY nXZ
  have r2:=rho_Y (a:=a) (b:=b) (X:=wd c5 0) nYZ
  have s34:=s3.trans s4
  refine⟨_,rfl,sc,ns,6,rfl,s34.seq hS,h63,by decide,by decide,fun c6=>⟨_,rfl,wl,_,_,_,rfl,rfl,SqL.of hwl,at0,_,rfl,_,rfl,c6,a,m,wd c5 0,rfl,fun H5 one e1 s5 h1 o1=>?_⟩⟩
  have s35:=s34.trans s5
  refine⟨_,rfl,sc,ns,6,rfl,s35.seq hS,h63,by decide,by decide,fun c6'=>⟨_,_,rfl,rfl,⟨by decide,by decide⟩,_,rfl,wl,_,_,_,rfl,rfl,SqL.of (s5 _ _ hwl),at1,_,rfl,_,rfl,_,b,m,wd c5 1,rfl,fun H6 oth e2 s6 h2 o2=>?_⟩⟩
  have s36:=s35.trans s6
  have w6:=(s5.trans s6) _ _ hwl
  intro hd g1
  have t1:=same_new g1 (.dK [])
  refine⟨_,rfl,wl,_,_,_,rfl,rfl,SqL.of (t1 _ _ w6),at0,_,rfl,_,rfl,wl,_,_,_,rfl,rfl,SqL.of (t1 _ _ w6),at1,_,rfl,_,rfl,wl,_,_,_,rfl,rfl,SqL.of (t1 _ _ w6),at2,_,rfl,_,rfl,(by show 2≤sizeLine;decide),fun tt g2=>?_⟩
  have t2:=same_new g2 (.tup [.int a,.int b])
  refine⟨t2 _ _ upd_same,[(.inr (wd c5 0),.int a),(.inr (wd c5 1),.int b),(.inr (wd c5 2),.ref tt)],rfl,(by decide:3≤15),?_⟩
  have tne:tt≠hd:=fun z=>by rw [z,upd_same] at g2;cases g2
  have s7:Same H6 (upd (upd (upd H6 hd (.dK [])) tt (.tup [.int a,.int b])) hd (.dK (hkv a b (wd c5 0) (wd c5 1) (wd c5 2) tt))):=sput (t1.trans t2) g1
  have o1h:(upd (upd (upd H6 hd (.dK [])) tt (.tup [.int a,.int b])) hd (.dK (hkv a b (wd c5 0) (wd c5 1) (wd c5 2) tt))) hd=some (.dK (hkv a b (wd c5 0) (wd c5 1) (wd c5 2) tt)):=upd_same
  have o2h:(upd (upd (upd H6 hd (.dK [])) tt (.tup [.int a,.int b])) hd (.dK (hkv a b (wd c5 0) (wd c5 1) (wd c5 2) tt))) tt=some (.tup [.int a,.int b]):=by rw [upd_ne tne,upd_same]
  show tSeq _ _ _ _ (upd (upd (upd H6 hd (.dK [])) tt (.tup [.int a,.int b])) hd (.dK (hkv a b (wd c5 0) (wd c5 1) (wd c5 2) tt)))
  generalize (upd (upd (upd H6 hd (.dK [])) tt (.tup [.int a,.int b])) hd (.dK (hkv a b (wd c5 0) (wd c5 1) (wd c5 2) tt)))=H7 at *
  refine⟨_,rfl,hd,_,rfl,o1h,fun d g3=>?_⟩
  have u3:=same_new g3 (.dK (hkv a b (wd c5 0) (wd c5 1) (wd c5 2) tt))
  refine⟨(by show 0≤sizeLine;decide),fun hl g4=>?_⟩
  have u4:=same_new g4 (.lst [])
  refine⟨_,rfl,_,rfl,_,rfl,(by show 2≤sizeLine;decide),fun tp g5=>⟨(by show 2≤sizeLine;decide),fun lp g6=>?_⟩⟩
  have u5:=same_new g5 (.tup [.int b,.int a])
  have u6:=same_new g6 (.lst [.int b,.ref tp])
  have v3:=s36.trans (s7.trans (u3.trans (u4.trans (u5.trans u6))))
  refine⟨_,rfl,sc,ns,7,rfl,v3.seq hS,h63,by decide,by decide,fun c7=>⟨_,_,rfl,rfl,(by show(0:Int) < 2;decide),?_⟩⟩
  obtain⟨rp,rv,ea,hrp,hrv⟩:∃rp rv,atI [V.int b,V.ref tp] (c7%2)=some rp∧VAt (upd (upd (upd (upd H7 d (.dK (hkv a b (wd c5 0) (wd c5 1) (wd c5 2) tt))) hl (.lst [])) tp (.tup [.int b,.int a])) lp (.lst [.int b,.ref tp])) rp rv∧rv.ht≤3:=by
   rcases (by omega:c7%2=0∨c7%2=1) with z|z
   ·exact⟨.int b,.num b,by rw [z];exact at0,.num,by simp only [Vl.ht];decide⟩
   ·exact⟨.ref tp,.pr (.num b) (.num a),by rw [z];exact at1,.pr (u6 _ _ upd_same) .num .num,by simp only [Vl.ht];decide⟩
  refine⟨lp,_,_,_,rfl,rfl,SqL.of upd_same,ea,?_⟩
  have x67:=s7.trans (u3.trans (u4.trans (u5.trans u6)))
  have x7:=u3.trans (u4.trans (u5.trans u6))
  have F9:Lf _ a b (wd c5 0) (wd c5 1) (wd c5 2) d hd hl tt T one oth rp e1 e2 rv:=⟨v3 _ _ hT,(u4.trans (u5.trans u6)) _ _ upd_same,x7 _ _ o1h,x7 _ _ o2h,(u5.trans u6) _ _ upd_same,side_sd ((h1.same s6).same x67) o1 r1,side_sd (h2.same x67) o2 r2,hrp,hrv⟩
  have w9:=x67 _ _ w6
  generalize (upd (upd (upd (upd H7 d (.dK (hkv a b (wd c5 0) (wd c5 1) (wd c5 2) tt))) hl (.lst [])) tp (.tup [.int b,.int a])) lp (.lst [.int b,.ref tp]))=H9 at *
  refine⟨_,rfl,_,rfl,_,rfl,_,rfl,_,rfl,one,oth,e1,e2,a,b,m,_,rfl,F9.s1,F9.s2,hm,⟨by omega,by omega⟩,fun Ha l1 xs1 sa hl1 n1 ca=>?_⟩
  refine⟨_,rfl,_,rfl,_,rfl,_,rfl,_,rfl,_,rfl,wl,one,oth,e1,e2,a,b,le,_,wd c5 0,wd c5 1,wd c5 2,wd c5 3,rfl,SqL.of (sa _ _ w9),F9.s1.same sa,F9.s2.same sa,hle,r1,r2,rho_Z,nXY,nZW,fun Hb l2 xs2 sb hl2 n2 cb=>?_⟩
  refine⟨l1,l2,_,_,rfl,rfl,sb _ _ hl1,hl2,small (by omega),fun cl gc=>?_⟩
  have sc':=same_new gc (.lst (xs1++xs2))
  refine k13 m le a b (wd c5 0) (wd c5 1) (wd c5 2) wl sc d hd hl tt cl one oth rp e1 e2 rv (xs1++xs2) _ _ (F9.same (sa.trans (sb.trans sc'))) upd_same (fun x hx=>?_) (fun Hd v13 v14 v15 sd=>?_)
  ·rcases List.mem_append.mp hx with z|z
   ·exact(ca x z).same (sb.trans sc')
   ·exact(cb x z).same sc'
  ·exact k14 m le a b (wd c5 0) (wd c5 1) (wd c5 2) wl sc d hd hl tt cl one oth rp e1 e2 rv v13 v14 v15 ns Hd _ (F9.same ((sa.trans (sb.trans sc')).trans sd)) ((v3.trans ((sa.trans (sb.trans sc')).trans sd)).seq hS) h63 q
 refine⟨_,@pss_cons _ _ _ _ _ (ps_set (i:=1) scLaw.nd rfl (Or.inl rfl) (pe_op op_add pe_int (pe_op op_mod (pe_call GC hr1 rfl mC kC bC .nil pass0 (@pa_cons _ _ _ _ _ (pv 0) (@pa_cons _ _ _ _ _ pe_int pa_nil rfl) rfl)) (pe_op op_pow pe_int pe_int))))
  (@pss_cons _ _ _ _ _ (ps_set (i:=2) scLaw.nd rfl (Or.inl rfl) (pe_op op_add pe_int (pe_op op_mod (pe_call GC hr1 rfl mC kC bC .nil pass0 (@pa_cons _ _ _ _ _ (pv 0) (@pa_cons _ _ _ _ _ pe_int pa_nil rfl) rfl)) (pv 1))))
  (@pss_cons _ _ _ _ _ (ps_set (i:=3) scLaw.nd rfl (Or.inl rfl) (pe_op op_mod (pe_call GC hr1 rfl mC kC bC .nil pass0 (@pa_cons _ _ _ _ _ (pv 0) (@pa_cons _ _ _ _ _ pe_int pa_nil rfl) rfl)) (pv 1)))
  (@pss_cons _ _ _ _ _ (ps_set (i:=4) scLaw.nd rfl (Or.inl rfl) (pe_op op_mod (pe_call GC hr1 rfl mC kC bC .nil pass0 (@pa_cons _ _ _ _ _ (pv 0) (@pa_cons _ _ _ _ _ pe_int pa_nil rfl) rfl)) (pv 1)))
  (@pss_cons _ _ _ _ _ (ps_if (pt_cmpR op_eq (pe_op op_mod (pe_call GC hr1 rfl mC kC bC .nil pass0 (@pa_cons _ _ _ _ _ (pv 0) (@pa_cons _ _ _ _ _ pe_int pa_nil rfl) rfl)) pe_int) pe_int (nomark _)) (@pss_one _ _ _ (ps_set (i:=4) scLaw.nd rfl (Or.inl rfl) (pv 3))) pss_nil)
  d5)))),?_⟩
 have P18:(0:Int) < (10:Int) ^ (18:Int).toNat:=by rw [pw18];decide
 refine⟨_,rfl,sc,ns,0,rfl,hS,h63,by decide,by decide,fun c0=>⟨_,_,rfl,rfl,⟨by decide,by decide,by decide⟩,_,_,rfl,rfl,P18,_,_,rfl,rfl,?_⟩⟩
 have b0:=Int.emod_nonneg c0 (show((10:Int) ^ (18:Int).toNat)≠0 by rw [pw18];decide)
 have b1:=Int.emod_lt_of_pos c0 P18
 have e18:=pw18
 have hm:0 < 1+c0%(10:Int) ^ (18:Int).toNat:=by omega
 have hm2:1+c0%(10:Int) ^ (18:Int).toNat < 1000000000000000001:=by omega
 refine⟨_,rfl,sc,ns,1,rfl,hS,h63,by decide,by decide,fun c1=>⟨_,rfl,_,_,rfl,rfl,hm,_,_,rfl,rfl,?_⟩⟩
 refine⟨_,rfl,sc,ns,2,rfl,hS,h63,by decide,by decide,fun c2=>⟨_,rfl,_,_,rfl,rfl,hm,?_⟩⟩
 refine⟨_,rfl,sc,ns,3,rfl,hS,h63,by decide,by decide,fun c3=>⟨_,rfl,_,_,rfl,rfl,hm,?_⟩⟩
 have a0:=Int.emod_nonneg c2 (show(1+c0%(10:Int) ^ (18:Int).toNat)≠0 by omega)
 have a1:=Int.emod_lt_of_pos c2 hm
 have l0:=Int.emod_nonneg c1 (show(1+c0%(10:Int) ^ (18:Int).toNat)≠0 by omega)
 have ha:0≤c2%(1+c0%(10:Int) ^ (18:Int).toNat)∧c2%(1+c0%(10:Int) ^ (18:Int).toNat) < 1000000000000000001:=⟨a0,by omega⟩
 refine⟨_,rfl,sc,ns,4,rfl,hS,h63,by decide,by decide,fun c4=>⟨_,_,rfl,rfl,(by show(0:Int) < 3;decide),rfl,_,rfl,ite2 (fun _=>⟨_,rfl,?_⟩) (fun _=>?_)⟩⟩
 ·exact k5 _ _ _ _ H (Same.refl _) (by omega) hm ha
 ·exact k5 _ _ _ _ H (Same.refl _) (by omega) hm ha
end
end K71
namespace K71
open PySem L2
set_option maxHeartbeats 0 in
theorem all_mk{l:PySem.W.OpenLaw}{q:Program}{w:World}{K:PySem.W.Frag}{h:Heap}{mg:Str→Option Value}{fa f1 f2 f3 f4 f5 f6 f7 f8 f9 f10 f11 f12 f13 f14 f15:Addr}(X:K.In h)(G:h.Ns mainGlobals mg) (hfa:mg "law"=some (.ref fa))
  {od1 an1 od2 an2 od3 an3 od4 an4 od5 an5 od6 an6 od7 an7 od8 an8 od9 an9 od10 an10 od11 an11 od12 an12 od13 an13 od14 an14 od15 an15:Option Addr} {sl1 sl2 sl3 sl4 sl5 sl6 sl7 sl8 sl9 sl10 sl11 sl12 sl13 sl14 sl15:Array (Option Value)} {oc1 kV1 dc1 pm1 ct1 cd1 oc2 kV2 dc2 pm2 ct2 cd2 oc3 kV3 dc3 pm3 ct3 cd3 oc4 kV4 dc4 pm4 ct4 cd4 oc5 kV5 dc5 pm5 ct5 cd5 oc6 kV6 dc6 pm6 ct6 cd6 oc7 kV7 dc7 pm7 ct7 cd7 oc8 kV8 dc8 pm8 ct8 cd8 oc9 kV9 dc9 pm9 ct9 cd9 oc10 kV10 dc10 pm10 ct10 cd10 oc11 kV11 dc11 pm11 ct11 cd11 oc12 kV12 dc12 pm12 ct12 cd12 oc13 kV13 dc13 pm13 ct13 cd13 oc14 kV14 dc14 pm14 ct14 cd14 oc15 kV15 dc15 pm15 ct15:Value} {cc15 PT15:Addr}
  {pA:Addr} {nA:Nat} {g1 g2 g3 g4 g5 g6 g7 g8 y1 y2 y3 y4 y5 y6 y7 y8:Tok}
  (a1:PySem.W.nsIn K mainGlobals "within"=some (some (.ref f1))) (l1:K.lookup f1=some ⟨oc1,od1,.func (PySem.W.fnOf "within" "within" (defArgs sWithin) (defBody sWithin) (defScope sWithin) .none kV1 dc1 pm1 an1 cd1 ct1),sl1⟩) (c1:PySem.W.codeIn K cd1 "within"=true) (k1:PySem.W.keepIn K (.ref f1)=true)
  (a2:PySem.W.nsIn K mainGlobals "value_of"=some (some (.ref f2))) (l2:K.lookup f2=some ⟨oc2,od2,.func (PySem.W.fnOf "value_of" "value_of" (defArgs sValue) (defBody sValue) (defScope sValue) .none kV2 dc2 pm2 an2 cd2 ct2),sl2⟩) (c2:PySem.W.codeIn K cd2 "value_of"=true) (k2:PySem.W.keepIn K (.ref f2)=true)
  (a3:PySem.W.nsIn K mainGlobals "variable_value"=some (some (.ref f3))) (l3:K.lookup f3=some ⟨oc3,od3,.func (PySem.W.fnOf "variable_value" "variable_value" (defArgs sVar) (defBody sVar) (defScope sVar) .none kV3 dc3 pm3 an3 cd3 ct3),sl3⟩) (c3:PySem.W.codeIn K cd3 "variable_value"=true) (k3:PySem.W.keepIn K (.ref f3)=true)
  (a4:PySem.W.nsIn K mainGlobals "value_by_form"=some (some (.ref f4))) (l4:K.lookup f4=some ⟨oc4,od4,.func (PySem.W.fnOf "value_by_form" "value_by_form" (defArgs sForm) (defBody sForm) (defScope sForm) .none kV4 dc4 pm4 an4 cd4 ct4),sl4⟩) (c4:PySem.W.codeIn K cd4 "value_by_form"=true) (k4:PySem.W.keepIn K (.ref f4)=true)
  (a5:PySem.W.nsIn K mainGlobals "reckoned"=some (some (.ref f5))) (l5:K.lookup f5=some ⟨oc5,od5,.func (PySem.W.fnOf "reckoned" "reckoned" (defArgs sReck) (defBody sReck) (defScope sReck) .none kV5 dc5 pm5 an5 cd5 ct5),sl5⟩) (c5:PySem.W.codeIn K cd5 "reckoned"=true) (k5:PySem.W.keepIn K (.ref f5)=true)
  (a6:PySem.W.nsIn K mainGlobals "compared_values"=some (some (.ref f6))) (l6:K.lookup f6=some ⟨oc6,od6,.func (PySem.W.fnOf "compared_values" "compared_values" (defArgs sComp) (defBody sComp) (defScope sComp) .none kV6 dc6 pm6 an6 cd6 ct6),sl6⟩) (c6:PySem.W.codeIn K cd6 "compared_values"=true) (k6:PySem.W.keepIn K (.ref f6)=true)
  (a7:PySem.W.nsIn K mainGlobals "_law_cell_at"=some (some (.ref f7))) (l7:K.lookup f7=some ⟨oc7,od7,.func (PySem.W.fnOf "_law_cell_at" "_law_cell_at" (defArgs sCell) (defBody sCell) (defScope sCell) .none kV7 dc7 pm7 an7 cd7 ct7),sl7⟩) (c7:PySem.W.codeIn K cd7 "_law_cell_at"=true) (k7:PySem.W.keepIn K (.ref f7)=true)
  (a8:PySem.W.nsIn K mainGlobals "_law_whole"=some (some (.ref f8))) (l8:K.lookup f8=some ⟨oc8,od8,.func (PySem.W.fnOf "_law_whole" "_law_whole" (defArgs sWhole) (defBody sWhole) (defScope sWhole) .none kV8 dc8 pm8 an8 cd8 ct8),sl8⟩) (c8:PySem.W.codeIn K cd8 "_law_whole"=true) (k8:PySem.W.keepIn K (.ref f8)=true)
  (a9:PySem.W.nsIn K mainGlobals "_law_alike"=some (some (.ref f9))) (l9:K.lookup f9=some ⟨oc9,od9,.func (PySem.W.fnOf "_law_alike" "_law_alike" (defArgs sAlike) (defBody sAlike) (defScope sAlike) .none kV9 dc9 pm9 an9 cd9 ct9),sl9⟩) (c9:PySem.W.codeIn K cd9 "_law_alike"=true) (k9:PySem.W.keepIn K (.ref f9)=true)
  (a10:PySem.W.nsIn K mainGlobals "_law_words"=some (some (.ref f10))) (l10:K.lookup f10=some ⟨oc10,od10,.func (PySem.W.fnOf "_law_words" "_law_words" (defArgs sWords) (defBody sWords) (defScope sWords) .none kV10 dc10 pm10 an10 cd10 ct10),sl10⟩) (c10:PySem.W.codeIn K cd10 "_law_words"=true) (k10:PySem.W.keepIn K (.ref f10)=true)
  (a11:PySem.W.nsIn K mainGlobals "_law_side"=some (some (.ref f11))) (l11:K.lookup f11=some ⟨oc11,od11,.func (PySem.W.fnOf "_law_side" "_law_side" (defArgs sSide) (defBody sSide) (defScope sSide) .none kV11 dc11 pm11 an11 cd11 ct11),sl11⟩) (c11:PySem.W.codeIn K cd11 "_law_side"=true) (k11:PySem.W.keepIn K (.ref f11)=true)
  (a12:PySem.W.nsIn K mainGlobals "_law_noted"=some (some (.ref f12))) (l12:K.lookup f12=some ⟨oc12,od12,.func (PySem.W.fnOf "_law_noted" "_law_noted" (defArgs sNoted) (defBody sNoted) (defScope sNoted) .none kV12 dc12 pm12 an12 cd12 ct12),sl12⟩) (c12:PySem.W.codeIn K cd12 "_law_noted"=true) (k12:PySem.W.keepIn K (.ref f12)=true)
  (a13:PySem.W.nsIn K mainGlobals "_law_reckoned"=some (some (.ref f13))) (l13:K.lookup f13=some ⟨oc13,od13,.func (PySem.W.fnOf "_law_reckoned" "_law_reckoned" (defArgs sReckL) (defBody sReckL) (defScope sReckL) .none kV13 dc13 pm13 an13 cd13 ct13),sl13⟩) (c13:PySem.W.codeIn K cd13 "_law_reckoned"=true) (k13:PySem.W.keepIn K (.ref f13)=true)
  (a14:PySem.W.nsIn K mainGlobals "_law_cases"=some (some (.ref f14))) (l14:K.lookup f14=some ⟨oc14,od14,.func (PySem.W.fnOf "_law_cases" "_law_cases" (defArgs sCasesL) (defBody sCasesL) (defScope sCasesL) .none kV14 dc14 pm14 an14 cd14 ct14),sl14⟩) (c14:PySem.W.codeIn K cd14 "_law_cases"=true) (k14:PySem.W.keepIn K (.ref f14)=true)
  (a15:PySem.W.nsIn K mainGlobals "law"=some (some (.ref f15))) (l15:K.lookup f15=some ⟨oc15,od15,.func (PySem.W.fnOf "law" "law" (defArgs sLaw) (defBody sLaw) (defScope sLaw) .none kV15 dc15 pm15 an15 (.ref cc15) ct15),sl15⟩) (c15:PySem.W.codeIn K (.ref cc15) "law"=true) (k15:PySem.W.keepIn K (.ref f15)=true)
  (t15:PySem.W.tabIn K "law"=some (cc15,PT15)) (h15:PySem.W.codeHdIn K cc15 PT15=true) (r15:∃d,(PyProof.Rows.recsOf q).find? (fun e=>e.name==("law":Str))=some d)
  (nT:PySem.W.noTabs K=true) (nD:([PT15]:List Addr).Nodup)
  (eH:PySem.W.nsIn K mainGlobals "AHEAD"=some (some (.ref pA)))
  (lH:K.lookup pA=some ⟨.type "dict",none,.dict #[⟨hashStr w "op",.str "op" g1,.int 3 y1⟩,⟨hashStr w "test",.str "test" g2,.int 2 y2⟩,⟨hashStr w "as",.str "as" g3,.int 2 y3⟩,⟨hashStr w "let",.str "let" g4,.int 2 y4⟩,⟨hashStr w "if",.str "if" g5,.int 1 y5⟩,⟨hashStr w "two",.str "two" g6,.int 1 y6⟩,⟨hashStr w "first",.str "first" g7,.int 1 y7⟩,⟨hashStr w "second",.str "second" g8,.int 1 y8⟩] nA,#[]⟩)
  (qH:(pA==sysModules)=false)
  (z1:PySem.W.nsIn K mainGlobals "len"=some none)
  (z2:PySem.W.nsIn K mainGlobals "range"=some none)
  (z3:PySem.W.nsIn K mainGlobals "isinstance"=some none)
  (z4:PySem.W.nsIn K mainGlobals "tuple"=some none)
  (z5:PySem.W.nsIn K mainGlobals "str"=some none)
  (z6:PySem.W.nsIn K mainGlobals "int"=some none)
  (z7:PySem.W.nsIn K mainGlobals "bool"=some none)
  (z8:PySem.W.nsIn K mainGlobals "list"=some none)
  (z9:PySem.W.nsIn K mainGlobals "all"=some none)
  (z10:PySem.W.nsIn K mainGlobals "dict"=some none)
  (z11:PySem.W.nsIn K mainGlobals "zip"=some none) :
  ∃(fd:FuncData) (tabs:List (Addr × Array Value)) (sp:Sp),(∀(s:Shared) (v:Value),BindsTo s fd ⟨[v],[]⟩ [("_law_script",v)])∧TabsOf q K tabs∧(tabs.map (·.1)).Nodup∧PySem.W.noTabs K=true∧(∀base:Heap,K.In base→base.Ns mainGlobals mg→FnOk l.prog w K mg base CX0 11 fa fd ["_law_script"] sp) ∧
   ∀(H:Hp) (a:Addr) (ns:List Int),ns.length≤63→(∀t∈tabs,H t.1=some (.tbl t.2))→SqL K H a (ns.map V.int)→sp [.ref a] H (fun v _=>v=.bl true) fun _ _ _=>False:=by
 have e:=hfa.symm.trans (PySem.W.mg_of X G a15)
 cases e
 have F1:=fun_mk (st:=sWithin) l1 c1 k1
 have F2:=fun_mk (st:=sValue) l2 c2 k2
 have F3:=fun_mk (st:=sVar) l3 c3 k3
 have F4:=fun_mk (st:=sForm) l4 c4 k4
 have F5:=fun_mk (st:=sReck) l5 c5 k5
 have F6:=fun_mk (st:=sComp) l6 c6 k6
 have F7:=fun_mk (st:=sCell) l7 c7 k7
 have F8:=fun_mk (st:=sWhole) l8 c8 k8
 have F9:=fun_mk (st:=sAlike) l9 c9 k9
 have F10:=fun_mk (st:=sWords) l10 c10 k10
 have F11:=fun_mk (st:=sSide) l11 c11 k11
 have F12:=fun_mk (st:=sNoted) l12 c12 k12
 have F13:=fun_mk (st:=sReckL) l13 c13 k13
 have F14:=fun_mk (st:=sCasesL) l14 c14 k14
 have F15:=funt_mk (st:=sLaw) l15 c15 k15 h15
 have b1:=F1.binds (ps:=["expression"]) fun _ _ _ _ _ _ us hl=>match us,hl with|[_],_=>rfl
 have b2:=F2.binds (ps:=["expression","variables","call"]) fun _ _ _ _ _ _ us hl=>match us,hl with|[_,_,_],_=>rfl
 have b3:=F3.binds (ps:=["word","variables"]) fun _ _ _ _ _ _ us hl=>match us,hl with|[_,_],_=>rfl
 have b4:=F4.binds (ps:=["expression","values"]) fun _ _ _ _ _ _ us hl=>match us,hl with|[_,_],_=>rfl
 have b5:=F5.binds (ps:=["sign","one","other"]) fun _ _ _ _ _ _ us hl=>match us,hl with|[_,_,_],_=>rfl
 have b6:=F6.binds (ps:=["sign","one","other"]) fun _ _ _ _ _ _ us hl=>match us,hl with|[_,_,_],_=>rfl
 have b7:=F7.binds (ps:=["_law_script","_law_k"]) fun _ _ _ _ _ _ us hl=>match us,hl with|[_,_],_=>rfl
 have b8:=F8.binds (ps:=["_law_found"]) fun _ _ _ _ _ _ us hl=>match us,hl with|[_],_=>rfl
 have b9:=F9.binds (ps:=["_law_found","_law_due"]) fun _ _ _ _ _ _ us hl=>match us,hl with|[_,_],_=>rfl
 have b10:=F10.binds (ps:=["_law_cell","_law_many"]) fun _ _ _ _ _ _ us hl=>match us,hl with|[_,_],_=>rfl
 have b11:=F11.binds (ps:=["_law_cell","_law_name","_law_value","_law_many"]) fun _ _ _ _ _ _ us hl=>match us,hl with|[_,_,_,_],_=>rfl
 have b12:=F12.binds (ps:=["_law_heard","_law_call","_law_reply"]) fun _ _ _ _ _ _ us hl=>match us,hl with|[_,_,_],_=>rfl
 have b13:=F13.binds (ps:=["_law_one","_law_other","_law_a","_law_b","_law_many"]) fun _ _ _ _ _ _ us hl=>match us,hl with|[_,_,_,_,_],_=>rfl
 have b14:=F14.binds (ps:=["_law_words_here","_law_one","_law_other","_law_a","_law_b","_law_less"]) fun _ _ _ _ _ _ us hl=>match us,hl with|[_,_,_,_,_,_],_=>rfl
 refine⟨PySem.W.fnOf "law" "law" (defArgs sLaw) (defBody sLaw) (defScope sLaw) .none kV15 dc15 pm15 an15 (.ref cc15) ct15,[(PT15,tabL)],spLaw K PT15,fun s v=>.of_eq rfl,List.forall_mem_cons.mpr ⟨⟨"law",cc15,r15.choose,t15,r15.choose_spec⟩,fun t ht=>nomatch ht⟩,nD,nT,fun base hB _=>?_,fun H a ns hn hT hS=>⟨a,ns,rfl,hS,hn,hT _ (.head _),fun _=>rfl⟩⟩
 have hA:DKt K w pA ahs:=dkt_of lH qH (.cons rfl (.cons rfl (.cons rfl (.cons rfl (.cons rfl (.cons rfl (.cons rfl (.cons rfl .nil)))))))) (by decide +kernel)
 have GI:=ok_within (P:=l.prog) (w:=w) (base:=base) (mg:=mg) F1 (PySem.W.mg_of X G eH) hA
 have GVr:=ok_var (P:=l.prog) (w:=w) (base:=base) (mg:=mg) F3
 have GR:=ok_reck (P:=l.prog) (w:=w) (base:=base) (mg:=mg) F5
 have GCm:=ok_comp (P:=l.prog) (w:=w) (base:=base) (mg:=mg) F6
 have GF:=ok_form (P:=l.prog) (w:=w) (base:=base) (mg:=mg) F4 GR b5 k5 (PySem.W.mg_of X G a5) GCm b6 k6 (PySem.W.mg_of X G a6)
 have GV:=ok_value (P:=l.prog) (w:=w) (base:=base) (mg:=mg) (k:=2) F2 b2 (PySem.W.mg_of X G a2) (PySem.W.mg_none_of X G z10) GVr b3 k3 (PySem.W.mg_of X G a3) GI b1 k1 (PySem.W.mg_of X G a1) GF b4 k4 (PySem.W.mg_of X G a4) 5
 have GC:=ok_cell (P:=l.prog) (w:=w) (base:=base) (mg:=mg) F7 (PySem.W.mg_none_of X G z1)
 have GWh:=ok_whole (P:=l.prog) (w:=w) (base:=base) (mg:=mg) F8 (PySem.W.mg_none_of X G z3) (PySem.W.mg_none_of X G z6) (PySem.W.mg_none_of X G z7)
 have GA:=ok_alike (P:=l.prog) (w:=w) (base:=base) (mg:=mg) F9 b9 (PySem.W.mg_of X G a9) GWh b8 k8 (PySem.W.mg_of X G a8) (PySem.W.mg_none_of X G z3) (PySem.W.mg_none_of X G z5) (PySem.W.mg_none_of X G z4) (PySem.W.mg_none_of X G z1) (PySem.W.mg_none_of X G z11) (PySem.W.mg_none_of X G z9) 3
 have GW:=ok_words (P:=l.prog) (w:=w) (base:=base) (mg:=mg) F10 (PySem.W.mg_none_of X G z2) (PySem.W.mg_none_of X G z6)
 have GS:=ok_side (P:=l.prog) (w:=w) (base:=base) (mg:=mg) F11
 have GN:=ok_noted (P:=l.prog) (w:=w) (base:=base) (mg:=mg) F12
 have GRL:=ok_reckL (P:=l.prog) (w:=w) (base:=base) (mg:=mg) F13 (PySem.W.mg_none_of X G z6)
 have GCL:=ok_casesL (P:=l.prog) (w:=w) (base:=base) (mg:=mg) F14
 exact ok_law F15 hB GV b2 k2 (PySem.W.mg_of X G a2) GA b9 k9 (PySem.W.mg_of X G a9) GN b12 k12 (PySem.W.mg_of X G a12) GC b7 k7 (PySem.W.mg_of X G a7) GW b10 k10 (PySem.W.mg_of X G a10) GS b11 k11 (PySem.W.mg_of X G a11) GRL b13 k13 (PySem.W.mg_of X G a13) GCL b14 k14 (PySem.W.mg_of X G a14) (PySem.W.mg_none_of X G z4) (PySem.W.mg_none_of X G z1) (PySem.W.mg_none_of X G z3) (PySem.W.mg_none_of X G z8) (PySem.W.mg_none_of X G z10)
end K71
open PySem PySem.W PyProof.Rows
set_option maxRecDepth 100000 in
set_option maxHeartbeats 0 in
theorem PySem.Challenge.cw_sealhouse_k71_single_expressions_holds : PySem.Challenge.rw_sealhouse_k71_single_expressions.Holds := by
 w_on;o_law;k_head;(case hw=>w_witness2)
 k_fill
 refine L2.walk_ofT (l:=PySem.Challenge.rw_sealhouse_k71_single_expressions) (n:=63) (k:=11) (x:="_law_script") (CX:=fun _=>L2.CX0) rfl (by decide) rfl ⟨rfl,by decide,by decide,rfl⟩ (by intro w h Y;first|exact PySem.W.km_in_of Y|exact PySem.W.kIn_of Y) ?F (fun _ _ _ _ _ z=>z)
 case F =>
  intro w mg fa h KX G hmg
  refine' K71.all_mk KX G hmg ?a1 ?l1 ?c1 ?k1 ?a2 ?l2 ?c2 ?k2 ?a3 ?l3 ?c3 ?k3 ?a4 ?l4 ?c4 ?k4 ?a5 ?l5 ?c5 ?k5 ?a6 ?l6 ?c6 ?k6 ?a7 ?l7 ?c7 ?k7 ?a8 ?l8 ?c8 ?k8 ?a9 ?l9 ?c9 ?k9 ?a10 ?l10 ?c10 ?k10 ?a11 ?l11 ?c11 ?k11 ?a12 ?l12 ?c12 ?k12 ?a13 ?l13 ?c13 ?k13 ?a14 ?l14 ?c14 ?k14 ?a15 ?l15 ?c15 ?k15 ?t15 ?h15 ?r15 ?nT ?nD ?eH ?lH ?qH ?z1 ?z2 ?z3 ?z4 ?z5 ?z6 ?z7 ?z8 ?z9 ?z10 ?z11
  (case a1=>k_is)
  (case l1=>k_is)
  (case c1=>k_is)
  (case k1=>k_is)
  (case a2=>k_is)
  (case l2=>k_is)
  (case c2=>k_is)
  (case k2=>k_is)
  (case a3=>k_is)
  (case l3=>k_is)
  (case c3=>k_is)
  (case k3=>k_is)
  (case a4=>k_is)
  (case l4=>k_is)
  (case c4=>k_is)
  (case k4=>k_is)
  (case a5=>k_is)
  (case l5=>k_is)
  (case c5=>k_is)
  (case k5=>k_is)
  (case a6=>k_is)
  (case l6=>k_is)
  (case c6=>k_is)
  (case k6=>k_is)
  (case a7=>k_is)
  (case l7=>k_is)
  (case c7=>k_is)
  (case k7=>k_is)
  (case a8=>k_is)
  (case l8=>k_is)
  (case c8=>k_is)
  (case k8=>k_is)
  (case a9=>k_is)
  (case l9=>k_is)
  (case c9=>k_is)
  (case k9=>k_is)
  (case a10=>k_is)
  (case l10=>k_is)
  (case c10=>k_is)
  (case k10=>k_is)
  (case a11=>k_is)
  (case l11=>k_is)
  (case c11=>k_is)
  (case k11=>k_is)
  (case a12=>k_is)
  (case l12=>k_is)
  (case c12=>k_is)
  (case k12=>k_is)
  (case a13=>k_is)
  (case l13=>k_is)
  (case c13=>k_is)
  (case k13=>k_is)
  (case a14=>k_is)
  (case l14=>k_is)
  (case c14=>k_is)
  (case k14=>k_is)
  (case a15=>k_is)
  (case l15=>k_is)
  (case c15=>k_is)
  (case k15=>k_is)
  (case t15=>first|k_is|exact rfl)
  (case h15=>first|kernel_rfl|exact rfl)
  (case r15=>exact⟨_,rfl⟩)
  (case nT=>first|kernel_rfl|exact rfl)
  (case nD=>decide)
  (case eH=>k_is)
  (case lH=>with_unfolding_all exact rfl)
  (case qH=>decide)
  (case z1=>k_is)
  (case z2=>k_is)
  (case z3=>k_is)
  (case z4=>k_is)
  (case z5=>k_is)
  (case z6=>k_is)
  (case z7=>k_is)
  (case z8=>k_is)
  (case z9=>k_is)
  (case z10=>k_is)
  (case z11=>k_is)
#print axioms PySem.Challenge.cw_sealhouse_k71_single_expressions_holds
