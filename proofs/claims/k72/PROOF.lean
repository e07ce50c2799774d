import PyProof.Rows.All
import Wide.All
import OpenK.AllK
import Wide.FinOn
import Lean
import PyProof.EqAt
import PyProof.EqKinds
import PyProof.TupleCall
import PySem.Challenge.RW_sealhouse_k72_whole_expressions_run
set_option Elab.async false
set_option linter.all false
set_option maxRecDepth 100000
namespace L2
open PySem PySem.Spec PyProof.Rows
abbrev Key:=Sum Int Str
def keyIs:Key→Value→Bool
 |.inl k,v=>Value.isInt k v
 |.inr x,v=>Value.isStrOf x v
def keyH(w:World):Key→Int
 |.inl k=>hashInt k
 |.inr x=>hashStr w x
theorem keyIs_shape:∀{k:Key} {v:Value},keyIs k v=true→(∃i t,k=Sum.inl i∧v=Value.int i t)∨(∃x t,k=Sum.inr x∧v=Value.str x t)
 |.inl i,v,h=>by
  obtain⟨t,e⟩:=Value.isInt_shape (k:=i) (v:=v) h
  exact .inl ⟨i,t,rfl,e⟩
 |.inr x,v,h=>by
  obtain⟨t,e⟩:=Value.isStrOf_shape (x:=x) (v:=v) h
  exact .inr ⟨x,t,rfl,e⟩
theorem keyIs_int(i:Int)(t:Tok):keyIs (.inl i) (.int i t)=true:=by simp [keyIs,Value.isInt]
theorem keyIs_str(x:Str)(t:Tok):keyIs (.inr x) (.str x t)=true:=by simp [keyIs,Value.isStrOf]
theorem key_ll(a b:Int):decide ((Sum.inl a:Key)=Sum.inl b)=(a==b):=by
 by_cases e:a=b
 ·subst e;simp
 ·have h:¬(Sum.inl a:Key)=Sum.inl b:=fun q=>e (Sum.inl.inj q)
  rw [decide_eq_false h]
  exact(beq_eq_false_iff_ne.mpr e).symm
theorem key_rr(a b:Str):decide ((Sum.inr a:Key)=Sum.inr b)=decide (a=b):=by
 by_cases e:a=b
 ·subst e;simp
 ·have h:¬(Sum.inr a:Key)=Sum.inr b:=fun q=>e (Sum.inr.inj q)
  rw [decide_eq_false h,decide_eq_false e]
theorem key_lr(a:Int)(b:Str):decide ((Sum.inl a:Key)=Sum.inr b)=false:=decide_eq_false (fun q=>nomatch q)
theorem key_rl(a:Str)(b:Int):decide ((Sum.inr a:Key)=Sum.inl b)=false:=decide_eq_false (fun q=>nomatch q)
def mixKind(prog:Program)(w:World):PySem.KeyKind prog w Key where
 is:=keyIs
 hash:=keyH w
 inj:=fun v a b ha hb=>by
  rcases keyIs_shape ha with ⟨i,t,rfl,rfl⟩|⟨x,t,rfl,rfl⟩
  ·rcases keyIs_shape hb with ⟨j,u,rfl,e⟩|⟨y,u,rfl,e⟩
   ·injection e with e1 _;rw [e1]
   ·exact nomatch e
  ·rcases keyIs_shape hb with ⟨j,u,rfl,e⟩|⟨y,u,rfl,e⟩
   ·exact nomatch e
   ·injection e with e1 _;rw [e1]
 byValue:=fun k v h=>by
  rcases keyIs_shape h with ⟨i,t,rfl,rfl⟩|⟨x,t,rfl,rfl⟩<;>rfl
 pyHash:=fun hv h=>by
  rcases keyIs_shape hv with ⟨i,t,rfl,rfl⟩|⟨x,t,rfl,rfl⟩
  ·exact wpAny_pyHash_int h
  ·exact wpAny_pyHash_str h
 eqBool:=fun hu hv h=>by
  rcases keyIs_shape hu with ⟨i,t,rfl,rfl⟩|⟨x,t,rfl,rfl⟩
  ·rcases keyIs_shape hv with ⟨j,u,rfl,rfl⟩|⟨y,u,rfl,rfl⟩
   ·rw [key_ll] at h;exact wpAny_eqBool_int h
   ·rw [key_lr] at h;exact SeqAt.EqAt.int_str i t y u _ _ _ _ h
  ·rcases keyIs_shape hv with ⟨j,u,rfl,rfl⟩|⟨y,u,rfl,rfl⟩
   ·rw [key_rl] at h;exact SeqAt.EqAt.str_int x t j u _ _ _ _ h
   ·rw [key_rr] at h;exact wpAny_eqBool_str h
 «strs»:=fun k x t v h=>by
  rcases keyIs_shape h with ⟨i,u,rfl,e⟩|⟨y,u,rfl,e⟩
  ·exact nomatch e
  ·injection e with e1 _
   subst e1
   cases v<;>rfl
theorem mixKind_is(prog:Program)(w:World)(k:Key)(v:Value):(mixKind prog w).is k v=keyIs k v:=rfl
theorem mixKind_int(prog:Program)(w:World)(i:Int)(t:Tok):(mixKind prog w).is (.inl i) (.int i t)=true:=keyIs_int i t
theorem mixKind_str(prog:Program)(w:World)(x:Str)(t:Tok):(mixKind prog w).is (.inr x) (.str x t)=true:=keyIs_str x t
end L2
namespace L2
open PySem PySem.Spec PyProof.Rows
inductive V where
 |non|bl (b:Bool)|int (i:Int)|str (x:Str)|byt (b:Array UInt8)|flt (b:UInt64)|ref (a:Addr)|ty (n:String)
 deriving DecidableEq
def RelV:V→Value→Prop
 |.non,u=>u=Value.none
 |.bl b,u=>u=Value.bool b
 |.int i,u=>∃t,u=Value.int i t
 |.str x,u=>∃t,u=Value.str x t
 |.byt b,u=>∃t,u=Value.bytes b t
 |.flt b,u=>∃t,u=Value.float b t
 |.ref a,u=>u=Value.ref a
 |.ty n,u=>u=Value.type n
abbrev Vals:List V→List Value→Prop:=Paired RelV
theorem Vals.length{xs:List V}{us:List Value}(r:Vals xs us):xs.length=us.length:=Paired.length r
theorem Vals.get:∀{xs:List V} {us:List Value} {i:Nat} {x:V},Vals xs us→xs[i]?=some x→∃u,us[i]?=some u∧RelV x u
 |_,_,_,_,.nil,e=>by simp at e
 |_,_,0,_,.cons r _,e=>by simp at e;subst e;exact⟨_,rfl,r⟩
 |_,_,i+1,x,.cons _ t,e=>by
  obtain⟨u,h1,h2⟩:=Vals.get (i:=i) (x:=x) t (by simpa using e)
  exact⟨u,by simpa using h1,h2⟩
theorem Vals.set{x:V}{u:Value}(r:RelV x u):∀{xs:List V} {us:List Value} (i:Nat),Vals xs us→Vals (xs.set i x) (us.set i u)
 |_,_,_,.nil=>.nil
 |_,_,0,.cons _ t=>.cons r t
 |_,_,i+1,.cons q t=>.cons q (Vals.set r i t)
theorem Vals.append:∀{xs ys:List V} {us ws:List Value},Vals xs us→Vals ys ws→Vals (xs++ys) (us++ws)
 |_,_,_,_,.nil,s=>s
 |_,_,_,_,.cons r t,s=>.cons r (Vals.append t s)
theorem Vals.take:∀{xs:List V} {us:List Value} (n:Nat),Vals xs us→Vals (xs.take n) (us.take n)
 |_,_,0,_=>.nil
 |_,_,_+1,.nil=>.nil
 |_,_,n+1,.cons r t=>.cons r (Vals.take n t)
theorem Vals.drop:∀{xs:List V} {us:List Value} (n:Nat),Vals xs us→Vals (xs.drop n) (us.drop n)
 |_,_,0,r=>r
 |_,_,_+1,.nil=>.nil
 |_,_,n+1,.cons _ t=>Vals.drop n t
def RelO:Option V→Option Value→Prop
 |some v,some u=>RelV v u
 |none,none=>True
 |_,_=>False
def KV{κ:Type}:List (κ × V)→List (κ × Value)→Prop:=Paired fun(p:κ × V) (q:κ × Value)=>p.1=q.1∧RelV p.2 q.2
def kV:Key→V
 |.inl i=>.int i
 |.inr x=>.str x
inductive HO where
 |lst (xs:List V)
 |tup (xs:List V)
 |dK (kvs:List (Key × V))|dT (kvs:List (List Key × V))
 |set (S:Int→Bool) (n:Nat)
 |ins (C dx:Addr) (fs:List (Str × V))
 |own (x:Addr)
 |xd (fs:List (Str × V))
 |met (f x:Addr)
 |rng (lo hi:Int)
 |frz (o:Obj) (u:HO)
 |tbl (ps:Array Value)
 |cod (q:Str)|cel (v:V)|fnc (fd:FuncData)
 |ext (φ:Heap→Prop)
abbrev Hp:=Addr→Option HO
def upd(H:Hp)(a:Addr)(o:HO):Hp:=fun b=>if b=a then some o else H b
theorem upd_same{H:Hp}{a:Addr}{o:HO}:upd H a o a=some o:=by unfold upd;rw [if_pos rfl]
theorem upd_ne{H:Hp}{a b:Addr}{o:HO}(h:b≠a):upd H a o b=H b:=by unfold upd;rw [if_neg h]
theorem ne_of{H:Hp}{a b:Addr}{o u:HO}(h:H a=some o)(h':H b=some u)(d:o≠u):a≠b:=by
 intro e;subst e;rw [h] at h';exact d (Option.some.inj h')
theorem ne_of_none{H:Hp}{a b:Addr}{o:HO}(h:H a=some o)(h':H b=none):a≠b:=by
 intro e;subst e;rw [h] at h';cases h'
def qualAt:List Value→Pos→Option Str
 |.int l _::.int c _::.str q _::r,p=>if l==p.line&&c==p.col then some q else qualAt r p
 |_,_=>none
inductive FxO where
 |tup (xs:List V)|cod (q:Str)
def FxO.ho:FxO→HO
 |.tup xs=>.tup xs
 |.cod q=>.cod q
section
variable(P:Program)(w:World)
def ObjOk(H:Hp)(h:Heap)(a:Addr):HO→Prop
 |.lst xs=>xs.length≤sizeLine∧∃(its:List Value) (n:Nat),Vals xs its∧h.get? a=some { cls:=.type "list",data:=.seq its.toArray n }
 |.tup xs=>xs.length≤sizeLine∧∃its:List Value,Vals xs its∧IsTup h a its.toArray
 |.dK kvs=>kvs.length≤sizeLine∧(a==sysModules)=false∧∃vs,KV kvs vs∧h.DictOf (mixKind P w) a vs
 |.dT kvs=>kvs.length≤sizeLine∧(a==sysModules)=false∧∃xs:List (List Key × Addr × Value),
   Paired (fun(p:List Key × V) (q:List Key × Addr × Value)=>p.1=q.1∧H q.2.1=some (.tup (p.1.map kV))∧RelV p.2 q.2.2) kvs xs ∧
   ∃o es ep,h.get? a=some o∧o.ExactDict∧o.data=.dict es ep∧es.toList=xs.map (entryOfKey (tupleKind (mixKind P w)))∧(xs.map (·.1)).Nodup
 |.set S n=>h.SetOf (intKind P w) a S n
 |.ins C dx fs=>H dx=some (.own a)∧fs.length≤1000∧dx≠a∧h.get? a=some (PySem.W.instObj C dx) ∧
   ∃mA,h.Ns1 dx mA∧(∀f,RelO (fs.lookup f) (mA f))∧PySem.Within mA (fs.map (·.1))
 |.own _=>∃o,h.get? a=some o
 |.xd fs=>∃mA,h.Ns1 a mA∧∀f,RelO (fs.lookup f) (mA f)
 |.rng lo hi=>∃t u v,h.get? a=some { cls:=.type "range",data:=.fields #[.int lo t,.int hi u,.int 1 v] }
 |.frz o u=>h.get? a=some o∧ObjOk H h a u
 |.tbl ps=>∃tb:Array Value,h.get? a=some { cls:=.none,data:=.fields tb }∧TriplesOk tb.toList∧∀(p:Pos) (q:Str),qualAt ps.toList p=some q→∀cv,codeAmong p tb.toList=some cv→∃c,cv=Value.ref c∧H c=some (.cod q)
 |.cod q=>h.CodeRec (.ref a) q
 |.cel v=>∃u,RelV v u∧h.IsCell a (some u)
 |.fnc fd=>∃oc od sl,h.get? a=some ⟨oc,od,.func fd,sl⟩
 |.met f x=>h.get? a=some (PySem.W.methodObj (.ref f) (.ref x))
 |.ext φ=>φ h∧(∃o,h.get? a=some o)∧∀h1 h2:Heap,φ h1→(∀o,h1.get? a=some o→h2.get? a=some o)→φ h2
def HOk(H:Hp)(h:Heap):Prop:=∀a o,H a=some o→ObjOk P w H h a o
end
section
variable{P:Program}{w:World}{H H':Hp}{h h':Heap}{a:Addr}{o:HO}
theorem ObjOk.lt(x:ObjOk P w H h a o):a < h.objs.size:=by
 cases o with
 |lst xs=>obtain⟨_,_,_,_,e⟩:=x;exact Heap.lt_size e
 |tup xs=>obtain⟨_,_,_,p⟩:=x;exact p.lt
 |dK kvs=>obtain⟨_,_,_,_,o,_,_,e,_⟩:=x;exact Heap.lt_size e
 |dT kvs=>obtain⟨_,_,_,_,o,_,_,e,_⟩:=x;exact Heap.lt_size e
 |set S n=>obtain⟨o,_,_,_,e,_⟩:=x;exact Heap.lt_size e
 |ins C dx fs=>obtain⟨_,_,_,e,_⟩:=x;exact Heap.lt_size e
 |own y=>obtain⟨_,e⟩:=x;exact Heap.lt_size e
 |xd fs=>obtain⟨_,⟨_,_,_,e,_⟩,_⟩:=x;exact Heap.lt_size e
 |rng lo hi=>obtain⟨_,_,_,e⟩:=x;exact Heap.lt_size e
 |frz ob u=>obtain⟨e,_⟩:=x;exact Heap.lt_size e
 |tbl ps=>obtain⟨_,e,_⟩:=x;exact Heap.lt_size e
 |cod q=>obtain⟨_,_,_,_,e0,e,_⟩:=x;cases e0;exact Heap.lt_size e
 |cel v=>obtain⟨_,_,_,e,_⟩:=x;exact Heap.lt_size e
 |fnc fd=>obtain⟨_,_,_,e⟩:=x;exact Heap.lt_size e
 |met f y=>exact Heap.lt_size (show h.get? a=some _ from x)
 |ext φ=>obtain⟨_,⟨_,e⟩,_⟩:=x;exact Heap.lt_size e
theorem Paired.mapP{α β:Type}{F G:α→β→Prop}:∀{l₁:List α} {l₂:List β},Paired F l₁ l₂→(∀a b,F a b→G a b)→Paired G l₁ l₂
 |_,_,.nil,_=>.nil
 |_,_,.cons r t,f=>.cons (f _ _ r) (Paired.mapP t f)
theorem ObjOk.stay(x:ObjOk P w H h a o)(k:∀b u,(b=a∨H b=some (.own a))→h.get? b=some u→h'.get? b=some u)
  (ho:∀b,H b=some (.own a)→H' b=some (.own a)) (ht:∀b (xs:FxO),H b=some xs.ho→H' b=some xs.ho):ObjOk P w H' h' a o:=by
 induction o with
 |lst xs=>obtain⟨z,its,n,r,e⟩:=x;exact⟨z,its,n,r,k _ _ (.inl rfl) e⟩
 |tup xs=>obtain⟨z,its,r,ob,e,c⟩:=x;exact⟨z,its,r,ob,k _ _ (.inl rfl) e,c⟩
 |dK kvs=>obtain⟨z,y,vs,r,ob,es,ep,e,c⟩:=x;exact⟨z,y,vs,r,ob,es,ep,k _ _ (.inl rfl) e,c⟩
 |dT kvs =>
  obtain⟨z,y,xs,r,ob,es,ep,e,c⟩:=x
  exact⟨z,y,xs,Paired.mapP r fun p q z=>⟨z.1,ht _ (.tup _) z.2.1,z.2.2⟩,ob,es,ep,k _ _ (.inl rfl) e,c⟩
 |set S n=>obtain⟨ob,es,ep,t,e,c⟩:=x;exact⟨ob,es,ep,t,k _ _ (.inl rfl) e,c⟩
 |ins C dx fs =>
  obtain⟨d,z,ne,e,mA,⟨od,es,ep,e2,c⟩,r⟩:=x
  exact⟨ho _ d,z,ne,k _ _ (.inl rfl) e,mA,⟨od,es,ep,k _ _ (.inr d) e2,c⟩,r⟩
 |own y=>obtain⟨ob,e⟩:=x;exact⟨ob,k _ _ (.inl rfl) e⟩
 |xd fs=>obtain⟨mA,⟨od,es,ep,e,c⟩,r⟩:=x;exact⟨mA,⟨od,es,ep,k _ _ (.inl rfl) e,c⟩,r⟩
 |rng lo hi=>obtain⟨t,u,v,e⟩:=x;exact⟨t,u,v,k _ _ (.inl rfl) e⟩
 |frz ob u ih=>obtain⟨e,q⟩:=x;exact⟨k _ _ (.inl rfl) e,ih q⟩
 |tbl ps =>
  obtain⟨tb,e,tr,q⟩:=x
  exact⟨tb,k a _ (.inl rfl) e,tr,fun p z hz cv hc=>let ⟨c,e1,e2⟩:=q p z hz cv hc;⟨c,e1,ht c (.cod z) e2⟩⟩
 |cod q=>obtain⟨c,ob,vs,t,e0,e,r⟩:=x;cases e0;exact⟨_,ob,vs,t,rfl,k _ _ (.inl rfl) e,r⟩
 |cel v=>obtain⟨u,r,ob,e,d⟩:=x;exact⟨u,r,ob,k _ _ (.inl rfl) e,d⟩
 |fnc fd=>obtain⟨oc,od,sl,e⟩:=x;exact⟨oc,od,sl,k _ _ (.inl rfl) e⟩
 |met f y =>
  have e:h.get? a=some (PySem.W.methodObj (.ref f) (.ref y)):=x
  show h'.get? a=some (PySem.W.methodObj (.ref f) (.ref y))
  exact k a _ (.inl rfl) e
 |ext φ=>obtain⟨p,⟨o,e⟩,st⟩:=x;exact⟨st _ _ p fun o q=>k _ _ (.inl rfl) q,⟨o,k _ _ (.inl rfl) e⟩,st⟩
theorem HOk.lt(x:HOk P w H h)(e:H a=some o):a < h.objs.size:=(x a o e).lt
theorem HOk.fresh(x:HOk P w H h)(e:h.objs.size≤a):H a=none:=by
 cases q:H a with
 |none=>rfl
 |some u=>exact absurd (Nat.lt_of_lt_of_le (x.lt q) e) (Nat.lt_irrefl _)
theorem HOk.kept(x:HOk P w H h)(k:∀b u,h.get? b=some u→h'.get? b=some u):HOk P w H h':=fun a o e =>
 (x a o e).stay (fun b u _ q=>k b u q) (fun _ q=>q) fun _ _ q=>q
theorem HOk.laid(x:HOk P w H h)(k:∀b u,h.get? b=some u→h'.get? b=some u)(hp:h.objs.size≤a)(new:ObjOk P w (upd H a o) h' a o):HOk P w (upd H a o) h':=fun b u e=>by
 have hn:=x.fresh hp
 by_cases hb:b=a
 ·subst hb;rw [upd_same] at e;cases e;exact new
 ·rw [upd_ne hb] at e
  exact(x b u e).stay (fun c v _ q=>k c v q) (fun c q=>by rw [upd_ne (ne_of_none q hn)];exact q) fun c xs q=>by rw [upd_ne (ne_of_none q hn)];exact q
end
def Rd(H:Hp)(a:Addr)(u:HO):Prop:=H a=some u∨∃o,H a=some (.frz o u)
theorem Rd.ok{P:Program}{w:World}{H:Hp}{h:Heap}{a:Addr}{u:HO}(r:Rd H a u)(x:HOk P w H h):ObjOk P w H h a u:=by
 rcases r with r|⟨o,r⟩
 ·exact x a u r
 ·obtain⟨_,q⟩:=x a _ r
  exact q
def Mut:Option HO→Prop
 |some (.lst _)=>True
 |some (.dK _)=>True
 |some (.dT _)=>True
 |some (.set _ _)=>True
 |some (.ins _ _ _)=>True
 |some (.ext _)=>True
 |_=>False
section
variable{P:Program}{w:World}{H:Hp}{h h':Heap}{x e:Addr}{o':HO}
theorem HOk.write(ok:HOk P w H h)(mu:Mut (H x))(he:e=x∨H e=some (.own x))(k:∀b u,b≠e→h.get? b=some u→h'.get? b=some u)(heo:∃u,h'.get? e=some u)
  (new:ObjOk P w (upd H x o') h' x o'):HOk P w (upd H x o') h':=fun b u q=>by
 have nown:∀c y,H c=some (.own y)→c≠x:=fun c y r z=>by subst z;rw [r] at mu;exact mu
 have ntup:∀c (xs:FxO),H c=some xs.ho→c≠x:=fun c xs r z=>by subst z;rw [r] at mu;cases xs<;>exact mu
 by_cases hb:b=x
 ·subst hb;rw [upd_same] at q;cases q;exact new
 ·rw [upd_ne hb] at q
  by_cases hbe:b=e
  ·have q':H b=some (.own x):=by
    rcases he with z|z
    ·exact absurd (hbe.trans z) hb
    ·rw [hbe];exact z
   rw [q] at q';cases q'
   obtain⟨v,hv⟩:=heo
   exact⟨v,by rw [hbe];exact hv⟩
  ·refine(ok b u q).stay (fun c v hc r=>k c v ?_ r) (fun c r=>by rw [upd_ne (nown c b r)];exact r) fun c xs r=>by rw [upd_ne (ntup c xs r)];exact r
   rcases hc with rfl|hc
   ·exact hbe
   ·rintro rfl
    rcases he with z|z
    ·exact nown c b hc z
    ·rw [hc] at z;cases z;exact hb rfl
end
structure Un(fs ex:List Addr)(H H':Hp)(h h':Heap):Prop where
 keep:∀b o,h.get? b=some o→H b=none→b∉fs→b∉ex→h'.get? b=some o
 slot:∀b o,h.get? b=some o→H b=none→b∈fs→b∉ex→∃sl,h'.get? b=some { o with slots:=sl }
 free:∀b o,h.get? b=some o→H b=none→b∉ex→H' b=none
 there:∀b o,h.get? b=some o→b∉ex→∃o',h'.get? b=some o'
 tups:∀b xs,H b=some (.tup xs)→H' b=some (.tup xs)
 frzs:∀b o u,H b=some (.frz o u)→H' b=some (.frz o u)
 tbls:∀b ps,H b=some (.tbl ps)→∃more,H' b=some (.tbl (ps++more))
section
variable{fs fs' ex ex':List Addr}{H H1 H2:Hp}{h h1 h2 h':Heap}{a x e:Addr}{o:HO}
theorem Un.any(u:Un fs ex H H1 h h1){b:Addr}{ob:Obj}(q:h.get? b=some ob)(n:H b=none)(hx:b∉ex):∃sl,h1.get? b=some { ob with slots:=sl }:=by
 by_cases hb:b∈fs
 ·exact u.slot b ob q n hb hx
 ·exact⟨ob.slots,u.keep b ob q n hb hx⟩
theorem Un.kept(k:∀b u,h.get? b=some u→h'.get? b=some u):Un fs ex H H h h' :=
 ⟨fun b ob q _ _ _=>k b ob q,fun b ob q _ _ _=>⟨ob.slots,k b ob q⟩,fun _ _ _ n _=>n,fun b ob q _=>⟨ob,k b ob q⟩,fun _ _ q=>q,fun _ _ _ q=>q,fun _ ps q=>⟨#[],by rw [q];simp⟩⟩
theorem Un.refl:Un fs ex H H h h:=Un.kept fun _ _ q=>q
theorem Un.laid(k:∀b u,h.get? b=some u→h'.get? b=some u)(hp:h.objs.size≤a)(hn:H a=none):Un fs ex H (upd H a o) h h' where
 keep:=fun b u q _ _ _=>k b u q
 slot:=fun b u q _ _ _=>⟨u.slots,k b u q⟩
 free:=fun b u q n _=>by rw [upd_ne (Nat.ne_of_lt (Nat.lt_of_lt_of_le (Heap.lt_size q) hp))];exact n
 there:=fun b u q _=>⟨u,k b u q⟩
 tups:=fun b xs q=>by rw [upd_ne (ne_of_none q hn)];exact q
 frzs:=fun b u xs q=>by rw [upd_ne (ne_of_none q hn)];exact q
 tbls:=fun b ps q=>⟨#[],by rw [upd_ne (ne_of_none q hn),q];simp⟩
theorem Un.write(mu:Mut (H x))(he:e=x∨H e=some (.own x))(k:∀b u,b≠e→h.get? b=some u→h'.get? b=some u)(heo:∃u,h'.get? e=some u):Un fs ex H (upd H x o) h h':=by
 have hx:∀b,H b=none→b≠x:=fun b n z=>by subst z;rw [n] at mu;exact mu
 have hb:∀b,H b=none→b≠e:=fun b n z=>by
  subst z
  rcases he with r|r
  ·exact hx b n r
  ·rw [n] at r;cases r
 have hm:∀b u,H b=some u→¬Mut (some u)→b≠x:=fun b u q nm z=>by subst z;rw [q] at mu;exact nm mu
 refine⟨fun b u q n _ _=>k b u (hb b n) q,fun b u q n _ _=>⟨u.slots,k b u (hb b n) q⟩,fun b u q n _=>by rw [upd_ne (hx b n)];exact n,fun b u q _=>?_,
  fun b xs q=>by rw [upd_ne (hm b _ q fun z=>z)];exact q,fun b u xs q=>by rw [upd_ne (hm b _ q fun z=>z)];exact q,fun b ps q=>⟨#[],by rw [upd_ne (hm b _ q fun z=>z),q];simp⟩⟩
 by_cases hbe:b=e
 ·subst hbe;exact heo
 ·exact⟨u,k b u hbe q⟩
end
def trk(h:Heap)(H:Hp):List Addr:=(List.range h.objs.size).filter fun a=>(H a).isSome
def hidT(h:Heap)(H:Hp):Heap:=PySem.W.hideAll h (trk h H)
theorem hidT_size(h:Heap)(H:Hp):(hidT h H).objs.size=h.objs.size:=PySem.W.hideAll_size _ _
theorem hidT_get{h:Heap}{H:Hp}{b:Addr}{o:Obj}(e:h.get? b=some o)(n:H b=none):(hidT h H).get? b=some o :=
 PySem.W.hideAll_get _ e fun hm=>by
  have q:(H b).isSome=true:=(List.mem_filter.mp hm).2
  rw [n] at q;simp at q
theorem of_hidT{h:Heap}{H:Hp}{b:Addr}{o:Obj}(e:(hidT h H).get? b=some o):h.get? b=some o∧H b=none:=by
 have e':h.get? b=some o:=PySem.W.of_hideAll (trk h H) e
 refine⟨e',?_⟩
 cases q:H b with
 |none=>rfl
 |some x =>
  have hm:b∈trk h H:=List.mem_filter.mpr ⟨List.mem_range.mpr (Heap.lt_size e'),by simp [q]⟩
  have z:(hidT h H).get? b=none:=PySem.W.hideAll_none (trk h H) hm
  rw [z] at e;cases e
def allNews(g h:Heap)(L:Addr):List (Addr × Obj):=(List.range h.objs.size).filterMap fun a=>if a=L∨(g.get? a).isSome=true then none else (h.get? a).map fun o=>(a,o)
def rest(g h:Heap)(L d:Addr):List (Addr × Obj):=(allNews g h L).filter fun p=>decide (p.1≠d)
end L2
namespace L2
open PySem PySem.Spec PyProof.Rows
structure Mod(K:PySem.W.Frag)(mg:Str→Option Value)(base:Heap):Prop where
 kin:K.In base
 glob:base.Ns mainGlobals mg
 blt:∃mb,base.Ns builtinsNs mb∧∀x:Str,x≠"__name__"→mb x=bootBuiltins x
 nolimit:base.NoLimit
 bmn:∃bm ob,mg "__builtins__"=some (.ref bm)∧bm≠builtinsNs∧base.get? bm=some ob∧ob.cls=.type "module"∧ob.dict=some builtinsNs∧ob.data=.plain
structure Cx where
 prog:Program
 w:World
 K:PySem.W.Frag
 mg:Str→Option Value
 base:Heap
 A:Around
 N:List Str
 s₀:Shared
 H₀:Hp
 env:Env
 outer:List Env
 stack:List Env
 ex:List Addr
 fn:Str→Bool
 calm:Bool
 pn:List (Addr × Obj)
 xe:Value→Shared→Prop
def frs(l:List Env):List Addr:=l.filterMap (·.frame)
abbrev Cx.fs(X:Cx):List Addr:=frs X.outer
def Vis(sc:Scope)(x:Str):Prop:=sc.names.lookup x=some .local∨sc.names.lookup x=some .cell∨sc.names.lookup x=some .free
def Loc(sc:Scope)(x:Str):Prop:=sc.names.lookup x=some .local∨sc.names.lookup x=some .cell
def Look(env:Env)(h:Heap)(m:Str→Option Value)(x:Str)(u:Value):Prop :=
 (env.kindOf x=some .local∧m x=some u)∨((env.kindOf x=some .cell∨env.kindOf x=some .free)∧∃c,env.cells.lookup x=some c∧h.IsCell c (some u))
structure Cx.Ok(X:Cx):Prop where
 mod:Mod X.K X.mg X.base
 kind:X.env.scope.kind=.function
 glob:X.env.globals=mainGlobals
 blt:X.env.builtins=builtinsNs
 above:X.s₀.heap.objs.size≤X.env.locals
 inj:∀x y c,X.env.cells.lookup x=some c→X.env.cells.lookup y=some c→x=y
 has:∀x,(X.env.kindOf x=some .cell∨X.env.kindOf x=some .free)→∃c,X.env.cells.lookup x=some c
 cab:∀x c,X.fn x=true→X.env.cells.lookup x=some c→X.s₀.heap.objs.size≤c
 hd:X.calm=true→X.A.handled=none
 frames:X.A.frames=some X.stack
 stk:X.stack=X.outer∨(X.stack=X.env::X.outer∧X.env.frame=some X.env.locals)
 exf:∀b∈X.ex,b≠X.env.locals∧∀x c,X.env.cells.lookup x=some c→c≠b
 bs:∀b o,X.base.get? b=some o→X.s₀.heap.get? b=some o∧X.H₀ b=none
 bsz:X.base.objs.size≤X.s₀.heap.objs.size
 noex:∀b o,X.base.get? b=some o→b∉X.ex
 exfs:∀b∈X.ex,b∉X.fs
 funs:X.s₀.heap.FunFrames X.base X.outer
 frf:∀b∈X.fs,X.H₀ b=none
structure Inv(X:Cx)(pins:List (Addr × Obj))(σ:List (Option V))(H:Hp)(s:Shared):Prop where
 ok:X.Ok
 os:s.os=X.s₀.os
 bare:AllBare s.gens
 base:Un X.fs X.ex X.H₀ H X.s₀.heap s.heap
 loc:∃m,s.heap.Ns X.env.locals m∧∀(i:Nat) (x:Str) (v:V),X.N[i]?=some x→σ[i]?=some (some v)→Vis X.env.scope x→∃u,RelV v u∧Look X.env s.heap m x u
 cell:∀x c,X.env.cells.lookup x=some c→∃v,s.heap.IsCell c v
 free:H X.env.locals=none
 freeC:∀x c,X.env.cells.lookup x=some c→H c=none
 pin:∀p∈X.pn++pins,s.heap.get? p.1=some p.2∧H p.1=none∧p.1≠X.env.locals∧p.1∉X.fs∧∀v,p.2.data≠.cell v
 hok:HOk X.prog X.w H s.heap
 len:σ.length=X.N.length
section
variable{X:Cx}{pins:List (Addr × Obj)}{σ:List (Option V)}{H H':Hp}{s:Shared}{h':Heap}
theorem Cx.Ok.nofr(ok:X.Ok){b:Addr}{o:Obj}(e:X.base.get? b=some o):b∉X.fs:=fun hb=>by
 have:=(ok.funs.mem hb).1
 rw [e] at this;cases this
theorem Inv.bs(I:Inv X pins σ H s):∀b o,X.base.get? b=some o→s.heap.get? b=some o∧H b=none:=fun b o e =>
 ⟨I.base.keep b o (I.ok.bs b o e).1 (I.ok.bs b o e).2 (I.ok.nofr e) (I.ok.noex b o e),I.base.free b o (I.ok.bs b o e).1 (I.ok.bs b o e).2 (I.ok.noex b o e)⟩
theorem Inv.bk(I:Inv X pins σ H s):∀b o,X.base.get? b=some o→s.heap.get? b=some o:=fun b o e=>(I.bs b o e).1
theorem Inv.mod(I:Inv X pins σ H s):Mod X.K X.mg X.base:=I.ok.mod
theorem Inv.kIn(I:Inv X pins σ H s):X.K.In s.heap:=I.ok.mod.kin.keeps I.bk
theorem Inv.lt(I:Inv X pins σ H s):X.env.locals < s.heap.objs.size:=let ⟨_,hn,_⟩:=I.loc;hn.lt
theorem Inv.sz(I:Inv X pins σ H s):X.s₀.heap.objs.size≤s.heap.objs.size:=Nat.le_trans I.ok.above (Nat.le_of_lt I.lt)
theorem Inv.nofs(I:Inv X pins σ H s){a:Addr}(h:s.heap.objs.size≤a):a∉X.fs:=fun hb=>by
 obtain⟨_,o,ho,_⟩:=I.ok.funs.mem hb
 exact absurd (Nat.lt_of_lt_of_le (Heap.lt_size ho) (Nat.le_trans I.sz h)) (Nat.lt_irrefl _)
theorem Inv.cne(I:Inv X pins σ H s):∀x c,X.env.cells.lookup x=some c→c≠X.env.locals:=fun x c e z=>by
 obtain⟨v,o,ho,hd⟩:=I.cell x c e
 obtain⟨m,⟨o',es,ep,ho',hd',_⟩,_⟩:=I.loc
 rw [z,ho'] at ho;cases ho;rw [hd'] at hd;cases hd
theorem Inv.funs(I:Inv X pins σ H s):s.heap.FunFrames X.base X.outer:=by
 have all:∀(l:List Env),(∀b∈frs l,b∈X.fs)→X.s₀.heap.FunFrames X.base l→s.heap.FunFrames X.base l:=by
  intro l
  induction l with
  |nil=>intro _ _;trivial
  |cons env r ih =>
   intro hs hl
   obtain⟨hk,⟨L,o,hf,hn,ho,hd⟩,hr⟩:=hl
   have hL:L∈X.fs:=hs L (by unfold frs;rw [List.filterMap_cons,hf];exact List.mem_cons_self)
   obtain⟨sl,e⟩:=I.base.slot L o ho (I.ok.frf L hL) hL fun z=>I.ok.exfs L z hL
   exact⟨hk,⟨L,_,hf,hn,e,hd⟩,ih (fun b hb=>hs b (by unfold frs;rw [List.filterMap_cons,hf];exact List.mem_cons_of_mem _ hb)) hr⟩
 exact all X.outer (fun _ hb=>hb) I.ok.funs
theorem Inv.stack(I:Inv X pins σ H s):s.heap.FunFrames X.base X.stack:=by
 rcases I.ok.stk with e|⟨e,hf⟩
 ·rw [e];exact I.funs
 ·rw [e]
  obtain⟨m,hn,_⟩:=I.loc
  refine .cons (by rw [I.ok.kind];decide) hf hn ?_ I.funs
  exact Heap.get?_none_of_le (Nat.le_trans I.ok.bsz I.ok.above)
theorem Inv.stkSub(I:Inv X pins σ H s):∀b∈frs X.stack,b∈X.env.locals::X.fs:=fun b hb=>by
 rcases I.ok.stk with e|⟨e,hf⟩
 ·rw [e] at hb;exact List.mem_cons_of_mem _ hb
 ·rw [e] at hb
  unfold frs at hb
  rw [List.filterMap_cons,hf] at hb
  exact hb
theorem Inv.stkFree(I:Inv X pins σ H s):∀b∈frs X.stack,H b=none:=fun b hb=>by
 rcases List.mem_cons.mp (I.stkSub b hb) with e|hb
 ·rw [e];exact I.free
 ·obtain⟨_,o,ho,_⟩:=I.ok.funs.mem hb
  exact I.base.free b o ho (I.ok.frf b hb) fun z=>I.ok.exfs b z hb
theorem Inv.step{g':Array GenState}{t':Nat}{d':Drawn}{ch:List Addr}(I:Inv X pins σ H s)
  (hch:∀b∈ch,(b∈X.ex∨X.s₀.heap.objs.size≤b)∧b≠X.env.locals∧(∀x c,X.env.cells.lookup x=some c→c≠b)∧∀p∈X.pn++pins,p.1≠b)
  (keep:∀b o,b≠X.env.locals→b∉X.fs→b∉ch→s.heap.get? b=some o→H b=none→h'.get? b=some o)
  (slot:∀b o,b≠X.env.locals→b∈X.fs→b∉ch→s.heap.get? b=some o→H b=none→∃sl,h'.get? b=some { o with slots:=sl }) (free:∀b o,b∉ch→s.heap.get? b=some o→H b=none→H' b=none)
  (there:∀b o,b∉ch→s.heap.get? b=some o→∃o',h'.get? b=some o')
  (tups:∀b xs,H b=some (.tup xs)→H' b=some (.tup xs)) (frzs:∀b o u,H b=some (.frz o u)→H' b=some (.frz o u)) (tbls:∀b ps,H b=some (.tbl ps)→∃more,H' b=some (.tbl (ps++more)))
  (ns:∀m,s.heap.Ns X.env.locals m→h'.Ns X.env.locals m) (hok:HOk X.prog X.w H' h') (hg:AllBare g') :
  Inv X pins σ H' { s with heap:=h',gens:=g',drawn:=d',toks:=t' }:=by
 have neL:∀b o,X.s₀.heap.get? b=some o→b≠X.env.locals:=fun b o e=>Nat.ne_of_lt (Nat.lt_of_lt_of_le (Heap.lt_size e) I.ok.above)
 have neC:∀b o,X.s₀.heap.get? b=some o→b∉X.ex→b∉ch:=fun b o e hx hb=>by
  rcases (hch b hb).1 with z|z
  ·exact hx z
  ·exact absurd (Nat.lt_of_lt_of_le (Heap.lt_size e) z) (Nat.lt_irrefl _)
 have cellK:∀x c,X.env.cells.lookup x=some c→∀v,s.heap.IsCell c v→h'.IsCell c v:=fun x c e v ⟨o,ho,hd⟩=>by
  have nch:c∉ch:=fun z=>(hch c z).2.2.1 x c e rfl
  by_cases hc:c∈X.fs
  ·obtain⟨sl,q⟩:=slot c o (I.cne x c e) hc nch ho (I.freeC x c e)
   exact⟨_,q,hd⟩
  ·exact⟨o,keep c o (I.cne x c e) hc nch ho (I.freeC x c e),hd⟩
 refine⟨I.ok,I.os,hg,⟨fun b o e n hb hx=>?_,fun b o e n hb hx=>?_,fun b o e n hx=>?_,fun b o e hx=>?_,fun b xs e=>tups b xs (I.base.tups b xs e),fun b o xs e=>frzs b o xs (I.base.frzs b o xs e),fun b ps e=>?_⟩,?_,fun x c e=>?_,?_,fun x c e=>?_,fun p hp=>?_,hok,I.len⟩
 ·exact keep b o (neL b o e) hb (neC b o e hx) (I.base.keep b o e n hb hx) (I.base.free b o e n hx)
 ·obtain⟨sl,e1⟩:=I.base.slot b o e n hb hx
  obtain⟨sl',e2⟩:=slot b _ (neL b o e) hb (neC b o e hx) e1 (I.base.free b o e n hx)
  exact⟨sl',e2⟩
 ·obtain⟨o',e1⟩:=I.base.there b o e hx
  exact free b o' (neC b o e hx) e1 (I.base.free b o e n hx)
 ·obtain⟨o',e1⟩:=I.base.there b o e hx
  exact there b o' (neC b o e hx) e1
 ·obtain⟨m1,e1⟩:=I.base.tbls b ps e
  obtain⟨m2,e2⟩:=tbls b _ e1
  exact⟨m1++m2,by rw [e2,Array.append_assoc]⟩
 ·obtain⟨m,hn,hl⟩:=I.loc
  refine⟨m,ns m hn,fun i x v e1 e2 e3=>?_⟩
  obtain⟨u,r,l⟩:=hl i x v e1 e2 e3
  refine⟨u,r,?_⟩
  rcases l with l|⟨k,c,e,z⟩
  ·exact .inl l
  ·exact .inr ⟨k,c,e,cellK x c e _ z⟩
 ·obtain⟨v,z⟩:=I.cell x c e
  exact⟨v,cellK x c e v z⟩
 ·obtain⟨m,⟨o,_,_,ho,_⟩,_⟩:=I.loc
  exact free _ o (fun z=>(hch _ z).2.1 rfl) ho I.free
 ·obtain⟨v,o,ho,hd⟩:=I.cell x c e
  exact free c o (fun z=>(hch c z).2.2.1 x c e rfl) ho (I.freeC x c e)
 ·obtain⟨e,n,ne,nf,d⟩:=I.pin p hp
  have nch:p.1∉ch:=fun z=>(hch p.1 z).2.2.2 p hp rfl
  exact⟨keep p.1 p.2 ne nf nch e n,free p.1 p.2 nch e n,ne,nf,d⟩
theorem Inv.un{t':Nat}(I:Inv X pins σ H s)(u:Un X.fs [] H H' s.heap h')(hok:HOk X.prog X.w H' h'):Inv X pins σ H' { s with heap:=h',toks:=t' }:=by
 obtain⟨m,⟨o,es,ep,ho,r⟩,_⟩:=id I.loc
 obtain⟨sl,hL⟩:=u.any ho I.free (by simp)
 exact I.step (g':=s.gens) (d':=s.drawn) (ch:=[]) (fun _ z=>nomatch z) (fun b o _ hb _ e n=>u.keep b o e n hb (by simp)) (fun b o _ hb _ e n=>u.slot b o e n hb (by simp)) (fun b o _ e n=>u.free b o e n (by simp)) (fun b o _ e=>u.there b o e (by simp)) u.tups u.frzs u.tbls (fun m' hm=>by
  obtain⟨o',es',ep',ho',r'⟩:=hm
  rw [ho] at ho';cases ho'
  exact⟨_,es',ep',hL,r'⟩) hok I.bare
theorem Inv.call{g':Array GenState}{t':Nat}{d':Drawn}{ch:List Addr}(I:Inv X pins σ H s)(u:Un (frs X.stack) ch H H' s.heap h')(hok:HOk X.prog X.w H' h')(hg:AllBare g')
  (hch:∀b∈ch,(b∈X.ex∨X.s₀.heap.objs.size≤b)∧b≠X.env.locals∧(∀x c,X.env.cells.lookup x=some c→c≠b)∧∀p∈X.pn++pins,p.1≠b) :
  Inv X pins σ H' { s with heap:=h',gens:=g',drawn:=d',toks:=t' }:=by
 obtain⟨m,⟨o,es,ep,ho,r⟩,_⟩:=id I.loc
 obtain⟨sl,hL⟩:=u.any ho I.free fun z=>(hch _ z).2.1 rfl
 exact I.step (ch:=ch) hch (fun b o hL hb hc e n=>u.keep b o e n (fun z=>(List.mem_cons.mp (I.stkSub b z)).elim hL hb) hc) (fun b o _ _ hc e n=>u.any e n hc) (fun b o hc e n=>u.free b o e n hc) (fun b o hc e=>u.there b o e hc) u.tups u.frzs u.tbls (fun m' hm=>by
  obtain⟨o',es',ep',ho',r'⟩:=hm
  rw [ho] at ho';cases ho'
  exact⟨_,es',ep',hL,r'⟩) hok hg
theorem Inv.turned{t':Nat}{it:Addr}(I:Inv X pins σ H s)(k:∀b o,b≠it→s.heap.get? b=some o→h'.get? b=some o)(hn:H it=none)(hL:it≠X.env.locals)
  (h1:it∈X.ex∨X.s₀.heap.objs.size≤it) (h2:∀x c,X.env.cells.lookup x=some c→c≠it) (h3:∀p∈X.pn++pins,p.1≠it):Inv X pins σ H { s with heap:=h',toks:=t' }:=by
 have nit:∀b u,H b=some u→b≠it:=fun b u e z=>by rw [z,hn] at e;cases e
 refine I.step (g':=s.gens) (d':=s.drawn) (ch:=[it]) (fun b hb=>?_) (fun b o _ _ hc e _=>k b o (fun z=>hc (by simp [z])) e) (fun b o _ _ hc e _=>⟨o.slots,k b o (fun z=>hc (by simp [z])) e⟩) (fun _ _ _ _ n=>n)
  (fun b o hc e=>⟨o,k b o (fun z=>hc (by simp [z])) e⟩) (fun _ _ e=>e) (fun _ _ _ e=>e) (fun b ps e=>⟨#[],by rw [e];simp⟩) (fun m hm=>?_) (fun b u e=>?_) I.bare
 ·have e:b=it:=by simpa using hb
  subst e
  exact⟨h1,hL,h2,h3⟩
 ·obtain⟨o,es,ep,ho,r⟩:=hm
  exact⟨o,es,ep,k _ o (Ne.symm hL) ho,r⟩
 ·refine(I.hok b u e).stay (fun c v hc q=>k c v ?_ q) (fun _ q=>q) fun _ _ q=>q
  rcases hc with z|z
  ·rw [z];exact nit b u e
  ·exact nit c _ z
theorem Inv.tok(I:Inv X pins σ H s)(t:Nat):Inv X pins σ H { s with toks:=t }:=I.un (h':=s.heap) (t':=t) Un.refl I.hok
theorem Inv.kept{t':Nat}(I:Inv X pins σ H s)(k:∀b u,s.heap.get? b=some u→h'.get? b=some u):Inv X pins σ H { s with heap:=h',toks:=t' }:=I.un (Un.kept k) (I.hok.kept k)
theorem Inv.laid{a:Addr}{o:HO}{t':Nat}(I:Inv X pins σ H s)(k:∀b u,s.heap.get? b=some u→h'.get? b=some u)(hp:s.heap.objs.size≤a)(new:ObjOk X.prog X.w (upd H a o) h' a o) :
  Inv X pins σ (upd H a o) { s with heap:=h',toks:=t' }:=I.un (Un.laid k hp (I.hok.fresh hp)) (I.hok.laid k hp new)
theorem Inv.write{x e:Addr}{o:HO}{t':Nat}(I:Inv X pins σ H s)(mu:Mut (H x))(he:e=x∨H e=some (.own x))(k:∀b u,b≠e→s.heap.get? b=some u→h'.get? b=some u)(heo:∃u,h'.get? e=some u)
  (new:ObjOk X.prog X.w (upd H x o) h' x o):Inv X pins σ (upd H x o) { s with heap:=h',toks:=t' }:=I.un (Un.write mu he k heo) (I.hok.write mu he k heo new)
theorem Inv.weak{σ':List (Option V)}(I:Inv X pins σ H s)(hl:σ'.length=σ.length)(w:∀(i:Nat) v,σ'[i]?=some (some v)→σ[i]?=some (some v)):Inv X pins σ' H s :=
 ⟨I.ok,I.os,I.bare,I.base,let ⟨m,hn,hl'⟩:=I.loc;⟨m,hn,fun i x v e1 e2 e3=>hl' i x v e1 (w i v e2) e3⟩,I.cell,I.free,I.freeC,I.pin,I.hok,hl.trans I.len⟩
theorem Inv.pins_of{pins':List (Addr × Obj)}(I:Inv X pins σ H s)(h:∀p∈pins',s.heap.get? p.1=some p.2∧H p.1=none∧p.1≠X.env.locals∧p.1∉X.fs∧∀v,p.2.data≠.cell v):Inv X pins' σ H s :=
 ⟨I.ok,I.os,I.bare,I.base,I.loc,I.cell,I.free,I.freeC,fun p hp=>(List.mem_append.mp hp).elim (fun z=>I.pin p (List.mem_append_left _ z)) (h p),I.hok,I.len⟩
theorem nodup_ix{N:List Str}(hN:N.Nodup){i j:Nat}{x:Str}(a:N[i]?=some x)(b:N[j]?=some x):i=j:=by
 obtain⟨h1,e1⟩:=List.getElem?_eq_some_iff.mp a
 obtain⟨h2,e2⟩:=List.getElem?_eq_some_iff.mp b
 exact(List.getElem_inj hN).mp (e1.trans e2.symm)
theorem store_ok2{M:Model}{A:Around}{E:Value→Shared→Prop}{i:Nat}{x:Str}{v:V}{u:Value}{Q:Unit→Shared→Prop}(I:Inv X pins σ H s)(hN:X.N.Nodup)(hi:X.N[i]?=some x)(hx:Loc X.env.scope x)(r:RelV v u)
  (h:∀s',Inv X pins (σ.set i (some v)) H s'→(∃a,Heap.SameBut a s.heap s'.heap∧(a=X.env.locals∨X.env.cells.lookup x=some a))→Q () s') (hf:X.fn x=true∨X.env.scope.names.lookup x=some .local:=by first|exact .inl rfl|exact .inr rfl|assumption):wpAny M A (storeName X.env x u) Q E s:=by
 obtain⟨m,hn,hl⟩:=id I.loc
 have hcls:(X.env.scope.kind==.class||(X.env.scope.kind==.module&&X.env.locals != X.env.globals))=false:=by rw [I.ok.kind];rfl
 have hiσ:i < σ.length:=by rw [I.len];exact(List.getElem?_eq_some_iff.mp hi).1
 have cne:=I.cne
 have tracked:∀{a:Addr} {h':Heap},(∃o,s.heap.get? a=some o∧H a=none)→Heap.SameBut a s.heap h'→HOk X.prog X.w H h':=fun {a h'} ha hs b ob e=>by
  obtain⟨_,_,hfree⟩:=ha
  refine(I.hok b ob e).stay (fun c w' hc q=>(hs.2 c ?_).trans q) (fun _ q=>q) fun _ _ q=>q
  rintro rfl
  rcases hc with rfl|hc
  ·rw [hfree] at e;cases e
  ·rw [hfree] at hc;cases hc
 rcases hx with hk|hk
 ·refine wpAny_storeName_local hk hn (fun h' hn' hs=>?_) hcls
  obtain⟨oL,_,_,hoL,_⟩:=id hn
  refine h _ ⟨I.ok,I.os,I.bare,⟨fun b o e n hb hx=>?_,fun b o e n hb hx=>?_,I.base.free,fun b o e hx=>?_,I.base.tups,I.base.frzs,I.base.tbls⟩,⟨_,hn',fun j y v' e1 e2 e3=>?_⟩,fun y c e=>?_,I.free,I.freeC,fun p hp=>?_,tracked ⟨oL,hoL,I.free⟩ hs,by simpa using I.len⟩ ⟨_,hs,.inl rfl⟩
  ·exact(hs.2 b (Nat.ne_of_lt (Nat.lt_of_lt_of_le (Heap.lt_size e) I.ok.above))).trans (I.base.keep b o e n hb hx)
  ·obtain⟨sl,e1⟩:=I.base.slot b o e n hb hx
   exact⟨sl,(hs.2 b (Nat.ne_of_lt (Nat.lt_of_lt_of_le (Heap.lt_size e) I.ok.above))).trans e1⟩
  ·obtain⟨o',e1⟩:=I.base.there b o e hx
   exact⟨o',(hs.2 b (Nat.ne_of_lt (Nat.lt_of_lt_of_le (Heap.lt_size e) I.ok.above))).trans e1⟩
  ·by_cases hj:j=i
   ·subst hj
    rw [hi] at e1;cases e1
    rw [List.getElem?_set_self hiσ] at e2
    cases e2
    exact⟨u,r,.inl ⟨hk,by simp⟩⟩
   ·rw [List.getElem?_set_ne (Ne.symm hj)] at e2
    obtain⟨u',r',q⟩:=hl j y v' e1 e2 e3
    refine⟨u',r',?_⟩
    rcases q with ⟨k,e⟩|⟨k,c,e,z⟩
    ·refine .inl ⟨k,?_⟩
     have:y≠x:=fun e=>hj (nodup_ix hN e1 (e▸hi))
     simp [this,e]
    ·exact .inr ⟨k,c,e,z.sameBut hs (cne y c e)⟩
  ·obtain⟨w',z⟩:=I.cell y c e
   exact⟨w',z.sameBut hs (cne y c e)⟩
  ·obtain⟨e,n,ne,nf,d⟩:=I.pin p hp
   exact⟨(hs.2 p.1 ne).trans e,n,ne,nf,d⟩
 ·have hfn:X.fn x=true:=by
   rcases hf with z|z
   ·exact z
   ·rw [z] at hk;cases hk
  obtain⟨c,hc⟩:=I.ok.has x (.inl hk)
  obtain⟨w',z⟩:=I.cell x c hc
  refine wpAny_storeName_cell I.ok.kind hk hc z (fun h' hc' hs=>?_)
  obtain⟨oc,hoc,hocd⟩:=id z
  refine h { s with heap:=h' } ⟨I.ok,I.os,I.bare,⟨fun b o e n hb hx=>?_,fun b o e n hb hx=>?_,I.base.free,fun b o e hx=>?_,I.base.tups,I.base.frzs,I.base.tbls⟩,⟨m,hn.sameBut hs (Ne.symm (cne x c hc)),fun j y v' e1 e2 e3=>?_⟩,fun y c' e=>?_,I.free,I.freeC,fun p hp=>?_,tracked ⟨oc,hoc,I.freeC x c hc⟩ hs,by simpa using I.len⟩ ⟨c,hs,.inr hc⟩
  ·exact(hs.2 b (Nat.ne_of_lt (Nat.lt_of_lt_of_le (Heap.lt_size e) (I.ok.cab x c hfn hc)))).trans (I.base.keep b o e n hb hx)
  ·obtain⟨sl,e1⟩:=I.base.slot b o e n hb hx
   exact⟨sl,(hs.2 b (Nat.ne_of_lt (Nat.lt_of_lt_of_le (Heap.lt_size e) (I.ok.cab x c hfn hc)))).trans e1⟩
  ·obtain⟨o',e1⟩:=I.base.there b o e hx
   exact⟨o',(hs.2 b (Nat.ne_of_lt (Nat.lt_of_lt_of_le (Heap.lt_size e) (I.ok.cab x c hfn hc)))).trans e1⟩
  ·by_cases hj:j=i
   ·subst hj
    rw [hi] at e1;cases e1
    rw [List.getElem?_set_self hiσ] at e2
    cases e2
    exact⟨u,r,.inr ⟨.inl hk,c,hc,hc'⟩⟩
   ·rw [List.getElem?_set_ne (Ne.symm hj)] at e2
    obtain⟨u',r',q⟩:=hl j y v' e1 e2 e3
    refine⟨u',r',?_⟩
    rcases q with q|⟨k,c',e,z'⟩
    ·exact .inl q
    ·refine .inr ⟨k,c',e,z'.sameBut hs ?_⟩
     rintro rfl
     exact hj (nodup_ix hN e1 (I.ok.inj _ _ _ e hc▸hi))
  ·by_cases hcc:c'=c
   ·subst hcc;exact⟨_,hc'⟩
   ·obtain⟨w2,z2⟩:=I.cell y c' e
    exact⟨w2,z2.sameBut hs hcc⟩
  ·obtain⟨e,n,ne,nf,d⟩:=I.pin p hp
   refine⟨(hs.2 p.1 ?_).trans e,n,ne,nf,d⟩
   intro q
   rw [q,hoc] at e
   have q':oc=p.2:=Option.some.inj e
   exact d w' (by rw [←q'];exact hocd)
theorem store_ok{M:Model}{A:Around}{E:Value→Shared→Prop}{i:Nat}{x:Str}{v:V}{u:Value}{Q:Unit→Shared→Prop}(I:Inv X pins σ H s)(hN:X.N.Nodup)(hi:X.N[i]?=some x)(hx:Loc X.env.scope x)(r:RelV v u)
  (h:∀s',Inv X pins (σ.set i (some v)) H s'→Q () s') (hf:X.fn x=true∨X.env.scope.names.lookup x=some .local:=by first|exact .inl rfl|exact .inr rfl|assumption):wpAny M A (storeName X.env x u) Q E s :=
 store_ok2 I hN hi hx r (fun s' I' _=>h s' I') hf
theorem Inv.call'{s':Shared}{ch:List Addr}(I:Inv X pins σ H s)(ho:s'.os=s.os)(u:Un (frs X.stack) ch H H' s.heap s'.heap)(hok:HOk X.prog X.w H' s'.heap)(hg:AllBare s'.gens)
  (hch:∀b∈ch,(b∈X.ex∨X.s₀.heap.objs.size≤b)∧b≠X.env.locals∧(∀x c,X.env.cells.lookup x=some c→c≠b)∧∀p∈X.pn++pins,p.1≠b):Inv X pins σ H' s':=by
 obtain⟨h',g',d',t',o'⟩:=s'
 have e:o'=s.os:=ho
 subst e
 exact I.call (g':=g') (t':=t') (d':=d') u hok hg hch
end
abbrev XK:=Value→Option Addr→Hp→Prop
abbrev St:=List (Option V)
abbrev VK:=V→Hp→Prop
abbrev TE:=St→Hp→VK→Prop
abbrev TT:=St→Hp→(Bool→Hp→Prop)→Prop
abbrev TA:=St→Hp→(List V→Hp→Prop)→Prop
structure Ends where
 nx:St→Hp→Prop
 rt:VK
 bk:St→Hp→Prop:=fun _ _=>False
 ct:St→Hp→Prop:=fun _ _=>False
abbrev TS:=Ends→St→Hp→Prop
def EP(X:Cx)(pins:List (Addr × Obj))(σ:St)(Q:VK)(u:Value)(s':Shared):Prop:=∃v H',Inv X pins σ H' s'∧RelV v u∧Q v H'
def TP(X:Cx)(pins:List (Addr × Obj))(σ:St)(Q:Bool→Hp→Prop)(b:Bool)(s':Shared):Prop:=∃H',Inv X pins σ H' s'∧Q b H'
def AP(X:Cx)(pins:List (Addr × Obj))(σ:St)(Q:List V→Hp→Prop)(us:List Value)(s':Shared):Prop:=∃vs H',Inv X pins σ H' s'∧Vals vs us∧Q vs H'
def SP(X:Cx)(pins:List (Addr × Obj))(D:Ends)(f:Flow)(s':Shared):Prop :=
 match f with
 |.next=>∃σ' H',Inv X pins σ' H' s'∧D.nx σ' H'
 |.brk=>∃σ' H',Inv X pins σ' H' s'∧D.bk σ' H'
 |.cont=>∃σ' H',Inv X pins σ' H' s'∧D.ct σ' H'
 |.ret u=>∃v σ' H',Inv X pins σ' H' s'∧RelV v u∧D.rt v H'
def PE(X:Cx)(e:Expr)(t:TE):Prop :=
 ∀(pins:List (Addr × Obj)) (s:Shared) (σ:St) (H:Hp) (Q:VK),Inv X pins σ H s→t σ H Q→wpAny (model X.prog X.w) X.A (eval e X.env) (EP X pins σ Q) X.xe s
def PT(X:Cx)(e:Expr)(t:TT):Prop :=
 ∀(pins:List (Addr × Obj)) (s:Shared) (σ:St) (H:Hp) (Q:Bool→Hp→Prop),Inv X pins σ H s→t σ H Q→wpAny (model X.prog X.w) X.A (isTrue e X.env (eval e X.env)) (TP X pins σ Q) X.xe s
def PW(X:Cx)(e:Expr)(t:TT):Prop :=
 ∀(whole:Sem Value) (pins:List (Addr × Obj)) (s:Shared) (σ:St) (H:Hp) (Q:Bool→Hp→Prop),Inv X pins σ H s→t σ H Q→wpAny (model X.prog X.w) X.A (isTrue e X.env whole) (TP X pins σ Q) X.xe s
theorem PW.pt{X:Cx}{e:Expr}{t:TT}(h:PW X e t):PT X e t:=h _
def PA(X:Cx)(es:List Expr)(t:TA):Prop :=
 ∀(pos:Pos) (pins:List (Addr × Obj)) (s:Shared) (σ:St) (H:Hp) (Q:List V→Hp→Prop),Inv X pins σ H s→t σ H Q→wpAny (model X.prog X.w) X.A (spliced (backTo pos (starEach es X.env))) (AP X pins σ Q) X.xe s
def PS(X:Cx)(st:Stmt)(t:TS):Prop :=
 ∀(pins:List (Addr × Obj)) (s:Shared) (σ:St) (H:Hp) (D:Ends),Inv X pins σ H s→t D σ H→wpAny (model X.prog X.w) X.A (exec st X.env) (SP X pins D) X.xe s
def PSs(X:Cx)(st:List Stmt)(t:TS):Prop :=
 ∀(pins:List (Addr × Obj)) (s:Shared) (σ:St) (H:Hp) (D:Ends),Inv X pins σ H s→t D σ H→wpAny (model X.prog X.w) X.A (execs st X.env) (SP X pins D) X.xe s
theorem thn{α:Type}{t:Sem α}{Q Q':α→Shared→Prop}{M:Model}{A:Around}{E:Value→Shared→Prop}{s:Shared}(h:wpAny M A t Q E s)(hQ:∀a s,Q a s→Q' a s):wpAny M A t Q' E s:=wpAny_mono h hQ fun _ _ x=>x
end L2
namespace L2
open PySem PySem.Spec PyProof.Rows
section
variable{X:Cx}
inductive Wi (i:Nat) (σ:St) (H:Hp) (Q:VK):Prop
 |mk (v:V) (h:σ[i]?=some (some v)) (q:Q v H)
def tVar(i:Nat):TE:=fun σ H Q=>Wi i σ H Q
def tC(v:V):TE:=fun _ H Q=>Q v H
theorem pe_var{i:Nat}{x:Str}{pos:Pos}(hN:X.N[i]?=some x)(hv:Vis X.env.scope x) (hd:(x==("__debug__":Str))=false:=by decide) (hcd:(x==("__classdict__":Str))=false:=by decide):PE X (.Name x pos) (tVar i):=by
 intro pins s σ H Q I h
 obtain⟨v,e,h⟩:=h
 obtain⟨m,hn,hl⟩:=I.loc
 obtain⟨u,r,l⟩:=hl i x v hN e hv
 have fin:EP X pins σ Q u s:=⟨v,H,I,r,h⟩
 rcases l with ⟨hk,hm⟩|⟨hk,c,hc,hcell⟩
 ·exact wpAny_Name (wpAny_loadName_local I.ok.kind hk hn hm fin) hd
 ·rcases hk with hk|hk
  ·exact wpAny_Name (wpAny_loadName_cell I.ok.kind hk hc hcell fin) hd
  ·exact wpAny_Name (wpAny_loadName_free I.ok.kind hk hc hcell fin hcd) hd
theorem pe_int{i j pos}:PE X (.Constant (.int i) j pos) (tC (.int i)):=fun _ _ _ H _ I h=>wpAny_Constant_int ⟨.int i,H,I.tok _,⟨_,rfl⟩,h⟩
theorem pe_bl{b j pos}:PE X (.Constant (.bool b) j pos) (tC (.bl b)):=fun _ _ _ H _ I h=>Constant_bool ⟨.bl b,H,I,rfl,h⟩
theorem pe_str{x j pos}:PE X (.Constant (.str x) j pos) (tC (.str x)):=fun _ _ _ H _ I h=>Calls.Constant_str ⟨.str x,H,I.tok _,⟨_,rfl⟩,h⟩
def Gl(X:Cx)(x:Str):Prop:=X.env.kindOf x=some .globalImplicit
theorem ld_glob{E:Value→Shared→Prop}{pins:List (Addr × Obj)}{s:Shared}{σ:St}{H:Hp}{x:Str}{u:Value}{pos:Pos}{Q:Value→Shared→Prop}(I:Inv X pins σ H s)(hg:Gl X x)(hm:X.mg x=some u)(h:Q u s)
  (hd:(x==("__debug__":Str))=false:=by decide):wpAny (model X.prog X.w) X.A (eval (.Name x pos) X.env) Q E s :=
 Calls.Name_function_global I.ok.kind hg (Calls.loadGlobal_global (by rw [I.ok.glob];exact I.mod.glob.keeps I.bk) hm h) hd
theorem ld_blt{E:Value→Shared→Prop}{pins:List (Addr × Obj)}{s:Shared}{σ:St}{H:Hp}{x:Str}{u:Value}{pos:Pos}{Q:Value→Shared→Prop}(I:Inv X pins σ H s)(hg:Gl X x)(hm:X.mg x=none)(hv:bootBuiltins x=some u)(h:Q u s)
  (hn:x≠"__name__":=by decide) (hd:(x==("__debug__":Str))=false:=by decide):wpAny (model X.prog X.w) X.A (eval (.Name x pos) X.env) Q E s:=by
 obtain⟨mb,h1,h2⟩:=I.mod.blt
 exact Calls.Name_function_global I.ok.kind hg (Calls.loadGlobal_builtin (by rw [I.ok.glob];exact I.mod.glob.keeps I.bk) hm (by rw [I.ok.blt];exact h1.keeps I.bk) ((h2 x hn).trans hv) h) hd
theorem pe_glob{x:Str}{v:V}{u:Value}{pos:Pos}(hg:Gl X x)(hm:X.mg x=some u)(r:RelV v u) (hd:(x==("__debug__":Str))=false:=by decide):PE X (.Name x pos) (tC v) :=
 fun _ _ _ H _ I h=>ld_glob I hg hm ⟨v,H,I,r,h⟩ hd
theorem pe_bltn{x:Str}{v:V}{u:Value}{pos:Pos}(hg:Gl X x)(hm:X.mg x=none)(hv:bootBuiltins x=some u)(r:RelV v u) (hn:x≠"__name__":=by decide) (hd:(x==("__debug__":Str))=false:=by decide):PE X (.Name x pos) (tC v) :=
 fun _ _ _ H _ I h=>ld_blt I hg hm hv ⟨v,H,I,r,h⟩ hn hd
variable{a b:Expr}{ta tb:TE}{pos:Pos}
def PC(X:Cx)(op:CmpOp)(a b:Expr)(t:TE):Prop :=
 ∀(pins:List (Addr × Obj)) (s:Shared) (σ:St) (H:Hp) (Q:VK),Inv X pins σ H s→t σ H Q →
  wpAny (model X.prog X.w) X.A (eval a X.env) (fun v s₁=>wpAny (model X.prog X.w) X.A (eval b X.env) (fun u s₂=>wpAny (model X.prog X.w) X.A (compareOp op v u) (EP X pins σ Q) X.xe s₂) X.xe s₁) X.xe s
inductive Wb (x:V) (H:Hp) (Q:Bool→Hp→Prop):Prop
 |mk (c:Bool) (h:x=.bl c) (q:Q c H)
def tB(t:TE):TT:=fun σ H Q=>t σ H fun x H1=>Wb x H1 Q
theorem pt_cmp{op:CmpOp}{t:TE}(h:PC X op a b t)(h1:behindInMarks op b=false:=by first|exact nobehind _ (by decide) (by decide)|rfl):PT X (.Compare a [op] [b] pos) (tB t):=by
 intro pins s σ H Q I hw
 refine wpAny_isTrue_Compare1 (thn (h pins s σ H _ I hw) fun v s1 h1=>thn h1 fun u s2 h2=>thn h2 fun c s3 ⟨x,H1,I1,r1,q1⟩=>?_) h1
 obtain⟨d,rfl,q⟩:=q1
 cases r1
 exact wpAny_truthy_bool ⟨H1,I1,q⟩
theorem pt_val{e:Expr}{t:TE}(h:PE X e t)(he:∀whole,isTrue e X.env whole=(do let v ←whole;standAt e.pos;holding [v] (truthy v)):=by intro _;rfl):PT X e (tB t):=by
 intro pins s σ H Q I hw
 refine isTrue_plain (thn (h pins s σ H _ I hw) fun v s1 ⟨x,H1,I1,r1,q1⟩=>?_) (he _)
 obtain⟨d,rfl,q⟩:=q1
 cases r1
 exact wpAny_truthy_bool ⟨H1,I1,q⟩
variable{tA tB':TT}{rest:List Expr}
def tAnd(t u:TT):TT:=fun σ H Q=>t σ H fun c H1=>if c=true then u σ H1 Q else Q false H1
def tOr(t u:TT):TT:=fun σ H Q=>t σ H fun c H1=>if c=true then Q true H1 else u σ H1 Q
def tNot(t:TT):TT:=fun σ H Q=>t σ H fun c H1=>Q (!c) H1
theorem pw_and1(ha:PT X a tA):PW X (.BoolOp .And [a] pos) tA:=by
 intro wh pins s σ H Q I h
 refine isTrue_and (thn (ha pins s σ H Q I h) fun c s1 e=>?_)
 cases c with
 |true=>exact isTrue_and_nil e
 |false=>exact e
theorem pw_or1(ha:PT X a tA):PW X (.BoolOp .Or [a] pos) tA:=by
 intro wh pins s σ H Q I h
 refine isTrue_or (thn (ha pins s σ H Q I h) fun c s1 e=>?_)
 cases c with
 |false=>exact isTrue_or_nil e
 |true=>exact e
theorem pw_and(ha:PT X a tA)(hb:PW X (.BoolOp .And (b::rest) pos) tB'):PW X (.BoolOp .And (a::b::rest) pos) (tAnd tA tB'):=by
 intro wh pins s σ H Q I h
 refine isTrue_and (thn (ha pins s σ H _ I h) fun c s1 ⟨H1,I1,q1⟩=>?_)
 cases c with
 |true=>exact hb wh pins s1 σ H1 Q I1 q1
 |false=>exact⟨H1,I1,q1⟩
theorem pw_or(ha:PT X a tA)(hb:PW X (.BoolOp .Or (b::rest) pos) tB'):PW X (.BoolOp .Or (a::b::rest) pos) (tOr tA tB'):=by
 intro wh pins s σ H Q I h
 refine isTrue_or (thn (ha pins s σ H _ I h) fun c s1 ⟨H1,I1,q1⟩=>?_)
 cases c with
 |true=>exact⟨H1,I1,q1⟩
 |false=>exact hb wh pins s1 σ H1 Q I1 q1
theorem pt_not(ha:PT X a tA):PT X (.UnaryOp .Not a pos) (tNot tA):=by
 intro pins s σ H Q I h
 exact isTrue_not (ha pins s σ H (fun c H1=>Q (!c) H1) I h)
def tAndV(ta tb:TE):TE:=fun σ H Q=>ta σ H fun x H1=>∃c,x=.bl c∧if c=true then tb σ H1 Q else Q (.bl false) H1
def tOrV(ta tb:TE):TE:=fun σ H Q=>ta σ H fun x H1=>∃c,x=.bl c∧if c=true then Q (.bl true) H1 else tb σ H1 Q
def tNotV(ta:TE):TE:=fun σ H Q=>ta σ H fun x H1=>∃c,x=.bl c∧Q (.bl (!c)) H1
theorem pe_one{op}{t:TE}(h:PE X a t):PE X (.BoolOp op [a] pos) t:=fun pins s σ H Q I hw=>BoolOp_one (h pins s σ H Q I hw)
theorem pe_and(ha:PE X a ta)(hb:PE X (.BoolOp .And (b::rest) pos) tb):PE X (.BoolOp .And (a::b::rest) pos) (tAndV ta tb):=by
 intro pins s σ H Q I h
 refine BoolOp_and (thn (ha pins s σ H _ I h) fun v s1 ⟨x,H1,I1,r1,q1⟩=>?_)
 obtain⟨c,rfl,q1⟩:=q1
 cases r1
 refine wpAny_truthy_bool ?_
 cases c with
 |true=>exact hb pins s1 σ H1 Q I1 q1
 |false=>exact⟨.bl false,H1,I1,rfl,q1⟩
theorem pe_or(ha:PE X a ta)(hb:PE X (.BoolOp .Or (b::rest) pos) tb):PE X (.BoolOp .Or (a::b::rest) pos) (tOrV ta tb):=by
 intro pins s σ H Q I h
 refine BoolOp_or (thn (ha pins s σ H _ I h) fun v s1 ⟨x,H1,I1,r1,q1⟩=>?_)
 obtain⟨c,rfl,q1⟩:=q1
 cases r1
 refine wpAny_truthy_bool ?_
 cases c with
 |false=>exact hb pins s1 σ H1 Q I1 q1
 |true=>exact⟨.bl true,H1,I1,rfl,q1⟩
theorem pe_not(ha:PE X a ta):PE X (.UnaryOp .Not a pos) (tNotV ta):=by
 intro pins s σ H Q I h
 refine UnaryOp_ (thn (ha pins s σ H _ I h) fun v s1 ⟨x,H1,I1,r1,q1⟩=>?_)
 obtain⟨c,rfl,q1⟩:=q1
 cases r1
 exact not_of (wpAny_truthy_bool ⟨.bl (!c),H1,I1,rfl,q1⟩)
def tIf(t:TT)(ta tb:TE):TE:=fun σ H Q=>t σ H fun c H1=>if c=true then ta σ H1 Q else tb σ H1 Q
theorem pe_ifExp{c:Expr}(hc:PT X c tA)(ha:PE X a ta)(hb:PE X b tb):PE X (.IfExp c a b pos) (tIf tA ta tb):=by
 intro pins s σ H Q I h
 refine wpAny_IfExp (thn (hc pins s σ H _ I h) fun d s1 ⟨H1,I1,q1⟩=>?_)
 cases d with
 |true=>exact ha pins s1 σ H1 Q I1 q1
 |false=>exact hb pins s1 σ H1 Q I1 q1
end
end L2
namespace L2
open PySem PySem.Spec PyProof.Rows
def SqL(K:PySem.W.Frag)(H:Hp)(a:Addr)(xs:List V):Prop :=
 Rd H a (.lst xs) ∨
  ∃(o:Obj) (its:Array Value) (n:Nat),K.lookup a=some o∧o.cls=.type "list"∧o.dict=none∧o.data=.seq its n∧its.size≤sizeLine∧Vals xs its.toList
def SqT(K:PySem.W.Frag)(H:Hp)(a:Addr)(xs:List V):Prop :=
 Rd H a (.tup xs) ∨
  ∃(o:Obj) (its:Array Value) (n:Nat),K.lookup a=some o∧o.cls=.type "tuple"∧o.data=.seq its n∧its.size≤sizeLine∧Vals xs its.toList
def absV:Value→Option V
 |.none=>some .non
 |.bool b=>some (.bl b)
 |.int i _=>some (.int i)
 |.str x _=>some (.str x)
 |.bytes b _=>some (.byt b)
 |.float b _=>some (.flt b)
 |.ref a=>some (.ref a)
 |.type n=>some (.ty n)
 |_=>none
theorem RelV.abs{x:V}{u:Value}(r:RelV x u):absV u=some x:=by
 cases x with
 |non=>cases r;rfl
 |bl _=>cases r;rfl
 |int _=>obtain⟨t,rfl⟩:=r;rfl
 |str _=>obtain⟨t,rfl⟩:=r;rfl
 |byt _=>obtain⟨t,rfl⟩:=r;rfl
 |flt _=>obtain⟨t,rfl⟩:=r;rfl
 |ref _=>cases r;rfl
 |ty _=>cases r;rfl
theorem RelV.inj{x y:V}{u:Value}(r:RelV x u)(q:RelV y u):x=y:=Option.some.inj (r.abs.symm.trans q.abs)
theorem Vals.inj:∀{xs ys:List V} {us:List Value},Vals xs us→Vals ys us→xs=ys
 |_,_,_,.nil,.nil=>rfl
 |_,_,_,.cons r t,.cons r' t'=>by rw [r.inj r',Vals.inj t t']
section
variable{X:Cx}{pins:List (Addr × Obj)}{σ:St}{H:Hp}{s:Shared}{a:Addr}{xs ys:List V}
theorem SqL.of{K:PySem.W.Frag}(h:H a=some (.lst xs)):SqL K H a xs:=.inl (.inl h)
theorem SqT.of{K:PySem.W.Frag}(h:H a=some (.tup xs)):SqT K H a xs:=.inl (.inl h)
theorem Inv.list(I:Inv X pins σ H s)(h:SqL X.K H a xs):∃its:List Value,Vals xs its∧PlainL s.heap a its.toArray∧xs.length≤sizeLine:=by
 rcases h with h|⟨o,its,n,hk,hc,hd,hs,hz,r⟩
 ·obtain⟨z,its,n,r,e⟩:=h.ok I.hok
  exact⟨its,r,⟨_,n,e,rfl,rfl,rfl⟩,z⟩
 ·refine⟨its.toList,r,⟨o,n,I.kIn a o hk,hc,hd,by simpa using hs⟩,?_⟩
  have e:=r.length
  simp only [Array.length_toList] at e
  omega
theorem Inv.tuple(I:Inv X pins σ H s)(h:SqT X.K H a xs):∃its:List Value,Vals xs its∧IsTup s.heap a its.toArray∧xs.length≤sizeLine:=by
 rcases h with h|⟨o,its,n,hk,hc,hs,hz,r⟩
 ·obtain⟨z,its,r,p⟩:=h.ok I.hok
  exact⟨its,r,p,z⟩
 ·refine⟨its.toList,r,⟨o,I.kIn a o hk,hc,n,by simpa using hs⟩,?_⟩
  have e:=r.length
  simp only [Array.length_toList] at e
  omega
theorem Inv.list_inj(I:Inv X pins σ H s)(h:SqL X.K H a xs)(h':SqL X.K H a ys):xs=ys:=by
 obtain⟨its,r,⟨o,n,e,_,_,d⟩,_⟩:=I.list h
 obtain⟨its',r',⟨o',n',e',_,_,d'⟩,_⟩:=I.list h'
 rw [e] at e';cases e'
 rw [d] at d'
 injection d' with d1 _
 have:its=its':=by simpa using congrArg Array.toList d1
 subst this
 exact r.inj r'
theorem Inv.tuple_inj(I:Inv X pins σ H s)(h:SqT X.K H a xs)(h':SqT X.K H a ys):xs=ys:=by
 obtain⟨its,r,⟨o,e,_,n,d⟩,_⟩:=I.tuple h
 obtain⟨its',r',⟨o',e',_,n',d'⟩,_⟩:=I.tuple h'
 rw [e] at e';cases e'
 rw [d] at d'
 injection d' with d1 _
 have:its=its':=by simpa using congrArg Array.toList d1
 subst this
 exact r.inj r'
end
abbrev Cx.wish(X:Cx)(E:Value→Shared→Prop):Cx:={ X with xe:=E }
abbrev Cx.nox(X:Cx):Cx:=X.wish fun _ _=>False
theorem Cx.Ok.wish{X:Cx}(ok:X.Ok)(E:Value→Shared→Prop):(X.wish E).Ok :=
 ⟨ok.mod,ok.kind,ok.glob,ok.blt,ok.above,ok.inj,ok.has,ok.cab,ok.hd,ok.frames,ok.stk,ok.exf,ok.bs,ok.bsz,ok.noex,ok.exfs,ok.funs,ok.frf⟩
theorem Cx.Ok.unwish{X:Cx}{E:Value→Shared→Prop}(ok:(X.wish E).Ok):X.Ok :=
 ⟨ok.mod,ok.kind,ok.glob,ok.blt,ok.above,ok.inj,ok.has,ok.cab,ok.hd,ok.frames,ok.stk,ok.exf,ok.bs,ok.bsz,ok.noex,ok.exfs,ok.funs,ok.frf⟩
section
variable{X:Cx}{pins:List (Addr × Obj)}{σ:St}{H:Hp}{s:Shared}{E:Value→Shared→Prop}
theorem Inv.wish(I:Inv X pins σ H s)(E:Value→Shared→Prop):Inv (X.wish E) pins σ H s:=⟨I.ok.wish E,I.os,I.bare,I.base,I.loc,I.cell,I.free,I.freeC,I.pin,I.hok,I.len⟩
theorem Inv.unwish(I:Inv (X.wish E) pins σ H s):Inv X pins σ H s:=⟨I.ok.unwish,I.os,I.bare,I.base,I.loc,I.cell,I.free,I.freeC,I.pin,I.hok,I.len⟩
theorem SP.unwish{D:Ends}{f:Flow}{s':Shared}(h:SP (X.wish E) pins D f s'):SP X pins D f s':=by
 cases f with
 |next=>obtain⟨σ',H',I,q⟩:=h;exact⟨σ',H',I.unwish,q⟩
 |brk=>obtain⟨σ',H',I,q⟩:=h;exact⟨σ',H',I.unwish,q⟩
 |cont=>obtain⟨σ',H',I,q⟩:=h;exact⟨σ',H',I.unwish,q⟩
 |ret u=>obtain⟨v,σ',H',I,r,q⟩:=h;exact⟨v,σ',H',I.unwish,r,q⟩
theorem PSs.nox{st:List Stmt}{t:TS}(h:PSs X.nox st t):PSs X st t:=fun pins s σ H D I hw =>
 wpAny_mono (h pins s σ H D (I.wish _) hw) (fun _ _ q=>q.unwish) fun _ _ z=>False.elim z
end
section
variable{X:Cx}{st:Stmt}{rest:List Stmt}{t u:TS}{e:Expr}{te:TE}{pos:Pos}
def tNext:TS:=fun D σ H=>D.nx σ H
def tSeq(t u:TS):TS:=fun D σ H=>t { D with nx:=u D } σ H
theorem pss_nil:PSs X [] tNext:=fun _ _ σ H _ I h=>wpAny_execs_nil ⟨σ,H,I,h⟩
theorem pss_cons(h1:PS X st t)(h2:PSs X rest u):PSs X (st::rest) (tSeq t u):=by
 intro pins s σ H D I h
 refine wpAny_execs_cons (thn (h1 pins s σ H { D with nx:=u D } I h) fun f s1 q=>?_)
 cases f with
 |next =>
  obtain⟨σ',H',I',q⟩:=q
  exact h2 pins s1 σ' H' D I' q
 |ret v=>exact q
 |brk=>exact q
 |cont=>exact q
theorem pss_one(h1:PS X st t):PSs X [st] t:=by
 intro pins s σ H D I h
 refine wpAny_execs_cons (thn (h1 pins s σ H D I h) fun f s1 q=>?_)
 cases f with
 |next=>exact wpAny_execs_nil q
 |ret v=>exact q
 |brk=>exact q
 |cont=>exact q
theorem Inv.quiet{pins:List (Addr × Obj)}{σ:St}{H:Hp}{s:Shared}(I:Inv X pins σ H s):interactive X.env=false:=by simp [interactive,I.ok.kind]
def tDrop(te:TE):TS:=fun D σ H=>te σ H fun _ H1=>D.nx σ H1
theorem ps_expr(he:PE X e te)(hs:swapsWith e none pos.line X.env=pure false:=by rfl):PS X (.Expr e pos) (tDrop te):=by
 intro pins s σ H D I h
 exact wpAny_Expr_any (thn (he pins s σ H _ I h) fun v s1 ⟨x,H1,I1,r1,q1⟩=>⟨σ,H1,I1,q1⟩) I.quiet hs
def tRet(te:TE):TS:=fun D σ H=>te σ H D.rt
theorem ps_ret(he:PE X e te):PS X (.Return (some e) pos) (tRet te):=by
 intro pins s σ H D I h
 exact wpAny_Return_some (thn (he pins s σ H _ I h) fun v s1 ⟨x,H1,I1,r1,q1⟩=>⟨x,σ,H1,I1,r1,q1⟩)
def tIfS(c:TT)(t u:TS):TS:=fun D σ H=>c σ H fun b H1=>if b=true then t D σ H1 else u D σ H1
theorem ps_if{c:Expr}{a b:List Stmt}{tc:TT}(hc:PT X c tc)(ha:PSs X a t)(hb:PSs X b u):PS X (.If c a b pos) (tIfS tc t u):=by
 intro pins s σ H D I h
 refine wpAny_If (thn (hc pins s σ H _ I h) fun d s1 ⟨H1,I1,q1⟩=>?_)
 cases d with
 |true=>exact ha pins s1 σ H1 D I1 q1
 |false=>exact hb pins s1 σ H1 D I1 q1
end
abbrev TG:=V→St→Hp→(St→Hp→Prop)→Prop
abbrev TGs:=List V→St→Hp→(St→Hp→Prop)→Prop
def PG(X:Cx)(target:Expr)(t:TG):Prop :=
 ∀(pins:List (Addr × Obj)) (s:Shared) (σ:St) (H:Hp) (v:V) (u:Value) (Q:St→Hp→Prop),Inv X pins σ H s→RelV v u→t v σ H Q →
  wpAny (model X.prog X.w) X.A (assign target X.env u) (fun _ s'=>∃σ' H',Inv X pins σ' H' s'∧Q σ' H') X.xe s
def PGs(X:Cx)(ts:List Expr)(t:TGs):Prop :=
 ∀(pins:List (Addr × Obj)) (s:Shared) (σ:St) (H:Hp) (vs:List V) (us:List Value) (Q:St→Hp→Prop),Inv X pins σ H s→Vals vs us→t vs σ H Q →
  wpAny (model X.prog X.w) X.A (assignInOrder ((assignEach ts X.env).map (·.2)) us) (fun _ s'=>∃σ' H',Inv X pins σ' H' s'∧Q σ' H') X.xe s
abbrev TSet:=V→V→V→Hp→(Hp→Prop)→Prop
def PSet(X:Cx)(t:TSet):Prop :=
 ∀(pins:List (Addr × Obj)) (s:Shared) (σ:St) (H:Hp) (o i v:V) (ov iv u:Value) (Q:Hp→Prop),Inv X pins σ H s→RelV o ov→RelV i iv→RelV v u→t o i v H Q →
  wpAny (model X.prog X.w) X.A (setItem ov iv u) (fun _ s'=>∃H',Inv X pins σ H' s'∧Q H') X.xe s
section
variable{X:Cx}{pos:Pos}
def gName(i:Nat):TG:=fun v σ H Q=>Q (σ.set i (some v)) H
theorem pg_name{i:Nat}{x:Str}(hN:X.N.Nodup)(hi:X.N[i]?=some x)(hx:Loc X.env.scope x)(hf:X.fn x=true∨X.env.scope.names.lookup x=some .local:=by first|exact .inl rfl|exact .inr rfl|assumption):PG X (.Name x pos) (gName i):=by
 intro pins s σ H v u Q I r h
 exact wpAny_assign_Name (store_ok I hN hi hx r (fun s' I'=>⟨_,H,I',h⟩) hf)
def gNil:TGs:=fun vs σ H Q=>vs=[]∧Q σ H
inductive Wc (t:TG) (u:TGs) (vs:List V) (σ:St) (H:Hp) (Q:St→Hp→Prop):Prop
 |mk (v:V) (r:List V) (h:vs=v::r) (q:t v σ H fun σ' H'=>u r σ' H' Q)
def gCons(t:TG)(u:TGs):TGs:=fun vs σ H Q=>Wc t u vs σ H Q
theorem pgs_nil:PGs X [] gNil:=by
 intro pins s σ H vs us Q I r h
 obtain⟨e,h⟩:=h
 subst e
 cases r
 exact assignInOrder_nil ⟨σ,H,I,h⟩
theorem pgs_cons{e:Expr}{es:List Expr}{t:TG}{u:TGs}(h1:PG X e t)(h2:PGs X es u)
  (hs:(assignEach (e::es) X.env).map (·.2)=assign e X.env::(assignEach es X.env).map (·.2):=by rfl):PGs X (e::es) (gCons t u):=by
 intro pins s σ H vs us Q I r h
 obtain⟨v,vr,e1,h⟩:=h
 subst e1
 cases r with
 |cons r rr =>
  rw [hs]
  refine assignInOrder_cons (thn (h1 pins s σ H _ _ _ I r h) fun _ s1 ⟨σ1,H1,I1,q1⟩=>?_)
  exact h2 pins s1 σ1 H1 _ _ Q I1 rr q1
def gTup(K:PySem.W.Frag)(n:Nat)(t:TGs):TG:=fun v σ H Q=>∃a xs,v=.ref a∧SqT K H a xs∧xs.length=n∧t xs σ H Q
theorem pg_tup{es:List Expr}{k:Nat}{t:TGs}{n:Nat}(hc:X.calm=true)(h:PGs X es t)
  (hn:(assignEach es X.env).length=n:=by rfl) (hst:(assignEach es X.env).findIdx? (·.1)=none:=by rfl):PG X (.Tuple es k pos) (gTup X.K n t):=by
 intro pins s σ H v u Q I r hw
 obtain⟨a,xs,e1,hq,hl,hw⟩:=hw
 subst e1
 cases r
 obtain⟨its,rv,ht,hz⟩:=I.tuple hq
 refine assign_Tuple_tuple (I.ok.hd hc) ht (by simp [hn,←hl,rv.length]) hst fun h' hx=>?_
 have I1:Inv X pins σ H { s with heap:=h' }:=I.kept (t':=s.toks) fun b o e=>hx b o (Nat.ne_of_lt (Heap.lt_size e)) e
 exact h pins _ σ H xs _ Q I1 (by simpa using rv) hw
def gSub(to ti:TE)(t:TSet):TG:=fun v σ H Q=>to σ H fun o H1=>ti σ H1 fun i H2=>t o i v H2 fun H3=>Q σ H3
theorem pg_sub{o i:Expr}{to ti:TE}{t:TSet}(ho:PE X o to)(hi:PE X i ti)(hs:PSet X t)
  (ha:∀v,assign (.Subscript o i pos) X.env v=(do
   let ov ←holding [v] (eval o X.env)
   let iv ←holding [v,ov] (eval i X.env)
   standAt pos
   holding [v,ov,iv] (setItem ov iv v)
   release [v,ov,iv] []):=by intro _;rfl):PG X (.Subscript o i pos) (gSub to ti t):=by
 intro pins s σ H v u Q I r h
 rw [ha]
 refine wpAny_bind (wpAny_holding (thn (ho pins s σ H _ I h) fun ov s1 ⟨x,H1,I1,r1,q1⟩=>?_))
 refine wpAny_bind (wpAny_holding (thn (hi pins s1 σ H1 _ I1 q1) fun iv s2 ⟨y,H2,I2,r2,q2⟩=>?_))
 refine wpAny_bind (wpAny_standAt (wpAny_bind (wpAny_holding (thn (hs pins s2 σ H2 x y v ov iv u _ I2 r1 r2 r q2) fun _ s3 ⟨H3,I3,q3⟩=>?_))))
 exact wpAny_release ⟨σ,H3,I3,q3⟩
def tAsg(te:TE)(g:TG):TS:=fun D σ H=>te σ H fun x H1=>g x σ H1 D.nx
theorem ps_asg{tg e:Expr}{te:TE}{g:TG}(he:PE X e te)(hg:PG X tg g)(hs:swapsWithSole [tg] e pos.line X.env=pure false:=by rfl)(hw:swappedStores [tg] e X.env=pure none:=by rfl)
  (h1:(assignEach [tg] X.env).map (·.2)=[assign tg X.env]:=by rfl):PS X (.Assign [tg] e pos) (tAsg te g):=by
 intro pins s σ H D I h
 refine wpAny_Assign_stores (thn (he pins s σ H _ I h) fun v s1 ⟨x,H1,I1,r1,q1⟩=>?_) hs hw
 rw [h1]
 exact thn (hg pins s1 σ H1 x v _ I1 r1 q1) fun _ s2 q=>q
theorem ps_set{i:Nat}{x:Str}{e:Expr}{te:TE}{pos':Pos}(hN:X.N.Nodup)(hi:X.N[i]?=some x)(hx:Loc X.env.scope x)(he:PE X e te)(hs:swapsWith e (some (.Name x pos')) pos.line X.env=pure false:=by rfl)(hf:X.fn x=true∨X.env.scope.names.lookup x=some .local:=by first|exact .inl rfl|exact .inr rfl|assumption) :
  PS X (.Assign [.Name x pos'] e pos) (tAsg te (gName i)):=by
 intro pins s σ H D I h
 refine wpAny_Assign_Name (thn (he pins s σ H _ I h) fun v s1 ⟨y,H1,I1,r1,q1⟩=>?_) hs
 exact store_ok I1 hN hi hx r1 (fun s2 I2=>⟨_,H1,I2,q1⟩) hf
end
section
variable{X:Cx}{pos:Pos}
def tWhile(c:TT)(tb:TS):TS:=fun D σ H=>∃W:Nat→St→Hp→Prop,(∃m,W m σ H)∧∀m σ H,W m σ H →
 c σ H fun b H1=>if b=true then ∃N:St→Hp→Prop,(∀σ' H',N σ' H'→∃m',m' < m∧W m' σ' H')∧tb { D with nx:=N,ct:=N,bk:=D.nx } σ H1 else D.nx σ H1
theorem ps_while{c:Expr}{body:List Stmt}{tc:TT}{tb:TS}(hp:PassesOwn (model X.prog X.w) X.A X.env X.xe)(hc:PT X c tc)(hb:PSs X body tb):PS X (.While c body [] pos) (tWhile tc tb):=by
 intro pins s σ H D I h
 obtain⟨W,⟨m0,w0⟩,turn⟩:=h
 refine wpAny_While (codeAny_whileLoop (fun n s'=>∃σ' H',Inv X pins σ' H' s'∧W n σ' H') ?_ m0 ⟨σ,H,I,w0⟩)
 rintro n s1 ⟨σ1,H1,I1,w1⟩
 refine wpAny_passesOwn hp (thn (hc pins s1 σ1 H1 _ I1 (turn n σ1 H1 w1)) fun b s2 ⟨H2,I2,q2⟩=>?_)
 cases b with
 |true =>
  obtain⟨N,hN,q2⟩:=q2
  rw [if_pos rfl]
  refine wpAny_passesOwn hp (thn (hb pins s2 σ1 H2 _ I2 q2) fun f s3 q3=>?_)
  cases f with
  |next =>
   obtain⟨σ3,H3,I3,n3⟩:=q3
   obtain⟨m',hm,w3⟩:=hN σ3 H3 n3
   exact⟨m',hm,σ3,H3,I3,w3⟩
  |cont =>
   obtain⟨σ3,H3,I3,n3⟩:=q3
   obtain⟨m',hm,w3⟩:=hN σ3 H3 n3
   exact⟨m',hm,σ3,H3,I3,w3⟩
  |brk=>exact q3
  |ret v=>exact q3
 |false =>
  rw [if_neg Bool.false_ne_true]
  exact wpAny_execs_nil ⟨σ1,H2,I2,q2⟩
end
structure It where
 go:Nat→Hp→Prop
 yld:Nat→Hp→V→Hp→Prop
 stop:Nat→Hp→Prop
def FpOk(X:Cx)(pins:List (Addr × Obj))(H:Hp)(b:Addr):Prop :=
 H b=none∧b≠X.env.locals∧b∉X.fs∧(b∈X.ex∨X.s₀.heap.objs.size≤b)∧(∀x c,X.env.cells.lookup x=some c→c≠b)∧∀p∈X.pn++pins,p.1≠b
theorem Inv.fpOk{X:Cx}{pins:List (Addr × Obj)}{σ:St}{H H':Hp}{s:Shared}{b:Addr}(I:Inv X pins σ H s)(hb:s.heap.objs.size≤b)(hn:H' b=none):FpOk X pins H' b:=by
 refine⟨hn,Nat.ne_of_gt (Nat.lt_of_lt_of_le I.lt hb),I.nofs hb,.inr (Nat.le_trans I.sz hb),fun x c e z=>?_,fun p hp z=>?_⟩
 ·obtain⟨v,q⟩:=I.cell x c e
  exact absurd (Nat.lt_of_lt_of_le q.lt (by rw [z];exact hb)) (Nat.lt_irrefl _)
 ·exact absurd (Nat.lt_of_lt_of_le (Heap.lt_size (I.pin p hp).1) (by rw [z];exact hb)) (Nat.lt_irrefl _)
structure Turn(P:Program)(w:World)(K:PySem.W.Frag)(tg:Expr)(J:It)(fp:List Addr)(it:Addr)(tn:Nat→Heap→Prop):Prop where
 mem:it∈fp
 obj:∀i h,tn i h→∀b∈fp,∃o,h.get? b=some o∧∀v,o.data≠.cell v
 keep:∀i h h',tn i h→(∀b∈fp,∀o,h.get? b=some o→h'.get? b=some o)→tn i h'
 item:∀(X:Cx),X.prog=P→X.w=w→X.K=K→X.calm=true→∀(i:Nat) (pins:List (Addr × Obj)) (s:Shared) (σ:St) (H:Hp) (E:Value→Shared→Prop),Inv X pins σ H s→(∀b∈fp,FpOk X pins H b)→tn i s.heap→J.go i H →
  wpAny (model P w) X.A (pyNext (.ref it)) (fun r s1=>∃u,r=some u ∧
   wpAny (model P w) X.A (letOwnedTupleGo tg (.ref it) u) (fun _ s2=>∃x H',Inv X pins σ H' s2∧RelV x u∧J.yld i H x H'∧tn (i+1) s2.heap∧∀b∈fp,H' b=none) E s1) E s
 done:∀(X:Cx),X.prog=P→X.w=w→X.K=K→X.calm=true→∀(i:Nat) (pins:List (Addr × Obj)) (s:Shared) (σ:St) (H:Hp) (E:Value→Shared→Prop),Inv X pins σ H s→(∀b∈fp,FpOk X pins H b)→tn i s.heap→J.stop i H →
  wpAny (model P w) X.A (pyNext (.ref it)) (fun r s1=>r=none∧Inv X pins σ H s1) E s
 self:∀(A:Around) (i:Nat) (s:Shared) (Q:Value→Shared→Prop) (E:Value→Shared→Prop),tn i s.heap→Q (.ref it) s→wpAny (model P w) A (pyIter (.ref it)) Q E s
abbrev TI:=St→Hp→(It→Hp→Prop)→Prop
def PIE(X:Cx)(pins:List (Addr × Obj))(σ:St)(tg:Expr)(R:It→Hp→Prop)(itv:Value)(s2:Shared):Prop :=
 ∃(it:Addr) (fp:List Addr) (tn:Nat→Heap→Prop) (J:It) (H':Hp),itv=.ref it∧Inv X pins σ H' s2∧Turn X.prog X.w X.K tg J fp it tn∧tn 0 s2.heap∧(∀b∈fp,FpOk X pins H' b)∧R J H'
def PI(X:Cx)(tg iter:Expr)(wi:TI):Prop :=
 ∀(pins:List (Addr × Obj)) (s:Shared) (σ:St) (H:Hp) (R:It→Hp→Prop),Inv X pins σ H s→wi σ H R →
  wpAny (model X.prog X.w) X.A (eval iter X.env) (fun v s1=>wpAny (model X.prog X.w) X.A (pyIter v) (PIE X pins σ tg R) X.xe s1) X.xe s
theorem go_of{M:Model}{A:Around}{E:Value→Shared→Prop}{s:Shared}{tg:Expr}{it:Addr}{u:Value}{o:Obj}{n:String}{vs:Array Value}{Q:Unit→Shared→Prop}(ho:s.heap.get? it=some o)(hc:o.cls=.type n)(hd:o.data=.fields vs)
    (hn:["enumerate","zip","dict_itemiterator","dict_reverseitemiterator","odict_iterator","itertools.zip_longest","itertools.pairwise"].contains n=false) (hQ:Q () s):wpAny M A (letOwnedTupleGo tg (.ref it) u) Q E s:=by
  unfold letOwnedTupleGo
  cases tg<;>first
    | exact wpAny_pure hQ
    | (cases u<;>first
        | exact wpAny_pure hQ
        | (refine wpAny_bind (wpAny_load ho ?_)
           rw [hc,hd]
           show wpAny M A (if (["enumerate","zip","dict_itemiterator","dict_reverseitemiterator","odict_iterator","itertools.zip_longest","itertools.pairwise"].contains n&&vs[0]?==some (rawInt _))=true then _ else _) Q E s
           rw [if_neg (by intro h;rw [hn,Bool.false_and] at h;cases h)]
           exact wpAny_pure hQ))
def Itl(K:PySem.W.Frag)(a:Addr):It :=
 ⟨fun i H=>∃xs x,SqL K H a xs∧xs[i]?=some x,fun i H x H'=>H'=H∧∀xs,SqL K H a xs→xs[i]?=some x,fun i H=>∃xs,SqL K H a xs∧xs.length≤i⟩
def Itt(K:PySem.W.Frag)(a:Addr):It :=
 ⟨fun i H=>∃xs x,SqT K H a xs∧xs[i]?=some x,fun i H x H'=>H'=H∧∀xs,SqT K H a xs→xs[i]?=some x,fun i H=>∃xs,SqT K H a xs∧xs.length≤i⟩
def Itr(lo:Int)(n:Nat):It:=⟨fun i _=>i < n,fun i H x H'=>H'=H∧x=.int (lo+i),fun i _=>n≤i⟩
theorem turn_list{P:Program}{w:World}{K:PySem.W.Frag}{tg:Expr}(a it:Addr):Turn P w K tg (Itl K a) [it] it (fun i h=>h.IsListIter it a i) where
 mem:=by simp
 obj:=fun i h st b hb=>by
  have e:b=it:=by simpa using hb
  subst e
  obtain⟨o,e,c,d⟩:=st
  exact⟨o,e,fun v z=>by rw [d] at z;cases z⟩
 keep:=fun i h h' st k=>st.at fun o e=>k it (by simp) o e
 item:=by
  intro X hP hw hK hc i pins s σ H E I hf st hg
  subst hP hw hK
  obtain⟨xs,x,hq,hx⟩:=hg
  obtain⟨its,rv,p,hz⟩:=I.list hq
  obtain⟨u,hu,ru⟩:=rv.get hx
  obtain⟨f0,f1,f2,f3,f4,f5⟩:=hf it (by simp)
  refine wpAny_pyNext_list_item st p.isList (x:=u) (by simpa using hu) fun h' st' sb=>?_
  have I1:Inv X pins σ H { s with heap:=h' }:=I.turned (t':=s.toks) (fun b o hb e=>(sb.2 b hb).trans e) f0 f1 f3 f4 f5
  obtain⟨o,e,c,d⟩:=id st'
  exact⟨u,rfl,go_of (s:={ s with heap:=h' }) e c d (by decide) ⟨x,H,I1,ru,⟨rfl,fun ys hy=>by rw [I.list_inj hy hq];exact hx⟩,st',fun b hb=>(hf b hb).1⟩⟩
 done:=by
  intro X hP hw hK hc i pins s σ H E I hf st hg
  subst hP hw hK
  obtain⟨xs,hq,hx⟩:=hg
  obtain⟨its,rv,p,hz⟩:=I.list hq
  obtain⟨f0,f1,f2,f3,f4,f5⟩:=hf it (by simp)
  have hl:=rv.length
  exact wpAny_pyNext_list_end (I.ok.hd hc) st p.isList (by simp;omega) fun h' eb=>⟨rfl,I.turned (t':=s.toks) (fun b o hb e=>eb b o hb e) f0 f1 f3 f4 f5⟩
 self:=fun _ _ _ _ _ st h=>wpAny_pyIter_listiter st h
theorem turn_tuple{P:Program}{w:World}{K:PySem.W.Frag}{tg:Expr}(a it:Addr):Turn P w K tg (Itt K a) [it] it (fun i h=>h.IsTupleIter it a i) where
 mem:=by simp
 obj:=fun i h st b hb=>by
  have e:b=it:=by simpa using hb
  subst e
  obtain⟨o,e,c,d⟩:=st
  exact⟨o,e,fun v z=>by rw [d] at z;cases z⟩
 keep:=fun i h h' st k=>st.at fun o e=>k it (by simp) o e
 item:=by
  intro X hP hw hK hc i pins s σ H E I hf st hg
  subst hP hw hK
  obtain⟨xs,x,hq,hx⟩:=hg
  obtain⟨its,rv,p,hz⟩:=I.tuple hq
  obtain⟨u,hu,ru⟩:=rv.get hx
  obtain⟨f0,f1,f2,f3,f4,f5⟩:=hf it (by simp)
  refine wpAny_pyNext_tuple_item st (show s.heap.IsTuple a its.toArray from p) (x:=u) (by simpa using hu) fun h' st' sb=>?_
  have I1:Inv X pins σ H { s with heap:=h' }:=I.turned (t':=s.toks) (fun b o hb e=>(sb.2 b hb).trans e) f0 f1 f3 f4 f5
  obtain⟨o,e,c,d⟩:=id st'
  exact⟨u,rfl,go_of (s:={ s with heap:=h' }) e c d (by decide) ⟨x,H,I1,ru,⟨rfl,fun ys hy=>by rw [I.tuple_inj hy hq];exact hx⟩,st',fun b hb=>(hf b hb).1⟩⟩
 done:=by
  intro X hP hw hK hc i pins s σ H E I hf st hg
  subst hP hw hK
  obtain⟨xs,hq,hx⟩:=hg
  obtain⟨its,rv,p,hz⟩:=I.tuple hq
  obtain⟨f0,f1,f2,f3,f4,f5⟩:=hf it (by simp)
  have hl:=rv.length
  exact wpAny_pyNext_tuple_end (I.ok.hd hc) st (show s.heap.IsTuple a its.toArray from p) (by simp;omega) fun h' eb=>⟨rfl,I.turned (t':=s.toks) (fun b o hb e=>eb b o hb e) f0 f1 f3 f4 f5⟩
 self:=fun _ _ _ _ _ st h=>wpAny_pyIter_tupleiter st h
theorem turn_range{P:Program}{w:World}{K:PySem.W.Frag}{tg:Expr}(it:Addr)(lo:Int)(n:Nat):Turn P w K tg (Itr lo n) [it] it (fun i h=>IsRangeIter h it (lo+(i:Nat)*1) ((n:Int) - (i:Nat)) 1) where
 mem:=by simp
 obj:=fun i h st b hb=>by
  have e:b=it:=by simpa using hb
  subst e
  exact⟨_,st,fun v z=>by
   have z':Data.fields _=Data.cell v:=z
   cases z'⟩
 keep:=fun i h h' st k=>k it (by simp) _ st
 item:=by
  intro X hP hw hK hc i pins s σ H E I hf st hg
  subst hP hw hK
  obtain⟨f0,f1,f2,f3,f4,f5⟩:=hf it (by simp)
  have W:=Walks.range (prog:=X.prog) (w:=X.w) (I.ok.hd hc) it lo 1 n
  refine W.item i s _ _ hg st fun v h' tk hv st' kk=>?_
  obtain⟨t,rfl⟩:=hv
  have I1:Inv X pins σ H { s with heap:=h',toks:=tk }:=I.turned (fun b o hb e=>kk b o (by simpa using hb) e) f0 f1 f3 f4 f5
  refine⟨_,rfl,go_of (s:={ s with heap:=h',toks:=tk }) (n:="range_iterator") st' rfl rfl (by decide) ⟨.int (lo+i),H,I1,⟨t,?_⟩,⟨rfl,rfl⟩,st',fun b hb=>(hf b hb).1⟩⟩
  rw [Int.mul_one]
 done:=by
  intro X hP hw hK hc i pins s σ H E I hf st hg
  subst hP hw hK
  obtain⟨f0,f1,f2,f3,f4,f5⟩:=hf it (by simp)
  exact wpAny_pyNext_range_end (I.ok.hd hc) st (by have:n≤i:=hg;omega) fun h' eb=>⟨rfl,I.turned (t':=s.toks) (fun b o hb e=>eb b o hb e) f0 f1 f3 f4 f5⟩
 self:=fun _ _ _ _ _ st h=>wpAny_pyIter_rangeiter st h
end L2
namespace L2
open PySem PySem.Spec PyProof.Rows
section
variable{X:Cx}{tg:Expr}
def iList(K:PySem.W.Frag)(tl:TE):TI:=fun σ H R=>tl σ H fun x H1=>∃a,x=.ref a∧(∃xs,SqL K H1 a xs)∧R (Itl K a) H1
def iTup(K:PySem.W.Frag)(tl:TE):TI:=fun σ H R=>tl σ H fun x H1=>∃a,x=.ref a∧(∃xs,SqT K H1 a xs)∧R (Itt K a) H1
theorem pi_list{l:Expr}{tl:TE}(hl:PE X l tl):PI X tg l (iList X.K tl):=by
 intro pins s σ H R I h
 refine thn (hl pins s σ H _ I h) fun v s1 ⟨x,H1,I1,r1,q1⟩=>?_
 obtain⟨a,e,⟨xs,hq⟩,q⟩:=q1
 subst e
 cases r1
 obtain⟨its,rv,p,hz⟩:=I1.list hq
 refine wpAny_pyIter_list p.isList ?_
 refine⟨s1.heap.objs.size,[s1.heap.objs.size],_,_,H1,rfl,I1.kept (t':=s1.toks) fun b o e=>Heap.get?_push_of_some _ e,turn_list a _,⟨_,Heap.get?_push_size _ rfl,rfl,rfl⟩,fun b hb=>?_,q⟩
 have e:b=s1.heap.objs.size:=by simpa using hb
 subst e
 exact I1.fpOk (Nat.le_refl _) (I1.hok.fresh (Nat.le_refl _))
theorem pi_tup{l:Expr}{tl:TE}(hl:PE X l tl):PI X tg l (iTup X.K tl):=by
 intro pins s σ H R I h
 refine thn (hl pins s σ H _ I h) fun v s1 ⟨x,H1,I1,r1,q1⟩=>?_
 obtain⟨a,e,⟨xs,hq⟩,q⟩:=q1
 subst e
 cases r1
 obtain⟨its,rv,p,hz⟩:=I1.tuple hq
 refine wpAny_pyIter_tuple (show s1.heap.IsTuple a its.toArray from p) ?_
 refine⟨s1.heap.objs.size,[s1.heap.objs.size],_,_,H1,rfl,I1.kept (t':=s1.toks) fun b o e=>Heap.get?_push_of_some _ e,turn_tuple a _,⟨_,Heap.get?_push_size _ rfl,rfl,rfl⟩,fun b hb=>?_,q⟩
 have e:b=s1.heap.objs.size:=by simpa using hb
 subst e
 exact I1.fpOk (Nat.le_refl _) (I1.hok.fresh (Nat.le_refl _))
theorem range_it{pins:List (Addr × Obj)}{σ:St}{H:Hp}{s:Shared}{R:It→Hp→Prop}{E:Value→Shared→Prop}{lo hi:Int}{t u v:Tok}{tk:Nat}(I:Inv X pins σ H s)(h1:-(2 ^ 62)≤lo)(h2:lo < 2 ^ 62)(h3:-(2 ^ 62)≤hi)(h4:hi < 2 ^ 62)
  (q:R (Itr lo (hi - lo).toNat) H):wpAny (model X.prog X.w) X.A (pyIter (.ref s.heap.objs.size)) (PIE X pins σ tg R) E { s with heap:=s.heap.push { cls:=.type "range",data:=.fields #[.int lo t,.int hi u,.int 1 v] },toks:=tk }:=by
 refine wpAny_pyIter_range (IsRange.new ..) (small_one h1 h2 h3 h4) ?_
 have I1:Inv X pins σ H { s with heap:=s.heap.push { cls:=.type "range",data:=.fields #[.int lo t,.int hi u,.int 1 v] },toks:=tk }:=I.kept fun b o e=>Heap.get?_push_of_some _ e
 refine⟨(s.heap.push { cls:=.type "range",data:=.fields #[.int lo t,.int hi u,.int 1 v] }).objs.size,[(s.heap.push { cls:=.type "range",data:=.fields #[.int lo t,.int hi u,.int 1 v] }).objs.size],_,_,H,rfl,
  I1.kept (t':=tk) fun b o e=>Heap.get?_push_of_some _ e,turn_range _ lo (hi - lo).toNat,?_,fun b hb=>?_,q⟩
 ·have e1:lo+((0:Nat):Int)*1=lo:=by simp
  have e2:(((hi - lo).toNat:Nat):Int) - ((0:Nat):Int)=Builtin.Range.rangeSize lo hi 1:=by rw [rangeSize_one];split<;>omega
  show IsRangeIter _ _ (lo+((0:Nat):Int)*1) ((((hi - lo).toNat:Nat):Int) - ((0:Nat):Int)) 1
  rw [e1,e2]
  exact Heap.get?_push_size _ rfl
 ·have e:b=(s.heap.push { cls:=.type "range",data:=.fields #[.int lo t,.int hi u,.int 1 v] }).objs.size:=by simpa using hb
  subst e
  exact I1.fpOk (Nat.le_refl _) (I1.hok.fresh (Nat.le_refl _))
def iRng1(ta:TA):TI:=fun σ H R=>ta σ H fun vs H1=>∃j:Int,vs=[.int j]∧-(2 ^ 62)≤j∧j < 2 ^ 62∧R (Itr 0 j.toNat) H1
theorem pi_range1{a:Expr}{ta:TA}{p pos:Pos} (hg:Gl X "range") (hm:X.mg "range"=none) (ha:PA X [a] ta) (hs:starEach [a] X.env=[(false,eval a X.env)]:=by rfl):PI X tg (.Call (.Name "range" p) [a] [] pos) (iRng1 ta):=by
 intro pins s σ H R I h
 refine Call_ (ld_blt I hg hm boot_range (PyProof.Rows.callWith_type1 (thn (ha pos pins s σ H _ I h) fun us s1 ⟨vs,H1,I1,r1,q1⟩=>?_) hs rfl))
 obtain⟨j,e,q1,q2,q⟩:=q1
 subst e
 cases r1 with
 |cons r rr =>
  cases rr
  obtain⟨t,rfl⟩:=r
  exact call_range_1 (range_it I1 (by omega) (by omega) q1 q2 (by simpa using q))
def tFor(wi:TI)(g:TG)(tb:TS):TS:=fun D σ H=>wi σ H fun J H1=>∃W:Nat→Nat→St→Hp→Prop,(∃m,W 0 m σ H1)∧∀i m σ H,W i m σ H →
 (J.stop i H∧D.nx σ H)∨(J.go i H∧∃N:St→Hp→Prop,(∀σ' H',N σ' H'→∃m',m' < m∧W (i+1) m' σ' H')∧∀x H',J.yld i H x H'→g x σ H' fun σ2 H2=>tb { D with nx:=N,ct:=N,bk:=D.nx } σ2 H2)
def pinsAt(fp:List Addr)(h:Heap):List (Addr × Obj):=fp.filterMap fun b=>(h.get? b).map fun o=>(b,o)
theorem mem_pinsAt{fp:List Addr}{h:Heap}{b:Addr}{o:Obj}(hb:b∈fp)(e:h.get? b=some o):(b,o)∈pinsAt fp h:=List.mem_filterMap.mpr ⟨b,hb,by rw [e];rfl⟩
theorem of_pinsAt{fp:List Addr}{h:Heap}{p:Addr × Obj}(hp:p∈pinsAt fp h):p.1∈fp∧h.get? p.1=some p.2:=by
 obtain⟨b,hb,e⟩:=List.mem_filterMap.mp hp
 cases q:h.get? b with
 |none=>rw [q] at e;cases e
 |some o =>
  rw [q] at e
  have e':(b,o)=p:=Option.some.inj e
  subst e'
  exact⟨hb,q⟩
theorem Inv.pinned{pins:List (Addr × Obj)}{σ:St}{H:Hp}{s:Shared}{fp:List Addr}(I:Inv X pins σ H s)(hf:∀b∈fp,FpOk X pins H b)(ho:∀b∈fp,∃o,s.heap.get? b=some o∧∀v,o.data≠.cell v):Inv X (pins++pinsAt fp s.heap) σ H s :=
 I.pins_of fun p hp=>(List.mem_append.mp hp).elim (fun z=>I.pin p (List.mem_append_right _ z)) fun z=>by
  obtain⟨hb,e⟩:=of_pinsAt z
  obtain⟨f0,f1,f2,_⟩:=hf p.1 hb
  obtain⟨o,e',d⟩:=ho p.1 hb
  rw [e] at e';cases e'
  exact⟨e,f0,f1,f2,d⟩
theorem Inv.unpinned{pins pl:List (Addr × Obj)}{σ:St}{H:Hp}{s:Shared}(I:Inv X (pins++pl) σ H s):Inv X pins σ H s:=I.pins_of fun p hp=>I.pin p (List.mem_append_right _ (List.mem_append_left _ hp))
theorem ps_for{iter:Expr}{body:List Stmt}{wi:TI}{g:TG}{tb:TS}{pos:Pos}(hp:PassesOwn (model X.prog X.w) X.A X.env X.xe)(hc:X.calm=true)(hi:PI X tg iter wi)(hg:PG X tg g)(hb:PSs X body tb)
  (hs:∀x,foldedSetIterable iter X.env x=pure x:=by intro _;rfl):PS X (.For tg iter body [] pos) (tFor wi g tb):=by
 intro pins s σ H D I h
 refine wpAny_For (thn (hi pins s σ H _ I h) fun v s1 h1=>thn h1 fun itv s2 h2=>?_) hs
 obtain⟨it,fp,tn,J,H2,e,I2,T,st2,f2,W,⟨m0,w0⟩,turn⟩:=h2
 subst e
 have stat:∀{H':Hp},(∀b∈fp,H' b=none)→∀b∈fp,FpOk X pins H' b:=fun hn b hb=>⟨hn b hb,(f2 b hb).2⟩
 refine codeAny_forLoop_any (fun n s'=>∃i σ' H',Inv X pins σ' H' s'∧tn i s'.heap∧(∀b∈fp,H' b=none)∧W i n σ' H') ?_ m0 ⟨0,σ,H2,I2,st2,fun b hb=>(f2 b hb).1,w0⟩
 rintro n s3 ⟨i,σ3,H3,I3,st3,fr3,w3⟩
 rcases turn i n σ3 H3 w3 with ⟨stop,qn⟩|⟨go,N,hN,step⟩
 ·refine wpAny_passesOwn hp (thn (T.done X rfl rfl rfl hc i pins s3 σ3 H3 X.xe I3 (stat fr3) st3 stop) fun r s4 ⟨hr,I4⟩=>?_)
  subst hr
  exact wpAny_execs_nil ⟨σ3,H3,I4,qn⟩
 ·refine wpAny_passesOwn hp (thn (T.item X rfl rfl rfl hc i pins s3 σ3 H3 X.xe I3 (stat fr3) st3 go) fun r s4 ⟨u,hr,h4⟩=>?_)
  subst hr
  refine wpAny_passesOwn hp (thn h4 fun _ s5 ⟨x,H5,I5,r5,y5,st5,fr5⟩=>?_)
  have I5':=I5.pinned (stat fr5) (T.obj _ _ st5)
  refine wpAny_passesOwn hp (thn (hg _ s5 σ3 H5 x u _ I5' r5 (step x H5 y5)) fun _ s6 ⟨σ6,H6,I6,q6⟩=>?_)
  refine wpAny_passesOwn hp (thn (hb _ s6 σ6 H6 _ I6 q6) fun f s7 q7=>?_)
  have again:∀{σ7:St} {H7:Hp},Inv X (pins++pinsAt fp s5.heap) σ7 H7 s7→N σ7 H7→∃m,m < n∧∃i σ' H',Inv X pins σ' H' s7∧tn i s7.heap∧(∀b∈fp,H' b=none)∧W i m σ' H':=fun {σ7 H7} I7 n7=>by
   obtain⟨m',hm,w7⟩:=hN σ7 H7 n7
   refine⟨m',hm,i+1,σ7,H7,I7.unpinned,T.keep _ _ _ st5 fun b hb o e=>(I7.pin (b,o) (List.mem_append_right _ (List.mem_append_right _ (mem_pinsAt hb e)))).1,fun b hb=>?_,w7⟩
   obtain⟨o,e,d⟩:=T.obj _ _ st5 b hb
   exact(I7.pin (b,o) (List.mem_append_right _ (List.mem_append_right _ (mem_pinsAt hb e)))).2.1
  cases f with
  |next=>obtain⟨σ7,H7,I7,n7⟩:=q7;exact again I7 n7
  |cont=>obtain⟨σ7,H7,I7,n7⟩:=q7;exact again I7 n7
  |brk=>obtain⟨σ7,H7,I7,q7⟩:=q7;exact⟨σ7,H7,I7.unpinned,q7⟩
  |ret v=>obtain⟨x7,σ7,H7,I7,r7,q7⟩:=q7;exact⟨x7,σ7,H7,I7.unpinned,r7,q7⟩
end
theorem for_list{K:PySem.W.Frag}{a:Addr}{xs:List V}{g:TG}{tb:TS}{D:Ends}{σ:St}{H:Hp}(Pv:Nat→St→Hp→Prop)(h0:Pv 0 σ H)(hl:∀i σ H,i≤xs.length→Pv i σ H→SqL K H a xs)
  (hs:∀i x σ H,xs[i]?=some x→Pv i σ H→g x σ H fun σ2 H2=>tb { D with nx:=Pv (i+1),ct:=Pv (i+1),bk:=D.nx } σ2 H2) (hd:∀σ H,Pv xs.length σ H→D.nx σ H) :
  ∃W:Nat→Nat→St→Hp→Prop,(∃m,W 0 m σ H)∧∀i m σ H,W i m σ H →
   ((Itl K a).stop i H∧D.nx σ H)∨((Itl K a).go i H∧∃N:St→Hp→Prop,(∀σ' H',N σ' H'→∃m',m' < m∧W (i+1) m' σ' H')∧∀x H',(Itl K a).yld i H x H'→g x σ H' fun σ2 H2=>tb { D with nx:=N,ct:=N,bk:=D.nx } σ2 H2):=by
 refine⟨fun i m σ H=>m=xs.length - i∧i≤xs.length∧Pv i σ H,⟨xs.length,by simp,Nat.zero_le _,h0⟩,?_⟩
 rintro i m σ H ⟨rfl,hi,p⟩
 have q:=hl i σ H hi p
 by_cases hlt:i < xs.length
 ·refine .inr ⟨⟨xs,xs[i],q,by simp [hlt]⟩,Pv (i+1),fun σ' H' p'=>⟨xs.length - (i+1),by omega,rfl,hlt,p'⟩,fun x H' y=>?_⟩
  obtain⟨e,y⟩:=y
  subst e
  exact hs i x σ _ (y xs q) p
 ·have e:i=xs.length:=by omega
  subst e
  exact .inl ⟨⟨xs,q,Nat.le_refl _⟩,hd σ H p⟩
theorem for_tup{K:PySem.W.Frag}{a:Addr}{xs:List V}{g:TG}{tb:TS}{D:Ends}{σ:St}{H:Hp}(Pv:Nat→St→Hp→Prop)(h0:Pv 0 σ H)(hl:∀i σ H,i≤xs.length→Pv i σ H→SqT K H a xs)
  (hs:∀i x σ H,xs[i]?=some x→Pv i σ H→g x σ H fun σ2 H2=>tb { D with nx:=Pv (i+1),ct:=Pv (i+1),bk:=D.nx } σ2 H2) (hd:∀σ H,Pv xs.length σ H→D.nx σ H) :
  ∃W:Nat→Nat→St→Hp→Prop,(∃m,W 0 m σ H)∧∀i m σ H,W i m σ H →
   ((Itt K a).stop i H∧D.nx σ H)∨((Itt K a).go i H∧∃N:St→Hp→Prop,(∀σ' H',N σ' H'→∃m',m' < m∧W (i+1) m' σ' H')∧∀x H',(Itt K a).yld i H x H'→g x σ H' fun σ2 H2=>tb { D with nx:=N,ct:=N,bk:=D.nx } σ2 H2):=by
 refine⟨fun i m σ H=>m=xs.length - i∧i≤xs.length∧Pv i σ H,⟨xs.length,by simp,Nat.zero_le _,h0⟩,?_⟩
 rintro i m σ H ⟨rfl,hi,p⟩
 have q:=hl i σ H hi p
 by_cases hlt:i < xs.length
 ·refine .inr ⟨⟨xs,xs[i],q,by simp [hlt]⟩,Pv (i+1),fun σ' H' p'=>⟨xs.length - (i+1),by omega,rfl,hlt,p'⟩,fun x H' y=>?_⟩
  obtain⟨e,y⟩:=y
  subst e
  exact hs i x σ _ (y xs q) p
 ·have e:i=xs.length:=by omega
  subst e
  exact .inl ⟨⟨xs,q,Nat.le_refl _⟩,hd σ H p⟩
theorem for_range{lo:Int}{n:Nat}{g:TG}{tb:TS}{D:Ends}{σ:St}{H:Hp}(Pv:Nat→St→Hp→Prop)(h0:Pv 0 σ H)
  (hs:∀i σ H,i < n→Pv i σ H→g (.int (lo+i)) σ H fun σ2 H2=>tb { D with nx:=Pv (i+1),ct:=Pv (i+1),bk:=D.nx } σ2 H2) (hd:∀σ H,Pv n σ H→D.nx σ H) :
  ∃W:Nat→Nat→St→Hp→Prop,(∃m,W 0 m σ H)∧∀i m σ H,W i m σ H →
   ((Itr lo n).stop i H∧D.nx σ H)∨((Itr lo n).go i H∧∃N:St→Hp→Prop,(∀σ' H',N σ' H'→∃m',m' < m∧W (i+1) m' σ' H')∧∀x H',(Itr lo n).yld i H x H'→g x σ H' fun σ2 H2=>tb { D with nx:=N,ct:=N,bk:=D.nx } σ2 H2):=by
 refine⟨fun i m σ H=>m=n - i∧i≤n∧Pv i σ H,⟨n,by simp,Nat.zero_le _,h0⟩,?_⟩
 rintro i m σ H ⟨rfl,hi,p⟩
 by_cases hlt:i < n
 ·refine .inr ⟨hlt,Pv (i+1),fun σ' H' p'=>⟨n - (i+1),by omega,rfl,hlt,p'⟩,fun x H' y=>?_⟩
  obtain⟨e,y⟩:=y
  subst e y
  exact hs i σ _ hlt p
 ·have e:i=n:=by omega
  subst e
  exact .inl ⟨Nat.le_refl _,hd σ H p⟩
theorem while_by{c:TT}{tb:TS}{D:Ends}{σ:St}{H:Hp}(Pv:St→Hp→Prop)(μ:St→Hp→Nat)(h0:Pv σ H)
  (hs:∀σ H,Pv σ H→c σ H fun b H1=>if b=true then tb { D with nx:=fun σ' H'=>Pv σ' H'∧μ σ' H' < μ σ H,ct:=fun σ' H'=>Pv σ' H'∧μ σ' H' < μ σ H,bk:=D.nx } σ H1 else D.nx σ H1)
  (mono:∀σ H Q Q',(∀b H1,Q b H1→Q' b H1)→c σ H Q→c σ H Q'):tWhile c tb D σ H:=by
 refine⟨fun m σ H=>m=μ σ H∧Pv σ H,⟨_,rfl,h0⟩,?_⟩
 rintro m σ H ⟨rfl,p⟩
 refine mono σ H _ _ (fun b H1 q=>?_) (hs σ H p)
 cases b with
 |true=>exact⟨_,fun σ' H' ⟨p',l⟩=>⟨_,l,rfl,p'⟩,q⟩
 |false=>exact q
end L2
namespace L2
open PySem PySem.Spec PyProof.Rows
abbrev R2:=V→V→Hp→VK→Prop
def OpR(X:Cx)(f:Value→Value→Sem Value)(r:R2):Prop :=
 ∀(pins:List (Addr × Obj)) (s:Shared) (σ:St) (H:Hp) (x y:V) (v u:Value) (Q:VK),Inv X pins σ H s→RelV x v→RelV y u→r x y H Q →
  wpAny (model X.prog X.w) X.A (f v u) (EP X pins σ Q) X.xe s
def CallR(X:Cx)(f:Value)(r:List V→Hp→VK→Prop):Prop :=
 ∀(pins:List (Addr × Obj)) (s:Shared) (σ:St) (H:Hp) (xs:List V) (us:List Value) (Q:VK),Inv X pins σ H s→Vals xs us→r xs H Q →
  wpAny (model X.prog X.w) X.A (call f us) (EP X pins σ Q) X.xe s
def tOp(r:R2)(ta tb:TE):TE:=fun σ H Q=>ta σ H fun x H1=>tb σ H1 fun y H2=>r x y H2 Q
inductive Wd (C:Int→Int→Prop) (g:Int→Int→V) (x y:V) (H:Hp) (Q:VK):Prop
 |mk (i j:Int) (a:x=.int i) (b:y=.int j) (c:C i j) (q:Q (g i j) H)
def rI(C:Int→Int→Prop)(g:Int→Int→V):R2:=fun x y H Q=>Wd C g x y H Q
inductive We (g:Int→Int→V) (x y:V) (H:Hp) (Q:VK):Prop
 |mk (i j:Int) (a:x=.int i) (b:y=.int j) (q:Q (g i j) H)
def rI0(g:Int→Int→V):R2:=fun x y H Q=>We g x y H Q
section
variable{X:Cx}{a b c:Expr}{ta tb tc:TE}{pos:Pos}
theorem binT(ha:PE X a ta)(hb:PE X b tb){pins:List (Addr × Obj)}{s:Shared}{σ:St}{H:Hp}{R:V→V→Hp→Prop}(I:Inv X pins σ H s)
  (h:ta σ H fun x H1=>tb σ H1 fun y H2=>R x y H2) {Q:Value→Shared→Prop} {f:Value→Value→Sem Value}
  (hf:∀v u s2 x y H2,Inv X pins σ H2 s2→RelV x v→RelV y u→R x y H2→wpAny (model X.prog X.w) X.A (f v u) Q X.xe s2) :
  wpAny (model X.prog X.w) X.A (eval a X.env) (fun v s₁=>wpAny (model X.prog X.w) X.A (eval b X.env) (fun u s₂=>wpAny (model X.prog X.w) X.A (f v u) Q X.xe s₂) X.xe s₁) X.xe s:=by
 refine thn (ha pins s σ H _ I h) fun v s1 ⟨x,H1,I1,r1,q1⟩=>?_
 refine thn (hb pins s1 σ H1 _ I1 q1) fun u s2 ⟨y,H2,I2,r2,q2⟩=>?_
 exact hf v u s2 x y H2 I2 r1 r2 q2
theorem pe_op{op:Operator}{r:R2}(ho:OpR X (binaryOp op) r)(ha:PE X a ta)(hb:PE X b tb):PE X (.BinOp a op b pos) (tOp r ta tb):=by
 intro pins s σ H Q I h
 exact wpAny_BinOp (binT ha hb I h fun v u s2 x y H2 I2 rx ry q=>ho pins s2 σ H2 x y v u Q I2 rx ry q)
theorem opI{f:Value→Value→Sem Value}{C:Int→Int→Prop}{g:Int→Int→Int}
  (rule:∀(i j:Int) (t u:Tok) (s:Shared) (Q:Value→Shared→Prop) (E:Value→Shared→Prop),C i j→Q (.int (g i j) s.toks) { s with toks:=s.toks+1 }→wpAny (model X.prog X.w) X.A (f (.int i t) (.int j u)) Q E s) :
  OpR X f (rI C fun i j=>.int (g i j)):=by
 intro pins s σ H x y v u Q I rx ry h
 obtain⟨i,j,rfl,rfl,hc,q⟩:=h
 obtain⟨t,rfl⟩:=rx
 obtain⟨t',rfl⟩:=ry
 exact rule i j t t' s _ _ hc ⟨.int (g i j),H,I.tok _,⟨_,rfl⟩,q⟩
theorem opI0{f:Value→Value→Sem Value}{g:Int→Int→Int}
  (rule:∀(i j:Int) (t u:Tok) (s:Shared) (Q:Value→Shared→Prop) (E:Value→Shared→Prop),Q (.int (g i j) s.toks) { s with toks:=s.toks+1 }→wpAny (model X.prog X.w) X.A (f (.int i t) (.int j u)) Q E s) :
  OpR X f (rI0 fun i j=>.int (g i j)):=by
 intro pins s σ H x y v u Q I rx ry h
 obtain⟨i,j,rfl,rfl,q⟩:=h
 obtain⟨t,rfl⟩:=rx
 obtain⟨t',rfl⟩:=ry
 exact rule i j t t' s _ _ ⟨.int (g i j),H,I.tok _,⟨_,rfl⟩,q⟩
theorem opB0{f:Value→Value→Sem Value}{g:Int→Int→Bool}
  (rule:∀(i j:Int) (t u:Tok) (s:Shared) (Q:Value→Shared→Prop) (E:Value→Shared→Prop),Q (.bool (g i j)) s→wpAny (model X.prog X.w) X.A (f (.int i t) (.int j u)) Q E s) :
  OpR X f (rI0 fun i j=>.bl (g i j)):=by
 intro pins s σ H x y v u Q I rx ry h
 obtain⟨i,j,rfl,rfl,q⟩:=h
 obtain⟨t,rfl⟩:=rx
 obtain⟨t',rfl⟩:=ry
 exact rule i j t t' s _ _ ⟨.bl (g i j),H,I,rfl,q⟩
def CDiv(i j:Int):Prop:=0 < j∧j < 1073741824
def CPow(i j:Int):Prop:=0≤j∧j≤1000000∧i.natAbs < 2 ^ 64
def CMul(i j:Int):Prop:=(-(2 ^ 64) < i∧i < 2 ^ 64)∨(-(2 ^ 64) < j∧j < 2 ^ 64)
theorem CMul.ok{i j:Int}(h:CMul i j):IntMulOk i j:=by
 rcases h with ⟨h1,h2⟩|⟨h1,h2⟩
 ·exact .of_left (intBits_le_64 h1 h2)
 ·exact .of_right (intBits_le_64 h1 h2)
theorem op_add:OpR X (binaryOp .Add) (rI0 fun i j=>.int (i+j)):=opI0 fun _ _ _ _ _ _ _ q=>add_int q
theorem op_sub:OpR X (binaryOp .Sub) (rI0 fun i j=>.int (i - j)):=opI0 fun _ _ _ _ _ _ _ q=>sub_int q
theorem op_mul:OpR X (binaryOp .Mult) (rI CMul fun i j=>.int (i*j)):=opI fun _ _ _ _ _ _ _ hc q=>mul_int q hc.ok
theorem op_fdiv:OpR X (binaryOp .FloorDiv) (rI CDiv fun i j=>.int (i / j)):=opI fun i j _ _ _ _ _ hc q=>by
 have h1:(0:Int) < j:=hc.1
 have h2:j < 1073741824:=hc.2
 exact floordiv_int (by omega) (by rw [Int.fdiv_eq_ediv_of_nonneg i (by omega)];exact q) (.inl (PyProof.noPylong_small (by omega)))
theorem op_mod:OpR X (binaryOp .Mod) (rI (fun _ j=>0 < j) fun i j=>.int (i%j)):=opI fun i j _ _ _ _ _ hc q=>by
 have h1:(0:Int) < j:=hc
 exact mod_int' (by omega) (by rw [Int.fmod_eq_emod_of_nonneg i (by omega)];exact q)
theorem op_pow:OpR X (binaryOp .Pow) (rI CPow fun i j=>.int (i ^ j.toNat)):=opI fun _ _ _ _ _ _ _ hc q=>pow_int_small hc.1 hc.2.1 hc.2.2 q
end
def scal:V→V→Bool
 |.non,.non=>true|.non,.int _=>true|.int _,.non=>true|.non,.bl _=>true|.bl _,.non=>true|.non,.str _=>true|.str _,.non=>true
 |.int _,.int _=>true|.bl _,.bl _=>true|.str _,.str _=>true|.byt _,.byt _=>true
 |.int _,.str _=>true|.str _,.int _=>true|.bl _,.str _=>true|.str _,.bl _=>true
 |_,_=>false
def rEq:R2:=fun x y H Q=>scal x y=true∧Q (.bl (decide (x=y))) H
def rNe:R2:=fun x y H Q=>scal x y=true∧Q (.bl (!decide (x=y))) H
theorem dec_int{i j:Int}:decide (V.int i=V.int j)=(i==j):=by
 rw [Bool.eq_iff_iff]
 simp
theorem dec_bl{i j:Bool}:decide (V.bl i=V.bl j)=(i==j):=by
 rw [Bool.eq_iff_iff]
 simp
theorem dec_str{i j:Str}:decide (V.str i=V.str j)=(i==j):=by
 rw [Bool.eq_iff_iff]
 simp
theorem dec_byt{i j:Array UInt8}:decide (V.byt i=V.byt j)=(i.toList==j.toList):=by
 rw [Bool.eq_iff_iff]
 cases i
 cases j
 simp
section
variable{X:Cx}{a b c:Expr}{ta tb tc:TE}{pos:Pos}
theorem fin_bl{pins:List (Addr × Obj)}{σ:St}{H:Hp}{s:Shared}{Q:VK}{k k':Bool}(I:Inv X pins σ H s)(q:Q (.bl k) H)(e:k=k'):EP X pins σ Q (.bool k') s:=by
 subst e
 exact⟨.bl k,H,I,rfl,q⟩
theorem op_eq:OpR X (compareOp .Eq) rEq:=by
 intro pins s σ H x y v u Q I rx ry h
 obtain⟨hs,q⟩:=h
 cases x with
 |non =>
  cases rx
  cases y with
  |non=>cases ry;exact PySem.EqNone.eq_none_none (fin_bl I q (by simp))
  |bl j=>cases ry;exact PySem.EqNone.eq_none_bool (fin_bl I q (by simp))
  |int j=>obtain⟨t',rfl⟩:=ry;exact PySem.EqNone.eq_none_int (fin_bl I q (by simp))
  |str j=>obtain⟨t',rfl⟩:=ry;exact PySem.EqNone.eq_none_str (fin_bl I q (by simp))
  |_=>exact absurd (show false=true from hs) Bool.false_ne_true
 |bl i =>
  cases rx
  cases y with
  |non=>cases ry;exact PySem.EqNone.eq_bool_none (fin_bl I q (by simp))
  |bl j=>cases ry;exact eq_bool (fin_bl I q dec_bl)
  |str j=>obtain⟨t',rfl⟩:=ry;exact PySem.EqMixed.eq_bool_str (fin_bl I q (by simp))
  |_=>exact absurd (show false=true from hs) Bool.false_ne_true
 |int i =>
  obtain⟨t,rfl⟩:=rx
  cases y with
  |non=>cases ry;exact PySem.EqNone.eq_int_none (fin_bl I q (by simp))
  |int j=>obtain⟨t',rfl⟩:=ry;exact eq_int (fin_bl I q dec_int)
  |str j=>obtain⟨t',rfl⟩:=ry;exact PySem.EqMixed.eq_int_str (fin_bl I q (by simp))
  |_=>exact absurd (show false=true from hs) Bool.false_ne_true
 |str i =>
  obtain⟨t,rfl⟩:=rx
  cases y with
  |non=>cases ry;exact PySem.EqNone.eq_str_none (fin_bl I q (by simp))
  |bl j=>cases ry;exact PySem.EqMixed.eq_str_bool (fin_bl I q (by simp))
  |int j=>obtain⟨t',rfl⟩:=ry;exact PySem.EqMixed.eq_str_int (fin_bl I q (by simp))
  |str j=>obtain⟨t',rfl⟩:=ry;exact eq_str (fin_bl I q dec_str)
  |_=>exact absurd (show false=true from hs) Bool.false_ne_true
 |byt i =>
  obtain⟨t,rfl⟩:=rx
  cases y with
  |byt j=>obtain⟨t',rfl⟩:=ry;exact PySem.W.eq_bytes (fin_bl I q dec_byt)
  |_=>exact absurd (show false=true from hs) Bool.false_ne_true
 |_=>cases y<;>exact absurd (show false=true from hs) Bool.false_ne_true
theorem op_ne:OpR X (compareOp .NotEq) rNe:=by
 intro pins s σ H x y v u Q I rx ry h
 obtain⟨hs,q⟩:=h
 cases x with
 |non =>
  cases rx
  cases y with
  |non=>cases ry;exact PySem.EqNone.ne_none_none (fin_bl I q (by simp))
  |bl j=>cases ry;exact PySem.EqNone.ne_none_bool (fin_bl I q (by simp))
  |int j=>obtain⟨t',rfl⟩:=ry;exact PySem.EqNone.ne_none_int (fin_bl I q (by simp))
  |str j=>obtain⟨t',rfl⟩:=ry;exact PySem.EqNone.ne_none_str (fin_bl I q (by simp))
  |_=>exact absurd (show false=true from hs) Bool.false_ne_true
 |bl i =>
  cases rx
  cases y with
  |non=>cases ry;exact PySem.EqNone.ne_bool_none (fin_bl I q (by simp))
  |bl j=>cases ry;exact ne_bool (fin_bl I q (congrArg not dec_bl))
  |str j=>obtain⟨t',rfl⟩:=ry;exact PySem.EqMixed.ne_bool_str (fin_bl I q (by simp))
  |_=>exact absurd (show false=true from hs) Bool.false_ne_true
 |int i =>
  obtain⟨t,rfl⟩:=rx
  cases y with
  |non=>cases ry;exact PySem.EqNone.ne_int_none (fin_bl I q (by simp))
  |int j=>obtain⟨t',rfl⟩:=ry;exact ne_int (fin_bl I q (congrArg not dec_int))
  |str j=>obtain⟨t',rfl⟩:=ry;exact PySem.EqMixed.ne_int_str (fin_bl I q (by simp))
  |_=>exact absurd (show false=true from hs) Bool.false_ne_true
 |str i =>
  obtain⟨t,rfl⟩:=rx
  cases y with
  |non=>cases ry;exact PySem.EqNone.ne_str_none (fin_bl I q (by simp))
  |bl j=>cases ry;exact PySem.EqMixed.ne_str_bool (fin_bl I q (by simp))
  |int j=>obtain⟨t',rfl⟩:=ry;exact PySem.EqMixed.ne_str_int (fin_bl I q (by simp))
  |str j=>obtain⟨t',rfl⟩:=ry;exact ne_str (fin_bl I q (congrArg not dec_str))
  |_=>exact absurd (show false=true from hs) Bool.false_ne_true
 |byt i =>
  obtain⟨t,rfl⟩:=rx
  cases y with
  |byt j=>obtain⟨t',rfl⟩:=ry;exact PySem.W.ne_bytes (fin_bl I q (congrArg not dec_byt))
  |_=>exact absurd (show false=true from hs) Bool.false_ne_true
 |_=>cases y<;>exact absurd (show false=true from hs) Bool.false_ne_true
theorem op_lt:OpR X (compareOp .Lt) (rI0 fun i j=>.bl (decide (i < j))):=opB0 fun _ _ _ _ _ _ _ q=>lt_int q
theorem op_gt:OpR X (compareOp .Gt) (rI0 fun i j=>.bl (decide (j < i))):=opB0 fun _ _ _ _ _ _ _ q=>gt_int q
theorem nomark(b:Expr){op:CmpOp}(h:op≠.In:=by decide)(h2:op≠.NotIn:=by decide):behindInMarks op b=false:=by
 have e1:(op==CmpOp.In)=false:=by cases op<;>first|rfl|exact absurd rfl h
 have e2:(op==CmpOp.NotIn)=false:=by cases op<;>first|rfl|exact absurd rfl h2
 cases b<;>simp [behindInMarks,e1,e2]
theorem pe_cmpR{op:CmpOp}{r:R2}(ho:OpR X (compareOp op) r)(ha:PE X a ta)(hb:PE X b tb)(hm:behindInMarks op b=false):PE X (.Compare a [op] [b] pos) (tOp r ta tb):=by
 intro pins s σ H Q I h
 exact wpAny_Compare1 (binT ha hb I h fun v u s2 x y H2 I2 rx ry q=>ho pins s2 σ H2 x y v u Q I2 rx ry q) hm
def tTest(t:TE):TT:=fun σ H Q=>t σ H fun x H'=>Wb x H' Q
theorem pt_cmpR{op:CmpOp}{r:R2}(ho:OpR X (compareOp op) r)(ha:PE X a ta)(hb:PE X b tb)(hm:behindInMarks op b=false):PT X (.Compare a [op] [b] pos) (tTest (tOp r ta tb)):=by
 intro pins s σ H Q I h
 refine wpAny_isTrue_Compare1 (thn (ha pins s σ H _ I h) fun v s1 ⟨x,H1,I1,r1,q1⟩=>thn (hb pins s1 σ H1 _ I1 q1) fun u s2 ⟨y,H2,I2,r2,q2⟩ =>
  thn (ho pins s2 σ H2 x y v u _ I2 r1 r2 q2) fun c s3 ⟨z,H3,I3,r3,k,e,q3⟩=>?_) hm
 subst e
 cases r3
 exact wpAny_truthy_bool ⟨H3,I3,q3⟩
theorem line63:(sizeLine:Nat) < 2 ^ 63:=by rw [sizeLine_eq];decide
theorem op_add_str:OpR X (binaryOp .Add) (fun x y H Q=>∃i j,x=.str i∧y=.str j∧i.length+j.length≤sizeLine∧Q (.str (i++j)) H):=by
 intro pins s σ H x y v u Q I rx ry h
 obtain⟨i,j,rfl,rfl,hz,q⟩:=h
 obtain⟨t,rfl⟩:=rx
 obtain⟨t',rfl⟩:=ry
 exact add_str (fun t' tk=>⟨.str (i++j),H,I.tok _,⟨_,rfl⟩,q⟩) hz
theorem vals1{x:V}{us:List Value}(r:Vals [x] us):∃u,us=[u]∧RelV x u:=by
 cases r with
 |cons r1 r2=>cases r2;exact⟨_,rfl,r1⟩
theorem call_int1:CallR X (.type "int") (fun xs H Q=>(∃i,xs=[.int i]∧Q (.int i) H)∨∃k,xs=[.bl k]∧Q (.int (if k then 1 else 0)) H):=by
 intro pins s σ H xs us Q I r h
 rcases h with ⟨i,rfl,q⟩|⟨k,rfl,q⟩
 ·obtain⟨u,rfl,t,rfl⟩:=vals1 r
  exact call_int_int ⟨.int i,H,I,⟨_,rfl⟩,q⟩
 ·obtain⟨u,rfl,r1⟩:=vals1 r
  cases r1
  exact call_int_bool ⟨.int (if k then 1 else 0),H,I.tok _,⟨_,rfl⟩,q⟩
end
end L2
namespace L2
open PySem PySem.Spec PyProof.Rows
structure ObjM(h:Heap)(x dx C:Addr)(mA:Str→Option Value):Prop where
 obj:h.get? x=some (PySem.W.instObj C dx)
 ns:h.Ns1 dx mA
 ne:dx≠x
theorem lookIn_ns{h:Heap}{dx:Addr}{mA:Str→Option Value}(n:h.Ns1 dx mA):∃od,h.get? dx=some od∧∀name,PySem.W.lookIn name od=some (mA name):=by
 obtain⟨o,es,ep,ho,hd,hk,_,hm⟩:=n
 refine⟨o,ho,fun name=>?_⟩
 have e:=hm name
 unfold nsFind findBy at e
 rw [←Array.find?_toList] at e
 unfold PySem.W.lookIn
 rw [hd]
 dsimp only
 split
 ·rename_i y q
  rw [q] at e
  exact congrArg some e
 ·rename_i q
  rw [q] at e
  have a:es.toList.any (·.refKey)=false:=by
   rw [List.any_eq_false]
   intro y hy
   obtain⟨z,t,hkey⟩:=hk y (Array.mem_toList_iff.mp hy)
   simp [DictEntry.refKey,hkey]
  have a':¬es.toList.any (·.refKey)=true:=by rw [a];exact Bool.false_ne_true
  rw [if_neg a']
  exact congrArg some e
theorem ObjM.look{h:Heap}{x dx C:Addr}{mA:Str→Option Value}(I:ObjM h x dx C mA):∃od,PySem.W.InstAt h x (PySem.W.instObj C dx) C (some od)∧∀name,PySem.W.lookIn name od=some (mA name) :=
 let ⟨od,ho,hl⟩:=lookIn_ns I.ns
 ⟨od,⟨I.obj,rfl,rfl,ho⟩,hl⟩
section
variable{prog:Program}{w:World}{A:Around}{E:Value→Shared→Prop}{s:Shared}{K:PySem.W.Frag}{x dx C f:Addr}{mA:Str→Option Value}{name:Str}{v:Value}
end
theorem RelO.some_of{v:V}{o:Option Value}(r:RelO (some v) o):∃u,o=some u∧RelV v u:=by
 cases o with
 |none=>exact(show False from r).elim
 |some u=>exact⟨u,rfl,r⟩
section
variable{P:Program}{w:World}{H H':Hp}{h h':Heap}{a C dx:Addr}{fs fs':List (Str × V)}
theorem ins_get(hok:HOk P w H h)(e:H a=some (.ins C dx fs)):∃mA,ObjM h a dx C mA∧(∀f,RelO (fs.lookup f) (mA f))∧PySem.Within mA (fs.map (·.1))∧fs.length≤1000∧H dx=some (.own a):=by
 obtain⟨d,z,ne,ob,mA,n,r,q⟩:=(show ObjOk P w H h a (.ins C dx fs) from hok a _ e)
 exact⟨mA,⟨ob,n,ne⟩,r,q,z,d⟩
end
structure Cls(K:PySem.W.Frag)(C:Addr):Prop where
 pg:PySem.W.plainGet K C Str.empty=true
 hd:PySem.W.hasDictIn K C=true
 po:PySem.W.plainOver K C=true
 sa:PySem.W.findIn K (.ref C) "__setattr__"=some (some (.builtin "object.__setattr__"))
theorem Cls.get{K:PySem.W.Frag}{C:Addr}(c:Cls K C)(f:Str):PySem.W.plainGet K C f=true:=c.pg
structure Con(K:PySem.W.Frag)(C:Addr)(f:Str)(v:V)(u:Value):Prop where
 at_:PySem.W.findIn K (.ref C) f=some (some u)
 rel:RelV v u
 get:PySem.W.specialIn K u "__get__"=some none
 cp:PySem.W.copiedNames.contains f=false
structure Meth(K:PySem.W.Frag)(C:Addr)(m:Str)(f:Addr):Prop where
 at_:PySem.W.findIn K (.ref C) m=some (some (.ref f))
 fn:PySem.W.isFn K (.ref f)=true
 kp:PySem.W.keepIn K (.ref f)=true
section
variable{X:Cx}{pins:List (Addr × Obj)}{σ:St}{H:Hp}{s:Shared}{a C dx:Addr}{fs:List (Str × V)}{f:Str}{v:V}{A:Around}{E:Value→Shared→Prop}
end
section
variable{X:Cx}{o e value:Expr}{f:Str}{pos pos' tpos:Pos}{ta tv:TE}
end
section
variable{X:Cx}{pins:List (Addr × Obj)}{σ:St}{H:Hp}{s:Shared}{A:Around}{E:Value→Shared→Prop}{Q:Value→Shared→Prop}{c:Value}{b:Bool}
inductive TyOf (K:PySem.W.Frag) (H:Hp):V→Value→Prop where
 |non:TyOf K H .non (.type "NoneType")
 |bl (x:Bool):TyOf K H (.bl x) (.type "bool")
 |int (i:Int):TyOf K H (.int i) (.type "int")
 |str (x:Str):TyOf K H (.str x) (.type "str")
 |flt (x:UInt64):TyOf K H (.flt x) (.type "float")
 |lst {a:Addr} {xs:List V} (e:H a=some (.lst xs)):TyOf K H (.ref a) (.type "list")
 |frz {a:Addr} {o:Obj} {xs:List V} (e:H a=some (.frz o (.lst xs))):TyOf K H (.ref a) (.type "list")
 |tup {a:Addr} {xs:List V} (e:H a=some (.tup xs)):TyOf K H (.ref a) (.type "tuple")
 |dK {a:Addr} {kvs:List (Key × V)} (e:H a=some (.dK kvs)):TyOf K H (.ref a) (.type "dict")
 |dT {a:Addr} {kvs:List (List Key × V)} (e:H a=some (.dT kvs)):TyOf K H (.ref a) (.type "dict")
 |ins {a C dx:Addr} {fs:List (Str × V)} (e:H a=some (.ins C dx fs)) (cl:Cls K C) (ha:PySem.W.findIn K (.ref C) "__class__"=some (some (.builtin "object.__class__")))
   (hn:PySem.W.specialIn K (.builtin "object.__class__") "__get__"=some (some (.builtin "getset_descriptor.__get__"))) (htk:PySem.W.takesIn K (.builtin "object.__class__")=some true)
   (hm:PySem.W.mroIn K C (.type "object")=some true):TyOf K H (.ref a) (.ref C)
theorem isinst_ok{x:V}{u t:Value}(I:Inv X pins σ H s)(rx:RelV x u)(ty:TyOf X.K H x t)(e:PySem.W.kitOne X.K t c=some b)(h:∀tk,Q (.bool b) { s with toks:=tk }) :
  wpAny (model X.prog X.w) A (call (.builtin "isinstance") [u,c]) Q E s:=by
 cases ty with
 |non=>cases (show u=Value.none from rx);exact PySem.W.kia_one PySem.W.kitx_none I.kIn True.intro e (fun z=>nomatch z) h
 |bl y=>cases (show u=Value.bool y from rx);exact PySem.W.kia_one PySem.W.kitx_bool I.kIn True.intro e (fun z=>nomatch z) h
 |int i=>obtain⟨t,q⟩:=(show ∃t,u=Value.int i t from rx);cases q;exact PySem.W.kia_one PySem.W.kitx_int I.kIn True.intro e (fun z=>nomatch z) h
 |str y=>obtain⟨t,q⟩:=(show ∃t,u=Value.str y t from rx);cases q;exact PySem.W.kia_one PySem.W.kitx_str I.kIn True.intro e (fun z=>nomatch z) h
 |flt y=>obtain⟨t,q⟩:=(show ∃t,u=Value.float y t from rx);cases q;exact PySem.W.kia_one PySem.W.kitx_float I.kIn True.intro e (fun z=>nomatch z) h
 |@lst a xs ea =>
  cases (show u=Value.ref a from rx)
  obtain⟨_,_,n,_,h1⟩:=(show ObjOk X.prog X.w H s.heap a (.lst xs) from I.hok a _ ea)
  exact PySem.W.kia_one PySem.W.kitx_list I.kIn ⟨_,h1,rfl⟩ e (fun z=>nomatch z) h
 |@frz a ob xs ea =>
  cases (show u=Value.ref a from rx)
  obtain⟨_,_,_,n,_,h1⟩:=(show ObjOk X.prog X.w H s.heap a (.frz ob (.lst xs)) from I.hok a _ ea)
  exact PySem.W.kia_one PySem.W.kitx_list I.kIn ⟨_,h1,rfl⟩ e (fun z=>nomatch z) h
 |@tup a xs ea =>
  cases (show u=Value.ref a from rx)
  obtain⟨_,_,_,p⟩:=(show ObjOk X.prog X.w H s.heap a (.tup xs) from I.hok a _ ea)
  obtain⟨o,h1,h2,_⟩:=p
  exact PySem.W.kia_one PySem.W.kitx_tuple I.kIn ⟨o,h1,h2⟩ e (fun z=>nomatch z) h
 |@dK a kvs ea =>
  cases (show u=Value.ref a from rx)
  obtain⟨_,_,vs,_,p⟩:=(show ObjOk X.prog X.w H s.heap a (.dK kvs) from I.hok a _ ea)
  obtain⟨o,es,ep,h1,h2,_⟩:=p
  exact PySem.W.kia_one PySem.W.kitx_dict I.kIn ⟨o,h1,h2.1⟩ e (fun z=>nomatch z) h
 |@dT a kvs ea =>
  cases (show u=Value.ref a from rx)
  obtain⟨_,_,xs,_,o,es,ep,h1,h2,_⟩:=(show ObjOk X.prog X.w H s.heap a (.dT kvs) from I.hok a _ ea)
  exact PySem.W.kia_one PySem.W.kitx_dict I.kIn ⟨o,h1,h2.1⟩ e (fun z=>nomatch z) h
 |@ins a C dx fs ea cl ha hn htk hm =>
  cases (show u=Value.ref a from rx)
  obtain⟨mA,O,_⟩:=ins_get I.hok ea
  obtain⟨od,J,_⟩:=O.look
  exact PySem.W.kia_one (PySem.W.kitx_own (cl.get _) cl.hd ha hn htk hm) I.kIn J e (fun z=>nomatch z) h
end
end L2
namespace L2
open PySem PySem.Spec PyProof.Rows
structure Room(k:Nat)(A:Around):Prop where
 hd:A.handled=none
 dp:A.depth+3*k+5 < recursionLimit
 un:A.units+16*k+200 < cLine
 gd:A.guards=some []
theorem Room.mono{j k:Nat}{A:Around}(r:Room k A)(h:j≤k):Room j A:=⟨r.hd,by have:=r.dp;omega,by have:=r.un;omega,r.gd⟩
theorem Room.deeper{k:Nat}{A:Around}(r:Room (k+1) A)(env:Env):Room k (A.deeper env) :=
 ⟨r.hd,by have:=r.dp;show A.depth+1+3*k+5 < _;omega,by have:=r.un;show A.units+3+16*k+200 < _;omega,r.gd⟩
theorem Room.depth{k:Nat}{A:Around}(r:Room k A):A.depth < recursionLimit:=by have:=r.dp;omega
theorem Room.units{k:Nat}{A:Around}(r:Room k A):A.units+64 < cLine:=by have:=r.un;omega
def tNil:TA:=fun _ H Q=>Q [] H
def tCons(ta:TE)(tr:TA):TA:=fun σ H Q=>ta σ H fun x H1=>tr σ H1 fun xs H2=>Q (x::xs) H2
section
variable{X:Cx}{e:Expr}{es:List Expr}{te:TE}{t:TA}{pos:Pos}
theorem pa_nil:PA X [] tNil:=fun _ _ _ _ H Q I h=>Calls.spliced_nil ⟨[],H,I,.nil,h⟩
theorem pa_cons(ha:PE X e te)(hr:PA X es t)(hs:starEach (e::es) X.env=(false,eval e X.env)::starEach es X.env:=by rfl):PA X (e::es) (tCons te t):=by
 intro pos pins s σ H Q I h
 rw [hs]
 show wpAny _ _ (spliced ((false,eval e X.env)::backTo pos (starEach es X.env))) _ _ s
 refine Calls.spliced_cons (thn (ha pins s σ H _ I h) fun u s1 ⟨x,H1,I1,r1,q1⟩=>?_)
 exact thn (hr pos pins s1 σ H1 _ I1 q1) fun us s2 ⟨xs,H2,I2,r2,q2⟩=>⟨x::xs,H2,I2,.cons r1 r2,q2⟩
structure Wf(o:List V→HO)(xs:List V)(H:Hp)(Q:VK):Prop where
 h:xs.length≤sizeLine
 q:∀p,H p=none→Q (.ref p) (upd H p (o xs))
def tTup(t:TA):TE:=fun σ H Q=>t σ H fun xs H1=>Wf .tup xs H1 Q
def tLst(t:TA):TE:=fun σ H Q=>t σ H fun xs H1=>Wf .lst xs H1 Q
theorem pe_tup{x1}(h:PA X es t):PE X (.Tuple es x1 pos) (tTup t):=by
 intro pins s σ H Q I hq
 refine wpAny_Tuple_spliced (thn (h pos pins s σ H _ I hq) fun us s1 ⟨xs,H1,I1,r,z,q⟩=>⟨by rw [←r.length];exact z,?_⟩)
 have hf:H1 s1.heap.objs.size=none:=I1.hok.fresh (Nat.le_refl _)
 refine⟨.ref s1.heap.objs.size,upd H1 s1.heap.objs.size (.tup xs),I1.laid (t':=s1.toks) (fun b u e=>Heap.get?_push_of_some _ e) (Nat.le_refl _) ?_,rfl,q _ hf⟩
 exact⟨z,us,r,⟨_,Heap.get?_push_size _ rfl,rfl,_,rfl⟩⟩
theorem pe_lst(h:PA X es t):PE X (.List es pos) (tLst t):=by
 intro pins s σ H Q I hq
 refine wpAny_List_spliced (thn (h pos pins s σ H _ I hq) fun us s1 ⟨xs,H1,I1,r,z,q⟩=>⟨by rw [←r.length];exact z,?_⟩)
 have hf:H1 s1.heap.objs.size=none:=I1.hok.fresh (Nat.le_refl _)
 refine⟨.ref s1.heap.objs.size,upd H1 s1.heap.objs.size (.lst xs),I1.laid (t':=s1.toks) (fun b u e=>Heap.get?_push_of_some _ e) (Nat.le_refl _) ?_,rfl,q _ hf⟩
 exact⟨z,us,0,r,Heap.get?_push_size _ rfl⟩
end
abbrev Sp:=List V→Hp→VK→XK→Prop
abbrev CXT:=List Env→Hp→Shared→XK→Value→Shared→Prop
structure Env0(P:Program)(w:World)(K:PySem.W.Frag)(mg:Str→Option Value)(base:Heap)(A:Around)(outer:List Env)(s:Shared)(H:Hp):Prop where
 frames:A.frames=some outer
 mod:Mod K mg base
 bs:∀b o,base.get? b=some o→s.heap.get? b=some o∧H b=none
 bsz:base.objs.size≤s.heap.objs.size
 funs:s.heap.FunFrames base outer
 frf:∀b∈frs outer,H b=none
 hok:HOk P w H s.heap
 bare:AllBare s.gens
def CE(outer:List Env)(P:Program)(w:World)(H:Hp)(s:Shared)(Q:VK)(u:Value)(s':Shared):Prop :=
 ∃v H',s'.os=s.os∧AllBare s'.gens∧Un (frs outer) [] H H' s.heap s'.heap∧HOk P w H' s'.heap∧RelV v u∧Q v H'
def CR(CX:CXT)(outer:List Env)(P:Program)(w:World)(H:Hp)(s:Shared)(Q:VK)(E:XK)(r:Result)(s':Shared):Prop :=
 match r with
 |.ok (.ret u)=>CE outer P w H s Q u s'
 |.ok _=>False
 |.error e=>CX outer H s E e s'
structure FnOk(P:Program)(w:World)(K:PySem.W.Frag)(mg:Str→Option Value)(base:Heap)(CX:CXT)(k:Nat)(f:Addr)(fd:FuncData)(ps:List Str)(sp:Sp):Prop where
 len:∀vs H Q E,sp vs H Q E→vs.length=ps.length
 run:∀(A:Around) (outer:List Env) (s:Shared) (H:Hp) (args:Args) (us:List Value) (vs:List V) (Q:VK) (E:XK),Room k A→Env0 P w K mg base A outer s H→BindsTo s fd args (ps.zip us)→Vals vs us→sp vs H Q E →
  codeAny (model P w) A (.call (.ref f) args) (CR CX outer P w H s Q E) s
theorem FnOk.mono{P:Program}{w:World}{K:PySem.W.Frag}{mg:Str→Option Value}{base:Heap}{CX:CXT}{j k:Nat}{f:Addr}{fd:FuncData}{ps:List Str}{sp:Sp}(F:FnOk P w K mg base CX j f fd ps sp)(h:j≤k) :
  FnOk P w K mg base CX k f fd ps sp:=⟨F.len,fun A outer s H args us vs Q E hr=>F.run A outer s H args us vs Q E (hr.mono h)⟩
theorem FnOk.imp{P:Program}{w:World}{K:PySem.W.Frag}{mg:Str→Option Value}{base:Heap}{CX:CXT}{k:Nat}{f:Addr}{fd:FuncData}{ps:List Str}{sp sp':Sp}(F:FnOk P w K mg base CX k f fd ps sp)
  (h:∀vs H Q E,sp' vs H Q E→sp vs H Q E):FnOk P w K mg base CX k f fd ps sp' :=
 ⟨fun vs H Q E q=>F.len vs H Q E (h _ _ _ _ q),fun A outer s H args us vs Q E hr he hb hv hs=>F.run A outer s H args us vs Q E hr he hb hv (h _ _ _ _ hs)⟩
section
variable{X:Cx}{pins:List (Addr × Obj)}{σ:St}{H:Hp}{s s':Shared}
theorem Inv.env0(I:Inv X pins σ H s):Env0 X.prog X.w X.K X.mg X.base X.A X.stack s H :=
 ⟨I.ok.frames,I.ok.mod,I.bs,Nat.le_trans I.ok.bsz I.sz,I.stack,I.stkFree,I.hok,I.bare⟩
theorem Inv.after{Q:VK}{u:Value}(I:Inv X pins σ H s)(h:CE X.stack X.prog X.w H s Q u s'):EP X pins σ Q u s':=by
 obtain⟨v,H',os,bare,un,hok,r,q⟩:=h
 obtain⟨hh,g,d,t,os'⟩:=s'
 obtain rfl:os'=s.os:=os
 exact⟨v,H',I.call (h':=hh) (g':=g) (d':=d) (t':=t) (ch:=[]) un hok bare (fun b z=>absurd z (by simp)),r,q⟩
end
def tCall(sp:Sp)(dvs:List V)(E:XK)(t:TA):TE:=fun σ H Q=>t σ H fun vs H1=>sp (vs++dvs) H1 Q E
def Binds(K:PySem.W.Frag)(fd:FuncData)(ps:List Str)(ds:List Value):Prop :=
 ∀(s:Shared) (us:List Value),K.In s.heap→(us++ds).length=ps.length→BindsTo s fd ⟨us,[]⟩ (ps.zip (us++ds))
theorem Binds.all{K:PySem.W.Frag}{fd:FuncData}{ps:List Str}(h:∀us:List Value,us.length=ps.length→bindArgs fd ⟨us,[]⟩=pure (ps.zip us)):Binds K fd ps []:=fun s us _ hl=>by
 rw [List.append_nil] at hl ⊢
 exact .of_eq (h us hl)
def Passes(CX:CXT)(X:Cx)(E:XK):Prop:=∀(pins:List (Addr × Obj)) (σ:St) (H:Hp) (s:Shared) (e:Value) (s':Shared),Inv X pins σ H s→CX X.stack H s E e s'→X.xe e s'
section
variable{X:Cx}{CX:CXT}{k:Nat}{f C:Addr}{fd:FuncData}{ps:List Str}{sp:Sp}{dvs:List V}{ds:List Value}{E:XK}{x m:Str}{p pos apos:Pos}{e o:Expr}{es:List Expr}{ta:TE}{t:TA}
theorem run_fn{pins:List (Addr × Obj)}{σ:St}{H:Hp}{s:Shared}{Q:VK}{us:List Value}{vs:List V}(F:FnOk X.prog X.w X.K X.mg X.base CX k f fd ps sp)(hr:Room k X.A)(hb:Binds X.K fd ps ds)(hd:Vals dvs ds)(hx:Passes CX X E)
  (I:Inv X pins σ H s) (r:Vals vs us) (h:sp (vs++dvs) H Q E):wpAny (model X.prog X.w) X.A (call (.ref f) us) (EP X pins σ Q) X.xe s:=by
 have r2:Vals (vs++dvs) (us++ds):=r.append hd
 have hl:(us++ds).length=ps.length:=by rw [←r2.length];exact F.len _ _ _ _ h
 refine wpAny_call (codeAny_mono (F.run X.A X.stack s H ⟨us,[]⟩ (us++ds) (vs++dvs) Q E hr I.env0 (hb s us I.kIn hl) r2 h) fun r s' hq=>?_)
 cases r with
 |error e=>exact hx pins σ H s e s' I hq
 |ok fl =>
  cases fl with
  |ret u=>exact I.after hq
  |next=>exact False.elim hq
  |brk=>exact False.elim hq
  |cont=>exact False.elim hq
theorem pe_call(F:FnOk X.prog X.w X.K X.mg X.base CX k f fd ps sp)(hr:Room k X.A)(hg:Gl X x)(hm:X.mg x=some (.ref f))(hk:PySem.W.keepIn X.K (.ref f)=true)(hb:Binds X.K fd ps ds)(hd:Vals dvs ds)(hx:Passes CX X E)
  (ha:PA X (e::es) t) (hdb:(x==("__debug__":Str))=false:=by decide) (he:starEach (e::es) X.env=(false,eval e X.env)::starEach es X.env:=by rfl) (hpl:(backTo pos (starEach es X.env)).any (·.1)=false:=by rfl) :
  PE X (.Call (.Name x p) (e::es) [] pos) (tCall sp dvs E t):=by
 intro pins s σ H Q I h
 refine wpAny_Call_Name_kw (ld_glob I hg hm ?_ hdb)
 refine PySem.W.callWith_K (h₀:=X.base) I.ok.mod.kin hk (thn (ha pos pins s σ H _ I h) fun us s1 ⟨vs,H1,I1,r,q⟩=>⟨I1.kIn,?_⟩) he hpl
 exact run_fn F hr hb hd hx I1 r q
structure Mk(K:PySem.W.Frag)(C f:Addr):Prop where
 makes:PySem.W.makesIn K C=true
 init:PySem.W.findIn K (.ref C) "__init__"=some (some (.ref f))
 fn:PySem.W.isFn K (.ref f)=true
 kp:PySem.W.keepIn K (.ref C)=true
end
section
variable{X:Cx}{CX:CXT}{k:Nat}{f C:Addr}{fd:FuncData}{ps ks:List Str}{sp:Sp}{E:XK}{x m:Str}{p pos apos kpos:Pos}{e o:Expr}{es:List Expr}{kws:List Keyword}{te ta:TE}{t tk:TA}{nm:Option Str}
structure KBinds(K:PySem.W.Frag)(fd:FuncData)(ps ks:List Str)(g:List Value→List Value→List Value)(gV:List V→List V→List V):Prop where
 to:∀(s:Shared) (us ws:List Value),K.In s.heap→(g us ws).length=ps.length→BindsTo s fd ⟨us,ks.zip ws⟩ (ps.zip (g us ws))
 rel:∀{vs:List V} {us:List Value} {zs:List V} {ws:List Value},Vals vs us→Vals zs ws→Vals (gV vs zs) (g us ws)
variable{g:List Value→List Value→List Value}{gV:List V→List V→List V}
end
structure FnScope(N P:List Str)(sc:Scope):Prop where
 kind:sc.kind=.function
 co:sc.isCoroutine=false
 gen:sc.isGenerator=false
 nd:N.Nodup
 pre:N.take P.length=P
 par:∀x∈P,sc.names.lookup x=some .local∨sc.names.lookup x=some .cell
 nofree:∀y∈sc.names,y.2≠.free
theorem bindL_out{kindOf:Str→Option NameKind}{x:Str}:∀{binds:List (Str × Value)} {m:Str→Option Value},(∀v,(x,v)∉binds)→bindL kindOf binds m x=m x
 |[],_,_=>rfl
 |(n,v)::r,m,h=>by
  unfold bindL
  rw [bindL_out fun w hw=>h w (List.mem_cons_of_mem _ hw)]
  split
  ·have:x≠n:=by rintro rfl;exact h v List.mem_cons_self
   simp [this]
  ·rfl
theorem bindC_out{kindOf:Str→Option NameKind}{x:Str}:∀{binds:List (Str × Value)} {m:Str→Option Value},(∀v,(x,v)∉binds)→bindC kindOf binds m x=m x
 |[],_,_=>rfl
 |(n,v)::r,m,h=>by
  unfold bindC
  rw [bindC_out fun w hw=>h w (List.mem_cons_of_mem _ hw)]
  split
  ·rfl
  ·have:x≠n:=by rintro rfl;exact h v List.mem_cons_self
   simp [this]
theorem bindL_get{kindOf:Str→Option NameKind}{x:Str}{v:Value}:∀{P:List Str} {vs:List Value} {i:Nat} {m:Str→Option Value},P.Nodup→P[i]?=some x→vs[i]?=some v→kindOf x=some .local →
  bindL kindOf (P.zip vs) m x=some v
 |[],_,_,_,_,h,_,_=>by simp at h
 |_::_,[],_,_,_,_,h,_=>by simp at h
 |p::P,w::vs,0,m,nd,h1,h2,hk=>by
  simp at h1 h2;subst h1;subst h2
  show bindL kindOf ((p,w)::P.zip vs) m p=_
  unfold bindL
  rw [bindL_out fun v hv=>(List.nodup_cons.mp nd).1 (List.of_mem_zip hv).1,if_pos hk]
  simp
 |p::P,w::vs,i+1,m,nd,h1,h2,hk=>by
  show bindL kindOf ((p,w)::P.zip vs) m x=_
  unfold bindL
  exact bindL_get (i:=i) (List.nodup_cons.mp nd).2 (by simpa using h1) (by simpa using h2) hk
theorem bindC_get{kindOf:Str→Option NameKind}{x:Str}{v:Value}:∀{P:List Str} {vs:List Value} {i:Nat} {m:Str→Option Value},P.Nodup→P[i]?=some x→vs[i]?=some v→kindOf x≠some .local →
  bindC kindOf (P.zip vs) m x=some v
 |[],_,_,_,_,h,_,_=>by simp at h
 |_::_,[],_,_,_,_,h,_=>by simp at h
 |p::P,w::vs,0,m,nd,h1,h2,hk=>by
  simp at h1 h2;subst h1;subst h2
  show bindC kindOf ((p,w)::P.zip vs) m p=_
  unfold bindC
  rw [bindC_out fun v hv=>(List.nodup_cons.mp nd).1 (List.of_mem_zip hv).1,if_neg hk]
  simp
 |p::P,w::vs,i+1,m,nd,h1,h2,hk=>by
  show bindC kindOf ((p,w)::P.zip vs) m x=_
  unfold bindC
  exact bindC_get (i:=i) (List.nodup_cons.mp nd).2 (by simpa using h1) (by simpa using h2) hk
def start(N:List Str)(vs:List V):St:=vs.map some++List.replicate (N.length - vs.length) none
def cxOf(CX:CXT)(P:Program)(w:World)(K:PySem.W.Frag)(mg:Str→Option Value)(base:Heap)(N:List Str)(qual:Str)(scope:Scope)(f:Addr)(cd:Value)(A:Around)(outer:List Env)(s:Shared)(H:Hp)(E:XK):Cx where
 prog:=P
 w:=w
 K:=K
 mg:=mg
 base:=base
 A:=A.deeper (envOfC qual scope s.heap.objs.size f cd)
 N:=N
 s₀:=s
 H₀:=H
 env:=envOfC qual scope s.heap.objs.size f cd
 outer:=outer
 stack:=envOfC qual scope s.heap.objs.size f cd::outer
 ex:=[]
 calm:=true
 fn:=fun _=>true
 pn:=[]
 xe:=fun e s'=>wpAny (model P w) (A.deeper (envOfC qual scope s.heap.objs.size f cd)) (leaving (envOfC qual scope s.heap.objs.size f cd) e) (fun _ s''=>CX outer H s E e s'') (fun e' s''=>CX outer H s E e' s'') s'
theorem cell_has{sc:Scope}{n:Nat}{x:Str}(h:sc.names.lookup x=some .cell):∃c,(cellsFrom n sc.names []).lookup x=some c:=by
 have q:=PySem.W.cellsFrom_some sc.names n [] (.inl h)
 exact Option.isSome_iff_exists.mp q
theorem inv_start{CX:CXT}{P:Program}{w:World}{K:PySem.W.Frag}{mg:Str→Option Value}{base:Heap}{N ps:List Str}{qual:Str}{scope:Scope}{f:Addr}{cd:Value}{A:Around}{outer:List Env}{s s1:Shared}{H:Hp}{E:XK}{us:List Value}{vs:List V}
  (S:FnScope N ps scope) (hd:A.handled=none) (e0:Env0 P w K mg base A outer s H) (hl:vs.length=ps.length) (r:Vals vs us)
  (x:InCallC s s.heap.objs.size (bindL (envOfC qual scope s.heap.objs.size f cd).kindOf (ps.zip us) fun _=>none) (cellsFrom (s.heap.objs.size+1) scope.names []) (bindC (envOfC qual scope s.heap.objs.size f cd).kindOf (ps.zip us) fun _=>none) s1) :
  Inv (cxOf CX P w K mg base N qual scope f cd A outer s H E) [] (start N vs) H s1:=by
 have hpl:ps.length≤N.length:=by have:=congrArg List.length S.pre;rw [List.length_take] at this;omega
 obtain⟨h1,tk,rfl,hk⟩:=x.done
 have noA:∀b:Addr,b∉(cxOf CX P w K mg base N qual scope f cd A outer s H E).ex:=fun b z=>absurd (show b∈([]:List Addr) from z) (by simp)
 refine⟨⟨e0.mod,S.kind,rfl,rfl,Nat.le_refl _,fun y z c h1 h2=>?_,fun y hy=>?_,fun y c _ h=>?_,fun _=>hd,Around.frames_deeper e0.frames,.inr ⟨rfl,rfl⟩,fun b z=>absurd z (noA b),e0.bs,e0.bsz,fun b _ _=>noA b,fun b z=>absurd z (noA b),e0.funs,e0.frf⟩,
  rfl,e0.bare,Un.kept hk,⟨_,x.toInCall.ns,fun i y v h1 h2 h3=>?_⟩,fun y c h=>⟨_,x.cell y c h⟩,e0.hok.fresh (Nat.le_refl _),fun y c h=>?_,fun p hp=>absurd (show p∈([]:List (Addr × Obj)) from hp) (by simp),e0.hok.kept hk,?_⟩
 ·exact name_of_addr x.apart (PySem.mem_of_lookup h1) (PySem.mem_of_lookup h2)
 ·have hy:scope.names.lookup y=some .cell∨scope.names.lookup y=some .free:=hy
  rcases hy with hy|hy
  ·exact cell_has hy
  ·exact absurd rfl (S.nofree _ (PySem.mem_of_lookup hy))
 ·exact Nat.le_of_lt (x.above y c (PySem.mem_of_lookup h))
 ·have hi:i < vs.length:=by
   unfold start at h2
   by_cases hi:i < vs.length
   ·exact hi
   ·rw [List.getElem?_append_right (by simpa using hi)] at h2
    rw [List.getElem?_replicate] at h2
    split at h2<;>cases h2
  have ha:vs[i]?=some v:=by
   unfold start at h2
   rw [List.getElem?_append_left (by simpa using hi),List.getElem?_map] at h2
   cases e:vs[i]? with
   |none=>rw [e] at h2;cases h2
   |some a=>rw [e] at h2;cases h2;rfl
  obtain⟨u,hu,rv⟩:=r.get ha
  have hp:ps[i]?=some y:=by
   rw [←S.pre,List.getElem?_take_of_lt (by omega)];exact h1
  have ndP:ps.Nodup:=by rw [←S.pre];exact S.nd.sublist (List.take_sublist _ _)
  refine⟨u,rv,?_⟩
  rcases S.par y (List.mem_of_getElem? hp) with k|k
  ·exact .inl ⟨k,bindL_get ndP hp hu k⟩
  ·obtain⟨c,e⟩:=cell_has (n:=s.heap.objs.size+1) k
   refine .inr ⟨.inl k,c,e,?_⟩
   have q:=x.cell y c e
   rw [bindC_get ndP hp hu (by show scope.names.lookup y≠_;rw [k];decide)] at q
   exact q
 ·exact e0.hok.fresh (Nat.le_of_lt (x.above y c (PySem.mem_of_lookup h)))
 ·unfold start
  show _=N.length
  rw [List.length_append,List.length_map,List.length_replicate]
  omega
theorem fn_of{CX:CXT}{P:Program}{w:World}{K:PySem.W.Frag}{mg:Str→Option Value}{base:Heap}{k:Nat}{f:Addr}{name qual:Str}{params:Arguments}{body:List Stmt}{scope:Scope}{dV kV doc pm cdv ct oc:Value}{an od:Option Addr}
  {osl:Array (Option Value)} {N ps:List Str} {sp:Sp} (lk:K.lookup f=some ⟨oc,od,.func (PySem.W.fnOf name qual params body scope dV kV doc pm an cdv ct),osl⟩) (hcd:PySem.W.codeIn K cdv qual=true) (S:FnScope N ps scope)
  (len:∀vs H Q E,sp vs H Q E→vs.length=ps.length)
  (hbody:∀(A:Around) (outer:List Env) (s:Shared) (H:Hp) (vs:List V) (Q:VK) (E:XK),Room k (A.deeper (envOfC qual scope s.heap.objs.size f cdv))→sp vs H Q E →
   ∃t,PSs (cxOf CX P w K mg base N qual scope f cdv A outer s H E) body t∧t { nx:=fun _ H'=>Q .non H',rt:=Q } (start N vs) H) :
  FnOk P w K mg base CX (k+1) f (PySem.W.fnOf name qual params body scope dV kV doc pm an cdv ct) ps sp:=by
 refine⟨len,fun A outer s H args us vs Q E hr e0 hb r hsp=>?_⟩
 have hl:=len _ _ _ _ hsp
 have KX:K.In s.heap:=e0.mod.kin.keeps fun b o e=>(e0.bs b o e).1
 have lim:s.heap.NoLimit:=e0.mod.nolimit.keeps fun b o e=>(e0.bs b o e).1
 have hkind:∀y∈ps.zip us,scope.names.lookup y.1=some .local∨(scope.names.lookup y.1=some .cell∧((cellsFrom (s.heap.objs.size+1) scope.names []).lookup y.1).isSome=true):=fun⟨n,v⟩ hy=>by
  rcases S.par n (List.of_mem_zip hy).1 with q|q
  ·exact .inl q
  ·exact .inr ⟨q,PySem.W.cellsFrom_some _ _ _ (.inl q)⟩
 refine codeAny_call_function hr.depth (KX _ _ lk) rfl S.co S.gen rfl (PySem.W.codeRec_of KX hcd) (hb _ _ _ _ ?_)
 refine wpAny_newFunctionEnv_cells S.kind hkind fun env he s1 x=>?_
 subst he
 refine⟨lim.keeps x.toInCall.keep,codeAny_func ?_⟩
 obtain⟨t,ht,hq⟩:=hbody A outer s H vs Q E (hr.deeper _) hsp
 have I:Inv (cxOf CX P w K mg base N qual scope f cdv A outer s H E) [] (start N vs) H s1:=inv_start S hr.hd e0 hl r x
 refine wpAny_mono (ht [] s1 (start N vs) H _ I hq) (fun fl s' hs=>?_) fun e s' hs=>hs
 have fin:∀{σ':St} {H':Hp} {v:V} {u:Value},Inv (cxOf CX P w K mg base N qual scope f cdv A outer s H E) [] σ' H' s'→RelV v u→Q v H'→CE outer P w H s Q u s' :=
  fun {σ' H' v u} J rv q=>⟨v,H',J.os,J.bare,J.base,J.hok,rv,q⟩
 cases fl with
 |ret u =>
  obtain⟨v,σ',H',J,rv,q⟩:=hs
  exact fin J rv q
 |next =>
  obtain⟨σ',H',J,q⟩:=hs
  exact fin (v:=V.non) (u:=Value.none) J rfl q
 |brk =>
  obtain⟨_,_,_,q⟩:=hs
  exact False.elim q
 |cont =>
  obtain⟨_,_,_,q⟩:=hs
  exact False.elim q
end L2
namespace L2
open PySem PySem.Spec PyProof.Rows
section
variable{X:Cx}{x:Str}{p pos:Pos}{e:Expr}{es:List Expr}{t:TA}{id T:String}{r:List V→Hp→VK→Prop}
def tCB(r:List V→Hp→VK→Prop)(t:TA):TE:=fun σ H Q=>t σ H fun vs H1=>r vs H1 Q
theorem pe_callB(hc:CallR X (.builtin id) r)(hg:Gl X x)(hm:X.mg x=none)(hv:bootBuiltins x=some (.builtin id))(ha:PA X (e::es) t) (hn:x≠"__name__":=by decide) (hdb:(x==("__debug__":Str))=false:=by decide)
  (he:starEach (e::es) X.env=(false,eval e X.env)::starEach es X.env:=by rfl) (hpl:(backTo pos (starEach es X.env)).any (·.1)=false:=by rfl):PE X (.Call (.Name x p) (e::es) [] pos) (tCB r t):=by
 intro pins s σ H Q I h
 refine wpAny_Call_Name_kw (ld_blt I hg hm hv ?_ hn hdb)
 exact PyProof.Rows.callWith_builtin1 (thn (ha pos pins s σ H _ I h) fun us s1 ⟨vs,H1,I1,r1,q1⟩=>hc pins s1 σ H1 vs us Q I1 r1 q1) he hpl
theorem pe_callTy(hc:CallR X (.type T) r)(hg:Gl X x)(hm:X.mg x=none)(hv:bootBuiltins x=some (.type T))(ha:PA X (e::es) t) (hn:x≠"__name__":=by decide) (hdb:(x==("__debug__":Str))=false:=by decide)
  (he:starEach (e::es) X.env=(false,eval e X.env)::starEach es X.env:=by rfl) (hpl:(backTo pos (starEach es X.env)).any (·.1)=false:=by rfl):PE X (.Call (.Name x p) (e::es) [] pos) (tCB r t):=by
 intro pins s σ H Q I h
 refine wpAny_Call_Name_kw (ld_blt I hg hm hv ?_ hn hdb)
 exact PyProof.Rows.callWith_type1 (thn (ha pos pins s σ H _ I h) fun us s1 ⟨vs,H1,I1,r1,q1⟩=>hc pins s1 σ H1 vs us Q I1 r1 q1) he hpl
end
end L2
namespace HT
open PySem PyProof.Rows
section
open PySem.SeqAt
open PySem.AutoSeq1 (wpAny_loadPart')
open PySem.MeetsSeq PySem.MeetsSeq2 PySem.MeetsSeq3
end
section
variable{prog:Program}{w:World}{A:Around}{E:Value→Shared→Prop}{s:Shared}
def sIx(n d:Nat):Option Int→Nat
 |none=>d
 |some v=>if v < 0 then (v+(n:Int)).toNat else min v.toNat n
theorem sIx_none(n d:Nat):sIx n d none=d:=rfl
theorem sIx_nat(n d k:Nat):sIx n d (some (k:Int))=min k n:=by
 show(if (k:Int) < 0 then ((k:Int)+(n:Int)).toNat else min (k:Int).toNat n)=min k n
 rw [if_neg (by omega),Int.toNat_natCast]
theorem sIx_le(n d:Nat)(hd:d≤n)(o:Option Int):sIx n d o≤n:=by
 cases o with
 |none=>exact hd
 |some v =>
  show(if v < 0 then (v+(n:Int)).toNat else min v.toNat n)≤n
  by_cases hv:v < 0
  ·rw [if_pos hv];omega
  ·rw [if_neg hv];exact Nat.min_le_right _ _
theorem clip_eq(v:Int)(n d:Nat):(if v < 0 then max (v+(n:Int)) 0 else min v (n:Int))=((sIx n d (some v):Nat):Int):=by
 show(if v < 0 then max (v+(n:Int)) 0 else min v (n:Int))=(((if v < 0 then (v+(n:Int)).toNat else min v.toNat n):Nat):Int)
 by_cases hv:v < 0
 ·simp only [if_pos hv];omega
 ·simp only [if_neg hv];omega
theorem adjust_gen(lo hi:Option Int)(n:Nat):Builtin.Slice.sliceAdjust lo hi 1 (n:Int)=(((sIx n 0 lo:Nat):Int),((sIx n n hi:Nat):Int)):=by
 have h1:¬((1:Int) < 0):=by omega
 unfold Builtin.Slice.sliceAdjust
 simp only [h1,if_false]
 refine Prod.ext ?_ ?_
 ·cases lo with
  |none=>rfl
  |some v=>exact clip_eq v n 0
 ·cases hi with
  |none=>rfl
  |some v=>exact clip_eq v n n
theorem places_gen(i j:Nat):Builtin.Slice.slicePlaces (i:Int) (j:Int) 1=j - i:=by
 unfold Builtin.Slice.slicePlaces
 have h1:(1:Int) > 0:=by omega
 simp only [h1,if_true,Int.ediv_one]
 split<;>omega
theorem slicePart_{v:Value}{o:Option Int}{Q:Option Int→Shared→Prop}(p:IsPart v o)(h:Q o s):wpAny (model prog w) A (Builtin.Slice.slicePartIndex v) Q E s:=by
 cases p with
 |none=>exact slicePart_none h
 |int i t=>exact slicePart_int h
theorem sliceApplied_gen{sl:Addr}{vl vu:Value}{lo hi:Option Int}{n:Nat}{Q:Int × Int × Nat→Shared→Prop}(hs:s.heap.IsSliceOf sl vl vu .none)(pl:IsPart vl lo)(pu:IsPart vu hi)
  (h:Q (((sIx n 0 lo:Nat):Int),1,sIx n n hi - sIx n 0 lo) s):wpAny (model prog w) A (Builtin.Slice.sliceApplied (.ref sl) (pure (n:Int))) Q E s:=by
 obtain⟨os,hos,hcs,hds⟩:=id hs
 unfold Builtin.Slice.sliceApplied Builtin.Slice.sliceFields
 refine wpAny_bind (wpAny_bind (wpAny_field hos hds (x:=vl) rfl (wpAny_bind (wpAny_field hos hds (x:=vu) rfl (wpAny_bind (wpAny_field hos hds (x:=.none) rfl (wpAny_pure ?_)))))))
 refine wpAny_bind (slicePart_none ?_)
 show wpAny _ _ (if ((1:Int)==0)=true then _ else _) _ _ s
 rw [if_neg (by decide)]
 refine wpAny_bind (slicePart_ pl (wpAny_bind (slicePart_ pu (wpAny_bind (wpAny_pure ?_)))))
 show wpAny _ _ (match Builtin.Slice.sliceAdjust lo hi 1 (n:Int) with|(lo,hi)=>pure (lo,(1:Int),Builtin.Slice.slicePlaces lo hi 1)) _ _ s
 rw [adjust_gen lo hi n]
 show wpAny _ _ (pure (((sIx n 0 lo:Nat):Int),(1:Int),Builtin.Slice.slicePlaces ((sIx n 0 lo:Nat):Int) ((sIx n n hi:Nat):Int) 1)) _ _ s
 rw [places_gen]
 exact wpAny_pure h
theorem pick_gen(xs:Array Value)(i k:Nat):((List.range k).filterMap fun(m:Nat)=>xs[((i:Int)+(m:Int)*1).toNat]?).toArray=((xs.toList.drop i).take k).toArray:=by
 have e:(fun(m:Nat)=>xs[((i:Int)+(m:Int)*1).toNat]?)=fun m=>xs[i+m]?:=by
  funext m
  have:((i:Int)+(m:Int)*1).toNat=i+m:=by omega
  rw [this]
 rw [e]
 have:=pick_run xs i k
 rw [List.filterMap_map] at this
 have e2:((fun x=>xs[x]?)∘fun x=>i+x)=fun m=>xs[i+m]?:=rfl
 rw [e2] at this
 rw [this]
theorem getItem_tuple_cut{t sl:Addr}{items:Array Value}{vl vu:Value}{lo hi:Option Int}{Q:Value→Shared→Prop}(ht:IsTup s.heap t items)(hs:s.heap.IsSliceOf sl vl vu .none)(pl:IsPart vl lo)(pu:IsPart vu hi)
  (hw:¬(sIx items.size 0 lo=0∧sIx items.size items.size hi=items.size))
  (h:Q (.ref s.heap.objs.size) { s with heap:=s.heap.push { cls:=.type "tuple",data:=.seq ((items.toList.drop (sIx items.size 0 lo)).take (sIx items.size items.size hi - sIx items.size 0 lo)).toArray } })
  (hsz:items.size≤sizeLine):wpAny (model prog w) A (getItem (.ref t) (.ref sl)) Q E s:=by
 have htake:sizeOk (.seq ((items.toList.drop (sIx items.size 0 lo)).take (sIx items.size items.size hi - sIx items.size 0 lo)).toArray):=by
  show((items.toList.drop (sIx items.size 0 lo)).take (sIx items.size items.size hi - sIx items.size 0 lo)).toArray.size≤sizeLine
  rw [List.size_toArray,List.length_take,List.length_drop,Array.length_toList]
  omega
 have hj:sIx items.size items.size hi≤items.size:=sIx_le _ _ (Nat.le_refl _) hi
 obtain⟨os,hos,hcs,hds⟩:=id hs
 have hTs:s.TypeIs (.ref sl) "slice":=⟨os,hos,hcs⟩
 unfold getItem
 try with_reducible refine wpAny_holding ?_
 first|refine wpAny_bind (wpAny_pure ?_)|skip
 refine wpAny_bind (wpAny_sequenceKey ht.typeIs (by decide) ?_)
 refine wpAny_bind (wpAny_callSpecial?_slot (name:=Str.ofString "__getitem__") ht.typeIs PyProof.Rows.slot_tuple_getitem
  (wpAny_call_entry PyProof.Rows.slot_tuple_getitem ht.typeIs entry_tuple_getitem ?_ (args_tuple_getitem _ _)))
 show wpAny _ _ (Builtin.Tuple.tupleItemsOf (.ref t) >>= _) _ _ s
 refine wpAny_bind (tupleItemsOf_ ht ?_)
 refine wpAny_bind (wpAny_typeOf hTs ?_)
 rw [if_pos (by decide)]
 refine wpAny_bind (sliceApplied_gen hs pl pu ?_)
 have hno:¬((((sIx items.size 0 lo:Nat):Int)==0&&(1:Int)==1&&(sIx items.size items.size hi - sIx items.size 0 lo)==items.size)=true):=by
  intro q
  rw [Bool.and_eq_true,Bool.and_eq_true] at q
  have q1:((sIx items.size 0 lo:Nat):Int)=0:=eq_of_beq q.1.1
  have q2:sIx items.size items.size hi - sIx items.size 0 lo=items.size:=eq_of_beq q.2
  exact hw ⟨by omega,by omega⟩
 show wpAny _ _ (if (((sIx items.size 0 lo:Nat):Int)==0&&(1:Int)==1&&(sIx items.size items.size hi - sIx items.size 0 lo)==items.size)=true then _ else _) _ _ s
 rw [if_neg hno,pick_gen]
 first
  |exact wpAny_bind (m:=Builtin.Tuple.tupleExact _) (wpAny_newObj_type (wpAny_pure ⟨_,rfl,wpAny_pure h⟩) htake)
  |exact wpAny_bind (m:=Builtin.Tuple.tupleExact _) (wpAny_newObj_type (wpAny_bind (wpAny_pure (wpAny_pure ⟨_,rfl,wpAny_pure h⟩))) htake)
  |exact wpAny_bind (wpAny_bind (m:=Builtin.Tuple.tupleExact _) (wpAny_newObj_type (wpAny_pure (wpAny_pure ⟨_,rfl,wpAny_pure h⟩)) htake))
  |exact wpAny_bind (wpAny_bind (m:=Builtin.Tuple.tupleExact _) (wpAny_newObj_type (wpAny_pure ⟨_,rfl,wpAny_pure h⟩) htake))
end
end HT
namespace L2
open PySem PySem.Spec PyProof.Rows
abbrev TO:=St→Hp→(Option Int→Hp→Prop)→Prop
def PO(X:Cx)(e:Option Expr)(t:TO):Prop :=
 ∀(pins:List (Addr × Obj)) (s:Shared) (σ:St) (H:Hp) (Q:Option Int→Hp→Prop),Inv X pins σ H s→t σ H Q →
  wpAny (model X.prog X.w) X.A (evalPart e X.env) (fun u s'=>∃o H',Inv X pins σ H' s'∧IsPart u o∧Q o H') X.xe s
def tNoPart:TO:=fun _ H Q=>Q none H
def tPart(t:TE):TO:=fun σ H Q=>t σ H fun x H1=>∃i,x=.int i∧Q (some i) H1
section
variable{X:Cx}{e:Expr}{te:TE}{lo hi:Option Expr}{tl th:TO}{pos p2:Pos}
theorem po_none:PO X none tNoPart:=by
 intro pins s σ H Q I h
 rw [evalPart_none]
 exact wpAny_pure ⟨none,H,I,.none,h⟩
theorem po_some(h:PE X e te):PO X (some e) (tPart te):=by
 intro pins s σ H Q I hw
 rw [evalPart_some]
 refine thn (h pins s σ H _ I hw) fun u s1 ⟨x,H1,I1,r1,q1⟩=>?_
 obtain⟨i,rfl,q⟩:=q1
 obtain⟨t,rfl⟩:=r1
 exact⟨some i,H1,I1,.int i t,q⟩
def SlR(X:Cx)(r:V→Option Int→Option Int→Hp→VK→Prop):Prop :=
 ∀(pins:List (Addr × Obj)) (s:Shared) (σ:St) (H:Hp) (x:V) (v vl vu:Value) (lo hi:Option Int) (sl:Addr) (Q:VK),Inv X pins σ H s→RelV x v→s.heap.IsSliceOf sl vl vu .none→IsPart vl lo→IsPart vu hi→r x lo hi H Q →
  ∃T id,typeLookup (.type T) "__getitem__"=pure (some (.builtin id))∧s.TypeIs v T∧wpAny (model X.prog X.w) X.A (getItem v (.ref sl)) (EP X pins σ Q) X.xe s
def tSl(r:V→Option Int→Option Int→Hp→VK→Prop)(te:TE)(tl th:TO):TE:=fun σ H Q=>te σ H fun x H1=>tl σ H1 fun l H2=>th σ H2 fun u H3=>r x l u H3 Q
theorem pe_slice{r:V→Option Int→Option Int→Hp→VK→Prop}(hr:SlR X r)(he:PE X e te)(hl:PO X lo tl)(hu:PO X hi th):PE X (.Subscript e (.Slice lo hi none p2) pos) (tSl r te tl th):=by
 intro pins s σ H Q I h
 refine Subscript_ (thn (he pins s σ H _ I h) fun v s1 ⟨x,H1,I1,r1,q1⟩=>?_)
 refine wpAny_Slice (thn (hl pins s1 σ H1 _ I1 q1) fun vl s2 ⟨l,H2,I2,pl,q2⟩=>thn (hu pins s2 σ H2 _ I2 q2) fun vu s3 ⟨u,H3,I3,pu,q3⟩=>?_)
 rw [evalPart_none]
 refine wpAny_pure ?_
 have I4:Inv X pins σ H3 { s3 with heap:=s3.heap.push { cls:=.type "slice",data:=.fields #[vl,vu,.none] } }:=I3.kept (t':=s3.toks) fun b ob q=>Heap.get?_push_of_some _ q
 obtain⟨T,id,hT,ht,hg⟩:=hr pins { s3 with heap:=s3.heap.push { cls:=.type "slice",data:=.fields #[vl,vu,.none] } } σ H3 x v vl vu l u s3.heap.objs.size Q I4 r1 (Heap.IsSliceOf.new ..) pl pu q3
 show wpAny (model X.prog X.w) X.A (subscriptTail e (.Slice lo hi none p2) v (.ref s3.heap.objs.size)) (EP X pins σ Q) X.xe { s3 with heap:=s3.heap.push { cls:=.type "slice",data:=.fields #[vl,vu,.none] } }
 exact tail_any (ops:=[.ref s3.heap.objs.size,v]) ht hT hg (by with_unfolding_all rfl)
def cutV(xs:List V)(lo hi:Option Int):List V:=(xs.drop (HT.sIx xs.length 0 lo)).take (HT.sIx xs.length xs.length hi - HT.sIx xs.length 0 lo)
theorem cutV_length(xs:List V)(lo hi:Option Int):(cutV xs lo hi).length≤xs.length:=by
 unfold cutV
 rw [List.length_take,List.length_drop]
 omega
def rSlT(K:PySem.W.Frag):V→Option Int→Option Int→Hp→VK→Prop:=fun x lo hi H Q=>∃a xs,x=.ref a∧SqT K H a xs ∧
 ¬(HT.sIx xs.length 0 lo=0∧HT.sIx xs.length xs.length hi=xs.length)∧∀p,H p=none→Q (.ref p) (upd H p (.tup (cutV xs lo hi)))
theorem sl_tup:SlR X (rSlT X.K):=by
 intro pins s σ H x v vl vu lo hi sl Q I rx hs pl pu h
 obtain⟨a,xs,rfl,hx,hw,q⟩:=h
 cases rx
 obtain⟨its,r,ht,hz⟩:=I.tuple hx
 have hlen:its.toArray.size=xs.length:=by rw [List.size_toArray];exact r.length.symm
 refine⟨"tuple",_,PyProof.Rows.slot_tuple_getitem.lookup,ht.typeIs,?_⟩
 refine HT.getItem_tuple_cut ht hs pl pu (by rw [hlen];exact hw) ?_ (by rw [hlen];exact hz)
 rw [hlen]
 refine⟨.ref s.heap.objs.size,_,I.laid (t':=s.toks) (o:=.tup (cutV xs lo hi)) (fun b ob q=>Heap.get?_push_of_some _ q) (Nat.le_refl _) ?_,rfl,q _ (I.hok.fresh (Nat.le_refl _))⟩
 exact⟨Nat.le_trans (cutV_length xs lo hi) hz,_,(r.drop (HT.sIx xs.length 0 lo)).take (HT.sIx xs.length xs.length hi - HT.sIx xs.length 0 lo),IsTup.new _ _⟩
end
end L2
namespace L2
open PySem PySem.Spec PyProof.Rows
def ixN(n:Nat)(i:Int):Option Nat:=if 0≤i then (if i < n then some i.toNat else none) else if -(n:Int)≤i then some (i+n).toNat else none
def atI{α:Type}(xs:List α)(i:Int):Option α:=(ixN xs.length i).bind fun j=>xs[j]?
theorem ixN_seq{n:Nat}{i:Int}{j:Nat}(h:ixN n i=some j):seqIndex? i n=some j∧j < n∧-(n:Int)≤i∧i < n:=by
 unfold ixN at h
 by_cases h0:0≤i
 ·rw [if_pos h0] at h
  by_cases h1:i < n
  ·rw [if_pos h1] at h
   have e:i.toNat=j:=Option.some.inj h
   exact⟨by rw [seqIndex_of h0 h1,e],by omega,by omega,h1⟩
  ·rw [if_neg h1] at h;cases h
 ·rw [if_neg h0] at h
  by_cases h1:-(n:Int)≤i
  ·rw [if_pos h1] at h
   have e:(i+n).toNat=j:=Option.some.inj h
   exact⟨by rw [seqIndex_neg (by omega) h1,e],by omega,h1,by omega⟩
  ·rw [if_neg h1] at h;cases h
theorem atI_get{α:Type}{xs:List α}{i:Int}{v:α}(h:atI xs i=some v):∃j,seqIndex? i xs.length=some j∧xs[j]?=some v∧j < xs.length∧-(xs.length:Int)≤i∧i < xs.length:=by
 unfold atI at h
 cases e:ixN xs.length i with
 |none=>rw [e] at h;cases h
 |some j =>
  rw [e] at h
  obtain⟨h1,h2,h3,h4⟩:=ixN_seq e
  exact⟨j,h1,h,h2,h3,h4⟩
theorem atI_nat{α:Type}{xs:List α}{j:Nat}{v:α}(h:xs[j]?=some v):atI xs (j:Int)=some v:=by
 have hj:j < xs.length:=(List.getElem?_eq_some_iff.mp h).1
 have e:ixN xs.length (j:Int)=some j:=by
  unfold ixN
  rw [if_pos (by omega),if_pos (by omega)];simp
 unfold atI;rw [e];exact h
def PlainIx(b:Expr):Prop:=∀o i,subscripted b false o i=operate [o,i] (getItem o i)
def IxR(X:Cx)(r:R2):Prop :=
 ∀(value slice:Expr) (pins:List (Addr × Obj)) (s:Shared) (σ:St) (H:Hp) (x y:V) (v u:Value) (Q:VK),Inv X pins σ H s→RelV x v→RelV y u→r x y H Q →
  subscripted slice false v u=operate [v,u] (getItem v u)→wpAny (model X.prog X.w) X.A (subscriptTail value slice v u) (EP X pins σ Q) X.xe s
def MtR(X:Cx)(id:String)(r:V→List V→Hp→VK→Prop):Prop :=
 ∀(pins:List (Addr × Obj)) (s:Shared) (σ:St) (H:Hp) (x:V) (xs:List V) (v:Value) (us:List Value) (Q:VK),Inv X pins σ H s→RelV x v→Vals xs us→r x xs H Q →
  wpAny (model X.prog X.w) X.A (call (.builtin id) (v::us)) (EP X pins σ Q) X.xe s
section
variable{X:Cx}{a b:Expr}{ta tb:TE}{pos:Pos}
theorem pe_ix{r:R2}(hr:IxR X r)(ha:PE X a ta)(hb:PE X b tb)(hs:PlainIx b):PE X (.Subscript a b pos) (tOp r ta tb):=by
 intro pins s σ H Q I h
 exact Subscript_ (binT ha hb I h fun v u s2 x y H2 I2 rx ry q=>hr a b pins s2 σ H2 x y v u Q I2 rx ry q (hs _ _))
inductive Wg (S:PySem.W.Frag→Hp→Addr→List V→Prop) (K:PySem.W.Frag) (x y:V) (H:Hp) (Q:VK):Prop
 |mk (p:Addr) (xs:List V) (i:Int) (v:V) (a:x=.ref p) (b:y=.int i) (c:S K H p xs) (d:atI xs i=some v) (q:Q v H)
def rIxL(K:PySem.W.Frag):R2:=fun x y H Q=>Wg SqL K x y H Q
def rIxT(K:PySem.W.Frag):R2:=fun x y H Q=>Wg SqT K x y H Q
def rIxS:R2:=fun x y H Q=>∃z i c,x=.str z∧y=.int i∧z.length≤sizeLine∧atI z.cps.toList i=some c∧Q (.str ⟨#[c]⟩) H
theorem ix_list:IxR X (rIxL X.K):=by
 intro value slice pins s σ H x y v u Q I rx ry h hs
 obtain⟨p,xs,i,z,rfl,rfl,hq,he,q⟩:=h
 cases rx
 obtain⟨t,rfl⟩:=ry
 obtain⟨its,r,pl,hz⟩:=I.list hq
 obtain⟨j,h1,h2,h3,h4,h5⟩:=atI_get he
 obtain⟨w,ew,rw'⟩:=r.get h2
 have hl:=r.length
 have hn:=line63
 have fin:EP X pins σ Q w s:=⟨z,H,I,rw',q⟩
 by_cases h0:0≤i
 ·have hj:i.toNat=j:=by
   rw [seqIndex_of h0 h5] at h1
   exact Option.some.inj h1
  exact item_listR pl.isList h0 (by omega) (by rw [hj];simpa using ew) fin hs
 ·have hj:(i+(its.toArray.size:Int)).toNat=j:=by
   rw [seqIndex_neg (by omega) h4] at h1
   rw [List.size_toArray,←hl]
   exact Option.some.inj h1
  exact subscriptTail_builtinR (x:=w) pl.isList.typeIs slot_list_getitem.lookup
   (wpAny_getItem_list_neg (Q:=fun r s'=>r=w∧EP X pins σ Q r s') pl.isList (by omega) (by rw [List.size_toArray]<;>omega) (by omega) (by rw [hj];simpa using ew) ⟨rfl,fin⟩) hs
theorem ix_tup:IxR X (rIxT X.K):=by
 intro value slice pins s σ H x y v u Q I rx ry h hs
 obtain⟨p,xs,i,z,rfl,rfl,hq,he,q⟩:=h
 cases rx
 obtain⟨t,rfl⟩:=ry
 obtain⟨its,r,pl,hz⟩:=I.tuple hq
 obtain⟨j,h1,h2,h3,h4,h5⟩:=atI_get he
 obtain⟨w,ew,rw'⟩:=r.get h2
 have hl:=r.length
 have hn:=line63
 have fin:EP X pins σ Q w s:=⟨z,H,I,rw',q⟩
 exact subscriptTail_builtinR (x:=w) pl.typeIs slot_tuple_getitem.lookup
  (getItem_tuple (j:=j) (Q:=fun r s'=>r=w∧EP X pins σ Q r s') pl (by omega) (by omega) (by rw [List.size_toArray,←hl];exact h1) (by simpa using ew) ⟨rfl,fin⟩) hs
theorem ix_str:IxR X rIxS:=by
 intro value slice pins s σ H x y v u Q I rx ry h hs
 obtain⟨z,i,c,rfl,rfl,hz,he,q⟩:=h
 obtain⟨t,rfl⟩:=rx
 obtain⟨t',rfl⟩:=ry
 obtain⟨j,h1,h2,h3,h4,h5⟩:=atI_get he
 have hl:z.cps.toList.length=z.length:=by simp [Str.length]
 rw [hl] at h1 h4 h5
 have hn:=line63
 exact tail_any (typeIs_str s z t) slot_str_getitem.lookup (getItem_str (c:=c) (by
  have e1:decide (i < -(2 ^ 63:Int))=false:=decide_eq_false (by omega)
  have e2:decide (i≥2 ^ 63)=false:=decide_eq_false (by omega)
  rw [e1,e2,Bool.or_false]) (by rw [h1];simpa using h2) ⟨.str ⟨#[c]⟩,H,I.tok _,⟨_,rfl⟩,q⟩) hs
theorem mapSeq_set(its:List Value)(n j:Nat)(u:Value):Obj.mapSeq (·.setIfInBounds j u) { cls:=.type "list",data:=.seq its.toArray n }={ cls:=.type "list",data:=.seq (its.set j u).toArray n }:=by
 simp [Obj.mapSeq]
theorem Inv.lst{pins:List (Addr × Obj)}{σ:St}{H:Hp}{s:Shared}{p:Addr}{xs:List V}(I:Inv X pins σ H s)(h:H p=some (.lst xs)) :
  ∃(its:List Value) (n:Nat),Vals xs its∧s.heap.get? p=some { cls:=.type "list",data:=.seq its.toArray n }∧xs.length≤sizeLine:=by
 obtain⟨z,its,n,r,e⟩:=I.hok p _ h
 exact⟨its,n,r,e,z⟩
theorem Inv.lstUpd{pins:List (Addr × Obj)}{σ:St}{H:Hp}{s:Shared}{p:Addr}{xs ys:List V}{its its':List Value}{n n':Nat}{f:Obj→Obj}(I:Inv X pins σ H s)(h:H p=some (.lst xs))
  (ho:s.heap.get? p=some { cls:=.type "list",data:=.seq its.toArray n }) (hf:f { cls:=.type "list",data:=.seq its.toArray n }={ cls:=.type "list",data:=.seq its'.toArray n' }) (r:Vals ys its') (hz:ys.length≤sizeLine) (t:Nat) :
  Inv X pins σ (upd H p (.lst ys)) { s with heap:=s.heap.update p f,toks:=t }:=by
 have e:(s.heap.update p f).get? p=some { cls:=.type "list",data:=.seq its'.toArray n' }:=by
  rw [Heap.get?_update_self f ho (by rw [hf]<;>rfl),hf]
 refine I.write (x:=p) (e:=p) (by rw [h];trivial) (.inl rfl) (fun b u hb q=>(Heap.get?_update_other _ _ (Ne.symm hb)).trans q) ⟨_,e⟩ ?_
 exact⟨hz,its',n',r,e⟩
def rSetL:V→V→V→Hp→(Hp→Prop)→Prop:=fun o i v H Q=>∃p xs k j,o=.ref p∧i=.int k∧H p=some (.lst xs)∧ixN xs.length k=some j∧Q (upd H p (.lst (xs.set j v)))
theorem set_list:PSet X rSetL:=by
 intro pins s σ H o i v ov iv u Q I ro ri rv h
 obtain⟨p,xs,k,j,rfl,rfl,hp,hj,q⟩:=h
 cases ro
 obtain⟨t,rfl⟩:=ri
 obtain⟨its,n,r,ho,hz⟩:=I.lst hp
 obtain⟨h1,h2,h3,h4⟩:=ixN_seq hj
 have hl:=r.length
 have hn:=line63
 have I':Inv X pins σ (upd H p (.lst (xs.set j v))) { s with heap:=s.heap.update p (Obj.mapSeq (·.setIfInBounds j u)) } :=
  I.lstUpd hp ho (mapSeq_set its n j u) (r.set rv j) (by rw [List.length_set];exact hz) s.toks
 by_cases h0:0≤k
 ·have hk:k.toNat=j:=by
   rw [seqIndex_of h0 h4] at h1
   exact Option.some.inj h1
  exact PySem.W.ki_setAt ho h0 (by omega) (by rw [List.size_toArray,←hl];exact h4) (by rw [hk];exact⟨_,I',q⟩)
 ·have hk:(k+(its.toArray.size:Int)).toNat=j:=by
   rw [seqIndex_neg (by omega) h3] at h1
   rw [List.size_toArray,←hl]
   exact Option.some.inj h1
  exact PySem.W.ki_setBack ho (by omega) (by rw [List.size_toArray,←hl];exact h3) (by omega) (by rw [hk];exact⟨_,I',q⟩)
theorem slice_bounds(lo hi:Option Int)(n:Nat):(sliceBounds lo hi none n).1=((HT.sIx n 0 lo:Nat):Int)∧(sliceBounds lo hi none n).2.1=((HT.sIx n n hi:Nat):Int)∧(sliceBounds lo hi none n).2.2=1:=by
 refine⟨?_,?_,rfl⟩
 ·cases lo with
  |none=>simp [sliceBounds,HT.sIx]
  |some i =>
   simp only [sliceBounds,HT.sIx,Option.getD_none,show(1:Int) > 0 by decide,if_true]
   by_cases h:i < 0
   ·simp only [h,if_true]<;>omega
   ·simp only [h,if_false]<;>omega
 ·cases hi with
  |none=>simp [sliceBounds,HT.sIx]
  |some i =>
   simp only [sliceBounds,HT.sIx,Option.getD_none,show(1:Int) > 0 by decide,if_true]
   by_cases h:i < 0
   ·simp only [h,if_true]<;>omega
   ·simp only [h,if_false]<;>omega
theorem slicePick_cut(its:List Value)(lo hi:Option Int):slicePick its.toArray lo hi none=((its.drop (HT.sIx its.length 0 lo)).take (HT.sIx its.length its.length hi - HT.sIx its.length 0 lo)).toArray:=by
 obtain⟨h1,h2,h3⟩:=slice_bounds lo hi its.toArray.size
 unfold slicePick
 rw [h1,h2,h3]
 simp only [sliceRange_one,pick_run,List.size_toArray]<;>rfl
def rSlL(K:PySem.W.Frag):V→Option Int→Option Int→Hp→VK→Prop:=fun x lo hi H Q=>∃a xs,x=.ref a∧SqL K H a xs∧∀p,H p=none→Q (.ref p) (upd H p (.lst (cutV xs lo hi)))
theorem sl_list:SlR X (rSlL X.K):=by
 intro pins s σ H x v vl vu lo hi sl Q I rx hs pl pu h
 obtain⟨a,xs,rfl,hx,q⟩:=h
 cases rx
 obtain⟨its,r,ht,hz⟩:=I.list hx
 have hlen:=r.length
 refine⟨"list",_,slot_list_getitem.lookup,ht.isList.typeIs,?_⟩
 refine wpAny_getItem_list_slice ht.isList hs pl pu .none (by simp) ?_ (by rw [List.size_toArray]<;>omega)
 rw [slicePick_cut,←hlen]
 refine⟨.ref s.heap.objs.size,_,I.laid (t':=s.toks) (o:=.lst (cutV xs lo hi)) (fun b ob q=>Heap.get?_push_of_some _ q) (Nat.le_refl _) ?_,rfl,q _ (I.hok.fresh (Nat.le_refl _))⟩
 exact⟨Nat.le_trans (cutV_length xs lo hi) hz,_,0,(r.drop (HT.sIx xs.length 0 lo)).take (HT.sIx xs.length xs.length hi - HT.sIx xs.length 0 lo),Heap.get?_push_size _ rfl⟩
def flatV:V→Bool
 |.non=>true
 |.bl _=>true
 |.int _=>true
 |.str _=>true
 |_=>false
def eqV:V→V→Bool
 |.non,.non=>true
 |.bl a,.bl b=>a==b
 |.bl a,.int b=>(if a then 1 else 0)==b
 |.int a,.bl b=>a==(if b then 1 else 0)
 |.int a,.int b=>a==b
 |.str a,.str b=>a==b
 |_,_=>false
theorem eqAt_V{A:Around}{s:Shared}{y x:V}{u v:Value}(ry:RelV y u)(rx:RelV x v)(fy:flatV y=true)(fx:flatV x=true):SeqAt.EqAt A s u v (eqV y x):=by
 cases y with
 |non =>
  cases ry
  cases x with
  |non=>cases rx;exact SeqAt.EqAt.same _
  |bl b=>cases rx;exact SeqAt.EqAt.none_bool b
  |int b=>obtain⟨t,rfl⟩:=rx;exact SeqAt.EqAt.none_int b t
  |str b=>obtain⟨t,rfl⟩:=rx;exact SeqAt.EqAt.none_str b t
  |_=>exact absurd (show false=true from fx) Bool.false_ne_true
 |bl a =>
  cases ry
  cases x with
  |non=>cases rx;exact SeqAt.EqAt.bool_none a
  |bl b=>cases rx;exact SeqAt.EqAt.bool_bool a b
  |int b=>obtain⟨t,rfl⟩:=rx;exact SeqAt.EqAt.bool_int a b t
  |str b=>obtain⟨t,rfl⟩:=rx;exact SeqAt.EqAt.bool_str a b t
  |_=>exact absurd (show false=true from fx) Bool.false_ne_true
 |int a =>
  obtain⟨t',rfl⟩:=ry
  cases x with
  |non=>cases rx;exact SeqAt.EqAt.int_none a t'
  |bl b=>cases rx;exact SeqAt.EqAt.int_bool a t' b
  |int b=>obtain⟨t,rfl⟩:=rx;exact SeqAt.EqAt.int_int a t' b t
  |str b=>obtain⟨t,rfl⟩:=rx;exact SeqAt.EqAt.int_str a t' b t
  |_=>exact absurd (show false=true from fx) Bool.false_ne_true
 |str a =>
  obtain⟨t',rfl⟩:=ry
  cases x with
  |non=>cases rx;exact SeqAt.EqAt.str_none a t'
  |bl b=>cases rx;exact SeqAt.EqAt.str_bool a t' b
  |int b=>obtain⟨t,rfl⟩:=rx;exact SeqAt.EqAt.str_int a t' b t
  |str b=>obtain⟨t,rfl⟩:=rx;exact SeqAt.EqAt.str_str a t' b t
  |_=>exact absurd (show false=true from fx) Bool.false_ne_true
 |_=>exact absurd (show false=true from fy) Bool.false_ne_true
def eqU(x:V)(u:Value):Bool:=match u with
 |.none=>eqV .non x
 |.bool b=>eqV (.bl b) x
 |.int i _=>eqV (.int i) x
 |.str z _=>eqV (.str z) x
 |_=>false
theorem eqU_of{x y:V}{u:Value}(r:RelV y u)(f:flatV y=true):eqU x u=eqV y x:=by
 cases y with
 |non=>cases r;rfl
 |bl b=>cases r;rfl
 |int i=>obtain⟨t,rfl⟩:=r;rfl
 |str z=>obtain⟨t,rfl⟩:=r;rfl
 |_=>exact absurd (show false=true from f) Bool.false_ne_true
theorem any_eqU{x:V}:∀{xs:List V} {us:List Value},Vals xs us→xs.all flatV=true→us.any (eqU x)=xs.any fun y=>eqV y x
 |_,_,.nil,_=>rfl
 |y::xs,u::us,.cons r t,f=>by
  rw [List.all_cons,Bool.and_eq_true] at f
  rw [List.any_cons,List.any_cons,eqU_of r f.1,any_eqU t f.2]
theorem mem_eqAt{A:Around}{s:Shared}{x:V}{v:Value}(rx:RelV x v)(fx:flatV x=true):∀{xs:List V} {us:List Value},Vals xs us→xs.all flatV=true→∀u∈us,SeqAt.EqAt A s u v (eqU x u)
 |_,_,.nil,_=>fun u hu=>by cases hu
 |y::xs,u::us,.cons r t,f=>fun u' hu=>by
  rw [List.all_cons,Bool.and_eq_true] at f
  rcases List.mem_cons.mp hu with rfl|hu
  ·rw [eqU_of r f.1];exact eqAt_V r rx f.1 fx
  ·exact mem_eqAt rx fx t f.2 u' hu
def inV(x:V)(xs:List V):Bool:=xs.any fun y=>eqV y x
def rIn(K:PySem.W.Frag)(neg:Bool):R2:=fun x y H Q=>∃p xs,y=.ref p∧(SqL K H p xs∨SqT K H p xs)∧flatV x=true∧xs.all flatV=true∧Q (.bl (if neg then !inV x xs else inV x xs)) H
theorem op_in_seq:OpR X (compareOp .In) (rIn X.K false):=by
 intro pins s σ H x y v u Q I rx ry h
 obtain⟨p,xs,rfl,hq,fx,fs,q⟩:=h
 cases ry
 rcases hq with hq|hq
 ·obtain⟨its,r,pl,hz⟩:=I.list hq
  refine SeqAt.in_listAt (eqU x) pl.isList (fun w hw=>mem_eqAt rx fx r fs w (by simpa using hw)) ⟨.bl _,H,I,rfl,?_⟩
  rw [show its.toArray.any (eqU x)=its.any (eqU x) by simp,any_eqU r fs]
  exact q
 ·obtain⟨its,r,pl,hz⟩:=I.tuple hq
  refine SeqAt.in_tupleAt (eqU x) pl (fun w hw=>mem_eqAt rx fx r fs w (by simpa using hw)) ⟨.bl _,H,I,rfl,?_⟩
  rw [show its.toArray.any (eqU x)=its.any (eqU x) by simp,any_eqU r fs]
  exact q
theorem call_len_seq:CallR X (.builtin "len") (fun xs H Q=>∃p ys,xs=[.ref p]∧(SqL X.K H p ys∨SqT X.K H p ys)∧Q (.int ys.length) H):=by
 intro pins s σ H xs us Q I r h
 obtain⟨p,ys,rfl,hq,q⟩:=h
 obtain⟨u,rfl,rx⟩:=vals1 r
 cases rx
 have hn:=line63
 rcases hq with hq|hq
 ·obtain⟨its,r',pl,hz⟩:=I.list hq
  have hlen:=r'.length
  exact Calls.call_len_list pl.isList (by simp only [List.size_toArray]<;>omega) ⟨.int ys.length,H,I.tok _,⟨s.toks+1,by rw [List.size_toArray,hlen]⟩,q⟩
 ·obtain⟨its,r',pl,hz⟩:=I.tuple hq
  have hlen:=r'.length
  exact len_tuple pl (by simp only [List.size_toArray]<;>omega) ⟨.int ys.length,H,I.tok _,⟨s.toks+1,by rw [List.size_toArray,hlen]⟩,q⟩
theorem call_list_of:CallR X (.type "list") (fun xs H Q=>∃p ys,xs=[.ref p]∧(SqL X.K H p ys∨SqT X.K H p ys)∧∀l,H l=none→Q (.ref l) (upd H l (.lst ys))):=by
 intro pins s σ H xs us Q I r h
 obtain⟨p,ys,rfl,hq,q⟩:=h
 obtain⟨u,rfl,rx⟩:=vals1 r
 cases rx
 have fin:∀(its:List Value),Vals ys its→ys.length≤sizeLine→∀(h':Heap) (c':Nat),(∀b o',s.heap.get? b=some o'→h'.get? b=some o') →
   h'.get? s.heap.objs.size=some { cls:=.type "list",dict:=none,data:=.seq its.toArray c',slots:=#[] }→EP X pins σ Q (.ref s.heap.objs.size) { s with heap:=h' }:=fun its r' hz h' c' kp e =>
  ⟨.ref s.heap.objs.size,_,I.laid (t':=s.toks) kp (Nat.le_refl _) (show ObjOk X.prog X.w _ h' _ (.lst ys) from⟨hz,its,c',r',e⟩),rfl,q _ (I.hok.fresh (Nat.le_refl _))⟩
 rcases hq with hq|hq
 ·obtain⟨its,r',pl,hz⟩:=I.list hq
  have hlen:=r'.length
  obtain⟨o,ho,hc,n,hd⟩:=pl.isList
  exact call_list_seq p (.inl rfl) ho hc hd (fun h' c' kp e=>fin its r' hz h' c' kp e) (by simp only [List.size_toArray]<;>omega)
 ·obtain⟨its,r',pl,hz⟩:=I.tuple hq
  have hlen:=r'.length
  obtain⟨o,ho,hc,n,hd⟩:=pl
  exact call_list_seq p (.inr rfl) ho hc hd (fun h' c' kp e=>fin its r' hz h' c' kp e) (by simp only [List.size_toArray]<;>omega)
theorem call_tuple_of:CallR X (.type "tuple") (fun xs H Q=>∃p ys,xs=[.ref p]∧((SqL X.K H p ys∧∀l,H l=none→Q (.ref l) (upd H l (.tup ys)))∨(SqT X.K H p ys∧Q (.ref p) H))):=by
 intro pins s σ H xs us Q I r h
 obtain⟨p,ys,rfl,h⟩:=h
 obtain⟨u,rfl,rx⟩:=vals1 r
 cases rx
 rcases h with ⟨hq,q⟩|⟨hq,q⟩
 ·obtain⟨its,r',pl,hz⟩:=I.list hq
  have hlen:=r'.length
  refine call_tuple_list pl.isList (fun h' kp=>?_) (by simp only [List.size_toArray]<;>omega)
  have I1:Inv X pins σ H { s with heap:=h' }:=I.kept (t':=s.toks) kp
  have I2:Inv X pins σ (upd H h'.objs.size (.tup ys)) { s with heap:=h'.push { cls:=.type "tuple",data:=.seq its.toArray } } :=
   I1.laid (t':=s.toks) (fun b o e=>Heap.get?_push_of_some _ e) (Nat.le_refl _) (show ObjOk X.prog X.w _ _ _ (.tup ys) from⟨hz,its,r',IsTup.new _ _⟩)
  exact⟨.ref h'.objs.size,_,I2,rfl,q _ (I1.hok.fresh (Nat.le_refl _))⟩
 ·obtain⟨its,r',pl,hz⟩:=I.tuple hq
  exact call_tuple_same pl ⟨.ref p,H,I,rfl,q⟩
def tyV(K:PySem.W.Frag)(T:String)(x:V)(H:Hp):Prop:=match x with
 |.str _=>T="str"
 |.int _=>T="int"
 |.ref p=>(T="list"∧∃xs,SqL K H p xs)∨(T="tuple"∧∃o,K.lookup p=some o∧o.cls=.type "tuple"∧o.dict=none) ∨
   (T="dict"∧((∃kvs,H p=some (.dK kvs))∨∃kvs,H p=some (.dT kvs)))∨(T="set"∧∃S n,H p=some (.set S n))
 |_=>False
theorem tyV_is{pins:List (Addr × Obj)}{σ:St}{H:Hp}{s:Shared}{T:String}{x:V}{v:Value}(I:Inv X pins σ H s)(r:RelV x v)(ty:tyV X.K T x H) :
  s.TypeIs v T∧∀a,v=.ref a→∃ob,s.heap.get? a=some ob∧ob.dict=none:=by
 cases x with
 |str z =>
  obtain⟨t,rfl⟩:=r
  cases (show T="str" from ty)
  exact⟨typeIs_str s z t,fun _ e=>nomatch e⟩
 |int i =>
  obtain⟨t,rfl⟩:=r
  cases (show T="int" from ty)
  exact⟨typeIs_int s i t,fun _ e=>nomatch e⟩
 |ref p =>
  cases r
  rcases ty with ⟨rfl,xs,hq⟩|⟨rfl,o,hk,hc,hd⟩|⟨rfl,hk⟩|⟨rfl,S,n,hk⟩
  ·obtain⟨its,_,pl,_⟩:=I.list hq
   refine⟨pl.isList.typeIs,fun a e=>?_⟩
   cases e
   obtain⟨o,n,e,c,hd,_⟩:=pl
   exact⟨o,e,hd⟩
  ·refine⟨⟨o,I.kIn p o hk,hc⟩,fun a e=>?_⟩
   cases e
   exact⟨o,I.kIn _ o hk,hd⟩
  ·have z:∃o,s.heap.get? p=some o∧o.ExactDict:=by
    rcases hk with ⟨kvs,hk⟩|⟨kvs,hk⟩
    ·obtain⟨_,_,_,_,o,_,_,e,ex,_⟩:=I.hok p _ hk
     exact⟨o,e,ex⟩
    ·obtain⟨_,_,_,_,o,_,_,e,ex,_⟩:=I.hok p _ hk
     exact⟨o,e,ex⟩
   obtain⟨o,e,ex⟩:=z
   refine⟨⟨o,e,ex.1⟩,fun a e2=>?_⟩
   cases e2
   exact⟨o,e,ex.2.1⟩
  ·obtain⟨o,_,_,_,e,ex,_⟩:=I.hok p _ hk
   refine⟨⟨o,e,ex.1⟩,fun a e2=>?_⟩
   cases e2
   exact⟨o,e,ex.2.1⟩
 |_=>exact False.elim ty
structure Wh(K:PySem.W.Frag)(T:String)(r:V→List V→Hp→VK→Prop)(t:TA)(x:V)(σ:St)(H:Hp)(Q:VK):Prop where
 h:tyV K T x H
 q:t σ H fun xs H2=>r x xs H2 Q
def tBM(K:PySem.W.Frag)(T:String)(r:V→List V→Hp→VK→Prop)(to:TE)(t:TA):TE:=fun σ H Q=>to σ H fun x H1=>Wh K T r t x σ H1 Q
variable{o e:Expr}{es:List Expr}{to:TE}{t:TA}{name:Str}{apos cpos:Pos}{T id:String}{r:V→List V→Hp→VK→Prop}
theorem pe_bm(pa:PlainAttrs T)(slot:Slot T name id) (hty:typeOf (.builtin id)=pure (.type "method_descriptor")) (hm:MtR X id r) (ho:PE X o to) (ha:PA X (e::es) t)
  (hbase:attributeBase o name X.env (eval o X.env)=eval o X.env:=by rfl)
  (hfew:((backTo cpos (starEach (e::es) X.env)).all (fun x=>!x.1)&&(backToKw cpos (keywordEach [] X.env)).all (fun x=>x.1.isSome)
   && decide ((e::es).length+([]:List Keyword).length+(if ([]:List Keyword).isEmpty then 0 else 1) < 30))=true:=by rfl)
  (hline:(apos.endLine==cpos.line)=true:=by rfl) (hs:starEach (e::es) X.env=(false,eval e X.env)::starEach es X.env:=by rfl) (hplain:(backTo cpos (starEach es X.env)).any (·.1)=false:=by rfl) :
  PE X (.Call (.Attribute o name apos) (e::es) [] cpos) (tBM X.K T r to t):=by
 intro pins s σ H Q I h
 refine wpAny_Call_method_late hbase hfew hline rfl (thn (ho pins s σ H _ I h) fun v s1 ⟨x,H1,I1,r1,ty,q1⟩=>?_)
 obtain⟨h1,h2⟩:=tyV_is I1 r1 ty
 refine⟨T,id,pa,slot,hty,h1,h2,?_⟩
 have hA:=ha cpos pins s1 σ H1 _ I1 q1
 rw [hs] at hA ⊢
 refine Calls.callWith_builtin (by show(false||(backTo cpos (starEach es X.env)).any (·.1))=false;rw [hplain]<;>rfl) (Calls.evalArgs_plain ?_)
 exact thn hA fun us s2 ⟨vs,H2,I2,r2,q2⟩=>hm pins s2 σ H2 x vs v us Q I2 r1 r2 q2
/- xs.append(e),list.index on a module's tuple .. are MtR facts of 06m -/
end
end L2
namespace L2
open PySem PySem.Spec PyProof.Rows
def MtM(X:Cx)(id:String)(r:V→List V→Hp→VK→Prop):Prop :=
 ∀(pins:List (Addr × Obj)) (s:Shared) (σ:St) (H:Hp) (x:V) (xs:List V) (v:Value) (us:List Value) (Q:VK),Inv X pins σ H s→RelV x v→Vals xs us→r x xs H Q →
  wpAny (model X.prog X.w) X.A (call (.builtin id) (v::us)) (EP X pins σ Q) X.xe s
theorem Vals.one:∀{x:V} {us:List Value},Vals [x] us→∃u,us=[u]∧RelV x u
 |_,_,.cons r .nil=>⟨_,rfl,r⟩
theorem Vals.two:∀{x y:V} {us:List Value},Vals [x,y] us→∃u v,us=[u,v]∧RelV x u∧RelV y v
 |_,_,_,.cons r (.cons q .nil)=>⟨_,_,rfl,r,q⟩
section
variable{X:Cx}{pins:List (Addr × Obj)}{σ:St}{H:Hp}{s:Shared}{l b:Addr}{xs ys zs:List V}
theorem Inv.lset{its its':List Value}{n:Nat}{f:Array Value→Array Value}{t':Nat}(I:Inv X pins σ H s)(hH:H l=some (.lst xs))
  (e:s.heap.get? l=some { cls:=.type "list",data:=.seq its.toArray n }) (hf:f its.toArray=its'.toArray) (hv:Vals ys its') (hz:ys.length≤sizeLine) :
  Inv X pins σ (upd H l (.lst ys)) { s with heap:=s.heap.update l (Obj.mapSeq f),toks:=t' }:=by
 have q:=PySem.IsL.update e f
 rw [hf] at q
 refine I.write (x:=l) (e:=l) (by rw [hH];exact trivial) (.inl rfl) (fun b' u hb hu=>(Heap.get?_update_other s.heap (Obj.mapSeq f) (Ne.symm hb)).trans hu) ⟨_,q⟩ ?_
 exact⟨hz,its',_,hv,q⟩
theorem Inv.lnew{its:List Value}{t':Nat}(I:Inv X pins σ H s)(hv:Vals ys its)(hz:ys.length≤sizeLine) :
  Inv X pins σ (upd H s.heap.objs.size (.lst ys)) { s with heap:=s.heap.push { cls:=.type "list",data:=.seq its.toArray },toks:=t' } :=
 I.laid (fun _ _ q=>Heap.get?_push_of_some _ q) (Nat.le_refl _) ⟨hz,its,0,hv,Heap.get?_push_size _ rfl⟩
theorem Inv.fresh(I:Inv X pins σ H s):H s.heap.objs.size=none:=I.hok.fresh (Nat.le_refl _)
theorem Inv.lstM(I:Inv X pins σ H s)(hH:H l=some (.lst xs)):xs.length≤sizeLine∧∃(its:List Value) (n:Nat),Vals xs its∧xs.length=its.length∧s.heap.get? l=some { cls:=.type "list",data:=.seq its.toArray n }:=by
 obtain⟨z,its,n,r,e⟩:=I.hok l _ hH
 exact⟨z,its,n,r,r.length,e⟩
end
section
variable{X:Cx}
def rAppend:V→List V→Hp→VK→Prop:=fun x vs H Q=>∃l xs y,x=.ref l∧vs=[y]∧H l=some (.lst xs)∧xs.length < sizeLine∧Q .non (upd H l (.lst (xs++[y])))
theorem mt_append:MtM X "list.append" rAppend:=by
 intro pins s σ H x vs v us Q I rx rv h
 obtain⟨l,xs,y,rfl,rfl,hH,hz,q⟩:=h
 cases rx
 obtain⟨u,rfl,ru⟩:=rv.one
 obtain⟨z,its,n,r,hl,e⟩:=I.lstM hH
 refine call_meets F.slot_list_append ⟨_,e,rfl⟩ F.entry_list_append (F.args_list_append_2 _ _) (PySem.list_append l its.toArray n u (by rw [List.size_toArray];omega)) ⟨e,?_⟩
 refine⟨.non,_,I.lset (its':=its++[u]) hH e (by simp) (r.append (.cons ru .nil)) ?_,rfl,q⟩
 rw [List.length_append,List.length_singleton]
 omega
def rCat:R2:=fun x y H Q=>∃l b xs zs,x=.ref l∧y=.ref b∧H l=some (.lst xs)∧H b=some (.lst zs)∧xs.length+zs.length≤sizeLine∧∀p,H p=none→Q (.ref p) (upd H p (.lst (xs++zs)))
theorem op_cat:OpR X (binaryOp .Add) rCat:=by
 intro pins s σ H x y v u Q I rx ry h
 obtain⟨l,b,xs,zs,rfl,rfl,hH,hB,hz,q⟩:=h
 cases rx
 cases ry
 obtain⟨z,its,n,r,hl,e⟩:=I.lstM hH
 obtain⟨z2,its2,n2,r2,hl2,e2⟩:=I.lstM hB
 refine PySem.P.add_list e e2 ?_ (by rw [List.size_toArray,List.size_toArray];omega)
 have ea:its.toArray++its2.toArray=(its++its2).toArray:=by simp
 rw [ea]
 exact⟨.ref _,_,I.lnew (t':=s.toks) (r.append r2) (by rw [List.length_append];omega),rfl,q _ I.fresh⟩
end
section
variable{prog:Program}{w:World}{A:Around}{E:Value→Shared→Prop}{s:Shared}
end
section
variable{X:Cx}
end
end L2
namespace L2
open PySem PySem.Spec PyProof.Rows
section
variable{κ:Type}[DecidableEq κ]
def valV(kvs:List (κ × V))(k:κ):Option V:=(kvs.find? fun kv=>decide (kv.1=k)).map (·.2)
def putK(kvs:List (κ × V))(k:κ)(v:V):List (κ × V) :=
 if (kvs.any fun kv=>decide (kv.1=k))=true then kvs.map (fun kv=>if kv.1=k then (kv.1,v) else kv) else kvs++[(k,v)]
theorem valV_pos{p:κ × V}{r:List (κ × V)}{k:κ}(e:p.1=k):valV (p::r) k=some p.2:=by simp [valV,List.find?_cons,e]
theorem valV_neg{p:κ × V}{r:List (κ × V)}{k:κ}(e:¬p.1=k):valV (p::r) k=valV r k:=by simp [valV,List.find?_cons,e]
theorem valV_any(k:κ):∀kvs:List (κ × V),(kvs.any fun kv=>decide (kv.1=k))=(valV kvs k).isSome
 |[]=>rfl
 |p::r=>by
  rw [List.any_cons]
  by_cases e:p.1=k
  ·simp only [valV_pos e,decide_eq_true e,Bool.true_or,Option.isSome_some]
  ·rw [valV_neg e,decide_eq_false e,Bool.false_or];exact valV_any k r
theorem valV_map(k j:κ)(y:V):∀kvs:List (κ × V),valV (kvs.map fun kv=>if kv.1=k then (kv.1,y) else kv) j=(valV kvs j).map fun x=>if j=k then y else x
 |[]=>rfl
 |p::r=>by
  have ih:=valV_map k j y r
  rw [List.map_cons]
  by_cases h:p.1=k
  ·rw [if_pos h]
   by_cases e:p.1=j
   ·rw [valV_pos (p:=(p.1,y)) e,valV_pos e,Option.map_some,if_pos (e.symm.trans h)]
   ·rw [valV_neg (p:=(p.1,y)) e,valV_neg e,ih]
  ·rw [if_neg h]
   by_cases e:p.1=j
   ·rw [valV_pos (p:=p) e,valV_pos e,Option.map_some,if_neg (fun z=>h (e.trans z))]
   ·rw [valV_neg (p:=p) e,valV_neg e,ih]
theorem valV_snoc(k j:κ)(y:V):∀kvs:List (κ × V),valV kvs k=none→valV (kvs++[(k,y)]) j=if j=k then some y else valV kvs j
 |[],_=>by
  by_cases e:k=j
  ·rw [if_pos e.symm];exact valV_pos (p:=(k,y)) e
  ·rw [if_neg (fun z=>e z.symm)];exact valV_neg (p:=(k,y)) e
 |p::r,hn=>by
  rw [List.cons_append]
  have hk:¬p.1=k:=fun z=>by rw [valV_pos z] at hn;cases hn
  rw [valV_neg hk] at hn
  have ih:=valV_snoc k j y r hn
  by_cases e:p.1=j
  ·rw [valV_pos e,valV_pos e,if_neg (fun z=>hk (e.trans z))]
  ·rw [valV_neg e,valV_neg e,ih]
theorem valV_put(kvs:List (κ × V))(k j:κ)(y:V):valV (putK kvs k y) j=if j=k then some y else valV kvs j:=by
 unfold putK
 by_cases a:(kvs.any fun kv=>decide (kv.1=k))=true
 ·rw [if_pos a,valV_map]
  rw [valV_any] at a
  by_cases e:j=k
  ·obtain⟨x,hx⟩:=Option.isSome_iff_exists.mp a
   rw [if_pos e,e,hx,Option.map_some,if_pos rfl]
  ·rw [if_neg e]
   cases valV kvs j with
   |none=>rfl
   |some x=>rw [Option.map_some,if_neg e]
 ·rw [if_neg a]
  refine valV_snoc k j y kvs ?_
  rw [valV_any] at a
  cases q:valV kvs k with
  |none=>rfl
  |some x=>rw [q] at a;exact(a rfl).elim
theorem length_putK(kvs:List (κ × V))(k:κ)(v:V):(putK kvs k v).length≤kvs.length+1:=by
 unfold putK
 split
 ·rw [List.length_map];omega
 ·rw [List.length_append,List.length_cons,List.length_nil];omega
theorem RelO.isSome_eq{o:Option V}{u:Option Value}(r:RelO o u):o.isSome=u.isSome:=by
 cases o with
 |none=>cases u with
  |none=>rfl
  |some _=>exact(show False from r).elim
 |some _=>cases u with
  |none=>exact(show False from r).elim
  |some _=>rfl
theorem KV.val{kvs:List (κ × V)}{vs:List (κ × Value)}(r:KV kvs vs)(k:κ):RelO (valV kvs k) (valueAt vs k):=by
 unfold KV at r
 induction r with
 |nil=>exact True.intro
 |@cons p q ps qs h t ih =>
  obtain⟨h1,h2⟩:=h
  by_cases e:p.1=k
  ·have e':q.1=k:=h1.symm.trans e
   have b:valueAt (q::qs) k=some q.2:=by simp [valueAt,List.find?_cons,e']
   rw [valV_pos e,b];exact h2
  ·have e':¬q.1=k:=fun z=>e (h1.trans z)
   have b:valueAt (q::qs) k=valueAt qs k:=by simp [valueAt,List.find?_cons,e']
   rw [valV_neg e,b];exact ih
theorem KV.any{kvs:List (κ × V)}{vs:List (κ × Value)}(r:KV kvs vs)(k:κ):(kvs.any fun kv=>decide (kv.1=k))=vs.any fun kv=>decide (kv.1=k):=by
 unfold KV at r
 induction r with
 |nil=>rfl
 |cons h t ih=>rw [List.any_cons,List.any_cons,ih,h.1]
theorem KV.repl{kvs:List (κ × V)}{vs:List (κ × Value)}(r:KV kvs vs)(k:κ){y:V}{u:Value}(ry:RelV y u) :
  KV (kvs.map fun kv=>if kv.1=k then (kv.1,y) else kv) (vs.map fun kv=>if kv.1=k then (kv.1,u) else kv):=by
 unfold KV at r ⊢
 induction r with
 |nil=>exact .nil
 |@cons p q ps qs h t ih =>
  rw [List.map_cons,List.map_cons]
  refine .cons ?_ ih
  obtain⟨h1,h2⟩:=h
  by_cases e:p.1=k
  ·rw [if_pos e,if_pos (h1.symm.trans e)];exact⟨h1,ry⟩
  ·rw [if_neg e,if_neg (fun z=>e (h1.trans z))];exact⟨h1,h2⟩
theorem KV.put{kvs:List (κ × V)}{vs:List (κ × Value)}(r:KV kvs vs)(k:κ){y:V}{u:Value}(ry:RelV y u):KV (putK kvs k y) (stored vs k u):=by
 unfold putK stored
 rw [r.any k]
 by_cases e:(vs.any fun kv=>decide (kv.1=k))=true
 ·rw [if_pos e,if_pos e];exact r.repl k ry
 ·rw [if_neg e,if_neg e];exact Paired.snoc r ⟨rfl,ry⟩
theorem KV.length{kvs:List (κ × V)}{vs:List (κ × Value)}(r:KV kvs vs):kvs.length=vs.length:=Paired.length r
end
theorem kV_is{P:Program}{w:World}{k:Key}{u:Value}(r:RelV (kV k) u):(mixKind P w).is k u=true:=by
 cases k with
 |inl i=>obtain⟨t,e⟩:=(show ∃t,u=Value.int i t from r);subst e;exact mixKind_int P w i t
 |inr x=>obtain⟨t,e⟩:=(show ∃t,u=Value.str x t from r);subst e;exact mixKind_str P w x t
theorem items_are{P:Program}{w:World}:∀{ks:List Key} {us:List Value},Vals (ks.map kV) us→ItemsAre (mixKind P w) ks us
 |[],_,r=>by rw [List.map_nil] at r;cases r;exact .nil
 |k::ks,_,r=>by
  rw [List.map_cons] at r
  cases r with
  |cons h t=>exact .cons (kV_is h) (items_are t)
abbrev KT(H:Hp):List (List Key × V)→List (List Key × Addr × Value)→Prop:=Paired fun p q=>p.1=q.1∧H q.2.1=some (.tup (p.1.map kV))∧RelV p.2 q.2.2
theorem KT.val{H:Hp}{kvs:List (List Key × V)}{xs:List (List Key × Addr × Value)}(r:KT H kvs xs)(k:List Key):RelO (valV kvs k) ((atKey xs k).map (·.2)):=by
 induction r with
 |nil=>exact True.intro
 |@cons p q ps qs h t ih =>
  obtain⟨h1,_,h2⟩:=h
  by_cases e:p.1=k
  ·have e':q.1=k:=h1.symm.trans e
   have b:atKey (q::qs) k=some q.2:=by simp [atKey,List.find?_cons,e']
   rw [valV_pos e,b];exact h2
  ·have e':¬q.1=k:=fun z=>e (h1.trans z)
   have b:atKey (q::qs) k=atKey qs k:=by simp [atKey,List.find?_cons,e']
   rw [valV_neg e,b];exact ih
theorem KT.repl{H:Hp}{kvs:List (List Key × V)}{xs:List (List Key × Addr × Value)}(r:KT H kvs xs)(k:List Key){y:V}{u:Value}(ry:RelV y u) :
  KT H (kvs.map fun kv=>if kv.1=k then (kv.1,y) else kv) (xs.map (putAt k u)):=by
 induction r with
 |nil=>exact .nil
 |@cons p q ps qs h t ih =>
  rw [List.map_cons,List.map_cons]
  refine .cons ?_ ih
  obtain⟨h1,h2,h3⟩:=h
  unfold putAt
  by_cases e:p.1=k
  ·rw [if_pos e,if_pos (h1.symm.trans e)];exact⟨h1,h2,ry⟩
  ·rw [if_neg e,if_neg (fun z=>e (h1.trans z))];exact⟨h1,h2,h3⟩
theorem KT.put{H:Hp}{kvs:List (List Key × V)}{xs:List (List Key × Addr × Value)}(r:KT H kvs xs)(k:List Key){b:Addr}{y:V}{u:Value}(hb:H b=some (.tup (k.map kV)))(ry:RelV y u) :
  KT H (putK kvs k y) (storedH xs k b u):=by
 have e:(kvs.any fun kv=>decide (kv.1=k))=(atKey xs k).isSome:=by
  rw [valV_any,(r.val k).isSome_eq,Option.isSome_map]
 unfold putK storedH
 rw [e]
 by_cases q:(atKey xs k).isSome=true
 ·rw [if_pos q,if_pos q];exact r.repl k ry
 ·rw [if_neg q,if_neg q];exact Paired.snoc r ⟨rfl,hb,ry⟩
theorem KT.keeps{H H':Hp}{kvs:List (List Key × V)}{xs:List (List Key × Addr × Value)}(r:KT H kvs xs)(ht:∀b ys,H b=some (.tup ys)→H' b=some (.tup ys)):KT H' kvs xs :=
 Paired.mapP r fun _ _ z=>⟨z.1,ht _ _ z.2.1,z.2.2⟩
section
variable{P:Program}{w:World}{H:Hp}{h:Heap}{a:Addr}
theorem rd_of{u:HO}(ok:HOk P w H h)(e:Rd H a u):ObjOk P w H h a u:=e.ok ok
theorem dk_rd{kvs:List (Key × V)}(ok:HOk P w H h)(e:Rd H a (.dK kvs)):kvs.length≤sizeLine∧(a==sysModules)=false∧∃vs,KV kvs vs∧h.DictOf (mixKind P w) a vs :=
 show ObjOk P w H h a (.dK kvs) from rd_of ok e
theorem dk_of{kvs:List (Key × V)}(ok:HOk P w H h)(e:H a=some (.dK kvs)):kvs.length≤sizeLine∧(a==sysModules)=false∧∃vs,KV kvs vs∧h.DictOf (mixKind P w) a vs:=dk_rd ok (.inl e)
theorem key_of{ks:List Key}(ok:HOk P w H h)(e:H a=some (.tup (ks.map kV))):(tupleKind (mixKind P w)).is h ks a:=by
 obtain⟨_,its,r,o,h1,h2,n,h3⟩:=(show ObjOk P w H h a (.tup (ks.map kV)) from ok a _ e)
 exact⟨o,its.toArray,n,h1,h2,h3,by simpa using items_are r⟩
theorem dt_rd{kvs:List (List Key × V)}(ok:HOk P w H h)(e:Rd H a (.dT kvs)):kvs.length≤sizeLine∧(a==sysModules)=false ∧
  ∃xs,KT H kvs xs∧h.DictOfH (tupleKind (mixKind P w)) a xs:=by
 obtain⟨z,y,xs,r,o,es,ep,h1,h2,h3,h4,h5⟩:=(show ObjOk P w H h a (.dT kvs) from rd_of ok e)
 refine⟨z,y,xs,r,o,es,ep,h1,h2,h3,h4,fun x hx=>?_,h5⟩
 have all:∀{l:List (List Key × V)} {m:List (List Key × Addr × Value)},KT H l m→∀x∈m,(tupleKind (mixKind P w)).is h x.1 x.2.1:=by
  intro l m q
  induction q with
  |nil=>intro x hx;exact nomatch hx
  |@cons p q ps qs hq t ih =>
   intro x hx
   rcases List.mem_cons.mp hx with e|hx
   ·subst e
    exact key_of ok (by rw [←hq.1];exact hq.2.1)
   ·exact ih x hx
 exact all r x hx
theorem dt_of{kvs:List (List Key × V)}(ok:HOk P w H h)(e:H a=some (.dT kvs)):kvs.length≤sizeLine∧(a==sysModules)=false ∧
  ∃xs,KT H kvs xs∧h.DictOfH (tupleKind (mixKind P w)) a xs:=dt_rd ok (.inl e)
end
def DGet(H:Hp)(a:Addr)(y:V)(r:Option V):Prop :=
 (∃kvs k,Rd H a (.dK kvs)∧y=kV k∧r=valV kvs k)∨∃kvs k b,Rd H a (.dT kvs)∧y=.ref b∧H b=some (.tup (k.map kV))∧r=valV kvs k
def DPut(H:Hp)(a:Addr)(y v:V)(H':Hp):Prop :=
 (∃kvs k,H a=some (.dK kvs)∧y=kV k∧kvs.length < sizeLine∧H'=upd H a (.dK (putK kvs k v))) ∨
 ∃kvs k b,H a=some (.dT kvs)∧y=.ref b∧H b=some (.tup (k.map kV))∧kvs.length < sizeLine∧H'=upd H a (.dT (putK kvs k v))
theorem DGet.k{H:Hp}{a:Addr}{kvs:List (Key × V)}{k:Key}(e:H a=some (.dK kvs)):DGet H a (kV k) (valV kvs k):=.inl ⟨kvs,k,.inl e,rfl,rfl⟩
theorem DGet.t{H:Hp}{a b:Addr}{kvs:List (List Key × V)}{k:List Key}(e:H a=some (.dT kvs))(eb:H b=some (.tup (k.map kV))):DGet H a (.ref b) (valV kvs k):=.inr ⟨kvs,k,b,.inl e,rfl,eb,rfl⟩
theorem DPut.k{H:Hp}{a:Addr}{kvs:List (Key × V)}{k:Key}{v:V}(e:H a=some (.dK kvs))(hl:kvs.length < sizeLine):DPut H a (kV k) v (upd H a (.dK (putK kvs k v))):=.inl ⟨kvs,k,e,rfl,hl,rfl⟩
theorem DPut.t{H:Hp}{a b:Addr}{kvs:List (List Key × V)}{k:List Key}{v:V}(e:H a=some (.dT kvs))(eb:H b=some (.tup (k.map kV)))(hl:kvs.length < sizeLine) :
  DPut H a (.ref b) v (upd H a (.dT (putK kvs k v))):=.inr ⟨kvs,k,b,e,rfl,eb,hl,rfl⟩
section
variable{X:Cx}{pins:List (Addr × Obj)}{σ:St}{H:Hp}{s:Shared}{a:Addr}{y v:V}{u r:Value}{o:Option V}{A:Around}{E:Value→Shared→Prop}
theorem Inv.big(I:Inv X pins σ H s):sysModules < s.heap.objs.size:=by
 have h:mainGlobals < s.heap.objs.size:=(I.mod.glob.keeps I.bk).lt
 exact Nat.lt_trans (by decide) h
theorem d_getItem{Q:Value→Shared→Prop}(hu:A.units+1 < cLine)(I:Inv X pins σ H s)(g:DGet H a y (some v))(ry:RelV y u)(h:∀w' s',Inv X pins σ H s'→RelV v w'→Q w' s') :
  wpAny (model X.prog X.w) A (getItem (.ref a) u) Q E s:=by
 rcases g with ⟨kvs,k,e,ey,l⟩|⟨kvs,k,b,e,ey,eb,l⟩
 ·subst ey
  obtain⟨z,hd,vs,rel,dd⟩:=dk_rd I.hok e
  obtain⟨w',hw,rw'⟩:=RelO.some_of (v:=v) (o:=valueAt vs k) (by rw [l];exact rel.val k)
  exact wpAny_getItem_of (kV_is ry) dd.mapOf hw (h w' _ (I.tok _) rw')
 ·subst ey
  cases (show u=Value.ref b from ry)
  obtain⟨z,hd,xs,rel,dd⟩:=dt_rd I.hok e
  obtain⟨w',hw,rw'⟩:=RelO.some_of (v:=v) (o:=(atKey xs k).map (·.2)) (by rw [l];exact rel.val k)
  obtain⟨p,hp,hp2⟩:=Option.map_eq_some_iff.mp hw
  refine wpAny_getItem_heap (tupleKind_room_in1 hu) (key_of I.hok eb) dd hp ?_
  rw [hp2]
  exact h w' _ (I.tok _) rw'
theorem d_notIn{Q:Value→Shared→Prop}(hu:A.units+1 < cLine)(I:Inv X pins σ H s)(g:DGet H a y o)(ry:RelV y u)(h:∀s',Inv X pins σ H s'→Q (.bool (!o.isSome)) s') :
  wpAny (model X.prog X.w) A (compareOp .NotIn u (.ref a)) Q E s:=by
 rcases g with ⟨kvs,k,e,ey,l⟩|⟨kvs,k,b,e,ey,eb,l⟩
 ·subst ey
  obtain⟨z,hd,vs,rel,dd⟩:=dk_rd I.hok e
  refine wpAny_notIn_of (kV_is ry) hd dd.mapOf ?_
  rw [←(rel.val k).isSome_eq,←l]
  exact h _ (I.tok _)
 ·subst ey
  cases (show u=Value.ref b from ry)
  obtain⟨z,hd,xs,rel,dd⟩:=dt_rd I.hok e
  refine wpAny_notIn_heap (tupleKind_room_in1 hu) (key_of I.hok eb) hd dd ?_
  have q:=(rel.val k).isSome_eq
  rw [Option.isSome_map] at q
  rw [←q,←l]
  exact h _ (I.tok _)
theorem d_write{h':Heap}{t':Nat}{ob:HO}(I:Inv X pins σ H s)(mu:Mut (H a))(hs:Heap.SameBut a s.heap h')(he:∃q,h'.get? a=some q)(new:ObjOk X.prog X.w (upd H a ob) h' a ob) :
  Inv X pins σ (upd H a ob) { s with heap:=h',toks:=t' } :=
 I.write (x:=a) (e:=a) mu (.inl rfl) (fun b q hb z=>(hs.2 b hb).trans z) he new
theorem dk_new{P:Program}{w:World}{H':Hp}{h':Heap}{kvs:List (Key × V)}{vs:List (Key × Value)}(z:kvs.length≤sizeLine)(hd:(a==sysModules)=false)(rel:KV kvs vs)(dd:h'.DictOf (mixKind P w) a vs) :
  ObjOk P w H' h' a (.dK kvs):=⟨z,hd,vs,rel,dd⟩
theorem d_setItem{H':Hp}{Q:Unit→Shared→Prop}(hu:A.units+1 < cLine)(I:Inv X pins σ H s)(g:DPut H a y v H')(ry:RelV y u)(rv:RelV v r)(h:∀s',Inv X pins σ H' s'→Q () s') :
  wpAny (model X.prog X.w) A (setItem (.ref a) u r) Q E s:=by
 rcases g with ⟨kvs,k,e,ey,l,eH⟩|⟨kvs,k,b,e,ey,eb,l,eH⟩
 ·subst ey eH
  obtain⟨z,hd,vs,rel,dd⟩:=dk_of I.hok e
  have hz:vs.length≤sizeLine:=by rw [←rel.length];exact z
  have hl:(putK kvs k v).length≤sizeLine:=by have:=length_putK kvs k v;omega
  refine wpAny_setItem_pairs (hsz:=hz) (kV_is ry) dd fun h' dd' hs=>h _ ?_
  have he:∃q,h'.get? a=some q:=let ⟨q,_,_,hq,_⟩:=dd';⟨q,hq⟩
  exact d_write I (by rw [e];exact True.intro) hs he (dk_new hl hd (rel.put k rv) dd')
 ·subst ey eH
  cases (show u=Value.ref b from ry)
  obtain⟨z,hd,xs,rel,dd⟩:=dt_of I.hok e
  have hz:xs.length≤sizeLine:=by rw [←Paired.length rel];exact z
  have hl:(putK kvs k v).length≤sizeLine:=by have:=length_putK kvs k v;omega
  refine wpAny_setItem_heap (hsz:=hz) (tupleKind_room_in1 hu) (key_of I.hok eb) dd fun h' dd' hs=>h _ ?_
  obtain⟨q,es,ep,hq,h2,h3,h4,_,h5⟩:=dd'
  refine d_write I (by rw [e];exact True.intro) hs ⟨q,hq⟩ ⟨hl,hd,_,(rel.put k eb rv).keeps fun c ys ec=>?_,q,es,ep,hq,h2,h3,h4,h5⟩
  rw [upd_ne (ne_of ec e (fun z=>nomatch z))]
  exact ec
end
section
variable{X:Cx}{pins:List (Addr × Obj)}{σ:St}{H:Hp}{s:Shared}{a:Addr}{kvs:List (Key × V)}{k:Key}{u:Value}{A:Around}{E:Value→Shared→Prop}
end
def NoSl(i:Expr):Prop:=∀ov iv,subscripted i false ov iv=operate [ov,iv] (getItem ov iv)
theorem subD_of{prog:Program}{w:World}{A:Around}{E:Value→Shared→Prop}{s:Shared}{env:Env}{value slice:Expr}{pos:Pos}{T id:String}{Q:Value→Shared→Prop}
  (hl:typeLookup (.type T) "__getitem__"=pure (some (.builtin id))) (hs:NoSl slice)
  (h:wpAny (model prog w) A (eval value env) (fun o s₁=>wpAny (model prog w) A (eval slice env) (fun i s₂=>s₂.TypeIs o T∧wpAny (model prog w) A (getItem o i) Q E s₂) E s₁) E s) :
  wpAny (model prog w) A (eval (.Subscript value slice pos) env) Q E s:=by
 refine Subscript_ (wpAny_mono h (fun o s₁ h₁=>wpAny_mono h₁ (fun i s₂ h₂=>?_) fun _ _ x=>x) fun _ _ x=>x)
 obtain⟨hT,h₂⟩:=h₂
 unfold subscriptTail
 refine wpAny_bind ?_
 rw [getitemInPython_of_ne hT.not_modules]
 refine wpAny_bind (wpAny_specialOf hT hl ?_)
 have fin:wpAny (model prog w) A (subscripted slice false o i) (fun r s₃=>wpAny (model prog w) A (letTemporaryGo value o r >>= fun _=>pure r) Q E s₃) E s₂:=by
  rw [hs o i]
  exact wpAny_operating (wpAny_mono h₂ (fun r s₃ h₃=>wpAny_bind (wpAny_letTemporaryGo (wpAny_pure h₃))) fun _ _ x=>x)
 first
  |exact wpAny_pure (wpAny_bind fin)
  |exact wpAny_bind (wpAny_pure (wpAny_bind fin))
  |exact wpAny_bind fin
theorem dict_typeIs{X:Cx}{pins:List (Addr × Obj)}{σ:St}{H:Hp}{s:Shared}{a:Addr}{y:V}{o:Option V}(I:Inv X pins σ H s)(g:DGet H a y o):s.TypeIs (.ref a) "dict":=by
 rcases g with ⟨kvs,k,e,_,_⟩|⟨kvs,k,b,e,_,_,_⟩
 ·obtain⟨_,_,vs,_,dd⟩:=dk_rd I.hok e
  exact dd.typeIs
 ·obtain⟨_,_,xs,_,dd⟩:=dt_rd I.hok e
  exact dd.typeIs
def tDGet(td ty:TE):TE:=fun σ H Q=>td σ H fun x H1=>ty σ H1 fun y H2=>∃a v,x=.ref a∧DGet H2 a y (some v)∧Q v H2
def tDNotIn(ty td:TE):TE:=fun σ H Q=>ty σ H fun y H1=>td σ H1 fun x H2=>∃a o,x=.ref a∧DGet H2 a y o∧Q (.bl (!o.isSome)) H2
def sDPut(td ty tv:TE):TS:=fun D σ H=>tv σ H fun v H1=>td σ H1 fun x H2=>ty σ H2 fun y H3=>∃a H4,x=.ref a∧DPut H3 a y v H4∧D.nx σ H4
section
variable{X:Cx}{o i e value:Expr}{pos pos' tpos:Pos}{td ty tv:TE}
theorem pe_dget(hu:X.A.units+1 < cLine)(ho:PE X o td)(hi:PE X i ty)(hs:NoSl i):PE X (.Subscript o i pos) (tDGet td ty):=by
 intro pins s σ H Q I h
 refine subD_of PySem.F.slot_dict_getitem.lookup hs (thn (ho pins s σ H _ I h) fun u s1 ⟨x,H1,I1,rx,q1⟩=>thn (hi pins s1 σ H1 _ I1 q1) fun iv s2 ⟨y,H2,I2,ry,a,v,ex,g,q2⟩=>?_)
 subst ex
 obtain rfl:u=Value.ref a:=rx
 exact⟨dict_typeIs I2 g,d_getItem hu I2 g ry fun w' s3 I3 rw'=>⟨v,H2,I3,rw',q2⟩⟩
theorem pc_dnotin(hu:X.A.units+1 < cLine)(hi:PE X i ty)(ho:PE X o td):PC X .NotIn i o (tDNotIn ty td):=by
 intro pins s σ H Q I h
 refine thn (hi pins s σ H _ I h) fun iv s1 ⟨y,H1,I1,ry,q1⟩=>thn (ho pins s1 σ H1 _ I1 q1) fun u s2 ⟨x,H2,I2,rx,a,ov,ex,g,q2⟩=>?_
 subst ex
 obtain rfl:u=Value.ref a:=rx
 exact d_notIn hu I2 g ry fun s3 I3=>⟨.bl (!ov.isSome),H2,I3,rfl,q2⟩
theorem ps_dput(hu:X.A.units+1 < cLine)(ho:PE X o td)(hi:PE X i ty)(hv:PE X value tv)(hs:swapsWith value (some (.Subscript o i pos')) pos.line X.env=pure false) :
  PS X (.Assign [.Subscript o i pos'] value pos) (sDPut td ty tv):=by
 intro pins s σ H D I h
 refine wpAny_Assign_Subscript (thn (hv pins s σ H _ I h) fun r s1 ⟨v,H1,I1,rv,q1⟩=>thn (ho pins s1 σ H1 _ I1 q1) fun u s2 ⟨x,H2,I2,rx,q2⟩=>thn (hi pins s2 σ H2 _ I2 q2) fun iv s3 ⟨y,H3,I3,ry,a,H4,ex,g,q3⟩=>?_) hs
 subst ex
 obtain rfl:u=Value.ref a:=rx
 exact d_setItem hu I3 g ry rv fun s4 I4=>⟨σ,H4,I4,q3⟩
end
theorem dk_empty{P:Program}{w:World}{H:Hp}(h:Heap)(hb:sysModules < h.objs.size):ObjOk P w H (h.push { cls:=.type "dict",data:=.dict #[] }) h.objs.size (.dK []) :=
 ⟨Nat.zero_le _,beq_eq_false_iff_ne.mpr (Ne.symm (Nat.ne_of_lt hb)),[],.nil,Heap.DictOf.new h⟩
theorem dt_empty{P:Program}{w:World}{H:Hp}(h:Heap)(hb:sysModules < h.objs.size):ObjOk P w H (h.push { cls:=.type "dict",data:=.dict #[] }) h.objs.size (.dT []) :=
 ⟨Nat.zero_le _,beq_eq_false_iff_ne.mpr (Ne.symm (Nat.ne_of_lt hb)),[],.nil,_,#[],0,Heap.get?_push_size _ rfl,⟨rfl,rfl,rfl⟩,rfl,rfl,List.nodup_nil⟩
def tDNewK:TE:=fun _ H Q=>∀p,H p=none→Q (.ref p) (upd H p (.dK []))
def tDNewT:TE:=fun _ H Q=>∀p,H p=none→Q (.ref p) (upd H p (.dT []))
section
variable{X:Cx}{pos:Pos}
theorem pe_dnewK:PE X (.Dict [] [] pos) tDNewK:=fun pins s σ H Q I h =>
 wpAny_Dict_empty ⟨.ref s.heap.objs.size,_,I.laid (a:=s.heap.objs.size) (o:=.dK []) (t':=s.toks) (fun _ _ q=>Heap.get?_push_of_some _ q) (Nat.le_refl _) (dk_empty s.heap I.big),rfl,h _ (I.hok.fresh (Nat.le_refl _))⟩
theorem pe_dnewT:PE X (.Dict [] [] pos) tDNewT:=fun pins s σ H Q I h =>
 wpAny_Dict_empty ⟨.ref s.heap.objs.size,_,I.laid (a:=s.heap.objs.size) (o:=.dT []) (t':=s.toks) (fun _ _ q=>Heap.get?_push_of_some _ q) (Nat.le_refl _) (dt_empty s.heap I.big),rfl,h _ (I.hok.fresh (Nat.le_refl _))⟩
end
def tPairs:List (TE × TE)→St→Hp→(List (V × V)→Hp→Prop)→Prop
 |[],_,H,Q=>Q [] H
 |(tk,tv)::r,σ,H,Q=>tk σ H fun x H1=>tv σ H1 fun y H2=>tPairs r σ H2 fun ps H3=>Q ((x,y)::ps) H3
abbrev VV:List (V × V)→List (Value × Value)→Prop:=Paired fun p q=>RelV p.1 q.1∧RelV p.2 q.2
def PPs(X:Cx)(pos:Pos)(keys:List (Option Expr))(values:List Expr)(trs:List (TE × TE)):Prop :=
 ∀(pins:List (Addr × Obj)) (s:Shared) (σ:St) (H:Hp) (Q:List (V × V)→Hp→Prop),Inv X pins σ H s→tPairs trs σ H Q →
  wpAny (model X.prog X.w) X.A (evalPairs (pairTrees keys values X.env pos)) (fun vs s'=>∃ps H',Inv X pins σ H' s'∧VV ps vs∧Q ps H') X.xe s
theorem pps_nil{X:Cx}{pos:Pos}:PPs X pos [] [] []:=fun pins s σ H Q I h=>pairTrees_nil_walk ⟨[],H,I,.nil,h⟩
theorem pps_cons{X:Cx}{pos:Pos}{k v:Expr}{ks:List (Option Expr)}{vs:List Expr}{tk tv:TE}{trs:List (TE × TE)}(hk:PE X k tk)(hv:PE X v tv)(hr:PPs X pos ks vs trs) :
  PPs X pos (some k::ks) (v::vs) ((tk,tv)::trs):=fun pins s σ H Q I h =>
 pairTrees_cons_walk (thn (hk pins s σ H _ I h) fun u s1 ⟨x,H1,I1,rx,q1⟩=>thn (hv pins s1 σ H1 _ I1 q1) fun w2 s2 ⟨y,H2,I2,ry,q2⟩ =>
  thn (hr pins s2 σ H2 _ I2 q2) fun ws s3 ⟨ps,H3,I3,rel,q3⟩=>⟨(x,y)::ps,H3,I3,.cons ⟨rx,ry⟩ rel,q3⟩)
def mergeK(kvs more:List (Key × V)):List (Key × V):=more.foldl (fun acc kv=>putK acc kv.1 kv.2) kvs
theorem KV.merge:∀{more:List (Key × V)} {rs:List (Key × Value)} {kvs:List (Key × V)} {vs:List (Key × Value)},KV more rs→KV kvs vs→KV (mergeK kvs more) (merged vs rs):=by
 intro more rs kvs vs r
 unfold KV at r
 induction r generalizing kvs vs with
 |nil=>intro q;exact q
 |@cons p q ps qs h t ih =>
  intro r0
  have e:KV (putK kvs p.1 p.2) (stored vs q.1 q.2):=by
   have:=r0.put p.1 h.2
   rw [←h.1];exact this
  exact ih e
theorem length_mergeK:∀(more kvs:List (Key × V)),(mergeK kvs more).length≤kvs.length+more.length
 |[],kvs=>by show kvs.length≤kvs.length+0;omega
 |p::r,kvs=>by
  have h1:=length_mergeK r (putK kvs p.1 p.2)
  have h2:=length_putK kvs p.1 p.2
  show(mergeK (putK kvs p.1 p.2) r).length≤_
  rw [List.length_cons];omega
theorem carries_of{P:Program}{w:World}:∀{kvs:List (Key × V)} {ws:List (Value × Value)},VV (kvs.map fun kv=>(kV kv.1,kv.2)) ws→∃rs,Carries (mixKind P w) ws rs∧KV kvs rs
 |[],_,r=>by rw [List.map_nil] at r;cases r;exact⟨[],True.intro,.nil⟩
 |p::kvs,_,r=>by
  rw [List.map_cons] at r
  cases r with
  |@cons a b as bs h t =>
   obtain⟨rs,c,q⟩:=carries_of (P:=P) (w:=w) t
   obtain⟨b1,b2⟩:=b
   exact⟨(p.1,b2)::rs,⟨kV_is h.1,rfl,c⟩,.cons ⟨rfl,h.2⟩ q⟩
def tDisp(trs:List (TE × TE)):TE:=fun σ H Q=>∀p,H p=none→tPairs trs σ (upd H p (.dK [])) fun ps H2=>H2 p=some (.dK [])∧∃kvs:List (Key × V),ps=kvs.map (fun kv=>(kV kv.1,kv.2))∧kvs.length≤15∧Q (.ref p) (upd H2 p (.dK (mergeK [] kvs)))
theorem pe_disp{X:Cx}{pos:Pos}{keys:List (Option Expr)}{values:List Expr}{trs:List (TE × TE)}(h:PPs X pos keys values trs)(hall:keys.all (·.isSome)=true)(hl:keys.length=values.length)(h0:keys≠[])
  (h15:keys.length≤15):PE X (.Dict keys values pos) (tDisp trs):=by
 intro pins s σ H Q I q
 have hn:=I.hok.fresh (Nat.le_refl s.heap.objs.size)
 have I1:=I.laid (a:=s.heap.objs.size) (o:=.dK []) (h':=s.heap.push { cls:=.type "dict",data:=.dict #[] }) (t':=s.toks) (fun _ _ q=>Heap.get?_push_of_some _ q) (Nat.le_refl _) (dk_empty s.heap I.big)
 refine wpAny_Dict_walk (knd:=mixKind X.prog X.w) hall hl h0 h15 (thn (h pins _ σ _ _ I1 (q _ hn)) fun ws s2 ⟨ps,H2,I2,rel,e,kvs,ep,lk,q2⟩=>?_)
 subst ep
 obtain⟨rs,c,rk⟩:=carries_of (P:=X.prog) (w:=X.w) rel
 obtain⟨z,hd,vs0,r0,dd⟩:=dk_of I2.hok e
 cases r0
 refine⟨rs,c,dd,fun h' dd' hs=>⟨.ref s.heap.objs.size,_,?_,rfl,q2⟩⟩
 have hz:(mergeK [] kvs).length≤sizeLine:=by
  have h1:=length_mergeK kvs []
  rw [List.length_nil] at h1
  rw [sizeLine_eq];omega
 have he:∃q,h'.get? s.heap.objs.size=some q:=let ⟨q,_,_,hq,_⟩:=dd';⟨q,hq⟩
 exact d_write I2 (by rw [e];exact True.intro) hs he (dk_new hz hd (rk.merge .nil) dd')
structure M1(X:Cx)(o:Expr)(m:Str)(apos:Pos)(e:Expr)(cpos:Pos):Prop where
 base:attributeBase o m X.env (eval o X.env)=eval o X.env
 few:((backTo cpos (starEach [e] X.env)).all (fun x=>!x.1)&&(backToKw cpos (keywordEach [] X.env)).all (fun x=>x.1.isSome)
  && decide (([e]:List Expr).length+([]:List Keyword).length+(if ([]:List Keyword).isEmpty then 0 else 1) < 30))=true
 line:(apos.endLine==cpos.line)=true
 trees:backTo cpos (starEach [e] X.env)=[(false,eval e X.env)]
structure M2(X:Cx)(o:Expr)(m:Str)(apos:Pos)(e f:Expr)(cpos:Pos):Prop where
 base:attributeBase o m X.env (eval o X.env)=eval o X.env
 few:((backTo cpos (starEach [e,f] X.env)).all (fun x=>!x.1)&&(backToKw cpos (keywordEach [] X.env)).all (fun x=>x.1.isSome)
  && decide (([e,f]:List Expr).length+([]:List Keyword).length+(if ([]:List Keyword).isEmpty then 0 else 1) < 30))=true
 line:(apos.endLine==cpos.line)=true
 trees:backTo cpos (starEach [e,f] X.env)=[(false,eval e X.env),(false,eval f X.env)]
def IsD(H:Hp)(a:Addr):Prop:=(∃kvs,Rd H a (.dK kvs))∨∃kvs,Rd H a (.dT kvs)
section
variable{X:Cx}{pins:List (Addr × Obj)}{σ:St}{H:Hp}{s:Shared}{a:Addr}{y d:V}{u r:Value}{o:Option V}{A:Around}{E:Value→Shared→Prop}
end
section
variable{X:Cx}{o e f:Expr}{apos cpos:Pos}{td ty tx:TE}
end
section
variable{X:Cx}{pins:List (Addr × Obj)}{σ:St}{H:Hp}{s:Shared}{a:Addr}{kvs:List (Key × V)}{A:Around}{E:Value→Shared→Prop}
end
section
variable{X:Cx}{pins:List (Addr × Obj)}{σ:St}{H:Hp}{s:Shared}{a:Addr}{y:V}{u:Value}{A:Around}{E:Value→Shared→Prop}
end
end L2
namespace Att
open PySem PySem.W PySem.Calls PyProof.Rows
theorem ints_of_wellAll{P:Params}{h:Heap}:∀(ns:List Int) (vs:List Value),WellAll P h vs (ns.map WData.int)→IntsAre vs ns:=by
 intro ns
 induction ns with
 |nil =>
  intro vs w
  rw [List.map_nil] at w
  cases w
  exact .nil
 |cons n ns ih =>
  intro vs w
  rw [List.map_cons] at w
  cases w with
  |cons a b =>
   cases a
   exact .cons _ _ (ih _ b)
theorem script_of{l:OpenLaw}{n:Nat}(hn:l.most=some n){P:Params}{h:Heap}{args:List WData}{vals:List Value}
  (hpre:l.row.toRowW.claim.pre args=true) (hwl:WellAll P h vals args) :
  ∃a vs ns,vals=[Value.ref a]∧args=[WData.list (ns.map WData.int)]∧h.get? a=some { cls:=.type "list",data:=.seq vs.toArray }∧IntsAre vs ns∧ns.length≤n:=by
 have hsh:WShape.hasAll [] args [.list .int]=true:=(pre_splitW hpre).1
 have hc:l.pre.holds [] { args:=args }=true:=(pre_splitW hpre).2
 obtain⟨d,r,rfl,h1,h2⟩:=hasAllW_cons hsh
 obtain rfl:=hasAllW_nil h2
 obtain⟨xs,rfl,h3⟩:=hasW_list h1
 obtain⟨ns,rfl⟩:=items_int h3
 have hlen:ns.length≤n:=by
  unfold OpenLaw.pre at hc
  have h4:(WTm.not (.lt (.lit (.int (n:Int))) (.len (.arg 0)))).holds [] { args:=[.list (ns.map .int)] }=true:=by
   have h4:=(holds_andW hc).1
   rw [hn] at h4
   exact h4
  have h5:=condW_of h4 (w_not (w_lt w_lit (w_len_list (w_arg rfl))))
  rw [List.length_map] at h5
  refine Nat.le_of_not_lt fun q=>?_
  have q':(n:Int) < ((ns.length:Nat):Int):=by omega
  first
   |(rw [decide_eq_true q'] at h5;exact absurd h5 (by decide))
   |(simp at h5;omega)
 cases hwl with
 |cons w1 w2 =>
  cases w2
  cases w1 with
  |list ho hall=>exact⟨_,_,ns,rfl,rfl,ho,ints_of_wellAll ns _ hall,hlen⟩
theorem post_true(l:OpenLaw)(args:List WData):l.row.toRowW.claim.post args (.bool true) args=true :=
 postW_of (r:=l.row.toRowW) (X:=(true==true))
  (show WShape.has [] (.bool true) .bool=true by first|rfl|decide|simp [WShape.has,WShape.arms,WShape.armsAll])
  (show(WTm.eq .res (.lit (.bool true))).value [] { args:=args,res:=some (.bool true),after:=args }=some (.bool (true==true)) from w_eq_bool (w_res rfl) w_lit) rfl
theorem attach_call{l:OpenLaw}{n:Nat}{q:Program}{loose:List Str}{XP:(Str→Option Value)→Heap→Prop}{YP:World→Heap→Prop}{d:DefRec}
  (hn:l.most=some n) (hdf:d.params.defaults=[])
  (call:∀(w:World) (s₀ s₁:Shared) (mg mb:Str→Option Value) (fa:Addr) (o:Obj) (pm cd doc:Value) (a:Addr) (vs:List Value) (ns:List Int),
   Ground q loose [] XP w s₀ mg mb s₁.heap→YP w s₁.heap →
   s₁.heap.get? fa=some o→o.data=.func (docDef d.name d.params d.body d.scope pm cd doc)→s₁.heap.CodeRec cd d.name→mg d.name=some (.ref fa) →
   s₁.heap.get? a=some { cls:=.type "list",data:=.seq vs.toArray }→IntsAre vs ns→ns.length≤n→s₁.gens=#[] →
   codeAny (model l.prog w) callerA (.call (.ref fa) ⟨[.ref a],[]⟩) (fun r s'=>r=.ok (.ret (.bool true))∧OldK s₁.heap s'.heap∧s'.os=s₁.os∧AllBare s'.gens) s₁) :
  WalkO q loose XP YP l.row.toRowW d [] (fun f vs=>PySem.call f vs):=by
 intro w s₀ s₁ mg mb G Y fa o pm cd doc dV kV ho hd hcd hD hmg hg args vals as hpre hlay hrd hwl hlo
 obtain rfl:dV=.none:=Dflts.none hD hdf
 obtain rfl:kV=.none:=Dflts.noKw hD
 obtain⟨a,vs,ns,rfl,rfl,hobj,hints,hlen⟩:=script_of hn hpre hwl
 refine enter_call (codeAny_mono (call w s₀ s₁ mg mb fa o pm cd doc a vs ns G Y ho (fd_plain hd) hcd hmg hobj hints hlen hg) fun r s' hq=>?_)
 obtain⟨rfl,h2,h3,h4⟩:=hq
 exact⟨.inl ⟨.bool true,.bool true,[],rfl,fun _=>rfl,.bool true,post_true l _,fun _=>⟨List.Pairwise.nil,fun _ hm=>(nomatch hm)⟩⟩,h2,h3,h4⟩
section
variable{prog:Program}{w:World}{A:Around}{E:Value→Shared→Prop}{s:Shared}{K:Frag}
def ledger(h:Heap)(L d:Addr):List (Addr × Obj):=(List.range h.objs.size).filterMap fun a=>if a=L∨a=d then none else (h.get? a).map fun o=>(a,o)
end
end Att
namespace L2
open PySem PySem.Spec PyProof.Rows
theorem vals_ints:∀{vs:List Value} {ns:List Int},IntsAre vs ns→Vals (ns.map V.int) vs
 |_,_,.nil=>.nil
 |_,_,.cons n t h=>.cons ⟨t,rfl⟩ (vals_ints h)
end L2
namespace L2
open PySem PySem.Spec PyProof.Rows
abbrev KOf{K:PySem.W.Frag}{h:Heap}(_:K.In h):PySem.W.Frag:=K
end L2
/- THE LAST THEOREM (shape;LID,My.* are yours):
   My.Adr: a structure of the addresses that your layer names (classes,functions);My.Txt K t: a structure (Prop) of the equations over K;
   My.txt_mk:{K} {implicit addresses ..} (e1:nsIn K mainGlobals "law"=some (some (.ref f))) (e2:K.lookup f=some ⟨oc,od,.func (fnOf "law" "law" params body scope dV kV doc pm an cdv ct),sl⟩) (e3:codeIn K cdv "law"=true) ..:∃t,My.Txt K t
set_option maxRecDepth 100000 in
set_option maxHeartbeats 0 in
theorem PySem.Challenge.cw_LID_holds : PySem.Challenge.rw_LID.Holds := by
 w_on;o_law;k_head;(case hw=>w_witness2)
 k_fill
 refine L2.walk_of (l:=PySem.Challenge.rw_LID) (n:=63) (k:=40) (x:="script") (CX:=fun w=>..) (sp:=fun _=>My.sp_law) rfl (by decide) rfl ⟨rfl,by decide,by decide⟩ (fun w h Y=>PySem.W.kIn_of Y) ?F ?S ?C
 case F =>
  intro w mg fa h KX G hmg
  have T:∃t,My.Txt (L2.KOf KX) t:=by
   dsimp only [L2.KOf]                          -- K must stand as «<heap const> w.params» for k_is
   refine' My.txt_mk ?e1 ?e2 ?e3 ..
   (case e1=>PySem.W.k_is)                    -- in the order: a name -> its address -> its object -> its parts
   (case e2=>PySem.W.k_is)
   ..
  obtain⟨t,T⟩:=T
  have e0:=hmg.symm.trans (PySem.W.mg_of KX G T.law)
  cases e0                                       -- fa is the law's own address
  exact⟨_,fun s u=>.of_eq rfl,fun base kb nb=>My.law_fn T kb nb⟩     -- if «.of_eq rfl» comes too early: refine' ⟨_,?b,fun base kb nb=>My.law_fn T kb nb⟩;exact fun s u=>.of_eq rfl
 case S=>exact fun w H a ns hl hO hS=>..
 case C=>exact ..
(the tactic k_is has no namespace: write k_is) -/
namespace L2
open PySem PySem.Spec PyProof.Rows
def defArgs(s:Stmt):Arguments:=match s with
 |.FunctionDef _ a _ _ _ _ _ _ _ _=>a
 |_=>{ posonlyargs:=[],args:=[],vararg:=none,kwonlyargs:=[],kw_defaults:=[],kwarg:=none,defaults:=[] }
def defBody(s:Stmt):List Stmt:=match s with
 |.FunctionDef _ _ b _ _ _ _ _ _ _=>b
 |_=>[]
def defScope(s:Stmt):Scope:=match s with
 |.FunctionDef _ _ _ _ _ _ sc _ _ _=>sc
 |_=>{ kind:=.function,names:=[],isGenerator:=false,isCoroutine:=false }
abbrev CX0:CXT:=fun _ _ _ _ _ _=>False
abbrev E0:XK:=fun _ _ _=>False
theorem pass0{X:Cx}:Passes CX0 X E0:=fun _ _ _ _ _ _ _ h=>h.elim
structure Fun(K:PySem.W.Frag)(x qual:Str)(st:Stmt)(f:Addr)(fd:FuncData):Prop where
 ex:∃(oc:Value) (od:Option Addr) (kV doc pm:Value) (an:Option Addr) (cdv ct:Value) (osl:Array (Option Value)),
  fd=PySem.W.fnOf x qual (defArgs st) (defBody st) (defScope st) .none kV doc pm an cdv ct∧K.lookup f=some ⟨oc,od,.func fd,osl⟩∧PySem.W.codeIn K cdv qual=true
 kp:PySem.W.keepIn K (.ref f)=true
section
variable{P:Program}{w:World}{K:PySem.W.Frag}{mg:Str→Option Value}{base:Heap}
theorem Fun.ok{x qual:Str}{st:Stmt}{f:Addr}{fd:FuncData}{N ps:List Str}{k:Nat}{sp:Sp}(F:Fun K x qual st f fd)(S:FnScope N ps (defScope st))(len:∀vs H Q E,sp vs H Q E→vs.length=ps.length)
  (hbody:∀(cdv:Value) (A:Around) (outer:List Env) (s:Shared) (H:Hp) (vs:List V) (Q:VK) (E:XK),Room k (A.deeper (envOfC qual (defScope st) s.heap.objs.size f cdv))→sp vs H Q E →
   ∃t,PSs (cxOf CX0 P w K mg base N qual (defScope st) f cdv A outer s H E).nox (defBody st) t∧t { nx:=fun _ H'=>Q .non H',rt:=Q } (start N vs) H):FnOk P w K mg base CX0 (k+1) f fd ps sp:=by
 obtain⟨oc,od,kV,doc,pm,an,cdv,ct,osl,rfl,lk,hcd⟩:=F.ex
 refine fn_of lk hcd S len fun A outer s H vs Q E hr hsp=>?_
 obtain⟨t,h,q⟩:=hbody cdv A outer s H vs Q E hr hsp
 exact⟨t,h.nox,q⟩
theorem Fun.binds{x qual:Str}{st:Stmt}{f:Addr}{fd:FuncData}{ps:List Str}(F:Fun K x qual st f fd)
  (h:∀(kV doc pm:Value) (an:Option Addr) (cdv ct:Value) (us:List Value),us.length=ps.length→bindArgs (PySem.W.fnOf x qual (defArgs st) (defBody st) (defScope st) .none kV doc pm an cdv ct) ⟨us,[]⟩=pure (ps.zip us)):Binds K fd ps []:=by
 obtain⟨oc,od,kV,doc,pm,an,cdv,ct,osl,rfl,lk,hcd⟩:=F.ex
 exact .all (h kV doc pm an cdv ct)
theorem fun_mk{x qual:Str}{st:Stmt}{f:Addr}{oc:Value}{od an:Option Addr}{osl:Array (Option Value)}{kV doc pm cdv ct:Value}(l:K.lookup f=some ⟨oc,od,.func (PySem.W.fnOf x qual (defArgs st) (defBody st) (defScope st) .none kV doc pm an cdv ct),osl⟩)
  (c:PySem.W.codeIn K cdv qual=true) (k:PySem.W.keepIn K (.ref f)=true):Fun K x qual st f (PySem.W.fnOf x qual (defArgs st) (defBody st) (defScope st) .none kV doc pm an cdv ct):=⟨⟨oc,od,kV,doc,pm,an,cdv,ct,osl,rfl,l,c⟩,k⟩
end
theorem hu_of{A:Around}{k:Nat}(hr:Room k A):A.units+1 < cLine:=Nat.lt_of_le_of_lt (Nat.add_le_add_left (by decide:1≤64) _) hr.units
theorem small1000{n:Nat}(h:n≤1000):n < sizeLine:=Nat.lt_of_le_of_lt h (by decide)
section
variable{X:Cx}
theorem pv(i:Nat){x:Str}{pos:Pos}(hN:X.N[i]?=some x:=by rfl)(hv:Vis X.env.scope x:=by first|exact Or.inl rfl|exact Or.inr (Or.inl rfl)|exact Or.inr (Or.inr rfl)) (hd:(x==("__debug__":Str))=false:=by decide)
  (hcd:(x==("__classdict__":Str))=false:=by decide):PE X (.Name x pos) (tVar i):=pe_var hN hv hd hcd
end
theorem iteF{A B:Prop}(h:B):if false=true then A else B:=by
 rw [if_neg Bool.false_ne_true]
 exact h
theorem iteT{A B:Prop}(h:A):if true=true then A else B:=by
 rw [if_pos rfl]
 exact h
theorem ite2{c A B:Prop}[Decidable c](h1:c→A)(h2:¬c→B):if c then A else B:=by
 by_cases h:c
 ·rw [if_pos h]
  exact h1 h
 ·rw [if_neg h]
  exact h2 h
def Same(H H':Hp):Prop:=∀b o,H b=some o→H' b=some o
theorem Same.refl(H:Hp):Same H H:=fun _ _ h=>h
theorem Same.trans{H H1 H2:Hp}(a:Same H H1)(b:Same H1 H2):Same H H2:=fun c o h=>b c o (a c o h)
theorem Same.seq{K:PySem.W.Frag}{H H':Hp}{a:Addr}{xs:List V}(e:Same H H')(h:SqL K H a xs):SqL K H' a xs:=by
 rcases h with (h|⟨o,h⟩)|h
 ·exact .inl (.inl (e _ _ h))
 ·exact .inl (.inr ⟨o,e _ _ h⟩)
 ·exact .inr h
end L2
namespace L2
open PySem PySem.Spec PyProof.Rows
section
variable{X:Cx}
end
end L2
namespace L2
open PySem PySem.Spec PyProof.Rows
section
variable{κ:Type}[DecidableEq κ]
end
end L2
namespace L2
open PySem PySem.Spec PyProof.Rows
section
variable{X:Cx}{tg:Expr}
end
abbrev blk(X:Cx)(N':List Str)(sc:Scope)(cl:List (Str × Addr))(s₀:Shared)(H₀:Hp)(C:Addr)(ex:List Addr):Cx :=
 { X with N:=N',s₀:=s₀,H₀:=H₀,env:=compEnvC sc cl C X.env,outer:=X.stack,ex:=ex,fn:=fun _=>false,xe:=fun _ _=>False }
structure BlkSc(X:Cx)(caps:List Str)(sc:Scope)(cl:List (Str × Addr)):Prop where
 kind:sc.kind=.function
 nocell:∀y∈sc.names,y.2≠.cell
 names:∀y∈sc.names,y.2=.local→sc.names.lookup y.1=some .local
 clos:closureFor sc X.env=pure cl
 has:(sc.names.all fun y=>y.2 != .free||(cl.lookup y.1).isSome)=true
 sub:∀y∈cl,X.env.cells.lookup y.1=some y.2
 caps:∀x∈caps,(X.env.kindOf x=some .cell∨X.env.kindOf x=some .free)∧(cl.lookup x).isSome=true∧((relabel sc X.env).names.lookup x=some .cell∨(relabel sc X.env).names.lookup x=some .free)
theorem relabel_inv{env:Env}:∀{names:List (Str × NameKind)} {x:Str} {k:NameKind},(names.map fun(n,k)=>if (k==NameKind.free&&env.scope.kind==.function&&env.kindOf n==some .cell) then (n,NameKind.cell) else (n,k)).lookup x=some k →
  ∃k',(x,k')∈names∧(k'=k∨k'=.free)
 |[],_,_,h=>by simp at h
 |(n,k0)::r,x,k,h=>by
  have h':List.lookup x ((if (k0==NameKind.free&&env.scope.kind==.function&&env.kindOf n==some .cell)=true then (n,NameKind.cell) else (n,k0))::(r.map fun(n,k)=>if (k==NameKind.free&&env.scope.kind==.function&&env.kindOf n==some .cell) then (n,NameKind.cell) else (n,k)))=some k:=h
  by_cases hx:x=n
  ·subst hx
   refine⟨k0,List.mem_cons_self,?_⟩
   by_cases hc:(k0==NameKind.free&&env.scope.kind==.function&&env.kindOf x==some .cell)=true
   ·have hf:(k0==NameKind.free)=true:=by
     rw [Bool.and_eq_true,Bool.and_eq_true] at hc
     exact hc.1.1
    exact .inr (by cases k0<;>first|rfl|exact absurd hf (by decide))
   ·rw [if_neg hc,List.lookup_cons_self] at h'
    exact .inl (Option.some.inj h')
  ·have hb:(x==n)=false:=beq_eq_false_iff_ne.mpr hx
   have h2:(r.map fun(n,k)=>if (k==NameKind.free&&env.scope.kind==.function&&env.kindOf n==some .cell) then (n,NameKind.cell) else (n,k)).lookup x=some k:=by
    split at h'<;>simpa [List.lookup_cons,hb] using h'
   obtain⟨k',hm,hk⟩:=relabel_inv h2
   exact⟨k',List.mem_cons_of_mem _ hm,hk⟩
theorem BlkSc.hasc{X:Cx}{caps:List Str}{sc:Scope}{cl:List (Str × Addr)}(S:BlkSc X caps sc cl){x:Str}(h:(relabel sc X.env).names.lookup x=some .cell∨(relabel sc X.env).names.lookup x=some .free):∃c,cl.lookup x=some c:=by
 have key:(x,NameKind.free)∈sc.names:=by
  rcases h with h|h
  ·obtain⟨k',hm,hk⟩:=relabel_inv h
   rcases hk with rfl|rfl
   ·exact absurd rfl (S.nocell _ hm)
   ·exact hm
  ·obtain⟨k',hm,hk⟩:=relabel_inv h
   rcases hk with rfl|rfl<;>exact hm
 have q:=List.all_eq_true.mp S.has _ key
 have q2:(cl.lookup x).isSome=true:=by simpa using q
 exact Option.isSome_iff_exists.mp q2
theorem BlkSc.subc{X:Cx}{caps:List Str}{sc:Scope}{cl:List (Str × Addr)}(S:BlkSc X caps sc cl){x:Str}{c:Addr}(h:cl.lookup x=some c):X.env.cells.lookup x=some c:=S.sub _ (PySem.mem_of_lookup h)
def blkSt(n:Nat)(κ:List Nat)(σ:St):St:=List.replicate n none++κ.map fun k=>(σ[k]?).join
def CompRun(n:Nat)(κ:List Nat)(g:TG)(tc:TT)(te:TE)(σ:St)(J:It)(H1:Hp)(Q:VK):Prop :=
 ∃W:Nat→Nat→List V→Hp→Prop,(∃m,W 0 m [] H1)∧∀i m ys H2,W i m ys H2 →
  (J.stop i H2∧∀D,H2 D=none→Q (.ref D) (upd H2 D (.lst ys))) ∨
  (J.go i H2∧ys.length < sizeLine∧∀x H3,J.yld i H2 x H3→g x (blkSt n κ σ) H3 fun σ4 H4=>σ4.drop n=(blkSt n κ σ).drop n ∧
   tc σ4 H4 fun b H5=>if b=true then te σ4 H5 fun v H6=>∃m',m' < m∧W (i+1) m' (ys++[v]) H6 else ∃m',m' < m∧W (i+1) m' ys H5)
def tComp(n:Nat)(κ:List Nat)(wi:TI)(g:TG)(tc:TT)(te:TE):TE:=fun σ H Q=>wi σ H fun J H1=>CompRun n κ g tc te σ J H1 Q
def tYes:TT:=fun _ H Q=>Q true H
theorem tYes_go{σ:St}{H:Hp}{A B:Hp→Prop}(h:A H):tYes σ H fun b H5=>if b=true then A H5 else B H5:=by
 show(if true=true then A H else B H)
 rw [if_pos rfl]
 exact h
section
variable{X:Cx}{pins:List (Addr × Obj)}{σ:St}{H:Hp}{s:Shared}
theorem Inv.block{caps:List Str}{own:List Str}{κ:List Nat}{sc:Scope}{cl:List (Str × Addr)}{fp:List Addr}{h₁:Heap}{tk:Nat}(S:BlkSc X caps sc cl)(hκ:κ.map (fun k=>X.N[k]?)=caps.map some)(I:Inv X pins σ H s)
  (f2:∀b∈fp,FpOk X pins H b) (hfp:∀b∈fp,b < s.heap.objs.size)
  {hp:Heap} {ol:Obj} (ehp:hp=s.heap.push ol) (hns:h₁.Ns hp.objs.size fun _=>none) (old:∀b o,hp.get? b=some o→h₁.get? b=some o) :
  Inv (blk X (own++caps) sc cl { s with heap:=hp } H hp.objs.size (s.heap.objs.size::fp)) pins (blkSt own.length κ σ) H { s with heap:=h₁,toks:=tk }:=by
 have hsz:hp.objs.size=s.heap.objs.size+1:=by rw [ehp,Heap.size_push]
 have up:∀b o,s.heap.get? b=some o→hp.get? b=some o:=fun b o e=>by rw [ehp];exact Heap.get?_push_of_some _ e
 have I3:Inv X pins σ H { s with heap:=hp }:=I.kept (t':=s.toks) up
 have stk:∀b,b≠X.env.locals→b∉X.fs→b∉frs X.stack:=fun b h1 h2 z=>(List.mem_cons.mp (I.stkSub b z)).elim h1 h2
 have dD:s.heap.objs.size≠X.env.locals:=Nat.ne_of_gt I.lt
 have cellLt:∀x c,X.env.cells.lookup x=some c→c < s.heap.objs.size:=fun x c e=>by
  obtain⟨v,q⟩:=I.cell x c e
  exact q.lt
 have ltC:∀b,b < s.heap.objs.size→b≠hp.objs.size:=fun b hb=>by rw [hsz];exact Nat.ne_of_lt (Nat.lt_succ_of_lt hb)
 have cellK:∀c v,s.heap.IsCell c v→h₁.IsCell c v:=fun c v ⟨o,ho,hd⟩=>⟨o,old _ _ (up _ _ ho),hd⟩
 refine⟨⟨I.ok.mod,?_,I.ok.glob,I.ok.blt,Nat.le_refl _,fun x y c h1 h2=>I.ok.inj x y c (S.subc h1) (S.subc h2),fun x h=>S.hasc h,fun _ _ z=>absurd z Bool.false_ne_true,I.ok.hd,I.ok.frames,.inl rfl,fun b hb=>?_,fun b o e=>⟨up _ _ (I.bs b o e).1,(I.bs b o e).2⟩,
   Nat.le_trans (Nat.le_trans I.ok.bsz I.sz) (by show s.heap.objs.size≤hp.objs.size;rw [hsz];exact Nat.le_succ _),fun b o e hb=>?_,fun b hb=>?_,I3.stack,I.stkFree⟩,
  rfl,I.bare,Un.kept old,⟨_,hns,fun i x v e1 e2 e3=>?_⟩,fun x c h=>?_,I.hok.fresh (by rw [hsz];exact Nat.le_succ _),fun x c h=>I.freeC x c (S.subc h),fun p hp'=>?_,I.hok.kept fun b u e=>old _ _ (up _ _ e),?_⟩
 ·show(relabel sc X.env).kind=.function
  exact S.kind
 ·show b≠hp.objs.size∧∀x c,cl.lookup x=some c→c≠b
  rcases List.mem_cons.mp hb with rfl|hb
  ·exact⟨by rw [hsz];exact Nat.ne_of_lt (Nat.lt_succ_self _),fun x c h=>Nat.ne_of_lt (cellLt x c (S.subc h))⟩
  ·exact⟨ltC b (hfp b hb),fun x c h=>(f2 b hb).2.2.2.2.1 x c (S.subc h)⟩
 ·have hlt:b < X.s₀.heap.objs.size:=Nat.lt_of_lt_of_le (Heap.lt_size e) I.ok.bsz
  rcases List.mem_cons.mp hb with rfl|hb
  ·exact absurd (Nat.lt_of_lt_of_le hlt I.sz) (Nat.lt_irrefl _)
  ·rcases (f2 b hb).2.2.2.1 with z|z
   ·exact I.ok.noex b o e z
   ·exact absurd (Nat.lt_of_lt_of_le hlt z) (Nat.lt_irrefl _)
 ·rcases List.mem_cons.mp hb with rfl|hb
  ·exact stk _ dD (I.nofs (Nat.le_refl _))
  ·exact stk _ (f2 b hb).2.1 (f2 b hb).2.2.1
 ·have e1':(own++caps)[i]?=some x:=e1
  have hlen:(List.replicate own.length (none:Option V)).length=own.length:=List.length_replicate
  have hge:own.length≤i:=by
   refine Nat.le_of_not_lt fun hlt=>?_
   unfold blkSt at e2
   rw [List.getElem?_append_left (by rw [hlen];exact hlt),List.getElem?_replicate,if_pos hlt] at e2
   cases e2
  unfold blkSt at e2
  rw [List.getElem?_append_right (by rw [hlen];exact hge),hlen,List.getElem?_map] at e2
  rw [List.getElem?_append_right hge] at e1'
  cases ek:κ[i - own.length]? with
  |none=>rw [ek] at e2;cases e2
  |some k =>
   rw [ek] at e2
   have e2':(σ[k]?).join=some v:=Option.some.inj e2
   have e4:σ[k]?=some (some v):=by
    cases eσ:σ[k]? with
    |none=>rw [eσ] at e2';cases e2'
    |some w=>rw [eσ] at e2';exact congrArg some e2'
   have e5:X.N[k]?=some x:=by
    have z:=congrArg (fun l=>l[i - own.length]?) hκ
    simp only [List.getElem?_map,ek,e1',Option.map_some] at z
    exact Option.some.inj z
   obtain⟨c1,c2,c3⟩:=S.caps x (List.mem_of_getElem? e1')
   obtain⟨m,hn,hl⟩:=I.loc
   obtain⟨u,r,l⟩:=hl k x v e5 e4 (c1.elim (fun z=>.inr (.inl z)) fun z=>.inr (.inr z))
   refine⟨u,r,?_⟩
   rcases l with ⟨hk,_⟩|⟨_,c,hc,hcell⟩
   ·rcases c1 with z|z<;>(rw [hk] at z;cases z)
   ·obtain⟨c',hc'⟩:=Option.isSome_iff_exists.mp c2
    have ecc:c'=c:=Option.some.inj ((S.subc hc').symm.trans hc)
    subst ecc
    exact .inr ⟨c3,c',hc',cellK _ _ hcell⟩
 ·obtain⟨v,q⟩:=I.cell x c (S.subc h)
  exact⟨v,cellK c v q⟩
 ·obtain⟨e,n,ne,nf,d⟩:=I.pin p hp'
  exact⟨old _ _ (up _ _ e),n,ltC _ (Heap.lt_size e),stk _ ne nf,d⟩
 ·show(blkSt own.length κ σ).length=(own++caps).length
  have z:=congrArg List.length hκ
  rw [List.length_map,List.length_map] at z
  unfold blkSt
  rw [List.length_append,List.length_append,List.length_replicate,List.length_map,z]
theorem Inv.unblock{own caps:List Str}{sc:Scope}{cl:List (Str × Addr)}{fp:List Addr}{H':Hp}{s4:Shared}{σ':St}{pins':List (Addr × Obj)}{hp h':Heap}{ol:Obj}{ys:List V}{its:List Value}{cap:Nat}(I:Inv X pins σ H s)
  (f2:∀b∈fp,FpOk X pins H b) (ehp:hp=s.heap.push ol)
  (J:Inv (blk X (own++caps) sc cl { s with heap:=hp } H hp.objs.size (s.heap.objs.size::fp)) pins' σ' H' s4)
  (hD:s4.heap.get? s.heap.objs.size=some { cls:=.type "list",data:=.seq its.toArray cap }) (nD:H' s.heap.objs.size=none) (r:Vals ys its) (hz:ys.length≤sizeLine) (sb:Heap.SameBut hp.objs.size s4.heap h') :
  Inv X pins σ (upd H' s.heap.objs.size (.lst ys)) { s4 with heap:=h' }:=by
 have hsz:hp.objs.size=s.heap.objs.size+1:=by rw [ehp,Heap.size_push]
 have up:∀b o,s.heap.get? b=some o→hp.get? b=some o:=fun b o e=>by rw [ehp];exact Heap.get?_push_of_some _ e
 have nDs:H s.heap.objs.size=none:=I.hok.fresh (Nat.le_refl _)
 have neD:∀b o,s.heap.get? b=some o→b≠s.heap.objs.size:=fun b o e=>Nat.ne_of_lt (Heap.lt_size e)
 have neC:∀b o,s.heap.get? b=some o→b≠hp.objs.size:=fun b o e=>by rw [hsz];exact Nat.ne_of_lt (Nat.lt_succ_of_lt (Heap.lt_size e))
 have nex:∀b o,s.heap.get? b=some o→b∉fp→b∉s.heap.objs.size::fp:=fun b o e hb z=>(List.mem_cons.mp z).elim (neD b o e) hb
 have u:=J.base
 have hDC:s.heap.objs.size≠hp.objs.size:=by rw [hsz];exact Nat.ne_of_lt (Nat.lt_succ_self _)
 have eD:h'.get? s.heap.objs.size=some { cls:=.type "list",data:=.seq its.toArray cap }:=(sb.2 _ hDC).trans hD
 refine I.call' (ch:=fp) J.os ⟨fun b o e n hb hx=>?_,fun b o e n hb hx=>?_,fun b o e n hx=>?_,fun b o e hx=>?_,fun b xs e=>?_,fun b o x e=>?_,fun b ps e=>?_⟩ (fun b o e=>?_) J.bare fun b hb=>?_
 ·exact(sb.2 b (neC b o e)).trans (u.keep b o (up _ _ e) n hb (nex b o e hx))
 ·obtain⟨sl,q⟩:=u.slot b o (up _ _ e) n hb (nex b o e hx)
  exact⟨sl,(sb.2 b (neC b o e)).trans q⟩
 ·rw [upd_ne (neD b o e)]
  exact u.free b o (up _ _ e) n (nex b o e hx)
 ·obtain⟨o',q⟩:=u.there b o (up _ _ e) (nex b o e hx)
  exact⟨o',(sb.2 b (neC b o e)).trans q⟩
 ·rw [upd_ne (ne_of_none e nDs)]
  exact u.tups b xs e
 ·rw [upd_ne (ne_of_none e nDs)]
  exact u.frzs b o x e
 ·rw [upd_ne (ne_of_none e nDs)]
  exact u.tbls b ps e
 ·by_cases hb:b=s.heap.objs.size
  ·subst hb
   rw [upd_same] at e
   cases e
   exact⟨hz,its,cap,r,eD⟩
  ·rw [upd_ne hb] at e
   have nC:∀c w,H' c=some w→c≠hp.objs.size:=fun c w q=>ne_of_none q J.free
   refine(J.hok b o e).stay (fun c v hc q=>(sb.2 c ?_).trans q) (fun c q=>by rw [upd_ne (ne_of_none q nD)];exact q) fun c xs q=>by rw [upd_ne (ne_of_none q nD)];exact q
   rcases hc with rfl|hc
   ·exact nC c o e
   ·exact nC c _ hc
 ·obtain⟨_,f1,_,f3,f4,f5⟩:=f2 b hb
  exact⟨f3,f1,f4,f5⟩
end
section
variable{X:Cx}
theorem pe_compG{tg elt iter:Expr}{ifs:List Expr}{own caps:List Str}{κ:List Nat}{sc:Scope}{cl:List (Str × Addr)}{pos:Pos}{wi:TI}{g:TG}{tc:TT}{te:TE}(hcalm:X.calm=true)(S:BlkSc X caps sc cl)(hκ:κ.map (fun k=>X.N[k]?)=caps.map some)
  (hi:PI X tg iter wi) (hg:∀s₀ H₀ C ex,PG (blk X (own++caps) sc cl s₀ H₀ C ex) tg g)
  (hc:∀s₀ H₀ C ex (pins:List (Addr × Obj)) (s:Shared) (σ:St) (H:Hp) (Q:Bool→Hp→Prop),Inv (blk X (own++caps) sc cl s₀ H₀ C ex) pins σ H s→tc σ H Q →
   wpAny (model X.prog X.w) X.A (forIn ifs true fun c r=>if r=true then do let ok ←isTrue c (compEnvC sc cl C X.env) (eval c (compEnvC sc cl C X.env));pure (ForInStep.yield ok) else pure (ForInStep.yield r)) (TP (blk X (own++caps) sc cl s₀ H₀ C ex) pins σ Q) (fun _ _=>False) s)
  (he:∀s₀ H₀ C ex,PE (blk X (own++caps) sc cl s₀ H₀ C ex) elt te)
  (hs:∀x,foldedSetIterable iter X.env x=pure x:=by intro _;rfl):PE X (.ListComp elt [⟨tg,iter,ifs,0⟩] sc pos) (tComp own.length κ wi g tc te):=by
 intro pins s σ H Q I h
 rw [eval_ListComp]
 refine wpAny_comprehension_free (use:=none) rfl hs S.clos S.kind S.names (thn (hi pins s σ H _ I h) fun v s1 h1=>thn h1 fun itv s2 h2=>?_)
 obtain⟨it,fp,tn,J,H2,e,I2,T,st2,f2,W,⟨m0,w0⟩,turn⟩:=h2
 subst e
 have hfp:∀b∈fp,b < s2.heap.objs.size:=fun b hb=>by
  obtain⟨o,e,_⟩:=T.obj _ _ st2 b hb
  exact Heap.lt_size e
 refine wpAny_newObj_type (wpAny_newFunctionEnv S.nocell (fun y hy=>nomatch hy) (fun h₁ hns hsb=>?_) S.kind)
 generalize ehp:s2.heap.push { cls:=.type "list",dict:=none,data:=.seq ([]:List Value).toArray }=hp at hns hsb ⊢
 have hsz:hp.objs.size=s2.heap.objs.size+1:=by rw [←ehp,Heap.size_push]
 have hDC:s2.heap.objs.size≠hp.objs.size:=by rw [hsz];exact Nat.ne_of_lt (Nat.lt_succ_self _)
 have old:∀b o,hp.get? b=some o→h₁.get? b=some o:=fun b o e=>(hsb.2 b (Nat.ne_of_lt (Heap.lt_size e))).trans (Heap.get?_push_of_some _ e)
 have eD:h₁.get? s2.heap.objs.size=some { cls:=.type "list",data:=.seq ([]:List Value).toArray }:=old _ _ (by rw [←ehp];exact Heap.get?_push_size _ rfl)
 have I0:=Inv.block (own:=own) (h₁:=h₁) (tk:=s2.toks+([]:List (Str × Value)).length) S hκ I2 f2 hfp ehp.symm hns old
 have stkD:s2.heap.objs.size∉frs X.stack:=fun z=>(List.mem_cons.mp (I2.stkSub _ z)).elim (Nat.ne_of_gt I2.lt) (I2.nofs (Nat.le_refl _))
 have cellD:∀x c,cl.lookup x=some c→c≠s2.heap.objs.size:=fun x c q=>by
  obtain⟨v,z⟩:=I2.cell x c (S.subc q)
  exact Nat.ne_of_lt z.lt
 have pinD:∀p∈X.pn++pins,p.1≠s2.heap.objs.size:=fun p hp=>Nat.ne_of_lt (Heap.lt_size (I2.pin p hp).1)
 have stkF:∀b∈fp,b∉frs X.stack:=fun b hb z=>(List.mem_cons.mp (I2.stkSub _ z)).elim (f2 b hb).2.1 (f2 b hb).2.2.1
 have loop:codeAny (model X.prog X.w) X.A (.compLoop (.ListComp elt [⟨tg,iter,ifs,0⟩] sc pos) 0 (.ref it) (.ref s2.heap.objs.size) (compEnvC sc cl hp.objs.size X.env))
   (compPost (model X.prog X.w) X.A X.xe none (EP X pins σ Q) (.ref s2.heap.objs.size) hp.objs.size) { s2 with heap:=h₁,toks:=s2.toks+([]:List (Str × Value)).length }:=by
  refine codeAny_loop rfl (fun n s'=>∃(i:Nat) (ys:List V) (its:List Value) (cap:Nat) (H':Hp),Inv (blk X (own++caps) sc cl { s2 with heap:=hp } H2 hp.objs.size (s2.heap.objs.size::fp)) pins (blkSt own.length κ σ) H' s'∧tn i s'.heap∧(∀b∈fp,H' b=none) ∧
   s'.heap.get? s2.heap.objs.size=some { cls:=.type "list",data:=.seq its.toArray cap }∧H' s2.heap.objs.size=none∧Vals ys its∧ys.length≤sizeLine∧W i n ys H') (fun n s3 hI=>?_) m0
   ⟨0,[],[],0,H2,I0,T.keep _ _ _ st2 fun b hb o e=>old _ _ (by rw [←ehp];exact Heap.get?_push_of_some _ e),fun b hb=>(f2 b hb).1,eD,I2.hok.fresh (Nat.le_refl _),.nil,Nat.zero_le _,w0⟩
  obtain⟨i,ys,its,cap,H3,I3,st3,fr3,eD3,nD3,rv,hz,w3⟩:=hI
  show wpAny _ X.A ((compTurn (.ListComp elt [⟨tg,iter,ifs,0⟩] sc pos) 0 (.ref it) (.ref s2.heap.objs.size) (compEnvC sc cl hp.objs.size X.env)).onRaise fun x=>do noteFrame x (compEnvC sc cl hp.objs.size X.env);theTreesLotGoes x) _ _ s3
  refine wpAny_noted ?_
  rw [compTurn_list]
  have I3':Inv (blk X (own++caps) sc cl { s2 with heap:=hp } H2 hp.objs.size (s2.heap.objs.size::fp)) (pins++[(s2.heap.objs.size,{ cls:=.type "list",data:=.seq its.toArray cap })]) (blkSt own.length κ σ) H3 s3:=by
   refine I3.pins_of fun p hp=>(List.mem_append.mp hp).elim (fun z=>I3.pin p (List.mem_append_right _ z)) fun z=>?_
   obtain rfl:=List.mem_singleton.mp z
   exact⟨eD3,nD3,hDC,stkD,fun v q=>by cases q⟩
  have fpk:∀{H':Hp},(∀b∈fp,H' b=none)→∀b∈fp,FpOk (blk X (own++caps) sc cl { s2 with heap:=hp } H2 hp.objs.size (s2.heap.objs.size::fp)) (pins++[(s2.heap.objs.size,{ cls:=.type "list",data:=.seq its.toArray cap })]) H' b:=fun {H'} hn b hb =>
   ⟨hn b hb,by show b≠hp.objs.size;rw [hsz];exact Nat.ne_of_lt (Nat.lt_succ_of_lt (hfp b hb)),stkF b hb,.inl (List.mem_cons_of_mem _ hb),fun x c q=>(f2 b hb).2.2.2.2.1 x c (S.subc q),fun p hp=>by
    rw [←List.append_assoc] at hp
    rcases List.mem_append.mp hp with z|z
    ·exact(f2 b hb).2.2.2.2.2 p z
    ·obtain rfl:=List.mem_singleton.mp z
     exact Nat.ne_of_gt (hfp b hb)⟩
  rcases turn i n ys H3 w3 with ⟨stop,fin⟩|⟨go,hlt,step⟩
  ·refine wpAny_bind (wpAny_standAt (wpAny_bind (thn (T.done (blk X (own++caps) sc cl { s2 with heap:=hp } H2 hp.objs.size (s2.heap.objs.size::fp)) rfl rfl rfl hcalm i _ s3 _ H3 _ I3' (fpk fr3) st3 stop) fun r s4 ⟨hr,I4⟩=>?_)))
   subst hr
   refine wpAny_pure ?_
   obtain⟨m,hm,_⟩:=I4.loc
   refine⟨m,hm,fun h' sb=>?_⟩
   have eD4:=(I4.pin (s2.heap.objs.size,{ cls:=.type "list",data:=.seq its.toArray cap }) (List.mem_append_right _ (List.mem_append_right _ (List.mem_singleton.mpr rfl)))).1
   exact⟨.ref s2.heap.objs.size,_,Inv.unblock I2 f2 ehp.symm I4 eD4 nD3 rv hz sb,rfl,fin _ nD3⟩
  ·refine wpAny_bind (wpAny_standAt (wpAny_bind (thn (T.item (blk X (own++caps) sc cl { s2 with heap:=hp } H2 hp.objs.size (s2.heap.objs.size::fp)) rfl rfl rfl hcalm i _ s3 _ H3 _ I3' (fpk fr3) st3 go) fun r s4 ⟨u,hr,h4⟩=>?_)))
   subst hr
   refine wpAny_bind (thn h4 fun _ s5 ⟨x,H5,I5,r5,y5,st5,fr5⟩=>?_)
   have I5':=I5.pinned (fpk fr5) (T.obj _ _ st5)
   refine wpAny_bind (wpAny_mono (hg _ _ _ _ _ s5 _ H5 x u _ I5' r5 (step x H5 y5)) (fun _ s6 ⟨σ6,H6,I6,eσ,q6⟩=>?_) fun _ _ z=>z.elim)
   refine wpAny_bind (wpAny_mono (hc _ _ _ _ _ s6 σ6 H6 _ I6 q6) (fun ok s7 ⟨H7,I7,q7⟩=>?_) fun _ _ z=>z.elim)
   have back:∀{s8:Shared} {H8:Hp},Inv (blk X (own++caps) sc cl { s2 with heap:=hp } H2 hp.objs.size (s2.heap.objs.size::fp)) ((pins++[(s2.heap.objs.size,{ cls:=.type "list",data:=.seq its.toArray cap })])++pinsAt fp s5.heap) σ6 H8 s8 →
     Inv (blk X (own++caps) sc cl { s2 with heap:=hp } H2 hp.objs.size (s2.heap.objs.size::fp)) pins (blkSt own.length κ σ) H8 s8∧tn (i+1) s8.heap∧(∀b∈fp,H8 b=none)∧s8.heap.get? s2.heap.objs.size=some { cls:=.type "list",data:=.seq its.toArray cap }∧H8 s2.heap.objs.size=none:=by
    intro s8 H8 I8
    have pk:∀b∈fp,∀o,s5.heap.get? b=some o→s8.heap.get? b=some o∧H8 b=none:=fun b hb o e=>by
     have z:=I8.pin (b,o) (List.mem_append_right _ (List.mem_append_right _ (mem_pinsAt hb e)))
     exact⟨z.1,z.2.1⟩
    have zD:=I8.pin (s2.heap.objs.size,{ cls:=.type "list",data:=.seq its.toArray cap }) (List.mem_append_right _ (List.mem_append_left _ (List.mem_append_right _ (List.mem_singleton.mpr rfl))))
    refine⟨(I8.pins_of fun p hp=>I8.pin p (List.mem_append_right _ (List.mem_append_left _ (List.mem_append_left _ hp)))).weak ?_ fun j v e=>?_,T.keep _ _ _ st5 fun b hb o e=>(pk b hb o e).1,fun b hb=>?_,zD.1,zD.2.1⟩
    ·exact I3.len.trans I8.len.symm
    ·have hge:own.length≤j:=by
      refine Nat.le_of_not_lt fun q=>?_
      unfold blkSt at e
      rw [List.getElem?_append_left (by rw [List.length_replicate];exact q),List.getElem?_replicate,if_pos q] at e
      cases e
     have z:=congrArg (fun l=>l[j - own.length]?) eσ
     simp only [List.getElem?_drop] at z
     rw [show own.length+(j - own.length)=j by omega] at z
     rw [z]
     exact e
    ·obtain⟨o,e,_⟩:=T.obj _ _ st5 b hb
     exact(pk b hb o e).2
   cases ok with
   |false =>
    obtain⟨m',hm,w7⟩:=(if_neg Bool.false_ne_true)▸q7
    obtain⟨I8,st8,fr8,e8,n8⟩:=back I7
    exact wpAny_pure ⟨rfl,m',hm,i+1,ys,its,cap,H7,I8,st8,fr8,e8,n8,rv,hz,w7⟩
   |true =>
    have q7':=(if_pos rfl)▸q7
    refine wpAny_bind (wpAny_bind (wpAny_mono (he _ _ _ _ _ s7 σ6 H7 _ I7 q7') (fun y s8 ⟨v8,H8,I8,r8,m',hm,w8⟩=>?_) fun _ _ z=>z.elim))
    obtain⟨I9,st9,fr9,e9,n9⟩:=back I8
    have hl:=rv.length
    refine wpAny_bind (wpAny_list_append_plain (items:=its.toArray) ⟨cap,e9⟩ (fun h' hl' sb=>?_) (by rw [List.size_toArray,←hl];exact hz))
    obtain⟨cap',e'⟩:=hl'
    refine wpAny_pure (wpAny_pure ⟨rfl,m',hm,i+1,ys++[v8],its++[y],cap',H8,?_,?_,fr9,?_,n9,Vals.append rv (.cons r8 .nil),?_,w8⟩)
    ·exact I9.turned (t':=s8.toks) (fun b o hb e=>(sb.2 b hb).trans e) n9 hDC (.inl List.mem_cons_self) cellD pinD
    ·exact T.keep _ _ _ st9 fun b hb o e=>(sb.2 b (Nat.ne_of_lt (hfp b hb))).trans e
    ·rw [e']
     congr 3
     simp
    ·rw [List.length_append]
     exact hlt
 exact codeAny_compStart_list loop (T.self _ 0 _ _ _ (T.keep _ _ _ st2 fun b hb o e=>old _ _ (by rw [←ehp];exact Heap.get?_push_of_some _ e)) loop)
theorem pe_comp{tg elt iter:Expr}{own caps:List Str}{κ:List Nat}{sc:Scope}{cl:List (Str × Addr)}{pos:Pos}{wi:TI}{g:TG}{te:TE}(hcalm:X.calm=true)(S:BlkSc X caps sc cl)(hκ:κ.map (fun k=>X.N[k]?)=caps.map some)
  (hi:PI X tg iter wi) (hg:∀s₀ H₀ C ex,PG (blk X (own++caps) sc cl s₀ H₀ C ex) tg g) (he:∀s₀ H₀ C ex,PE (blk X (own++caps) sc cl s₀ H₀ C ex) elt te)
  (hs:∀x,foldedSetIterable iter X.env x=pure x:=by intro _;rfl):PE X (.ListComp elt [⟨tg,iter,[],0⟩] sc pos) (tComp own.length κ wi g tYes te) :=
 pe_compG hcalm S hκ hi hg (fun s₀ H₀ C ex pins s σ H Q I h=>wpAny_tests_nil ⟨H,I,h⟩) he hs
end
end L2
namespace L2
open PySem PySem.Spec PyProof.Rows
section
variable{X:Cx}
theorem bootAll:bootBuiltins "all"=some (.builtin "all"):=by decide +kernel
theorem bootIsi:bootBuiltins "isinstance"=some (.builtin "isinstance"):=by decide +kernel
theorem bools_of:∀{bs:List Bool} {us:List Value},Vals (bs.map V.bl) us→LSm.BoolsAre us bs
 |[],_,r=>by cases r;exact .nil
 |b::bs,_,r=>by
  cases r with
  |cons r1 r2 =>
   cases r1
   exact .cons b (bools_of r2)
theorem call_allB(hc:X.calm=true):CallR X (.builtin "all") (fun xs H Q=>∃(p:Addr) (bs:List Bool),xs=[.ref p]∧SqL X.K H p (bs.map V.bl)∧Q (.bl (bs.all id)) H):=by
 intro pins s σ H xs us Q I r h
 obtain⟨p,bs,rfl,hq,q⟩:=h
 obtain⟨u,rfl,rx⟩:=vals1 r
 cases rx
 obtain⟨its,rv,pl,hz⟩:=I.list hq
 have hb:=bools_of rv
 have hlt:p < s.heap.objs.size:=by obtain⟨_,e,_⟩:=pl.isList;exact Heap.lt_size e
 refine call_all_walk (wpAny_pyIter_list pl.isList ?_)
 refine⟨s.heap.objs.size,[s.heap.objs.size,p],[s.heap.objs.size],its.toArray.size,_,_,fun i=>(bs[i]?).getD true,rfl,Walks.list (A:=X.A.in1) (I.ok.hd hc) _ p (Nat.ne_of_lt hlt) its.toArray,
  ⟨⟨_,Heap.get?_push_size _ rfl,rfl,rfl⟩,pl.isList.push _⟩,fun i v s' Q' E' hP hQ=>?_,fun h' tk hk=>?_⟩
 ·obtain⟨b,e,rfl⟩:=hb.get i v (by simpa using hP)
  have hQ':Q' ((bs[i]?).getD true) s':=hQ
  rw [e] at hQ'
  exact wpAny_truthy_bool hQ'
 ·have e:((List.range its.toArray.size).all fun i=>(bs[i]?).getD true)=bs.all id:=by
   rw [List.size_toArray,hb.length]
   exact LSm.range_all bs
  rw [e]
  exact⟨.bl (bs.all id),H,I.kept (LSm.kept_iter hk),rfl,q⟩
end
end L2
namespace L2
open PySem PySem.Spec PyProof.Rows
end L2
namespace L2
open PySem PySem.Spec PyProof.Rows
theorem comp_by{J:It}{xs:List V}{n:Nat}{κ:List Nat}{g:TG}{tc:TT}{te:TE}{σ:St}{H:Hp}{Q:VK}(Pv:Nat→List V→Hp→Prop)(h0:Pv 0 [] H)(hz:xs.length≤sizeLine)(hlen:∀i ys H2,Pv i ys H2→ys.length≤i)
  (hgo:∀i x ys H2,xs[i]?=some x→Pv i ys H2→J.go i H2) (hyl:∀i ys x H2 H',i < xs.length→Pv i ys H2→J.yld i H2 x H'→H'=H2∧xs[i]?=some x) (hst:∀ys H2,Pv xs.length ys H2→J.stop xs.length H2)
  (hs:∀i x ys H2 (N:List V→Hp→Prop),(∀ys' H',Pv (i+1) ys' H'→N ys' H')→xs[i]?=some x→Pv i ys H2→g x (blkSt n κ σ) H2 fun σ4 H4=>σ4.drop n=(blkSt n κ σ).drop n∧tc σ4 H4 fun b H5=>if b=true then te σ4 H5 fun v H6=>N (ys++[v]) H6 else N ys H5)
  (hQ:∀ys H2 D,Pv xs.length ys H2→H2 D=none→Q (.ref D) (upd H2 D (.lst ys))) :
  CompRun n κ g tc te σ J H Q:=by
 refine⟨fun i m ys H2=>m=xs.length - i∧i≤xs.length∧Pv i ys H2,⟨xs.length,rfl,Nat.zero_le _,h0⟩,?_⟩
 rintro i m ys H2 ⟨rfl,hi,p⟩
 by_cases hlt:i < xs.length
 ·have e:xs[i]?=some xs[i]:=List.getElem?_eq_getElem hlt
  refine .inr ⟨hgo i _ ys H2 e p,Nat.lt_of_le_of_lt (hlen i ys H2 p) (Nat.lt_of_lt_of_le hlt hz),fun x H3 y=>?_⟩
  obtain⟨rfl,ex⟩:=hyl i ys x H2 H3 hlt p y
  exact hs i x ys _ (fun ys' H'=>∃m',m' < xs.length - i∧m'=xs.length - (i+1)∧i+1≤xs.length∧Pv (i+1) ys' H') (fun ys' H' p'=>⟨xs.length - (i+1),by omega,rfl,hlt,p'⟩) ex p
 ·obtain rfl:i=xs.length:=by omega
  exact .inl ⟨hst ys H2 p,fun D hD=>hQ ys H2 D p hD⟩
def rangeV(lo:Int)(n:Nat):List V:=(List.range n).map fun i=>V.int (lo+(i:Nat))
theorem rangeV_len(lo:Int)(n:Nat):(rangeV lo n).length=n:=by simp [rangeV]
theorem rangeV_get{lo:Int}{n i:Nat}{x:V}:(rangeV lo n)[i]?=some x↔i < n∧x=.int (lo+i):=by
 unfold rangeV
 rw [List.getElem?_map]
 by_cases h:i < n
 ·rw [List.getElem?_range h]
  simp [h,eq_comm]
 ·rw [List.getElem?_eq_none (by simp;omega)]
  simp [h]
theorem itr_go{lo:Int}{n:Nat}{H:Hp}{i:Nat}{x:V}(h:(rangeV lo n)[i]?=some x):(Itr lo n).go i H:=(rangeV_get.mp h).1
theorem itr_yld'{lo:Int}{n:Nat}{H H':Hp}{i:Nat}{x:V}(hi:i < n)(h:(Itr lo n).yld i H x H'):H'=H∧(rangeV lo n)[i]?=some x:=⟨h.1,rangeV_get.mpr ⟨hi,h.2⟩⟩
section
variable{X:Cx}
theorem strs_of:∀{ys:List Str} {us:List Value},Vals (ys.map V.str) us→StrsAre us ys
 |[],_,r=>by cases r;exact .nil
 |y::ys,_,r=>by
  cases r with
  |cons r1 r2 =>
   obtain⟨t,rfl⟩:=r1
   exact .cons y t (strs_of r2)
theorem mt_join:MtR X "str.join" (fun x vs H Q=>∃sep p ys,x=.str sep∧vs=[.ref p]∧SqL X.K H p (ys.map V.str)∧(ys.map (·.length)).sum+ys.length*sep.length≤16777216∧Q (.str (Txt.join sep ys)) H):=by
 intro pins s σ H x xs v us Q I rx rv h
 obtain⟨sep,p,ys,rfl,rfl,hq,hz,q⟩:=h
 obtain⟨t,rfl⟩:=rx
 obtain⟨u,rfl,ru⟩:=rv.one
 cases ru
 obtain⟨its,r,pl,_⟩:=I.list hq
 exact join_list pl.isList (by simpa using strs_of r) hz fun t' k=>⟨.str _,H,I.tok _,⟨_,rfl⟩,q⟩
end
end L2
namespace L2
open PySem PySem.Spec PyProof.Rows
mutual
inductive Dat (K:PySem.W.Frag) (H:Hp):V→PyData→Prop
 |non:Dat K H .non .none
 |bl (b:Bool):Dat K H (.bl b) (.bool b)
 |int (i:Int):Dat K H (.int i) (.int i)
 |str (x:Str):Dat K H (.str x) (.str x)
 |tup {a:Addr} {xs:List V} {ds:List PyData}:SqT K H a xs→Dats K H xs ds→Dat K H (.ref a) (.tuple ds)
 |lst {a:Addr} {xs:List V} {ds:List PyData}:SqL K H a xs→Dats K H xs ds→Dat K H (.ref a) (.list ds)
inductive Dats (K:PySem.W.Frag) (H:Hp):List V→List PyData→Prop
 |nil:Dats K H [] []
 |cons {x:V} {d:PyData} {xs:List V} {ds:List PyData}:Dat K H x d→Dats K H xs ds→Dats K H (x::xs) (d::ds)
end
theorem Same.tup{K:PySem.W.Frag}{H H':Hp}{a:Addr}{xs:List V}(e:Same H H')(h:SqT K H a xs):SqT K H' a xs:=by
 rcases h with (h|⟨o,h⟩)|h
 ·exact .inl (.inl (e _ _ h))
 ·exact .inl (.inr ⟨o,e _ _ h⟩)
 ·exact .inr h
mutual
theorem Dat.same{K:PySem.W.Frag}{H H':Hp}(e:Same H H'):∀{x:V} {d:PyData},Dat K H x d→Dat K H' x d
 |_,_,.non=>.non
 |_,_,.bl b=>.bl b
 |_,_,.int i=>.int i
 |_,_,.str x=>.str x
 |_,_,.tup h r=>.tup (e.tup h) (Dats.same e r)
 |_,_,.lst h r=>.lst (e.seq h) (Dats.same e r)
theorem Dats.same{K:PySem.W.Frag}{H H':Hp}(e:Same H H'):∀{xs:List V} {ds:List PyData},Dats K H xs ds→Dats K H' xs ds
 |_,_,.nil=>.nil
 |_,_,.cons h r=>.cons (Dat.same e h) (Dats.same e r)
end
section
variable{X:Cx}{pins:List (Addr × Obj)}{σ:St}{H:Hp}{s:Shared}
mutual
theorem Dat.reads(I:Inv X pins σ H s):∀{x:V} {d:PyData} {v:Value},Dat X.K H x d→RelV x v→∃as,Reads s.heap v d as
 |_,_,_,.non,r=>by cases r;exact⟨_,.none⟩
 |_,_,_,.bl b,r=>by cases r;exact⟨_,.bool b⟩
 |_,_,_,.int i,r=>by obtain⟨t,rfl⟩:=r;exact⟨_,.int i t⟩
 |_,_,_,.str x,r=>by obtain⟨t,rfl⟩:=r;exact⟨_,.str x t⟩
 |_,_,_,.tup hq ds,r=>by
  cases r
  obtain⟨its,rv,p,_⟩:=I.tuple hq
  obtain⟨as,q⟩:=Dats.reads I ds rv
  obtain⟨o,e,c,n,dt⟩:=p
  exact⟨as,.tuple e c dt (by simpa using q)⟩
 |_,_,_,.lst hq ds,r=>by
  cases r
  obtain⟨its,rv,p,_⟩:=I.list hq
  obtain⟨as,q⟩:=Dats.reads I ds rv
  obtain⟨o,n,e,c,_,dt⟩:=p
  exact⟨_,.list e c dt (by simpa using q)⟩
theorem Dats.reads(I:Inv X pins σ H s):∀{xs:List V} {ds:List PyData} {vs:List Value},Dats X.K H xs ds→Vals xs vs→∃as,ReadsAll s.heap vs ds as
 |_,_,_,.nil,r=>by cases r;exact⟨_,.nil⟩
 |_,_,_,.cons h t,r=>by
  cases r with
  |cons r1 r2 =>
   obtain⟨as,q⟩:=Dat.reads I h r1
   obtain⟨bs,q2⟩:=Dats.reads I t r2
   exact⟨_,.cons q q2⟩
end
end
section
variable{X:Cx}
def rEqD(K:PySem.W.Frag)(neg:Bool):R2:=fun x y H Q=>∃dx dy,Dat K H x dx∧Dat K H y dy∧SeqAt.shaped dx=true∧SeqAt.shaped dy=true∧Q (.bl (if neg then !PyData.eqv dx dy else PyData.eqv dx dy)) H
theorem op_eqD(hu:X.A.units+64 < cLine):OpR X (compareOp .Eq) (rEqD X.K false):=by
 intro pins s σ H x y v u Q I rx ry h
 obtain⟨dx,dy,hx,hy,sx,sy,q⟩:=h
 obtain⟨as,ra⟩:=Dat.reads I hx rx
 obtain⟨bs,rb⟩:=Dat.reads I hy ry
 exact eq_dataH ra rb sx sy hu ⟨.bl _,H,I,rfl,q⟩
theorem op_neD(hu:X.A.units+64 < cLine):OpR X (compareOp .NotEq) (rEqD X.K true):=by
 intro pins s σ H x y v u Q I rx ry h
 obtain⟨dx,dy,hx,hy,sx,sy,q⟩:=h
 obtain⟨as,ra⟩:=Dat.reads I hx rx
 obtain⟨bs,rb⟩:=Dat.reads I hy ry
 exact ne_dataH ra rb sx sy hu ⟨.bl _,H,I,rfl,q⟩
end
end L2
namespace L2
open PySem PySem.Spec PyProof.Rows
section
variable{X:Cx}
theorem canLayAll_mem{ds:List PyData}(h:PyData.canLayAll0 ds=true){d:PyData}(hd:d∈ds):d.canLay0=true:=PyData.canLay0_of_mem ds d h hd
theorem readsAll_get{h:Heap}:∀{vs:List Value} {ds:List PyData} {as:List Addr},ReadsAll h vs ds as→∀v∈vs,∃d∈ds,∃bs,Reads h v d bs
 |_,_,_,.nil,v,hv=>nomatch hv
 |_,_,_,.cons r t,v,hv=>by
  rcases List.mem_cons.mp hv with rfl|hv
  ·exact⟨_,List.mem_cons_self,_,r⟩
  ·obtain⟨d,hd,bs,q⟩:=readsAll_get t v hv
   exact⟨d,List.mem_cons_of_mem _ hd,bs,q⟩
open Classical in
noncomputable def eqAtD(h:Heap)(d:PyData)(v:Value):Bool:=if q:∃e,∃bs,Reads h v e bs then PyData.eqv q.choose d else false
theorem eqAtD_of{h:Heap}{d e:PyData}{v:Value}{as:List Addr}(hl:e.canLay0=true)(r:Reads h v e as):eqAtD h d v=PyData.eqv e d:=by
 unfold eqAtD
 have q:∃e,∃bs,Reads h v e bs:=⟨e,as,r⟩
 rw [dif_pos q]
 obtain⟨bs,r2⟩:=q.choose_spec
 rw [SeqAt.Reads.unique e _ v as bs hl r r2]
theorem any_eqAtD{h:Heap}{d:PyData}:∀{vs:List Value} {ds:List PyData} {as:List Addr},ReadsAll h vs ds as→PyData.canLayAll0 ds=true→vs.any (eqAtD h d)=ds.any fun e=>PyData.eqv e d
 |_,_,_,.nil,_=>rfl
 |_,_,_,.cons (d:=e) (ds:=es) r t,hl=>by
  have hl':e.canLay0=true∧PyData.canLayAll0 es=true:=by simpa only [PyData.canLayAll0,Bool.and_eq_true] using hl
  rw [List.any_cons,List.any_cons,eqAtD_of hl'.1 r,any_eqAtD t hl'.2]
def rInD(K:PySem.W.Frag)(neg:Bool):R2:=fun x y H Q=>∃p xs ds d,y=.ref p∧SqL K H p xs∧Dats K H xs ds∧Dat K H x d∧PyData.canLayAll0 ds=true∧d.canLay0=true∧d.depth≤60 ∧
 Q (.bl (if neg then !(ds.any fun e=>PyData.eqv e d) else ds.any fun e=>PyData.eqv e d)) H
theorem inD_items(hu:X.A.units+64 < cLine){pins:List (Addr × Obj)}{σ:St}{H:Hp}{s:Shared}{x:V}{v:Value}{p:Addr}{xs:List V}{ds:List PyData}{d:PyData}(I:Inv X pins σ H s)(rx:RelV x v)
  (hq:SqL X.K H p xs) (hds:Dats X.K H xs ds) (hd:Dat X.K H x d) (hl:PyData.canLayAll0 ds=true) (hl2:d.canLay0=true) (hdp:d.depth≤60) :
  ∃its:List Value,PlainL s.heap p its.toArray∧(∀y,y∈its.toArray→SeqAt.EqAt X.A.in1 s y v (eqAtD s.heap d y))∧its.toArray.any (eqAtD s.heap d)=ds.any fun e=>PyData.eqv e d:=by
 obtain⟨its,rv,pl,_⟩:=I.list hq
 obtain⟨as,ra⟩:=Dats.reads I hds rv
 obtain⟨bs,rb⟩:=Dat.reads I hd rx
 refine⟨its,pl,fun y hy=>?_,?_⟩
 ·obtain⟨e,he,cs,re⟩:=readsAll_get ra y (by simpa using hy)
  have hle:=canLayAll_mem hl he
  rw [eqAtD_of hle re]
  refine SeqAt.eqAt_reads e d X.A.in1 s y v cs bs re rb hle hl2 ?_
  have h1:min e.depth d.depth≤d.depth:=Nat.min_le_right _ _
  have h2:X.A.in1.units≤X.A.units+1:=by first|exact Nat.le_refl _|(show X.A.units+1≤X.A.units+1;exact Nat.le_refl _)|(show X.A.units≤X.A.units+1;exact Nat.le_succ _)
  omega
 ·rw [show its.toArray.any (eqAtD s.heap d)=its.any (eqAtD s.heap d) by simp]
  exact any_eqAtD ra hl
theorem op_inD(hu:X.A.units+64 < cLine):OpR X (compareOp .In) (rInD X.K false):=by
 intro pins s σ H x y v u Q I rx ry h
 obtain⟨p,xs,ds,d,rfl,hq,hds,hd,hl,hl2,hdp,q⟩:=h
 cases ry
 obtain⟨its,pl,he,ea⟩:=inD_items hu I rx hq hds hd hl hl2 hdp
 refine SeqAt.in_listAt (eqAtD s.heap d) pl.isList he ⟨.bl _,H,I,rfl,?_⟩
 rw [ea]
 exact q
end
end L2
namespace L2
open PySem PySem.Spec PyProof.Rows
def RawD(h:Heap)(d:Addr)(es:Array DictEntry)(ep:Nat):Prop:=∃o,h.get? d=some o∧o.ExactDict∧o.data=.dict es ep
section
variable{prog:Program}{w:World}{A:Around}{E:Value→Shared→Prop}{s:Shared}
theorem raw_iter{d:Addr}{es:Array DictEntry}{ep:Nat}{Q:Value→Shared→Prop}(hd:(d==sysModules)=false)(hm:RawD s.heap d es ep)
  (hQ:Q (.ref s.heap.objs.size) { s with heap:=s.heap.push { cls:=.type "dict_keyiterator",data:=.fields #[.ref d,.int 0 0,.int es.size 0,.int ep 0] } }):wpAny (model prog w) A (pyIter (.ref d)) Q E s:=by
 obtain⟨o,ho,hx,hdat⟩:=hm
 have tyD:s.TypeIs (.ref d) "dict":=⟨o,ho,hx.1⟩
 refine wpAny_pyIter_slot tyD F.slot_dict_iter (wpAny_call_entry F.slot_dict_iter tyD F.entry_dict_iter ?_ (F.args_dict_iter_1 _))
 unfold Builtin.«dict.__iter__» Builtin.Dict.dictSlotNone
 refine wpAny_bind (wpAny_bind (wpAny_notOrdered_dict tyD ?_))
 refine wpAny_pure (show wpAny _ _ (Builtin.Dict.showsAll d >>= _) _ _ s from ?_)
 unfold Builtin.Dict.showsAll
 rw [if_neg (fun z=>Bool.false_ne_true (hd.symm.trans z))]
 refine wpAny_bind (wpAny_pure (wpAny_bind (wpAny_dictEntries ho hdat (wpAny_bind (wpAny_dictEpoch ho hdat ?_)))))
 exact wpAny_bind (wpAny_newObj_type (wpAny_pure ⟨_,rfl,"dict_keyiterator",_,⟨_,Heap.get?_push_size _ rfl,rfl⟩,F.slot_dict_keyiterator_next.lookup,hQ⟩))
theorem raw_item{it d:Addr}{i ep:Nat}{es:Array DictEntry}{Q:Option Value→Shared→Prop}(hit:s.heap.IsKeyIter it d i es.size ep)(hm:RawD s.heap d es ep)(hi:i < es.size)
  (hQ:∀h',h'.IsKeyIter it d (i+1) es.size ep→Heap.SameBut it s.heap h'→Q (some es[i].key) { s with heap:=h' }):wpAny (model prog w) A (pyNext (.ref it)) Q E s:=by
 have tyI:=hit.typeIs
 obtain⟨oi,hoi,hci,hdi⟩:=id hit
 obtain⟨od,hod,_,hdd⟩:=hm
 unfold pyNext
 refine wpAny_bind (wpAny_attempt (wpAny_callSpecial?_slot (name:=Str.ofString "__next__") tyI F.slot_dict_keyiterator_next (wpAny_call_entry F.slot_dict_keyiterator_next tyI F.entry_dict_keyiterator_next ?_ (F.args_dict_keyiterator_next_1 _))))
 refine wpAny_bind (wpAny_pure (wpAny_bind (wpAny_bind ?_)))
 first|refine wpAny_bind (wpAny_typeNameOfWhole_keyiter tyI (wpAny_pure ?_))|refine wpAny_bind (wpAny_typeNameOf_keyiter tyI (wpAny_pure ?_))
 refine wpAny_bind (wpAny_fieldsOf hoi hdi ?_)
 simp only [show Builtin.Dict_items.ownsTuple "dict_keyiterator"=false from by decide,Bool.false_eq_true,if_false]
 show wpAny _ _ (if (Value.ref d==.none)=true then _ else _) _ _ s
 have ne0:¬((Value.ref d==Value.none)=true):=fun z=>Bool.false_ne_true z
 rw [if_neg ne0]
 refine wpAny_bind (wpAny_pure (wpAny_bind (wpAny_dictEntries hod hdd ?_)))
 rw [if_neg (by simp)]
 refine wpAny_bind (wpAny_pure (wpAny_bind (wpAny_dictEpoch hod hdd ?_)))
 rw [if_neg (by simp)]
 refine wpAny_pure ?_
 simp only [show ¬((i:Int) < 0) from Int.not_lt.mpr (Int.natCast_nonneg i),if_false,Int.toNat_natCast,Array.getElem?_eq_getElem hi]
 refine wpAny_bind ?_
 first|refine wpAny_bind (wpAny_typeNameOfWhole_keyiter tyI (wpAny_pure ?_))|refine wpAny_bind (wpAny_typeNameOf_keyiter tyI (wpAny_pure ?_))
 refine wpAny_bind (wpAny_isOneOf_keyiter tyI ?_)
 refine(show wpAny _ _ (setField (.ref it) 1 (rawInt ((i:Int)+1)) >>= _) _ _ s from wpAny_bind (wpAny_setField hoi hdi (by simp) ?_))
 have new:(s.heap.update it (Obj.mapFields (·.setIfInBounds 1 (rawInt ((i:Int)+1))))).IsKeyIter it d (i+1) es.size ep :=
  ⟨_,Heap.get?_update_self _ hoi (Obj.isFreed_of_fields (Obj.data_mapFields hdi _)),(Obj.cls_mapFields ..).trans hci,by rw [Obj.data_mapFields hdi];simp [rawInt]⟩
 refine wpAny_bind (wpAny_holding (wpAny_bind (wpAny_isOneOf_keyiter (s:={ s with heap:=s.heap.update it (Obj.mapFields (·.setIfInBounds 1 (rawInt ((i:Int)+1)))) }) new.typeIs ?_)))
 exact(show wpAny _ _ (pure es[i].key) _ _ _ from wpAny_pure (wpAny_pure ⟨_,rfl,wpAny_pure (hQ _ new (Heap.SameBut.update ..))⟩))
theorem raw_end{it d:Addr}{i ep:Nat}{es:Array DictEntry}{Q:Option Value→Shared→Prop}(hh:A.handled=none)(hit:s.heap.IsKeyIter it d i es.size ep)(hm:RawD s.heap d es ep)(hi:es.size≤i)
  (hF:∀h',Heap.ExtBut it s.heap h'→Q none { s with heap:=h' }):wpAny (model prog w) A (pyNext (.ref it)) Q E s:=by
 have tyI:=hit.typeIs
 obtain⟨oi,hoi,hci,hdi⟩:=id hit
 obtain⟨od,hod,_,hdd⟩:=hm
 unfold pyNext
 refine wpAny_bind (wpAny_attempt (wpAny_callSpecial?_slot (name:=Str.ofString "__next__") tyI F.slot_dict_keyiterator_next (wpAny_call_entry F.slot_dict_keyiterator_next tyI F.entry_dict_keyiterator_next ?_ (F.args_dict_keyiterator_next_1 _))))
 refine wpAny_bind (wpAny_pure (wpAny_bind (wpAny_bind ?_)))
 first|refine wpAny_bind (wpAny_typeNameOfWhole_keyiter tyI (wpAny_pure ?_))|refine wpAny_bind (wpAny_typeNameOf_keyiter tyI (wpAny_pure ?_))
 refine wpAny_bind (wpAny_fieldsOf hoi hdi ?_)
 simp only [show Builtin.Dict_items.ownsTuple "dict_keyiterator"=false from by decide,Bool.false_eq_true,if_false]
 show wpAny _ _ (if (Value.ref d==.none)=true then _ else _) _ _ s
 have ne0:¬((Value.ref d==Value.none)=true):=fun z=>Bool.false_ne_true z
 rw [if_neg ne0]
 refine wpAny_bind (wpAny_pure (wpAny_bind (wpAny_dictEntries hod hdd ?_)))
 rw [if_neg (by simp)]
 refine wpAny_bind (wpAny_pure (wpAny_bind (wpAny_dictEpoch hod hdd ?_)))
 rw [if_neg (by simp)]
 refine wpAny_pure ?_
 simp only [show ¬((i:Int) < 0) from Int.not_lt.mpr (Int.natCast_nonneg i),if_false,Int.toNat_natCast,Array.getElem?_eq_none hi]
 refine wpAny_bind ?_
 first|refine wpAny_bind (wpAny_typeNameOfWhole_keyiter tyI (wpAny_pure ?_))|refine wpAny_bind (wpAny_typeNameOf_keyiter tyI (wpAny_pure ?_))
 refine(show wpAny _ _ (setField (.ref it) 0 .none >>= _) _ _ s from wpAny_bind (wpAny_setField hoi hdi (by simp) ?_))
 refine(show wpAny _ _ (newExc (.type "StopIteration") [] >>= _) _ _ _ from wpAny_bind ?_)
 simp only [newExc,newTuple]
 refine wpAny_bind (wpAny_newObj_type (dict:=none) ?_ (by size_fits))
 refine wpAny_bind (m:=firstArgMember _ _) (wpAny_of_eq (a:=Value.none) (by first|rfl|(simp only [firstArgMember];rfl)) (wpAny_newObj_type ?_ (by size_fits)))
 simp only [raiseNew]
 refine wpAny_bind (m:=_) (wpAny_handled ?_)
 rw [(show A.in1.handled=none from hh)]
 refine wpAny_bind (wpAny_pure (wpAny_throw (wpAny_bind ?_)))
 refine wpAny_isInstance (b:=true) (T:="StopIteration") ⟨_,Heap.get?_push_size _ rfl,rfl⟩ isSubtype_stop ?_
 exact wpAny_pure (hF _ (((Heap.SameBut.update ..).extBut.push _).push _))
end
end L2
namespace L2
open PySem PySem.Spec PyProof.Rows
section
variable{X:Cx}
end
end L2
namespace Kk
open PySem L2
inductive Kd where
 |num (n:Int)
 |name (q t:Str)
 |pair (a b:Kd)
 deriving DecidableEq
def Kd.words:Kd→Nat
 |.num _=>1
 |.name _ _=>1
 |.pair a b=>1+a.words+b.words
def Kd.leaves:Kd→List Kd
 |.num n=>[.num n]
 |.name q t=>[.name q t]
 |.pair a b=>a.leaves++b.leaves
def Kd.leaf:Kd→Bool
 |.pair _ _=>false
 |_=>true
inductive KdAt (K:PySem.W.Frag) (H:Hp):V→Kd→Prop
 |num {a:Addr} {n:Int}:SqT K H a [.str "num",.int n]→KdAt K H (.ref a) (.num n)
 |name {a:Addr} {q t:Str}:SqT K H a [.str "name",.str q,.str t]→KdAt K H (.ref a) (.name q t)
 |pair {a:Addr} {x y:V} {k l:Kd}:SqT K H a [.str "pair",x,y]→KdAt K H x k→KdAt K H y l→KdAt K H (.ref a) (.pair k l)
theorem KdAt.same{K:PySem.W.Frag}{H H':Hp}(e:Same H H'):∀{x:V} {k:Kd},KdAt K H x k→KdAt K H' x k
 |_,_,.num h=>.num (e.tup h)
 |_,_,.name h=>.name (e.tup h)
 |_,_,.pair h a b=>.pair (e.tup h) (a.same e) (b.same e)
end Kk
namespace L2
open PySem PySem.Spec PyProof.Rows
section
variable{α β:Type}{P:Shared→Prop}
variable{x:Addr}{d:Option Addr}
end
end L2
namespace L2
open PySem PySem.Spec PyProof.Rows
section
variable{P:Program}{w:World}
structure Fly(P:Program)(w:World)(outer:List Env)(H:Hp)(s:Shared)(x:Addr)(cls:Value)(H':Hp)(s':Shared):Prop where
 os:s'.os=s.os
 bare:AllBare s'.gens
 un:Un (frs outer) [] H H' s.heap s'.heap
 hok:HOk P w H' s'.heap
 fl:∃B a0,Heap.FlyingW B outer x cls a0 s'.heap∧(∀b o,H' b=some o→∃u,B.get? b=some u)∧∀b o,s.heap.get? b=some o→b∉frs outer→∃u,B.get? b=some u
 free:H' x=none
end
section
variable{X:Cx}{pins:List (Addr × Obj)}{σ:St}{H H':Hp}{s s':Shared}{x:Addr}{cls:Value}{E:Value→Shared→Prop}{Q:Unit→Shared→Prop}
end
section
variable{P:Program}{w:World}{K:PySem.W.Frag}{mg:Str→Option Value}{base:Heap}{N:List Str}{qual:Str}{scope:Scope}{f:Addr}{cd:Value}{A:Around}{outer:List Env}{s:Shared}{H:Hp}{E:XK}
end
abbrev bmVE:List Value:=[.type "ValueError",.type "Exception",.type "BaseException",.type "object"]
section
variable{P:Program}{w:World}{K:PySem.W.Frag}{mg:Str→Option Value}{base:Heap}
end
end L2
namespace L2
open PySem PySem.Spec PyProof.Rows
section
variable{X:Cx}{pins:List (Addr × Obj)}{σ:St}{H H':Hp}{s s':Shared}{x:Addr}{cls:Value}
end
abbrev Cx.inE(X:Cx)(e:Addr):Cx:={ X with A:=X.A.mark (some (.ref e)),calm:=false }
section
variable{X:Cx}{pins:List (Addr × Obj)}{σ:St}{H:Hp}{s:Shared}
end
def etry(X:Cx)(hs:List ExceptHandler)(pins:List (Addr × Obj))(D:Ends):Value→Shared→Prop:=fun e s1 =>
 wpAny (model X.prog X.w) X.A (noteFrame e X.env) (fun _ s2=>wpAny (model X.prog X.w) X.A (setFlight e none) (fun _ s3=>wpAny (model X.prog X.w) X.A (handleBy e X.env hs) (SP X pins D) X.xe s3) X.xe s2) X.xe s1
abbrev Cx.tryIn(X:Cx)(hs:List ExceptHandler)(pins:List (Addr × Obj))(D:Ends):Cx:={ X with pn:=X.pn++pins,xe:=etry X hs pins D }
section
variable{X:Cx}{hs:List ExceptHandler}{pins pins':List (Addr × Obj)}{D D':Ends}{σ:St}{H:Hp}{s:Shared}
end
section
variable{X:Cx}{CX:CXT}{k:Nat}{f C:Addr}{fd:FuncData}{ps:List Str}{sp:Sp}{dvs:List V}{ds:List Value}{E:St→XK}{x m:Str}{p pos apos:Pos}{e o:Expr}{es:List Expr}{ta:TE}{t:TA}
end
end L2
namespace L2
open PySem PySem.Spec PyProof.Rows
section
variable{X:Cx}{pos:Pos}{e:Expr}{es:List Expr}{te:TE}
end
end L2
namespace L2
open PySem PySem.Spec PyProof.Rows
section
variable{prog:Program}{w:World}{A:Around}{s:Shared}{E:Value→Shared→Prop}{K:Type}[DecidableEq K]{knd:KeyKind prog w K}
end
section
variable{X:Cx}
theorem valV_nodup{kvs:List (Key × V)}(hn:(kvs.map (·.1)).Nodup):∀p∈kvs,valV kvs p.1=some p.2:=by
 intro p hp
 induction kvs with
 |nil=>cases hp
 |cons q r ih =>
  have hn:=List.nodup_cons.mp (List.map_cons▸hn)
  unfold valV
  rw [List.find?_cons]
  by_cases e:q.1=p.1
  ·have eq:q=p:=by
    rcases List.mem_cons.mp hp with z|z
    ·exact z.symm
    ·exact absurd (List.mem_map.mpr ⟨p,z,e.symm⟩) hn.1
   rw [decide_eq_true e,eq]<;>rfl
  ·rw [decide_eq_false e]
   have hp':p∈r:=(List.mem_cons.mp hp).resolve_left fun z=>e (by rw [z])
   exact ih hn.2 hp'
theorem call_dict_dK:CallR X (.type "dict") (fun xs H Q=>∃a kvs,xs=[.ref a]∧H a=some (.dK kvs)∧∀l,H l=none→Q (.ref l) (upd H l (.dK kvs))):=by
 intro pins s σ H xs us Q I r h
 obtain⟨a,kvs,rfl,ha,q⟩:=h
 obtain⟨u,rfl,ru⟩:=vals1 r
 cases ru
 obtain⟨z,hd,vs,rel,dd⟩:=dk_of I.hok ha
 refine PySem.kt_call_dict hd dd (by rw [←rel.length];exact z) fun h' dd' hs=>?_
 have keep:∀b o,s.heap.get? b=some o→h'.get? b=some o:=fun b o e=>(hs.2 b (Nat.ne_of_lt (Heap.lt_size e))).trans (Heap.get?_push_of_some _ e)
 refine⟨.ref s.heap.objs.size,_,I.laid (o:=.dK kvs) (t':=s.toks) keep (Nat.le_refl _) ⟨z,beq_eq_false_iff_ne.mpr (Ne.symm (Nat.ne_of_lt I.big)),vs,rel,dd'⟩,rfl,q _ (I.hok.fresh (Nat.le_refl _))⟩
theorem dK_nodup{pins:List (Addr × Obj)}{σ:St}{H:Hp}{s:Shared}{a:Addr}{kvs:List (Key × V)}(I:Inv X pins σ H s)(e:H a=some (.dK kvs)):(kvs.map (·.1)).Nodup:=by
 obtain⟨_,_,vs,rel,dd⟩:=dk_of I.hok e
 obtain⟨_,_,_,_,_,_,_,_,hn⟩:=dd
 have ek:∀{l:List (Key × V)} {m:List (Key × Value)},KV l m→l.map (·.1)=m.map (·.1):=fun {l m} p=>by
  unfold KV at p
  induction p with
  |nil=>rfl
  |cons h _ ih=>rw [List.map_cons,List.map_cons,ih,h.1]
 rw [ek rel]
 exact hn
end
end L2
namespace L2
open PySem PySem.Spec PyProof.Rows
structure ExcCls(K:PySem.W.Frag)(D:Addr):Prop where
 is:(match K.lookup D with|some ⟨_,_,.cls _,_⟩=>true|_=>false)=true
 ga:PySem.W.findIn K (.ref D) "__getattribute__"=some (some (.builtin "BaseException.__getattribute__"))
 gh:PySem.W.findIn K (.ref D) "__getattr__"=some none
 cl:PySem.W.findIn K (.ref D) "__class__"=some (some (.builtin "object.__class__"))
 sp:PySem.W.specialIn K (.builtin "object.__class__") "__get__"=some (some (.builtin "getset_descriptor.__get__"))
 tk:PySem.W.takesIn K (.builtin "object.__class__")=some true
 ob:PySem.W.mroIn K D (.type "object")=some true
 be:PySem.W.mroIn K D (.type "BaseException")=some true
section
variable{prog:Program}{w:World}{A:Around}{E:Value→Shared→Prop}{s:Shared}{K:PySem.W.Frag}{x D:Addr}
end
section
variable{X:Cx}
end
section
variable{X:Cx}{pins:List (Addr × Obj)}{σ:St}{H H':Hp}{s s':Shared}{x:Addr}{cls:Value}
def Ends.gone(D:Ends)(i:Nat):Ends:={ nx:=fun σ H=>D.nx (σ.set i none) H,rt:=D.rt,bk:=fun σ H=>D.bk (σ.set i none) H,ct:=fun σ H=>D.ct (σ.set i none) H }
end
end L2
namespace L2
open PySem PySem.Spec PyProof.Rows
structure FunD(K:PySem.W.Frag)(x qual:Str)(st:Stmt)(dV:Value)(f:Addr)(fd:FuncData):Prop where
 ex:∃(oc:Value) (od:Option Addr) (kV doc pm:Value) (an:Option Addr) (cdv ct:Value) (osl:Array (Option Value)),
  fd=PySem.W.fnOf x qual (defArgs st) (defBody st) (defScope st) dV kV doc pm an cdv ct∧K.lookup f=some ⟨oc,od,.func fd,osl⟩∧PySem.W.codeIn K cdv qual=true
 kp:PySem.W.keepIn K (.ref f)=true
section
variable{P:Program}{w:World}{K:PySem.W.Frag}{mg:Str→Option Value}{base:Heap}
end
end L2
namespace L2
open PySem PySem.Spec PyProof.Rows
section
variable{X:Cx}
theorem ps_compG{i0:Nat}{y0:Str}{py0 spos:Pos}{tg elt iter:Expr}{ifs:List Expr}{own caps:List Str}{κ:List Nat}{sc:Scope}{cl:List (Str × Addr)}{pos:Pos}{wi:TI}{g:TG}{tc:TT}{te:TE}(hN:X.N.Nodup)(hi0:X.N[i0]?=some y0)(hy0:Loc X.env.scope y0)(hcalm:X.calm=true)(S:BlkSc X caps sc cl)(hκ:κ.map (fun k=>X.N[k]?)=caps.map some)
  (hi:PI X tg iter wi) (hg:∀s₀ H₀ C ex,PG (blk X (own++caps) sc cl s₀ H₀ C ex) tg g)
  (hc:∀s₀ H₀ C ex (pins:List (Addr × Obj)) (s:Shared) (σ:St) (H:Hp) (Q:Bool→Hp→Prop),Inv (blk X (own++caps) sc cl s₀ H₀ C ex) pins σ H s→tc σ H Q →
   wpAny (model X.prog X.w) X.A (forIn ifs true fun c r=>if r=true then do let ok ←isTrue c (compEnvC sc cl C X.env) (eval c (compEnvC sc cl C X.env));pure (ForInStep.yield ok) else pure (ForInStep.yield r)) (TP (blk X (own++caps) sc cl s₀ H₀ C ex) pins σ Q) (fun _ _=>False) s)
  (he:∀s₀ H₀ C ex,PE (blk X (own++caps) sc cl s₀ H₀ C ex) elt te)
  (hs:∀x,foldedSetIterable iter X.env x=pure x:=by intro _;rfl) (hsw:swapsWith (.ListComp elt [⟨tg,iter,ifs,0⟩] sc pos) (some (.Name y0 py0)) spos.line X.env=pure true:=by rfl)
  (hf0:X.fn y0=true∨X.env.scope.names.lookup y0=some .local:=by first|exact .inl rfl|exact .inr rfl|assumption) :
  PS X (.Assign [.Name y0 py0] (.ListComp elt [⟨tg,iter,ifs,0⟩] sc pos) spos) (tAsg (tComp own.length κ wi g tc te) (gName i0)):=by
 intro pins s σ H D0 I h
 rw [exec_Assign_Name_used _ _ _ _ hsw]
 refine wpAny_bind (wpAny_standAt (wpAny_bind ?_))
 show wpAny _ X.A (do let _ ←comprehension (.ListComp elt [⟨tg,iter,ifs,0⟩] sc pos) sc X.env _ (newList []) false (eval iter X.env) (some (assign (.Name y0 py0) X.env))) _ _ s
 refine wpAny_bind (wpAny_mono (wpAny_comprehension_free (use:=some (assign (.Name y0 py0) X.env)) (Q:=fun _ s'=>SP X pins D0 .next s') rfl hs S.clos S.kind S.names (thn (hi pins s σ H _ I h) fun v s1 h1=>thn h1 fun itv s2 h2=>?_))
  (fun _ s' hq=>wpAny_pure (wpAny_pure hq)) fun _ _ e=>e)
 obtain⟨it,fp,tn,J,H2,e,I2,T,st2,f2,W,⟨m0,w0⟩,turn⟩:=h2
 subst e
 have hfp:∀b∈fp,b < s2.heap.objs.size:=fun b hb=>by
  obtain⟨o,e,_⟩:=T.obj _ _ st2 b hb
  exact Heap.lt_size e
 refine wpAny_newObj_type (wpAny_newFunctionEnv S.nocell (fun y hy=>nomatch hy) (fun h₁ hns hsb=>?_) S.kind)
 generalize ehp:s2.heap.push { cls:=.type "list",dict:=none,data:=.seq ([]:List Value).toArray }=hp at hns hsb ⊢
 have hsz:hp.objs.size=s2.heap.objs.size+1:=by rw [←ehp,Heap.size_push]
 have hDC:s2.heap.objs.size≠hp.objs.size:=by rw [hsz];exact Nat.ne_of_lt (Nat.lt_succ_self _)
 have old:∀b o,hp.get? b=some o→h₁.get? b=some o:=fun b o e=>(hsb.2 b (Nat.ne_of_lt (Heap.lt_size e))).trans (Heap.get?_push_of_some _ e)
 have eD:h₁.get? s2.heap.objs.size=some { cls:=.type "list",data:=.seq ([]:List Value).toArray }:=old _ _ (by rw [←ehp];exact Heap.get?_push_size _ rfl)
 have I0:=Inv.block (own:=own) (h₁:=h₁) (tk:=s2.toks+([]:List (Str × Value)).length) S hκ I2 f2 hfp ehp.symm hns old
 have stkD:s2.heap.objs.size∉frs X.stack:=fun z=>(List.mem_cons.mp (I2.stkSub _ z)).elim (Nat.ne_of_gt I2.lt) (I2.nofs (Nat.le_refl _))
 have cellD:∀x c,cl.lookup x=some c→c≠s2.heap.objs.size:=fun x c q=>by
  obtain⟨v,z⟩:=I2.cell x c (S.subc q)
  exact Nat.ne_of_lt z.lt
 have pinD:∀p∈X.pn++pins,p.1≠s2.heap.objs.size:=fun p hp=>Nat.ne_of_lt (Heap.lt_size (I2.pin p hp).1)
 have stkF:∀b∈fp,b∉frs X.stack:=fun b hb z=>(List.mem_cons.mp (I2.stkSub _ z)).elim (f2 b hb).2.1 (f2 b hb).2.2.1
 have loop:codeAny (model X.prog X.w) X.A (.compLoop (.ListComp elt [⟨tg,iter,ifs,0⟩] sc pos) 0 (.ref it) (.ref s2.heap.objs.size) (compEnvC sc cl hp.objs.size X.env))
   (compPost (model X.prog X.w) X.A X.xe (some (assign (.Name y0 py0) X.env)) (fun _ s'=>SP X pins D0 .next s') (.ref s2.heap.objs.size) hp.objs.size) { s2 with heap:=h₁,toks:=s2.toks+([]:List (Str × Value)).length }:=by
  refine codeAny_loop rfl (fun n s'=>∃(i:Nat) (ys:List V) (its:List Value) (cap:Nat) (H':Hp),Inv (blk X (own++caps) sc cl { s2 with heap:=hp } H2 hp.objs.size (s2.heap.objs.size::fp)) pins (blkSt own.length κ σ) H' s'∧tn i s'.heap∧(∀b∈fp,H' b=none) ∧
   s'.heap.get? s2.heap.objs.size=some { cls:=.type "list",data:=.seq its.toArray cap }∧H' s2.heap.objs.size=none∧Vals ys its∧ys.length≤sizeLine∧W i n ys H') (fun n s3 hI=>?_) m0
   ⟨0,[],[],0,H2,I0,T.keep _ _ _ st2 fun b hb o e=>old _ _ (by rw [←ehp];exact Heap.get?_push_of_some _ e),fun b hb=>(f2 b hb).1,eD,I2.hok.fresh (Nat.le_refl _),.nil,Nat.zero_le _,w0⟩
  obtain⟨i,ys,its,cap,H3,I3,st3,fr3,eD3,nD3,rv,hz,w3⟩:=hI
  show wpAny _ X.A ((compTurn (.ListComp elt [⟨tg,iter,ifs,0⟩] sc pos) 0 (.ref it) (.ref s2.heap.objs.size) (compEnvC sc cl hp.objs.size X.env)).onRaise fun x=>do noteFrame x (compEnvC sc cl hp.objs.size X.env);theTreesLotGoes x) _ _ s3
  refine wpAny_noted ?_
  rw [compTurn_list]
  have I3':Inv (blk X (own++caps) sc cl { s2 with heap:=hp } H2 hp.objs.size (s2.heap.objs.size::fp)) (pins++[(s2.heap.objs.size,{ cls:=.type "list",data:=.seq its.toArray cap })]) (blkSt own.length κ σ) H3 s3:=by
   refine I3.pins_of fun p hp=>(List.mem_append.mp hp).elim (fun z=>I3.pin p (List.mem_append_right _ z)) fun z=>?_
   obtain rfl:=List.mem_singleton.mp z
   exact⟨eD3,nD3,hDC,stkD,fun v q=>by cases q⟩
  have fpk:∀{H':Hp},(∀b∈fp,H' b=none)→∀b∈fp,FpOk (blk X (own++caps) sc cl { s2 with heap:=hp } H2 hp.objs.size (s2.heap.objs.size::fp)) (pins++[(s2.heap.objs.size,{ cls:=.type "list",data:=.seq its.toArray cap })]) H' b:=fun {H'} hn b hb =>
   ⟨hn b hb,by show b≠hp.objs.size;rw [hsz];exact Nat.ne_of_lt (Nat.lt_succ_of_lt (hfp b hb)),stkF b hb,.inl (List.mem_cons_of_mem _ hb),fun x c q=>(f2 b hb).2.2.2.2.1 x c (S.subc q),fun p hp=>by
    rw [←List.append_assoc] at hp
    rcases List.mem_append.mp hp with z|z
    ·exact(f2 b hb).2.2.2.2.2 p z
    ·obtain rfl:=List.mem_singleton.mp z
     exact Nat.ne_of_gt (hfp b hb)⟩
  rcases turn i n ys H3 w3 with ⟨stop,fin⟩|⟨go,hlt,step⟩
  ·refine wpAny_bind (wpAny_standAt (wpAny_bind (thn (T.done (blk X (own++caps) sc cl { s2 with heap:=hp } H2 hp.objs.size (s2.heap.objs.size::fp)) rfl rfl rfl hcalm i _ s3 _ H3 _ I3' (fpk fr3) st3 stop) fun r s4 ⟨hr,I4⟩=>?_)))
   subst hr
   refine wpAny_pure ?_
   obtain⟨m,hm,_⟩:=I4.loc
   have eD4:=(I4.pin (s2.heap.objs.size,{ cls:=.type "list",data:=.seq its.toArray cap }) (List.mem_append_right _ (List.mem_append_right _ (List.mem_singleton.mpr rfl)))).1
   have I5:Inv X pins σ (upd H3 s2.heap.objs.size (.lst ys)) { s4 with heap:=s4.heap }:=Inv.unblock I2 f2 ehp.symm I4 eD4 nD3 rv hz (Heap.SameBut.refl ..)
   have neL:hp.objs.size≠X.env.locals:=by rw [hsz];exact Nat.ne_of_gt (Nat.lt_succ_of_lt I2.lt)
   have neC:∀x c,X.env.cells.lookup x=some c→c≠hp.objs.size:=fun x c q=>by
    obtain⟨v,z⟩:=I2.cell x c q
    rw [hsz]
    exact Nat.ne_of_lt (Nat.lt_succ_of_lt z.lt)
   have frC:upd H3 s2.heap.objs.size (.lst ys) hp.objs.size=none:=by rw [upd_ne (Ne.symm hDC)];exact I4.free
   show wpAny (model X.prog X.w) X.A (assign (.Name y0 py0) X.env (.ref s2.heap.objs.size)) _ X.xe s4
   refine wpAny_assign_Name (store_ok2 (v:=.ref s2.heap.objs.size) I5 hN hi0 hy0 rfl (fun s5 I6 ⟨a,sb,ha⟩=>?_) hf0)
   have hCa:hp.objs.size≠a:=by
    rcases ha with ha|ha
    ·rw [ha];exact neL
    ·exact Ne.symm (neC _ _ ha)
   refine⟨m,hm.sameBut sb hCa,fun h' sb'=>⟨_,_,I6.turned (t':=s5.toks) (fun b o hb e=>(sb'.2 b hb).trans e) frC neL (.inr ?_) neC (fun p hp'=>?_),fin _ nD3⟩⟩
   ·exact Nat.le_trans I2.sz (by rw [hsz];exact Nat.le_succ _)
   ·have:=Heap.lt_size (I2.pin p hp').1
    rw [hsz]
    exact Nat.ne_of_lt (Nat.lt_succ_of_lt this)
  ·refine wpAny_bind (wpAny_standAt (wpAny_bind (thn (T.item (blk X (own++caps) sc cl { s2 with heap:=hp } H2 hp.objs.size (s2.heap.objs.size::fp)) rfl rfl rfl hcalm i _ s3 _ H3 _ I3' (fpk fr3) st3 go) fun r s4 ⟨u,hr,h4⟩=>?_)))
   subst hr
   refine wpAny_bind (thn h4 fun _ s5 ⟨x,H5,I5,r5,y5,st5,fr5⟩=>?_)
   have I5':=I5.pinned (fpk fr5) (T.obj _ _ st5)
   refine wpAny_bind (wpAny_mono (hg _ _ _ _ _ s5 _ H5 x u _ I5' r5 (step x H5 y5)) (fun _ s6 ⟨σ6,H6,I6,eσ,q6⟩=>?_) fun _ _ z=>z.elim)
   refine wpAny_bind (wpAny_mono (hc _ _ _ _ _ s6 σ6 H6 _ I6 q6) (fun ok s7 ⟨H7,I7,q7⟩=>?_) fun _ _ z=>z.elim)
   have back:∀{s8:Shared} {H8:Hp},Inv (blk X (own++caps) sc cl { s2 with heap:=hp } H2 hp.objs.size (s2.heap.objs.size::fp)) ((pins++[(s2.heap.objs.size,{ cls:=.type "list",data:=.seq its.toArray cap })])++pinsAt fp s5.heap) σ6 H8 s8 →
     Inv (blk X (own++caps) sc cl { s2 with heap:=hp } H2 hp.objs.size (s2.heap.objs.size::fp)) pins (blkSt own.length κ σ) H8 s8∧tn (i+1) s8.heap∧(∀b∈fp,H8 b=none)∧s8.heap.get? s2.heap.objs.size=some { cls:=.type "list",data:=.seq its.toArray cap }∧H8 s2.heap.objs.size=none:=by
    intro s8 H8 I8
    have pk:∀b∈fp,∀o,s5.heap.get? b=some o→s8.heap.get? b=some o∧H8 b=none:=fun b hb o e=>by
     have z:=I8.pin (b,o) (List.mem_append_right _ (List.mem_append_right _ (mem_pinsAt hb e)))
     exact⟨z.1,z.2.1⟩
    have zD:=I8.pin (s2.heap.objs.size,{ cls:=.type "list",data:=.seq its.toArray cap }) (List.mem_append_right _ (List.mem_append_left _ (List.mem_append_right _ (List.mem_singleton.mpr rfl))))
    refine⟨(I8.pins_of fun p hp=>I8.pin p (List.mem_append_right _ (List.mem_append_left _ (List.mem_append_left _ hp)))).weak ?_ fun j v e=>?_,T.keep _ _ _ st5 fun b hb o e=>(pk b hb o e).1,fun b hb=>?_,zD.1,zD.2.1⟩
    ·exact I3.len.trans I8.len.symm
    ·have hge:own.length≤j:=by
      refine Nat.le_of_not_lt fun q=>?_
      unfold blkSt at e
      rw [List.getElem?_append_left (by rw [List.length_replicate];exact q),List.getElem?_replicate,if_pos q] at e
      cases e
     have z:=congrArg (fun l=>l[j - own.length]?) eσ
     simp only [List.getElem?_drop] at z
     rw [show own.length+(j - own.length)=j by omega] at z
     rw [z]
     exact e
    ·obtain⟨o,e,_⟩:=T.obj _ _ st5 b hb
     exact(pk b hb o e).2
   cases ok with
   |false =>
    obtain⟨m',hm,w7⟩:=(if_neg Bool.false_ne_true)▸q7
    obtain⟨I8,st8,fr8,e8,n8⟩:=back I7
    exact wpAny_pure ⟨rfl,m',hm,i+1,ys,its,cap,H7,I8,st8,fr8,e8,n8,rv,hz,w7⟩
   |true =>
    have q7':=(if_pos rfl)▸q7
    refine wpAny_bind (wpAny_bind (wpAny_mono (he _ _ _ _ _ s7 σ6 H7 _ I7 q7') (fun y s8 ⟨v8,H8,I8,r8,m',hm,w8⟩=>?_) fun _ _ z=>z.elim))
    obtain⟨I9,st9,fr9,e9,n9⟩:=back I8
    have hl:=rv.length
    refine wpAny_bind (wpAny_list_append_plain (items:=its.toArray) ⟨cap,e9⟩ (fun h' hl' sb=>?_) (by rw [List.size_toArray,←hl];exact hz))
    obtain⟨cap',e'⟩:=hl'
    refine wpAny_pure (wpAny_pure ⟨rfl,m',hm,i+1,ys++[v8],its++[y],cap',H8,?_,?_,fr9,?_,n9,Vals.append rv (.cons r8 .nil),?_,w8⟩)
    ·exact I9.turned (t':=s8.toks) (fun b o hb e=>(sb.2 b hb).trans e) n9 hDC (.inl List.mem_cons_self) cellD pinD
    ·exact T.keep _ _ _ st9 fun b hb o e=>(sb.2 b (Nat.ne_of_lt (hfp b hb))).trans e
    ·rw [e']
     congr 3
     simp
    ·rw [List.length_append]
     exact hlt
 exact codeAny_compStart_list loop (T.self _ 0 _ _ _ (T.keep _ _ _ st2 fun b hb o e=>old _ _ (by rw [←ehp];exact Heap.get?_push_of_some _ e)) loop)
theorem ps_comp{i0:Nat}{y0:Str}{py0 spos:Pos}{tg elt iter:Expr}{own caps:List Str}{κ:List Nat}{sc:Scope}{cl:List (Str × Addr)}{pos:Pos}{wi:TI}{g:TG}{te:TE}(hN:X.N.Nodup)(hi0:X.N[i0]?=some y0)(hy0:Loc X.env.scope y0)(hcalm:X.calm=true)(S:BlkSc X caps sc cl)(hκ:κ.map (fun k=>X.N[k]?)=caps.map some)
  (hi:PI X tg iter wi) (hg:∀s₀ H₀ C ex,PG (blk X (own++caps) sc cl s₀ H₀ C ex) tg g) (he:∀s₀ H₀ C ex,PE (blk X (own++caps) sc cl s₀ H₀ C ex) elt te)
  (hs:∀x,foldedSetIterable iter X.env x=pure x:=by intro _;rfl) (hsw:swapsWith (.ListComp elt [⟨tg,iter,[],0⟩] sc pos) (some (.Name y0 py0)) spos.line X.env=pure true:=by rfl)
  (hf0:X.fn y0=true∨X.env.scope.names.lookup y0=some .local:=by first|exact .inl rfl|exact .inr rfl|assumption) :
  PS X (.Assign [.Name y0 py0] (.ListComp elt [⟨tg,iter,[],0⟩] sc pos) spos) (tAsg (tComp own.length κ wi g tYes te) (gName i0)) :=
 ps_compG hN hi0 hy0 hcalm S hκ hi hg (fun s₀ H₀ C ex pins s σ H Q I h=>wpAny_tests_nil ⟨H,I,h⟩) he hs hsw hf0
theorem ps_comp_if{i0:Nat}{y0:Str}{py0 spos:Pos}{tg elt iter c:Expr}{own caps:List Str}{κ:List Nat}{sc:Scope}{cl:List (Str × Addr)}{pos:Pos}{wi:TI}{g:TG}{tc:TT}{te:TE}(hN:X.N.Nodup)(hi0:X.N[i0]?=some y0)(hy0:Loc X.env.scope y0)(hcalm:X.calm=true)(S:BlkSc X caps sc cl)(hκ:κ.map (fun k=>X.N[k]?)=caps.map some)
  (hi:PI X tg iter wi) (hg:∀s₀ H₀ C ex,PG (blk X (own++caps) sc cl s₀ H₀ C ex) tg g) (hc:∀s₀ H₀ C ex,PT (blk X (own++caps) sc cl s₀ H₀ C ex) c tc) (he:∀s₀ H₀ C ex,PE (blk X (own++caps) sc cl s₀ H₀ C ex) elt te)
  (hs:∀x,foldedSetIterable iter X.env x=pure x:=by intro _;rfl) (hsw:swapsWith (.ListComp elt [⟨tg,iter,[c],0⟩] sc pos) (some (.Name y0 py0)) spos.line X.env=pure true:=by rfl)
  (hf0:X.fn y0=true∨X.env.scope.names.lookup y0=some .local:=by first|exact .inl rfl|exact .inr rfl|assumption) :
  PS X (.Assign [.Name y0 py0] (.ListComp elt [⟨tg,iter,[c],0⟩] sc pos) spos) (tAsg (tComp own.length κ wi g tc te) (gName i0)) :=
 ps_compG hN hi0 hy0 hcalm S hκ hi hg (fun s₀ H₀ C ex pins s σ H Q I h=>wpAny_tests_one (hc s₀ H₀ C ex pins s σ H Q I h)) he hs hsw hf0
end
end L2
namespace L2
open PySem PySem.Spec PyProof.Rows
section
variable{X:Cx}{pins:List (Addr × Obj)}{σ:St}{H:Hp}{s:Shared}{h':Heap}
end
section
variable{X:Cx}{tg:Expr}
end
section
variable{prog:Program}{w:World}{A:Around}{E:Value→Shared→Prop}{s:Shared}
theorem nextT_item{j t:Addr}{n:Nat}{its:Array Value}{v:Value}{Q:Value→Shared→Prop}(hj:s.heap.IsTupleIter j t n)(ht:s.heap.IsTuple t its)(hv:its[n]?=some v)
  (q:∀h',h'.IsTupleIter j t (n+1)→Heap.SameBut j s.heap h'→Q v { s with heap:=h' }):wpAny (model prog w) A (Builtin.SmallTypes.nextOf (.ref j)) Q E s:=by
 obtain⟨oj,ej,cj,dj⟩:=id hj
 obtain⟨ot,et,_,nt,dt⟩:=ht
 unfold Builtin.SmallTypes.nextOf
 refine wpAny_bind (wpAny_callSpecial?_slot (name:=Str.ofString "__next__") hj.typeIs F.slot_tuple_iterator_next (wpAny_call_entry F.slot_tuple_iterator_next hj.typeIs F.entry_tuple_iterator_next ?_ (F.args_tuple_iterator_next_1 _)))
 show wpAny _ _ (field (.ref j) 0 >>= _) _ _ s
 refine wpAny_bind (wpAny_field ej dj (x:=.ref t) rfl ?_)
 show wpAny _ _ (if (Value.ref t==Value.none)=true then _ else _) _ _ _
 rw [if_neg (show ¬(Value.ref t==Value.none)=true from Bool.false_ne_true)]
 show wpAny _ _ (field (.ref j) 1 >>= _) _ _ s
 refine wpAny_bind (wpAny_field ej dj (x:=.int n 0) rfl ?_)
 show wpAny _ _ (seqItems? (.ref t) >>= _) _ _ _
 refine wpAny_bind (wpAny_seqItems et dt ?_)
 simp only [Int.toNat_natCast,hv]
 refine wpAny_bind (wpAny_setField ej dj (by simp) (wpAny_pure ⟨v,rfl,wpAny_pure (q _ ?_ (Heap.SameBut.update ..))⟩))
 exact⟨_,Heap.get?_update_self _ ej (Obj.isFreed_of_fields (Obj.data_mapFields dj _)),(Obj.cls_mapFields ..).trans cj,by rw [Obj.data_mapFields dj];simp [rawInt]⟩
theorem nextT_end{j t:Addr}{n:Nat}{its:Array Value}{Q:Value→Shared→Prop}(hh:A.handled=none)(hj:s.heap.IsTupleIter j t n)(ht:s.heap.IsTuple t its)(hv:its[n]?=none)
  (q:∀h' e,Heap.ExtBut j s.heap h'→(∃o,h'.get? e=some o∧o.cls=.type "StopIteration")→E (.ref e) { s with heap:=h' }):wpAny (model prog w) A (Builtin.SmallTypes.nextOf (.ref j)) Q E s:=by
 obtain⟨oj,ej,cj,dj⟩:=id hj
 obtain⟨ot,et,_,nt,dt⟩:=ht
 unfold Builtin.SmallTypes.nextOf
 refine wpAny_bind (wpAny_callSpecial?_slot (name:=Str.ofString "__next__") hj.typeIs F.slot_tuple_iterator_next (wpAny_call_entry F.slot_tuple_iterator_next hj.typeIs F.entry_tuple_iterator_next ?_ (F.args_tuple_iterator_next_1 _)))
 show wpAny _ _ (field (.ref j) 0 >>= _) _ _ s
 refine wpAny_bind (wpAny_field ej dj (x:=.ref t) rfl ?_)
 show wpAny _ _ (if (Value.ref t==Value.none)=true then _ else _) _ _ _
 rw [if_neg (show ¬(Value.ref t==Value.none)=true from Bool.false_ne_true)]
 show wpAny _ _ (field (.ref j) 1 >>= _) _ _ s
 refine wpAny_bind (wpAny_field ej dj (x:=.int n 0) rfl ?_)
 show wpAny _ _ (seqItems? (.ref t) >>= _) _ _ _
 refine wpAny_bind (wpAny_seqItems et dt ?_)
 simp only [Int.toNat_natCast,hv]
 refine wpAny_bind (wpAny_rule (wpAny_bind (wpAny_setField ej dj (by simp) ?_)))
 refine wpAny_bind (m:=newExc (.type "StopIteration") []) ?_
 simp only [newExc,newTuple]
 refine wpAny_bind (wpAny_newObj_type (wpAny_bind (m:=firstArgMember _ _) (wpAny_of_eq (a:=Value.none) (by first|rfl|(simp only [firstArgMember];rfl)) (wpAny_newObj_type ?_ (by size_fits)))) (by size_fits))
 simp only [raiseNew]
 refine wpAny_bind (wpAny_handled ?_)
 first|rw [show A.in1.handled=none from hh]|rw [hh]
 exact wpAny_bind (wpAny_pure (wpAny_throw (q _ _ (((Heap.SameBut.update ..).extBut.push _).push _) ⟨_,Heap.get?_push_size _ rfl,rfl⟩)))
open AutoSeq1 (wpAny_loadPart') in
end
section
variable{X:Cx}
end
end L2
namespace L2
open PySem PySem.Spec PyProof.Rows
theorem key_rel{P:Program}{w:World}{k:Key}{u:Value}(h:(mixKind P w).is k u=true):RelV (kV k) u:=by
 rw [mixKind_is] at h
 rcases keyIs_shape h with ⟨i,t,rfl,rfl⟩|⟨x,t,rfl,rfl⟩
 ·exact⟨t,rfl⟩
 ·exact⟨t,rfl⟩
section
variable{X:Cx}{pins:List (Addr × Obj)}{σ:St}{H H':Hp}{s:Shared}{h':Heap}
end
theorem pair_get{α β:Type}{F:α→β→Prop}:∀{as:List α} {bs:List β},Paired F as bs→∀{j:Nat} {a:α},as[j]?=some a→∃b,bs[j]?=some b∧F a b
 |_,_,.nil,j,a,h=>by simp at h
 |_,_,.cons x t,0,a,h=>by
  simp at h
  subst h
  exact⟨_,rfl,x⟩
 |_,_,.cons x t,j+1,a,h=>by
  simp at h
  obtain⟨b,hb,r⟩:=pair_get t h
  exact⟨b,by simpa using hb,r⟩
section
variable{X:Cx}
end
end L2
namespace L2
open PySem PySem.Spec PyProof.Rows
section
variable{X:Cx}{pins:List (Addr × Obj)}{σ:St}{H:Hp}{s:Shared}{d:Addr}{o:Obj}{u:HO}
theorem Inv.thaw(I:Inv X pins σ H s)(e:H d=some (.frz o u))(h0:∀o' u',X.H₀ d≠some (.frz o' u')):Inv X pins σ (upd H d u) s:=by
 have nd:∀b,H b=none→b≠d:=fun b n z=>by rw [z,e] at n;cases n
 have no:∀b v,H b=some v→(∀o u,v≠.frz o u)→b≠d:=fun b v q n z=>by rw [z,e] at q;cases q;exact n _ _ rfl
 refine⟨I.ok,I.os,I.bare,⟨I.base.keep,I.base.slot,fun b ob q n hx=>?_,I.base.there,fun b xs q=>?_,fun b ob v q=>?_,fun b ps q=>?_⟩,I.loc,I.cell,?_,fun x c q=>?_,fun p hp=>?_,fun b v q=>?_,I.len⟩
 ·have z:=I.base.free b ob q n hx
  rw [upd_ne (nd b z)]
  exact z
 ·have z:=I.base.tups b xs q
  rw [upd_ne (no b _ z (fun _ _=>nofun))]
  exact z
 ·have z:=I.base.frzs b ob v q
  rw [upd_ne (fun w=>h0 ob v (by rw [←w];exact q))]
  exact z
 ·obtain⟨more,z⟩:=I.base.tbls b ps q
  exact⟨more,by rw [upd_ne (no b _ z (fun _ _=>nofun))];exact z⟩
 ·rw [upd_ne (nd _ I.free)]
  exact I.free
 ·rw [upd_ne (nd _ (I.freeC x c q))]
  exact I.freeC x c q
 ·obtain⟨h1,h2,h3⟩:=I.pin p hp
  exact⟨h1,by rw [upd_ne (nd _ h2)];exact h2,h3⟩
 ·have own:∀a b,H b=some (.own a)→upd H d u b=some (.own a):=fun a b z=>by rw [upd_ne (no b _ z (fun _ _=>nofun))];exact z
  have tup:∀b (xs:FxO),H b=some xs.ho→upd H d u b=some xs.ho:=fun b xs z=>by rw [upd_ne (no b _ z (by cases xs<;>exact(fun _ _=>nofun)))];exact z
  by_cases hb:b=d
  ·subst hb
   rw [upd_same] at q
   cases q
   exact(I.hok b _ e).2.stay (fun _ _ _ z=>z) (own b) tup
  ·rw [upd_ne hb] at q
   exact(I.hok b v q).stay (fun _ _ _ z=>z) (own b) tup
end
def thawD(H₀:Hp)(D:Ends):Ends where
 nx:=fun σ H=>∃d o u,H d=some (.frz o u)∧(∀o' u',H₀ d≠some (.frz o' u'))∧D.nx σ (upd H d u)
 rt:=fun v H=>∃d o u,H d=some (.frz o u)∧(∀o' u',H₀ d≠some (.frz o' u'))∧D.rt v (upd H d u)
 bk:=D.bk
 ct:=D.ct
theorem ps_thaw{X:Cx}{st:Stmt}{t:TS}(h:PS X st t):PS X st (fun D σ H=>t (thawD X.H₀ D) σ H):=by
 intro pins s σ H D I q
 refine thn (h pins s σ H _ I q) fun f s1 z=>?_
 cases f with
 |next =>
  obtain⟨σ',H',I',d,o,u,e,h0,q'⟩:=z
  exact⟨σ',_,I'.thaw e h0,q'⟩
 |ret v =>
  obtain⟨σ',x,H',I',r,d,o,u,e,h0,q'⟩:=z
  exact⟨σ',x,_,I'.thaw e h0,r,q'⟩
 |brk=>exact z
 |cont=>exact z
section
variable{X:Cx}
end
end L2
namespace L2
open PySem PySem.Spec PyProof.Rows
section
variable{X:Cx}{tg:Expr}
end
end L2
namespace L2
open PySem PySem.Spec PyProof.Rows
def Itk(d:Addr)(o:Obj)(kvs:List (Key × V)):It :=
 ⟨fun i H=>H d=some (.frz o (.dK kvs))∧i < kvs.length,fun i H x H'=>H'=H∧∃p,kvs[i]?=some p∧x=kV p.1,fun i H=>H d=some (.frz o (.dK kvs))∧kvs.length≤i⟩
theorem turn_keys{P:Program}{w:World}{K:PySem.W.Frag}{tg:Expr}{d it:Addr}{o:Obj}{kvs:List (Key × V)}{ys:List (Key × Value)}{ep:Nat}(rel:KV kvs ys)(hat:∀h:Heap,h.get? d=some o→h.DictAt (mixKind P w) d ys ep) :
  Turn P w K tg (Itk d o kvs) [it] it (fun i h=>h.IsKeyIter it d i ys.length ep) where
 mem:=by simp
 obj:=fun i h st b hb=>by
  obtain rfl:b=it:=by simpa using hb
  obtain⟨o,e,c,hd⟩:=st
  exact⟨o,e,fun v z=>by rw [hd] at z;cases z⟩
 keep:=fun i h h' st k=>by
  obtain⟨o,e,r⟩:=st
  exact⟨o,k it (by simp) _ e,r⟩
 item:=by
  intro X hP hw hK hc i pins s σ H E I hf st hg
  subst hP hw hK
  obtain⟨hd,hi⟩:=hg
  obtain⟨f0,f1,f2,f3,f4,f5⟩:=hf it (by simp)
  have ex:kvs[i]?=some kvs[i]:=List.getElem?_eq_getElem hi
  obtain⟨⟨k1,y⟩,hy,ek,ry⟩:=pair_get rel ex
  replace ek:kvs[i].1=k1:=ek
  refine wpAny_pyNext_dict_item st (hat _ (I.hok d _ hd).1) hy fun key h' hkey st' sb=>?_
  have I1:Inv X pins σ H { s with heap:=h' }:=I.turned (t':=s.toks) (fun b o hb e=>(sb.2 b hb).trans e) f0 f1 f3 f4 f5
  obtain⟨o',e,c,dt⟩:=id st'
  exact⟨key,rfl,go_of (s:={ s with heap:=h' }) e c dt (by decide) ⟨kV kvs[i].1,H,I1,by rw [ek];exact key_rel hkey,⟨rfl,_,ex,rfl⟩,st',fun b hb=>(hf b hb).1⟩⟩
 done:=by
  intro X hP hw hK hc i pins s σ H E I hf st hg
  subst hP hw hK
  obtain⟨hd,hi⟩:=hg
  obtain⟨f0,f1,f2,f3,f4,f5⟩:=hf it (by simp)
  have hl:kvs.length=ys.length:=rel.length
  exact wpAny_pyNext_dict_end (I.ok.hd hc) st (hat _ (I.hok d _ hd).1) (List.getElem?_eq_none (by omega)) fun h' eb=>⟨rfl,I.turned (t':=s.toks) (fun b o hb q=>eb b o hb q) f0 f1 f3 f4 f5⟩
 self:=fun _ _ _ _ _ st h=>wpAny_pyIter_keyiter st h
section
variable{X:Cx}{tg:Expr}
def iKeys(to:TE):TI:=fun σ H R=>to σ H fun x H1=>∃d kvs,x=.ref d∧H1 d=some (.dK kvs)∧∀o,R (Itk d o kvs) (upd H1 d (.frz o (.dK kvs)))
theorem pi_keys{o:Expr}{to:TE}(ho:PE X o to):PI X tg o (iKeys to):=by
 intro pins s σ H R I h
 refine thn (ho pins s σ H _ I h) fun v s1 ⟨x,H1,I1,r1,d,kvs,ex,hd,q⟩=>?_
 subst ex
 cases r1
 obtain⟨z,hs,ys,rel,dd⟩:=dk_of I1.hok hd
 obtain⟨ep,ob,en,e1,r1⟩:=dd.dictAt
 have hat:∀h:Heap,h.get? d=some ob→h.DictAt (mixKind X.prog X.w) d ys ep:=fun h e=>⟨ob,en,e,r1⟩
 refine wpAny_pyIter_dict hs (hat _ e1) ?_
 have hd2:(s1.heap.push { cls:=.type "dict_keyiterator",data:=.fields #[.ref d,.int 0 0,.int ys.length 0,.int ep 0] }).get? d=some ob:=Heap.get?_push_of_some _ e1
 have I2:=I1.kept (t':=s1.toks) (h':=s1.heap.push { cls:=.type "dict_keyiterator",data:=.fields #[.ref d,.int 0 0,.int ys.length 0,.int ep 0] }) fun b u e=>Heap.get?_push_of_some _ e
 have I3:=I2.write (x:=d) (e:=d) (o:=.frz ob (.dK kvs)) (t':=s1.toks) (h':=s1.heap.push { cls:=.type "dict_keyiterator",data:=.fields #[.ref d,.int 0 0,.int ys.length 0,.int ep 0] }) (by rw [hd];trivial) (.inl rfl) (fun _ _ _ e=>e) ⟨ob,hd2⟩
  ⟨hd2,z,hs,ys,rel,dd.at fun o e=>Heap.get?_push_of_some _ e⟩
 have hn:H1 s1.heap.objs.size=none:=I1.hok.fresh (Nat.le_refl _)
 refine⟨_,[s1.heap.objs.size],_,_,_,rfl,I3,turn_keys rel hat,⟨_,Heap.get?_push_size _ rfl,rfl,rfl⟩,fun b hb=>?_,q ob⟩
 obtain rfl:b=s1.heap.objs.size:=by simpa using hb
 refine I1.fpOk (Nat.le_refl _) ?_
 rw [upd_ne (fun e=>by rw [e,hd] at hn;cases hn)]
 exact hn
end
end L2
namespace L2
open PySem PySem.Spec PyProof.Rows
section
variable{X:Cx}
end
end L2
namespace L2
open PySem PySem.Spec PyProof.Rows
section
variable{X:Cx}{K:PySem.W.Frag}
end
end L2
namespace L2
open PySem PySem.Spec PyProof.Rows
end L2
namespace L2
open PySem PySem.Spec PyProof.Rows
def excInI(K:PySem.W.Frag)(C:Addr)(bmB:List Value)(newId:String):Bool:=match K.lookup C with|some ⟨.type "type",_,.cls cd,sl⟩=>(match cd.mro,sl.toList with|.ref C'::bm,[_,_,_,_,some (.builtin n),_]=>C'==C&&n==newId&&!cd.hasDel&&PySem.W.tailIn K bmB bm|_,_=>false)|_=>false
structure ExcI(h:Heap)(C:Addr)(bmB:List Value)(newId:String):Prop where
 obj:∃bm N nm q bs hdct sn sub ab col dd k0 k1 k2 k3 k5,h.get? C=some (excClassObj nm q C N bs bm hdct sn sub ab col dd k0 k1 k2 k3 k5 newId)∧OwnTail h bmB bm
section
variable{prog:Program}{w:World}{A:Around}{E:Value→Shared→Prop}{h:Heap}{g:Array GenState}{d:Drawn}{t:Nat}{os:OsState}{K:PySem.W.Frag}{C fI:Addr}{us:List Value}
end
section
variable{prog:Program}{w:World}{A:Around}{E:Value→Shared→Prop}{s:Shared}{env:Env}{K:PySem.W.Frag}{C fI:Addr}
end
end L2
namespace L2
open PySem PySem.Spec PyProof.Rows
section
variable{X:Cx}{pins:List (Addr × Obj)}{σ:St}{H:Hp}{s:Shared}{x:Addr}
end
section
variable{P:Program}{w:World}{K:PySem.W.Frag}{mg:Str→Option Value}{base:Heap}
structure MkX(K:PySem.W.Frag)(C fI:Addr):Prop where
 ex:excInI K C bmVE "ValueError.__new__"=true
 init:PySem.W.findIn K (.ref C) "__init__"=some (some (.ref fI))
 fn:PySem.W.typeIn K (.ref fI)=some (.type "function")
end
end L2
namespace L2
open PySem PySem.Spec PyProof.Rows Builtin Builtin.ObjectAttr
def refPass(l:List Value):Bool:=l.dropWhile (fun|.ref _=>true|_=>false)==bmVE
structure ExcSet(K:PySem.W.Frag)(C:Addr):Prop where
 sa:PySem.W.findIn K (.ref C) "__setattr__"=some (some (.builtin "object.__setattr__"))
 po:(PySem.W.clsIn K C).any (fun cd=>refPass cd.mro)=true
 hd:PySem.W.hasDictIn K C=true
 ob:PySem.W.mroIn K C (.type "object")=some true
section
variable{prog:Program}{w:World}{A:Around}{E:Value→Shared→Prop}{s:Shared}{K:PySem.W.Frag}{x C:Addr}{name:Str}{v:Value}
end
section
variable{X:Cx}{pins:List (Addr × Obj)}{σ:St}{H H0:Hp}{s s0:Shared}{dx:Addr}
end
section
variable{X:Cx}{o value:Expr}{f:Str}{pos pos':Pos}{ta tv:TE}
end
end L2
namespace L2
open PySem PySem.Spec PyProof.Rows Builtin Builtin.ObjectAttr
structure BaseI(K:PySem.W.Frag)(R:Addr):Prop where
 ga:PySem.W.specialIn K (.ref R) "__getattribute__"=some (some (.builtin "type.__getattribute__"))
 rd:PySem.W.readsIn K R (.type "type")=true
 fi:PySem.W.findCls K (.ref R) (.type "type") "__init__"=some (.val (.builtin "ValueError.__init__"))
section
variable{X:Cx}
end
section
variable{prog:Program}{w:World}{A:Around}{E:Value→Shared→Prop}{s:Shared}{K:PySem.W.Frag}{x D:Addr}{name:Str}{v:Value}
end
section
variable{X:Cx}{e:Expr}{f:Str}{pos:Pos}{ta:TE}
end
end L2
namespace L2
open PySem PySem.Spec PyProof.Rows
structure Shw(d:PyData)(n m:Nat):Prop where
 sh:d.showable=true
 nd:d.hasDict=false
 dp:d.depth≤m
 ln:d.shown.length≤n
structure Shws(ds:List PyData)(n m:Nat):Prop where
 sh:PyData.showableAll ds=true
 nd:PyData.hasDictAll ds=false
 dp:PyData.depthAll ds≤m
 ln:piled (PyData.shownAll ds)≤n
section
variable{X:Cx}{k:Nat}{pos:Pos}{e:Expr}{te:TE}
end
end L2
namespace L2
open PySem PySem.Spec PyProof.Rows
section
variable{α β:Type}
variable{P:Shared→Prop}
end
section
variable{X:Cx}{st:Stmt}{rest:List Stmt}{t u:TS}{pos:Pos}
end
section
variable{X:Cx}
end
end L2
local macro_rules
 |`(sortPriv% $n:ident)=>do
  if n.getId==`rn then return Lean.mkCIdent (Lean.mkPrivateNameCore `PySem.Builtin.Int.W0All `PySem.Builtin.readNumeral)
  if n.getId==`vl then return Lean.mkCIdent (Lean.mkPrivateNameCore `PySem.Builtin.Int.W0All `PySem.Builtin.Numeral.value)
  if n.getId==`nd then return Lean.mkCIdent (Lean.mkPrivateNameCore `PySem.Builtin.Int.W0All `PySem.Builtin.numeralDigits?)
  if n.getId==`bl then return Lean.mkCIdent (Lean.mkPrivateNameCore `PySem.Builtin.Int.W0All `PySem.Builtin.isBlank)
  Lean.Macro.throwUnsupported
namespace L2
open PySem
section
variable{prog:Program}{w:World}{A:Around}{E:Value→Shared→Prop}{s:Shared}
end
end L2
namespace L2
open PySem PySem.Spec PyProof.Rows
section
variable{X:Cx}{pos:Pos}{e:Expr}{es:List Expr}{te:TE}
theorem pss_no{X:Cx}{ss:List Stmt}:PSs X ss (fun _ _ _=>False):=fun _ _ _ _ _ _ h=>h.elim
end
end L2
namespace L2
open PySem PySem.Spec PyProof.Rows
section
variable{prog:Program}{w:World}{A:Around}{R:Result→Shared→Prop}{I S:Addr}{fp wr:List Addr}{n:Nat}{P:Nat→Value→Prop}{St:Nat→Heap→Prop}{d:Value}
end
section
variable{X:Cx}{e:Expr}{es:List Expr}{kws:List Keyword}{t tk:TA}{p pos:Pos}
end
end L2
namespace L2
open PySem PySem.Spec PyProof.Rows
inductive EntOk (w:World):List DictEntry→List (Str × Int)→Prop
 |nil:EntOk w [] []
 |cons {h:Int} {s:Str} {n:Int} {t t':Tok} {es:List DictEntry} {ps:List (Str × Int)}:h=hashStr w s→EntOk w es ps→EntOk w (⟨h,.str s t,.int n t'⟩::es) ((s,n)::ps)
structure DKt(K:PySem.W.Frag)(w:World)(a:Addr)(ps:List (Str × Int)):Prop where
 ns:(a==sysModules)=false
 at_:∀(P:Program) (h:Heap),K.In h→∃vs:List (Key × Value),KV (ps.map fun p=>((Sum.inr p.1:Key),V.int p.2)) vs∧h.DictOf (mixKind P w) a vs
theorem ent_ok{P:Program}{w:World}{es:List DictEntry}{ps:List (Str × Int)}(h:EntOk w es ps):∃vs:List (Key × Value),KV (ps.map fun p=>((Sum.inr p.1:Key),V.int p.2)) vs∧Pairs (mixKind P w) es vs∧(∀e∈es,∃k:Key,(mixKind P w).is k e.key=true∧e.hash=(mixKind P w).hash k)∧vs.map (·.1)=ps.map fun p=>(Sum.inr p.1:Key):=by
 induction h with
 |nil=>exact⟨[],.nil,.nil,(fun e he=>by cases he),rfl⟩
 |@cons hh s n t t' es ps e _ ih =>
  obtain⟨vs,a,b,c,d⟩:=ih
  refine⟨(Sum.inr s,.int n t')::vs,.cons ⟨rfl,⟨t',rfl⟩⟩ a,.cons (mixKind_str P w s t) rfl b,fun e2 he=>?_,?_⟩
  ·rcases List.mem_cons.mp he with rfl|he
   ·exact⟨Sum.inr s,mixKind_str P w s t,e⟩
   ·exact c e2 he
  ·rw [List.map_cons,List.map_cons,d]
theorem dkt_of{K:PySem.W.Frag}{w:World}{a:Addr}{ps:List (Str × Int)}{es:Array DictEntry}{ep:Nat} (hl:K.lookup a=some ⟨.type "dict",none,.dict es ep,#[]⟩) (hs:(a==sysModules)=false) (he:EntOk w es.toList ps) (nd:(ps.map (·.1)).Nodup):DKt K w a ps:=by
 refine⟨hs,fun P h hK=>?_⟩
 obtain⟨vs,v1,v2,v3,v4⟩:=ent_ok (P:=P) he
 refine⟨vs,v1,_,es,ep,hK _ _ hl,⟨rfl,rfl,rfl⟩,rfl,fun e h2=>v3 e (Array.mem_toList_iff.mpr h2),v2,?_⟩
 rw [v4]
 have:(ps.map fun p=>(Sum.inr p.1:Key))=(ps.map (·.1)).map Sum.inr:=by rw [List.map_map];rfl
 rw [this]
 exact List.Pairwise.map _ (fun _ _ h z=>h (Sum.inr.inj z)) nd
def numAtS(ps:List (Str × Int))(s:Str):Option Int:=(ps.find? fun p=>decide (p.1=s)).map (·.2)
theorem valV_num(ps:List (Str × Int))(s:Str):valV (ps.map fun p=>((Sum.inr p.1:Key),V.int p.2)) (Sum.inr s)=(numAtS ps s).map V.int:=by
 induction ps with
 |nil=>rfl
 |cons p r ih =>
  unfold valV numAtS at ih ⊢
  rw [List.map_cons,List.find?_cons,List.find?_cons]
  by_cases e:p.1=s
  ·rw [decide_eq_true (show(Sum.inr p.1:Key)=Sum.inr s by rw [e]),decide_eq_true e]
   rfl
  ·rw [decide_eq_false (show ¬(Sum.inr p.1:Key)=Sum.inr s from fun z=>e (Sum.inr.inj z)),decide_eq_false e]
   exact ih
section
variable{X:Cx}{o i:Expr}{pos:Pos}{td ty:TE}
def tDGetK(K:PySem.W.Frag)(w:World)(td ty:TE):TE:=fun σ H Q=>td σ H fun x H1=>ty σ H1 fun y H2=>∃a ps s n,x=.ref a∧DKt K w a ps∧y=.str s∧numAtS ps s=some n∧Q (.int n) H2
theorem pe_dgetK(ho:PE X o td)(hi:PE X i ty)(hs:NoSl i):PE X (.Subscript o i pos) (tDGetK X.K X.w td ty):=by
 intro pins s σ H Q I h
 refine subD_of PySem.F.slot_dict_getitem.lookup hs (thn (ho pins s σ H _ I h) fun u s1 ⟨x,H1,I1,rx,q1⟩=>thn (hi pins s1 σ H1 _ I1 q1) fun iv s2 ⟨y,H2,I2,ry,a,ps,z,n,ex,g,ey,en,q2⟩=>?_)
 subst ex ey
 obtain rfl:u=Value.ref a:=rx
 obtain⟨vs,rel,dd⟩:=g.at_ X.prog s2.heap I2.kIn
 obtain⟨w',hw,rw'⟩:=RelO.some_of (v:=.int n) (o:=valueAt vs (Sum.inr z)) (by have:=rel.val (Sum.inr z);rw [valV_num,en] at this;exact this)
 exact⟨dd.typeIs,wpAny_getItem_of (kV_is (k:=Sum.inr z) ry) dd.mapOf hw ⟨.int n,H2,I2.tok _,rw',q2⟩⟩
end
end L2
namespace L2
open PySem PySem.Spec PyProof.Rows
section
variable{P:Program}{w:World}{K:PySem.W.Frag}{mg:Str→Option Value}{base:Heap}
end
end L2
namespace L2
open PySem PySem.Spec PyProof.Rows
section
variable{prog:Program}{w:World}{A:Around}{E:Value→Shared→Prop}{s:Shared}
end
end L2
namespace L2
open PySem PySem.Spec PyProof.Rows
theorem dt_raw{P:Program}{w:World}{H:Hp}{h:Heap}{a:Addr}{kvs:List (List Key × V)}{es:Array DictEntry}{ep:Nat}(x:ObjOk P w H h a (.dT kvs))(r:RawD h a es ep):kvs.length=es.size∧∀(i:Nat) (p:List Key × V),kvs[i]?=some p→∃(k:Addr) (v:Value) (hi:i < es.size),es[i].key=.ref k∧es[i].val=v∧H k=some (.tup (p.1.map kV))∧RelV p.2 v:=by
 obtain⟨z,hd,ys,rel,o,es2,ep2,e,ex,dt,eqs,_⟩:=x
 obtain⟨o',e',_,dt'⟩:=r
 rw [e] at e'
 cases e'
 rw [dt] at dt'
 cases dt'
 have hl2:kvs.length=ys.length:=Paired.length rel
 have hlen:es.size=ys.length:=by
  have:=congrArg List.length eqs
  rw [List.length_map] at this
  simpa using this
 refine⟨by rw [hl2,hlen],fun i p hp=>?_⟩
 obtain⟨q,hq,h1,h2,h3⟩:=pair_get rel hp
 have hi:i < es.size:=by
  rw [hlen]
  exact(List.getElem?_eq_some_iff.mp hq).1
 have e1:es.toList[i]?=some es[i]:=by simp [hi]
 rw [eqs,List.getElem?_map,hq] at e1
 have e2:=Option.some.inj e1
 exact⟨q.2.1,q.2.2,hi,by rw [←e2];rfl,by rw [←e2];rfl,h2,h3⟩
section
variable{X:Cx}
end
end L2
namespace L2
open PySem PySem.Spec PyProof.Rows
section
variable{X:Cx}
end
end L2
namespace L2
open PySem PySem.Spec PyProof.Rows PySem.Calls
section
variable{prog:Program}{w:World}{K:Type}[DecidableEq K]{knd:HeapKind prog w K}{A:Around}{E:Value→Shared→Prop}{s:Shared}
end
section
variable{X:Cx}
end
end L2
namespace L2
open PySem PySem.Spec PyProof.Rows PySem.W
section
variable{prog:Program}{w:World}{A:Around}{E:Value→Shared→Prop}{s:Shared}
structure RawG(es:Array DictEntry)(lo:Addr)(h:Heap)(as:List Addr):Prop where
 rise:as.Pairwise (· < ·)
 up:∀a∈as,lo < a
 at':∀(j:Nat) (a:Addr),as[j]?=some a→∃en,es[j]?=some en∧h.get? a=some { cls:=.type "tuple",data:=.seq #[en.key,en.val] }
end
section
variable{prog:Program}{w:World}{A:Around}{s:Shared}{R:Result→Shared→Prop}{es:Array DictEntry}{ep:Nat}
end
section
variable{prog:Program}{w:World}{A:Around}{E:Value→Shared→Prop}{s:Shared}{r d:Addr}{es:Array DictEntry}{ep:Nat}
end
end L2
namespace L2
open PySem PySem.Spec PyProof.Rows
section
variable{X:Cx}
end
section
variable{prog:Program}{w:World}{A:Around}{E:Value→Shared→Prop}{s:Shared}
end
section
variable{X:Cx}{l:Expr}{tl:TE}{p p2 pos pos2:Pos}
end
end L2
namespace L2
open PySem PySem.Spec PyProof.Rows
section
variable{X:Cx}
end
end L2
namespace L2
open PySem PySem.Spec PyProof.Rows
section
variable{prog:Program}{w:World}{A:Around}{E:Value→Shared→Prop}{s:Shared}{a:Addr}{xs:Array Value}{k:Nat}{sl:Array (Option Value)}
end
section
variable{X:Cx}{pins:List (Addr × Obj)}{σ:St}
end
end L2
namespace L2
open PySem PySem.Spec PyProof.Rows
section
variable{prog:Program}{w:World}{A:Around}{E:Value→Shared→Prop}{s:Shared}{K:Type}[DecidableEq K]{knd:HeapKind prog w K}
end
section
variable{X:Cx}
end
end L2
namespace L2
open PySem PySem.Spec PyProof.Rows
section
variable{M:Model}{A:Around}{E:Value→Shared→Prop}{s:Shared}
end
section
variable{X:Cx}{pins:List (Addr × Obj)}{σ:St}{H H':Hp}{s s':Shared}{x C:Addr}{cls:Value}{d:Option Addr}
end
section
variable{X:Cx}
end
section
variable{P:Program}{w:World}{K:PySem.W.Frag}{mg:Str→Option Value}{base:Heap}{N:List Str}{qual:Str}{scope:Scope}{f:Addr}{cd:Value}{A:Around}{outer:List Env}{s:Shared}{H:Hp}{E:XK}
end
end L2
namespace L2
open PySem PySem.Spec PyProof.Rows
section
variable{X:Cx}
end
section
variable{X:Cx}{pins:List (Addr × Obj)}{σ:St}
end
end L2
namespace HT
open PySem PySem.Spec PyProof.Rows
section
variable{prog:Program}{w:World}{A:Around}{E:Value→Shared→Prop}{s:Shared}
end
end HT
namespace L2
open PySem PySem.Spec PyProof.Rows
section
variable{X:Cx}
theorem call_isiTup:CallR X (.builtin "isinstance") (fun xs H Q=>∃a ys,xs=[.ref a,.ty "tuple"]∧SqT X.K H a ys∧Q (.bl true) H):=by
 intro pins s σ H xs us Q I rv h
 obtain⟨a,ys,rfl,hq,q⟩:=h
 obtain⟨u,v,rfl,r1,r2⟩:=rv.two
 cases r2
 cases (show u=Value.ref a from r1)
 obtain⟨its,_,⟨o,h1,h2,_⟩,_⟩:=I.tuple hq
 exact PySem.W.kia_one (t:=.type "tuple") (b:=true) PySem.W.kitx_tuple I.kIn ⟨o,h1,h2⟩ rfl (fun z=>nomatch z) fun tk=>⟨.bl true,H,I.tok _,rfl,q⟩
theorem call_isiTA:CallR X (.builtin "isinstance") (fun xs H Q=>∃x,xs=[x,.ty "tuple"]∧((∃z,x=.str z∧Q (.bl false) H)∨(∃i,x=.int i∧Q (.bl false) H)∨∃a ys,x=.ref a∧SqT X.K H a ys∧Q (.bl true) H)):=by
 intro pins s σ H xs us Q I rv h
 obtain⟨x,rfl,h⟩:=h
 rcases h with ⟨z,rfl,q⟩|⟨i,rfl,q⟩|⟨a,ys,rfl,hq,q⟩
 ·obtain⟨u,v,rfl,r1,r2⟩:=rv.two
  cases r2
  exact isinst_ok (t:=.type "str") (b:=false) I r1 (.str z) rfl fun tk=>⟨.bl false,H,I.tok _,rfl,q⟩
 ·obtain⟨u,v,rfl,r1,r2⟩:=rv.two
  cases r2
  exact isinst_ok (t:=.type "int") (b:=false) I r1 (.int i) rfl fun tk=>⟨.bl false,H,I.tok _,rfl,q⟩
 ·exact call_isiTup pins s σ H _ us Q I rv ⟨a,ys,rfl,hq,q⟩
end
end L2
namespace L2
open PySem PySem.Spec PyProof.Rows
end L2
namespace L2
open PySem PySem.Spec PyProof.Rows
section
variable{X:Cx}{tg:Expr}
end
end L2
namespace HT
open PySem PySem.Spec PyProof.Rows
section
variable{prog:Program}{w:World}{K:Type}[DecidableEq K]{knd:KeyKind prog w K}{A:Around}{E:Value→Shared→Prop}{s:Shared}{r d:Addr}{kvs:List (K × Value)}{ep:Nat}
end
end HT
namespace L2
open PySem PySem.Spec PyProof.Rows
section
variable{X:Cx}
end
end L2
namespace HT
open PySem PySem.Spec PyProof.Rows
section
variable{prog:Program}{w:World}{A:Around}{E:Value→Shared→Prop}{s:Shared}
end
end HT
namespace L2
open PySem PySem.Spec PyProof.Rows
section
variable{X:Cx}
end
end L2
namespace L2
open PySem PySem.Spec PyProof.Rows
section
variable{X:Cx}
end
end L2
namespace L2
open PySem PySem.Spec PyProof.Rows
section
variable{P:Program}{w:World}
variable{K:PySem.W.Frag}{mg:Str→Option Value}{base:Heap}{N:List Str}{qual:Str}{scope:Scope}{f:Addr}{cd:Value}{A:Around}{outer:List Env}{s:Shared}{H:Hp}{E:XK}
end
end L2
namespace L2
open PySem PySem.Spec PyProof.Rows
def ItkT(d:Addr)(o:Obj)(kvs:List (List Key × V))(as:List Addr):It :=
 ⟨fun i H=>H d=some (.frz o (.dT kvs))∧i < kvs.length,fun i H x H'=>H'=H∧∃a,as[i]?=some a∧x=.ref a,fun i H=>H d=some (.frz o (.dT kvs))∧kvs.length≤i⟩
theorem turn_keysT{P:Program}{w:World}{K:PySem.W.Frag}{tg:Expr}{d it:Addr}{o:Obj}{kvs:List (List Key × V)}{as:List Addr}{en:Array DictEntry}{ep:Nat}(hn:kvs.length=en.size)(hk:∀(i:Nat) (hi:i < en.size),∃a,as[i]?=some a∧en[i].key=.ref a)(hat:∀h:Heap,h.get? d=some o→RawD h d en ep) :
  Turn P w K tg (ItkT d o kvs as) [it] it (fun i h=>h.IsKeyIter it d i en.size ep) where
 mem:=by simp
 obj:=fun i h st b hb=>by
  obtain rfl:b=it:=by simpa using hb
  obtain⟨o,e,c,hd⟩:=st
  exact⟨o,e,fun v z=>by rw [hd] at z;cases z⟩
 keep:=fun i h h' st k=>by
  obtain⟨o,e,r⟩:=st
  exact⟨o,k it (by simp) _ e,r⟩
 item:=by
  intro X hP hw hK hc i pins s σ H E I hf st hg
  subst hP hw hK
  obtain⟨hd,hi⟩:=hg
  obtain⟨f0,f1,f2,f3,f4,f5⟩:=hf it (by simp)
  have hi':i < en.size:=by rw [←hn];exact hi
  obtain⟨a,ha,hka⟩:=hk i hi'
  refine raw_item st (hat _ (I.hok d _ hd).1) hi' fun h' st' sb=>?_
  have I1:Inv X pins σ H { s with heap:=h' }:=I.turned (t':=s.toks) (fun b o hb e=>(sb.2 b hb).trans e) f0 f1 f3 f4 f5
  obtain⟨o',e,c,dt⟩:=id st'
  rw [hka]
  exact⟨_,rfl,go_of (s:={ s with heap:=h' }) e c dt (by decide) ⟨.ref a,H,I1,rfl,⟨rfl,a,ha,rfl⟩,st',fun b hb=>(hf b hb).1⟩⟩
 done:=by
  intro X hP hw hK hc i pins s σ H E I hf st hg
  subst hP hw hK
  obtain⟨hd,hi⟩:=hg
  obtain⟨f0,f1,f2,f3,f4,f5⟩:=hf it (by simp)
  exact raw_end (I.ok.hd hc) st (hat _ (I.hok d _ hd).1) (by omega) fun h' eb=>⟨rfl,I.turned (t':=s.toks) (fun b o hb q=>eb b o hb q) f0 f1 f3 f4 f5⟩
 self:=fun _ _ _ _ _ st h=>wpAny_pyIter_keyiter st h
section
variable{X:Cx}{tg:Expr}
def iKeysT(to:TE):TI:=fun σ H R=>to σ H fun x H1=>∃d kvs,x=.ref d∧H1 d=some (.dT kvs)∧∀o as,Paired (fun(p:List Key × V) (a:Addr)=>H1 a=some (.tup (p.1.map kV))) kvs as→R (ItkT d o kvs as) (upd H1 d (.frz o (.dT kvs)))
theorem keys_of{H:Hp}:∀{kvs:List (List Key × V)} {xs:List (List Key × Addr × Value)},KT H kvs xs→Paired (fun(p:List Key × V) (a:Addr)=>H a=some (.tup (p.1.map kV))) kvs (xs.map fun q=>q.2.1)
 |_,_,.nil=>.nil
 |_,_,.cons h t=>.cons h.2.1 (keys_of t)
theorem pi_keysT{o:Expr}{to:TE}(ho:PE X o to):PI X tg o (iKeysT to):=by
 intro pins s σ H R I h
 refine thn (ho pins s σ H _ I h) fun v s1 ⟨x,H1,I1,r1,d,kvs,ex,hd,q⟩=>?_
 subst ex
 cases r1
 have hob:=I1.hok d _ hd
 obtain⟨z,hs,ys,rel,ob,en,ep,e1,ex,dt,eqs,nd⟩:=id hob
 have raw:RawD s1.heap d en ep:=⟨ob,e1,ex,dt⟩
 have hn:kvs.length=en.size:=(dt_raw hob raw).1
 have hat:∀h:Heap,h.get? d=some ob→RawD h d en ep:=fun h e=>⟨ob,e,ex,dt⟩
 have hk:∀(i:Nat) (hi:i < en.size),∃a,(ys.map fun q=>q.2.1)[i]?=some a∧en[i].key=.ref a:=fun i hi=>by
  have e1:en.toList[i]?=some en[i]:=by simp [hi]
  rw [eqs,List.getElem?_map] at e1
  obtain⟨q,hq,e2⟩:=Option.map_eq_some_iff.mp e1
  exact⟨q.2.1,by rw [List.getElem?_map,hq];rfl,by rw [←e2];rfl⟩
 refine raw_iter hs raw ?_
 have hd2:(s1.heap.push { cls:=.type "dict_keyiterator",data:=.fields #[.ref d,.int 0 0,.int en.size 0,.int ep 0] }).get? d=some ob:=Heap.get?_push_of_some _ e1
 have I2:=I1.kept (t':=s1.toks) (h':=s1.heap.push { cls:=.type "dict_keyiterator",data:=.fields #[.ref d,.int 0 0,.int en.size 0,.int ep 0] }) fun b u e=>Heap.get?_push_of_some _ e
 have I3:=I2.write (x:=d) (e:=d) (o:=.frz ob (.dT kvs)) (t':=s1.toks) (h':=s1.heap.push { cls:=.type "dict_keyiterator",data:=.fields #[.ref d,.int 0 0,.int en.size 0,.int ep 0] }) (by rw [hd];trivial) (.inl rfl) (fun _ _ _ e=>e) ⟨ob,hd2⟩
  ⟨hd2,z,hs,ys,Paired.mapP rel (fun p q ⟨a1,a2,a3⟩=>⟨a1,by rw [upd_ne (fun e=>by rw [e,hd] at a2;cases a2)];exact a2,a3⟩),ob,en,ep,hd2,ex,dt,eqs,nd⟩
 have hnn:H1 s1.heap.objs.size=none:=I1.hok.fresh (Nat.le_refl _)
 refine⟨_,[s1.heap.objs.size],_,_,_,rfl,I3,turn_keysT hn hk hat,⟨_,Heap.get?_push_size _ rfl,rfl,rfl⟩,fun b hb=>?_,q ob _ (keys_of rel)⟩
 obtain rfl:b=s1.heap.objs.size:=by simpa using hb
 refine I1.fpOk (Nat.le_refl _) ?_
 rw [upd_ne (fun e=>by rw [e,hd] at hnn;cases hnn)]
 exact hnn
end
theorem comp_kT{d:Addr}{o:Obj}{kvs:List (List Key × V)}{as:List Addr}{n:Nat}{κ:List Nat}{g:TG}{tc:TT}{te:TE}{σ:St}{H:Hp}{Q:VK}(hl:kvs.length=as.length)(hz:as.length≤1000)(hd:H d=some (.frz o (.dT kvs)))(R:Nat→List V→Hp→Prop)(h0:R 0 [] H)(hlen:∀i ys H2,R i ys H2→ys.length≤i)
  (hs:∀i a ys H2 (N:List V→Hp→Prop),(∀ys' H',Same H H'→R (i+1) ys' H'→N ys' H')→as[i]?=some a→Same H H2→R i ys H2→g (.ref a) (blkSt n κ σ) H2 fun σ4 H4=>σ4.drop n=(blkSt n κ σ).drop n∧tc σ4 H4 fun b H5=>if b=true then te σ4 H5 fun v H6=>N (ys++[v]) H6 else N ys H5)
  (hQ:∀ys H2 D,Same H H2→R as.length ys H2→H2 D=none→Q (.ref D) (upd H2 D (.lst ys))):CompRun n κ g tc te σ (ItkT d o kvs as) H Q:=by
 refine comp_by (J:=ItkT d o kvs as) (xs:=as.map V.ref) (fun i ys H3=>Same H H3∧R i ys H3) ⟨Same.refl _,h0⟩ (by rw [List.length_map];exact Nat.le_of_lt (small1000 hz)) ?_ ?_ ?_ ?_ ?_ ?_
 ·rintro i ys H3 ⟨_,h⟩
  exact hlen i ys H3 h
 ·rintro i u ys H3 hu ⟨s3,_⟩
  have:=(List.getElem?_eq_some_iff.mp hu).1
  rw [List.length_map] at this
  exact⟨s3 _ _ hd,by omega⟩
 ·rintro i ys u H3 H' hn ⟨s3,_⟩ hy
  obtain⟨rfl,a,ha,rfl⟩:=hy
  exact⟨rfl,by rw [List.getElem?_map,ha];rfl⟩
 ·rintro ys H3 ⟨s3,_⟩
  exact⟨s3 _ _ hd,by rw [List.length_map];omega⟩
 ·rintro i u ys H3 N hN hu ⟨s3,h⟩
  rw [List.getElem?_map] at hu
  obtain⟨a,ha,rfl⟩:=Option.map_eq_some_iff.mp hu
  exact hs i a ys H3 N (fun ys' H' a b=>hN ys' H' ⟨a,b⟩) ha s3 h
 ·rintro ys H3 D ⟨s3,h⟩ hD
  rw [List.length_map] at h
  exact hQ ys H3 D s3 h hD
end L2
namespace L2
open PySem PySem.Spec PyProof.Rows
section
variable{X:Cx}{pins:List (Addr × Obj)}{σ:St}{H:Hp}{s:Shared}{h':Heap}
theorem Inv.turnedL{t':Nat}{fp:List Addr}{p:Addr}{o:HO}(I:Inv X pins σ H s)(k:∀b ob,b∉fp→s.heap.get? b=some ob→h'.get? b=some ob)(hf:∀b∈fp,FpOk X pins H b)(hp:s.heap.objs.size≤p)
  (new:ObjOk X.prog X.w (upd H p o) h' p o):Inv X pins σ (upd H p o) { s with heap:=h',toks:=t' }:=by
 have hn:H p=none:=I.hok.fresh hp
 have nn:∀b u,H b=some u→b∉fp:=fun b u q z=>by rw [(hf b z).1] at q;cases q
 have lt:∀b ob,s.heap.get? b=some ob→b≠p:=fun b ob q z=>absurd (Nat.lt_of_lt_of_le (Heap.lt_size q) (by rw [z];exact hp)) (Nat.lt_irrefl _)
 refine I.step (g':=s.gens) (d':=s.drawn) (ch:=fp) (fun b hb=>?_) (fun b ob _ _ hc q _=>k b ob hc q) (fun b ob _ _ hc q _=>⟨ob.slots,k b ob hc q⟩) (fun b ob hc q n=>by rw [upd_ne (lt b ob q)];exact n)
  (fun b ob hc q=>⟨ob,k b ob hc q⟩) (fun b xs q=>by rw [upd_ne (ne_of_none q hn)];exact q) (fun b ob u q=>by rw [upd_ne (ne_of_none q hn)];exact q) (fun b ps q=>⟨#[],by rw [upd_ne (ne_of_none q hn),q];simp⟩) (fun m hm=>?_) (fun b u q=>?_) I.bare
 ·have fe:=hf b hb
  exact⟨fe.2.2.2.1,fe.2.1,fe.2.2.2.2.1,fe.2.2.2.2.2⟩
 ·obtain⟨ob,es,ep,q,r⟩:=hm
  exact⟨ob,es,ep,k _ ob (fun z=>(hf _ z).2.1 rfl) q,r⟩
 ·by_cases hb:b=p
  ·subst hb
   rw [upd_same] at q
   cases q
   exact new
  ·rw [upd_ne hb] at q
   refine(I.hok b u q).stay (fun c v hc z=>?_) (fun c z=>by rw [upd_ne (ne_of_none z hn)];exact z) fun c xs z=>by rw [upd_ne (ne_of_none z hn)];exact z
   rcases hc with hc|hc
   ·rw [hc] at z ⊢
    exact k b v (nn b u q) z
   ·exact k c v (nn c _ hc) z
theorem Inv.turnedR{t':Nat}{fp:List Addr}(I:Inv X pins σ H s)(k:∀b ob,b∉fp→s.heap.get? b=some ob→h'.get? b=some ob)(hf:∀b∈fp,FpOk X pins H b):Inv X pins σ H { s with heap:=h',toks:=t' }:=by
 have nn:∀b u,H b=some u→b∉fp:=fun b u q z=>by rw [(hf b z).1] at q;cases q
 refine I.step (g':=s.gens) (d':=s.drawn) (ch:=fp) (fun b hb=>?_) (fun b ob _ _ hc q _=>k b ob hc q) (fun b ob _ _ hc q _=>⟨ob.slots,k b ob hc q⟩) (fun b ob hc q n=>n)
  (fun b ob hc q=>⟨ob,k b ob hc q⟩) (fun b xs q=>q) (fun b ob u q=>q) (fun b ps q=>⟨#[],by rw [q];simp⟩) (fun m hm=>?_) (fun b u q=>?_) I.bare
 ·have fe:=hf b hb
  exact⟨fe.2.2.2.1,fe.2.1,fe.2.2.2.2.1,fe.2.2.2.2.2⟩
 ·obtain⟨ob,es,ep,q,r⟩:=hm
  exact⟨ob,es,ep,k _ ob (fun z=>(hf _ z).2.1 rfl) q,r⟩
 ·refine(I.hok b u q).stay (fun c v hc z=>?_) (fun c z=>z) fun c xs z=>z
  rcases hc with hc|hc
  ·rw [hc] at z ⊢
   exact k b v (nn b u q) z
  ·exact k c v (nn c _ hc) z
end
structure ZipFp(z TI TO i1 i2:Addr):Prop where
 TIz:TI≠z
 TOz:TO≠z
 i1z:i1≠z
 i2z:i2≠z
 TITO:TI≠TO
 TIi1:TI≠i1
 TIi2:TI≠i2
 TOi1:TO≠i1
 TOi2:TO≠i2
 i12:i1≠i2
section
variable{X:Cx}{es:List Expr}{k:Nat}{ps:Pos}
theorem bootZip:bootBuiltins "zip"=some (.type "zip"):=by decide +kernel
end
end L2
namespace L2
open PySem PySem.Spec PyProof.Rows
theorem among_snoc{p pos:Pos}{c cv:Value}(ls:List Value)(h:TriplesOk ls)(e:codeAmong p (ls++[rawInt pos.line,rawInt pos.col,c])=some cv) :
  codeAmong p ls=some cv∨(p.line=pos.line∧p.col=pos.col∧cv=c):=by
 fun_induction TriplesOk ls with
 |case1 =>
  simp only [List.nil_append,codeAmong,rawInt] at e
  split at e
  ·rename_i hc
   simp only [Bool.and_eq_true,beq_iff_eq] at hc
   cases e
   exact .inr ⟨by omega,by omega,rfl⟩
  ·cases e
 |case2 a t b u x rest ih =>
  simp only [List.cons_append,codeAmong] at e ⊢
  split at e
  ·rename_i hc;rw [if_pos hc];exact .inl e
  ·rename_i hc;rw [if_neg hc];exact ih h e
 |case3 ls h1 h2=>exact h.elim
theorem qualAt_same{p pos:Pos}(h1:p.line=pos.line)(h2:p.col=pos.col)(l:List Value):qualAt l p=qualAt l pos:=by
 fun_induction qualAt l p with
 |case1 p l t c t' q t'' r hc=>rw [qualAt,←h1,←h2,if_pos hc]
 |case2 p l t c t' q t'' r hc ih=>rw [qualAt,←h1,←h2,if_neg hc];exact ih h1 h2
 |case3 p l h=>rw [qualAt];exact h
section
variable{X:Cx}{pins:List (Addr × Obj)}{σ:St}{H:Hp}{s:Shared}{P c:Addr}{ps:Array Value}{pos:Pos}{q:Str}
theorem Inv.mgP(I:Inv X pins σ H s){o:HO}(hP:H P=some o):mainGlobals≠P:=fun z=>by
 obtain⟨ob,es,ep,e,_⟩:=I.mod.glob
 have:=(I.bs _ _ e).2
 rw [z,hP] at this;cases this
theorem Inv.bltAt(I:Inv X pins σ H s){o:HO}(hP:H P=some o):s.heap.BuiltinsAt X.mg P:=by
 obtain⟨bm,ob,b1,b2,b3,b4,b5,b6⟩:=I.mod.bmn
 refine⟨bm,ob,b1,b2,fun z=>?_,fun z=>?_,I.bk _ _ b3,b4,b5,b6⟩
 ·obtain⟨og,es,ep,e,d,_⟩:=I.mod.glob
  rw [z,e] at b3;cases b3;rw [d] at b6;cases b6
 ·have:=(I.bs _ _ b3).2
  rw [z,hP] at this;cases this
theorem Inv.hitC{h':Heap}{f:Addr}{fd:FuncData}{oc:Value}{tk:Nat}(I:Inv X pins σ H s)(hc:H c=some (.cod q))(k:∀b o,s.heap.get? b=some o→h'.get? b=some o)(hs:s.heap.objs.size≤h'.objs.size)(hf:f=h'.objs.size) :
  Inv X pins σ (upd (upd H c (.cod q)) f (.fnc fd)) { s with heap:=h'.push { cls:=oc,data:=.func fd },toks:=tk }:=by
 have e:upd H c (.cod q)=H:=by funext b;unfold upd;split<;>simp_all
 subst hf
 rw [e]
 exact I.laid (fun b u z=>Heap.get?_push_of_some _ (k b u z)) hs ⟨_,_,_,Heap.get?_push_size _ rfl⟩
theorem Inv.missC{h':Heap}{f c':Addr}{fd:FuncData}{oc:Value}{tk:Nat}{tb:Array Value}(I:Inv X pins σ H s)(hP:H P=some (.tbl ps))(hq:qualAt ps.toList pos=some q)(e:s.heap.get? P=some (PySem.W.tabObj tb))(tr:TriplesOk tb.toList)
  (al:∀(p:Pos) (q:Str),qualAt ps.toList p=some q→∀cv,codeAmong p tb.toList=some cv→∃c,cv=Value.ref c∧H c=some (.cod q))
  (hx:Heap.ExtBut P s.heap h') (hge:s.heap.objs.size≤c') (hlt:c' < h'.objs.size) (hrec:h'.CodeRec (.ref c') q) (htb:h'.get? P=some (PySem.W.tabObj (tb++#[rawInt pos.line,rawInt pos.col,.ref c']))) (hf:f=h'.objs.size) :
  Inv X pins σ (upd (upd H c' (.cod q)) f (.fnc fd)) { s with heap:=h'.push { cls:=oc,data:=.func fd },toks:=tk }:=by
 subst hf
 have lt:∀b u,H b=some u→b < s.heap.objs.size:=fun b u z=>Nat.lt_of_not_le fun y=>by rw [I.hok.fresh y] at z;cases z
 have new:∀b,b < s.heap.objs.size→upd (upd H c' (.cod q)) h'.objs.size (.fnc fd) b=H b:=fun b hb=>by
  rw [upd_ne (Nat.ne_of_lt (Nat.lt_trans (Nat.lt_of_lt_of_le hb hge) hlt)),upd_ne (Nat.ne_of_lt (Nat.lt_of_lt_of_le hb hge))]
 have kp:∀b o,b≠P→s.heap.get? b=some o→(h'.push { cls:=oc,data:=.func fd }).get? b=some o:=fun b o hb z=>Heap.get?_push_of_some _ (hx b o hb z)
 have nP:∀b,H b=none→b≠P:=fun b n z=>by rw [z,hP] at n;cases n
 refine I.step (g':=s.gens) (d':=s.drawn) (ch:=[]) (fun _ z=>nomatch z) (fun b ob _ _ _ z n=>kp b ob (nP b n) z) (fun b ob _ _ _ z n=>⟨ob.slots,kp b ob (nP b n) z⟩) (fun b ob _ z n=>by rw [new b (Heap.lt_size z)];exact n)
  (fun b ob _ z=>?_) (fun b xs z=>by rw [new b (lt _ _ z)];exact z) (fun b ob u z=>by rw [new b (lt _ _ z)];exact z) (fun b ps z=>⟨#[],by rw [new b (lt _ _ z),z];simp⟩) (fun m hm=>?_) (fun b u z=>?_) I.bare
 ·by_cases hb:b=P
  ·subst hb;exact⟨_,Heap.get?_push_of_some _ htb⟩
  ·exact⟨ob,kp b ob hb z⟩
 ·obtain⟨ob,es,ep,z,r⟩:=hm
  exact⟨ob,es,ep,kp _ ob (nP _ I.free) z,r⟩
 ·by_cases h1:b=h'.objs.size
  ·subst h1;rw [upd_same] at z;cases z
   exact⟨_,_,_,Heap.get?_push_size _ rfl⟩
  ·rw [upd_ne h1] at z
   by_cases h2:b=c'
   ·subst h2;rw [upd_same] at z;cases z
    obtain⟨c₂,oc',vs,t,e2,hoc,r⟩:=hrec
    cases e2
    exact⟨_,oc',vs,t,rfl,Heap.get?_push_of_some _ hoc,r⟩
   ·rw [upd_ne h2] at z
    by_cases h3:b=P
    ·subst h3
     rw [hP] at z;cases z
     have hl:(tb++#[rawInt pos.line,rawInt pos.col,Value.ref c']).toList=tb.toList++[rawInt pos.line,rawInt pos.col,.ref c']:=by simp
     refine⟨_,Heap.get?_push_of_some _ htb,by rw [hl];exact TriplesOk_snoc _ _ _ _ tr,fun p q' hq' cv hcv=>?_⟩
     rw [hl] at hcv
     rcases among_snoc _ tr hcv with hcv|⟨e1,e2,rfl⟩
     ·obtain⟨c,e1,e2⟩:=al p q' hq' cv hcv
      exact⟨c,e1,by rw [new c (lt _ _ e2)];exact e2⟩
     ·rw [qualAt_same e1 e2,hq] at hq'
      cases hq'
      exact⟨c',rfl,by rw [upd_ne (Nat.ne_of_lt hlt),upd_same]⟩
    ·refine(I.hok b u z).stay (fun a v ha y=>kp a v (fun w=>?_) y) (fun a y=>by rw [new a (lt _ _ y)];exact y) fun a xs y=>by rw [new a (lt _ _ y)];exact y
     subst w
     rcases ha with w|w
     ·exact h3 w.symm
     ·rw [hP] at w;cases w
def tLam(P:Addr)(pos:Pos)(q:Str)(mk:Addr→Value→FuncData):TE:=fun _ H Q=>(∃ps,H P=some (.tbl ps)∧qualAt ps.toList pos=some q) ∧
 ∀f c ctv,H f=none→f≠c→(H c=none∨H c=some (.cod q))→Q (.ref f) (upd (upd H c (.cod q)) f (.fnc (mk c ctv)))
theorem pe_lam{params:Arguments}{body:Expr}{scope:Scope}{clos:List (Str × Addr)}(hcode:X.env.code=.ref c)(C:PySem.W.CodeHd X.base c P) (hq:X.env.qual++"<lambda>"=q) (hdef:defaultsOf params X.env=([],[]):=by rfl) (hcl:closureFor scope X.env=pure clos:=by rfl) :
  PE X (.Lambda params body scope pos) (tLam P pos q fun c' ctv=>PySem.W.kla_fn "<lambda>" q params body scope clos ((X.mg "__name__").getD .none) (.ref c') ctv):=by
 intro pins s σ H Q I h
 obtain⟨⟨ps,hP,hqa⟩,h⟩:=h
 obtain⟨tb,e,tr,al⟩:=I.hok P _ hP
 refine PySem.W.kla_eval hdef ?_
 rw [hq]
 cases hh:codeAmong pos tb.toList with
 |some cv =>
  obtain⟨c',rfl,hc⟩:=al pos q hqa cv hh
  refine PySem.W.kla_makeFunctionHit (mg:=X.mg) hcl I.ok.glob (I.mod.glob.keeps I.bk) hcode (C.keeps I.bk) e tr hh (I.bltAt hP) fun ctv h' tk hk hsz=>?_
  have hn:H h'.objs.size=none:=I.hok.fresh hsz
  exact⟨.ref h'.objs.size,_,I.hitC hc hk hsz rfl,rfl,h _ c' ctv hn (fun z=>by rw [z,hc] at hn;cases hn) (.inr hc)⟩
 |none =>
  refine PySem.W.kla_makeFunction (mg:=X.mg) hcl I.ok.glob (I.mod.glob.keeps I.bk) hcode (C.keeps I.bk) e tr hh (I.mgP hP) (I.bltAt hP) fun c' ctv h' tk hx hge hlt hrec htb=>?_
  exact⟨.ref h'.objs.size,_,I.missC hP hqa e tr al hx hge hlt hrec htb rfl,rfl,h _ c' ctv (I.hok.fresh (Nat.le_trans hge (Nat.le_of_lt hlt))) (Nat.ne_of_gt hlt) (.inl (I.hok.fresh hge))⟩
end
end L2
namespace L2
open PySem PySem.Spec PyProof.Rows
def dropC(ads:List Addr)(H:Hp):Hp:=fun b=>if b∈ads then none else H b
def addC(ads:List Addr)(H H':Hp):Hp:=fun b=>if b∈ads then H b else H' b
theorem drop_in{ads:List Addr}{H:Hp}{b:Addr}(h:b∈ads):dropC ads H b=none:=if_pos h
theorem drop_no{ads:List Addr}{H:Hp}{b:Addr}(h:b∉ads):dropC ads H b=H b:=if_neg h
theorem add_in{ads:List Addr}{H H':Hp}{b:Addr}(h:b∈ads):addC ads H H' b=H b:=if_pos h
theorem add_no{ads:List Addr}{H H':Hp}{b:Addr}(h:b∉ads):addC ads H H' b=H' b:=if_neg h
abbrev Froz(H:Hp):List Addr→List V→Prop:=Paired fun c v=>∃o,H c=some (.frz o (.cel v))
def FrzAll(H:Hp)(ads:List Addr):Prop:=∀c∈ads,∃o v,H c=some (.frz o (.cel v))
theorem Froz.all{H:Hp}:∀{ads:List Addr} {cvs:List V},Froz H ads cvs→FrzAll H ads
 |_,_,.nil=>fun _ z=>nomatch z
 |_,_,.cons ⟨o,r⟩ t=>fun c hc=>by
  rcases List.mem_cons.mp hc with rfl|hc
  ·exact⟨o,_,r⟩
  ·exact Froz.all t c hc
theorem Froz.get{H:Hp}:∀{ads:List Addr} {cvs:List V} {i:Nat} {c:Addr},Froz H ads cvs→ads[i]?=some c→∃v o,cvs[i]?=some v∧H c=some (.frz o (.cel v))
 |_,_,_,_,.nil,e=>by simp at e
 |_,_,0,_,.cons ⟨o,r⟩ _,e=>by simp at e;subst e;exact⟨_,o,rfl,r⟩
 |_,_,i+1,c,.cons _ t,e=>by
  obtain⟨v,o,h1,h2⟩:=Froz.get (i:=i) (c:=c) t (by simpa using e)
  exact⟨v,o,by simpa using h1,h2⟩
theorem Froz.same{H H':Hp}(s:Same H H'):∀{ads:List Addr} {cvs:List V},Froz H ads cvs→Froz H' ads cvs
 |_,_,.nil=>.nil
 |_,_,.cons ⟨o,r⟩ t=>.cons ⟨o,s _ _ r⟩ (Froz.same s t)
theorem Same.dropC{H0 H:Hp}{ads:List Addr}(s:Same H0 H)(n:∀c∈ads,H0 c=none):Same H0 (dropC ads H):=fun b o e=>by
 rw [drop_no fun z=>by rw [n b z] at e;cases e]
 exact s b o e
section
variable{P:Program}{w:World}{H H':Hp}{h h':Heap}{ads:List Addr}{fs:List Addr}
theorem HOk.drop(x:HOk P w H h)(f:FrzAll H ads):HOk P w (dropC ads H) h:=fun b u e=>by
 by_cases hb:b∈ads
 ·rw [drop_in hb] at e;cases e
 ·rw [drop_no hb] at e
  have no:∀a o,H a=some o→(∀ob v,o≠.frz ob (.cel v))→dropC ads H a=some o:=fun a o z n=>by
   rw [drop_no fun y=>by obtain⟨ob,v,q⟩:=f a y;rw [z] at q;exact n ob v (Option.some.inj q)]
   exact z
  exact(x b u e).stay (fun _ _ _ q=>q) (fun a z=>no a _ z fun _ _=>nofun) fun a xs z=>no a _ z (by cases xs<;>exact fun _ _=>nofun)
theorem HOk.add(x:HOk P w H h)(x':HOk P w H' h')(f:FrzAll H ads)(n:∀c∈ads,H' c=none)(k:∀c∈ads,∀o,h.get? c=some o→h'.get? c=some o):HOk P w (addC ads H H') h':=fun b u e=>by
 by_cases hb:b∈ads
 ·rw [add_in hb] at e
  obtain⟨o,v,q⟩:=f b hb
  rw [q] at e;cases e
  obtain⟨e1,u,r,ob,e2,d⟩:=x b _ q
  exact⟨k b hb _ e1,u,r,ob,k b hb _ e2,d⟩
 ·rw [add_no hb] at e
  have no:∀a o,H' a=some o→addC ads H H' a=some o:=fun a o z=>by
   rw [add_no fun y=>by rw [n a y] at z;cases z]
   exact z
  exact(x' b u e).stay (fun _ _ _ q=>q) (fun a z=>no a _ z) fun a xs z=>no a _ z
theorem Un.drop(x:HOk P w H h)(x':HOk P w H' h')(f:FrzAll H ads)(u:Un fs [] H H' h h'):Un fs [] (dropC ads H) (dropC ads H') h h':=by
 have f':FrzAll H' ads:=fun c hc=>let ⟨o,v,e⟩:=f c hc;⟨o,v,u.frzs _ _ _ e⟩
 have no:∀a o,H a=some o→(∀ob v,o≠.frz ob (.cel v))→a∉ads:=fun a o z n y=>by obtain⟨ob,v,q⟩:=f a y;rw [z] at q;exact n ob v (Option.some.inj q)
 have kp:∀b o,b∈ads→h.get? b=some o→h'.get? b=some o:=fun b o hb e=>by
  obtain⟨o1,v,q⟩:=f b hb
  obtain⟨e1,_⟩:=x b _ q
  obtain⟨e2,_⟩:=x' b _ (u.frzs _ _ _ q)
  rw [e] at e1;cases e1;exact e2
 refine⟨fun b o e n hb hx=>?_,fun b o e n hb hx=>?_,fun b o e n hx=>?_,u.there,fun b xs e=>?_,fun b o v e=>?_,fun b ps e=>?_⟩
 ·by_cases hc:b∈ads
  ·exact kp b o hc e
  ·rw [drop_no hc] at n;exact u.keep b o e n hb hx
 ·by_cases hc:b∈ads
  ·exact⟨o.slots,kp b o hc e⟩
  ·rw [drop_no hc] at n;exact u.slot b o e n hb hx
 ·by_cases hc:b∈ads
  ·exact drop_in hc
  ·rw [drop_no hc] at n ⊢;exact u.free b o e n hx
 ·by_cases hc:b∈ads
  ·rw [drop_in hc] at e;cases e
  ·rw [drop_no hc] at e ⊢;exact u.tups b xs e
 ·by_cases hc:b∈ads
  ·rw [drop_in hc] at e;cases e
  ·rw [drop_no hc] at e ⊢;exact u.frzs b o v e
 ·by_cases hc:b∈ads
  ·rw [drop_in hc] at e;cases e
  ·rw [drop_no hc] at e ⊢;exact u.tbls b ps e
theorem Un.adds(x:HOk P w H h)(f:FrzAll H ads)(nf:∀c∈ads,c∉fs)(u:Un fs [] (dropC ads H) H' h h') :
  Un fs [] H (addC ads H H') h h'∧(∀c∈ads,H' c=none)∧∀c∈ads,∀o,h.get? c=some o→h'.get? c=some o:=by
 have th:∀c∈ads,∃o,h.get? c=some o:=fun c hc=>let ⟨o,v,e⟩:=f c hc;⟨o,(x c _ e).1⟩
 refine⟨⟨fun b o e n hb hx=>?_,fun b o e n hb hx=>?_,fun b o e n hx=>?_,u.there,fun b xs e=>?_,fun b o v e=>?_,fun b ps e=>?_⟩,fun c hc=>let ⟨o,e⟩:=th c hc;u.free c o e (drop_in hc) (by simp),fun c hc o e=>u.keep c o e (drop_in hc) (nf c hc) (by simp)⟩
 ·exact u.keep b o e (by unfold dropC;split<;>first|rfl|exact n) hb hx
 ·exact u.slot b o e (by unfold dropC;split<;>first|rfl|exact n) hb hx
 ·by_cases hc:b∈ads
  ·rw [add_in hc];exact n
  ·rw [add_no hc];exact u.free b o e (by rw [drop_no hc];exact n) hx
 ·by_cases hc:b∈ads
  ·rw [add_in hc];exact e
  ·rw [add_no hc];exact u.tups b xs (by rw [drop_no hc];exact e)
 ·by_cases hc:b∈ads
  ·rw [add_in hc];exact e
  ·rw [add_no hc];exact u.frzs b o v (by rw [drop_no hc];exact e)
 ·by_cases hc:b∈ads
  ·exact⟨#[],by rw [add_in hc,e];simp⟩
  ·obtain⟨m,z⟩:=u.tbls b ps (by rw [drop_no hc];exact e)
   exact⟨m,by rw [add_no hc];exact z⟩
end
structure CXF(P:Program)(w:World)(CX:CXT):Prop where
 drop:∀(outer:List Env) (H:Hp) (ads:List Addr) (s:Shared) (E:XK) (e:Value) (s':Shared),HOk P w H s.heap→FrzAll H ads→CX outer H s (fun c d H'=>E c d (dropC ads H')) e s'→CX outer (dropC ads H) s E e s'
 add:∀(outer:List Env) (H:Hp) (ads:List Addr) (s:Shared) (E:XK) (e:Value) (s':Shared),HOk P w H s.heap→FrzAll H ads→(∀b∈frs outer,H b=none)→CX outer (dropC ads H) s (fun c d H'=>(∀a∈ads,H' a=none)→E c d (addC ads H H')) e s'→CX outer H s E e s'
theorem cxf0{P:Program}{w:World}:CXF P w CX0:=⟨fun _ _ _ _ _ _ _ _ _ h=>h,fun _ _ _ _ _ _ _ _ _ _ h=>h⟩
inductive CapsOk (X:Cx):List (Nat × Str × Addr)→Prop
 |nil:CapsOk X []
 |cons {i:Nat} {y:Str} {c:Addr} {l:List (Nat × Str × Addr)} (h1:X.N[i]?=some y) (h2:X.env.kindOf y=some .cell) (h3:X.env.cells.lookup y=some c) (h4:X.fn y=true) (r:CapsOk X l):CapsOk X ((i,y,c)::l)
theorem CapsOk.mem{X:Cx}:∀{l:List (Nat × Str × Addr)},CapsOk X l→∀p∈l,X.N[p.1]?=some p.2.1∧X.env.kindOf p.2.1=some .cell∧X.env.cells.lookup p.2.1=some p.2.2∧X.fn p.2.1=true
 |_,.nil=>fun _ z=>nomatch z
 |_,.cons h1 h2 h3 h4 r=>fun p hp=>by
  rcases List.mem_cons.mp hp with rfl|hp
  ·exact⟨h1,h2,h3,h4⟩
  ·exact r.mem p hp
theorem CapsOk.nodup{X:Cx}(ok:X.Ok):∀{l:List (Nat × Str × Addr)},CapsOk X l→(l.map (·.2.1)).Nodup→(l.map (·.2.2)).Nodup
 |_,.nil,_=>List.nodup_nil
 |_,.cons (y:=y) (c:=c) h1 h2 h3 _ r,nd=>by
  obtain⟨n1,n2⟩:=List.nodup_cons.mp nd
  refine List.nodup_cons.mpr ⟨fun z=>?_,r.nodup ok n2⟩
  obtain⟨p,hp,e⟩:=List.mem_map.mp z
  have h4:=(r.mem p hp).2.2.1
  have e':p.2.2=c:=e
  rw [e'] at h4
  have:p.2.1=y:=ok.inj _ _ _ h4 h3
  exact n1 (List.mem_map.mpr ⟨p,hp,this⟩)
theorem froz_mk{X:Cx}{pins:List (Addr × Obj)}{σ:St}{H:Hp}{s:Shared}(I:Inv X pins σ H s):∀{l:List (Nat × Str × Addr)} {cvs:List V},CapsOk X l→(l.map (·.2.2)).Nodup→Paired (fun p v=>σ[p.1]?=some (some v)) l cvs →
  ∃g:Addr→Option HO,Froz g (l.map (·.2.2)) cvs∧(∀c,c∉l.map (·.2.2)→g c=none)∧∀c o,g c=some o→∃ob v,o=.frz ob (.cel v)∧s.heap.get? c=some ob∧∃u,RelV v u∧s.heap.IsCell c (some u)
 |_,_,.nil,_,.nil=>⟨fun _=>none,.nil,fun _ _=>rfl,fun _ _ z=>nomatch z⟩
 |_,_,.cons (i:=i) (y:=y) (c:=c) h1 h2 h3 _ r,nd,.cons (b:=v) e t=>by
  obtain⟨n1,n2⟩:=List.nodup_cons.mp nd
  obtain⟨g,f1,f2,f3⟩:=froz_mk I r n2 t
  obtain⟨m,hn,hl⟩:=I.loc
  obtain⟨u,rv,lk⟩:=hl i y v h1 e (.inr (.inl h2))
  have cel:s.heap.IsCell c (some u):=by
   rcases lk with ⟨k,_⟩|⟨_,c',e1,e2⟩
   ·rw [h2] at k;cases k
   ·rw [h3] at e1;cases e1;exact e2
  obtain⟨ob,ho,hd⟩:=id cel
  refine⟨fun b=>if b=c then some (.frz ob (.cel v)) else g b,.cons ⟨ob,if_pos rfl⟩ ?_,fun b hb=>?_,fun b o z=>?_⟩
  ·have up:∀{as:List Addr} {vs:List V},c∉as→Froz g as vs→Froz (fun b=>if b=c then some (.frz ob (.cel v)) else g b) as vs:=by
    intro as
    induction as with
    |nil=>intro vs _ h;cases h;exact .nil
    |cons a as ih =>
     intro vs hn h
     cases h with
     |cons r t =>
      obtain⟨o,r⟩:=r
      exact .cons ⟨o,(if_neg fun z=>hn (by rw [←z];exact .head _)).trans r⟩ (ih (fun z=>hn (.tail _ z)) t)
   exact up n1 f1
  ·have:b≠c:=fun z=>hb (by rw [z];exact .head _)
   show(if b=c then _ else _)=_
   rw [if_neg this]
   exact f2 b fun z=>hb (.tail _ z)
  ·by_cases hb:b=c
   ·subst hb
    have z':=(if_pos rfl).symm.trans z
    cases z'
    exact⟨ob,v,rfl,ho,u,rv,cel⟩
   ·have z':=(if_neg hb).symm.trans z
    exact f3 b o z'
section
variable{X:Cx}{CX:CXT}{k:Nat}{f C:Addr}{fd:FuncData}{ps:List Str}{sp:Sp}{dvs:List V}{ds:List Value}{E:XK}{x m:Str}{p pos apos:Pos}{e o:Expr}{es:List Expr}{ta:TE}{t:TA}
theorem run_fnF{pins:List (Addr × Obj)}{σ:St}{H:Hp}{s:Shared}{Q:VK}{us:List Value}{vs cvs:List V}{l:List (Nat × Str × Addr)}(fx:CXF X.prog X.w CX)(F:FnOk X.prog X.w X.K X.mg X.base CX k f fd ps sp)(hr:Room k X.A)(hb:Binds X.K fd ps ds)(hd:Vals dvs ds)(hx:∀(e:Value) (s':Shared),CX X.stack H s E e s'→X.xe e s')
  (hl:CapsOk X l) (hnd:(l.map (·.2.1)).Nodup) (I:Inv X pins σ H s) (r:Vals vs us) (hc:Paired (fun p v=>σ[p.1]?=some (some v)) l cvs)
  (h:∀H2,dropC (l.map (·.2.2)) H2=H→Same H H2→(∀c∈l.map (·.2.2),H c=none)→Froz H2 (l.map (·.2.2)) cvs→sp (vs++dvs) H2 (fun v H'=>Q v (dropC (l.map (·.2.2)) H')) (fun c d H'=>E c d (dropC (l.map (·.2.2)) H'))):wpAny (model X.prog X.w) X.A (call (.ref f) us) (EP X pins σ Q) X.xe s:=by
 have nd:=hl.nodup I.ok hnd
 obtain⟨g,g1,g2,g3⟩:=froz_mk I hl nd hc
 have cn:∀c∈l.map (·.2.2),H c=none:=fun c hc=>by
  obtain⟨p,hp,rfl⟩:=List.mem_map.mp hc
  exact I.freeC _ _ (hl.mem p hp).2.2.1
 have hnF:∀c∈l.map (·.2.2),c∉frs X.stack:=fun c hc z=>by
  obtain⟨p,hp,rfl⟩:=List.mem_map.mp hc
  rcases List.mem_cons.mp (I.stkSub _ z) with y|y
  ·exact I.cne _ _ (hl.mem p hp).2.2.1 y
  ·obtain⟨_,of,hof,_⟩:=I.ok.funs.mem y
   exact Nat.lt_irrefl _ (Nat.lt_of_lt_of_le (Heap.lt_size hof) (I.ok.cab _ _ (hl.mem p hp).2.2.2 (hl.mem p hp).2.2.1))
 have hnB:∀c∈l.map (·.2.2),X.base.get? c=none:=fun c hc=>by
  obtain⟨p,hp,rfl⟩:=List.mem_map.mp hc
  exact Heap.get?_none_of_le (Nat.le_trans I.ok.bsz (I.ok.cab _ _ (hl.mem p hp).2.2.2 (hl.mem p hp).2.2.1))
 generalize hads:l.map (·.2.2)=ads at *
 have hH2:∃H2:Hp,dropC ads H2=H∧Same H H2∧Froz H2 ads cvs∧∀b o,H2 b=some o→(b∉ads∧H b=some o)∨(b∈ads∧g b=some o):=by
  refine⟨fun b=>if b∈ads then g b else H b,?_,fun b o e=>?_,?_,fun b o e=>?_⟩
  ·funext b
   unfold dropC
   by_cases hb:b∈ads
   ·rw [if_pos hb];exact(cn b hb).symm
   ·rw [if_neg hb];exact if_neg hb
  ·show(if b∈ads then g b else H b)=_
   rw [if_neg fun z=>by rw [cn b z] at e;cases e]
   exact e
  ·have up:∀{as:List Addr} {vs:List V},(∀a∈as,a∈ads)→Froz g as vs→Froz (fun b=>if b∈ads then g b else H b) as vs:=by
    intro as
    induction as with
    |nil=>intro vs _ h;cases h;exact .nil
    |cons a as ih =>
     intro vs hn h
     cases h with
     |cons r t =>
      obtain⟨o,r⟩:=r
      exact .cons ⟨o,(if_pos (hn _ (.head _))).trans r⟩ (ih (fun z hz=>hn z (.tail _ hz)) t)
   exact up (fun _ z=>z) g1
  ·by_cases hb:b∈ads
   ·exact .inr ⟨hb,(if_pos hb).symm.trans e⟩
   ·exact .inl ⟨hb,(if_neg hb).symm.trans e⟩
 obtain⟨H2,e2,sm,fz,cs⟩:=hH2
 have ok2:HOk X.prog X.w H2 s.heap:=fun b o e=>by
  rcases cs b o e with ⟨_,q⟩|⟨_,q⟩
  ·exact(I.hok b o q).stay (fun _ _ _ z=>z) (fun a z=>sm a _ z) fun a xs z=>sm a _ z
  ·obtain⟨ob,v,rfl,h1,u,h2,h3⟩:=g3 b o q
   exact⟨h1,u,h2,h3⟩
 have e0:=I.env0
 have e02:Env0 X.prog X.w X.K X.mg X.base X.A X.stack s H2:=⟨e0.frames,e0.mod,fun b o e=>⟨(e0.bs b o e).1,?_⟩,e0.bsz,e0.funs,fun b hb=>?_,ok2,e0.bare⟩
 ·have r2:Vals (vs++dvs) (us++ds):=r.append hd
  have hq:=h H2 e2 sm cn fz
  have hlen:(us++ds).length=ps.length:=by rw [←r2.length];exact F.len _ _ _ _ hq
  refine wpAny_call (codeAny_mono (F.run X.A X.stack s H2 ⟨us,[]⟩ (us++ds) (vs++dvs) _ _ hr e02 (hb s us I.kIn hlen) r2 hq) fun r s' hq=>?_)
  have fa:=fz.all
  cases r with
  |error e=>exact hx e s' (by rw [←e2];exact fx.drop _ _ _ _ _ _ _ ok2 fa hq)
  |ok fl =>
   cases fl with
   |ret u =>
    obtain⟨v,H',os,bare,un,hok,rv,q⟩:=hq
    have f':FrzAll H' ads:=fun c hc=>let ⟨o,v,e⟩:=fa c hc;⟨o,v,un.frzs _ _ _ e⟩
    exact I.after ⟨v,dropC ads H',os,bare,e2▸Un.drop ok2 hok fa un,hok.drop f',rv,q⟩
   |next=>exact False.elim hq
   |brk=>exact False.elim hq
   |cont=>exact False.elim hq
 ·cases q:H2 b with
  |none=>rfl
  |some u =>
   rcases cs b u q with ⟨_,z⟩|⟨hb,z⟩
   ·rw [(e0.bs b o e).2] at z;cases z
   ·rw [hnB b hb] at e;cases e
 ·cases q:H2 b with
  |none=>rfl
  |some u =>
   rcases cs b u q with ⟨_,z⟩|⟨hc,z⟩
   ·rw [e0.frf b hb] at z;cases z
   ·exact absurd hb (hnF b hc)
def tCallF(sp:Sp)(dvs:List V)(E:XK)(l:List (Nat × Str × Addr))(t:TA):TE:=fun σ H Q=>t σ H fun vs H1=>∃cvs,Paired (fun p v=>σ[p.1]?=some (some v)) l cvs ∧
 ∀H2,dropC (l.map (·.2.2)) H2=H1→Same H1 H2→(∀c∈l.map (·.2.2),H1 c=none)→Froz H2 (l.map (·.2.2)) cvs→sp (vs++dvs) H2 (fun v H'=>Q v (dropC (l.map (·.2.2)) H')) (fun c d H'=>E c d (dropC (l.map (·.2.2)) H'))
theorem pe_callF{l:List (Nat × Str × Addr)}(fx:CXF X.prog X.w CX)(F:FnOk X.prog X.w X.K X.mg X.base CX k f fd ps sp)(hr:Room k X.A)(hg:Gl X x)(hm:X.mg x=some (.ref f))(hk:PySem.W.keepIn X.K (.ref f)=true)(hb:Binds X.K fd ps ds)(hd:Vals dvs ds)(hx:Passes CX X E)
  (hl:CapsOk X l) (hnd:(l.map (·.2.1)).Nodup) (ha:PA X (e::es) t) (hdb:(x==("__debug__":Str))=false:=by decide) (he:starEach (e::es) X.env=(false,eval e X.env)::starEach es X.env:=by rfl) (hpl:(backTo pos (starEach es X.env)).any (·.1)=false:=by rfl) :
  PE X (.Call (.Name x p) (e::es) [] pos) (tCallF sp dvs E l t):=by
 intro pins s σ H Q I h
 refine wpAny_Call_Name_kw (ld_glob I hg hm ?_ hdb)
 refine PySem.W.callWith_K (h₀:=X.base) I.ok.mod.kin hk (thn (ha pos pins s σ H _ I h) fun us s1 ⟨vs,H1,I1,r,q⟩=>⟨I1.kIn,?_⟩) he hpl
 obtain⟨cvs,hc,q⟩:=q
 exact run_fnF fx F hr hb hd (fun e s'=>hx pins σ H1 s1 e s' I1) hl hnd I1 r hc q
def tCallV(X:Cx)(CX:CXT)(E:XK)(i:Nat)(t:TA):TE:=fun σ H Q=>∃f fd,σ[i]?=some (some (.ref f))∧H f=some (.fnc fd)∧t σ H fun vs H1=>∃fd ps sp k,H1 f=some (.fnc fd)∧FnOk X.prog X.w X.K X.mg X.base CX k f fd ps sp∧Room k X.A∧Binds X.K fd ps []∧sp vs H1 Q E
theorem Inv.fnAt{pins:List (Addr × Obj)}{σ:St}{H:Hp}{s:Shared}(I:Inv X pins σ H s)(h:H f=some (.fnc fd)):PySem.W.FnAt f s.heap:=let ⟨oc,od,sl,e⟩:=I.hok f _ h;⟨oc,od,fd,sl,e⟩
theorem pe_callV{i:Nat}(hN:PE X (.Name x p) (tVar i))(hx:Passes CX X E)(ha:PA X (e::es) t)(he:starEach (e::es) X.env=(false,eval e X.env)::starEach es X.env:=by rfl)(hpl:(backTo pos (starEach es X.env)).any (·.1)=false:=by rfl) :
  PE X (.Call (.Name x p) (e::es) [] pos) (tCallV X CX E i t):=by
 intro pins s σ H Q I h
 obtain⟨f,fd,hi,hf,h⟩:=h
 refine wpAny_Call_Name_kw (thn (hN pins s σ H (fun v H'=>v=.ref f∧H'=H) I ⟨_,hi,rfl,rfl⟩) fun u s1 ⟨v,H1,I1,rv,e1,e2⟩=>?_)
 subst e1;subst e2
 obtain rfl:u=Value.ref f:=rv
 refine PySem.W.callWith_F (I1.fnAt hf) (thn (ha pos pins s1 σ H1 _ I1 h) fun us s2 ⟨vs,H2,I2,r,q⟩=>?_) he hpl
 obtain⟨fd,ps,sp,k,hf2,F,hr,hb,q⟩:=q
 exact⟨I2.fnAt hf2,run_fn (dvs:=[]) F hr hb .nil hx I2 r (by rw [List.append_nil];exact q)⟩
end
end L2
namespace L2
open PySem PySem.Spec PyProof.Rows
structure CloScope(ps caps:List Str)(sc:Scope):Prop where
 kind:sc.kind=.function
 co:sc.isCoroutine=false
 gen:sc.isGenerator=false
 nd:(ps++caps).Nodup
 par:∀x∈ps,sc.names.lookup x=some .local
 cap:∀x∈caps,sc.names.lookup x=some .free
 nocell:∀y∈sc.names,y.2≠.cell
 free:∀y∈sc.names,y.2=.free→y.1∈caps
def cxClo(CX:CXT)(P:Program)(w:World)(K:PySem.W.Frag)(mg:Str→Option Value)(base:Heap)(N:List Str)(qual:Str)(scope:Scope)(f:Addr)(cd:Value)(cl:List (Str × Addr))(A:Around)(outer:List Env)(s:Shared)(H:Hp)(E:XK):Cx where
 prog:=P
 w:=w
 K:=K
 mg:=mg
 base:=base
 A:=A.deeper (PySem.W.envX qual scope s.heap.objs.size f cd cl)
 N:=N
 s₀:=s
 H₀:=H
 env:=PySem.W.envX qual scope s.heap.objs.size f cd cl
 outer:=outer
 stack:=PySem.W.envX qual scope s.heap.objs.size f cd cl::outer
 ex:=[]
 calm:=true
 fn:=fun _=>false
 pn:=[]
 xe:=fun e s'=>wpAny (model P w) (A.deeper (PySem.W.envX qual scope s.heap.objs.size f cd cl)) (leaving (PySem.W.envX qual scope s.heap.objs.size f cd cl) e) (fun _ s''=>CX outer H s E e s'') (fun e' s''=>CX outer H s E e' s'') s'
theorem zip_lookup{y:Str}{c:Addr}:∀{caps:List Str} {ads:List Addr},(caps.zip ads).lookup y=some c→∃i:Nat,caps[i]?=some y∧ads[i]?=some c
 |[],_,h=>by cases h
 |_::_,[],h=>by cases h
 |a::caps,b::ads,h=>by
  rw [List.zip_cons_cons,List.lookup_cons] at h
  cases q:y==a with
  |true=>rw [q] at h;cases h;exact⟨0,by rw [eq_of_beq q];rfl,rfl⟩
  |false=>rw [q] at h;obtain⟨i,h1,h2⟩:=zip_lookup h;exact⟨i+1,h1,h2⟩
theorem lookup_zip{y:Str}:∀{caps:List Str} {ads:List Addr} {i:Nat},caps.length=ads.length→caps.Nodup→caps[i]?=some y→∃c,(caps.zip ads).lookup y=some c∧ads[i]?=some c
 |[],_,_,_,_,h=>by simp at h
 |_::_,[],_,l,_,_=>by simp at l
 |a::caps,b::ads,0,_,_,h=>by
  simp at h;subst h
  exact⟨b,by rw [List.zip_cons_cons,List.lookup_cons];simp,rfl⟩
 |a::caps,b::ads,i+1,l,nd,h=>by
  obtain⟨n1,n2⟩:=List.nodup_cons.mp nd
  have h':caps[i]?=some y:=by simpa using h
  obtain⟨c,h1,h2⟩:=lookup_zip (i:=i) (ads:=ads) (by simpa using l) n2 h'
  refine⟨c,?_,h2⟩
  rw [List.zip_cons_cons,List.lookup_cons]
  have:(y==a)=false:=beq_eq_false_iff_ne.mpr fun z=>n1 (by rw [←z];exact List.mem_of_getElem? h')
  rw [this];exact h1
theorem rev_lookup{y:Str}{u:Value}:∀{ps:List Str} {us:List Value} {i:Nat},ps.Nodup→ps[i]?=some y→us[i]?=some u→(ps.zip us).reverse.lookup y=some u
 |[],_,_,_,h,_=>by simp at h
 |_::_,[],_,_,_,h=>by simp at h
 |a::ps,b::us,i,nd,h1,h2=>by
  obtain⟨n1,n2⟩:=List.nodup_cons.mp nd
  rw [List.zip_cons_cons,List.reverse_cons,List.lookup_append]
  cases i with
  |zero =>
   simp at h1 h2;subst h1;subst h2
   have:(ps.zip us).reverse.lookup a=none:=List.lookup_eq_none_iff.mpr fun p hp=>by
    have:=(List.of_mem_zip (List.mem_reverse.mp hp)).1
    have q:a≠p.1:=fun z=>n1 (by rw [z];exact this)
    simpa using q
   rw [this];simp
  |succ i=>rw [rev_lookup (i:=i) n2 (by simpa using h1) (by simpa using h2)];rfl
theorem Froz.len{H:Hp}{ads:List Addr}{cvs:List V}(f:Froz H ads cvs):ads.length=cvs.length:=Paired.length f
theorem inv_clo{CX:CXT}{P:Program}{w:World}{K:PySem.W.Frag}{mg:Str→Option Value}{base:Heap}{ps caps:List Str}{qual:Str}{scope:Scope}{f:Addr}{cd:Value}{ads:List Addr}{cvs:List V}{A:Around}{outer:List Env}{s:Shared}{h₁:Heap}{tk:Nat}{H:Hp}{E:XK}{us:List Value}{vs:List V}
  (S:CloScope ps caps scope) (hd:A.handled=none) (e0:Env0 P w K mg base A outer s H) (hl:vs.length=ps.length) (r:Vals vs us) (fz:Froz H ads cvs) (hc:caps.length=ads.length) (nd:ads.Nodup)
  (hns:h₁.Ns s.heap.objs.size (fun x=>(ps.zip us).reverse.lookup x)) (hk:∀b o,s.heap.get? b=some o→h₁.get? b=some o) :
  Inv (cxClo CX P w K mg base (ps++caps) qual scope f cd (caps.zip ads) A outer s (dropC ads H) E) [] (start (ps++caps) (vs++cvs)) (dropC ads H) { s with heap:=h₁,toks:=tk }:=by
 have noA:∀b:Addr,b∉(cxClo CX P w K mg base (ps++caps) qual scope f cd (caps.zip ads) A outer s (dropC ads H) E).ex:=fun b z=>absurd (show b∈([]:List Addr) from z) (by simp)
 have ndp:ps.Nodup:=S.nd.sublist (List.sublist_append_left _ _)
 have ndc:caps.Nodup:=S.nd.sublist (List.sublist_append_right _ _)
 have fa:=fz.all
 have dn:∀b,H b=none→dropC ads H b=none:=fun b n=>by unfold dropC;split<;>first|rfl|exact n
 have cin:∀y c,(caps.zip ads).lookup y=some c→c∈ads:=fun y c h=>let ⟨_,_,h2⟩:=zip_lookup h;List.mem_of_getElem? h2
 have cel:∀c∈ads,∀o v,H c=some (.frz o (.cel v))→∃u,RelV v u∧h₁.IsCell c (some u):=fun c _ o v e=>by
  obtain⟨_,u,rv,ic⟩:=e0.hok c _ e
  exact⟨u,rv,ic.keeps hk⟩
 refine⟨⟨e0.mod,S.kind,rfl,rfl,Nat.le_refl _,fun y z c h1 h2=>?_,fun y hy=>?_,(fun y c h _=>absurd (show false=true from h) Bool.false_ne_true),fun _=>hd,Around.frames_deeper e0.frames,.inr ⟨rfl,rfl⟩,fun b z=>absurd z (noA b),fun b o e=>⟨(e0.bs b o e).1,dn b (e0.bs b o e).2⟩,e0.bsz,fun b _ _=>noA b,fun b z=>absurd z (noA b),e0.funs,fun b hb=>dn b (e0.frf b hb)⟩,
  rfl,e0.bare,Un.kept hk,⟨_,hns,fun i y v h1 h2 h3=>?_⟩,fun y c h=>?_,dn _ (e0.hok.fresh (Nat.le_refl _)),fun y c h=>drop_in (cin y c h),fun p hp=>absurd (show p∈([]:List (Addr × Obj)) from hp) (by simp),(HOk.drop e0.hok fa).kept hk,?_⟩
 ·obtain⟨i,a1,a2⟩:=zip_lookup h1
  obtain⟨j,b1,b2⟩:=zip_lookup h2
  obtain⟨i1,i2⟩:=List.getElem?_eq_some_iff.mp a2
  obtain⟨j1,j2⟩:=List.getElem?_eq_some_iff.mp b2
  have:i=j:=(List.getElem_inj nd).mp (i2.trans j2.symm)
  subst this
  rw [a1] at b1;exact Option.some.inj b1
 ·have hy:scope.names.lookup y=some .cell∨scope.names.lookup y=some .free:=hy
  rcases hy with hy|hy
  ·exact absurd rfl (S.nocell _ (PySem.mem_of_lookup hy))
  ·have:=S.free _ (PySem.mem_of_lookup hy) rfl
   obtain⟨i,hi⟩:=List.getElem?_of_mem this
   obtain⟨c,h1,_⟩:=lookup_zip hc ndc hi
   exact⟨c,h1⟩
 ·unfold start at h2
  have hlc:=fz.len
  have ei:(vs++cvs)[i]?=some v:=by
   by_cases hi:i < (vs++cvs).length
   ·rw [List.getElem?_append_left (by simpa using hi),List.getElem?_map] at h2
    cases e:(vs++cvs)[i]? with
    |none=>rw [e] at h2;cases h2
    |some a=>rw [e] at h2;cases h2;rfl
   ·rw [List.getElem?_append_right (by simpa using hi),List.getElem?_replicate] at h2
    split at h2<;>cases h2
  by_cases hi:i < ps.length
  ·have hy:ps[i]?=some y:=by rw [←h1];exact(List.getElem?_append_left hi).symm
   rw [List.getElem?_append_left (by omega)] at ei
   obtain⟨u,hu,rv⟩:=r.get ei
   exact⟨u,rv,.inl ⟨S.par y (List.mem_of_getElem? hy),rev_lookup ndp hy hu⟩⟩
  ·have hy:caps[i - ps.length]?=some y:=by rw [←h1];exact(List.getElem?_append_right (by omega)).symm
   rw [List.getElem?_append_right (by omega),hl] at ei
   obtain⟨c,e1,e2⟩:=lookup_zip hc ndc hy
   obtain⟨v',o,e3,e4⟩:=fz.get e2
   rw [ei] at e3;cases e3
   obtain⟨u,rv,ic⟩:=cel c (List.mem_of_getElem? e2) o v e4
   exact⟨u,rv,.inr ⟨.inr (S.cap y (List.mem_of_getElem? hy)),c,e1,ic⟩⟩
 ·obtain⟨o,v,e⟩:=fa c (cin y c h)
  obtain⟨u,_,ic⟩:=cel c (cin y c h) o v e
  exact⟨_,ic⟩
 ·have:=fz.len
  unfold start
  show _=(ps++caps).length
  rw [List.length_append,List.length_map,List.length_replicate,List.length_append,List.length_append]
  omega
def spClo(f:Addr)(fd:FuncData)(c:Addr)(q:Str)(ads:List Addr)(cvs:List V)(n:Nat)(B:Sp):Sp:=fun vs H Q E=>vs.length=n∧H f=some (.fnc fd)∧H c=some (.cod q)∧Froz H ads cvs ∧
 B vs (dropC ads H) (fun v H'=>(∀a∈ads,H' a=none)→Q v (addC ads H H')) (fun k d H'=>(∀a∈ads,H' a=none)→E k d (addC ads H H'))
section
variable{CX:CXT}{P:Program}{w:World}{K:PySem.W.Frag}{mg:Str→Option Value}{base:Heap}{k:Nat}{f c:Addr}{name qual:Str}{params:Arguments}{scope:Scope}{ps caps:List Str}{ads:List Addr}{cvs:List V}{B:Sp}
theorem fn_lam{body:Expr}{pm ctv:Value}(fx:CXF P w CX)(S:CloScope ps caps scope)(hc:caps.length=ads.length)(nd:ads.Nodup)
  (hbody:∀(A:Around) (outer:List Env) (s:Shared) (H:Hp) (vs:List V) (Q:VK) (E:XK),Room k (A.deeper (PySem.W.envX qual scope s.heap.objs.size f (.ref c) (caps.zip ads)))→B vs H Q E→vs.length=ps.length →
   ∃t,PE (cxClo CX P w K mg base (ps++caps) qual scope f (.ref c) (caps.zip ads) A outer s H E) body t∧t (start (ps++caps) (vs++cvs)) H Q) :
  FnOk P w K mg base CX (k+1) f (PySem.W.kla_fn name qual params body scope (caps.zip ads) pm (.ref c) ctv) ps (spClo f (PySem.W.kla_fn name qual params body scope (caps.zip ads) pm (.ref c) ctv) c qual ads cvs ps.length B):=by
 refine⟨fun _ _ _ _ h=>h.1,fun A outer s H args us vs Q E hr e0 hb r hsp=>?_⟩
 obtain⟨hl,hf,hcd,fz,hB⟩:=hsp
 obtain⟨oc,od,sl,e⟩:=e0.hok f _ hf
 have lim:s.heap.NoLimit:=e0.mod.nolimit.keeps fun b o e=>(e0.bs b o e).1
 have hloc:∀y∈ps.zip us,scope.names.lookup y.1=some .local:=fun⟨n,v⟩ hy=>S.par n (List.of_mem_zip hy).1
 refine PySem.W.kla_callFunE hr.depth e rfl S.co S.gen rfl (e0.hok c _ hcd) (hb _ _ _ _ ?_)
 refine wpAny_newFunctionEnv S.nocell hloc (fun h₁ hns hsb=>⟨lim.fresh _ hsb,?_⟩) S.kind
 have hk:∀b o,s.heap.get? b=some o→h₁.get? b=some o:=fun b o e=>hsb.extBut b o (Nat.ne_of_lt (Heap.lt_size e)) (Heap.get?_push_of_some _ e)
 show codeAny _ _ (.expr body (PySem.W.envX qual scope s.heap.objs.size f (.ref c) (caps.zip ads))) _ _
 obtain⟨t,ht,hq⟩:=hbody A outer s (dropC ads H) vs _ _ (hr.deeper _) hB hl
 have I:=inv_clo (CX:=CX) (qual:=qual) (f:=f) (cd:=.ref c) (tk:=s.toks+(ps.zip us).length) (E:=fun k d H'=>(∀a∈ads,H' a=none)→E k d (addC ads H H')) S hr.hd e0 hl r fz hc nd hns hk
 have fa:=fz.all
 have na:∀c∈ads,c∉frs outer:=fun c hc z=>by obtain⟨o,v,e⟩:=fa c hc;rw [e0.frf c z] at e;cases e
 refine PySem.W.kla_codeExpr (wpAny_mono (ht [] _ _ _ _ I hq) (fun u s' hs=>?_) fun e s' hs=>?_)
 ·obtain⟨v,H',J,rv,q⟩:=hs
  obtain⟨un,n,kk⟩:=Un.adds e0.hok fa na J.base
  exact⟨v,addC ads H H',J.os,J.bare,un,HOk.add e0.hok J.hok fa n kk,rv,q n⟩
 ·exact wpAny_mono hs (fun _ s'' z=>fx.add _ _ _ _ _ _ _ e0.hok fa e0.frf z) fun _ s'' z=>fx.add _ _ _ _ _ _ _ e0.hok fa e0.frf z
end
end L2
namespace L2
open PySem PySem.Spec PyProof.Rows
structure FunT(K:PySem.W.Frag)(x qual:Str)(st:Stmt)(f:Addr)(fd:FuncData)(c P:Addr):Prop where
 ex:∃(oc:Value) (od:Option Addr) (kV doc pm:Value) (an:Option Addr) (ct:Value) (osl:Array (Option Value)),
  fd=PySem.W.fnOf x qual (defArgs st) (defBody st) (defScope st) .none kV doc pm an (.ref c) ct∧K.lookup f=some ⟨oc,od,.func fd,osl⟩∧PySem.W.codeIn K (.ref c) qual=true
 kp:PySem.W.keepIn K (.ref f)=true
 hd:PySem.W.codeHdIn K c P=true
section
variable{Pr:Program}{w:World}{K:PySem.W.Frag}{mg:Str→Option Value}{base:Heap}{x qual:Str}{st:Stmt}{f c P:Addr}{fd:FuncData}{N ps:List Str}{k:Nat}{sp:Sp}
theorem FunT.okG{CX:CXT}(F:FunT K x qual st f fd c P)(S:FnScope N ps (defScope st))(len:∀vs H Q E,sp vs H Q E→vs.length=ps.length)
  (hbody:∀(A:Around) (outer:List Env) (s:Shared) (H:Hp) (vs:List V) (Q:VK) (E:XK),Room k (A.deeper (envOfC qual (defScope st) s.heap.objs.size f (.ref c)))→sp vs H Q E →
   ∃t,PSs (cxOf CX Pr w K mg base N qual (defScope st) f (.ref c) A outer s H E) (defBody st) t∧t { nx:=fun _ H'=>Q .non H',rt:=Q } (start N vs) H):FnOk Pr w K mg base CX (k+1) f fd ps sp:=by
 obtain⟨oc,od,kV,doc,pm,an,ct,osl,rfl,lk,hcd⟩:=F.ex
 exact fn_of lk hcd S len hbody
theorem FunT.ok(F:FunT K x qual st f fd c P)(S:FnScope N ps (defScope st))(len:∀vs H Q E,sp vs H Q E→vs.length=ps.length)
  (hbody:∀(A:Around) (outer:List Env) (s:Shared) (H:Hp) (vs:List V) (Q:VK) (E:XK),Room k (A.deeper (envOfC qual (defScope st) s.heap.objs.size f (.ref c)))→sp vs H Q E →
   ∃t,PSs (cxOf CX0 Pr w K mg base N qual (defScope st) f (.ref c) A outer s H E).nox (defBody st) t∧t { nx:=fun _ H'=>Q .non H',rt:=Q } (start N vs) H):FnOk Pr w K mg base CX0 (k+1) f fd ps sp :=
 F.okG S len fun A outer s H vs Q E hr h=>let ⟨t,h1,h2⟩:=hbody A outer s H vs Q E hr h;⟨t,h1.nox,h2⟩
theorem FunT.code(F:FunT K x qual st f fd c P)(X:K.In base):PySem.W.CodeHd base c P:=PySem.W.codeHd_of_K X F.hd
theorem funt_mk{oc:Value}{od an:Option Addr}{osl:Array (Option Value)}{kV doc pm ct:Value}(l:K.lookup f=some ⟨oc,od,.func (PySem.W.fnOf x qual (defArgs st) (defBody st) (defScope st) .none kV doc pm an (.ref c) ct),osl⟩)
  (cd:PySem.W.codeIn K (.ref c) qual=true) (k:PySem.W.keepIn K (.ref f)=true) (h:PySem.W.codeHdIn K c P=true):FunT K x qual st f (PySem.W.fnOf x qual (defArgs st) (defBody st) (defScope st) .none kV doc pm an (.ref c) ct) c P:=⟨⟨oc,od,kV,doc,pm,an,ct,osl,rfl,l,cd⟩,k,h⟩
end
theorem tab_lookup:∀{tabs:List (Addr × Array Value)} {q:Addr × Array Value},(tabs.map (·.1)).Nodup→q∈tabs→tabs.lookup q.1=some q.2
 |[],_,_,h=>nomatch h
 |p::r,q,nd,h=>by
  obtain⟨n1,n2⟩:=List.nodup_cons.mp nd
  rw [show(p::r).lookup q.1=_ from List.lookup_cons]
  rcases List.mem_cons.mp h with rfl|hq
  ·rw [beq_self_eq_true]
  ·have:(q.1==p.1)=false:=beq_eq_false_iff_ne.mpr fun z=>n1 (List.mem_map.mpr ⟨q,hq,z⟩)
   rw [this];exact tab_lookup n2 hq
theorem tab_mem{b:Addr}{ps:Array Value}:∀{tabs:List (Addr × Array Value)},tabs.lookup b=some ps→(b,ps)∈tabs
 |[],h=>nomatch h
 |p::r,h=>by
  rw [show(p::r).lookup b=_ from List.lookup_cons] at h
  cases q:b==p.1 with
  |true=>rw [q] at h;cases h;rw [eq_of_beq q];exact .head _
  |false=>rw [q] at h;exact .tail _ (tab_mem h)
theorem law_callT{P:Program}{w:World}{K:PySem.W.Frag}{mg mb:Str→Option Value}{CX:CXT}{k:Nat}{fa a:Addr}{fd:FuncData}{x:Str}{sp:Sp}{s₁:Shared}{vs:List Value}{ns:List Int}{tabs:List (Addr × Array Value)}
  (KX:K.In s₁.heap) (hns:s₁.heap.Ns mainGlobals mg) (hb:s₁.heap.Ns builtinsNs mb) (hbb:∀x:Str,x≠"__name__"→mb x=bootBuiltins x) (hlim:s₁.heap.NoLimit) (hbm:∃bm ob,mg "__builtins__"=some (.ref bm)∧bm≠builtinsNs∧s₁.heap.get? bm=some ob∧ob.cls=.type "module"∧ob.dict=some builtinsNs∧ob.data=.plain) (hg:s₁.gens=#[])
  (ha:s₁.heap.get? a=some { cls:=.type "list",data:=.seq vs.toArray }) (hi:IntsAre vs ns) (hl:ns.length≤sizeLine) (hr:Room k callerA)
  (hT:∀q∈tabs,s₁.heap.get? q.1=some (PySem.W.tabObj #[])∧isCodeTable s₁.heap q.1) (hnd:(tabs.map (·.1)).Nodup) (hNT:PySem.W.noTabs K=true)
  (F:∀base:Heap,K.In base→base.Ns mainGlobals mg→FnOk P w K mg base CX k fa fd [x] sp) (hbind:∀(s:Shared) (u:Value),BindsTo s fd ⟨[u],[]⟩ [(x,u)])
  (hsp:∀H:Hp,(∀q∈tabs,H q.1=some (.tbl q.2))→SqL K H a (ns.map V.int)→sp [.ref a] H (fun v _=>v=.bl true) fun _ _ _=>False)
  (hCX:∀H e s',CX [] H s₁ (fun _ _ _=>False) e s'→False) :
  codeAny (model P w) callerA (.call (.ref fa) ⟨[.ref a],[]⟩) (fun r s'=>r=.ok (.ret (.bool true))∧OldK s₁.heap s'.heap∧s'.os=s₁.os∧AllBare s'.gens) s₁:=by
 have rv:=vals_ints hi
 have lenV:=hi.length
 have core:∀H:Hp,(∀q∈tabs,H q.1=some (.tbl q.2))→SqL K H a (ns.map V.int)→HOk P w H s₁.heap→(∀b u,H b=some u→(b=a∧K.lookup a=none∧∃o xs,u=.frz o (.lst xs))∨∃ps,(b,ps)∈tabs∧u=.tbl ps) →
   codeAny (model P w) callerA (.call (.ref fa) ⟨[.ref a],[]⟩) (fun r s'=>r=.ok (.ret (.bool true))∧OldK s₁.heap s'.heap∧s'.os=s₁.os∧AllBare s'.gens) s₁:=by
  intro H hO hS hok hA
  have base_of:∀{b:Addr} {o:Obj},s₁.heap.get? b=some o→H b=none→(hidT s₁.heap H).get? b=some o:=fun e n=>hidT_get e n
  have no:∀{b:Addr} {o:Obj},s₁.heap.get? b=some o→(∀its n,o.data≠.seq its n)→(∀vs,o.data≠.fields vs)→H b=none:=fun {b o} e d1 d2=>by
   cases q:H b with
   |none=>rfl
   |some u =>
    rcases hA b u q with ⟨rfl,_⟩|⟨ps,hp,_⟩
    ·rw [ha] at e;cases e
     exact absurd rfl (d1 _ _)
    ·rw [(hT _ hp).1] at e;cases e
     exact absurd rfl (d2 _)
  have nsK:∀{b:Addr} {m:Str→Option Value},s₁.heap.Ns b m→(hidT s₁.heap H).Ns b m:=fun {b m} ⟨o,es,ep,e,d,r⟩=>⟨o,es,ep,base_of e (no e (fun _ _ z=>by rw [d] at z;cases z) (fun _ z=>by rw [d] at z;cases z)),d,r⟩
  have hKb:K.In (hidT s₁.heap H):=fun b o e=>base_of (KX b o e) (by
   cases q:H b with
   |none=>rfl
   |some u =>
    rcases hA b u q with ⟨rfl,z,_⟩|⟨ps,hp,_⟩
    ·rw [z] at e;cases e
    ·have e1:=KX b o e
     rw [(hT _ hp).1] at e1;cases e1
     exact absurd (show false=true from List.all_eq_true.mp hNT _ (PySem.W.mem_of_lookupK e)) Bool.false_ne_true)
  have hM:Mod K mg (hidT s₁.heap H):=⟨hKb,nsK hns,⟨mb,nsK hb,hbb⟩,let ⟨mc,h1,h2⟩:=hlim;⟨mc,nsK h1,h2⟩,let ⟨bm,ob,b1,b2,b3,b4,b5,b6⟩:=hbm;⟨bm,ob,b1,b2,base_of b3 (no b3 (fun _ _ z=>by rw [b6] at z;cases z) (fun _ z=>by rw [b6] at z;cases z)),b4,b5,b6⟩⟩
  have e0:Env0 P w K mg (hidT s₁.heap H) callerA [] s₁ H:=⟨rfl,hM,fun b o e=>of_hidT e,Nat.le_of_eq (hidT_size _ _),trivial,fun b hb=>absurd (show b∈([]:List Addr) from hb) (by simp),hok,.of_eq hg⟩
  refine codeAny_mono ((F _ hKb (nsK hns)).run callerA [] s₁ H ⟨[.ref a],[]⟩ [.ref a] [.ref a] _ _ hr e0 (hbind s₁ (.ref a)) (.cons rfl .nil) (hsp H hO hS)) fun r s' h=>?_
  cases r with
  |error e=>exact(hCX H e s' h).elim
  |ok fl =>
   cases fl with
   |next=>exact False.elim h
   |brk=>exact False.elim h
   |cont=>exact False.elim h
   |ret u =>
    obtain⟨v,H',os,bare,un,hok',r',q⟩:=h
    have q':v=.bl true:=q
    subst q'
    obtain rfl:u=Value.bool true:=r'
    have fin:∀b o,s₁.heap.get? b=some o→(s'.heap.get? b=some o)∨(isCodeTable s₁.heap b∧o=PySem.W.tabObj #[]∧∃tb,s'.heap.get? b=some (PySem.W.tabObj tb)):=fun b o e=>by
     cases q:H b with
     |none=>exact .inl (un.keep b o e q (by intro z;exact absurd (show b∈([]:List Addr) from z) (by simp)) (by simp))
     |some u =>
      rcases hA b u q with ⟨rfl,_,ob,xs,rfl⟩|⟨ps,hp,rfl⟩
      ·have z2:=un.frzs b ob _ q
       obtain⟨e1,_⟩:=hok b _ q
       obtain⟨e2,_⟩:=hok' b _ z2
       rw [e] at e1;cases e1
       exact .inl e2
      ·obtain⟨more,z⟩:=un.tbls b ps q
       obtain⟨tb,e2,_⟩:=hok' b _ z
       have e3:=(hT _ hp).1
       rw [e] at e3;cases e3
       exact .inr ⟨(hT _ hp).2,rfl,tb,e2⟩
    refine⟨rfl,⟨fun b o e=>?_,fun b o e=>?_⟩,os,bare⟩
    ·rcases fin b o e with z|⟨z,rfl,tb,z2⟩
     ·exact .inl z
     ·exact .inr (.inl ⟨z,rfl,#[],tb,rfl,by rw [Array.empty_append];exact z2⟩)
    ·rcases fin b o e with z|⟨z,rfl,tb,z2⟩
     ·exact⟨_,z⟩
     ·exact⟨_,z2⟩
 have lk:∀q∈tabs,tabs.lookup q.1=some q.2:=fun q hq=>tab_lookup hnd hq
 have lm:∀b ps,tabs.lookup b=some ps→(b,ps)∈tabs:=fun b ps h=>tab_mem h
 have na:∀q∈tabs,q.1≠a:=fun q hq z=>by
  have e:=(hT q hq).1
  rw [z,ha] at e;cases e
 have tok:∀{H:Hp} {b:Addr} {ps:Array Value},(b,ps)∈tabs→ObjOk P w H s₁.heap b (.tbl ps):=fun {H b ps} hp=>⟨#[],(hT _ hp).1,trivial,fun _ _ _ _ z=>nomatch z⟩
 cases hk:K.lookup a with
 |some o =>
  have e:=KX a o hk
  rw [ha] at e
  cases e
  refine core (fun b=>(tabs.lookup b).map .tbl) (fun q hq=>by rw [lk q hq];rfl) (.inr ⟨_,vs.toArray,_,hk,rfl,rfl,rfl,by rw [List.size_toArray,lenV];exact hl,by simpa using rv⟩) (fun b u z=>?_) (fun b u z=>?_)
  ·obtain⟨ps,h1,rfl⟩:=Option.map_eq_some_iff.mp z
   exact tok (lm b ps h1)
  ·obtain⟨ps,h1,rfl⟩:=Option.map_eq_some_iff.mp z
   exact .inr ⟨ps,lm b ps h1,rfl⟩
 |none =>
  refine core (fun b=>if b=a then some (.frz { cls:=.type "list",data:=.seq vs.toArray } (.lst (ns.map V.int))) else (tabs.lookup b).map .tbl) (fun q hq=>(if_neg (na q hq)).trans (by rw [lk q hq];rfl)) (.inl (.inr ⟨{ cls:=.type "list",data:=.seq vs.toArray },if_pos rfl⟩)) (fun b u z=>?_) (fun b u z=>?_)
  ·by_cases hb:b=a
   ·have z':=(if_pos hb).symm.trans z
    cases z'
    subst hb
    exact⟨ha,by rw [List.length_map];exact hl,vs,_,rv,ha⟩
   ·have z':=(if_neg hb).symm.trans z
    obtain⟨ps,h1,rfl⟩:=Option.map_eq_some_iff.mp z'
    exact tok (lm b ps h1)
  ·by_cases hb:b=a
   ·have z':=(if_pos hb).symm.trans z
    cases z'
    exact .inl ⟨hb,hk,_,_,rfl⟩
   ·have z':=(if_neg hb).symm.trans z
    obtain⟨ps,h1,rfl⟩:=Option.map_eq_some_iff.mp z'
    exact .inr ⟨ps,lm b ps h1,rfl⟩
def TabsOf(q:Program)(K:PySem.W.Frag)(tabs:List (Addr × Array Value)):Prop:=∀t∈tabs,∃(x:Str) (c:Addr) (d:DefRec),PySem.W.tabIn K x=some (c,t.1)∧(recsOf q).find? (fun e=>e.name==x)=some d
theorem walk_ofT{l:PySem.W.OpenLaw}{n k:Nat}{q:Program}{loose:List Str}{XP:(Str→Option Value)→Heap→Prop}{YP:World→Heap→Prop}{d:DefRec}{K:Params→PySem.W.Frag}{CX:World→CXT}{x:Str}
  (hn:l.most=some n) (hn2:n≤sizeLine) (hdf:d.params.defaults=[]) (hr:Room k callerA)
  (hY:∀(w:World) (h:Heap),YP w h→(K w.params).In h)
  (F:∀(w:World) (mg:Str→Option Value) (fa:Addr) (h:Heap),(K w.params).In h→h.Ns mainGlobals mg→mg d.name=some (.ref fa) →
   ∃(fd:FuncData) (tabs:List (Addr × Array Value)) (sp:Sp),(∀(s:Shared) (u:Value),BindsTo s fd ⟨[u],[]⟩ [(x,u)])∧TabsOf q (K w.params) tabs∧(tabs.map (·.1)).Nodup∧PySem.W.noTabs (K w.params)=true ∧
    (∀base:Heap,(K w.params).In base→base.Ns mainGlobals mg→FnOk l.prog w (K w.params) mg base (CX w) k fa fd [x] sp) ∧
    ∀(H:Hp) (a:Addr) (ns:List Int),ns.length≤n→(∀t∈tabs,H t.1=some (.tbl t.2))→SqL (K w.params) H a (ns.map V.int)→sp [.ref a] H (fun v _=>v=.bl true) fun _ _ _=>False)
  (hCX:∀(w:World) (H:Hp) (s:Shared) (e:Value) (s':Shared),CX w [] H s (fun _ _ _=>False) e s'→False) :
  PySem.W.WalkO q loose XP YP l.row.toRowW d [] (fun f vs=>PySem.call f vs):=by
 refine Att.attach_call hn hdf fun w s₀ s₁ mg mb fa o pm cd doc a vs ns G Y ho hd hcd hmg hobj hints hlen hg=>?_
 have KX:=hY w _ Y
 obtain⟨fd,tabs,sp,hb,hT,hnd,hNT,hF,hsp⟩:=F w mg fa _ KX G.T.g hmg
 exact law_callT KX G.T.g G.T.b G.T.builtins G.T.nolimit G.T.bmain hg hobj hints (Nat.le_trans hlen hn2) hr (fun t ht=>by
  obtain⟨x,c,d,h1,h2⟩:=hT t ht
  obtain⟨z1,z2⟩:=PySem.W.tab_of G.T KX h2 h1
  exact⟨z2,(z1.tab z2).isCodeTable⟩) hnd hNT hF hb (fun H hO hS=>hsp H a ns hlen hO hS) fun H e s'=>hCX w H s₁ e s'
end L2
namespace L2
open PySem PySem.Spec PyProof.Rows
def SI(b:Bool)(h:Heap)(j l:Addr)(n:Nat):Prop:=match b with
 |true=>h.IsListIter j l n
 |false=>h.IsTupleIter j l n
def SQ(b:Bool)(h:Heap)(l:Addr)(its:Array Value):Prop:=match b with
 |true=>h.IsList l its
 |false=>h.IsTuple l its
theorem SI.get{b:Bool}{h:Heap}{j l:Addr}{n:Nat}(x:SI b h j l n):∃o vs,h.get? j=some o∧o.data=.fields vs:=by
 cases b with
 |true=>obtain⟨o,e,_,d⟩:=x;exact⟨o,_,e,d⟩
 |false=>obtain⟨o,e,_,d⟩:=x;exact⟨o,_,e,d⟩
theorem SI.up{b:Bool}{h h':Heap}{j l:Addr}{n:Nat}(x:SI b h j l n)(k:∀o,h.get? j=some o→h'.get? j=some o):SI b h' j l n:=by
 cases b with
 |true=>obtain⟨o,e,r⟩:=x;exact⟨o,k o e,r⟩
 |false=>obtain⟨o,e,r⟩:=x;exact⟨o,k o e,r⟩
theorem SQ.up{b:Bool}{h h':Heap}{l:Addr}{its:Array Value}(x:SQ b h l its)(k:∀o,h.get? l=some o→h'.get? l=some o):SQ b h' l its:=by
 cases b with
 |true=>obtain⟨o,e,r⟩:=x;exact⟨o,k o e,r⟩
 |false=>obtain⟨o,e,r⟩:=x;exact⟨o,k o e,r⟩
section
variable{P:Program}{w:World}{A:Around}{E:Value→Shared→Prop}{s:Shared}{b c:Bool}{z TI TO i1 i2 l1 l2 j l:Addr}{n n2:Nat}{its jts:Array Value}{x y p q:Value}
theorem si_item{Q:Value→Shared→Prop}(h1:SI b s.heap j l n)(h2:SQ b s.heap l its)(e:its[n]?=some x)(g:∀h',SI b h' j l (n+1)→Heap.SameBut j s.heap h'→Q x { s with heap:=h' }):wpAny (model P w) A (Builtin.SmallTypes.nextOf (.ref j)) Q E s:=by
 cases b with
 |true=>exact wpAny_nextOf_list_item h1 h2 e g
 |false=>exact nextT_item h1 h2 e g
theorem si_end{Q:Value→Shared→Prop}(hh:A.handled=none)(h1:SI b s.heap j l n)(h2:SQ b s.heap l its)(e:its[n]?=none) (g:∀h' u,Heap.ExtBut j s.heap h'→(∃o,h'.get? u=some o∧o.cls=.type "StopIteration")→E (.ref u) { s with heap:=h' }):wpAny (model P w) A (Builtin.SmallTypes.nextOf (.ref j)) Q E s:=by
 cases b with
 |true=>exact wpAny_nextOf_list_end hh h1 h2 e g
 |false=>exact nextT_end hh h1 h2 e g
theorem zn_item{Q:Value→Shared→Prop}(D:ZipApart z TI TO i1 i2 l1 l2)(Z:IsZip s.heap z TI TO .none)(T1:IsPair s.heap TI (.ref i1) (.ref i2))(T2:IsPair s.heap TO p q)(h1:SI b s.heap i1 l1 n)(h2:SI c s.heap i2 l2 n2)(g1:SQ b s.heap l1 its)(g2:SQ c s.heap l2 jts)(ex:its[n]?=some x)(ey:jts[n2]?=some y)
  (k:∀h',IsZip h' z TI TO (rawInt s.heap.objs.size)→IsPair h' TO x y→SI b h' i1 l1 (n+1)→SI c h' i2 l2 (n2+1)→IsPair h' s.heap.objs.size x y →
   (∀d o,d≠z→d≠TO→d≠i1→d≠i2→s.heap.get? d=some o→h'.get? d=some o)→Q (.ref s.heap.objs.size) { s with heap:=h' }) :
  wpAny (model P w) A (Builtin.«zip.__next__» ⟨[.ref z],[]⟩) (fun fin s'=>∃v,fin=.done (.ret v)∧Q v s') E s:=by
 show wpAny (model P w) A (field (.ref z) 2 >>= _) _ _ s
 refine wpAny_bind (wpAny_field Z rfl (x:=.bool false) rfl ?_);show wpAny (model P w) A (field (.ref z) 3 >>= _) _ _ s
 refine wpAny_bind (wpAny_field Z rfl (x:=.ref TI) rfl (wpAny_bind (wpAny_seqItems T1 rfl ?_)));show wpAny (model P w) A (Builtin.SmallTypes.ownedTupleIsFree (.ref z) >>= _) _ _ s
 refine wpAny_bind ?_;unfold Builtin.SmallTypes.ownedTupleIsFree
 refine wpAny_bind (wpAny_field Z rfl (x:=.none) rfl (wpAny_pure ?_));simp only [if_true]
 refine wpAny_bind (wpAny_rule (wpAny_bind (wpAny_field Z rfl (x:=.ref TO) rfl (wpAny_bind (wpAny_setField_rec Z (by simp) fun a1 Z1 b1=>?_)))))
 replace Z1:IsZip a1 z TI TO .ellipsis:=Z1
 refine wpAny_bind ?_;simp only [List.zipIdx_cons,List.zipIdx_nil,List.forIn_cons,List.forIn_nil]
 refine wpAny_bind (wpAny_bind (wpAny_onRaise ?_));show wpAny (model P w) A (Builtin.SmallTypes.nextOf (.ref i1) >>= _) _ _ _
 refine wpAny_bind (si_item (h1.up fun o e=>b1.extBut _ _ D.i1z e) (g1.up fun o e=>b1.extBut _ _ D.l1z e) ex fun a2 s1 b2=>wpAny_pure ?_)
 have T3:IsPair a2 TO p q:=b2.extBut _ _ D.TOi1 (b1.extBut _ _ D.TOz T2)
 refine wpAny_bind (wpAny_seqItems T3 rfl (wpAny_bind (wpAny_updateSeq_pair T3 fun a3 T4 b3=>?_)))
 replace T4:IsPair a3 TO x q:=T4
 refine wpAny_bind (wpAny_letGo (wpAny_pure (wpAny_bind (wpAny_bind (wpAny_onRaise ?_)))));show wpAny (model P w) A (Builtin.SmallTypes.nextOf (.ref i2) >>= _) _ _ _
 refine wpAny_bind (si_item (h2.up fun o e=>b3.extBut _ _ D.TOi2.symm (b2.extBut _ _ D.i12.symm (b1.extBut _ _ D.i2z e))) (g2.up fun o e=>b3.extBut _ _ D.l2TO (b2.extBut _ _ D.l2i1 (b1.extBut _ _ D.l2z e))) ey fun a4 s2 b4=>wpAny_pure ?_)
 have T5:IsPair a4 TO x q:=b4.extBut _ _ D.TOi2 T4
 refine wpAny_bind (wpAny_seqItems T5 rfl (wpAny_bind (wpAny_updateSeq_pair T5 fun a5 T6 b5=>?_)))
 replace T6:IsPair a5 TO x y:=T6
 refine wpAny_bind (wpAny_letGo (wpAny_pure (wpAny_pure (wpAny_bind (wpAny_seqItems T6 rfl (wpAny_bind (wpAny_newTuple ?_)))))))
 have hz:a5.objs.size=s.heap.objs.size:=b5.1.trans (b4.1.trans (b3.1.trans (b2.1.trans b1.1)))
 have Z5:IsZip a5 z TI TO .ellipsis:=b5.extBut _ _ D.TOz.symm (b4.extBut _ _ D.i2z.symm (b3.extBut _ _ D.TOz.symm (b2.extBut _ _ D.i1z.symm Z1)))
 have k5:∀d o,d≠z→d≠TO→d≠i1→d≠i2→s.heap.get? d=some o→a5.get? d=some o:=fun d o c1 c2 c3 c4 e=>b5.extBut _ _ c2 (b4.extBut _ _ c4 (b3.extBut _ _ c2 (b2.extBut _ _ c3 (b1.extBut _ _ c1 e))))
 have s1':SI b a5 i1 l1 (n+1):=s1.up fun o e=>b5.extBut _ _ D.TOi1.symm (b4.extBut _ _ D.i12 (b3.extBut _ _ D.TOi1.symm e))
 have s2':SI c a5 i2 l2 (n2+1):=s2.up fun o e=>b5.extBut _ _ D.TOi2.symm e
 have zl:z < a5.objs.size:=Heap.lt_size Z5
 show wpAny (model P w) A (Builtin.SmallTypes.ownedTupleHandOut (.ref z) (.ref a5.objs.size) >>= _) _ _ _
 refine wpAny_bind ?_;unfold Builtin.SmallTypes.ownedTupleHandOut
 have Z6:IsZip (a5.push { cls:=.type "tuple",data:=.seq #[x,y] }) z TI TO .ellipsis:=Heap.get?_push_of_some _ Z5
 refine wpAny_bind (wpAny_setField_rec Z6 (by simp) fun a7 Z7 b7=>?_)
 replace Z7:IsZip a7 z TI TO (rawInt a5.objs.size):=Z7
 refine wpAny_setField_rec Z7 (by simp) fun a8 Z8 b8=>?_
 replace Z8:IsZip a8 z TI TO (rawInt a5.objs.size):=Z8
 have up:∀d o,d≠z→a5.get? d=some o→a8.get? d=some o:=fun d o c1 e=>b8.extBut _ _ c1 (b7.extBut _ _ c1 (Heap.get?_push_of_some _ e))
 have T8:IsPair a8 a5.objs.size x y:=b8.extBut _ _ (Nat.ne_of_gt zl) (b7.extBut _ _ (Nat.ne_of_gt zl) (Heap.get?_push_size _ rfl))
 rw [hz] at Z8 T8
 refine wpAny_pure ⟨_,rfl,?_⟩;show Q (.ref a5.objs.size) _
 rw [hz]
 exact k a8 Z8 (up _ _ D.TOz T6) (s1'.up fun o e=>up _ o D.i1z e) (s2'.up fun o e=>up _ o D.i2z e) T8 fun d o c1 c2 c3 c4 e=>up d o c1 (k5 d o c1 c2 c3 c4 e)
theorem zn_end{Q:Fin→Shared→Prop}(hh:A.handled=none)(D:ZipApart z TI TO i1 i2 l1 l2)(Z:IsZip s.heap z TI TO .none)(T1:IsPair s.heap TI (.ref i1) (.ref i2))(T2:IsPair s.heap TO p q)(h1:SI b s.heap i1 l1 n)(h2:SI c s.heap i2 l2 n2)(g1:SQ b s.heap l1 its)(g2:SQ c s.heap l2 jts)(en:its[n]?=none∨jts[n2]?=none)
  (k:∀h' u,(∀d o,d≠z→d≠TO→d≠i1→d≠i2→s.heap.get? d=some o→h'.get? d=some o)→(∃o,h'.get? u=some o∧o.cls=.type "StopIteration")→E (.ref u) { s with heap:=h' }) :
  wpAny (model P w) A (Builtin.«zip.__next__» ⟨[.ref z],[]⟩) Q E s:=by
 show wpAny (model P w) A (field (.ref z) 2 >>= _) _ _ s
 refine wpAny_bind (wpAny_field Z rfl (x:=.bool false) rfl ?_);show wpAny (model P w) A (field (.ref z) 3 >>= _) _ _ s
 refine wpAny_bind (wpAny_field Z rfl (x:=.ref TI) rfl (wpAny_bind (wpAny_seqItems T1 rfl ?_)));show wpAny (model P w) A (Builtin.SmallTypes.ownedTupleIsFree (.ref z) >>= _) _ _ s
 refine wpAny_bind ?_;unfold Builtin.SmallTypes.ownedTupleIsFree
 refine wpAny_bind (wpAny_field Z rfl (x:=.none) rfl (wpAny_pure ?_));simp only [if_true]
 refine wpAny_bind (wpAny_rule (wpAny_bind (wpAny_field Z rfl (x:=.ref TO) rfl (wpAny_bind (wpAny_setField_rec Z (by simp) fun a1 Z1 b1=>?_)))))
 replace Z1:IsZip a1 z TI TO .ellipsis:=Z1
 refine wpAny_bind ?_;simp only [List.zipIdx_cons,List.zipIdx_nil,List.forIn_cons,List.forIn_nil]
 refine wpAny_bind (wpAny_bind (wpAny_onRaise ?_));show wpAny (model P w) A (Builtin.SmallTypes.nextOf (.ref i1) >>= _) _ _ _
 cases ex:its[n]? with
 |none =>
  refine wpAny_bind (si_end hh (h1.up fun o e=>b1.extBut _ _ D.i1z e) (g1.up fun o e=>b1.extBut _ _ D.l1z e) ex fun a2 u b2 he=>?_)
  obtain⟨oe,e1,e2⟩:=he
  have Z2:IsZip a2 z TI TO .ellipsis:=b2 _ _ D.i1z.symm Z1
  have uz:u≠z:=fun t=>by subst t;rw [Z2] at e1;cases e1;simp at e2
  exact wpAny_setField_rec Z2 (by simp) fun a3 _ b3=>k a3 u (fun d o c1 _ c3 _ t=>b3.extBut _ _ c1 (b2 _ _ c3 (b1.extBut _ _ c1 t))) ⟨oe,b3.extBut _ _ uz e1,e2⟩
 |some x =>
  have ey:jts[n2]?=none:=by rcases en with t|t;rw [ex] at t;cases t;exact t
  refine wpAny_bind (si_item (h1.up fun o e=>b1.extBut _ _ D.i1z e) (g1.up fun o e=>b1.extBut _ _ D.l1z e) ex fun a2 s1 b2=>wpAny_pure ?_)
  have T3:IsPair a2 TO p q:=b2.extBut _ _ D.TOi1 (b1.extBut _ _ D.TOz T2)
  refine wpAny_bind (wpAny_seqItems T3 rfl (wpAny_bind (wpAny_updateSeq_pair T3 fun a3 T4 b3=>?_)))
  refine wpAny_bind (wpAny_letGo (wpAny_pure (wpAny_bind (wpAny_bind (wpAny_onRaise ?_)))));show wpAny (model P w) A (Builtin.SmallTypes.nextOf (.ref i2) >>= _) _ _ _
  refine wpAny_bind (si_end hh (h2.up fun o e=>b3.extBut _ _ D.TOi2.symm (b2.extBut _ _ D.i12.symm (b1.extBut _ _ D.i2z e))) (g2.up fun o e=>b3.extBut _ _ D.l2TO (b2.extBut _ _ D.l2i1 (b1.extBut _ _ D.l2z e))) ey fun a4 u b4 he=>?_)
  obtain⟨oe,e1,e2⟩:=he
  have Z4:IsZip a4 z TI TO .ellipsis:=b4 _ _ D.i2z.symm (b3.extBut _ _ D.TOz.symm (b2.extBut _ _ D.i1z.symm Z1))
  have uz:u≠z:=fun t=>by subst t;rw [Z4] at e1;cases e1;simp at e2
  exact wpAny_setField_rec Z4 (by simp) fun a5 _ b5=>k a5 u (fun d o c1 c2 c3 c4 t=>b5.extBut _ _ c1 (b4 _ _ c4 (b3.extBut _ _ c2 (b2.extBut _ _ c3 (b1.extBut _ _ c1 t))))) ⟨oe,b5.extBut _ _ uz e1,e2⟩
end
section
variable{P:Program}{w:World}{A:Around}{E:Value→Shared→Prop}{s:Shared}{b c:Bool}{z TI TO i1 i2 l1 l2:Addr}{n:Nat}{its jts:Array Value}{x y p q:Value}
theorem zn_next{Q:Option Value→Shared→Prop}(D:ZipApart z TI TO i1 i2 l1 l2)(Z:IsZip s.heap z TI TO .none)(T1:IsPair s.heap TI (.ref i1) (.ref i2))(T2:IsPair s.heap TO p q)(h1:SI b s.heap i1 l1 n)(h2:SI c s.heap i2 l2 n)(g1:SQ b s.heap l1 its)(g2:SQ c s.heap l2 jts)(ex:its[n]?=some x)(ey:jts[n]?=some y)
  (k:∀h',IsZip h' z TI TO (rawInt s.heap.objs.size)→IsPair h' TO x y→SI b h' i1 l1 (n+1)→SI c h' i2 l2 (n+1)→IsPair h' s.heap.objs.size x y →
   (∀d o,d≠z→d≠TO→d≠i1→d≠i2→s.heap.get? d=some o→h'.get? d=some o)→Q (some (.ref s.heap.objs.size)) { s with heap:=h' }):wpAny (model P w) A (pyNext (.ref z)) Q E s:=by
 have hT:s.TypeIs (.ref z) "zip":=⟨_,Z,rfl⟩
 unfold pyNext
 exact wpAny_bind (wpAny_attempt (wpAny_callSpecial?_slot (name:=Str.ofString "__next__") hT F.slot_zip_next (wpAny_call_entry F.slot_zip_next hT F.entry_zip_next (zn_item D Z T1 T2 h1 h2 g1 g2 ex ey fun h' a1 a2 a3 a4 a5 a6=>wpAny_pure (k h' a1 a2 a3 a4 a5 a6)) (F.args_zip_next_1 _))))
theorem zn_stop{Q:Option Value→Shared→Prop}(hh:A.handled=none)(D:ZipApart z TI TO i1 i2 l1 l2)(Z:IsZip s.heap z TI TO .none)(T1:IsPair s.heap TI (.ref i1) (.ref i2))(T2:IsPair s.heap TO p q)(h1:SI b s.heap i1 l1 n)(h2:SI c s.heap i2 l2 n)(g1:SQ b s.heap l1 its)(g2:SQ c s.heap l2 jts)(en:its[n]?=none∨jts[n]?=none)
  (k:∀h',(∀d o,d≠z→d≠TO→d≠i1→d≠i2→s.heap.get? d=some o→h'.get? d=some o)→Q none { s with heap:=h' }):wpAny (model P w) A (pyNext (.ref z)) Q E s:=by
 have hT:s.TypeIs (.ref z) "zip":=⟨_,Z,rfl⟩
 unfold pyNext
 refine wpAny_bind (wpAny_attempt (wpAny_callSpecial?_slot (name:=Str.ofString "__next__") hT F.slot_zip_next (wpAny_call_entry F.slot_zip_next hT F.entry_zip_next (zn_end hh D Z T1 T2 h1 h2 g1 g2 en fun h' u hk he=>?_) (F.args_zip_next_1 _))))
 obtain⟨o,ho,hc⟩:=he
 exact wpAny_bind (wpAny_isInstance (T:="StopIteration") (b:=true) ⟨o,ho,hc⟩ isSubtype_stop (wpAny_pure (k _ hk)))
end
def iob(b:Bool)(l:Addr):Obj:={ cls:=.type (match b with|true=>"list_iterator"|false=>"tuple_iterator"),data:=.fields #[.ref l,.int 0 0] }
def zh2(b c:Bool)(h:Heap)(l1 l2:Addr):Heap:=(h.push (iob b l1)).push (iob c l2)
def zh4(b c:Bool)(h:Heap)(l1 l2:Addr):Heap:=((zh2 b c h l1 l2).push { cls:=.type "tuple",data:=.seq #[.ref h.objs.size,.ref (h.push (iob b l1)).objs.size] }).push { cls:=.type "tuple",data:=.seq #[.none,.none] }
def zh5(b c:Bool)(h:Heap)(l1 l2:Addr):Heap:=(zh4 b c h l1 l2).push { cls:=.type "zip",data:=.fields #[.none,.bool false,.bool false,.ref (zh2 b c h l1 l2).objs.size,.ref ((zh2 b c h l1 l2).push { cls:=.type "tuple",data:=.seq #[.ref h.objs.size,.ref (h.push (iob b l1)).objs.size] }).objs.size] }
theorem si_iter{P:Program}{w:World}{A:Around}{E:Value→Shared→Prop}{s:Shared}{b:Bool}{l:Addr}{its:Array Value}{Q:Value→Shared→Prop}(h:SQ b s.heap l its)(k:Q (.ref s.heap.objs.size) { s with heap:=s.heap.push (iob b l) }):wpAny (model P w) A (pyIter (.ref l)) Q E s:=by
 cases b with
 |true=>exact wpAny_pyIter_list h k
 |false=>exact wpAny_pyIter_tuple h k
set_option maxHeartbeats 4000000 in
theorem zn_new(b c:Bool)(l1 l2:Addr)(its jts:Array Value):Meets (Builtin.«zip.__new__» ⟨[.type "zip",.ref l1,.ref l2],[]⟩) (fun _ R s=>SQ b s.heap l1 its∧SQ c s.heap l2 jts∧R (.ok (.ret (.ref (zh4 b c s.heap l1 l2).objs.size))) { s with heap:=zh5 b c s.heap l1 l2 }) :=
 .of_wp fun P w A R s h=>by
  obtain⟨hp,g,d,tk,os⟩:=s
  obtain⟨h1,h2,h⟩:=h
  have hsub:=sub_zip
  have k1:SQ b (Shared.heap ⟨hp,g,d,tk,os⟩) l1 its:=h1
  have k2:SQ c (Shared.heap ⟨hp.push (iob b l1),g,d,tk,os⟩) l2 jts:=h2.up fun o e=>Heap.get?_push_of_some _ e
  wp_walk using si_iter k1,si_iter k2
  exact⟨_,rfl,h⟩
theorem iob_si(b:Bool){h:Heap}{j l:Addr}(e:h.get? j=some (iob b l)):SI b h j l 0:=by
 cases b with
 |true=>exact⟨_,e,rfl,rfl⟩
 |false=>exact⟨_,e,rfl,rfl⟩
theorem call_zip{P:Program}{w:World}{A:Around}{E:Value→Shared→Prop}{s:Shared}{b c:Bool}{l1 l2:Addr}{its jts:Array Value}{Q:Value→Shared→Prop}(g1:SQ b s.heap l1 its)(g2:SQ c s.heap l2 jts)
  (k:∀h',IsZip h' (s.heap.objs.size+4) (s.heap.objs.size+2) (s.heap.objs.size+3) .none→IsPair h' (s.heap.objs.size+2) (.ref s.heap.objs.size) (.ref (s.heap.objs.size+1))→IsPair h' (s.heap.objs.size+3) .none .none →
   SI b h' s.heap.objs.size l1 0→SI c h' (s.heap.objs.size+1) l2 0→(∀d o,s.heap.get? d=some o→h'.get? d=some o)→Q (.ref (s.heap.objs.size+4)) { s with heap:=h' }) :
  wpAny (model P w) A (call (.type "zip") [.ref l1,.ref l2]) Q E s:=by
 refine callType_new F.called_zip (by decide) (F.typeCall_zip_2 _ _) (F.newCall_zip_2 _ _) (fun o=>F.args_object_init_3 o _ _) F.entry_zip_new (zn_new b c l1 l2 its jts) ⟨g1,g2,?_⟩
 have z1:(s.heap.push (iob b l1)).objs.size=s.heap.objs.size+1:=Heap.size_push ..
 have z2:(zh2 b c s.heap l1 l2).objs.size=s.heap.objs.size+2:=by unfold zh2;rw [Heap.size_push,z1]
 have z3:((zh2 b c s.heap l1 l2).push { cls:=.type "tuple",data:=.seq #[.ref s.heap.objs.size,.ref (s.heap.push (iob b l1)).objs.size] }).objs.size=s.heap.objs.size+3:=by rw [Heap.size_push,z2]
 have z4:(zh4 b c s.heap l1 l2).objs.size=s.heap.objs.size+4:=by unfold zh4;rw [Heap.size_push,z3]
 have u5:∀d o,(zh4 b c s.heap l1 l2).get? d=some o→(zh5 b c s.heap l1 l2).get? d=some o:=fun d o e=>by unfold zh5;exact Heap.get?_push_of_some _ e
 have u3:∀d o,(zh2 b c s.heap l1 l2).get? d=some o→(zh4 b c s.heap l1 l2).get? d=some o:=fun d o e=>by unfold zh4;exact Heap.get?_push_of_some _ (Heap.get?_push_of_some _ e)
 have e5:(zh5 b c s.heap l1 l2).get? (zh4 b c s.heap l1 l2).objs.size=some { cls:=.type "zip",data:=.fields #[.none,.bool false,.bool false,.ref (zh2 b c s.heap l1 l2).objs.size,.ref ((zh2 b c s.heap l1 l2).push { cls:=.type "tuple",data:=.seq #[.ref s.heap.objs.size,.ref (s.heap.push (iob b l1)).objs.size] }).objs.size] }:=by unfold zh5;exact Heap.get?_push_size _ rfl
 have e4:(zh5 b c s.heap l1 l2).get? ((zh2 b c s.heap l1 l2).push { cls:=.type "tuple",data:=.seq #[.ref s.heap.objs.size,.ref (s.heap.push (iob b l1)).objs.size] }).objs.size=some { cls:=.type "tuple",data:=.seq #[.none,.none] }:=u5 _ _ (by unfold zh4;exact Heap.get?_push_size _ rfl)
 have e3:(zh5 b c s.heap l1 l2).get? (zh2 b c s.heap l1 l2).objs.size=some { cls:=.type "tuple",data:=.seq #[.ref s.heap.objs.size,.ref (s.heap.push (iob b l1)).objs.size] }:=u5 _ _ (by unfold zh4;exact Heap.get?_push_of_some _ (Heap.get?_push_size _ rfl))
 have e2:(zh5 b c s.heap l1 l2).get? (s.heap.push (iob b l1)).objs.size=some (iob c l2):=u5 _ _ (u3 _ _ (by unfold zh2;exact Heap.get?_push_size _ rfl))
 have e1:(zh5 b c s.heap l1 l2).get? s.heap.objs.size=some (iob b l1):=u5 _ _ (u3 _ _ (by unfold zh2;exact Heap.get?_push_of_some _ (Heap.get?_push_size _ rfl)))
 rw [z2,z3,z4] at e5
 rw [z1,z2] at e3
 rw [z3] at e4
 rw [z1] at e2
 show _∧_
 rw [z4]
 exact⟨⟨_,e5,rfl⟩,k _ e5 e3 e4 (iob_si b e1) (iob_si c e2) fun d o e=>u5 _ _ (u3 _ _ (by unfold zh2;exact Heap.get?_push_of_some _ (Heap.get?_push_of_some _ e)))⟩
def sho(b:Bool)(xs:List V):HO:=match b with
 |true=>.lst xs
 |false=>.tup xs
theorem sho_inj{b:Bool}{xs ys:List V}(h:sho b xs=sho b ys):xs=ys:=by
 cases b<;>(cases h;rfl)
theorem Inv.sho{X:Cx}{pins:List (Addr × Obj)}{σ:St}{H:Hp}{s:Shared}{b:Bool}{l:Addr}{xs:List V}(I:Inv X pins σ H s)(h:H l=some (L2.sho b xs)):∃its:List Value,Vals xs its∧SQ b s.heap l its.toArray:=by
 cases b with
 |true=>obtain⟨its,r,p,_⟩:=I.list (SqL.of h);exact⟨its,r,p.isList⟩
 |false=>obtain⟨its,r,p,_⟩:=I.tuple (SqT.of h);exact⟨its,r,(show s.heap.IsTuple l its.toArray from p)⟩
def Itq(b c:Bool)(l1 l2:Addr):It :=
  ⟨fun i H=>∃xs ys x y,H l1=some (sho b xs)∧H l2=some (sho c ys)∧xs[i]?=some x∧ys[i]?=some y,
   fun i H v H'=>∃p x y,H p=none∧v=.ref p∧H'=upd H p (.tup [x,y])∧(∀xs,H l1=some (sho b xs)→xs[i]?=some x)∧∀ys,H l2=some (sho c ys)→ys[i]?=some y,
   fun i H=>∃xs ys,H l1=some (sho b xs)∧H l2=some (sho c ys)∧(xs.length≤i∨ys.length≤i)⟩
theorem turn_zipQ{P:Program}{w:World}{K:PySem.W.Frag}{es:List Expr}{k:Nat}{pos:Pos}(b c:Bool)(l1 l2 z TI TO i1 i2:Addr)(D:ZipFp z TI TO i1 i2) :
  Turn P w K (.Tuple es k pos) (Itq b c l1 l2) [z,TI,TO,i1,i2] z (fun i h=>IsZip h z TI TO .none∧IsPair h TI (.ref i1) (.ref i2)∧(∃u v,IsPair h TO u v)∧SI b h i1 l1 i∧SI c h i2 l2 i) where
 mem:=by simp
 obj:=fun i h st d hd=>by
  obtain⟨Z,T1,⟨u,v,T2⟩,h1,h2⟩:=st
  obtain⟨o1,v1,e1,d1⟩:=h1.get
  obtain⟨o2,v2,e2,d2⟩:=h2.get
  simp only [List.mem_cons,List.not_mem_nil,or_false] at hd
  rcases hd with rfl|rfl|rfl|rfl|rfl
  ·exact⟨_,Z,fun v z=>by cases z⟩
  ·exact⟨_,T1,fun v z=>by cases z⟩
  ·exact⟨_,T2,fun v z=>by cases z⟩
  ·exact⟨o1,e1,fun v z=>by rw [d1] at z;cases z⟩
  ·exact⟨o2,e2,fun v z=>by rw [d2] at z;cases z⟩
 keep:=fun i h h' st k=>by
  obtain⟨Z,T1,⟨u,v,T2⟩,h1,h2⟩:=st
  exact⟨k z (by simp) _ Z,k TI (by simp) _ T1,⟨u,v,k TO (by simp) _ T2⟩,h1.up fun o e=>k i1 (by simp) o e,h2.up fun o e=>k i2 (by simp) o e⟩
 item:=by
  intro X hP hw hK hc i pins s σ H E I hf st hg
  subst hP hw hK
  obtain⟨Z,T1,⟨a,a',T2⟩,h1,h2⟩:=st
  obtain⟨xs,ys,x,y,q1,q2,hx,hy⟩:=hg
  obtain⟨its,rv,p1⟩:=I.sho q1
  obtain⟨jts,rw',p2⟩:=I.sho q2
  obtain⟨u,hu,ru⟩:=rv.get hx
  obtain⟨v,hv,rv2⟩:=rw'.get hy
  have ne:∀d∈[z,TI,TO,i1,i2],l1≠d∧l2≠d:=fun d hd=>⟨fun t=>(by rw [t,(hf d hd).1] at q1;cases q1),fun t=>(by rw [t,(hf d hd).1] at q2;cases q2)⟩
  have lt:∀d∈[z,TI,TO,i1,i2],d < s.heap.objs.size:=fun d hd=>by
   obtain⟨o1,_,e1,_⟩:=h1.get
   obtain⟨o2,_,e2,_⟩:=h2.get
   simp only [List.mem_cons,List.not_mem_nil,or_false] at hd
   rcases hd with rfl|rfl|rfl|rfl|rfl
   ·exact Heap.lt_size Z
   ·exact Heap.lt_size T1
   ·exact Heap.lt_size T2
   ·exact Heap.lt_size e1
   ·exact Heap.lt_size e2
  have DD:ZipApart z TI TO i1 i2 l1 l2:=⟨D.TIz,D.TOz,D.i1z,D.i2z,D.TITO,D.TIi1,D.TIi2,D.TOi1,D.TOi2,D.i12,(ne z (by simp)).1,(ne TO (by simp)).1,(ne i1 (by simp)).1,(ne i2 (by simp)).1,(ne z (by simp)).2,(ne TO (by simp)).2,(ne i1 (by simp)).2,(ne i2 (by simp)).2⟩
  refine zn_next DD Z T1 T2 h1 h2 p1 p2 (x:=u) (y:=v) (by simpa using hu) (by simpa using hv) fun h3 z3 o3 j1 j2 t3 k3=>⟨_,rfl,wpAny_letOwnedTupleGo_zip z3 fun h4 z4 b4=>?_⟩
  have t4:h4.get? s.heap.objs.size=some { cls:=.type "tuple",data:=.seq #[u,v] }:=(b4.2 _ (Nat.ne_of_gt (lt z (by simp)))).trans t3
  have hn:H s.heap.objs.size=none:=I.hok.fresh (Nat.le_refl _)
  have I4:Inv X pins σ (upd H s.heap.objs.size (.tup [x,y])) { s with heap:=h4,toks:=s.toks }:=I.turnedL (fp:=[z,TI,TO,i1,i2]) (fun d ob hd t=>by
    simp only [List.mem_cons,List.not_mem_nil,or_false,not_or] at hd
    exact(b4.2 d hd.1).trans (k3 d ob hd.1 hd.2.2.1 hd.2.2.2.1 hd.2.2.2.2 t)) hf (Nat.le_refl _) ⟨by show 2≤sizeLine;decide,[u,v],.cons ru (.cons rv2 .nil),_,t4,rfl,_,rfl⟩
  refine⟨.ref s.heap.objs.size,_,I4,rfl,⟨_,x,y,hn,rfl,rfl,fun xs' h'=>by rw [q1] at h';rw [←sho_inj (Option.some.inj h')];exact hx,fun ys' h'=>by rw [q2] at h';rw [←sho_inj (Option.some.inj h')];exact hy⟩,
   ⟨z4,(b4.2 TI D.TIz).trans (k3 TI _ D.TIz D.TITO D.TIi1 D.TIi2 T1),⟨u,v,(b4.2 TO D.TOz).trans o3⟩,j1.up fun o e=>(b4.2 i1 D.i1z).trans e,j2.up fun o e=>(b4.2 i2 D.i2z).trans e⟩,fun d hd=>?_⟩
  rw [upd_ne (Nat.ne_of_lt (lt d hd))]
  exact(hf d hd).1
 done:=by
  intro X hP hw hK hc i pins s σ H E I hf st hg
  subst hP hw hK
  obtain⟨Z,T1,⟨a,a',T2⟩,h1,h2⟩:=st
  obtain⟨xs,ys,q1,q2,hl⟩:=hg
  obtain⟨its,rv,p1⟩:=I.sho q1
  obtain⟨jts,rw',p2⟩:=I.sho q2
  have e1:=rv.length
  have e2:=rw'.length
  have ne:∀d∈[z,TI,TO,i1,i2],l1≠d∧l2≠d:=fun d hd=>⟨fun t=>(by rw [t,(hf d hd).1] at q1;cases q1),fun t=>(by rw [t,(hf d hd).1] at q2;cases q2)⟩
  have DD:ZipApart z TI TO i1 i2 l1 l2:=⟨D.TIz,D.TOz,D.i1z,D.i2z,D.TITO,D.TIi1,D.TIi2,D.TOi1,D.TOi2,D.i12,(ne z (by simp)).1,(ne TO (by simp)).1,(ne i1 (by simp)).1,(ne i2 (by simp)).1,(ne z (by simp)).2,(ne TO (by simp)).2,(ne i1 (by simp)).2,(ne i2 (by simp)).2⟩
  refine zn_stop (I.ok.hd hc) DD Z T1 T2 h1 h2 p1 p2 ?_ fun h' k'=>⟨rfl,I.turnedR (t':=s.toks) (fp:=[z,TI,TO,i1,i2]) (fun d ob hd t=>by
    simp only [List.mem_cons,List.not_mem_nil,or_false,not_or] at hd
    exact k' d ob hd.1 hd.2.2.1 hd.2.2.2.1 hd.2.2.2.2 t) hf⟩
  rcases hl with hl|hl
  ·exact .inl (by simp;omega)
  ·exact .inr (by simp;omega)
 self:=fun _ _ _ _ _ st h=>wpAny_pyIter_zip st.1 h
section
variable{X:Cx}{es:List Expr}{k:Nat}{ps:Pos}
def iZipQ(b c:Bool)(ta:TA):TI:=fun σ H R=>ta σ H fun vs H1=>∃l1 l2 xs ys,vs=[.ref l1,.ref l2]∧H1 l1=some (sho b xs)∧H1 l2=some (sho c ys)∧R (Itq b c l1 l2) H1
theorem pi_zipQ(b c:Bool){l m:Expr}{ta:TA}{p pos:Pos} (hg:Gl X "zip") (hm:X.mg "zip"=none) (ha:PA X [l,m] ta) (hs:starEach [l,m] X.env=(false,eval l X.env)::starEach [m] X.env:=by rfl) (hpl:(backTo pos (starEach [m] X.env)).any (·.1)=false:=by rfl) :
  PI X (.Tuple es k ps) (.Call (.Name "zip" p) [l,m] [] pos) (iZipQ b c ta):=by
 intro pins s σ H R I h
 refine Call_ (ld_blt I hg hm bootZip (PyProof.Rows.callWith_type1 (thn (ha pos pins s σ H _ I h) fun us s1 ⟨vs,H1,I1,r1,q1⟩=>?_) hs hpl))
 obtain⟨l1,l2,xs,ys,e,q1,q2,q⟩:=q1
 subst e
 cases r1 with
 |cons ra rb =>
  cases rb with
  |cons rb rc =>
   cases rc
   cases ra
   cases rb
   obtain⟨its,rv,p1⟩:=I1.sho q1
   obtain⟨jts,rw',p2⟩:=I1.sho q2
   refine call_zip p1 p2 fun h' Z T1 T2 h1 h2 kk=>?_
   have n:∀a b:Nat,a≠b→s1.heap.objs.size+a≠s1.heap.objs.size+b:=fun a b h e=>h (Nat.add_left_cancel e)
   refine wpAny_pyIter_zip (s:={ s1 with heap:=h' }) Z ⟨s1.heap.objs.size+4,[s1.heap.objs.size+4,s1.heap.objs.size+2,s1.heap.objs.size+3,s1.heap.objs.size,s1.heap.objs.size+1],_,_,H1,rfl,I1.kept (t':=s1.toks) kk,
    turn_zipQ b c l1 l2 _ _ _ _ _ ⟨n 2 4 (by decide),n 3 4 (by decide),n 0 4 (by decide),n 1 4 (by decide),n 2 3 (by decide),n 2 0 (by decide),n 2 1 (by decide),n 3 0 (by decide),n 3 1 (by decide),n 0 1 (by decide)⟩,⟨Z,T1,⟨_,_,T2⟩,h1,h2⟩,fun d hd=>?_,q⟩
   have hd':s1.heap.objs.size≤d:=by
    simp only [List.mem_cons,List.not_mem_nil,or_false] at hd
    rcases hd with rfl|rfl|rfl|rfl|rfl<;>first|exact Nat.le_add_right _ _|exact Nat.le_refl _
   exact I1.fpOk hd' (I1.hok.fresh hd')
end
theorem comp_zipQ{b c:Bool}{l1 l2:Addr}{xs ys:List V}{n:Nat}{κ:List Nat}{g:TG}{tc:TT}{te:TE}{σ:St}{H:Hp}{Q:VK}(Pv:Nat→List V→Hp→Prop)(h0:Pv 0 [] H)(hz:xs.length≤sizeLine)(hxy:xs.length=ys.length)(hlen:∀i zs H2,Pv i zs H2→zs.length≤i)
  (hl:∀i zs H2,Pv i zs H2→H2 l1=some (sho b xs)∧H2 l2=some (sho c ys))
  (hs:∀i x y p zs H2 (N:List V→Hp→Prop),(∀zs' H',Pv (i+1) zs' H'→N zs' H')→xs[i]?=some x→ys[i]?=some y→H2 p=none→Pv i zs H2→g (.ref p) (blkSt n κ σ) (upd H2 p (.tup [x,y])) fun σ4 H4=>σ4.drop n=(blkSt n κ σ).drop n∧tc σ4 H4 fun t H5=>if t=true then te σ4 H5 fun v H6=>N (zs++[v]) H6 else N zs H5)
  (hQ:∀zs H2 D,Pv xs.length zs H2→H2 D=none→Q (.ref D) (upd H2 D (.lst zs))):CompRun n κ g tc te σ (Itq b c l1 l2) H Q:=by
 refine⟨fun i m zs H2=>m=xs.length - i∧i≤xs.length∧Pv i zs H2,⟨xs.length,rfl,Nat.zero_le _,h0⟩,?_⟩
 rintro i m zs H2 ⟨rfl,hi,p⟩
 obtain⟨q1,q2⟩:=hl i zs H2 p
 by_cases hlt:i < xs.length
 ·have ex:xs[i]?=some xs[i]:=List.getElem?_eq_getElem hlt
  have ey:ys[i]?=some (ys[i]'(by omega)):=List.getElem?_eq_getElem (by omega)
  refine .inr ⟨⟨xs,ys,_,_,q1,q2,ex,ey⟩,Nat.lt_of_le_of_lt (hlen i zs H2 p) (Nat.lt_of_lt_of_le hlt hz),fun x H3 y=>?_⟩
  obtain⟨a,u,v,ha,rfl,rfl,k1,k2⟩:=y
  exact hs i u v a zs _ (fun zs' H'=>∃m',m' < xs.length - i∧m'=xs.length - (i+1)∧i+1≤xs.length∧Pv (i+1) zs' H') (fun zs' H' p'=>⟨xs.length - (i+1),by omega,rfl,hlt,p'⟩) (k1 xs q1) (k2 ys q2) ha p
 ·obtain rfl:i=xs.length:=by omega
  exact .inl ⟨⟨xs,ys,q1,q2,.inl (Nat.le_refl _)⟩,fun D hD=>hQ zs H2 D p hD⟩
end L2
namespace L2
open PySem PySem.Spec PyProof.Rows
def gLst(K:PySem.W.Frag)(n:Nat)(t:TGs):TG:=fun v σ H Q=>∃a xs,v=.ref a∧SqL K H a xs∧xs.length=n∧t xs σ H Q
theorem pg_lst{X:Cx}{pos:Pos}{es:List Expr}{k:Nat}{t:TGs}{n:Nat}(hc:X.calm=true)(h:PGs X es t)
  (hn:(assignEach es X.env).length=n:=by rfl) (hst:(assignEach es X.env).findIdx? (·.1)=none:=by rfl):PG X (.Tuple es k pos) (gLst X.K n t):=by
 intro pins s σ H v u Q I r hw
 obtain⟨a,xs,e1,hq,hl,hw⟩:=hw
 subst e1
 cases r
 obtain⟨its,rv,ht,hz⟩:=I.list hq
 rw [assign_Tuple]
 refine wpAny_bind (wpAny_standAt ?_)
 unfold unpack
 have hs:(assignEach es X.env).length=its.toArray.size:=by rw [hn,←hl,rv.length,List.size_toArray]
 rw [hs,hst]
 refine wpAny_bind (wpAny_holding (PySem.W.kun_itemsOf (I.ok.hd hc) ht.isList fun h' hx=>?_))
 exact h pins _ σ H xs _ Q (I.kept (t':=s.toks) fun b o e=>hx b o (Nat.ne_of_lt (Heap.lt_size e)) e) (by simpa using rv) hw
end L2
namespace L2
open PySem PySem.Spec PyProof.Rows
def plainE:V→Bool
 |.ref _=>true
 |.int _=>true
 |.str _=>true
 |_=>false
def rSameE(neg:Bool):R2:=fun x y H Q=>∃a b kvs,x=.ref a∧y=.ref b∧H a=some (.dK kvs)∧H b=some (.dK kvs)∧(∀p∈kvs,plainE p.2=true)∧Q (.bl (!neg)) H
theorem eqAt_rel{A:Around}{s:Shared}{v:V}{a b:Value}(h:plainE v=true)(ha:RelV v a)(hb:RelV v b):SeqAt.EqAt A s a b true:=by
 cases v with
 |ref c=>cases ha;cases hb;exact SeqAt.EqAt.same _
 |int i =>
  obtain⟨t,rfl⟩:=ha
  obtain⟨u,rfl⟩:=hb
  have:=SeqAt.EqAt.int_int (A:=A) (s:=s) i t i u
  rw [beq_self_eq_true] at this
  exact this
 |str i =>
  obtain⟨t,rfl⟩:=ha
  obtain⟨u,rfl⟩:=hb
  have:=SeqAt.EqAt.str_str (A:=A) (s:=s) i t i u
  rw [beq_self_eq_true] at this
  exact this
 |_=>cases h
theorem keqE{A:Around}{s:Shared}{kvs:List (Key × V)}{us:List (Key × Value)}(r1:KV kvs us)(hr:∀p∈kvs,plainE p.2=true)(hn:(kvs.map (·.1)).Nodup):∀{l:List (Key × V)} {m:List (Key × Value)},KV l m→(∀p∈l,p∈kvs)→PySem.W.KeqHits A s us m true:=by
 intro l m p
 unfold KV at p
 induction p with
 |nil=>intro _;exact .nil
 |@cons a b as bs h t ih =>
  intro hm
  have ha:=hm a List.mem_cons_self
  have hx:=r1.val a.1
  rw [valV_nodup hn a ha] at hx
  obtain⟨b1,b2⟩:=b
  obtain⟨f1,f2⟩:=h
  have f1':a.1=b1:=f1
  rw [f1'] at hx
  obtain⟨y,hy,ry⟩:=RelO.some_of (v:=a.2) (o:=valueAt us b1) hx
  exact PySem.W.KeqHits.hit (e:=true) (b:=true) hy (eqAt_rel (hr a ha) f2 ry) (ih fun p hp=>hm p (List.mem_cons_of_mem _ hp))
section
variable{X:Cx}
theorem op_eqE(hu:X.A.units+1 < cLine):OpR X (compareOp .Eq) (rSameE false):=by
 intro pins s σ H x y v u Q I rx ry h
 obtain⟨a,b,kvs,rfl,rfl,ha,hb,hr,q⟩:=h
 cases rx
 cases ry
 obtain⟨za,ka,va,ra,da⟩:=dk_of I.hok ha
 obtain⟨zb,kb,vb,rb,db⟩:=dk_of I.hok hb
 refine PySem.W.keq_eq ka kb da db (by omega) (fun _=>keqE (kvs:=kvs) rb hr (dK_nodup I ha) ra fun p hp=>hp) ?_
 rw [←ra.length,←rb.length,beq_self_eq_true]
 exact⟨.bl _,H,I,rfl,q⟩
end
end L2
namespace L2
open PySem PySem.Spec PyProof.Rows
section
variable{P:Program}{w:World}{A:Around}{E:Value→Shared→Prop}{s:Shared}{b c:Bool}{z TI TO i1 i2 l1 l2 j l:Addr}{n:Nat}{its jts:Array Value}{x y p q:Value}
end
section
variable{X:Cx}{pins:List (Addr × Obj)}{σ:St}
end
section
variable{X:Cx}{l m:Expr}{ta:TA}{p p2 pos pos2:Pos}
end
end L2
namespace L2
open PySem PySem.Spec PyProof.Rows
end L2
namespace L2
open PySem PySem.Spec PyProof.Rows
end L2
namespace K72
open PySem L2
def top(i:Nat):Stmt:=PySem.Challenge.pw_sealhouse_k72_whole_expressions_run.main.body.getD i (.Pass ⟨0,0,0,0⟩)
abbrev sWithin:Stmt:=top 5
abbrev sValue:Stmt:=top 7
abbrev sVar:Stmt:=top 8
abbrev sForm:Stmt:=top 9
abbrev sReck:Stmt:=top 10
abbrev sComp:Stmt:=top 11
abbrev sDraw:Stmt:=top 13
abbrev sWhole:Stmt:=top 14
abbrev sAlike:Stmt:=top 15
abbrev sBegun:Stmt:=top 16
abbrev sSome:Stmt:=top 17
abbrev sWorth:Stmt:=top 18
abbrev sLit:Stmt:=top 19
abbrev sNum:Stmt:=top 20
abbrev sHalved:Stmt:=top 21
abbrev sOwn:Stmt:=top 22
abbrev sMade:Stmt:=top 23
abbrev sFlat:Stmt:=top 24
abbrev sAns:Stmt:=top 25
abbrev sNoted:Stmt:=top 26
abbrev sReckL:Stmt:=top 27
abbrev sValL:Stmt:=top 28
abbrev sLaw:Stmt:=top 29
theorem same_new{H:Hp}{p:Addr}(h:H p=none)(o:HO):Same H (upd H p o):=fun b u q=>by rw [upd_ne (ne_of_none q h)];exact q
theorem sput{H H2:Hp}{a:Addr}{o:HO}(e:Same H H2)(h:H a=none):Same H (upd H2 a o):=fun b u q=>by rw [upd_ne (ne_of_none q h)];exact e b u q
abbrev letters:Str:=Str.ofString "abcdefghijklmnopqrstuvwxyz"
def lt(i:Int):Nat:=letters.cps.toList.getD (i%26).toNat 0
theorem l26:letters.cps.toList.length=26:=by decide +kernel
theorem get_at{α:Type}{xs:List α}{i:Int}{d:α}(h0:0≤i)(h1:i < xs.length):atI xs i=some (xs.getD i.toNat d):=by
 have hk:i.toNat < xs.length:=by omega
 have e:i=((i.toNat:Nat):Int):=by omega
 have q:atI xs ((i.toNat:Nat):Int)=some (xs.getD i.toNat d):=atI_nat (by rw [List.getD_eq_getElem?_getD,List.getElem?_eq_getElem hk]<;>rfl)
 rw [←e] at q
 exact q
theorem lt_small:∀a < 26,letters.cps.toList.getD a 0 < 0x110000:=by decide +kernel
def sign(i:Int):Str:=⟨#[lt i]⟩
theorem bootInt:bootBuiltins "int"=some (.type "int"):=by decide +kernel
end K72
namespace K72
open PySem L2
inductive Vl where
 |num (n:Int)
 |pr (a b:Vl)
inductive VAt (H:Hp):V→Vl→Prop
 |num {n:Int}:VAt H (.int n) (.num n)
 |pr {p:Addr} {x y:V} {a b:Vl}:H p=some (.tup [x,y])→VAt H x a→VAt H y b→VAt H (.ref p) (.pr a b)
theorem VAt.same{H H':Hp}{x:V}{v:Vl}(h:VAt H x v)(s:Same H H'):VAt H' x v:=by
 induction h with
 |num=>exact .num
 |pr hp _ _ i1 i2=>exact .pr (s _ _ hp) i1 i2
abbrev VsAt(H:Hp):List V→List Vl→Prop:=Paired (VAt H)
theorem VsAt.same{H H':Hp}(s:Same H H'){xs:List V}{vs:List Vl}(h:VsAt H xs vs):VsAt H' xs vs:=Paired.mapP h fun _ _ z=>z.same s
inductive Fm where
 |op (o:Str) (n:Int)
 |test (o:Str)
 |as_ (n:Int)
 |two
 |fst
 |snd
def Fm.vals:Fm→List V
 |.op o n=>[.str "op",.str o,.int n]
 |.test o=>[.str "test",.str o]
 |.as_ n=>[.str "as",.int n]
 |.two=>[.str "two"]
 |.fst=>[.str "first"]
 |.snd=>[.str "second"]
inductive Ex where
 |lit (v n:Int)
 |var (s:Str)
 |if_ (a b c:Ex)
 |let_ (x:Str) (a b:Ex)
 |nd (f:Fm) (es:List Ex)
 |call (q t:Str) (es:List Ex)
mutual
def Ex.ht:Ex→Nat
 |.lit _ _=>1
 |.var _=>1
 |.if_ a b c=>1+max a.ht (max b.ht c.ht)
 |.let_ _ a b=>1+max a.ht b.ht
 |.nd _ es=>1+max es.length (hts es)
 |.call _ _ es=>1+max es.length (hts es)
def hts:List Ex→Nat
 |[]=>0
 |e::es=>max e.ht (hts es)
end
theorem hts_mem:∀{es:List Ex} {e:Ex},e∈es→e.ht≤hts es
 |a::as,e,h=>by
  show _≤max a.ht (hts as)
  rcases List.mem_cons.mp h with rfl|z
  ·omega
  ·have:=hts_mem z;omega
def reck(o:Str)(a b:Int):Int:=if o="+" then a+b else if o="-" then a - b else a*b
def fmV:Fm→List Vl→Option Vl
 |.op o n,[.num a,.num b]=>if 0 < n∧-(2 ^ 64) < a∧a < 2 ^ 64 then some (.num (reck o a b%n)) else none
 |.test o,[.num a,.num b]=>some (.num (if (if o="=" then decide (V.int a=V.int b) else decide (a < b))=true then 1 else 0))
 |.as_ n,[.num a]=>if 0 < n then some (.num (a%n)) else none
 |.two,[a,b]=>some (.pr a b)
 |.fst,[.pr a _]=>some a
 |.snd,[.pr _ b]=>some b
 |_,_=>none
abbrev Orc:=Str→Str→List Vl→Option Vl
mutual
def ev(C:Orc)(ρ:Str→Option Vl):Ex→Option Vl
 |.lit v _=>some (.num v)
 |.var s=>ρ s
 |.if_ a b c=>match ev C ρ a with
  |some (.num n)=>if decide (V.int n=V.int 1)=true then ev C ρ b else ev C ρ c
  |_=>none
 |.let_ x a b=>match ev C ρ a with
  |some v=>ev C (fun y=>if y=x then some v else ρ y) b
  |none=>none
 |.nd f es=>match evs C ρ es with
  |some vs=>fmV f vs
  |none=>none
 |.call q t es=>match evs C ρ es with
  |some vs=>C q t vs
  |none=>none
def evs(C:Orc)(ρ:Str→Option Vl):List Ex→Option (List Vl)
 |[]=>some []
 |e::es=>match ev C ρ e,evs C ρ es with
  |some v,some vs=>some (v::vs)
  |_,_=>none
end
mutual
inductive ExAt (H:Hp):V→Ex→Prop
 |lit {p:Addr} {v n:Int}:H p=some (.tup [.str "lit",.int v,.int n])→ExAt H (.ref p) (.lit v n)
 |var {p:Addr} {s:Str}:H p=some (.tup [.str "var",.str s])→ExAt H (.ref p) (.var s)
 |if_ {p:Addr} {x y z:V} {a b c:Ex}:H p=some (.tup [.str "if",x,y,z])→ExAt H x a→ExAt H y b→ExAt H z c→ExAt H (.ref p) (.if_ a b c)
 |let_ {p:Addr} {s:Str} {x y:V} {a b:Ex}:H p=some (.tup [.str "let",.str s,x,y])→ExAt H x a→ExAt H y b→ExAt H (.ref p) (.let_ s a b)
 |nd {p:Addr} {f:Fm} {xs:List V} {es:List Ex}:H p=some (.tup (f.vals++xs))→ExsAt H xs es→ExAt H (.ref p) (.nd f es)
 |call {p p2:Addr} {q t:Str} {xs:List V} {es:List Ex}:H p=some (.tup [.str "call",.str q,.str t,.ref p2])→H p2=some (.tup xs)→ExsAt H xs es→ExAt H (.ref p) (.call q t es)
inductive ExsAt (H:Hp):List V→List Ex→Prop
 |nil:ExsAt H [] []
 |cons {x:V} {e:Ex} {xs:List V} {es:List Ex}:ExAt H x e→ExsAt H xs es→ExsAt H (x::xs) (e::es)
end
mutual
theorem ExAt.same{H H':Hp}(s:Same H H'):∀{x:V} {e:Ex},ExAt H x e→ExAt H' x e
 |_,_,.lit h=>.lit (s _ _ h)
 |_,_,.var h=>.var (s _ _ h)
 |_,_,.if_ h a b c=>.if_ (s _ _ h) (ExAt.same s a) (ExAt.same s b) (ExAt.same s c)
 |_,_,.let_ h a b=>.let_ (s _ _ h) (ExAt.same s a) (ExAt.same s b)
 |_,_,.nd h r=>.nd (s _ _ h) (ExsAt.same s r)
 |_,_,.call h h2 r=>.call (s _ _ h) (s _ _ h2) (ExsAt.same s r)
theorem ExsAt.same{H H':Hp}(s:Same H H'):∀{xs:List V} {es:List Ex},ExsAt H xs es→ExsAt H' xs es
 |_,_,.nil=>.nil
 |_,_,.cons a r=>.cons (ExAt.same s a) (ExsAt.same s r)
end
theorem ExsAt.get{H:Hp}:∀{xs:List V} {es:List Ex} {i:Nat} {x:V},ExsAt H xs es→xs[i]?=some x→∃e,es[i]?=some e∧ExAt H x e
 |_,_,_,_,.nil,h=>by simp at h
 |_,_,0,_,.cons a _,h=>by simp at h;subst h;exact⟨_,rfl,a⟩
 |_,_,i+1,x,.cons _ r,h=>by
  obtain⟨e,h1,h2⟩:=ExsAt.get (i:=i) (x:=x) r (by simpa using h)
  exact⟨e,by simpa using h1,h2⟩
theorem ExsAt.length{H:Hp}:∀{xs:List V} {es:List Ex},ExsAt H xs es→xs.length=es.length
 |_,_,.nil=>rfl
 |_,_,.cons _ r=>congrArg (·+1) r.length
theorem evs_get{C:Orc}{ρ:Str→Option Vl}:∀{es:List Ex} {vs:List Vl} {i:Nat} {e:Ex},evs C ρ es=some vs→es[i]?=some e→∃v,vs[i]?=some v∧ev C ρ e=some v
 |[],_,_,_,_,h=>by simp at h
 |a::as,vs,i,e,h,hi=>by
  rw [evs] at h
  cases h1:ev C ρ a with
  |none=>rw [h1] at h;cases h
  |some v =>
   cases h2:evs C ρ as with
   |none=>rw [h1,h2] at h;cases h
   |some ws =>
    rw [h1,h2] at h
    cases h
    cases i with
    |zero=>simp at hi;subst hi;exact⟨v,rfl,h1⟩
    |succ i =>
     obtain⟨u,h3,h4⟩:=evs_get (i:=i) h2 (by simpa using hi)
     exact⟨u,by simpa using h3,h4⟩
theorem evs_len{C:Orc}{ρ:Str→Option Vl}:∀{es:List Ex} {vs:List Vl},evs C ρ es=some vs→vs.length=es.length
 |[],_,h=>by rw [evs] at h;cases h;rfl
 |a::as,vs,h=>by
  rw [evs] at h
  cases h1:ev C ρ a with
  |none=>rw [h1] at h;cases h
  |some v =>
   cases h2:evs C ρ as with
   |none=>rw [h1,h2] at h;cases h
   |some ws=>rw [h1,h2] at h;cases h;exact congrArg (·+1) (evs_len h2)
def EnvAt(H:Hp)(d:Addr)(ρ:Str→Option Vl)(m:Nat):Prop:=∃kvs,H d=some (.dK kvs)∧kvs.length≤m∧∀s v,ρ s=some v→∃u,valV kvs (.inr s)=some u∧VAt H u v
theorem EnvAt.same{H H':Hp}{d:Addr}{ρ:Str→Option Vl}{m:Nat}(h:EnvAt H d ρ m)(s:Same H H'):EnvAt H' d ρ m:=by
 obtain⟨kvs,h1,h2,h3⟩:=h
 refine⟨kvs,s _ _ h1,h2,fun x v e=>?_⟩
 obtain⟨u,e1,e2⟩:=h3 x v e
 exact⟨u,e1,e2.same s⟩
abbrev ahs:List (Str × Int):=[("op",3),("test",2),("as",2),("let",2),("if",1),("two",1),("first",1),("second",1)]
abbrev lvV:List V:=[.str "lit",.str "var"]
theorem flat_lv:lvV.all flatV=true:=by decide +kernel
theorem fm_head(f:Fm):∃(z:Str) (r:List V),f.vals=.str z::r∧inV (.str z) lvV=false∧z≠"call"∧numAtS ahs z=some ((r.length+1:Nat):Int)∧z≠"lit"∧z≠"var"∧z≠"if"∧z≠"let":=by
 cases f with
 |op o n=>exact⟨_,_,rfl,by decide +kernel,by decide +kernel,rfl,by decide +kernel,by decide +kernel,by decide +kernel,by decide +kernel⟩
 |test o=>exact⟨_,_,rfl,by decide +kernel,by decide +kernel,rfl,by decide +kernel,by decide +kernel,by decide +kernel,by decide +kernel⟩
 |as_ n=>exact⟨_,_,rfl,by decide +kernel,by decide +kernel,rfl,by decide +kernel,by decide +kernel,by decide +kernel,by decide +kernel⟩
 |two=>exact⟨_,_,rfl,by decide +kernel,by decide +kernel,by decide +kernel,by decide +kernel,by decide +kernel,by decide +kernel,by decide +kernel⟩
 |fst=>exact⟨_,_,rfl,by decide +kernel,by decide +kernel,by decide +kernel,by decide +kernel,by decide +kernel,by decide +kernel,by decide +kernel⟩
 |snd=>exact⟨_,_,rfl,by decide +kernel,by decide +kernel,by decide +kernel,by decide +kernel,by decide +kernel,by decide +kernel,by decide +kernel⟩
theorem str_no{a b:Str}(h:a≠b):¬decide (V.str a=V.str b)=true:=fun z=>h (V.str.inj (of_decide_eq_true z))
theorem str_yes{a:Str}:decide (V.str a=V.str a)=true:=decide_eq_true rfl
theorem cut_from(xs:List V)(k:Nat):cutV xs (some (k:Int)) none=xs.drop k:=by
 unfold cutV
 rw [HT.sIx_nat,HT.sIx_none]
 by_cases h:k≤xs.length
 ·rw [Nat.min_eq_left h,List.take_of_length_le (by rw [List.length_drop];omega)]
 ·rw [Nat.min_eq_right (by omega),List.drop_length,List.drop_eq_nil_of_le (by omega),List.take_nil]
theorem not_whole{n k:Nat}(h:1≤k)(hn:1≤n):¬(HT.sIx n 0 (some (k:Int))=0∧HT.sIx n n none=n):=fun z=>by
 have:=z.1
 rw [HT.sIx_nat] at this
 omega
def spWithin:Sp:=fun vs H Q _=>∃(x:V) (xs:List V),vs=[x]∧((∃(p:Addr) (f:Fm),x=.ref p∧H p=some (.tup (f.vals++xs)))∨∃(p p2:Addr) (q t:Str),x=.ref p∧H p=some (.tup [.str "call",.str q,.str t,.ref p2])∧H p2=some (.tup xs))∧∀H' (r:Addr),Same H H'→H' r=some (.tup xs)→Q (.ref r) H'
section
variable{P:Program}{w:World}{K:PySem.W.Frag}{mg:Str→Option Value}{base:Heap}
theorem scWithin:FnScope ["expression","form"] ["expression"] (defScope sWithin):=⟨rfl,rfl,rfl,by decide +kernel,rfl,by decide +kernel,by decide +kernel⟩
theorem ok_within{f pA:Addr}{fd:FuncData} (F:Fun K "within" "within" sWithin f fd) (mA:mg "AHEAD"=some (.ref pA)) (hA:DKt K w pA ahs):FnOk P w K mg base CX0 1 f fd ["expression"] spWithin:=by
 refine F.ok scWithin (fun vs H Q E h=>?_) (fun cdv A outer s H vs Q E hr h=>?_)
 ·obtain⟨x,xs,rfl,_⟩:=h
  rfl
 obtain⟨x,xs,rfl,hx,q⟩:=h
 refine⟨_,pss_cons (ps_set (i:=1) scWithin.nd rfl (Or.inl rfl) (pe_ix ix_tup (pv 0) pe_int (fun _ _=>rfl)))
  (pss_cons (ps_if (pt_cmpR op_in_seq (pv 1) (pe_tup (pa_cons pe_str (pa_cons pe_str pa_nil))) (by with_unfolding_all rfl)) (pss_one (ps_ret (pe_tup pa_nil))) pss_nil)
  (pss_cons (ps_if (pt_cmpR op_eq (pv 1) pe_str (nomark _)) (pss_one (ps_ret (pe_ix ix_tup (pv 0) pe_int (fun _ _=>rfl)))) pss_nil)
  (pss_one (ps_ret (pe_slice sl_tup (pv 0) (po_some (pe_dgetK (pe_glob rfl mA (v:=.ref pA) rfl) (pv 1) (fun _ _=>rfl))) po_none))))),?_⟩
 rcases hx with ⟨p,fm,rfl,hp⟩|⟨p,p2,a,t,rfl,hp,hp2⟩
 ·obtain⟨z,r,e1,e2,e3,e4,_⟩:=fm_head fm
  rw [e1] at hp
  refine⟨_,rfl,p,_,_,.str z,rfl,rfl,SqT.of hp,?_,_,rfl,(by show 2≤sizeLine;decide),fun p3 hp3=>?_⟩
  ·exact(atI_nat (j:=0) rfl:atI (V.str z::(r++xs)) ((0:Nat):Int)=_)
  have s3:=same_new hp3 (.tup lvV)
  refine⟨p3,lvV,rfl,.inr (SqT.of upd_same),rfl,flat_lv,_,rfl,ite2 (fun c=>absurd c (by rw [e2];decide)) (fun _=>?_)⟩
  refine⟨_,rfl,rfl,_,rfl,ite2 (fun c=>absurd c (str_no e3)) (fun _=>?_)⟩
  refine⟨_,rfl,_,rfl,pA,ahs,z,_,rfl,hA,rfl,e4,_,rfl,p,_,rfl,SqT.of (s3 _ _ hp),not_whole (by omega) (by simp),fun p5 hp5=>?_⟩
  have e5:cutV (V.str z::r++xs) (some ((r.length+1:Nat):Int)) none=xs:=by
   rw [cut_from]
   simp
  have h5:∀Hq:Hp,(upd Hq p5 (.tup (cutV (V.str z::r++xs) (some ((r.length+1:Nat):Int)) none))) p5=some (.tup xs):=fun Hq=>by rw [upd_same,e5]
  exact q _ p5 (s3.trans (same_new hp5 _)) (h5 _)
 ·refine⟨_,rfl,p,_,_,.str "call",rfl,rfl,SqT.of hp,rfl,_,rfl,(by show 2≤sizeLine;decide),fun p3 hp3=>?_⟩
  have s3:=same_new hp3 (.tup lvV)
  refine⟨p3,lvV,rfl,.inr (SqT.of upd_same),rfl,flat_lv,_,rfl,ite2 (fun c=>absurd c (by decide +kernel)) (fun _=>?_)⟩
  refine⟨_,rfl,rfl,_,rfl,ite2 (fun _=>?_) (fun c=>absurd (by decide +kernel) c)⟩
  exact⟨_,rfl,p,_,_,.ref p2,rfl,rfl,SqT.of (s3 _ _ hp),rfl,q _ _ s3 (s3 _ _ hp2)⟩
end
end K72
namespace K72
open PySem L2
def spVar:Sp:=fun vs H Q _=>∃(s:Str) (d:Addr) (ρ:Str→Option Vl) (m:Nat) (v:Vl),vs=[.str s,.ref d]∧EnvAt H d ρ m∧ρ s=some v∧∀u,VAt H u v→Q u H
def spReck:Sp:=fun vs H Q _=>∃(o:Str) (a b:Int),vs=[.str o,.int a,.int b]∧-(2 ^ 64) < a∧a < 2 ^ 64∧Q (.int (reck o a b)) H
def spComp:Sp:=fun vs H Q _=>∃(o:Str) (a b:Int),vs=[.str o,.int a,.int b]∧Q (.int (if (if o="=" then decide (V.int a=V.int b) else decide (a < b))=true then 1 else 0)) H
def spForm(K:PySem.W.Frag):Sp:=fun vs H Q _=>∃(p l:Addr) (f:Fm) (xs us:List V) (ws:List Vl) (v:Vl),vs=[.ref p,.ref l]∧H p=some (.tup (f.vals++xs))∧H l=some (.lst us)∧VsAt H us ws∧fmV f ws=some v∧∀H' u,Same H H'→VAt H' u v→Q u H'
section
variable{P:Program}{w:World}{K:PySem.W.Frag}{mg:Str→Option Value}{base:Heap}
theorem scVar:FnScope ["word","variables"] ["word","variables"] (defScope sVar):=⟨rfl,rfl,rfl,by decide +kernel,rfl,by decide +kernel,by decide +kernel⟩
theorem ok_var{f:Addr}{fd:FuncData} (F:Fun K "variable_value" "variable_value" sVar f fd):FnOk P w K mg base CX0 1 f fd ["word","variables"] spVar:=by
 refine F.ok scVar (fun vs H Q E h=>?_) (fun cdv A outer s H vs Q E hr h=>?_)
 ·obtain⟨_,_,_,_,_,rfl,_⟩:=h
  rfl
 obtain⟨s',d,ρ,m,v,rfl,⟨kvs,hd,hm,hv⟩,hs,q⟩:=h
 obtain⟨u,e1,e2⟩:=hv s' v hs
 have hu:=hu_of hr
 refine⟨_,pss_cons (ps_if (pt_cmp (pc_dnotin hu (pv 0) (pv 1))) pss_no pss_nil) (pss_one (ps_ret (pe_dget hu (pv 1) (pv 0) (fun _ _=>rfl)))),?_⟩
 have g:=DGet.k (k:=Sum.inr s') hd
 rw [e1] at g
 refine⟨_,rfl,_,rfl,d,some u,rfl,g,_,rfl,iteF ?_⟩
 exact⟨_,rfl,_,rfl,d,u,rfl,g,q u e2⟩
theorem scReck:FnScope ["sign","one","other"] ["sign","one","other"] (defScope sReck):=⟨rfl,rfl,rfl,by decide +kernel,rfl,by decide +kernel,by decide +kernel⟩
theorem ok_reck{f:Addr}{fd:FuncData} (F:Fun K "reckoned" "reckoned" sReck f fd):FnOk P w K mg base CX0 1 f fd ["sign","one","other"] spReck:=by
 refine F.ok scReck (fun vs H Q E h=>?_) (fun cdv A outer s H vs Q E hr h=>?_)
 ·obtain⟨_,_,_,rfl,_⟩:=h
  rfl
 obtain⟨o,a,b,rfl,h1,h2,q⟩:=h
 refine⟨_,pss_cons (ps_if (pt_cmpR op_eq (pv 0) pe_str (nomark _)) (pss_one (ps_ret (pe_op op_add (pv 1) (pv 2)))) pss_nil)
  (pss_cons (ps_if (pt_cmpR op_eq (pv 0) pe_str (nomark _)) (pss_one (ps_ret (pe_op op_sub (pv 1) (pv 2)))) pss_nil)
  (pss_one (ps_ret (pe_op op_mul (pv 1) (pv 2))))),?_⟩
 unfold reck at q
 refine⟨_,rfl,rfl,_,rfl,ite2 (fun c=>?_) (fun c=>?_)⟩
 ·rw [if_pos (V.str.inj (of_decide_eq_true c))] at q
  exact⟨_,rfl,_,rfl,_,_,rfl,rfl,q⟩
 ·rw [if_neg fun z=>c (decide_eq_true (congrArg V.str z))] at q
  refine⟨_,rfl,rfl,_,rfl,ite2 (fun c=>?_) (fun c=>?_)⟩
  ·rw [if_pos (V.str.inj (of_decide_eq_true c))] at q
   exact⟨_,rfl,_,rfl,_,_,rfl,rfl,q⟩
  ·rw [if_neg fun z=>c (decide_eq_true (congrArg V.str z))] at q
   exact⟨_,rfl,_,rfl,_,_,rfl,rfl,.inl ⟨h1,h2⟩,q⟩
theorem scComp:FnScope ["sign","one","other","does"] ["sign","one","other"] (defScope sComp):=⟨rfl,rfl,rfl,by decide +kernel,rfl,by decide +kernel,by decide +kernel⟩
theorem ok_comp{f:Addr}{fd:FuncData} (F:Fun K "compared_values" "compared_values" sComp f fd):FnOk P w K mg base CX0 1 f fd ["sign","one","other"] spComp:=by
 refine F.ok scComp (fun vs H Q E h=>?_) (fun cdv A outer s H vs Q E hr h=>?_)
 ·obtain⟨_,_,_,rfl,_⟩:=h
  rfl
 obtain⟨o,a,b,rfl,q⟩:=h
 obtain⟨t2,d2,k2⟩:∃t,PSs (cxOf CX0 P w K mg base ["sign","one","other","does"] "compared_values" (defScope sComp) f cdv A outer s H E).nox (List.drop 1 (defBody sComp)) t ∧
   (∀c:Bool,Q (.int (if c=true then 1 else 0)) H→t { nx:=fun _ H'=>Q .non H',rt:=Q } [some (.str o),some (.int a),some (.int b),some (.bl c)] H):=by
  refine⟨_,pss_one (ps_ret (pe_ifExp (L2.pt_val (pv 3)) pe_int pe_int)),fun c hc=>?_⟩
  refine⟨_,rfl,c,rfl,?_⟩
  cases c with
  |true=>exact iteT hc
  |false=>exact iteF hc
 refine⟨_,pss_cons (ps_set (i:=3) scComp.nd rfl (Or.inl rfl) (pe_ifExp (pt_cmpR op_eq (pv 0) pe_str (nomark _)) (pe_cmpR op_eq (pv 1) (pv 2) (nomark _)) (pe_cmpR op_lt (pv 1) (pv 2) (nomark _)))) d2,?_⟩
 refine⟨_,rfl,rfl,_,rfl,ite2 (fun c=>?_) (fun c=>?_)⟩
 ·rw [if_pos (V.str.inj (of_decide_eq_true c))] at q
  exact⟨_,rfl,_,rfl,rfl,k2 _ q⟩
 ·rw [if_neg (show ¬o=Str.ofString "=" from fun z=>c (decide_eq_true (congrArg V.str z)))] at q
  exact⟨_,rfl,_,rfl,_,_,rfl,rfl,k2 _ q⟩
theorem scForm:FnScope ["expression","values","form"] ["expression","values"] (defScope sForm):=⟨rfl,rfl,rfl,by decide +kernel,rfl,by decide +kernel,by decide +kernel⟩
theorem vs2{H:Hp}{us:List V}{a b:Vl}(h:VsAt H us [a,b]):∃x y,us=[x,y]∧VAt H x a∧VAt H y b:=by
 cases h with
 |cons r t =>
  cases t with
  |cons r2 t2=>cases t2;exact⟨_,_,rfl,r,r2⟩
theorem vs1{H:Hp}{us:List V}{a:Vl}(h:VsAt H us [a]):∃x,us=[x]∧VAt H x a:=by
 cases h with
 |cons r t=>cases t;exact⟨_,rfl,r⟩
theorem v_num{H:Hp}{x:V}{n:Int}(h:VAt H x (.num n)):x=.int n:=by cases h;rfl
theorem v_pr{H:Hp}{x:V}{a b:Vl}(h:VAt H x (.pr a b)):∃p y z,x=.ref p∧H p=some (.tup [y,z])∧VAt H y a∧VAt H z b:=by
 cases h with
 |pr h1 h2 h3=>exact⟨_,_,_,rfl,h1,h2,h3⟩
theorem at0{x:V}{xs:List V}:atI (x::xs) 0=some x:=(atI_nat (j:=0) rfl:atI (x::xs) ((0:Nat):Int)=_)
theorem at1{x y:V}{xs:List V}:atI (x::y::xs) 1=some y:=(atI_nat (j:=1) rfl:atI (x::y::xs) ((1:Nat):Int)=_)
theorem at2{x y z:V}{xs:List V}:atI (x::y::z::xs) 2=some z:=(atI_nat (j:=2) rfl:atI (x::y::z::xs) ((2:Nat):Int)=_)
theorem at3{x y z u:V}{xs:List V}:atI (x::y::z::u::xs) 3=some u:=(atI_nat (j:=3) rfl:atI (x::y::z::u::xs) ((3:Nat):Int)=_)
set_option maxHeartbeats 0 in
theorem ok_form{f fr fc:Addr}{fd fdr fdc:FuncData} (F:Fun K "value_by_form" "value_by_form" sForm f fd)
  (GR:FnOk P w K mg base CX0 1 fr fdr ["sign","one","other"] spReck) (bR:Binds K fdr ["sign","one","other"] []) (kR:PySem.W.keepIn K (.ref fr)=true) (mR:mg "reckoned"=some (.ref fr))
  (GC:FnOk P w K mg base CX0 1 fc fdc ["sign","one","other"] spComp) (bC:Binds K fdc ["sign","one","other"] []) (kC:PySem.W.keepIn K (.ref fc)=true) (mC:mg "compared_values"=some (.ref fc)):FnOk P w K mg base CX0 2 f fd ["expression","values"] (spForm K):=by
 refine F.ok scForm (fun vs H Q E h=>?_) (fun cdv A outer s H vs Q E hr h=>?_)
 ·obtain⟨_,_,_,_,_,_,_,rfl,_⟩:=h
  rfl
 obtain⟨p,l,fm,xs,us,ws,v,rfl,hp,hl,hu,hv,q⟩:=h
 refine⟨_,pss_cons (ps_set (i:=2) scForm.nd rfl (Or.inl rfl) (pe_ix ix_tup (pv 0) pe_int (fun _ _=>rfl)))
  (pss_cons (ps_if (pt_cmpR op_eq (pv 2) pe_str (nomark _)) (pss_one (ps_ret (pe_op op_mod (pe_call GR hr rfl mR kR bR .nil pass0 (pa_cons (pe_ix ix_tup (pv 0) pe_int (fun _ _=>rfl)) (pa_cons (pe_ix ix_list (pv 1) pe_int (fun _ _=>rfl)) (pa_cons (pe_ix ix_list (pv 1) pe_int (fun _ _=>rfl)) pa_nil)))) (pe_ix ix_tup (pv 0) pe_int (fun _ _=>rfl))))) pss_nil)
  (pss_cons (ps_if (pt_cmpR op_eq (pv 2) pe_str (nomark _)) (pss_one (ps_ret (pe_call GC hr rfl mC kC bC .nil pass0 (pa_cons (pe_ix ix_tup (pv 0) pe_int (fun _ _=>rfl)) (pa_cons (pe_ix ix_list (pv 1) pe_int (fun _ _=>rfl)) (pa_cons (pe_ix ix_list (pv 1) pe_int (fun _ _=>rfl)) pa_nil)))))) pss_nil)
  (pss_cons (ps_if (pt_cmpR op_eq (pv 2) pe_str (nomark _)) (pss_one (ps_ret (pe_op op_mod (pe_ix ix_list (pv 1) pe_int (fun _ _=>rfl)) (pe_ix ix_tup (pv 0) pe_int (fun _ _=>rfl))))) pss_nil)
  (pss_cons (ps_if (pt_cmpR op_eq (pv 2) pe_str (nomark _)) (pss_one (ps_ret (pe_tup (pa_cons (pe_ix ix_list (pv 1) pe_int (fun _ _=>rfl)) (pa_cons (pe_ix ix_list (pv 1) pe_int (fun _ _=>rfl)) pa_nil))))) pss_nil)
  (pss_one (ps_ret (pe_ifExp (pt_cmpR op_eq (pv 2) pe_str (nomark _)) (pe_ix ix_tup (pe_ix ix_list (pv 1) pe_int (fun _ _=>rfl)) pe_int (fun _ _=>rfl)) (pe_ix ix_tup (pe_ix ix_list (pv 1) pe_int (fun _ _=>rfl)) pe_int (fun _ _=>rfl))))))))),?_⟩
 have no:∀{a b:Str} {A B:Prop},a≠b→B→(if decide (V.str a=V.str b)=true then A else B):=fun h hb=>by rw [if_neg (str_no h)];exact hb
 have yes:∀{a:Str} {A B:Prop},A→(if decide (V.str a=V.str a)=true then A else B):=fun h=>by rw [if_pos str_yes];exact h
 cases fm with
 |op o n =>
  match ws,hv with
  |[.num a,.num b],hv =>
   obtain⟨x,y,rfl,hx,hy⟩:=vs2 hu
   obtain rfl:=v_num hx
   obtain rfl:=v_num hy
   rw [fmV] at hv
   split at hv
   ·rename_i hc
    cases hv
    refine⟨_,rfl,p,_,_,_,rfl,rfl,SqT.of hp,at0,?_⟩
    refine⟨_,rfl,rfl,_,rfl,yes ⟨_,rfl,p,_,_,_,rfl,rfl,SqT.of hp,at1,_,rfl,l,_,_,_,rfl,rfl,SqL.of hl,at0,_,rfl,l,_,_,_,rfl,rfl,SqL.of hl,at1,?_⟩⟩
    exact⟨o,a,b,rfl,hc.2.1,hc.2.2,_,rfl,p,_,_,_,rfl,rfl,SqT.of hp,at2,_,_,rfl,rfl,hc.1,q _ _ (Same.refl _) .num⟩
   ·cases hv
 |test o =>
  match ws,hv with
  |[.num a,.num b],hv =>
   obtain⟨x,y,rfl,hx,hy⟩:=vs2 hu
   obtain rfl:=v_num hx
   obtain rfl:=v_num hy
   rw [fmV] at hv
   cases hv
   refine⟨_,rfl,p,_,_,_,rfl,rfl,SqT.of hp,at0,?_⟩
   refine⟨_,rfl,rfl,_,rfl,no (by decide +kernel) ?_⟩
   refine⟨_,rfl,rfl,_,rfl,yes ⟨_,rfl,p,_,_,_,rfl,rfl,SqT.of hp,at1,_,rfl,l,_,_,_,rfl,rfl,SqL.of hl,at0,_,rfl,l,_,_,_,rfl,rfl,SqL.of hl,at1,?_⟩⟩
   exact⟨o,a,b,rfl,q _ _ (Same.refl _) .num⟩
 |as_ n =>
  match ws,hv with
  |[.num a],hv =>
   obtain⟨x,rfl,hx⟩:=vs1 hu
   obtain rfl:=v_num hx
   rw [fmV] at hv
   split at hv
   ·rename_i hc
    cases hv
    refine⟨_,rfl,p,_,_,_,rfl,rfl,SqT.of hp,at0,?_⟩
    refine⟨_,rfl,rfl,_,rfl,no (by decide +kernel) ?_⟩
    refine⟨_,rfl,rfl,_,rfl,no (by decide +kernel) ?_⟩
    exact⟨_,rfl,rfl,_,rfl,yes ⟨_,rfl,l,_,_,_,rfl,rfl,SqL.of hl,at0,_,rfl,p,_,_,_,rfl,rfl,SqT.of hp,at1,_,_,rfl,rfl,hc,q _ _ (Same.refl _) .num⟩⟩
   ·cases hv
 |two =>
  match ws,hv with
  |[a,b],hv =>
   obtain⟨x,y,rfl,hx,hy⟩:=vs2 hu
   rw [fmV] at hv
   cases hv
   refine⟨_,rfl,p,_,_,_,rfl,rfl,SqT.of hp,at0,?_⟩
   refine⟨_,rfl,rfl,_,rfl,no (by decide +kernel) ?_⟩
   refine⟨_,rfl,rfl,_,rfl,no (by decide +kernel) ?_⟩
   refine⟨_,rfl,rfl,_,rfl,no (by decide +kernel) ?_⟩
   refine⟨_,rfl,rfl,_,rfl,yes ⟨_,rfl,l,_,_,_,rfl,rfl,SqL.of hl,at0,_,rfl,l,_,_,_,rfl,rfl,SqL.of hl,at1,(by show 2≤sizeLine;decide),fun t ht=>?_⟩⟩
   have sT:=same_new ht (.tup [x,y])
   exact q _ _ sT (.pr upd_same (hx.same sT) (hy.same sT))
 |fst =>
  match ws,hv with
  |[.pr a b],hv =>
   obtain⟨x,rfl,hx⟩:=vs1 hu
   obtain⟨t,y,z,rfl,ht,hy,hz⟩:=v_pr hx
   rw [fmV] at hv
   cases hv
   refine⟨_,rfl,p,_,_,_,rfl,rfl,SqT.of hp,at0,?_⟩
   refine⟨_,rfl,rfl,_,rfl,no (by decide +kernel) ?_⟩
   refine⟨_,rfl,rfl,_,rfl,no (by decide +kernel) ?_⟩
   refine⟨_,rfl,rfl,_,rfl,no (by decide +kernel) ?_⟩
   refine⟨_,rfl,rfl,_,rfl,no (by decide +kernel) ?_⟩
   exact⟨_,rfl,rfl,_,rfl,yes ⟨_,rfl,l,_,_,_,rfl,rfl,SqL.of hl,at0,t,_,_,_,rfl,rfl,SqT.of ht,at0,q _ _ (Same.refl _) hy⟩⟩
 |snd =>
  match ws,hv with
  |[.pr a b],hv =>
   obtain⟨x,rfl,hx⟩:=vs1 hu
   obtain⟨t,y,z,rfl,ht,hy,hz⟩:=v_pr hx
   rw [fmV] at hv
   cases hv
   refine⟨_,rfl,p,_,_,_,rfl,rfl,SqT.of hp,at0,?_⟩
   refine⟨_,rfl,rfl,_,rfl,no (by decide +kernel) ?_⟩
   refine⟨_,rfl,rfl,_,rfl,no (by decide +kernel) ?_⟩
   refine⟨_,rfl,rfl,_,rfl,no (by decide +kernel) ?_⟩
   refine⟨_,rfl,rfl,_,rfl,no (by decide +kernel) ?_⟩
   exact⟨_,rfl,rfl,_,rfl,no (by decide +kernel) ⟨_,rfl,l,_,_,_,rfl,rfl,SqL.of hl,at0,t,_,_,_,rfl,rfl,SqT.of ht,at1,q _ _ (Same.refl _) hz⟩⟩
end
end K72
namespace K72
open PySem L2
def zo(H:Hp)(S:List Addr):Hp:=fun b=>if b∈S then none else H b
theorem zo_ne{H:Hp}{S:List Addr}{b:Addr}(h:b∉S):zo H S b=H b:=if_neg h
theorem zo_at{H:Hp}{S:List Addr}{b:Addr}(h:b∈S):zo H S b=none:=if_pos h
theorem zo_same{H:Hp}{S:List Addr}:Same (zo H S) H:=fun b u q=>by
 by_cases e:b∈S
 ·rw [zo_at e] at q;cases q
 ·rw [zo_ne e] at q;exact q
theorem zo_mono{H H':Hp}{S:List Addr}(s:Same H H'):Same (zo H S) (zo H' S):=fun b u q=>by
 by_cases e:b∈S
 ·rw [zo_at e] at q;cases q
 ·rw [zo_ne e] at q ⊢;exact s _ _ q
theorem zo_upd{H:Hp}{S:List Addr}{a:Addr}{o:HO}(h:a∈S):zo (upd H a o) S=zo H S:=by
 funext b
 by_cases e:b∈S
 ·rw [zo_at e,zo_at e]
 ·rw [zo_ne e,zo_ne e,upd_ne (fun z:b=a=>e (by rw [z];exact h))]
theorem zo_sub{H H':Hp}{S T:List Addr}(h:∀b∈S,b∈T)(s:Same (zo H S) (zo H' S)):Same (zo H T) (zo H' T):=fun b u q=>by
 by_cases e:b∈T
 ·rw [zo_at e] at q;cases q
 ·have e':b∉S:=fun z=>e (h b z)
  rw [zo_ne e] at q ⊢
  have:=s b u (by rw [zo_ne e'];exact q)
  rw [zo_ne e'] at this
  exact this
theorem zo_of{H H':Hp}{S:List Addr}(s:Same H H')(h:∀b∈S,H b=none):Same H (zo H' S):=fun b u q=>by
 rw [zo_ne (fun z=>by rw [h b z] at q;cases q)]
 exact s _ _ q
theorem zo_nw{H:Hp}{S:List Addr}{p:Addr}{o:HO}(hp:H p=none)(hS:∀b∈S,H b≠none):zo (upd H p o) S p=some o:=by
 rw [zo_ne (fun z=>hS p z hp)]
 exact upd_same
abbrev Call:=Str × Str × List Vl
def CallAt(W:Hp)(x:V)(l:Addr)(c:Call):Prop:=∃a us,x=.ref a∧W a=some (.tup [.str c.1,.str c.2.1,.ref l])∧W l=some (.lst us)∧VsAt W us c.2.2
theorem CallAt.same{W W':Hp}(s:Same W W'){x:V}{l:Addr}{c:Call}(h:CallAt W x l c):CallAt W' x l c:=by
 obtain⟨a,us,e,h1,h2,h3⟩:=h
 exact⟨a,us,e,s _ _ h1,s _ _ h2,h3.same s⟩
inductive CsAt (W:Hp):List V→List Addr→List Call→Prop
 |nil:CsAt W [] [] []
 |cons {x:V} {l:Addr} {c:Call} {xs:List V} {ls:List Addr} {cs:List Call}:CallAt W x l c→CsAt W xs ls cs→CsAt W (x::xs) (l::ls) (c::cs)
theorem CsAt.same{W W':Hp}(s:Same W W'):∀{xs:List V} {ls:List Addr} {cs:List Call},CsAt W xs ls cs→CsAt W' xs ls cs
 |_,_,_,.nil=>.nil
 |_,_,_,.cons a r=>.cons (a.same s) (CsAt.same s r)
theorem CsAt.snoc{W:Hp}{x:V}{l:Addr}{c:Call}(h:CallAt W x l c):∀{xs:List V} {ls:List Addr} {cs:List Call},CsAt W xs ls cs→CsAt W (xs++[x]) (ls++[l]) (cs++[c])
 |_,_,_,.nil=>.cons h .nil
 |_,_,_,.cons a r=>.cons a (CsAt.snoc h r)
theorem CsAt.len{W:Hp}:∀{xs:List V} {ls:List Addr} {cs:List Call},CsAt W xs ls cs→xs.length=cs.length
 |_,_,_,.nil=>rfl
 |_,_,_,.cons _ r=>congrArg (·+1) r.len
theorem CsAt.there{W:Hp}:∀{xs:List V} {ls:List Addr} {cs:List Call},CsAt W xs ls cs→∀l∈ls,W l≠none
 |_,_,_,.nil,_,h=>nomatch h
 |_,_,_,.cons a r,l,h=>by
  rcases List.mem_cons.mp h with rfl|h
  ·obtain⟨_,_,_,_,e,_⟩:=a
   rw [e]
   nofun
  ·exact r.there l h
theorem VAt.upd{H:Hp}{l:Addr}{us us':List V}(hl:H l=some (.lst us)){x:V}{v:Vl}(h:VAt H x v):VAt (L2.upd H l (.lst us')) x v:=by
 induction h with
 |num=>exact .num
 |pr hp _ _ i1 i2=>exact .pr (by rw [upd_ne (ne_of hp hl (by intro z;cases z))];exact hp) i1 i2
theorem VsAt.snoc{H:Hp}{x:V}{v:Vl}(h:VAt H x v):∀{xs:List V} {vs:List Vl},VsAt H xs vs→VsAt H (xs++[x]) (vs++[v])
 |_,_,.nil=>.cons h .nil
 |_,_,.cons a r=>.cons a (VsAt.snoc h r)
theorem take_snoc{α:Type}{l:List α}{i:Nat}{x:α}(h:l[i]?=some x):l.take i++[x]=l.take (i+1):=by
 rw [List.take_add_one,h];rfl
theorem bootDict:bootBuiltins "dict"=some (.type "dict"):=by decide +kernel
theorem CallAt.upd{W:Hp}{l0:Addr}{us0 us':List V}(h0:W l0=some (.lst us0)){x:V}{l:Addr}{c:Call}(h:CallAt W x l c)(n:l≠l0):CallAt (L2.upd W l0 (.lst us')) x l c:=by
 obtain⟨a,us,e,h1,h2,h3⟩:=h
 exact⟨a,us,e,by rw [upd_ne (ne_of h1 h0 (by intro z;cases z))];exact h1,by rw [upd_ne n];exact h2,Paired.mapP h3 fun _ _ z=>z.upd h0⟩
theorem CsAt.upd{W:Hp}{l0:Addr}{us0 us':List V}(h0:W l0=some (.lst us0)):∀{xs:List V} {ls:List Addr} {cs:List Call},CsAt W xs ls cs→l0∉ls→CsAt (L2.upd W l0 (.lst us')) xs ls cs
 |_,_,_,.nil,_=>.nil
 |_,_,_,.cons a r,n=>.cons (a.upd h0 (fun e=>n (by rw [e];exact .head _))) (CsAt.upd h0 r fun z=>n (.tail _ z))
def HdAt(H:Hp)(lh:Addr)(ls:List Addr)(tr:List Call):Prop:=∃xs,H lh=some (.lst xs)∧CsAt (zo H [lh]) xs ls tr
theorem HdAt.same{H H':Hp}(s:Same H H'){lh:Addr}{ls:List Addr}{tr:List Call}(h:HdAt H lh ls tr):HdAt H' lh ls tr:=by
 obtain⟨xs,h1,h2⟩:=h
 exact⟨xs,s _ _ h1,h2.same (zo_mono s)⟩
theorem HdAt.ne{H:Hp}{lh:Addr}{ls:List Addr}{tr:List Call}(h:HdAt H lh ls tr):∀b∈[lh],H b≠none:=fun b hb=>by
 obtain rfl:b=lh:=by simpa using hb
 obtain⟨xs,e,_⟩:=h
 rw [e]
 nofun
theorem zo_put{H:Hp}{lh l:Addr}{o:HO}(n:l≠lh):zo (L2.upd H l o) [lh]=L2.upd (zo H [lh]) l o:=by
 funext b
 by_cases e:b=lh
 ·subst e
  rw [zo_at (by simp),upd_ne (Ne.symm n),zo_at (by simp)]
 ·have hb:b∉[lh]:=by simpa using e
  rw [zo_ne hb]
  by_cases e2:b=l
  ·subst e2
   rw [upd_same,upd_same]
  ·rw [upd_ne e2,upd_ne e2,zo_ne hb]
theorem HdAt.put{H:Hp}{lh l:Addr}{ls:List Addr}{tr:List Call}{us us':List V}(h:HdAt H lh ls tr)(n:l≠lh)(hl:zo H [lh] l=some (.lst us))(nl:l∉ls):HdAt (L2.upd H l (.lst us')) lh ls tr:=by
 obtain⟨xs,h1,h2⟩:=h
 refine⟨xs,by rw [upd_ne (Ne.symm n)];exact h1,?_⟩
 rw [zo_put n]
 exact h2.upd hl nl
theorem VAt.updD{W:Hp}{i:Addr}{kvs kvs':List (Key × V)}(hi:W i=some (.dK kvs)){x:V}{v:Vl}(h:VAt W x v):VAt (L2.upd W i (.dK kvs')) x v:=by
 induction h with
 |num=>exact .num
 |pr hp _ _ i1 i2=>exact .pr (by rw [upd_ne (ne_of hp hi (by intro z;cases z))];exact hp) i1 i2
theorem CsAt.updD{W:Hp}{i:Addr}{kvs kvs':List (Key × V)}(hi:W i=some (.dK kvs)):∀{xs:List V} {ls:List Addr} {cs:List Call},CsAt W xs ls cs→CsAt (L2.upd W i (.dK kvs')) xs ls cs
 |_,_,_,.nil=>.nil
 |_,_,_,.cons ⟨a,us,e,h1,h2,h3⟩ r=>.cons ⟨a,us,e,by rw [upd_ne (ne_of h1 hi (by intro z;cases z))];exact h1,by rw [upd_ne (ne_of h2 hi (by intro z;cases z))];exact h2,Paired.mapP h3 fun _ _ z=>z.updD hi⟩ (CsAt.updD hi r)
theorem HdAt.putD{H:Hp}{lh i:Addr}{ls:List Addr}{tr:List Call}{kvs kvs':List (Key × V)}(h:HdAt H lh ls tr)(n:i≠lh)(hi:zo H [lh] i=some (.dK kvs)):HdAt (L2.upd H i (.dK kvs')) lh ls tr:=by
 obtain⟨xs,h1,h2⟩:=h
 refine⟨xs,by rw [upd_ne (Ne.symm n)];exact h1,?_⟩
 rw [zo_put n]
 exact h2.updD hi
theorem vat_zo{H:Hp}{lh:Addr}{xs:List V}(hl:H lh=some (.lst xs)){x:V}{v:Vl}(h:VAt H x v):VAt (zo H [lh]) x v:=by
 induction h with
 |num=>exact .num
 |pr hp _ _ i1 i2 =>
  refine .pr ?_ i1 i2
  rw [zo_ne (fun z=>by simp at z;rw [z,hl] at hp;cases hp)]
  exact hp
mutual
def trc(C:Orc)(ρ:Str→Option Vl):Ex→List Call
 |.lit _ _=>[]
 |.var _=>[]
 |.if_ a b c=>trc C ρ a++match ev C ρ a with
  |some (.num n)=>if decide (V.int n=V.int 1)=true then trc C ρ b else trc C ρ c
  |_=>[]
 |.let_ x a b=>trc C ρ a++match ev C ρ a with
  |some v=>trc C (fun y=>if y=x then some v else ρ y) b
  |none=>[]
 |.nd _ es=>trcs C ρ es
 |.call q t es=>trcs C ρ es++match evs C ρ es with
  |some ws=>[(q,t,ws)]
  |none=>[]
def trcs(C:Orc)(ρ:Str→Option Vl):List Ex→List Call
 |[]=>[]
 |e::es=>trc C ρ e++trcs C ρ es
end
theorem trcs_app{C:Orc}{ρ:Str→Option Vl}:∀(a b:List Ex),trcs C ρ (a++b)=trcs C ρ a++trcs C ρ b
 |[],b=>by rw [List.nil_append];simp only [trcs,List.nil_append]
 |e::a,b=>by rw [List.cons_append];simp only [trcs];rw [trcs_app a b,List.append_assoc]
theorem trcs_one{C:Orc}{ρ:Str→Option Vl}{e:Ex}:trcs C ρ [e]=trc C ρ e:=by simp only [trcs,List.append_nil]
theorem trcs_snoc{C:Orc}{ρ:Str→Option Vl}{es:List Ex}{i:Nat}{e:Ex}(h:es[i]?=some e):trcs C ρ (es.take (i+1))=trcs C ρ (es.take i)++trc C ρ e:=by
 rw [←take_snoc h,trcs_app,trcs_one]
theorem trcs_le{C:Orc}{ρ:Str→Option Vl}(es:List Ex)(i:Nat):(trcs C ρ (es.take i)).length≤(trcs C ρ es).length:=by
 have:=congrArg List.length (congrArg (trcs C ρ) (List.take_append_drop i es))
 rw [trcs_app,List.length_append] at this
 omega
def ClosOk(P:Program)(w:World)(K:PySem.W.Frag)(mg:Str→Option Value)(base:Heap)(k:Nat)(f:Addr)(q t:Str)(H:Hp)(l:Addr)(Q:VK):Prop :=
 ∃fd ps sp,H f=some (.fnc fd)∧FnOk P w K mg base CX0 k f fd ps sp∧Binds K fd ps []∧sp [.str q,.str t,.ref l] H Q E0
def OrcOk(P:Program)(w:World)(K:PySem.W.Frag)(mg:Str→Option Value)(base:Heap)(k:Nat)(f lh:Addr)(W:Hp)(C:Orc):Prop :=
 ∀q t ws v H1 ls tr l us,C q t ws=some v→Same W (zo H1 [lh])→HdAt H1 lh ls tr→tr.length≤900→zo H1 [lh] l=some (.lst us)→VsAt (zo H1 [lh]) us ws→∀Q:VK,(∀H2 u,Same (zo H1 [lh]) (zo H2 [lh])→HdAt H2 lh (ls++[l]) (tr++[(q,t,ws)])→VAt (zo H2 [lh]) u v→Q u H2)→ClosOk P w K mg base k f q t H1 l Q
theorem OrcOk.same{P:Program}{w:World}{K:PySem.W.Frag}{mg:Str→Option Value}{base:Heap}{k:Nat}{f lh:Addr}{W W':Hp}{C:Orc}(h:OrcOk P w K mg base k f lh W C)(s:Same W W'):OrcOk P w K mg base k f lh W' C :=
 fun q t ws v H1 ls tr l us e s1=>h q t ws v H1 ls tr l us e (s.trans s1)
def spValue(P:Program)(w:World)(K:PySem.W.Frag)(mg:Str→Option Value)(base:Heap)(k n:Nat):Sp:=fun vs H Q _=>∃(x:V) (d f lh:Addr) (e:Ex) (ρ:Str→Option Vl) (m:Nat) (fd:FuncData) (C:Orc) (ls:List Addr) (tr:List Call) (v:Vl),vs=[x,.ref d,.ref f]∧ExAt (zo H [lh]) x e∧e.ht≤n∧EnvAt (zo H [lh]) d ρ m∧m+n≤500∧zo H [lh] f=some (.fnc fd)∧OrcOk P w K mg base k f lh (zo H [lh]) C∧HdAt H lh ls tr∧tr.length+(trc C ρ e).length≤900∧ev C ρ e=some v ∧
 ∀H' u ls2,Same (zo H [lh]) (zo H' [lh])→HdAt H' lh (ls++ls2) (tr++trc C ρ e)→(∀l∈ls2,H l=none)→VAt (zo H' [lh]) u v→Q u H'
theorem free_back{H H3:Hp}{lh l:Addr}{ls:List Addr}{tr:List Call}(s:Same (zo H [lh]) (zo H3 [lh]))(h3:HdAt H3 lh ls tr)(hl:H3 l=none):H l=none:=by
 have nl:l≠lh:=fun e=>h3.ne lh (by simp) (by rw [←e];exact hl)
 cases e:H l with
 |none=>rfl
 |some o =>
  have e1:=s l o (by rw [zo_ne (by simpa using nl)];exact e)
  rw [zo_ne (by simpa using nl),hl] at e1
  cases e1
section
variable{P:Program}{w:World}{K:PySem.W.Frag}{mg:Str→Option Value}{base:Heap}
abbrev valN:List Str:=["expression","variables","call","form","asked","inner","values","each"]
theorem scValue:FnScope valN ["expression","variables","call"] (defScope sValue):=⟨rfl,rfl,rfl,by decide +kernel,rfl,by decide +kernel,by decide +kernel⟩
set_option maxHeartbeats 0 in
theorem ok_value{f fv fw ff:Addr}{fd fdv fdw fdf:FuncData}{k:Nat} (F:Fun K "value_of" "value_of" sValue f fd) (bS:Binds K fd ["expression","variables","call"] []) (mS:mg "value_of"=some (.ref f)) (md:mg "dict"=none)
    (GV:FnOk P w K mg base CX0 1 fv fdv ["word","variables"] spVar) (bV:Binds K fdv ["word","variables"] []) (kV:PySem.W.keepIn K (.ref fv)=true) (mV:mg "variable_value"=some (.ref fv))
    (GW:FnOk P w K mg base CX0 1 fw fdw ["expression"] spWithin) (bW:Binds K fdw ["expression"] []) (kW:PySem.W.keepIn K (.ref fw)=true) (mW:mg "within"=some (.ref fw))
    (GF:FnOk P w K mg base CX0 2 ff fdf ["expression","values"] (spForm K)) (bF:Binds K fdf ["expression","values"] []) (kF:PySem.W.keepIn K (.ref ff)=true) (mF:mg "value_by_form"=some (.ref ff)) :
    ∀n,FnOk P w K mg base CX0 (k+3+n) f fd ["expression","variables","call"] (spValue P w K mg base k n):=by
  intro n
  induction n with
  | zero =>
    refine⟨fun vs H Q E h=>?_,fun A outer s H args us vs Q E _ _ _ _ h=>?_⟩
    · obtain⟨_,_,_,_,_,_,_,_,_,_,_,_,rfl,_⟩:=h
      rfl
    · obtain⟨_,_,_,_,e,_,_,_,_,_,_,_,_,_,h0,_⟩:=h
      cases e<;>simp [Ex.ht] at h0
  | succ n ih =>
  refine F.ok (k:=k+3+n) scValue (fun vs H Q E h=>?_) (fun cdv A outer s H vs Q E hr h=>?_)
  · obtain⟨_,_,_,_,_,_,_,_,_,_,_,_,rfl,_⟩:=h
    rfl
  obtain⟨x,d,g,lh,e,ρ,m,fdc,C,ls,tr,v,rfl,hx,hn,hd,hm,hg,hC,hhd,htr,hv,q⟩:=h
  have hu:=hu_of hr
  have hr1:Room 1 _:=hr.mono (by omega)
  have hr2:Room 2 _:=hr.mono (by omega)
  have hrk:Room k _:=hr.mono (by omega)
  have kS:=F.kp
  have no:∀{a b:Str} {A B:Prop},a≠b→B→(if decide (V.str a=V.str b)=true then A else B):=fun h hb=>by rw [if_neg (str_no h)];exact hb
  have yes:∀{a:Str} {A B:Prop},A→(if decide (V.str a=V.str a)=true then A else B):=fun h=>by rw [if_pos str_yes];exact h
  have loc:∀{H1:Hp} {p:Addr} {xs:List V},zo H1 [lh] p=some (.tup xs)→SqT K H1 p xs:=fun h=>SqT.of (zo_same _ _ h)
  obtain⟨t5,d5,k5⟩:∃t,PSs (cxOf CX0 P w K mg base valN "value_of" (defScope sValue) f cdv A outer s H E).nox (List.drop 5 (defBody sValue)) t ∧
      ∀(p:Addr) (z:Str) (xs:List V) (es:List Ex) (ws:List Vl),x=.ref p→ExsAt (zo H [lh]) xs es→(∀e∈es,e.ht≤n)→es.length≤n→evs C ρ es=some ws→tr.length+(trcs C ρ es).length≤900 →
        ((∃(fm:Fm) (r:List V),fm.vals=.str z::r∧z≠"call"∧zo H [lh] p=some (.tup (fm.vals++xs))∧fmV fm ws=some v∧trc C ρ e=trcs C ρ es) ∨
         ∃(p2:Addr) (q t:Str),z="call"∧zo H [lh] p=some (.tup [.str "call",.str q,.str t,.ref p2])∧zo H [lh] p2=some (.tup xs)∧C q t ws=some v∧trc C ρ e=trcs C ρ es++[(q,t,ws)]) →
        t { nx:=fun _ H'=>Q .non H',rt:=Q } [some x,some (.ref d),some (.ref g),some (.str z),none,none,none,none] H:=by
    refine⟨_,pss_cons (ps_set (i:=6) scValue.nd rfl (Or.inl rfl) (pe_lst pa_nil))
      (pss_cons (ps_for PassesOwn.never rfl (pi_tup (pe_call GW hr1 rfl mW kW bW .nil pass0 (pa_cons (pv 0) pa_nil))) (pg_name (i:=7) scValue.nd rfl (Or.inl rfl))
        (pss_one (ps_expr (pe_bm PySem.F.plainAttrs_list PySem.F.slot_list_append PySem.F.type_list_append mt_append (pv 6) (pa_cons (pe_call ih hr rfl mS kS bS .nil pass0 (pa_cons (pv 7) (pa_cons (pv 1) (pa_cons (pv 2) pa_nil)))) pa_nil)))))
      (pss_cons (ps_if (pt_cmpR op_eq (pv 3) pe_str (nomark _)) (pss_one (ps_ret (pe_callV (pv 2) pass0 (pa_cons (pe_ix ix_tup (pv 0) pe_int (fun _ _=>rfl)) (pa_cons (pe_ix ix_tup (pv 0) pe_int (fun _ _=>rfl)) (pa_cons (pv 6) pa_nil)))))) pss_nil)
      (pss_one (ps_ret (pe_call GF hr2 rfl mF kF bF .nil pass0 (pa_cons (pv 0) (pa_cons (pv 6) pa_nil))))))),?_⟩
    intro p z xs es ws ex hxs hes hel hws hb hcase
    subst ex
    refine⟨(by show 0≤sizeLine;decide),fun l hl=>?_⟩
    have s1:=same_new hl (.lst [])
    have z1:=zo_mono (S:=[lh]) s1
    have nlh:l≠lh:=fun e=>hhd.ne lh (by simp) (by rw [←e];exact hl)
    have gl:=zo_nw (S:=[lh]) (o:=.lst []) hl hhd.ne
    refine⟨_,rfl,.ref p,xs,rfl,?_,fun H2 r s2 hr2'=>?_⟩
    · rcases hcase with ⟨fm,r,e1,e2,e3,_⟩|⟨p2,q,t,rfl,e2,e3,_⟩
      · exact .inl ⟨p,fm,rfl,zo_same _ _ (z1 _ _ e3)⟩
      · exact .inr ⟨p,p2,q,t,rfl,zo_same _ _ (z1 _ _ e2),zo_same _ _ (z1 _ _ e3)⟩
    have s12:=s1.trans s2
    have z12:=zo_mono (S:=[lh]) s12
    have hlh2:∃ys,H2 lh=some (.lst ys):=by
      obtain⟨ys,e,_⟩:=hhd
      exact⟨ys,s12 _ _ e⟩
    have hr2z:zo H2 [lh] r=some (.tup xs):=by
      obtain⟨ys,e⟩:=hlh2
      rw [zo_ne (fun z=>by simp at z;rw [z,e] at hr2';cases hr2')]
      exact hr2'
    have lnot:l∉ls:=fun z=>by
      obtain⟨ys,_,hc⟩:=hhd
      have:=hc.there l z
      exact this (by rw [zo_ne (by simpa using nlh)];exact hl)
    refine⟨r,rfl,⟨xs,SqT.of hr2'⟩,for_tup (xs:=xs) (fun i σ H3=>∃v7 us ls2,σ=[some (.ref p),some (.ref d),some (.ref g),some (.str z),none,none,some (.ref l),v7]∧Same (zo H [lh]) (zo H3 [lh])∧zo H3 [lh] r=some (.tup xs)∧zo H3 [lh] l=some (.lst us)∧us.length=i∧VsAt (zo H3 [lh]) us (ws.take i)∧HdAt H3 lh (ls++ls2) (tr++trcs C ρ (es.take i))∧∀l'∈ls2,H l'=none∧l'≠l) ?_ ?_ ?_ ?_⟩
    · exact⟨none,[],[],rfl,z12,hr2z,(zo_mono s2) _ _ gl,rfl,.nil,by simpa [trcs] using hhd.same s12,fun _ h=>nomatch h⟩
    · rintro i σ H3 hi ⟨v7,us,ls2,rfl,_,h4,_⟩
      exact loc h4
    · rintro i y σ H3 hy ⟨v7,us,ls2,rfl,s3,h3,hl3,hl4,hus,hh3,hls⟩
      obtain⟨e',he,hye⟩:=hxs.get hy
      obtain⟨v',hv1,hv2⟩:=evs_get hws he
      have tle:=trcs_le (C:=C) (ρ:=ρ) es (i+1)
      rw [trcs_snoc he,List.length_append] at tle
      refine⟨_,rfl,.inl ⟨rfl,_,SqL.of (zo_same _ _ hl3)⟩,_,rfl,_,rfl,_,rfl,y,d,g,lh,e',ρ,m,fdc,C,ls++ls2,tr++trcs C ρ (es.take i),v',rfl,hye.same s3,hes e' (List.mem_of_getElem? he),hd.same s3,by omega,s3 _ _ hg,hC.same s3,hh3,by rw [List.length_append];omega,hv2,fun H4 u ls3 s4 hh4 hfr hu4=>?_⟩
      have hl5:=s4 _ _ hl3
      have nl3:∀l'∈ls3,l'≠l:=fun l' h e=>by
        have:=hfr l' h
        rw [e,zo_same _ _ hl3] at this
        cases this
      have lno:l∉(ls++ls2)++ls3:=fun z=>by
        rcases List.mem_append.mp z with z|z
        · rcases List.mem_append.mp z with z|z
          · exact lnot z
          · exact(hls l z).2 rfl
        · exact nl3 l z rfl
      refine⟨l,_,_,rfl,rfl,zo_same _ _ hl5,?_,_,us++[u],ls2++ls3,rfl,?_,?_,?_,by simp [hl4],?_,?_,?_⟩
      · have h8:=(List.getElem?_eq_some_iff.mp hy).1
        have h9:=hxs.length
        exact small1000 (by omega)
      · rw [zo_put nlh]
        exact sput (s3.trans s4) (by rw [zo_ne (by simpa using nlh)];exact hl)
      · rw [zo_put nlh,upd_ne (ne_of (s4 _ _ h3) hl5 (by intro z;cases z))];exact s4 _ _ h3
      · rw [zo_put nlh]
        exact upd_same
      · rw [zo_put nlh,←take_snoc hv1]
        exact VsAt.snoc (hu4.upd hl5) (Paired.mapP (hus.same s4) fun _ _ z=>z.upd hl5)
      · rw [trcs_snoc he,←List.append_assoc,←List.append_assoc]
        exact hh4.put nlh hl5 lno
      · intro l' hl'
        rcases List.mem_append.mp hl' with z|z
        · exact hls l' z
        · exact⟨free_back s3 hh3 (hfr l' z),nl3 l' z⟩
    · rintro σ H3 ⟨v7,us,ls2,rfl,s3,h3,hl3,hl4,hus,hh3,hls⟩
      have hwl:=evs_len hws
      have hxl:=hxs.length
      rw [List.take_of_length_le (by omega)] at hus
      rw [List.take_of_length_le (by omega)] at hh3
      rcases hcase with ⟨fm,r,e1,e2,e3,e4,e5⟩|⟨p2,qq,t,rfl,e2,e3,e4,e5⟩
      · refine⟨_,rfl,rfl,_,rfl,no e2 ?_⟩
        have hus3:VsAt H3 us ws:=hus.same zo_same
        refine⟨_,rfl,_,rfl,p,l,fm,xs,us,ws,v,rfl,zo_same _ _ (s3 _ _ e3),zo_same _ _ hl3,hus3,e4,fun H4 u s4 hu4=>?_⟩
        obtain⟨ys,ey,_⟩:=hh3.same s4
        exact q H4 u ls2 (s3.trans (zo_mono s4)) (by rw [e5];exact hh3.same s4) (fun l' h=>(hls l' h).1) (vat_zo ey hu4)
      · refine⟨_,rfl,rfl,_,rfl,yes ?_⟩
        obtain⟨fd',ps',sp',c1,c2,c3,c4⟩:=hC qq t ws v H3 (ls++ls2) (tr++trcs C ρ es) l us e4 s3 hh3 (by rw [List.length_append];omega) hl3 hus Q fun H4 u s4 hh4 hu4=>q H4 u (ls2++[l]) (s3.trans s4) (by rw [e5,←List.append_assoc,←List.append_assoc];exact hh4) (fun l' h=>by
          rcases List.mem_append.mp h with z|z
          · exact(hls l' z).1
          · obtain rfl:l'=l:=by simpa using z
            exact hl) hu4
        exact⟨g,fdc,rfl,zo_same _ _ (s3 _ _ hg),_,rfl,p,_,_,_,rfl,rfl,loc (s3 _ _ e2),at1,_,rfl,p,_,_,_,rfl,rfl,loc (s3 _ _ e2),at2,_,rfl,fd',ps',sp',k,c1,c2,hrk,c3,c4⟩
  refine⟨_,pss_cons (ps_set (i:=3) scValue.nd rfl (Or.inl rfl) (pe_ix ix_tup (pv 0) pe_int (fun _ _=>rfl)))
    (pss_cons (ps_if (pt_cmpR op_eq (pv 3) pe_str (nomark _)) (pss_one (ps_ret (pe_ix ix_tup (pv 0) pe_int (fun _ _=>rfl)))) pss_nil)
    (pss_cons (ps_if (pt_cmpR op_eq (pv 3) pe_str (nomark _)) (pss_one (ps_ret (pe_call GV hr1 rfl mV kV bV .nil pass0 (pa_cons (pe_ix ix_tup (pv 0) pe_int (fun _ _=>rfl)) (pa_cons (pv 1) pa_nil))))) pss_nil)
    (pss_cons (ps_if (pt_cmpR op_eq (pv 3) pe_str (nomark _)) (pss_cons (ps_set (i:=4) scValue.nd rfl (Or.inl rfl) (pe_call ih hr rfl mS kS bS .nil pass0 (pa_cons (pe_ix ix_tup (pv 0) pe_int (fun _ _=>rfl)) (pa_cons (pv 1) (pa_cons (pv 2) pa_nil)))))
      (pss_one (ps_ret (pe_call ih hr rfl mS kS bS .nil pass0 (pa_cons (pe_ifExp (pt_cmpR op_eq (pv 4) pe_int (nomark _)) (pe_ix ix_tup (pv 0) pe_int (fun _ _=>rfl)) (pe_ix ix_tup (pv 0) pe_int (fun _ _=>rfl))) (pa_cons (pv 1) (pa_cons (pv 2) pa_nil))))))) pss_nil)
    (pss_cons (ps_if (pt_cmpR op_eq (pv 3) pe_str (nomark _)) (pss_cons (ps_set (i:=5) scValue.nd rfl (Or.inl rfl) (pe_callTy call_dict_dK rfl md bootDict (pa_cons (pv 1) pa_nil)))
      (pss_cons (ps_dput hu (pv 5) (pe_ix ix_tup (pv 0) pe_int (fun _ _=>rfl)) (pe_call ih hr rfl mS kS bS .nil pass0 (pa_cons (pe_ix ix_tup (pv 0) pe_int (fun _ _=>rfl)) (pa_cons (pv 1) (pa_cons (pv 2) pa_nil)))) rfl)
      (pss_one (ps_ret (pe_call ih hr rfl mS kS bS .nil pass0 (pa_cons (pe_ix ix_tup (pv 0) pe_int (fun _ _=>rfl)) (pa_cons (pv 5) (pa_cons (pv 2) pa_nil)))))))) pss_nil) d5)))),?_⟩
  cases hx with
  | @lit p v' n' hp =>
    rw [ev] at hv
    cases hv
    refine⟨_,rfl,p,_,_,_,rfl,rfl,loc hp,at0,?_⟩
    exact⟨_,rfl,rfl,_,rfl,yes ⟨_,rfl,p,_,_,_,rfl,rfl,loc hp,at1,q _ _ [] (Same.refl _) (by rw [List.append_nil,trc,List.append_nil];exact hhd) (fun _ h=>nomatch h) .num⟩⟩
  | @var p y hp =>
    rw [ev] at hv
    refine⟨_,rfl,p,_,_,_,rfl,rfl,loc hp,at0,?_⟩
    refine⟨_,rfl,rfl,_,rfl,no (by decide +kernel) ?_⟩
    exact⟨_,rfl,rfl,_,rfl,yes ⟨_,rfl,p,_,_,_,rfl,rfl,loc hp,at1,_,rfl,y,d,ρ,m,v,rfl,hd.same zo_same,hv,fun u hu'=>q _ _ [] (Same.refl _) (by rw [List.append_nil,trc,List.append_nil];exact hhd) (fun _ h=>nomatch h) (by obtain⟨ys,ey,_⟩:=hhd;exact vat_zo ey hu')⟩⟩
  | @if_ p a1 a2 a3 b1 b2 b3 hp h1 h2 h3 =>
    simp only [Ex.ht] at hn
    rw [ev] at hv
    cases hc:ev C ρ b1 with
    | none=>rw [hc] at hv;cases hv
    | some c =>
      cases c with
      | pr _ _=>rw [hc] at hv;cases hv
      | num c =>
        rw [hc] at hv
        have et:trc C ρ (.if_ b1 b2 b3)=trc C ρ b1++(if decide (V.int c=V.int 1)=true then trc C ρ b2 else trc C ρ b3):=by simp only [trc,hc]
        rw [et] at htr q
        rw [List.length_append] at htr
        refine⟨_,rfl,p,_,_,_,rfl,rfl,loc hp,at0,?_⟩
        refine⟨_,rfl,rfl,_,rfl,no (by decide +kernel) ?_⟩
        refine⟨_,rfl,rfl,_,rfl,no (by decide +kernel) ?_⟩
        refine⟨_,rfl,rfl,_,rfl,yes ⟨_,rfl,p,_,_,_,rfl,rfl,loc hp,at1,_,rfl,_,rfl,a1,d,g,lh,b1,ρ,m,fdc,C,ls,tr,_,rfl,h1,by omega,hd,by omega,hg,hC,hhd,by omega,hc,fun H2 u ls2 s2 hh2 hf2 hu2=>?_⟩⟩
        obtain rfl:=v_num hu2
        have last:∀{p':V} {b:Ex},ExAt (zo H [lh]) p' b→b.ht≤n→ev C ρ b=some v→(trc C ρ b).length=(if decide (V.int c=V.int 1)=true then trc C ρ b2 else trc C ρ b3).length→trc C ρ b=(if decide (V.int c=V.int 1)=true then trc C ρ b2 else trc C ρ b3)→spValue P w K mg base k n [p',.ref d,.ref g] H2 Q E:=fun h hb hv' el ee =>
          ⟨_,d,g,lh,_,ρ,m,fdc,C,ls++ls2,tr++trc C ρ b1,v,rfl,h.same s2,hb,hd.same s2,by omega,s2 _ _ hg,hC.same s2,hh2,by rw [List.length_append,el];omega,hv',fun H3 u ls3 s3 hh3 hf3 hu3=>q H3 u (ls2++ls3) (s2.trans s3) (by rw [←List.append_assoc,←List.append_assoc,←ee];exact hh3) (fun l hl=>by
            rcases List.mem_append.mp hl with z|z
            · exact hf2 l z
            · exact free_back s2 hh2 (hf3 l z)) hu3⟩
        refine⟨_,rfl,rfl,_,rfl,ite2 (fun z=>?_) (fun z=>?_)⟩
        · exact⟨_,rfl,p,_,_,_,rfl,rfl,loc (s2 _ _ hp),at2,_,rfl,_,rfl,last h2 (by omega) ((if_pos z).symm.trans hv) (by rw [if_pos z]) (by rw [if_pos z])⟩
        · exact⟨_,rfl,p,_,_,_,rfl,rfl,loc (s2 _ _ hp),at3,_,rfl,_,rfl,last h3 (by omega) ((if_neg z).symm.trans hv) (by rw [if_neg z]) (by rw [if_neg z])⟩
  | @let_ p y a1 a2 b1 b2 hp h1 h2 =>
    simp only [Ex.ht] at hn
    rw [ev] at hv
    cases hc:ev C ρ b1 with
    | none=>rw [hc] at hv;cases hv
    | some c =>
      rw [hc] at hv
      have et:trc C ρ (.let_ y b1 b2)=trc C ρ b1++trc C (fun z=>if z=y then some c else ρ z) b2:=by simp only [trc,hc]
      rw [et] at htr q
      rw [List.length_append] at htr
      obtain⟨kvs,hk1,hk2,hk3⟩:=id hd
      refine⟨_,rfl,p,_,_,_,rfl,rfl,loc hp,at0,?_⟩
      refine⟨_,rfl,rfl,_,rfl,no (by decide +kernel) ?_⟩
      refine⟨_,rfl,rfl,_,rfl,no (by decide +kernel) ?_⟩
      refine⟨_,rfl,rfl,_,rfl,no (by decide +kernel) ?_⟩
      refine⟨_,rfl,rfl,_,rfl,yes ⟨_,rfl,d,kvs,rfl,zo_same _ _ hk1,fun i hi=>?_⟩⟩
      have s1:=zo_mono (S:=[lh]) (same_new hi (.dK kvs))
      have nlh:i≠lh:=fun e=>hhd.ne lh (by simp) (by rw [←e];exact hi)
      have gi:=zo_nw (S:=[lh]) (o:=.dK kvs) hi hhd.ne
      have hi0:zo H [lh] i=none:=by rw [zo_ne (by simpa using nlh)];exact hi
      refine⟨_,rfl,p,_,_,_,rfl,rfl,loc (s1 _ _ hp),at2,_,rfl,_,rfl,a1,d,g,lh,b1,ρ,m,fdc,C,ls,tr,_,rfl,h1.same s1,by omega,hd.same s1,by omega,s1 _ _ hg,hC.same s1,hhd.same (same_new hi _),by omega,hc,fun H2 u ls2 s2 hh2 hf2 hu2=>?_⟩
      have s12:=s1.trans s2
      have hi2:=s2 _ _ gi
      refine⟨_,rfl,_,rfl,p,_,_,_,rfl,rfl,loc (s12 _ _ hp),at1,i,_,rfl,DPut.k (k:=Sum.inr y) (zo_same _ _ hi2) (small1000 (by omega)),?_⟩
      have s3:Same (zo H [lh]) (zo (upd H2 i (.dK (putK kvs (Sum.inr y) u))) [lh]):=by rw [zo_put nlh];exact sput s12 hi0
      have hh3:HdAt (upd H2 i (.dK (putK kvs (Sum.inr y) u))) lh (ls++ls2) (tr++trc C ρ b1):=hh2.putD nlh hi2
      refine⟨_,rfl,p,_,_,_,rfl,rfl,loc (s3 _ _ hp),at3,_,rfl,_,rfl,a2,i,g,lh,b2,(fun z=>if z=y then some c else ρ z),m+1,fdc,C,ls++ls2,tr++trc C ρ b1,v,rfl,h2.same s3,by omega,?_,by omega,s3 _ _ hg,hC.same s3,hh3,by rw [List.length_append];omega,hv,fun H3 u ls3 s4 hh4 hf4 hu3=>q H3 u (ls2++ls3) (s3.trans s4) (by rw [←List.append_assoc,←List.append_assoc];exact hh4) (fun l hl=>by
        rcases List.mem_append.mp hl with z|z
        · have:=hf2 l z
          by_cases e:l=i
          · rw [e];exact hi
          · rwa [upd_ne e] at this
        · exact free_back s3 hh3 (hf4 l z)) hu3⟩
      refine⟨_,by rw [zo_put nlh];exact upd_same,Nat.le_trans (length_putK ..) (by omega),fun z v e=>?_⟩
      rw [valV_put]
      replace e:(if z=y then some c else ρ z)=some v:=e
      by_cases ez:z=y
      · subst ez
        rw [if_pos rfl] at e ⊢
        cases e
        exact⟨u,rfl,by rw [zo_put nlh];exact hu2.updD hi2⟩
      · rw [if_neg ez] at e
        rw [if_neg fun h=>ez (Sum.inr.inj h)]
        obtain⟨u',e1,e2⟩:=hk3 z v e
        exact⟨u',e1,e2.same s3⟩
  | @nd p fm xs es hp hxs =>
    simp only [Ex.ht] at hn
    rw [ev] at hv
    cases hc:evs C ρ es with
    | none=>rw [hc] at hv;cases hv
    | some ws =>
      rw [hc] at hv
      rw [trc] at htr
      obtain⟨z,r,e1,_,e3,_,z1,z2,z3,z4⟩:=fm_head fm
      have hp':=hp
      rw [e1] at hp'
      refine⟨_,rfl,p,_,_,.str z,rfl,rfl,loc hp',at0,?_⟩
      refine⟨_,rfl,rfl,_,rfl,no z1 ?_⟩
      refine⟨_,rfl,rfl,_,rfl,no z2 ?_⟩
      refine⟨_,rfl,rfl,_,rfl,no z3 ?_⟩
      refine⟨_,rfl,rfl,_,rfl,no z4 ?_⟩
      exact k5 p z xs es ws rfl hxs (fun e he=>by have:=hts_mem he;omega) (by omega) hc htr (.inl ⟨fm,r,e1,e3,hp,hv,by rw [trc]⟩)
  | @call p p2 qq t xs es hp hp2 hxs =>
    simp only [Ex.ht] at hn
    rw [ev] at hv
    cases hc:evs C ρ es with
    | none=>rw [hc] at hv;cases hv
    | some ws =>
      rw [hc] at hv
      have et:trc C ρ (.call qq t es)=trcs C ρ es++[(qq,t,ws)]:=by simp only [trc,hc]
      have htr':=htr
      rw [et,List.length_append] at htr'
      refine⟨_,rfl,p,_,_,_,rfl,rfl,loc hp,at0,?_⟩
      refine⟨_,rfl,rfl,_,rfl,no (by decide +kernel) ?_⟩
      refine⟨_,rfl,rfl,_,rfl,no (by decide +kernel) ?_⟩
      refine⟨_,rfl,rfl,_,rfl,no (by decide +kernel) ?_⟩
      refine⟨_,rfl,rfl,_,rfl,no (by decide +kernel) ?_⟩
      exact k5 p "call" xs es ws rfl hxs (fun e he=>by have:=hts_mem he;omega) (by omega) hc (by omega) (.inr ⟨p2,qq,t,rfl,hp,hp2,hv,et⟩)
end
end K72
namespace L2
open PySem PySem.Spec PyProof.Rows
theorem op_fdivM{X:Cx}:OpR X (binaryOp .FloorDiv) (rI (fun _ j=>0 < j∧j≤10 ^ 18) fun i j=>.int (i / j)):=opI fun i j _ _ _ _ _ hc q=>by
 have h1:(0:Int) < j:=hc.1
 have h2:j≤10 ^ 18:=hc.2
 refine floordiv_int (by omega) (by rw [Int.fdiv_eq_ediv_of_nonneg i (by omega)];exact q) (.inl (PyProof.noPylong_of_log2 ?_))
 have h64:j.natAbs.log2 < 64:=by
  refine(Nat.log2_lt (by omega)).mpr ?_
  have:j.natAbs≤10 ^ 18:=by omega
  exact Nat.lt_of_le_of_lt this (by decide)
 omega
end L2
namespace K72
open PySem L2
def StAt(K:PySem.W.Frag)(H:Hp)(ls:Addr):Prop:=∃(p:Addr) (ns:List Int) (k d:Int),H ls=some (.lst [.ref p,.int k,.int d])∧SqL K (zo H [ls]) p (ns.map V.int)∧0≤k
def StP(K:PySem.W.Frag)(H:Hp)(ls p:Addr)(ns:List Int):Prop:=∃(k d:Int),H ls=some (.lst [.ref p,.int k,.int d])∧SqL K (zo H [ls]) p (ns.map V.int)∧0≤k
def spDrawP(K:PySem.W.Frag):Sp:=fun vs H Q _=>∃(ls:Addr) (m:Int) (p:Addr) (ns:List Int),vs=[.ref ls,.int m]∧StP K H ls p ns∧0 < m∧m≤10 ^ 18∧∀H' r,StP K H' ls p ns→Same (zo H [ls]) (zo H' [ls])→0≤r→r < m→Q (.int r) H'
def spDraw(K:PySem.W.Frag):Sp:=fun vs H Q _=>∃(ls:Addr) (m:Int),vs=[.ref ls,.int m]∧StAt K H ls∧0 < m∧m≤10 ^ 18∧∀H' r,StAt K H' ls→Same (zo H [ls]) (zo H' [ls])→0≤r→r < m→Q (.int r) H'
theorem sql_same{K:PySem.W.Frag}{H H':Hp}{a:Addr}{xs:List V}(e:Same H H')(h:SqL K H a xs):SqL K H' a xs:=by
 rcases h with (h|⟨o,h⟩)|h
 ·exact .inl (.inl (e _ _ h))
 ·exact .inl (.inr ⟨o,e _ _ h⟩)
 ·exact .inr h
theorem at_get{α:Type}{xs:List α}{i:Int}(h0:0≤i)(h1:i < xs.length):∃x,xs[i.toNat]?=some x∧atI xs i=some x:=by
 have hk:i.toNat < xs.length:=by omega
 have e:i=((i.toNat:Nat):Int):=by omega
 have q:atI xs ((i.toNat:Nat):Int)=some xs[i.toNat]:=atI_nat (by simp)
 rw [←e] at q
 exact⟨_,List.getElem?_eq_getElem hk,q⟩
theorem at_int{ns:List Int}{i:Int}(h0:0≤i)(h1:i < ns.length):∃n:Int,atI (ns.map V.int) i=some (.int n):=by
 obtain⟨x,e1,e2⟩:=at_get (xs:=ns.map V.int) h0 (by rw [List.length_map];exact h1)
 rw [List.getElem?_map] at e1
 cases e:ns[i.toNat]? with
 |none=>rw [e] at e1;cases e1
 |some n=>rw [e] at e1;cases e1;exact⟨n,e2⟩
theorem ix31{n:Nat}:ixN (n+2) 1=some 1:=by
 unfold ixN
 rw [if_pos (by decide),if_pos (by omega)]
 rfl
theorem ix32{n:Nat}:ixN (n+3) 2=some 2:=by
 unfold ixN
 rw [if_pos (by decide),if_pos (by omega)]
 rfl
def ifT:Stmt→List Stmt
 |.If _ b _ _=>b
 |_=>[]
abbrev dS:Stmt:=.Pass ⟨0,0,0,0⟩
section
variable{P:Program}{w:World}{K:PySem.W.Frag}{mg:Str→Option Value}{base:Heap}
theorem scDraw:FnScope ["_law_state","_law_many","_law_script","_law_k","_law_digit","_law_cell"] ["_law_state","_law_many"] (defScope sDraw):=⟨rfl,rfl,rfl,by decide +kernel,rfl,by decide +kernel,by decide +kernel⟩
set_option maxHeartbeats 0 in
theorem ok_drawP{f:Addr}{fd:FuncData} (F:Fun K "_law_draw" "_law_draw" sDraw f fd) (ml:mg "len"=none):FnOk P w K mg base CX0 1 f fd ["_law_state","_law_many"] (spDrawP K):=by
 refine F.ok scDraw (fun vs H Q E h=>?_) (fun cdv A outer s H vs Q E hr h=>?_)
 ·obtain⟨_,_,_,_,rfl,_⟩:=h
  rfl
 obtain⟨lst,m,p,ns,rfl,⟨k,d,hst,hp,hk⟩,hm,hm2,q⟩:=h
 have hlen:(ns.map V.int).length=ns.length:=List.length_map _
 have fin:∀{H1:Hp} {d' r:Int},Same (zo H [lst]) (zo H1 [lst])→H1 lst=some (.lst [.ref p,.int (k+1),.int d'])→0≤r→r < m→Q (.int r) H1:=fun s1 h1 r0 r1=>q _ _ ⟨k+1,_,h1,sql_same s1 hp,by omega⟩ s1 r0 r1
 obtain⟨t3,d3,k3⟩:∃t,PSs (cxOf CX0 P w K mg base ["_law_state","_law_many","_law_script","_law_k","_law_digit","_law_cell"] "_law_draw" (defScope sDraw) f cdv A outer s H E).nox (List.drop 3 (defBody sDraw)) t ∧
   ∀(H1:Hp),Same (zo H [lst]) (zo H1 [lst])→H1 lst=some (.lst [.ref p,.int (k+1),.int d])→t { nx:=fun _ H'=>Q .non H',rt:=Q } [some (.ref lst),some (.int m),some (.ref p),some (.int k),none,none] H1:=by
  have m1:∀{i:Int},0≤i%2147483629:=Int.emod_nonneg _ (by decide)
  have m2:∀{i:Int},i%2147483629 < 2147483629:=Int.emod_lt_of_pos _ (by decide)
  have m3:∀{i:Int},0≤i%2147483587:=Int.emod_nonneg _ (by decide)
  have m4:∀{i:Int},i%2147483587 < 2147483587:=Int.emod_lt_of_pos _ (by decide)
  have m5:∀{i:Int},0≤i%1999999973:=Int.emod_nonneg _ (by decide)
  have m6:∀{i:Int},i%1999999973 < 1999999973:=Int.emod_lt_of_pos _ (by decide)
  have mul:∀{i j:Int},0≤i→i < 2147483647→CMul i j:=fun h1 h2=>.inl ⟨by omega,by omega⟩
  obtain⟨t5,d5,k5⟩:∃t,PSs (cxOf CX0 P w K mg base ["_law_state","_law_many","_law_script","_law_k","_law_digit","_law_cell"] "_law_draw" (defScope sDraw) f cdv A outer s H E).nox (List.drop 5 (defBody sDraw)) t ∧
    ∀(H1:Hp) (c:Int),Same (zo H [lst]) (zo H1 [lst])→H1 lst=some (.lst [.ref p,.int (k+1),.int d])→t { nx:=fun _ H'=>Q .non H',rt:=Q } [some (.ref lst),some (.int m),some (.ref p),some (.int k),none,some (.int c)] H1:=by
   refine⟨_,@pss_cons _ _ _ _ _ (ps_set (i:=5) scDraw.nd rfl (Or.inl rfl) (pe_op op_mod (pe_op op_mul (pe_op op_mod (pv 5) pe_int) (pe_op op_add (pv 3) pe_int)) pe_int)) (@pss_cons _ _ _ _ _ (ps_set (i:=5) scDraw.nd rfl (Or.inl rfl) (pe_op op_mod (pe_op op_mul (pv 5) (pv 5)) pe_int)) (@pss_one _ _ _ (@ps_ret _ _ _ _ (pe_op op_mod (pe_op op_mul (pe_op op_mod (pe_op op_mul (pv 5) (pv 5)) pe_int) pe_int) (pv 1))))),?_⟩
   intro H1 c s1 h1
   refine⟨_,rfl,_,_,rfl,rfl,(by show(0:Int) < 2147483629;decide),_,rfl,_,_,rfl,rfl,_,_,rfl,rfl,mul m1 (by have:=@m2 c;omega),_,_,rfl,rfl,(by show(0:Int) < 2147483629;decide),?_⟩
   generalize c%2147483629*(k+3)=c1
   have a1:=@m1 c1
   have a2:=@m2 c1
   generalize c1%2147483629=c2 at a1 a2
   refine⟨_,rfl,_,rfl,_,_,rfl,rfl,mul a1 (by omega),_,_,rfl,rfl,(by show(0:Int) < 2147483587;decide),?_⟩
   have b1:=@m3 (c2*c2)
   have b2:=@m4 (c2*c2)
   generalize c2*c2%2147483587=c3 at b1 b2
   refine⟨_,rfl,_,rfl,_,_,rfl,rfl,mul b1 (by omega),_,_,rfl,rfl,(by show(0:Int) < 1999999973;decide),_,_,rfl,rfl,mul m5 (by have:=@m6 (c3*c3);omega),_,rfl,_,_,rfl,rfl,hm,?_⟩
   exact fin s1 h1 (Int.emod_nonneg _ (by omega)) (Int.emod_lt_of_pos _ hm)
  refine⟨_,@pss_cons _ _ _ _ _ (ps_set (i:=5) scDraw.nd rfl (Or.inl rfl) (pe_op op_add (pe_op op_mul (pv 3) pe_int) pe_int)) (@pss_cons _ _ _ _ _ (ps_if (pt_cmpR op_gt (pe_callB call_len_seq rfl ml PySem.boot_len (@pa_cons _ _ _ _ _ (pv 2) pa_nil rfl)) pe_int (nomark _)) (@pss_one _ _ _ (ps_set (i:=5) scDraw.nd rfl (Or.inl rfl) (pe_op op_add (pv 5) (pe_op op_mul (pe_op op_mod (pe_ix ix_list (pv 2) (pe_op op_mod (pe_op op_mul (pv 3) pe_int) (pe_callB call_len_seq rfl ml PySem.boot_len (@pa_cons _ _ _ _ _ (pv 2) pa_nil rfl))) (fun _ _=>rfl)) pe_int) (pe_op op_add pe_int (pv 3)))))) pss_nil) d5),?_⟩
  intro H1 s1 h1
  have hp1:SqL K H1 p (ns.map V.int):=sql_same (s1.trans zo_same) hp
  refine⟨_,rfl,_,_,rfl,rfl,.inr ⟨by decide,by decide⟩,_,_,rfl,rfl,?_⟩
  refine⟨_,rfl,p,_,rfl,.inl hp1,_,_,rfl,rfl,_,rfl,ite2 (fun c=>?_) (fun _=>k5 _ _ s1 h1)⟩
  have c':(0:Int) < (((ns.map V.int).length:Nat):Int):=of_decide_eq_true c
  have i0:=Int.emod_nonneg (k*7) (show(((ns.map V.int).length:Nat):Int)≠0 by omega)
  have i1:=Int.emod_lt_of_pos (k*7) c'
  rw [hlen] at i1
  obtain⟨n,hn⟩:=at_int i0 (by rw [hlen] at *;exact i1)
  refine⟨_,rfl,_,rfl,_,rfl,_,_,rfl,rfl,.inr ⟨by decide,by decide⟩,_,rfl,p,_,rfl,.inl hp1,_,_,rfl,rfl,c',p,_,_,_,rfl,rfl,hp1,hn,?_⟩
  refine⟨_,_,rfl,rfl,(by show(0:Int) < 2147483629;decide),_,rfl,_,_,rfl,rfl,_,_,rfl,rfl,mul m1 (by have:=@m2 n;omega),_,_,rfl,rfl,?_⟩
  exact k5 _ _ s1 h1
 obtain⟨tb,db,kb⟩:∃t,PSs (cxOf CX0 P w K mg base ["_law_state","_law_many","_law_script","_law_k","_law_digit","_law_cell"] "_law_draw" (defScope sDraw) f cdv A outer s H E).nox (List.drop 1 (ifT ((defBody sDraw).getD 2 dS))) t ∧
   ∀(B:St→Hp→Prop) (H1:Hp) (d2:Int),Same (zo H [lst]) (zo H1 [lst])→H1 lst=some (.lst [.ref p,.int (k+1),.int d2])→t { nx:=B,rt:=Q } [some (.ref lst),some (.int m),some (.ref p),some (.int k),none,none] H1:=by
  refine⟨_,@pss_cons _ _ _ _ _ (ps_set (i:=4) scDraw.nd rfl (Or.inl rfl) (pe_op op_mod (pe_ix ix_list (pv 0) pe_int (fun _ _=>rfl)) (pv 1))) (@pss_cons _ _ _ _ _ (ps_asg (pe_op op_fdivM (pe_ix ix_list (pv 0) pe_int (fun _ _=>rfl)) (pv 1)) (pg_sub (pv 0) pe_int set_list)) (@pss_one _ _ _ (@ps_ret _ _ _ _ (pv 4)))),?_⟩
  intro B H2 d2 z2 h2
  exact⟨_,rfl,lst,_,_,_,rfl,rfl,SqL.of h2,at2,_,rfl,_,_,rfl,rfl,hm,_,rfl,lst,_,_,_,rfl,rfl,SqL.of h2,at2,_,rfl,_,_,rfl,rfl,⟨hm,hm2⟩,_,rfl,lst,_,2,2,rfl,rfl,h2,ix32,_,rfl,fin (by rw [zo_upd (by simp)];exact z2) upd_same (Int.emod_nonneg _ (by omega)) (Int.emod_lt_of_pos _ hm)⟩
 obtain⟨t2,d2,k2⟩:∃t,PSs (cxOf CX0 P w K mg base ["_law_state","_law_many","_law_script","_law_k","_law_digit","_law_cell"] "_law_draw" (defScope sDraw) f cdv A outer s H E).nox (List.drop 2 (defBody sDraw)) t ∧
   ∀(H1:Hp),Same (zo H [lst]) (zo H1 [lst])→H1 lst=some (.lst [.ref p,.int (k+1),.int d])→t { nx:=fun _ H'=>Q .non H',rt:=Q } [some (.ref lst),some (.int m),some (.ref p),some (.int k),none,none] H1:=by
  refine⟨_,pss_cons (ps_if (PW.pt (pw_and (pt_cmpR op_lt (pe_op op_add (pe_op op_fdiv (pv 3) pe_int) pe_int) (pe_callB call_len_seq rfl ml PySem.boot_len (pa_cons (pv 2) pa_nil)) (nomark _)) (pw_and1 (pt_cmpR op_eq (pe_op op_mod (pe_ix ix_list (pv 2) pe_int (fun _ _=>rfl)) pe_int) pe_int (nomark _))))) (pss_cons (ps_if (pt_cmpR op_eq (pe_op op_mod (pv 3) pe_int) pe_int (nomark _)) (@pss_one _ _ _ (ps_asg (pe_ix ix_list (pv 2) (pe_op op_add (pe_op op_fdiv (pv 3) pe_int) pe_int) (fun _ _=>rfl)) (pg_sub (pv 0) pe_int set_list))) pss_nil) db) pss_nil) d3,?_⟩
  intro H1 z1 h1
  have hp1:SqL K H1 p (ns.map V.int):=sql_same (z1.trans zo_same) hp
  have K3:=k3 H1 z1 h1
  refine⟨_,rfl,_,_,rfl,rfl,⟨by decide,by decide⟩,_,_,rfl,rfl,_,rfl,p,_,rfl,.inl hp1,_,_,rfl,rfl,_,rfl,ite2 (fun c=>?_) (fun _=>iteF (A:=True) K3)⟩
  have c':k / 30+1 < (((ns.map V.int).length:Nat):Int):=of_decide_eq_true c
  rw [hlen] at c'
  have k30:0≤k / 30:=Int.ediv_nonneg hk (by decide)
  obtain⟨n0,hn0⟩:=at_int (ns:=ns) (i:=0) (by decide) (by omega)
  obtain⟨n1,hn1⟩:=at_int (ns:=ns) (i:=k / 30+1) (by omega) c'
  refine⟨_,rfl,p,_,_,_,rfl,rfl,hp1,hn0,_,_,rfl,rfl,(by show(0:Int) < 2;decide),rfl,_,rfl,ite2 (fun _=>?_) (fun _=>K3)⟩
  refine⟨_,rfl,_,_,rfl,rfl,(by show(0:Int) < 30;decide),rfl,_,rfl,ite2 (fun _=>?_) (fun _=>kb _ _ _ z1 h1)⟩
  refine⟨_,rfl,_,rfl,_,_,rfl,rfl,⟨by decide,by decide⟩,_,_,rfl,rfl,p,_,_,_,rfl,rfl,hp1,hn1,_,rfl,lst,_,2,2,rfl,rfl,h1,ix32,?_⟩
  exact kb _ _ n1 (by rw [zo_upd (by simp)];exact z1) upd_same
 refine⟨_,@pss_cons _ _ _ _ _ (ps_asg (pe_slice sl_list (pv 0) po_none (po_some pe_int)) (pg_lst rfl (pgs_cons (pg_name (i:=2) scDraw.nd rfl (Or.inl rfl)) (pgs_cons (pg_name (i:=3) scDraw.nd rfl (Or.inl rfl)) pgs_nil)))) (@pss_cons _ _ _ _ _ (ps_asg (pe_op op_add (pv 3) pe_int) (pg_sub (pv 0) pe_int set_list)) d2),?_⟩
 refine⟨_,rfl,_,rfl,lst,_,rfl,SqL.of hst,fun l hl=>?_⟩
 have hne:l≠lst:=fun e=>by rw [←e,hl] at hst;cases hst
 have s1:=same_new hl (.lst [.ref p,.int k])
 refine⟨l,[.ref p,.int k],rfl,SqL.of upd_same,rfl,_,_,rfl,_,_,rfl,rfl,?_⟩
 have h1l:upd H l (.lst [.ref p,.int k]) lst=some (.lst [.ref p,.int k,.int d]):=s1 _ _ hst
 refine⟨_,rfl,_,_,rfl,rfl,_,rfl,lst,_,1,1,rfl,rfl,h1l,ix31,?_⟩
 exact k2 _ (by rw [zo_upd (by simp)];exact zo_mono s1) upd_same
theorem ok_draw{f:Addr}{fd:FuncData} (F:Fun K "_law_draw" "_law_draw" sDraw f fd) (ml:mg "len"=none):FnOk P w K mg base CX0 1 f fd ["_law_state","_law_many"] (spDraw K) :=
 (ok_drawP F ml).imp fun _ _ _ _ ⟨ls,m,e,⟨p,ns,h⟩,a,b,q⟩=>⟨ls,m,p,ns,e,h,a,b,fun H' r s z r0 r1=>q H' r ⟨p,ns,s⟩ z r0 r1⟩
end
end K72
namespace K72
open PySem L2
theorem call_isi{X:Cx}:CallR X (.builtin "isinstance") (fun xs H Q=>∃x T t b,xs=[x,.ty T]∧TyOf X.K H x t∧PySem.W.kitOne X.K t (.type T)=some b∧Q (.bl b) H):=by
 intro pins s σ H xs us Q I rv h
 obtain⟨x,T,t,b,rfl,ty,e,q⟩:=h
 obtain⟨u,v,rfl,r1,r2⟩:=rv.two
 cases r2
 exact isinst_ok I r1 ty e fun tk=>⟨.bl b,H,I.tok _,rfl,q⟩
theorem kit_ii(K:PySem.W.Frag):PySem.W.kitOne K (.type "int") (.type "int")=some true:=rfl
theorem kit_ib(K:PySem.W.Frag):PySem.W.kitOne K (.type "int") (.type "bool")=some false:=rfl
theorem bootBoolT:bootBuiltins "bool"=some (.type "bool"):=by decide +kernel
theorem bootTuple:bootBuiltins "tuple"=some (.type "tuple"):=by decide +kernel
theorem bootStr:bootBuiltins "str"=some (.type "str"):=by decide +kernel
def Vl.ht:Vl→Nat
 |.num _=>1
 |.pr a b=>1+max a.ht b.ht
def spWhole:Sp:=fun vs H Q _=>∃n:Int,vs=[.int n]∧Q (.bl true) H
def spAlike(n:Nat):Sp:=fun vs H Q _=>∃(x y:V) (v:Vl),vs=[x,y]∧VAt H x v∧VAt H y v∧v.ht≤n∧∀H',Same H H'→Q (.bl true) H'
theorem all_true(n:Nat):(List.replicate n true).all id=true:=by
 rw [List.all_eq_true]
 intro x hx
 exact(List.mem_replicate.mp hx).2
section
variable{P:Program}{w:World}{K:PySem.W.Frag}{mg:Str→Option Value}{base:Heap}
theorem scWhole:FnScope ["_law_found"] ["_law_found"] (defScope sWhole):=⟨rfl,rfl,rfl,by decide +kernel,rfl,by decide +kernel,by decide +kernel⟩
theorem ok_whole{f:Addr}{fd:FuncData} (F:Fun K "_law_whole" "_law_whole" sWhole f fd) (mis:mg "isinstance"=none) (mI:mg "int"=none) (mb:mg "bool"=none):FnOk P w K mg base CX0 1 f fd ["_law_found"] spWhole:=by
 refine F.ok scWhole (fun vs H Q E h=>?_) (fun cdv A outer s H vs Q E hr h=>?_)
 ·obtain⟨_,rfl,_⟩:=h
  rfl
 obtain⟨n,rfl,q⟩:=h
 refine⟨_,pss_one (ps_ret (pe_and (pe_callB call_isi rfl mis bootIsi (pa_cons (pv 0) (pa_cons (pe_bltn rfl mI bootInt (v:=.ty "int") rfl) pa_nil))) (pe_one (pe_not (pe_callB call_isi rfl mis bootIsi (pa_cons (pv 0) (pa_cons (pe_bltn rfl mb bootBoolT (v:=.ty "bool") rfl) pa_nil))))))),?_⟩
 refine⟨_,rfl,.int n,"int",_,true,rfl,.int n,kit_ii K,true,rfl,iteT ?_⟩
 exact⟨_,rfl,.int n,"bool",_,false,rfl,.int n,kit_ib K,false,rfl,q⟩
abbrev alN:List Str:=["_law_found","_law_due"]
theorem scAlike:FnScope alN alN (defScope sAlike):=⟨rfl,rfl,rfl,by decide +kernel,rfl,by decide +kernel,by decide +kernel⟩
set_option maxHeartbeats 0 in
theorem ok_alike{f fw:Addr}{fd fdw:FuncData} (F:Fun K "_law_alike" "_law_alike" sAlike f fd) (bA:Binds K fd alN []) (mA:mg "_law_alike"=some (.ref f))
  (GW:FnOk P w K mg base CX0 1 fw fdw ["_law_found"] spWhole) (bW:Binds K fdw ["_law_found"] []) (kW:PySem.W.keepIn K (.ref fw)=true) (mW:mg "_law_whole"=some (.ref fw))
  (mis:mg "isinstance"=none) (ms:mg "str"=none) (mt:mg "tuple"=none) (ml:mg "len"=none) (mz:mg "zip"=none) (ma:mg "all"=none) :
  ∀n,FnOk P w K mg base CX0 (n+1) f fd alN (spAlike n)
 |0=>⟨fun vs H Q E h=>by obtain⟨x,y,d,rfl,_⟩:=h;rfl,fun A outer s H args us vs Q E _ _ _ _ h=>by
   obtain⟨x,y,d,_,_,_,h,_⟩:=h
   cases d<;>simp [Vl.ht] at h⟩
 |n+1=>by
  have IH:=ok_alike F bA mA GW bW kW mW mis ms mt ml mz ma n
  refine F.ok scAlike (fun vs H Q E h=>?_) (fun cdv A outer s H vs Q E hr h=>?_)
  ·obtain⟨x,y,d,rfl,_⟩:=h
   rfl
  obtain⟨x,y,d,rfl,hx,hy,hal,q⟩:=h
  have hr1:Room 1 _:=hr.mono (by omega)
  refine⟨_,(pss_cons (ps_if (L2.pt_val (pe_callB call_isiTA rfl mis bootIsi (pa_cons (pv 1) (pa_cons (pe_bltn rfl mt bootTuple (v:=.ty "tuple") rfl) pa_nil))))
    (pss_cons (ps_if (PW.pt (pw_or (pt_not (L2.pt_val (pe_callB call_isiTA rfl mis bootIsi (pa_cons (pv 0) (pa_cons (pe_bltn rfl mt bootTuple (v:=.ty "tuple") rfl) pa_nil))))) (pw_or1 (pt_cmpR op_ne (pe_callB call_len_seq rfl ml PySem.boot_len (pa_cons (pv 0) pa_nil)) (pe_callB call_len_seq rfl ml PySem.boot_len (pa_cons (pv 1) pa_nil)) (nomark _))))) (pss_one (ps_ret pe_bl)) pss_nil)
    (pss_one (ps_ret (pe_callB (call_allB rfl) rfl ma bootAll (pa_cons (pe_comp (own:=["_law_one","_law_other"]) (caps:=[]) (κ:=[]) (g:=gTup K 2 (gCons (gName 0) (gCons (gName 1) gNil))) rfl ⟨rfl,by decide +kernel,by decide +kernel,rfl,rfl,(fun y hy=>nomatch hy),(fun y hy=>nomatch hy)⟩ rfl
     (pi_zipQ false false rfl mz (pa_cons (pv 0) (pa_cons (pv 1) pa_nil))) (fun _ _ _ _=>pg_tup rfl (pgs_cons (pg_name (i:=0) (show(["_law_one","_law_other"]:List Str).Nodup from by decide +kernel) rfl (Or.inl rfl)) (pgs_cons (pg_name (i:=1) (show(["_law_one","_law_other"]:List Str).Nodup from by decide +kernel) rfl (Or.inl rfl)) pgs_nil)))
     (fun _ _ _ _=>pe_call IH hr rfl mA F.kp bA .nil pass0 (pa_cons (pv 0) (pa_cons (pv 1) pa_nil)))) pa_nil))))) pss_nil)
   (@pss_one _ _ _ (@ps_ret _ _ _ _ (pe_and (pe_or (pe_call GW hr1 rfl mW kW bW .nil pass0 (@pa_cons _ _ _ _ _ (pv 0) pa_nil rfl)) (pe_one (pe_callB call_isi rfl mis bootIsi (@pa_cons _ _ _ _ _ (pv 0) (@pa_cons _ _ _ _ _ (pe_bltn rfl ms bootStr (v:=.ty "str") rfl) pa_nil rfl) rfl)))) (pe_one (pe_cmpR op_eq (pv 0) (pv 1) (nomark _))))))),?_⟩
  cases hy with
  |@num i0 =>
   obtain rfl:=v_num hx
   refine⟨_,rfl,.int i0,rfl,.inr (.inl ⟨i0,rfl,false,rfl,iteF ?_⟩)⟩
   refine⟨_,rfl,i0,rfl,true,rfl,iteT ⟨true,rfl,iteT ⟨_,rfl,_,rfl,rfl,?_⟩⟩⟩
   show Q (.bl (decide (V.int i0=V.int i0))) H
   rw [decide_eq_true rfl]
   exact q _ (Same.refl _)
  |@pr b y1 y2 v1 v2 hb hy1 hy2 =>
   obtain⟨a,x1,x2,rfl,ha,hx1,hx2⟩:=v_pr hx
   simp only [Vl.ht] at hal
   refine⟨_,rfl,.ref b,rfl,.inr (.inr ⟨b,_,rfl,SqT.of hb,true,rfl,iteT ?_⟩)⟩
   refine⟨_,rfl,.ref a,rfl,.inr (.inr ⟨a,_,rfl,SqT.of ha,true,rfl,iteF ⟨_,rfl,a,_,rfl,.inr (SqT.of ha),_,rfl,b,_,rfl,.inr (SqT.of hb),rfl,_,rfl,iteF ?_⟩⟩)⟩
   refine⟨_,rfl,_,rfl,a,b,[x1,x2],[y1,y2],rfl,ha,hb,?_⟩
   refine comp_zipQ (b:=false) (c:=false) (xs:=[x1,x2]) (ys:=[y1,y2]) (fun i zs H3=>i≤2∧Same H H3∧zs=(List.replicate i true).map V.bl) ⟨Nat.zero_le _,Same.refl _,rfl⟩ (by show 2≤sizeLine;decide) rfl ?_ ?_ ?_ ?_
   ·rintro i zs H3 ⟨hi,_,rfl⟩
    rw [List.length_map,List.length_replicate]
    exact Nat.le_refl _
   ·rintro i zs H3 ⟨_,s3,_⟩
    exact⟨s3 _ _ ha,s3 _ _ hb⟩
   ·rintro i x y p zs H3 N hN hx hy hp ⟨hi,s3,rfl⟩
    have s4:=s3.trans (same_new hp (.tup [x,y]))
    have hv:∃v,VAt H x v∧VAt H y v∧v.ht≤n:=by
     match i,hx,hy with
     |0,hx,hy=>cases hx;cases hy;exact⟨v1,hx1,hy1,by omega⟩
     |1,hx,hy=>cases hx;cases hy;exact⟨v2,hx2,hy2,by omega⟩
     |i+2,hx,hy=>simp at hx
    have hi2:i < 2:=(List.getElem?_eq_some_iff.mp hx).1
    obtain⟨v,e1,e2,e3⟩:=hv
    refine⟨p,_,rfl,SqT.of upd_same,rfl,_,_,rfl,_,_,rfl,rfl,rfl,tYes_go ⟨_,rfl,_,rfl,x,y,v,rfl,e1.same s4,e2.same s4,e3,fun H5 s5=>hN _ _ ⟨by omega,s4.trans s5,?_⟩⟩⟩
    rw [List.replicate_succ',List.map_append]
    rfl
   ·rintro zs H3 D ⟨hi,s3,rfl⟩ hD
    refine⟨D,List.replicate _ true,rfl,SqL.of upd_same,?_⟩
    rw [all_true]
    exact q _ (s3.trans (same_new hD _))
end
end K72
namespace K72
open PySem L2 Kk
inductive Gd:Kd→Prop
 |num {n:Int}:0 < n→n≤10 ^ 18→Gd (.num n)
 |pair {a b:Kd}:Gd a→Gd b→Gd (.pair a b)
inductive VlOf:Kd→Vl→Prop
 |num {n i:Int}:0≤i→i < n→n≤10 ^ 18→VlOf (.num n) (.num i)
 |pr {k l:Kd} {a b:Vl}:VlOf k a→VlOf l b→VlOf (.pair k l) (.pr a b)
def Kd.depth:Kd→Nat
 |.num _=>1
 |.name _ _=>1
 |.pair a b=>1+max (Kd.depth a) (Kd.depth b)
def smW(z:Str):Prop:=PyData.strOk z=true∧z.length≤14
def Kd.ok:Kd→Prop
 |.num _=>True
 |.name q t=>smW q∧smW t
 |.pair a b=>Kd.ok a∧Kd.ok b
def Kd.dat:Kd→PyData
 |.num n=>.tuple [.str "num",.int n]
 |.name q t=>.tuple [.str "name",.str q,.str t]
 |.pair a b=>.tuple [.str "pair",Kd.dat a,Kd.dat b]
theorem kd_dat{K:PySem.W.Frag}{H:Hp}:∀{x:V} {k:Kd},KdAt K H x k→Dat K H x (Kd.dat k)
 |_,_,.num t=>.tup t (.cons (.str _) (.cons (.int _) .nil))
 |_,_,.name t=>.tup t (.cons (.str _) (.cons (.str _) (.cons (.str _) .nil)))
 |_,_,.pair t a b=>.tup t (.cons (.str _) (.cons (kd_dat a) (.cons (kd_dat b) .nil)))
theorem eqv_tup(xs ys:List PyData):PyData.eqv (.tuple xs) (.tuple ys)=PyData.eqvAll xs ys:=by simp [PyData.eqv]
theorem eqvA_cons(x y:PyData)(xs ys:List PyData):PyData.eqvAll (x::xs) (y::ys)=(PyData.eqv x y&&PyData.eqvAll xs ys):=by simp [PyData.eqvAll]
theorem eqvA_nil:PyData.eqvAll [] []=true:=by simp [PyData.eqvAll]
theorem eqv_str(x y:Str):PyData.eqv (.str x) (.str y)=decide (x=y):=by
 rw [show PyData.eqv (.str x) (.str y)=(x==y) by simp [PyData.eqv]]
 rfl
theorem eqv_int(x y:Int):PyData.eqv (.int x) (.int y)=decide (x=y):=by
 rw [show PyData.eqv (.int x) (.int y)=(x==y) by simp [PyData.eqv]]
 rfl
theorem eqv_dat(a:Kd):∀b:Kd,PyData.eqv (Kd.dat a) (Kd.dat b)=decide (a=b):=by
 induction a with
 |num n =>
  intro b
  cases b with
  |num m =>
   show PyData.eqv (.tuple [.str "num",.int n]) (.tuple [.str "num",.int m])=_
   rw [eqv_tup,eqvA_cons,eqvA_cons,eqvA_nil,eqv_str,eqv_int]
   simp
  |name q t =>
   show PyData.eqv (.tuple (.str "num"::_)) (.tuple (.str "name"::_))=_
   rw [eqv_tup,eqvA_cons,eqv_str,decide_eq_false (by decide +kernel),decide_eq_false (by intro e;cases e)]
   rfl
  |pair c d =>
   show PyData.eqv (.tuple (.str "num"::_)) (.tuple (.str "pair"::_))=_
   rw [eqv_tup,eqvA_cons,eqv_str,decide_eq_false (by decide +kernel),decide_eq_false (by intro e;cases e)]
   rfl
 |name q t =>
  intro b
  cases b with
  |num m =>
   show PyData.eqv (.tuple (.str "name"::_)) (.tuple (.str "num"::_))=_
   rw [eqv_tup,eqvA_cons,eqv_str,decide_eq_false (by decide +kernel),decide_eq_false (by intro e;cases e)]
   rfl
  |name q' t' =>
   show PyData.eqv (.tuple [.str "name",.str q,.str t]) (.tuple [.str "name",.str q',.str t'])=_
   rw [eqv_tup,eqvA_cons,eqvA_cons,eqvA_cons,eqvA_nil,eqv_str,eqv_str,eqv_str]
   simp
  |pair c d =>
   show PyData.eqv (.tuple (.str "name"::_)) (.tuple (.str "pair"::_))=_
   rw [eqv_tup,eqvA_cons,eqv_str,decide_eq_false (by decide +kernel),decide_eq_false (by intro e;cases e)]
   rfl
 |pair a1 a2 h1 h2 =>
  intro b
  cases b with
  |num m =>
   show PyData.eqv (.tuple (.str "pair"::_)) (.tuple (.str "num"::_))=_
   rw [eqv_tup,eqvA_cons,eqv_str,decide_eq_false (by decide +kernel),decide_eq_false (by intro e;cases e)]
   rfl
  |name q' t' =>
   show PyData.eqv (.tuple (.str "pair"::_)) (.tuple (.str "name"::_))=_
   rw [eqv_tup,eqvA_cons,eqv_str,decide_eq_false (by decide +kernel),decide_eq_false (by intro e;cases e)]
   rfl
  |pair c d =>
   show PyData.eqv (.tuple [.str "pair",Kd.dat a1,Kd.dat a2]) (.tuple [.str "pair",Kd.dat c,Kd.dat d])=_
   rw [eqv_tup,eqvA_cons,eqvA_cons,eqvA_cons,eqvA_nil,eqv_str,h1,h2]
   simp
theorem lay_kd:∀{k:Kd},Kd.ok k→PyData.canLay0 (Kd.dat k)=true
 |.num n,_=>by
  have h:PyData.strOk "num"=true:=by decide +kernel
  simp [Kd.dat,PyData.canLay0,PyData.canLayAll0,h]
 |.name q t,⟨h1,h2⟩=>by
  have h:PyData.strOk "name"=true:=by decide +kernel
  simp [Kd.dat,PyData.canLay0,PyData.canLayAll0,h,h1.1,h2.1]
 |.pair a b,⟨h1,h2⟩=>by
  have h:PyData.strOk "pair"=true:=by decide +kernel
  simp [Kd.dat,PyData.canLay0,PyData.canLayAll0,h,lay_kd h1,lay_kd h2]
theorem deep_kd:∀k:Kd,PyData.depth (Kd.dat k)≤Kd.depth k
 |.num n=>by simp [Kd.dat,PyData.depth,PyData.depthAll,Kd.depth]
 |.name q t=>by simp [Kd.dat,PyData.depth,PyData.depthAll,Kd.depth]
 |.pair a b=>by
  have h1:=deep_kd a
  have h2:=deep_kd b
  simp only [Kd.dat,PyData.depth,PyData.depthAll,Kd.depth]
  omega
theorem kd_shaped{k:Kd}(h:Kd.ok k)(hd:Kd.depth k≤60):SeqAt.shaped (Kd.dat k)=true:=by
 have h1:=lay_kd h
 have h2:=deep_kd k
 unfold SeqAt.shaped
 rw [h1,decide_eq_true (show PyData.depth (Kd.dat k)≤64 by omega)]
 rfl
abbrev FT:=Str→Str→Option (List Kd × Kd)
abbrev GT:=Str→Option Kd
mutual
inductive Ty (F:FT):GT→Ex→Kd→Prop
 |lit {G:GT} {v n:Int}:0≤v→v < n→n≤10 ^ 18→Ty F G (.lit v n) (.num n)
 |var {G:GT} {x:Str} {k:Kd}:G x=some k→Ty F G (.var x) k
 |if_ {G:GT} {a b c:Ex} {k:Kd}:Ty F G a (.num 2)→Ty F G b k→Ty F G c k→Ty F G (.if_ a b c) k
 |let_ {G:GT} {x:Str} {a b:Ex} {k l:Kd}:Ty F G a l→Ty F (fun y=>if y=x then some l else G y) b k→Ty F G (.let_ x a b) k
 |two {G:GT} {a b:Ex} {k l:Kd}:Ty F G a k→Ty F G b l→Ty F G (.nd .two [a,b]) (.pair k l)
 |fst {G:GT} {a:Ex} {k l:Kd}:Ty F G a (.pair k l)→Ty F G (.nd .fst [a]) k
 |snd {G:GT} {a:Ex} {k l:Kd}:Ty F G a (.pair l k)→Ty F G (.nd .snd [a]) k
 |op {G:GT} {o:Str} {n:Int} {a b:Ex}:o="+"∨o="-"∨o="*"→Ty F G a (.num n)→Ty F G b (.num n)→Ty F G (.nd (.op o n) [a,b]) (.num n)
 |test {G:GT} {o:Str} {n:Int} {a b:Ex}:o="="∨o="<"→Ty F G a (.num n)→Ty F G b (.num n)→Ty F G (.nd (.test o) [a,b]) (.num 2)
 |as_ {G:GT} {n m:Int} {a:Ex}:0 < n→n≤10 ^ 18→Ty F G a (.num m)→Ty F G (.nd (.as_ n) [a]) (.num n)
 |call {G:GT} {q t:Str} {es:List Ex} {ks:List Kd} {k:Kd}:F q t=some (ks,k)→Tys F G es ks→Ty F G (.call q t es) k
inductive Tys (F:FT):GT→List Ex→List Kd→Prop
 |nil {G:GT}:Tys F G [] []
 |cons {G:GT} {e:Ex} {k:Kd} {es:List Ex} {ks:List Kd}:Ty F G e k→Tys F G es ks→Tys F G (e::es) (k::ks)
end
abbrev VlsOf:List Kd→List Vl→Prop:=Paired VlOf
def FunOk(F:FT)(C:Orc):Prop:=∀q t ks k ws,F q t=some (ks,k)→VlsOf ks ws→∃v,C q t ws=some v∧VlOf k v
def EnvOk(G:GT)(ρ:Str→Option Vl):Prop:=∀x k,G x=some k→∃v,ρ x=some v∧VlOf k v
theorem num01(b:Bool):VlOf (.num 2) (.num (if b=true then 1 else 0)):=by
 cases b
 ·exact .num (by decide) (by decide) (by decide)
 ·exact .num (by decide) (by decide) (by decide)
mutual
theorem ev_ok{F:FT}{C:Orc}(hC:FunOk F C):∀{G:GT} {ρ:Str→Option Vl} {e:Ex} {k:Kd},EnvOk G ρ→Ty F G e k→∃v,ev C ρ e=some v∧VlOf k v
 |_,_,_,_,_,.lit h1 h2 h3=>⟨_,by rw [ev],.num h1 h2 h3⟩
 |_,_,_,_,hr,.var h=>by
  obtain⟨v,h1,h2⟩:=hr _ _ h
  exact⟨v,by rw [ev];exact h1,h2⟩
 |_,ρ,.if_ a b c,k,hr,.if_ ha hb hc=>by
  obtain⟨va,a1,a2⟩:=ev_ok hC hr ha
  obtain⟨vb,b1,b2⟩:=ev_ok hC hr hb
  obtain⟨vc,c1,c2⟩:=ev_ok hC hr hc
  cases a2 with
  |@num _ i _ _ _ =>
   rw [ev,a1]
   show ∃v,(if decide (V.int i=V.int 1)=true then ev C ρ b else ev C ρ c)=some v∧VlOf k v
   by_cases z:decide (V.int i=V.int 1)=true
   ·rw [if_pos z];exact⟨vb,b1,b2⟩
   ·rw [if_neg z];exact⟨vc,c1,c2⟩
 |_,ρ,.let_ x a b,k,hr,.let_ (l:=l) ha hb=>by
  obtain⟨va,a1,a2⟩:=ev_ok hC hr ha
  rw [ev,a1]
  refine ev_ok hC (fun y k' e=>?_) hb
  by_cases ey:y=x
  ·subst ey
   rw [if_pos rfl] at e ⊢
   cases e
   exact⟨va,rfl,a2⟩
  ·rw [if_neg ey] at e ⊢
   exact hr _ _ e
 |_,_,_,_,hr,.two ha hb=>by
  obtain⟨va,a1,a2⟩:=ev_ok hC hr ha
  obtain⟨vb,b1,b2⟩:=ev_ok hC hr hb
  exact⟨.pr va vb,by simp only [ev,evs,a1,b1,fmV],.pr a2 b2⟩
 |_,_,_,_,hr,.fst ha=>by
  obtain⟨va,a1,a2⟩:=ev_ok hC hr ha
  cases a2 with
  |pr h1 _=>exact⟨_,by simp only [ev,evs,a1,fmV],h1⟩
 |_,_,_,_,hr,.snd ha=>by
  obtain⟨va,a1,a2⟩:=ev_ok hC hr ha
  cases a2 with
  |pr _ h2=>exact⟨_,by simp only [ev,evs,a1,fmV],h2⟩
 |_,_,_,_,hr,.op (n:=n) ho ha hb=>by
  obtain⟨va,a1,a2⟩:=ev_ok hC hr ha
  obtain⟨vb,b1,b2⟩:=ev_ok hC hr hb
  cases a2 with
  |num x1 x2 x3 =>
   cases b2 with
   |num y1 y2 y3 =>
    refine⟨_,by simp only [ev,evs,a1,b1,fmV];rw [if_pos ⟨by omega,by omega,by omega⟩],.num (Int.emod_nonneg _ (by omega)) (Int.emod_lt_of_pos _ (by omega)) x3⟩
 |_,_,_,_,hr,.test ho ha hb=>by
  obtain⟨va,a1,a2⟩:=ev_ok hC hr ha
  obtain⟨vb,b1,b2⟩:=ev_ok hC hr hb
  cases a2 with
  |num x1 x2 x3 =>
   cases b2 with
   |num y1 y2 y3 =>
    exact⟨_,by simp only [ev,evs,a1,b1,fmV];rfl,num01 _⟩
 |_,_,_,_,hr,.as_ h0 h1 ha=>by
  obtain⟨va,a1,a2⟩:=ev_ok hC hr ha
  cases a2 with
  |num x1 x2 x3=>exact⟨_,by simp only [ev,evs,a1,fmV];rw [if_pos h0],.num (Int.emod_nonneg _ (by omega)) (Int.emod_lt_of_pos _ (by omega)) h1⟩
 |_,_,_,_,hr,.call hf hs=>by
  obtain⟨ws,w1,w2⟩:=evs_ok hC hr hs
  obtain⟨v,v1,v2⟩:=hC _ _ _ _ _ hf w2
  exact⟨v,by simp only [ev,w1];exact v1,v2⟩
theorem evs_ok{F:FT}{C:Orc}(hC:FunOk F C):∀{G:GT} {ρ:Str→Option Vl} {es:List Ex} {ks:List Kd},EnvOk G ρ→Tys F G es ks→∃vs,evs C ρ es=some vs∧VlsOf ks vs
 |_,_,_,_,_,.nil=>⟨[],by rw [evs],.nil⟩
 |_,_,_,_,hr,.cons h hs=>by
  obtain⟨v,v1,v2⟩:=ev_ok hC hr h
  obtain⟨vs,w1,w2⟩:=evs_ok hC hr hs
  exact⟨v::vs,by simp only [evs,v1,w1],.cons v2 w2⟩
end
theorem gd_ok{k:Kd}(h:Gd k):Kd.ok k:=by
 induction h with
 |num _ _=>trivial
 |pair _ _ i1 i2=>exact⟨i1,i2⟩
theorem gd_shaped{k:Kd}(h:Gd k)(hd:Kd.depth k≤60):SeqAt.shaped (Kd.dat k)=true:=kd_shaped (gd_ok h) hd
def spSome(K:PySem.W.Frag):Sp:=fun vs H Q _=>∃(ls a:Addr) (xs:List V),vs=[.ref ls,.ref a]∧StAt K H ls∧SqL K (zo H [ls]) a xs∧0 < xs.length∧xs.length≤100000∧∀H' (i:Nat) x,StAt K H' ls→Same (zo H [ls]) (zo H' [ls])→xs[i]?=some x→Q x H'
def spSomeP(K:PySem.W.Frag):Sp:=fun vs H Q _=>∃(ls a:Addr) (xs:List V) (p:Addr) (ns:List Int),vs=[.ref ls,.ref a]∧StP K H ls p ns∧SqL K (zo H [ls]) a xs∧0 < xs.length∧xs.length≤100000∧∀H' (i:Nat) x,StP K H' ls p ns→Same (zo H [ls]) (zo H' [ls])→xs[i]?=some x→Q x H'
def spWorth(K:PySem.W.Frag)(n:Nat):Sp:=fun vs H Q _=>∃(ls:Addr) (x:V) (k:Kd),vs=[.ref ls,x]∧StAt K H ls∧KdAt K (zo H [ls]) x k∧Gd k∧Kd.depth k≤n∧∀H' u v,StAt K H' ls→Same (zo H [ls]) (zo H' [ls])→VlOf k v→VAt (zo H' [ls]) u v→Q u H'
inductive LitE:Kd→Ex→Prop
 |num {n v:Int}:0≤v→v < n→n≤10 ^ 18→LitE (.num n) (.lit v n)
 |pair {k l:Kd} {a b:Ex}:LitE k a→LitE l b→LitE (.pair k l) (.nd .two [a,b])
theorem LitE.ty{F:FT}{G:GT}{k:Kd}{e:Ex}(h:LitE k e):Ty F G e k:=by
 induction h with
 |num a b c=>exact .lit a b c
 |pair _ _ i1 i2=>exact .two i1 i2
def spLit(K:PySem.W.Frag)(n:Nat):Sp:=fun vs H Q _=>∃(ls:Addr) (x:V) (k:Kd),vs=[.ref ls,x]∧StAt K H ls∧KdAt K (zo H [ls]) x k∧Gd k∧Kd.depth k≤n∧∀H' u e,StAt K H' ls→Same (zo H [ls]) (zo H' [ls])→LitE k e→ExAt (zo H' [ls]) u e→Q u H'
theorem StAt.ne{K:PySem.W.Frag}{H:Hp}{ls:Addr}(h:StAt K H ls):∀b∈[ls],H b≠none:=fun b hb=>by
 obtain rfl:b=ls:=by simpa using hb
 obtain⟨_,_,_,_,e,_⟩:=h
 rw [e]
 nofun
theorem StAt.same{K:PySem.W.Frag}{H H':Hp}{ls:Addr}(s:Same H H')(h:StAt K H ls):StAt K H' ls:=by
 obtain⟨p,ns,k,d,h1,h2,h3⟩:=h
 exact⟨p,ns,k,d,s _ _ h1,sql_same (zo_mono s) h2,h3⟩
theorem StAt.new{K:PySem.W.Frag}{H:Hp}{ls p:Addr}(h:StAt K H ls)(hp:H p=none)(o:HO):StAt K (upd H p o) ls∧Same (zo H [ls]) (zo (upd H p o) [ls]):=⟨h.same (same_new hp o),zo_mono (same_new hp o)⟩
section
variable{P:Program}{w:World}{K:PySem.W.Frag}{mg:Str→Option Value}{base:Heap}
theorem scSome:FnScope ["_law_state","_law_pool"] ["_law_state","_law_pool"] (defScope sSome):=⟨rfl,rfl,rfl,by decide +kernel,rfl,by decide +kernel,by decide +kernel⟩
theorem ok_someP{f fD:Addr}{fd fdD:FuncData} (F:Fun K "_law_some" "_law_some" sSome f fd) (ml:mg "len"=none)
  (GD:FnOk P w K mg base CX0 1 fD fdD ["_law_state","_law_many"] (spDrawP K)) (bD:Binds K fdD ["_law_state","_law_many"] []) (kD:PySem.W.keepIn K (.ref fD)=true) (mD:mg "_law_draw"=some (.ref fD)) :
  FnOk P w K mg base CX0 2 f fd ["_law_state","_law_pool"] (spSomeP K):=by
 refine F.ok scSome (fun vs H Q E h=>?_) (fun cdv A outer s H vs Q E hr h=>?_)
 ·obtain⟨_,_,_,_,_,rfl,_⟩:=h
  rfl
 obtain⟨lst,a,xs,p0,n0,rfl,hst,ha,h0,h1,q⟩:=h
 have hrD:Room 1 _:=hr.mono (by decide)
 refine⟨_,@pss_one _ _ _ (@ps_ret _ _ _ _ (pe_ix ix_list (pv 1) (pe_call GD hrD rfl mD kD bD .nil pass0 (@pa_cons _ _ _ _ _ (pv 0) (@pa_cons _ _ _ _ _ (pe_callB call_len_seq rfl ml PySem.boot_len (@pa_cons _ _ _ _ _ (pv 1) pa_nil rfl)) pa_nil rfl) rfl)) (fun _ _=>rfl))),?_⟩
 refine⟨_,rfl,_,rfl,_,rfl,a,_,rfl,.inl (sql_same zo_same ha),lst,_,p0,n0,rfl,hst,by omega,by omega,fun H2 r s2 z2 r0 r1=>?_⟩
 obtain⟨x,e1,e2⟩:=at_get r0 r1
 exact⟨a,_,_,_,rfl,rfl,sql_same (z2.trans zo_same) ha,e2,q _ _ _ s2 z2 e1⟩
theorem ok_some{f fD:Addr}{fd fdD:FuncData} (F:Fun K "_law_some" "_law_some" sSome f fd) (ml:mg "len"=none)
  (GD:FnOk P w K mg base CX0 1 fD fdD ["_law_state","_law_many"] (spDrawP K)) (bD:Binds K fdD ["_law_state","_law_many"] []) (kD:PySem.W.keepIn K (.ref fD)=true) (mD:mg "_law_draw"=some (.ref fD)) :
  FnOk P w K mg base CX0 2 f fd ["_law_state","_law_pool"] (spSome K) :=
 (ok_someP F ml GD bD kD mD).imp fun _ _ _ _ ⟨ls,a,xs,e,⟨p,ns,h⟩,c,b,d,q⟩=>⟨ls,a,xs,p,ns,e,h,c,b,d,fun H' i x s z r=>q H' i x ⟨p,ns,s⟩ z r⟩
theorem scWorth:FnScope ["_law_state","_law_kind"] ["_law_state","_law_kind"] (defScope sWorth):=⟨rfl,rfl,rfl,by decide +kernel,rfl,by decide +kernel,by decide +kernel⟩
theorem kd_pos(k:Kd):1≤Kd.depth k:=by
 cases k<;>simp only [Kd.depth]<;>omega
set_option maxHeartbeats 0 in
theorem ok_worth{f fD:Addr}{fd fdD:FuncData} (F:Fun K "_law_worth" "_law_worth" sWorth f fd) (bO:Binds K fd ["_law_state","_law_kind"] []) (mO:mg "_law_worth"=some (.ref f))
  (GD:FnOk P w K mg base CX0 1 fD fdD ["_law_state","_law_many"] (spDraw K)) (bD:Binds K fdD ["_law_state","_law_many"] []) (kD:PySem.W.keepIn K (.ref fD)=true) (mD:mg "_law_draw"=some (.ref fD)) :
  ∀n,FnOk P w K mg base CX0 (n+2) f fd ["_law_state","_law_kind"] (spWorth K n)
 |0=>⟨fun vs H Q E h=>by obtain⟨_,_,_,rfl,_⟩:=h;rfl,fun A outer s H args us vs Q E _ _ _ _ h=>by
   obtain⟨_,_,k,_,_,_,_,h,_⟩:=h
   have:=kd_pos k
   omega⟩
 |n+1=>by
  have GO:=ok_worth F bO mO GD bD kD mD n
  have kO:=F.kp
  refine F.ok scWorth (fun vs H Q E h=>?_) (fun cdv A outer s H vs Q E hrO h=>?_)
  ·obtain⟨_,_,_,rfl,_⟩:=h
   rfl
  obtain⟨lst,x,k,rfl,hst,hx,hg,hn,q⟩:=h
  have hrD:Room 1 _:=hrO.mono (by omega)
  refine⟨_,@pss_cons _ _ _ _ _ (ps_if (pt_cmpR op_eq (pe_ix ix_tup (pv 1) pe_int (fun _ _=>rfl)) pe_str (nomark _)) (@pss_one _ _ _ (@ps_ret _ _ _ _ (pe_call GD hrD rfl mD kD bD .nil pass0 (@pa_cons _ _ _ _ _ (pv 0) (@pa_cons _ _ _ _ _ (pe_ix ix_tup (pv 1) pe_int (fun _ _=>rfl)) pa_nil rfl) rfl)))) pss_nil) (@pss_one _ _ _ (@ps_ret _ _ _ _ (@pe_tup _ _ _ _ _ (@pa_cons _ _ _ _ _ (pe_call GO hrO rfl mO kO bO .nil pass0 (@pa_cons _ _ _ _ _ (pv 0) (@pa_cons _ _ _ _ _ (pe_ix ix_tup (pv 1) pe_int (fun _ _=>rfl)) pa_nil rfl) rfl)) (@pa_cons _ _ _ _ _ (pe_call GO hrO rfl mO kO bO .nil pass0 (@pa_cons _ _ _ _ _ (pv 0) (@pa_cons _ _ _ _ _ (pe_ix ix_tup (pv 1) pe_int (fun _ _=>rfl)) pa_nil rfl) rfl)) pa_nil rfl) rfl)))),?_⟩
  cases hx with
  |@num a m ha =>
   cases hg with
   |num g1 g2 =>
    have haH:=zo_same.tup ha
    refine⟨_,rfl,a,_,_,_,rfl,rfl,haH,at0,rfl,_,rfl,ite2 (fun _=>?_) (fun e=>absurd (decide_eq_true rfl) e)⟩
    exact⟨_,rfl,_,rfl,a,_,_,_,rfl,rfl,haH,at1,lst,m,rfl,hst,g1,g2,fun H2 r s2 z2 r0 r1=>q _ _ _ s2 z2 (.num r0 r1 g2) .num⟩
  |name ha=>cases hg
  |@pair a y1 y2 k1 k2 ha h1 h2 =>
   cases hg with
   |pair g1 g2 =>
    simp only [Kd.depth] at hn
    have haH:=zo_same.tup ha
    refine⟨_,rfl,a,_,_,_,rfl,rfl,haH,at0,rfl,_,rfl,ite2 (fun e=>absurd (of_decide_eq_true e) (by intro z;cases z)) (fun _=>?_)⟩
    refine⟨_,rfl,_,rfl,a,_,_,_,rfl,rfl,haH,at1,lst,_,k1,rfl,hst,h1,g1,by omega,fun H2 u v s2 z2 o1 u1=>?_⟩
    refine⟨_,rfl,_,rfl,a,_,_,_,rfl,rfl,zo_same.tup (z2.tup ha),at2,lst,_,k2,rfl,s2,h2.same z2,g2,by omega,fun H3 u' v' s3 z3 o2 u2=>?_⟩
    refine⟨(by show 2≤sizeLine;decide),fun p hp=>?_⟩
    obtain⟨s4,z4⟩:=s3.new hp (.tup [u,u'])
    exact q _ _ _ s4 (z2.trans (z3.trans z4)) (.pr o1 o2) (.pr (zo_nw hp s3.ne) (u1.same (z3.trans z4)) (u2.same z4))
end
end K72
namespace K72
open PySem L2 Kk
section
variable{P:Program}{w:World}{K:PySem.W.Frag}{mg:Str→Option Value}{base:Heap}
theorem scLit:FnScope ["_law_state","_law_kind"] ["_law_state","_law_kind"] (defScope sLit):=⟨rfl,rfl,rfl,by decide +kernel,rfl,by decide +kernel,by decide +kernel⟩
set_option maxHeartbeats 0 in
theorem ok_lit{f fD:Addr}{fd fdD:FuncData} (F:Fun K "_law_lit" "_law_lit" sLit f fd) (bL:Binds K fd ["_law_state","_law_kind"] []) (mL:mg "_law_lit"=some (.ref f))
  (GD:FnOk P w K mg base CX0 1 fD fdD ["_law_state","_law_many"] (spDraw K)) (bD:Binds K fdD ["_law_state","_law_many"] []) (kD:PySem.W.keepIn K (.ref fD)=true) (mD:mg "_law_draw"=some (.ref fD)) :
  ∀n,FnOk P w K mg base CX0 (n+2) f fd ["_law_state","_law_kind"] (spLit K n)
 |0=>⟨fun vs H Q E h=>by obtain⟨_,_,_,rfl,_⟩:=h;rfl,fun A outer s H args us vs Q E _ _ _ _ h=>by
   obtain⟨_,_,k,_,_,_,_,h,_⟩:=h
   have:=kd_pos k
   omega⟩
 |n+1=>by
  have GL:=ok_lit F bL mL GD bD kD mD n
  have kL:=F.kp
  refine F.ok scLit (fun vs H Q E h=>?_) (fun cdv A outer s H vs Q E hrL h=>?_)
  ·obtain⟨_,_,_,rfl,_⟩:=h
   rfl
  obtain⟨lst,x,k,rfl,hst,hx,hg,hn,q⟩:=h
  have hrD:Room 1 _:=hrL.mono (by omega)
  refine⟨_,@pss_cons _ _ _ _ _ (ps_if (pt_cmpR op_eq (pe_ix ix_tup (pv 1) pe_int (fun _ _=>rfl)) pe_str (nomark _)) (@pss_one _ _ _ (@ps_ret _ _ _ _ (@pe_tup _ _ _ _ _ (@pa_cons _ _ _ _ _ pe_str (@pa_cons _ _ _ _ _ (pe_call GD hrD rfl mD kD bD .nil pass0 (@pa_cons _ _ _ _ _ (pv 0) (@pa_cons _ _ _ _ _ (pe_ix ix_tup (pv 1) pe_int (fun _ _=>rfl)) pa_nil rfl) rfl)) (@pa_cons _ _ _ _ _ (pe_ix ix_tup (pv 1) pe_int (fun _ _=>rfl)) pa_nil rfl) rfl) rfl)))) pss_nil) (@pss_one _ _ _ (@ps_ret _ _ _ _ (@pe_tup _ _ _ _ _ (@pa_cons _ _ _ _ _ pe_str (@pa_cons _ _ _ _ _ (pe_call GL hrL rfl mL kL bL .nil pass0 (@pa_cons _ _ _ _ _ (pv 0) (@pa_cons _ _ _ _ _ (pe_ix ix_tup (pv 1) pe_int (fun _ _=>rfl)) pa_nil rfl) rfl)) (@pa_cons _ _ _ _ _ (pe_call GL hrL rfl mL kL bL .nil pass0 (@pa_cons _ _ _ _ _ (pv 0) (@pa_cons _ _ _ _ _ (pe_ix ix_tup (pv 1) pe_int (fun _ _=>rfl)) pa_nil rfl) rfl)) pa_nil rfl) rfl) rfl)))),?_⟩
  cases hx with
  |@num a m ha =>
   cases hg with
   |num g1 g2 =>
    have haH:=zo_same.tup ha
    refine⟨_,rfl,a,_,_,_,rfl,rfl,haH,at0,rfl,_,rfl,ite2 (fun _=>?_) (fun e=>absurd (decide_eq_true rfl) e)⟩
    refine⟨_,rfl,_,rfl,a,_,_,_,rfl,rfl,haH,at1,lst,m,rfl,hst,g1,g2,fun H2 r s2 z2 r0 r1=>?_⟩
    refine⟨_,rfl,a,_,_,_,rfl,rfl,zo_same.tup (z2.tup ha),at1,(by show 3≤sizeLine;decide),fun p hp=>?_⟩
    obtain⟨s4,z4⟩:=s2.new hp (.tup [.str "lit",.int r,.int m])
    exact q _ _ _ s4 (z2.trans z4) (.num r0 r1 g2) (.lit (zo_nw hp s2.ne))
  |name ha=>cases hg
  |@pair a y1 y2 k1 k2 ha h1 h2 =>
   cases hg with
   |pair g1 g2 =>
    simp only [Kd.depth] at hn
    have haH:=zo_same.tup ha
    refine⟨_,rfl,a,_,_,_,rfl,rfl,haH,at0,rfl,_,rfl,ite2 (fun e=>absurd (of_decide_eq_true e) (by intro z;cases z)) (fun _=>?_)⟩
    refine⟨_,rfl,_,rfl,a,_,_,_,rfl,rfl,haH,at1,lst,_,k1,rfl,hst,h1,g1,by omega,fun H2 u v s2 z2 o1 u1=>?_⟩
    refine⟨_,rfl,_,rfl,a,_,_,_,rfl,rfl,zo_same.tup (z2.tup ha),at2,lst,_,k2,rfl,s2,h2.same z2,g2,by omega,fun H3 u' v' s3 z3 o2 u2=>?_⟩
    refine⟨(by show 3≤sizeLine;decide),fun p hp=>?_⟩
    obtain⟨s4,z4⟩:=s3.new hp (.tup [.str "two",u,u'])
    exact q _ _ _ s4 (z2.trans (z3.trans z4)) (.pair o1 o2) (.nd (f:=.two) (xs:=[u,u']) (zo_nw hp s3.ne) (.cons (u1.same (z3.trans z4)) (.cons (u2.same z4) .nil)))
end
def Vl.fl:Vl→List Int
 |.num n=>[n]
 |.pr a b=>a.fl++b.fl
def tot(vs:List Vl):Int:=vs.foldl (fun t v=>v.fl.foldl (fun t n=>t*31+n) t) 982451653
def ansV:Kd→List Vl→Vl
 |.num n,vs=>.num (tot vs%n)
 |.name _ _,_=>.num 0
 |.pair k l,vs=>.pr (ansV k vs) (ansV l (vs++[.num 7]))
theorem ans_of:∀{k:Kd} (vs:List Vl),Gd k→VlOf k (ansV k vs)
 |_,_,.num a b=>.num (Int.emod_nonneg _ (by omega)) (Int.emod_lt_of_pos _ a) b
 |_,vs,.pair a b=>.pr (ans_of vs a) (ans_of _ b)
def spFlat(n:Nat):Sp:=fun vs H Q _=>∃(x:V) (v:Vl),vs=[x]∧VAt H x v∧v.ht≤n∧v.fl.length≤1000∧∀H' l,Same H H'→H l=none→H' l=some (.lst (v.fl.map V.int))→Q (.ref l) H'
def spAns(K:PySem.W.Frag)(n:Nat):Sp:=fun vs H Q _=>∃(x:V) (a:Addr) (k:Kd) (us:List V) (ws:List Vl),vs=[x,.ref a]∧KdAt K H x k∧Gd k∧Kd.depth k≤n∧H a=some (.lst us)∧VsAt H us ws∧us.length+n≤500∧(∀v∈ws,v.ht≤9∧v.fl.length≤1000)∧∀H' u,Same H H'→VAt H' u (ansV k ws)→Q u H'
section
variable{P:Program}{w:World}{K:PySem.W.Frag}{mg:Str→Option Value}{base:Heap}
theorem scFlat:FnScope ["_law_value_here"] ["_law_value_here"] (defScope sFlat):=⟨rfl,rfl,rfl,by decide +kernel,rfl,by decide +kernel,by decide +kernel⟩
set_option maxHeartbeats 0 in
theorem ok_flat{f:Addr}{fd:FuncData} (F:Fun K "_law_flat" "_law_flat" sFlat f fd) (bF:Binds K fd ["_law_value_here"] []) (mF:mg "_law_flat"=some (.ref f)) (mis:mg "isinstance"=none) (mt:mg "tuple"=none) :
  ∀n,FnOk P w K mg base CX0 (n+1) f fd ["_law_value_here"] (spFlat n)
 |0=>⟨fun vs H Q E h=>by obtain⟨_,_,rfl,_⟩:=h;rfl,fun A outer s H args us vs Q E _ _ _ _ h=>by
   obtain⟨_,v,_,_,h,_⟩:=h
   cases v<;>simp [Vl.ht] at h⟩
 |n+1=>by
  have GF:=ok_flat F bF mF mis mt n
  have kF:=F.kp
  refine F.ok scFlat (fun vs H Q E h=>?_) (fun cdv A outer s H vs Q E hrF h=>?_)
  ·obtain⟨_,_,rfl,_⟩:=h
   rfl
  obtain⟨x,v,rfl,hx,hh,hl,q⟩:=h
  refine⟨_,@pss_cons _ _ _ _ _ (ps_if (L2.pt_val (pe_callB call_isiTA rfl mis bootIsi (@pa_cons _ _ _ _ _ (pv 0) (@pa_cons _ _ _ _ _ (pe_bltn rfl mt bootTuple (v:=.ty "tuple") rfl) pa_nil rfl) rfl))) (@pss_one _ _ _ (@ps_ret _ _ _ _ (pe_op op_cat (pe_call GF hrF rfl mF kF bF .nil pass0 (@pa_cons _ _ _ _ _ (pe_ix ix_tup (pv 0) pe_int (fun _ _=>rfl)) pa_nil rfl)) (pe_call GF hrF rfl mF kF bF .nil pass0 (@pa_cons _ _ _ _ _ (pe_ix ix_tup (pv 0) pe_int (fun _ _=>rfl)) pa_nil rfl))))) pss_nil) (@pss_one _ _ _ (@ps_ret _ _ _ _ (pe_lst (@pa_cons _ _ _ _ _ (pv 0) pa_nil rfl)))),?_⟩
  cases hx with
  |@num i =>
   refine⟨_,rfl,.int i,rfl,.inr (.inl ⟨i,rfl,false,rfl,iteF ?_⟩)⟩
   exact⟨_,rfl,(by show 1≤sizeLine;decide),fun p hp=>q _ _ (same_new hp _) hp upd_same⟩
  |@pr b y1 y2 v1 v2 hb h1 h2 =>
   simp only [Vl.ht] at hh
   simp only [Vl.fl,List.length_append] at hl
   refine⟨_,rfl,.ref b,rfl,.inr (.inr ⟨b,_,rfl,SqT.of hb,true,rfl,iteT ?_⟩)⟩
   refine⟨_,rfl,b,_,_,_,rfl,rfl,SqT.of hb,at0,y1,v1,rfl,h1,by omega,by omega,fun H2 l1 s2 n1 e1=>?_⟩
   refine⟨_,rfl,b,_,_,_,rfl,rfl,SqT.of (s2 _ _ hb),at1,y2,v2,rfl,h2.same s2,by omega,by omega,fun H3 l2 s3 n2 e2=>?_⟩
   refine⟨l1,l2,_,_,rfl,rfl,s3 _ _ e1,e2,?_,fun p hp=>q _ _ (s2.trans (s3.trans (same_new hp _))) ?_ ?_⟩
   ·rw [List.length_map,List.length_map]
    exact Nat.le_of_lt (small1000 (by omega))
   ·cases e:H p with
    |none=>rfl
    |some o=>rw [(s2.trans s3) _ _ e] at hp;cases hp
   ·rw [upd_same,←List.map_append]
    rfl
theorem scAns:FnScope ["_law_kind","_law_values","_law_total","_law_value_here","_law_number"] ["_law_kind","_law_values"] (defScope sAns):=⟨rfl,rfl,rfl,by decide +kernel,rfl,by decide +kernel,by decide +kernel⟩
theorem foldl_snoc{α β:Type}(f:β→α→β)(b:β){l:List α}{i:Nat}{x:α}(h:l[i]?=some x):(l.take (i+1)).foldl f b=f ((l.take i).foldl f b) x:=by
 rw [←take_snoc h,List.foldl_append]
 rfl
set_option maxHeartbeats 0 in
theorem ok_ans{f fF:Addr}{fd fdF:FuncData} (F:Fun K "_law_answer" "_law_answer" sAns f fd) (bR:Binds K fd ["_law_kind","_law_values"] []) (mR:mg "_law_answer"=some (.ref f))
  (GF:FnOk P w K mg base CX0 10 fF fdF ["_law_value_here"] (spFlat 9)) (bF:Binds K fdF ["_law_value_here"] []) (kF:PySem.W.keepIn K (.ref fF)=true) (mF:mg "_law_flat"=some (.ref fF)) :
  ∀n,FnOk P w K mg base CX0 (n+11) f fd ["_law_kind","_law_values"] (spAns K n)
 |0=>⟨fun vs H Q E h=>by obtain⟨_,_,_,_,_,rfl,_⟩:=h;rfl,fun A outer s H args us vs Q E _ _ _ _ h=>by
   obtain⟨_,_,k,_,_,_,_,_,h,_⟩:=h
   have:=kd_pos k
   omega⟩
 |n+1=>by
  have GR:=ok_ans F bR mR GF bF kF mF n
  have kR:=F.kp
  refine F.ok scAns (fun vs H Q E h=>?_) (fun cdv A outer s H vs Q E hrR h=>?_)
  ·obtain⟨_,_,_,_,_,rfl,_⟩:=h
   rfl
  obtain⟨x,a,k,us,ws,rfl,hx,hg,hn,ha,hus,hlen,hws,q⟩:=h
  have hrF:Room 10 _:=hrR.mono (by omega)
  have hul:us.length=ws.length:=hus.length
  obtain⟨t2,d2,k2⟩:∃t,PSs (cxOf CX0 P w K mg base ["_law_kind","_law_values","_law_total","_law_value_here","_law_number"] "_law_answer" (defScope sAns) f cdv A outer s H E).nox (List.drop 2 (defBody sAns)) t ∧
    ∀(H1:Hp) (v3 v4:Option V),Same H H1→t { nx:=fun _ H'=>Q .non H',rt:=Q } [some x,some (.ref a),some (.int (tot ws)),v3,v4] H1:=by
   refine⟨_,@pss_cons _ _ _ _ _ (ps_if (pt_cmpR op_eq (pe_ix ix_tup (pv 0) pe_int (fun _ _=>rfl)) pe_str (nomark _)) (@pss_one _ _ _ (@ps_ret _ _ _ _ (pe_op op_mod (pv 2) (pe_ix ix_tup (pv 0) pe_int (fun _ _=>rfl))))) pss_nil) (@pss_one _ _ _ (@ps_ret _ _ _ _ (@pe_tup _ _ _ _ _ (@pa_cons _ _ _ _ _ (pe_call GR hrR rfl mR kR bR .nil pass0 (@pa_cons _ _ _ _ _ (pe_ix ix_tup (pv 0) pe_int (fun _ _=>rfl)) (@pa_cons _ _ _ _ _ (pv 1) pa_nil rfl) rfl)) (@pa_cons _ _ _ _ _ (pe_call GR hrR rfl mR kR bR .nil pass0 (@pa_cons _ _ _ _ _ (pe_ix ix_tup (pv 0) pe_int (fun _ _=>rfl)) (@pa_cons _ _ _ _ _ (pe_op op_cat (pv 1) (pe_lst (@pa_cons _ _ _ _ _ pe_int pa_nil rfl))) pa_nil rfl) rfl)) pa_nil rfl) rfl)))),?_⟩
   intro H1 v3 v4 s1
   have ha1:=s1 _ _ ha
   cases hx with
   |@num b m hb =>
    cases hg with
    |num g1 g2 =>
     refine⟨_,rfl,b,_,_,_,rfl,rfl,s1.tup hb,at0,rfl,_,rfl,ite2 (fun _=>?_) (fun e=>absurd (decide_eq_true rfl) e)⟩
     exact⟨_,rfl,_,rfl,b,_,_,_,rfl,rfl,s1.tup hb,at1,_,_,rfl,rfl,g1,q _ _ s1 .num⟩
   |name hb=>cases hg
   |@pair b y1 y2 k1 k2 hb h1 h2 =>
    cases hg with
    |pair g1 g2 =>
     simp only [Kd.depth] at hn
     refine⟨_,rfl,b,_,_,_,rfl,rfl,s1.tup hb,at0,rfl,_,rfl,ite2 (fun e=>absurd (of_decide_eq_true e) (by intro z;cases z)) (fun _=>?_)⟩
     refine⟨_,rfl,b,_,_,_,rfl,rfl,s1.tup hb,at1,_,rfl,y1,a,k1,us,ws,rfl,h1.same s1,g1,by omega,ha1,hus.same s1,by omega,hws,fun H2 u s2 u1=>?_⟩
     refine⟨_,rfl,b,_,_,_,rfl,rfl,(s1.trans s2).tup hb,at2,_,rfl,(by show 1≤sizeLine;decide),fun l hl=>?_⟩
     have s3:=same_new hl (.lst [.int 7])
     refine⟨a,l,us,[.int 7],rfl,rfl,s3 _ _ (s2 _ _ ha1),upd_same,small1000 (by show us.length≤1000;omega),fun p hp=>?_⟩
     have s4:=same_new hp (.lst (us++[.int 7]))
     have s24:=s1.trans (s2.trans (s3.trans s4))
     refine⟨y2,p,k2,us++[.int 7],ws++[.num 7],rfl,h2.same s24,g2,by omega,upd_same,VsAt.snoc .num (hus.same s24),by rw [List.length_append];show us.length+1+n≤500;omega,fun v hv=>?_,fun H5 u' s5 u2=>?_⟩
     ·rcases List.mem_append.mp hv with z|z
      ·exact hws v z
      ·obtain rfl:v=.num 7:=by simpa using z
       exact⟨by decide,by decide⟩
     ·refine⟨(by show 2≤sizeLine;decide),fun p2 hp2=>?_⟩
      have s6:=same_new hp2 (.tup [u,u'])
      exact q _ _ (s24.trans (s5.trans s6)) (.pr upd_same (u1.same ((s3.trans s4).trans (s5.trans s6))) (u2.same s6))
  refine⟨_,@pss_cons _ _ _ _ _ (ps_set (i:=2) scAns.nd rfl (Or.inl rfl) pe_int) (@pss_cons _ _ _ _ _ (ps_for PassesOwn.never rfl (pi_list (pv 1)) (pg_name (i:=3) scAns.nd rfl (Or.inl rfl)) (@pss_one _ _ _ (ps_for PassesOwn.never rfl (pi_list (pe_call GF hrF rfl mF kF bF .nil pass0 (@pa_cons _ _ _ _ _ (pv 3) pa_nil rfl))) (pg_name (i:=4) scAns.nd rfl (Or.inl rfl)) (@pss_one _ _ _ (ps_set (i:=2) scAns.nd rfl (Or.inl rfl) (pe_op op_add (pe_op op_mul (pv 2) pe_int) (pv 4))))))) d2),?_⟩
  refine⟨_,rfl,a,rfl,⟨us,SqL.of ha⟩,for_list (xs:=us) (fun i σ H1=>∃v3 v4,σ=[some x,some (.ref a),some (.int (tot (ws.take i))),v3,v4]∧Same H H1) ⟨none,none,rfl,Same.refl _⟩ ?_ ?_ ?_⟩
  ·rintro i σ H1 hi ⟨v3,v4,rfl,s1⟩
   exact SqL.of (s1 _ _ ha)
  ·rintro i y σ H1 hy ⟨v3,v4,rfl,s1⟩
   obtain⟨v,hv,hyv⟩:=pair_get hus hy
   obtain⟨m1,m2⟩:=hws v (List.mem_of_getElem? hv)
   refine⟨_,rfl,y,v,rfl,hyv.same s1,m1,m2,fun H2 l s2 n2 e2=>?_⟩
   refine⟨l,rfl,⟨_,SqL.of e2⟩,for_list (xs:=v.fl.map V.int) (fun j σ H3=>∃v4,σ=[some x,some (.ref a),some (.int ((v.fl.take j).foldl (fun t n=>t*31+n) (tot (ws.take i)))),some y,v4]∧Same H2 H3) ⟨_,rfl,Same.refl _⟩ ?_ ?_ ?_⟩
   ·rintro j σ H3 hj ⟨v4,rfl,s3⟩
    exact SqL.of (s3 _ _ e2)
   ·rintro j z σ H3 hz ⟨v4,rfl,s3⟩
    obtain⟨n1,hn1,rfl⟩:∃n1,v.fl[j]?=some n1∧z=.int n1:=by
     rw [List.getElem?_map] at hz
     cases e:v.fl[j]? with
     |none=>rw [e] at hz;cases hz
     |some n1=>rw [e] at hz;cases hz;exact⟨n1,rfl,rfl⟩
    refine⟨_,rfl,_,_,rfl,rfl,.inr ⟨by decide,by decide⟩,_,rfl,_,_,rfl,rfl,some (.int n1),?_,s3⟩
    rw [foldl_snoc _ _ hn1]
    rfl
   ·rintro σ H3 ⟨v4,rfl,s3⟩
    refine⟨some y,v4,?_,s1.trans (s2.trans s3)⟩
    have e:tot (ws.take (i+1))=v.fl.foldl (fun t n=>t*31+n) (tot (ws.take i)):=foldl_snoc _ _ hv
    have e9:v.fl.take (v.fl.map V.int).length=v.fl:=by rw [List.length_map,List.take_length]
    rw [e,e9]
  ·rintro σ H1 ⟨v3,v4,rfl,s1⟩
   have:=k2 H1 v3 v4 s1
   rw [hul,List.take_length]
   exact this
end
end K72
namespace K72
open PySem L2 Kk
def ToldAt(K:PySem.W.Frag)(H:Hp)(u:V)(us:List Kd)(k:Kd):Prop:=∃p tk vs x,u=.ref p∧H p=some (.tup [.ref tk,x])∧H tk=some (.lst vs)∧Paired (KdAt K H) vs us∧KdAt K H x k
theorem ToldAt.same{K:PySem.W.Frag}{H H':Hp}(s:Same H H'){u:V}{us:List Kd}{k:Kd}(h:ToldAt K H u us k):ToldAt K H' u us k:=by
 obtain⟨p,tk,vs,x,e,h1,h2,h3,h4⟩:=h
 exact⟨p,tk,vs,x,e,s _ _ h1,s _ _ h2,Paired.mapP h3 fun _ _ z=>z.same s,h4.same s⟩
def TabAt(K:PySem.W.Frag)(W:Hp)(kvs:List (List Key × V))(F:FT):Prop:=∀q t,(F q t=none∧valV kvs [Sum.inr q,Sum.inr t]=none)∨∃us k u,F q t=some (us,k)∧valV kvs [Sum.inr q,Sum.inr t]=some u∧ToldAt K W u us k
theorem TabAt.same{K:PySem.W.Frag}{H H':Hp}(s:Same H H'){kvs:List (List Key × V)}{F:FT}(h:TabAt K H kvs F):TabAt K H' kvs F:=fun q t=>by
 rcases h q t with z|⟨us,k,u,e1,e2,e3⟩
 ·exact .inl z
 ·exact .inr ⟨us,k,u,e1,e2,e3.same s⟩
def FtOk(F:FT):Prop:=∀q t ks k,F q t=some (ks,k)→(Gd k∧Kd.depth k≤2)∧ks.length≤4∧∀k'∈ks,Gd k'∧Kd.depth k'≤2
def FnsAt(K:PySem.W.Frag)(W:Hp)(lf:Addr)(F:FT):Prop:=∃kvs,W lf=some (.dT kvs)∧TabAt K W kvs F
theorem FnsAt.same{K:PySem.W.Frag}{H H':Hp}(s:Same H H'){lf:Addr}{F:FT}(h:FnsAt K H lf F):FnsAt K H' lf F:=by
 obtain⟨kvs,h1,h2⟩:=h
 exact⟨kvs,s _ _ h1,h2.same s⟩
theorem of_ht{k:Kd}{v:Vl}(h:VlOf k v):v.ht≤Kd.depth k∧v.fl.length≤2 ^ Kd.depth k:=by
 induction h with
 |num _ _ _=>exact⟨Nat.le_refl _,by show 1≤2 ^ 1;decide⟩
 |@pr k l a b _ _ i1 i2 =>
  obtain⟨a1,a2⟩:=i1
  obtain⟨b1,b2⟩:=i2
  simp only [Vl.ht,Kd.depth,Vl.fl,List.length_append]
  refine⟨by omega,?_⟩
  have c1:2 ^ Kd.depth k≤2 ^ max (Kd.depth k) (Kd.depth l):=Nat.pow_le_pow_right (by decide) (by omega)
  have c2:2 ^ Kd.depth l≤2 ^ max (Kd.depth k) (Kd.depth l):=Nat.pow_le_pow_right (by decide) (by omega)
  rw [Nat.pow_add]
  omega
theorem bootListT:bootBuiltins "list"=some (.type "list"):=by decide +kernel
theorem vls_len{ks:List Kd}{ws:List Vl}(h:VlsOf ks ws):ks.length=ws.length:=h.length
theorem vls_get:∀{ks:List Kd} {ws:List Vl},VlsOf ks ws→∀v∈ws,∃k∈ks,VlOf k v
 |_,_,.cons a r,v,h=>by
  rcases List.mem_cons.mp h with rfl|h
  ·exact⟨_,.head _,a⟩
  ·obtain⟨k,h1,h2⟩:=vls_get r v h
   exact⟨k,.tail _ h1,h2⟩
def spNoted(K:PySem.W.Frag):Sp:=fun vs H Q _=>∃(lh lf l:Addr) (q t:Str) (ls:List Addr) (tr:List Call) (F:FT) (ks:List Kd) (k:Kd) (us:List V) (ws:List Vl),vs=[.ref lh,.ref lf,.str q,.str t,.ref l]∧HdAt H lh ls tr∧tr.length≤900∧FnsAt K (zo H [lh]) lf F∧FtOk F∧F q t=some (ks,k)∧zo H [lh] l=some (.lst us)∧VsAt (zo H [lh]) us ws∧VlsOf ks ws ∧
 ∀H2 u,Same (zo H [lh]) (zo H2 [lh])→HdAt H2 lh (ls++[l]) (tr++[(q,t,ws)])→VAt (zo H2 [lh]) u (ansV k ws)→Q u H2
section
variable{P:Program}{w:World}{K:PySem.W.Frag}{mg:Str→Option Value}{base:Heap}
theorem scNoted:FnScope ["_law_heard","_law_funs","_law_q","_law_f","_law_values"] ["_law_heard","_law_funs","_law_q","_law_f","_law_values"] (defScope sNoted):=⟨rfl,rfl,rfl,by decide +kernel,rfl,by decide +kernel,by decide +kernel⟩
set_option maxHeartbeats 0 in
theorem ok_noted{f fR:Addr}{fd fdR:FuncData} (F:Fun K "_law_noted" "_law_noted" sNoted f fd) (mli:mg "list"=none)
  (GR:FnOk P w K mg base CX0 13 fR fdR ["_law_kind","_law_values"] (spAns K 2)) (bR:Binds K fdR ["_law_kind","_law_values"] []) (kR:PySem.W.keepIn K (.ref fR)=true) (mR:mg "_law_answer"=some (.ref fR)) :
  FnOk P w K mg base CX0 14 f fd ["_law_heard","_law_funs","_law_q","_law_f","_law_values"] (spNoted K):=by
 refine F.ok scNoted (fun vs H Q E h=>?_) (fun cdv A outer s H vs Q E hr h=>?_)
 ·obtain⟨_,_,_,_,_,_,_,_,_,_,_,_,rfl,_⟩:=h
  rfl
 obtain⟨lh,lf,l,qq,t,ls,tr,FF,ks,k,us,ws,rfl,hhd,htr,hF,hok,hft,hl,hus,hws,q⟩:=h
 have hrR:Room 13 _:=hr.mono (by decide)
 have hu:=hu_of hr
 refine⟨_,@pss_cons _ _ _ _ _ (ps_expr (pe_bm PySem.F.plainAttrs_list PySem.F.slot_list_append PySem.F.type_list_append mt_append (pv 0) (@pa_cons _ _ _ _ _ (@pe_tup _ _ _ _ _ (@pa_cons _ _ _ _ _ (pv 2) (@pa_cons _ _ _ _ _ (pv 3) (@pa_cons _ _ _ _ _ (pv 4) pa_nil rfl) rfl) rfl)) pa_nil rfl))) (@pss_one _ _ _ (@ps_ret _ _ _ _ (pe_call GR hrR rfl mR kR bR .nil pass0 (@pa_cons _ _ _ _ _ (pe_ix ix_tup (pe_dget hu (pv 1) (@pe_tup _ _ _ _ _ (@pa_cons _ _ _ _ _ (pv 2) (@pa_cons _ _ _ _ _ (pv 3) pa_nil rfl) rfl)) (fun _ _=>rfl)) pe_int (fun _ _=>rfl)) (@pa_cons _ _ _ _ _ (pe_callTy call_list_of rfl mli bootListT (@pa_cons _ _ _ _ _ (pv 4) pa_nil rfl)) pa_nil rfl) rfl)))),?_⟩
 obtain⟨xs,hx1,hx2⟩:=id hhd
 refine⟨_,rfl,.inl ⟨rfl,_,SqL.of hx1⟩,_,rfl,_,rfl,_,rfl,(by show 3≤sizeLine;decide),fun p hp=>?_⟩
 have s1:=same_new hp (.tup [.str qq,.str t,.ref l])
 have np:p≠lh:=fun e=>by rw [e,hx1] at hp;cases hp
 refine⟨lh,xs,_,rfl,rfl,s1 _ _ hx1,small1000 (by rw [hx2.len];omega),?_⟩
 have z1:Same (zo H [lh]) (zo (upd (upd H p (.tup [.str qq,.str t,.ref l])) lh (.lst (xs++[.ref p]))) [lh]):=by
  rw [zo_upd (by simp)]
  exact zo_mono s1
 have g1:zo (upd (upd H p (.tup [.str qq,.str t,.ref l])) lh (.lst (xs++[.ref p]))) [lh] p=some (.tup [.str qq,.str t,.ref l]):=by
  rw [zo_upd (by simp)]
  exact zo_nw hp hhd.ne
 have hh1:HdAt (upd (upd H p (.tup [.str qq,.str t,.ref l])) lh (.lst (xs++[.ref p]))) lh (ls++[l]) (tr++[(qq,t,ws)]):=⟨_,upd_same,CsAt.snoc ⟨p,us,rfl,g1,z1 _ _ hl,hus.same z1⟩ (hx2.same z1)⟩
 generalize upd (upd H p (.tup [.str qq,.str t,.ref l])) lh (.lst (xs++[.ref p]))=H1 at z1 g1 hh1
 obtain⟨kvs,hk1,hk2⟩:=hF.same z1
 obtain⟨u,e2,p',tk,vs',x',rfl,t1,t2,t3,t4⟩:∃u,valV kvs [Sum.inr qq,Sum.inr t]=some u∧ToldAt K (zo H1 [lh]) u ks k:=by
  rcases hk2 qq t with ⟨e1,_⟩|⟨us',k',u,e1,e2,e3⟩
  ·rw [hft] at e1;cases e1
  ·rw [hft] at e1
   cases e1
   exact⟨u,e2,e3⟩
 obtain⟨⟨hg,hd⟩,hkl,hks⟩:=hok _ _ _ _ hft
 refine⟨_,rfl,_,rfl,_,rfl,(by show 2≤sizeLine;decide),fun pk hpk=>?_⟩
 have s2:=same_new hpk (.tup [.str qq,.str t])
 have z2:=zo_mono (S:=[lh]) s2
 have g:=DGet.t (k:=[Sum.inr qq,Sum.inr t]) (s2 _ _ (zo_same _ _ hk1)) upd_same
 rw [e2] at g
 refine⟨lf,.ref p',rfl,g,p',_,_,_,rfl,rfl,SqT.of (s2 _ _ (zo_same _ _ t1)),at1,_,rfl,l,_,rfl,.inl (SqL.of (s2 _ _ (zo_same _ _ (z1 _ _ hl)))),fun l2 hl2=>?_⟩
 have s3:=same_new hl2 (.lst us)
 have s23:=s2.trans s3
 have hn:us.length=ws.length:=hus.length
 have hkw:=vls_len hws
 refine⟨x',l2,k,us,ws,rfl,t4.same (zo_same.trans s23),hg,hd,upd_same,hus.same (z1.trans (zo_same.trans s23)),by omega,fun v hv=>?_,fun H5 u5 s5 a5=>?_⟩
 ·obtain⟨k',e1,e2⟩:=vls_get hws v hv
  obtain⟨a1,a2⟩:=of_ht e2
  have hd':=(hks k' e1).2
  have:2 ^ Kd.depth k'≤2 ^ 2:=Nat.pow_le_pow_right (by decide) hd'
  exact⟨by omega,by omega⟩
 ·have s25:=s23.trans s5
  have hh5:=hh1.same s25
  obtain⟨ys,ey,_⟩:=id hh5
  exact q _ _ (z1.trans (zo_mono s25)) hh5 (vat_zo ey a5)
end
end K72
namespace L2
open PySem
theorem comp_fr{m:Nat}{n:Nat}{κ:List Nat}{g:TG}{tc:TT}{te:TE}{σ:St}{H:Hp}{Q:VK}(hz:m≤1000)(R:Nat→List V→Hp→Prop)(h0:R 0 [] H)(hlen:∀i ys H2,R i ys H2→ys.length≤i)
  (hs:∀i ys H2 (N:List V→Hp→Prop),(∀ys' H',R (i+1) ys' H'→N ys' H')→i < m→R i ys H2→g (.int i) (blkSt n κ σ) H2 fun σ4 H4=>σ4.drop n=(blkSt n κ σ).drop n∧tc σ4 H4 fun b H5=>if b=true then te σ4 H5 fun v H6=>N (ys++[v]) H6 else N ys H5)
  (hQ:∀ys H2 D,R m ys H2→H2 D=none→Q (.ref D) (upd H2 D (.lst ys))):CompRun n κ g tc te σ (Itr 0 m) H Q:=by
 refine comp_by (J:=Itr 0 m) (xs:=rangeV 0 m) R h0 (by rw [rangeV_len];exact Nat.le_of_lt (small1000 hz)) hlen ?_ ?_ ?_ ?_ ?_
 ·rintro i u ys H3 hu _
  exact itr_go hu
 ·rintro i ys u H3 H' hn _ hy
  rw [rangeV_len] at hn
  exact itr_yld' hn hy
 ·rintro ys H3 _
  rw [rangeV_len]
  exact Nat.le_refl _
 ·rintro i u ys H3 N hN hu h
  obtain⟨hi,rfl⟩:=rangeV_get.mp hu
  rw [Int.zero_add]
  exact hs i ys H3 N hN hi h
 ·rintro ys H3 D h hD
  rw [rangeV_len] at h
  exact hQ ys H3 D h hD
theorem comp_fT{K:PySem.W.Frag}{p:Addr}{xs:List V}{n:Nat}{κ:List Nat}{g:TG}{tc:TT}{te:TE}{σ:St}{H:Hp}{Q:VK}(hx:xs.length≤1000)(R:Nat→List V→Hp→Prop)(h0:R 0 [] H)(hp:∀i ys H2,R i ys H2→SqT K H2 p xs)(hlen:∀i ys H2,R i ys H2→ys.length≤i)
  (hs:∀i u ys H2 (N:List V→Hp→Prop),(∀ys' H',R (i+1) ys' H'→N ys' H')→xs[i]?=some u→R i ys H2→g u (blkSt n κ σ) H2 fun σ4 H4=>σ4.drop n=(blkSt n κ σ).drop n∧tc σ4 H4 fun b H5=>if b=true then te σ4 H5 fun v H6=>N (ys++[v]) H6 else N ys H5)
  (hQ:∀ys H2 D,R xs.length ys H2→H2 D=none→Q (.ref D) (upd H2 D (.lst ys))):CompRun n κ g tc te σ (Itt K p) H Q:=by
 refine comp_by (J:=Itt K p) (xs:=xs) R h0 (Nat.le_of_lt (small1000 hx)) hlen ?_ ?_ ?_ ?_ ?_
 ·rintro i u ys H3 hu h
  exact⟨_,_,hp _ _ _ h,hu⟩
 ·rintro i ys u H3 H' hn h hy
  exact⟨hy.1,hy.2 _ (hp _ _ _ h)⟩
 ·rintro ys H3 h
  exact⟨_,hp _ _ _ h,Nat.le_refl _⟩
 ·rintro i u ys H3 N hN hu h
  exact hs i u ys H3 N hN hu h
 ·rintro ys H3 D h hD
  exact hQ ys H3 D h hD
end L2
namespace K72
open PySem L2 Kk
open Classical in
noncomputable def ansC(F:FT):Orc:=fun q t ws=>match F q t with
 |some (ks,k)=>if VlsOf ks ws then some (ansV k ws) else none
 |none=>none
theorem ansC_ok{F:FT}(h:FtOk F):FunOk F (ansC F):=fun q t ks k ws e hv=>⟨ansV k ws,by unfold ansC;rw [e];exact if_pos hv,ans_of ws (h _ _ _ _ e).1.1⟩
theorem ansC_eq{F:FT}{q t:Str}{ks:List Kd}{k:Kd}{ws:List Vl}(e:F q t=some (ks,k))(hv:VlsOf ks ws):ansC F q t ws=some (ansV k ws):=by
 unfold ansC
 rw [e]
 exact if_pos hv
def HdE(H:Hp)(lc:Addr)(tr:List Call):Prop:=∃ls,HdAt H lc ls tr
theorem HdE.same{H H':Hp}(s:Same H H'){lh:Addr}{tr:List Call}(h:HdE H lh tr):HdE H' lh tr:=by
 obtain⟨ls,h⟩:=h
 exact⟨ls,h.same s⟩
theorem ex_tup{H:Hp}{x:V}{e:Ex}(h:ExAt H x e):∃p ys,x=.ref p∧H p=some (.tup ys):=by
 cases h with
 |lit h=>exact⟨_,_,rfl,h⟩
 |var h=>exact⟨_,_,rfl,h⟩
 |if_ h=>exact⟨_,_,rfl,h⟩
 |let_ h=>exact⟨_,_,rfl,h⟩
 |nd h=>exact⟨_,_,rfl,h⟩
 |call h=>exact⟨_,_,rfl,h⟩
theorem fm_plain{f:Fm}{i:Nat}{u:V}(h:f.vals[i]?=some u):(∃z,u=.str z)∨∃n,u=.int n:=by
 have hm:=List.mem_of_getElem? h
 cases f<;>simp only [Fm.vals,List.mem_cons,List.not_mem_nil,or_false] at hm<;>rcases hm with rfl|rfl|rfl<;>first|exact .inl ⟨_,rfl⟩|exact .inr ⟨_,rfl⟩
theorem call_isiTK{X:Cx}{K:PySem.W.Frag}(h:X.K=K):CallR X (.builtin "isinstance") (fun xs H Q=>∃x,xs=[x,.ty "tuple"]∧((∃z,x=.str z∧Q (.bl false) H)∨(∃i,x=.int i∧Q (.bl false) H)∨∃a ys,x=.ref a∧SqT K H a ys∧Q (.bl true) H)):=by
 subst h
 exact call_isiTA
theorem ty_nd{F:FT}{G:GT}{f:Fm}{es:List Ex}{k:Kd}(h:Ty F G (.nd f es) k):∃ks,Tys F G es ks:=by
 cases h with
 |two a b=>exact⟨_,.cons a (.cons b .nil)⟩
 |fst a=>exact⟨_,.cons a .nil⟩
 |snd a=>exact⟨_,.cons a .nil⟩
 |op _ a b=>exact⟨_,.cons a (.cons b .nil)⟩
 |test _ a b=>exact⟨_,.cons a (.cons b .nil)⟩
 |as_ _ _ a=>exact⟨_,.cons a .nil⟩
theorem tys_get{F:FT}{G:GT}:∀{es:List Ex} {ks:List Kd} {i:Nat} {e:Ex},Tys F G es ks→es[i]?=some e→∃k,Ty F G e k
 |_,_,_,_,.nil,h=>by simp at h
 |_,_,0,_,.cons a _,h=>by simp at h;subst h;exact⟨_,a⟩
 |_,_,i+1,e,.cons _ r,h=>tys_get (i:=i) (e:=e) r (by simpa using h)
def spReckL:Sp:=fun vs H Q _=>∃(o:Str) (n a b:Int),vs=[.str o,.int n,.int a,.int b]∧(o="+"∨o="-"∨o="*")∧0 < n∧-(2 ^ 64) < a∧a < 2 ^ 64∧Q (.int (reck o a b%n)) H
def spValL(K:PySem.W.Frag)(n:Nat):Sp:=fun vs H Q _=>∃(x:V) (d lf lc:Addr) (e:Ex) (ρ:Str→Option Vl) (m:Nat) (F:FT) (G:GT) (k:Kd) (tr:List Call),vs=[x,.ref d,.ref lf,.ref lc]∧ExAt (zo H [lc]) x e∧e.ht≤n∧EnvAt (zo H [lc]) d ρ m∧m+n≤500∧FnsAt K (zo H [lc]) lf F∧FtOk F∧EnvOk G ρ∧Ty F G e k∧HdE H lc tr∧tr.length+(trc (ansC F) ρ e).length≤900 ∧
 ∀H' u v,Same (zo H [lc]) (zo H' [lc])→HdE H' lc (tr++trc (ansC F) ρ e)→ev (ansC F) ρ e=some v→VlOf k v→VAt (zo H' [lc]) u v→Q u H'
section
variable{P:Program}{w:World}{K:PySem.W.Frag}{mg:Str→Option Value}{base:Heap}
theorem scReckL:FnScope ["_law_sign","_law_many","_law_one","_law_other"] ["_law_sign","_law_many","_law_one","_law_other"] (defScope sReckL):=⟨rfl,rfl,rfl,by decide +kernel,rfl,by decide +kernel,by decide +kernel⟩
theorem ok_reckL{f:Addr}{fd:FuncData} (F:Fun K "_law_reckoned" "_law_reckoned" sReckL f fd):FnOk P w K mg base CX0 1 f fd ["_law_sign","_law_many","_law_one","_law_other"] spReckL:=by
 refine F.ok scReckL (fun vs H Q E h=>?_) (fun cdv A outer s H vs Q E hr h=>?_)
 ·obtain⟨_,_,_,_,rfl,_⟩:=h
  rfl
 obtain⟨o,n,a,b,rfl,ho,hn,h1,h2,q⟩:=h
 refine⟨_,@pss_cons _ _ _ _ _ (ps_if (pt_cmpR op_eq (pv 0) pe_str (nomark _)) (@pss_one _ _ _ (@ps_ret _ _ _ _ (pe_op op_mod (pe_op op_add (pv 2) (pv 3)) (pv 1)))) pss_nil) (@pss_cons _ _ _ _ _ (ps_if (pt_cmpR op_eq (pv 0) pe_str (nomark _)) (@pss_one _ _ _ (@ps_ret _ _ _ _ (pe_op op_mod (pe_op op_sub (pv 2) (pv 3)) (pv 1)))) pss_nil) (@pss_one _ _ _ (@ps_ret _ _ _ _ (pe_op op_mod (pe_op op_mul (pv 2) (pv 3)) (pv 1))))),?_⟩
 rcases ho with rfl|rfl|rfl
 ·exact⟨_,rfl,rfl,_,rfl,ite2 (fun _=>⟨_,rfl,_,rfl,_,_,rfl,rfl,_,rfl,_,_,rfl,rfl,hn,q⟩) (fun e=>absurd (decide_eq_true rfl) e)⟩
 ·refine⟨_,rfl,rfl,_,rfl,ite2 (fun e=>absurd (of_decide_eq_true e) (by intro z;cases z)) (fun _=>?_)⟩
  exact⟨_,rfl,rfl,_,rfl,ite2 (fun _=>⟨_,rfl,_,rfl,_,_,rfl,rfl,_,rfl,_,_,rfl,rfl,hn,q⟩) (fun e=>absurd (decide_eq_true rfl) e)⟩
 ·refine⟨_,rfl,rfl,_,rfl,ite2 (fun e=>absurd (of_decide_eq_true e) (by intro z;cases z)) (fun _=>?_)⟩
  refine⟨_,rfl,rfl,_,rfl,ite2 (fun e=>absurd (of_decide_eq_true e) (by intro z;cases z)) (fun _=>?_)⟩
  exact⟨_,rfl,_,rfl,_,_,rfl,rfl,.inl ⟨h1,h2⟩,_,rfl,_,_,rfl,rfl,hn,q⟩
theorem scValL:FnScope ["_law_one","_law_held","_law_funs","_law_calls","_law_word","_law_goes","_law_inner","_law_values"] ["_law_one","_law_held","_law_funs","_law_calls"] (defScope sValL):=⟨rfl,rfl,rfl,by decide +kernel,rfl,by decide +kernel,by decide +kernel⟩
set_option maxHeartbeats 0 in
theorem ok_valL{f fT fQ:Addr}{fd fdT fdQ:FuncData} (F:Fun K "_law_value" "_law_value" sValL f fd) (bV:Binds K fd ["_law_one","_law_held","_law_funs","_law_calls"] []) (mV:mg "_law_value"=some (.ref f)) (md:mg "dict"=none) (mis:mg "isinstance"=none) (mt:mg "tuple"=none) (mi:mg "int"=none)
  (GT:FnOk P w K mg base CX0 14 fT fdT ["_law_heard","_law_funs","_law_q","_law_f","_law_values"] (spNoted K)) (bT:Binds K fdT ["_law_heard","_law_funs","_law_q","_law_f","_law_values"] []) (kT:PySem.W.keepIn K (.ref fT)=true) (mT:mg "_law_noted"=some (.ref fT))
  (GQ:FnOk P w K mg base CX0 1 fQ fdQ ["_law_sign","_law_many","_law_one","_law_other"] spReckL) (bQ:Binds K fdQ ["_law_sign","_law_many","_law_one","_law_other"] []) (kQ:PySem.W.keepIn K (.ref fQ)=true) (mQ:mg "_law_reckoned"=some (.ref fQ)) :
  ∀n,FnOk P w K mg base CX0 (n+15) f fd ["_law_one","_law_held","_law_funs","_law_calls"] (spValL K n)
 |0=>⟨fun vs H Q E h=>by obtain⟨_,_,_,_,_,_,_,_,_,_,_,rfl,_⟩:=h;rfl,fun A outer s H args us vs Q E _ _ _ _ h=>by
   obtain⟨_,_,_,_,e,_,_,_,_,_,_,_,_,h0,_⟩:=h
   cases e<;>simp [Ex.ht] at h0⟩
 |n+1=>by
  have GV:=ok_valL F bV mV md mis mt mi GT bT kT mT GQ bQ kQ mQ n
  have kV:=F.kp
  refine F.ok scValL (fun vs H Q E h=>?_) (fun cdv A outer s H vs Q E hrV h=>?_)
  ·obtain⟨_,_,_,_,_,_,_,_,_,_,_,rfl,_⟩:=h
   rfl
  obtain⟨x,d,lf,lc,e,ρ,m,FF,G,k,tr,rfl,hx,hn,hd,hm,hF,hok,hG,hty,hhd,htr,q⟩:=h
  have hu:=hu_of hrV
  have hrT:Room 14 _:=hrV.mono (by omega)
  have hrQ:Room 1 _:=hrV.mono (by omega)
  have no:∀{a b:Str} {A B:Prop},a≠b→B→(if decide (V.str a=V.str b)=true then A else B):=fun h hb=>by rw [if_neg (str_no h)];exact hb
  have yes:∀{a:Str} {A B:Prop},A→(if decide (V.str a=V.str a)=true then A else B):=fun h=>by rw [if_pos str_yes];exact h
  have loc:∀{H1:Hp} {p:Addr} {xs:List V},zo H1 [lc] p=some (.tup xs)→SqT K H1 p xs:=fun h=>SqT.of (zo_same _ _ h)
  obtain⟨t7,d7,k7⟩:∃t,PSs (cxOf CX0 P w K mg base ["_law_one","_law_held","_law_funs","_law_calls","_law_word","_law_goes","_law_inner","_law_values"] "_law_value" (defScope sValL) f cdv A outer s H E).nox (List.drop 7 (defBody sValL)) t ∧
    ∀(H1:Hp) (p l:Addr) (z:Str) (fm:Fm) (r:List V) (xs us:List V) (ws:List Vl) (es:List Ex) (v:Vl),fm.vals=.str z::r→x=.ref p→zo H [lc] p=some (.tup (fm.vals++xs))→Same (zo H [lc]) (zo H1 [lc])→H1 l=some (.lst us)→VsAt (zo H1 [lc]) us ws→evs (ansC FF) ρ es=some ws→e=.nd fm es→Ty FF G (.nd fm es) k→HdE H1 lc (tr++trc (ansC FF) ρ e)→ev (ansC FF) ρ e=some v→VlOf k v →
    t { nx:=fun _ H'=>Q .non H',rt:=Q } [some x,some (.ref d),some (.ref lf),some (.ref lc),some (.str z),none,none,some (.ref l)] H1:=by
   refine⟨_,@pss_cons _ _ _ _ _ (ps_if (pt_cmpR op_eq (pv 4) pe_str (nomark _)) (@pss_one _ _ _ (@ps_ret _ _ _ _ (pe_call GQ hrQ rfl mQ kQ bQ .nil pass0 (@pa_cons _ _ _ _ _ (pe_ix ix_tup (pv 0) pe_int (fun _ _=>rfl)) (@pa_cons _ _ _ _ _ (pe_ix ix_tup (pv 0) pe_int (fun _ _=>rfl)) (@pa_cons _ _ _ _ _ (pe_ix ix_list (pv 7) pe_int (fun _ _=>rfl)) (@pa_cons _ _ _ _ _ (pe_ix ix_list (pv 7) pe_int (fun _ _=>rfl)) pa_nil rfl) rfl) rfl) rfl)))) pss_nil) (@pss_cons _ _ _ _ _ (ps_if (pt_cmpR op_eq (pv 4) pe_str (nomark _)) (@pss_one _ _ _ (@ps_ret _ _ _ _ (pe_callTy call_int1 rfl mi bootInt (@pa_cons _ _ _ _ _ (pe_ix ix_list (pe_lst (@pa_cons _ _ _ _ _ (pe_cmpR op_lt (pe_ix ix_list (pv 7) pe_int (fun _ _=>rfl)) (pe_ix ix_list (pv 7) pe_int (fun _ _=>rfl)) (nomark _)) (@pa_cons _ _ _ _ _ (pe_cmpR op_eq (pe_ix ix_list (pv 7) pe_int (fun _ _=>rfl)) (pe_ix ix_list (pv 7) pe_int (fun _ _=>rfl)) (nomark _)) pa_nil rfl) rfl)) (pe_callTy call_int1 rfl mi bootInt (@pa_cons _ _ _ _ _ (pe_cmpR op_eq (pe_ix ix_tup (pv 0) pe_int (fun _ _=>rfl)) pe_str (nomark _)) pa_nil rfl)) (fun _ _=>rfl)) pa_nil rfl)))) pss_nil) (@pss_cons _ _ _ _ _ (ps_if (pt_cmpR op_eq (pv 4) pe_str (nomark _)) (@pss_one _ _ _ (@ps_ret _ _ _ _ (pe_op op_mod (pe_ix ix_list (pv 7) pe_int (fun _ _=>rfl)) (pe_ix ix_tup (pv 0) pe_int (fun _ _=>rfl))))) pss_nil) (@pss_cons _ _ _ _ _ (ps_if (pt_cmpR op_eq (pv 4) pe_str (nomark _)) (@pss_one _ _ _ (@ps_ret _ _ _ _ (pe_callTy call_tuple_of rfl mt bootTuple (@pa_cons _ _ _ _ _ (pv 7) pa_nil rfl)))) pss_nil) (@pss_one _ _ _ (@ps_ret _ _ _ _ (pe_ix ix_tup (pe_ix ix_list (pv 7) pe_int (fun _ _=>rfl)) (pe_callTy call_int1 rfl mi bootInt (@pa_cons _ _ _ _ _ (pe_cmpR op_eq (pv 4) pe_str (nomark _)) pa_nil rfl)) (fun _ _=>rfl))))))),?_⟩
   intro H1 p l z fm r xs us ws es v ez hxp hp s1 hl hus hws he hty hh hv hvl
   subst he
   subst hxp
   have hpl:=loc (s1 _ _ hp)
   have hlL:SqL K H1 l us:=SqL.of hl
   have fin:∀{u:V},VAt (zo H1 [lc]) u v→Q u H1:=fun hu=>q _ _ _ s1 hh hv hvl hu
   have hv2:=hv
   rw [ev,hws] at hv2
   cases hty with
   |@two _ a b k1 k2 ha hb =>
    obtain⟨ws',w1,w2⟩:=evs_ok (ansC_ok hok) hG (.cons ha (.cons hb .nil))
    rw [hws] at w1
    cases w1
    cases w2 with
    |cons a2 r2=>cases r2 with
     |cons b2 r3 =>
      cases r3
      cases ez
      cases hus with
      |cons u1 r4=>cases r4 with
       |cons u2 r5 =>
        cases r5
        cases hv2
        refine⟨_,rfl,rfl,_,rfl,no (by decide +kernel) ?_⟩
        refine⟨_,rfl,rfl,_,rfl,no (by decide +kernel) ?_⟩
        refine⟨_,rfl,rfl,_,rfl,no (by decide +kernel) ?_⟩
        refine⟨_,rfl,rfl,_,rfl,yes ?_⟩
        refine⟨_,rfl,l,_,rfl,.inl ⟨hlL,fun p2 hp2=>?_⟩⟩
        obtain⟨ls,hls⟩:=id hh
        have s2:∀o,Same H1 (upd H1 p2 o):=same_new hp2
        exact q _ _ _ (s1.trans (zo_mono (s2 _))) (hh.same (s2 _)) hv hvl (.pr (zo_nw hp2 hls.ne) (u1.same (zo_mono (s2 _))) (u2.same (zo_mono (s2 _))))
   |@fst _ a k1 k2 ha =>
    obtain⟨ws',w1,w2⟩:=evs_ok (ansC_ok hok) hG (.cons ha .nil)
    rw [hws] at w1
    cases w1
    cases w2 with
    |cons a2 r2 =>
     cases r2
     cases a2 with
     |pr v1 v2 =>
      cases ez
      cases hus with
      |cons u1 r4 =>
       cases r4
       cases u1 with
       |pr g1 x1 x2 =>
        cases hv2
        refine⟨_,rfl,rfl,_,rfl,no (by decide +kernel) ?_⟩
        refine⟨_,rfl,rfl,_,rfl,no (by decide +kernel) ?_⟩
        refine⟨_,rfl,rfl,_,rfl,no (by decide +kernel) ?_⟩
        refine⟨_,rfl,rfl,_,rfl,no (by decide +kernel) ?_⟩
        refine⟨_,rfl,l,_,_,_,rfl,rfl,hlL,at0,?_⟩
        refine⟨_,rfl,rfl,.inr ⟨_,rfl,?_⟩⟩
        rw [if_neg (str_no (a:="first") (b:="second") (by decide +kernel))]
        exact⟨_,_,_,_,rfl,rfl,loc g1,at0,fin x1⟩
   |@snd _ a k1 k2 ha =>
    obtain⟨ws',w1,w2⟩:=evs_ok (ansC_ok hok) hG (.cons ha .nil)
    rw [hws] at w1
    cases w1
    cases w2 with
    |cons a2 r2 =>
     cases r2
     cases a2 with
     |pr v1 v2 =>
      cases ez
      cases hus with
      |cons u1 r4 =>
       cases r4
       cases u1 with
       |pr g1 x1 x2 =>
        cases hv2
        refine⟨_,rfl,rfl,_,rfl,no (by decide +kernel) ?_⟩
        refine⟨_,rfl,rfl,_,rfl,no (by decide +kernel) ?_⟩
        refine⟨_,rfl,rfl,_,rfl,no (by decide +kernel) ?_⟩
        refine⟨_,rfl,rfl,_,rfl,no (by decide +kernel) ?_⟩
        refine⟨_,rfl,l,_,_,_,rfl,rfl,hlL,at0,?_⟩
        refine⟨_,rfl,rfl,.inr ⟨_,rfl,?_⟩⟩
        rw [if_pos (str_yes (a:="second"))]
        exact⟨_,_,_,_,rfl,rfl,loc g1,at1,fin x2⟩
   |@op _ o n0 a b ho ha hb =>
    obtain⟨ws',w1,w2⟩:=evs_ok (ansC_ok hok) hG (.cons ha (.cons hb .nil))
    rw [hws] at w1
    cases w1
    cases w2 with
    |cons a2 r2=>cases r2 with
     |cons b2 r3 =>
      cases r3
      cases a2 with
      |num c1 c2 c3=>cases b2 with
       |num e1 e2 e3 =>
        cases ez
        cases hus with
        |cons u1 r4=>cases r4 with
         |cons u2 r5 =>
          cases r5
          obtain rfl:=v_num u1
          obtain rfl:=v_num u2
          have h0:0 < n0:=by omega
          replace hv2:=(if_pos ⟨h0,by omega,by omega⟩).symm.trans hv2
          cases hv2
          refine⟨_,rfl,rfl,_,rfl,yes ?_⟩
          exact⟨_,rfl,p,_,_,_,rfl,rfl,hpl,at1,_,rfl,p,_,_,_,rfl,rfl,hpl,at2,_,rfl,l,_,_,_,rfl,rfl,hlL,at0,_,rfl,l,_,_,_,rfl,rfl,hlL,at1,o,n0,_,_,rfl,ho,h0,by omega,by omega,fin .num⟩
   |@test _ o n0 a b ho ha hb =>
    obtain⟨ws',w1,w2⟩:=evs_ok (ansC_ok hok) hG (.cons ha (.cons hb .nil))
    rw [hws] at w1
    cases w1
    cases w2 with
    |cons a2 r2=>cases r2 with
     |cons b2 r3 =>
      cases r3
      cases a2 with
      |num c1 c2 c3=>cases b2 with
       |num e1 e2 e3 =>
        cases ez
        cases hus with
        |cons u1 r4=>cases r4 with
         |cons u2 r5 =>
          cases r5
          obtain rfl:=v_num u1
          obtain rfl:=v_num u2
          cases hv2
          refine⟨_,rfl,rfl,_,rfl,no (by decide +kernel) ?_⟩
          refine⟨_,rfl,rfl,_,rfl,yes ?_⟩
          rcases ho with rfl|rfl
          ·rw [if_pos (rfl:("=":Str)="=")] at hv hvl
           refine⟨_,rfl,l,_,_,_,rfl,rfl,hlL,at0,_,rfl,l,_,_,_,rfl,rfl,hlL,at1,_,_,rfl,rfl,_,rfl,l,_,_,_,rfl,rfl,hlL,at0,_,rfl,l,_,_,_,rfl,rfl,hlL,at1,rfl,(by show 2≤sizeLine;decide),fun pq hpq=>?_⟩
           have s2:∀o,Same H1 (upd H1 pq o):=same_new hpq
           refine⟨_,rfl,p,_,_,_,rfl,rfl,loc (zo_mono (s2 _) _ _ (s1 _ _ hp)),at1,rfl,.inr ⟨_,rfl,?_⟩⟩
           rw [if_pos (str_yes (a:="="))]
           exact⟨pq,_,_,_,rfl,rfl,SqL.of upd_same,at1,.inr ⟨_,rfl,q _ _ _ (s1.trans (zo_mono (s2 _))) (hh.same (s2 _)) hv hvl .num⟩⟩
          ·rw [if_neg (show ¬("<":Str)="=" by decide +kernel)] at hv hvl
           refine⟨_,rfl,l,_,_,_,rfl,rfl,hlL,at0,_,rfl,l,_,_,_,rfl,rfl,hlL,at1,_,_,rfl,rfl,_,rfl,l,_,_,_,rfl,rfl,hlL,at0,_,rfl,l,_,_,_,rfl,rfl,hlL,at1,rfl,(by show 2≤sizeLine;decide),fun pq hpq=>?_⟩
           have s2:∀o,Same H1 (upd H1 pq o):=same_new hpq
           refine⟨_,rfl,p,_,_,_,rfl,rfl,loc (zo_mono (s2 _) _ _ (s1 _ _ hp)),at1,rfl,.inr ⟨_,rfl,?_⟩⟩
           rw [if_neg (str_no (a:="<") (b:="=") (by decide +kernel))]
           exact⟨pq,_,_,_,rfl,rfl,SqL.of upd_same,at0,.inr ⟨_,rfl,q _ _ _ (s1.trans (zo_mono (s2 _))) (hh.same (s2 _)) hv hvl .num⟩⟩
   |@as_ _ n0 m0 a h0 h1 ha =>
    obtain⟨ws',w1,w2⟩:=evs_ok (ansC_ok hok) hG (.cons ha .nil)
    rw [hws] at w1
    cases w1
    cases w2 with
    |cons a2 r2 =>
     cases r2
     cases a2 with
     |num c1 c2 c3 =>
      cases ez
      cases hus with
      |cons u1 r4 =>
       cases r4
       obtain rfl:=v_num u1
       replace hv2:=(if_pos h0).symm.trans hv2
       cases hv2
       refine⟨_,rfl,rfl,_,rfl,no (by decide +kernel) ?_⟩
       refine⟨_,rfl,rfl,_,rfl,no (by decide +kernel) ?_⟩
       refine⟨_,rfl,rfl,_,rfl,yes ?_⟩
       exact⟨_,rfl,l,_,_,_,rfl,rfl,hlL,at0,_,rfl,p,_,_,_,rfl,rfl,hpl,at1,_,_,rfl,rfl,h0,fin .num⟩
  obtain⟨v,hv,hvl⟩:=ev_ok (ansC_ok hok) hG hty
  obtain⟨t6,d6,k6⟩:∃t,PSs (cxOf CX0 P w K mg base ["_law_one","_law_held","_law_funs","_law_calls","_law_word","_law_goes","_law_inner","_law_values"] "_law_value" (defScope sValL) f cdv A outer s H E).nox (List.drop 6 (defBody sValL)) t ∧
    ∀(p:Addr) (z:Str) (fm:Fm) (r:List V) (xs:List V) (es:List Ex),fm.vals=.str z::r→x=.ref p→zo H [lc] p=some (.tup (fm.vals++xs))→ExsAt (zo H [lc]) xs es→e=.nd fm es →
    t { nx:=fun _ H'=>Q .non H',rt:=Q } [some x,some (.ref d),some (.ref lf),some (.ref lc),some (.str z),none,none,none] H:=by
   refine⟨_,@pss_cons _ _ _ _ _ (ps_comp_if (i0:=7) scValL.nd rfl (Or.inl rfl) (own:=["_law_each"]) (caps:=["_law_held","_law_funs","_law_calls"]) (κ:=[1,2,3]) rfl ⟨rfl,by decide +kernel,by decide +kernel,rfl,rfl,(fun y hy=>by simp only [List.mem_cons,List.not_mem_nil,or_false] at hy;rcases hy with rfl|rfl|rfl<;>rfl),(fun y hy=>by simp only [List.mem_cons,List.not_mem_nil,or_false] at hy;rcases hy with rfl|rfl|rfl<;>exact⟨.inl rfl,rfl,.inl rfl⟩)⟩ rfl (pi_tup (pv 0)) (fun _ _ _ _=>(pg_name (i:=0) (show(["_law_each","_law_held","_law_funs","_law_calls"]:List Str).Nodup from by decide +kernel) rfl (Or.inl rfl))) (fun _ _ _ _=>(L2.pt_val (pe_callB (call_isiTK (K:=K) rfl) rfl mis bootIsi (@pa_cons _ _ _ _ _ (pv 0) (@pa_cons _ _ _ _ _ (pe_bltn rfl mt bootTuple (v:=.ty "tuple") rfl) pa_nil rfl) rfl)))) (fun _ _ _ _=>(pe_call GV hrV rfl mV kV bV .nil pass0 (@pa_cons _ _ _ _ _ (pv 0) (@pa_cons _ _ _ _ _ (pv 1) (@pa_cons _ _ _ _ _ (pv 2) (@pa_cons _ _ _ _ _ (pv 3) pa_nil rfl) rfl) rfl) rfl)))) d7,?_⟩
   intro p z fm r xs es ez hxp hp hxs he
   subst he
   subst hxp
   obtain⟨ks,hks⟩:=ty_nd hty
   obtain⟨ws,hws,hwl⟩:=evs_ok (ansC_ok hok) hG hks
   rw [trc] at htr
   simp only [Ex.ht] at hn
   have hwn:=evs_len hws
   have hxl:=hxs.length
   have hel:es.length≤n:=by omega
   have hml:fm.vals.length≤3:=by cases fm<;>simp [Fm.vals]
   refine⟨_,rfl,p,rfl,⟨_,loc hp⟩,comp_fT (xs:=fm.vals++xs) (by rw [List.length_append];omega) (fun i ys H5=>Same (zo H [lc]) (zo H5 [lc])∧ys.length≤i∧VsAt (zo H5 [lc]) ys (ws.take (i - fm.vals.length))∧HdE H5 lc (tr++trcs (ansC FF) ρ (es.take (i - fm.vals.length)))) ⟨Same.refl _,Nat.zero_le _,by rw [Nat.zero_sub];exact .nil,by rw [Nat.zero_sub];simpa [trcs] using hhd⟩ ?_ ?_ ?_ ?_⟩
   ·rintro i ys H5 ⟨s5,_⟩
    exact loc (s5 _ _ hp)
   ·rintro i ys H5 ⟨_,h,_⟩
    exact h
   ·rintro i u ys H5 N hN hu ⟨s5,hyl,hys,hh5⟩
    by_cases hi:i < fm.vals.length
    ·rw [List.getElem?_append_left hi] at hu
     have e1:i - fm.vals.length=0:=by omega
     have e2:i+1 - fm.vals.length=0:=by omega
     have go:=hN ys H5 ⟨s5,by omega,by rw [e2];rw [e1] at hys;exact hys,by rw [e2];rw [e1] at hh5;exact hh5⟩
     rcases fm_plain hu with ⟨z',rfl⟩|⟨n',rfl⟩
     ·exact⟨rfl,_,rfl,.str z',rfl,.inl ⟨z',rfl,false,rfl,iteF go⟩⟩
     ·exact⟨rfl,_,rfl,.int n',rfl,.inr (.inl ⟨n',rfl,false,rfl,iteF go⟩)⟩
    ·rw [List.getElem?_append_right (by omega)] at hu
     have e2:i+1 - fm.vals.length=(i - fm.vals.length)+1:=by omega
     obtain⟨e',he,hye⟩:=hxs.get hu
     obtain⟨v',hv1,hv2⟩:=evs_get hws he
     obtain⟨k',hk'⟩:=tys_get hks he
     obtain⟨pp,yy,rfl,hpp⟩:=ex_tup hye
     have tle:=trcs_le (C:=ansC FF) (ρ:=ρ) es (i - fm.vals.length+1)
     rw [trcs_snoc he,List.length_append] at tle
     have hht:=hts_mem (List.mem_of_getElem? he)
     refine⟨rfl,_,rfl,.ref pp,rfl,.inr (.inr ⟨pp,_,rfl,loc (s5 _ _ hpp),true,rfl,iteT ⟨_,rfl,_,rfl,_,rfl,_,rfl,.ref pp,d,lf,lc,e',ρ,m,FF,G,k',_,rfl,hye.same s5,by omega,hd.same s5,by omega,hF.same s5,hok,hG,hk',hh5,by rw [List.length_append];omega,fun H6 u6 v6 s6 hh6 hv6 _ hu6=>?_⟩⟩)⟩
     rw [hv2] at hv6
     cases hv6
     refine hN _ _ ⟨s5.trans s6,by rw [List.length_append];show ys.length+1≤i+1;omega,?_,?_⟩
     ·rw [e2,←take_snoc hv1]
      exact VsAt.snoc hu6 (hys.same s6)
     ·rw [e2,trcs_snoc he,←List.append_assoc]
      exact hh6
   ·rintro ys H5 D ⟨s5,hyl,hys,hh5⟩ hD
    have e1:(fm.vals++xs).length - fm.vals.length=xs.length:=by rw [List.length_append];omega
    rw [e1] at hys hh5
    rw [List.take_of_length_le (by omega)] at hys hh5
    have s6:=same_new hD (.lst ys)
    exact k7 _ p D z fm r xs ys ws es v ez rfl hp (s5.trans (zo_mono s6)) upd_same (hys.same (zo_mono s6)) hws rfl hty (by rw [trc];exact hh5.same s6) hv hvl
  refine⟨_,@pss_cons _ _ _ _ _ (ps_set (i:=4) scValL.nd rfl (Or.inl rfl) (pe_ix ix_tup (pv 0) pe_int (fun _ _=>rfl))) (@pss_cons _ _ _ _ _ (ps_if (pt_cmpR op_eq (pv 4) pe_str (nomark _)) (@pss_one _ _ _ (@ps_ret _ _ _ _ (pe_ix ix_tup (pv 0) pe_int (fun _ _=>rfl)))) pss_nil) (@pss_cons _ _ _ _ _ (ps_if (pt_cmpR op_eq (pv 4) pe_str (nomark _)) (@pss_one _ _ _ (@ps_ret _ _ _ _ (pe_dget hu (pv 1) (pe_ix ix_tup (pv 0) pe_int (fun _ _=>rfl)) (fun _ _=>rfl)))) pss_nil) (@pss_cons _ _ _ _ _ (ps_if (pt_cmpR op_eq (pv 4) pe_str (nomark _)) (@pss_cons _ _ _ _ _ (ps_set (i:=5) scValL.nd rfl (Or.inl rfl) (pe_op op_sub pe_int (pe_call GV hrV rfl mV kV bV .nil pass0 (@pa_cons _ _ _ _ _ (pe_ix ix_tup (pv 0) pe_int (fun _ _=>rfl)) (@pa_cons _ _ _ _ _ (pv 1) (@pa_cons _ _ _ _ _ (pv 2) (@pa_cons _ _ _ _ _ (pv 3) pa_nil rfl) rfl) rfl) rfl)))) (@pss_one _ _ _ (@ps_ret _ _ _ _ (pe_call GV hrV rfl mV kV bV .nil pass0 (@pa_cons _ _ _ _ _ (pe_ix ix_tup (pv 0) (pv 5) (fun _ _=>rfl)) (@pa_cons _ _ _ _ _ (pv 1) (@pa_cons _ _ _ _ _ (pv 2) (@pa_cons _ _ _ _ _ (pv 3) pa_nil rfl) rfl) rfl) rfl))))) pss_nil) (@pss_cons _ _ _ _ _ (ps_if (pt_cmpR op_eq (pv 4) pe_str (nomark _)) (@pss_cons _ _ _ _ _ (ps_set (i:=6) scValL.nd rfl (Or.inl rfl) (pe_callTy call_dict_dK rfl md bootDict (@pa_cons _ _ _ _ _ (pv 1) pa_nil rfl))) (@pss_cons _ _ _ _ _ (ps_dput hu (pv 6) (pe_ix ix_tup (pv 0) pe_int (fun _ _=>rfl)) (pe_call GV hrV rfl mV kV bV .nil pass0 (@pa_cons _ _ _ _ _ (pe_ix ix_tup (pv 0) pe_int (fun _ _=>rfl)) (@pa_cons _ _ _ _ _ (pv 1) (@pa_cons _ _ _ _ _ (pv 2) (@pa_cons _ _ _ _ _ (pv 3) pa_nil rfl) rfl) rfl) rfl)) rfl) (@pss_one _ _ _ (@ps_ret _ _ _ _ (pe_call GV hrV rfl mV kV bV .nil pass0 (@pa_cons _ _ _ _ _ (pe_ix ix_tup (pv 0) pe_int (fun _ _=>rfl)) (@pa_cons _ _ _ _ _ (pv 6) (@pa_cons _ _ _ _ _ (pv 2) (@pa_cons _ _ _ _ _ (pv 3) pa_nil rfl) rfl) rfl) rfl)))))) pss_nil) (@pss_cons _ _ _ _ _ (ps_if (pt_cmpR op_eq (pv 4) pe_str (nomark _)) (@pss_cons _ _ _ _ _ (ps_comp (i0:=7) scValL.nd rfl (Or.inl rfl) (own:=["_law_each"]) (caps:=["_law_held","_law_funs","_law_calls"]) (κ:=[1,2,3]) rfl ⟨rfl,by decide +kernel,by decide +kernel,rfl,rfl,(fun y hy=>by simp only [List.mem_cons,List.not_mem_nil,or_false] at hy;rcases hy with rfl|rfl|rfl<;>rfl),(fun y hy=>by simp only [List.mem_cons,List.not_mem_nil,or_false] at hy;rcases hy with rfl|rfl|rfl<;>exact⟨.inl rfl,rfl,.inl rfl⟩)⟩ rfl (pi_tup (pe_ix ix_tup (pv 0) pe_int (fun _ _=>rfl))) (fun _ _ _ _=>(pg_name (i:=0) (show(["_law_each","_law_held","_law_funs","_law_calls"]:List Str).Nodup from by decide +kernel) rfl (Or.inl rfl))) (fun _ _ _ _=>(pe_call GV hrV rfl mV kV bV .nil pass0 (@pa_cons _ _ _ _ _ (pv 0) (@pa_cons _ _ _ _ _ (pv 1) (@pa_cons _ _ _ _ _ (pv 2) (@pa_cons _ _ _ _ _ (pv 3) pa_nil rfl) rfl) rfl) rfl)))) (@pss_one _ _ _ (@ps_ret _ _ _ _ (pe_call GT hrT rfl mT kT bT .nil pass0 (@pa_cons _ _ _ _ _ (pv 3) (@pa_cons _ _ _ _ _ (pv 2) (@pa_cons _ _ _ _ _ (pe_ix ix_tup (pv 0) pe_int (fun _ _=>rfl)) (@pa_cons _ _ _ _ _ (pe_ix ix_tup (pv 0) pe_int (fun _ _=>rfl)) (@pa_cons _ _ _ _ _ (pv 7) pa_nil rfl) rfl) rfl) rfl) rfl))))) pss_nil) d6))))),?_⟩
  cases hx with
  |@lit p v' n' hp =>
   refine⟨_,rfl,p,_,_,_,rfl,rfl,loc hp,at0,?_⟩
   have hv2:=hv
   rw [ev] at hv2
   cases hv2
   exact⟨_,rfl,rfl,_,rfl,yes ⟨_,rfl,p,_,_,_,rfl,rfl,loc hp,at1,q _ _ _ (Same.refl _) (by rw [trc,List.append_nil];exact hhd) hv hvl .num⟩⟩
  |@var p y hp =>
   refine⟨_,rfl,p,_,_,_,rfl,rfl,loc hp,at0,?_⟩
   refine⟨_,rfl,rfl,_,rfl,no (by decide +kernel) ?_⟩
   have hv2:=hv
   rw [ev] at hv2
   obtain⟨kvs,hk1,hk2,hk3⟩:=id hd
   obtain⟨u,hu1,hu2⟩:=hk3 _ _ hv2
   have g:=DGet.k (k:=Sum.inr y) (zo_same _ _ hk1)
   rw [hu1] at g
   exact⟨_,rfl,rfl,_,rfl,yes ⟨_,rfl,_,rfl,p,_,_,_,rfl,rfl,loc hp,at1,d,u,rfl,g,q _ _ _ (Same.refl _) (by rw [trc,List.append_nil];exact hhd) hv hvl hu2⟩⟩
  |@if_ p a1 a2 a3 b1 b2 b3 hp h1 h2 h3 =>
   simp only [Ex.ht] at hn
   cases hty with
   |if_ ta tb tc =>
    obtain⟨vc,c1,c2⟩:=ev_ok (ansC_ok hok) hG ta
    cases c2 with
    |@num _ c x1 x2 x3 =>
     have et:trc (ansC FF) ρ (.if_ b1 b2 b3)=trc (ansC FF) ρ b1++(if decide (V.int c=V.int 1)=true then trc (ansC FF) ρ b2 else trc (ansC FF) ρ b3):=by simp only [trc,c1]
     have ee:ev (ansC FF) ρ (.if_ b1 b2 b3)=(if decide (V.int c=V.int 1)=true then ev (ansC FF) ρ b2 else ev (ansC FF) ρ b3):=by simp only [ev,c1]
     rw [et] at htr q
     rw [List.length_append] at htr
     refine⟨_,rfl,p,_,_,_,rfl,rfl,loc hp,at0,?_⟩
     refine⟨_,rfl,rfl,_,rfl,no (by decide +kernel) ?_⟩
     refine⟨_,rfl,rfl,_,rfl,no (by decide +kernel) ?_⟩
     refine⟨_,rfl,rfl,_,rfl,yes ⟨_,rfl,p,_,_,_,rfl,rfl,loc hp,at1,_,rfl,_,rfl,_,rfl,a1,d,lf,lc,b1,ρ,m,FF,G,.num 2,tr,rfl,h1,by omega,hd,by omega,hF,hok,hG,ta,hhd,by omega,fun H2 u v2 s2 hh2 hv2 _ hu2=>?_⟩⟩
     rw [c1] at hv2
     cases hv2
     obtain rfl:=v_num hu2
     refine⟨_,_,rfl,rfl,?_⟩
     have hc:c=1∨c=0:=by omega
     rcases hc with rfl|rfl
     ·rw [if_pos (decide_eq_true rfl)] at htr q ee
      refine⟨_,rfl,_,rfl,p,_,_,_,rfl,rfl,loc (s2 _ _ hp),at2,_,rfl,_,rfl,_,rfl,a2,d,lf,lc,b2,ρ,m,FF,G,k,_,rfl,h2.same s2,by omega,hd.same s2,by omega,hF.same s2,hok,hG,tb,hh2,by rw [List.length_append];omega,fun H3 u v3 s3 hh3 hv3 hl3 hu3=>?_⟩
      exact q _ _ _ (s2.trans s3) (by rw [←List.append_assoc];exact hh3) (ee.trans hv3) hl3 hu3
     ·rw [if_neg (show ¬decide (V.int 0=V.int 1)=true from by decide)] at htr q ee
      refine⟨_,rfl,_,rfl,p,_,_,_,rfl,rfl,loc (s2 _ _ hp),at3,_,rfl,_,rfl,_,rfl,a3,d,lf,lc,b3,ρ,m,FF,G,k,_,rfl,h3.same s2,by omega,hd.same s2,by omega,hF.same s2,hok,hG,tc,hh2,by rw [List.length_append];omega,fun H3 u v3 s3 hh3 hv3 hl3 hu3=>?_⟩
      exact q _ _ _ (s2.trans s3) (by rw [←List.append_assoc];exact hh3) (ee.trans hv3) hl3 hu3
  |@let_ p y a1 a2 b1 b2 hp h1 h2 =>
   simp only [Ex.ht] at hn
   cases hty with
   |@let_ _ _ _ _ _ l ta tb =>
    obtain⟨c,c1,c2⟩:=ev_ok (ansC_ok hok) hG ta
    have et:trc (ansC FF) ρ (.let_ y b1 b2)=trc (ansC FF) ρ b1++trc (ansC FF) (fun z=>if z=y then some c else ρ z) b2:=by simp only [trc,c1]
    have ee:ev (ansC FF) ρ (.let_ y b1 b2)=ev (ansC FF) (fun z=>if z=y then some c else ρ z) b2:=by simp only [ev,c1]
    rw [et] at htr q
    rw [List.length_append] at htr
    obtain⟨kvs,hk1,hk2,hk3⟩:=id hd
    have nlc:∀{i:Addr},H i=none→i≠lc:=fun h e=>by obtain⟨ls,h9⟩:=hhd;exact h9.ne lc (by simp) (by rw [←e];exact h)
    refine⟨_,rfl,p,_,_,_,rfl,rfl,loc hp,at0,?_⟩
    refine⟨_,rfl,rfl,_,rfl,no (by decide +kernel) ?_⟩
    refine⟨_,rfl,rfl,_,rfl,no (by decide +kernel) ?_⟩
    refine⟨_,rfl,rfl,_,rfl,no (by decide +kernel) ?_⟩
    refine⟨_,rfl,rfl,_,rfl,yes ⟨_,rfl,d,kvs,rfl,zo_same _ _ hk1,fun i hi=>?_⟩⟩
    have s1:=zo_mono (S:=[lc]) (same_new hi (.dK kvs))
    have nlh:=nlc hi
    have hi0:zo H [lc] i=none:=by rw [zo_ne (by simpa using nlh)];exact hi
    have gi:zo (upd H i (.dK kvs)) [lc] i=some (.dK kvs):=by rw [zo_ne (by simpa using nlh)];exact upd_same
    refine⟨_,rfl,p,_,_,_,rfl,rfl,loc (s1 _ _ hp),at2,_,rfl,_,rfl,_,rfl,a1,d,lf,lc,b1,ρ,m,FF,G,l,tr,rfl,h1.same s1,by omega,hd.same s1,by omega,hF.same s1,hok,hG,ta,hhd.same (same_new hi _),by omega,fun H2 u v2 s2 hh2 hv2 hl2 hu2=>?_⟩
    rw [c1] at hv2
    cases hv2
    have s12:=s1.trans s2
    have hi2:=s2 _ _ gi
    refine⟨_,rfl,_,rfl,p,_,_,_,rfl,rfl,loc (s12 _ _ hp),at1,i,_,rfl,DPut.k (k:=Sum.inr y) (zo_same _ _ hi2) (small1000 (by omega)),?_⟩
    have s3:Same (zo H [lc]) (zo (upd H2 i (.dK (putK kvs (Sum.inr y) u))) [lc]):=by rw [zo_put nlh];exact sput s12 hi0
    have hh3:HdE (upd H2 i (.dK (putK kvs (Sum.inr y) u))) lc (tr++trc (ansC FF) ρ b1):=by
     obtain⟨ls,h9⟩:=hh2
     exact⟨ls,h9.putD nlh hi2⟩
    refine⟨_,rfl,p,_,_,_,rfl,rfl,loc (s3 _ _ hp),at3,_,rfl,_,rfl,_,rfl,a2,i,lf,lc,b2,(fun z=>if z=y then some c else ρ z),m+1,FF,_,k,_,rfl,h2.same s3,by omega,?_,by omega,hF.same s3,hok,?_,tb,hh3,by rw [List.length_append];omega,fun H3 u3 v3 s4 hh4 hv3 hl3 hu3=>q _ _ _ (s3.trans s4) (by rw [←List.append_assoc];exact hh4) (ee.trans hv3) hl3 hu3⟩
    ·refine⟨_,by rw [zo_put nlh];exact upd_same,Nat.le_trans (length_putK ..) (by omega),fun z v e=>?_⟩
     rw [valV_put]
     replace e:(if z=y then some c else ρ z)=some v:=e
     by_cases ez:z=y
     ·subst ez
      rw [if_pos rfl] at e ⊢
      cases e
      exact⟨u,rfl,by rw [zo_put nlh];exact hu2.updD hi2⟩
     ·rw [if_neg ez] at e
      rw [if_neg fun h=>ez (Sum.inr.inj h)]
      obtain⟨u',e1,e2⟩:=hk3 z v e
      exact⟨u',e1,e2.same s3⟩
    ·intro z k' e
     replace e:(if z=y then some l else G z)=some k':=e
     show ∃v,(if z=y then some c else ρ z)=some v∧VlOf k' v
     by_cases ez:z=y
     ·rw [if_pos ez] at e ⊢
      cases e
      exact⟨c,rfl,c2⟩
     ·rw [if_neg ez] at e ⊢
      exact hG _ _ e
  |@nd p fm xs es hp hxs =>
   obtain⟨z,r,e1,_,e3,_,z1,z2,z3,z4⟩:=fm_head fm
   have hp':=hp
   rw [e1] at hp'
   refine⟨_,rfl,p,_,_,.str z,rfl,rfl,loc hp',at0,?_⟩
   refine⟨_,rfl,rfl,_,rfl,no z1 ?_⟩
   refine⟨_,rfl,rfl,_,rfl,no z2 ?_⟩
   refine⟨_,rfl,rfl,_,rfl,no z3 ?_⟩
   refine⟨_,rfl,rfl,_,rfl,no z4 ?_⟩
   refine⟨_,rfl,rfl,_,rfl,no e3 ?_⟩
   exact k6 p z fm r xs es e1 rfl hp hxs rfl
  |@call p p2 qq t xs es hp hp2 hxs =>
   simp only [Ex.ht] at hn
   cases hty with
   |@call _ _ _ _ ks _ hft hks =>
    obtain⟨ws,hws,hwl⟩:=evs_ok (ansC_ok hok) hG hks
    have et:trc (ansC FF) ρ (.call qq t es)=trcs (ansC FF) ρ es++[(qq,t,ws)]:=by simp only [trc,hws]
    rw [et] at htr q
    rw [List.length_append] at htr
    replace htr:tr.length+((trcs (ansC FF) ρ es).length+1)≤900:=htr
    have hxl:=hxs.length
    have hwn:=evs_len hws
    refine⟨_,rfl,p,_,_,_,rfl,rfl,loc hp,at0,?_⟩
    refine⟨_,rfl,rfl,_,rfl,no (by decide +kernel) ?_⟩
    refine⟨_,rfl,rfl,_,rfl,no (by decide +kernel) ?_⟩
    refine⟨_,rfl,rfl,_,rfl,no (by decide +kernel) ?_⟩
    refine⟨_,rfl,rfl,_,rfl,no (by decide +kernel) ?_⟩
    refine⟨_,rfl,rfl,_,rfl,yes ?_⟩
    refine⟨_,rfl,p,_,_,_,rfl,rfl,loc hp,at3,p2,rfl,⟨_,loc hp2⟩,comp_fT (xs:=xs) (by omega) (fun i ys H5=>Same (zo H [lc]) (zo H5 [lc])∧ys.length≤i∧VsAt (zo H5 [lc]) ys (ws.take i)∧HdE H5 lc (tr++trcs (ansC FF) ρ (es.take i))) ⟨Same.refl _,Nat.zero_le _,.nil,by simpa [trcs] using hhd⟩ ?_ ?_ ?_ ?_⟩
    ·rintro i ys H5 ⟨s5,_⟩
     exact loc (s5 _ _ hp2)
    ·rintro i ys H5 ⟨_,h,_⟩
     exact h
    ·rintro i u ys H5 N hN hu9 ⟨s5,hyl,hys,hh5⟩
     obtain⟨e',he,hye⟩:=hxs.get hu9
     obtain⟨v',hv1,hv2⟩:=evs_get hws he
     obtain⟨k',hk'⟩:=tys_get hks he
     have tle:=trcs_le (C:=ansC FF) (ρ:=ρ) es (i+1)
     rw [trcs_snoc he,List.length_append] at tle
     have hht:=hts_mem (List.mem_of_getElem? he)
     refine⟨rfl,tYes_go ⟨_,rfl,_,rfl,_,rfl,_,rfl,u,d,lf,lc,e',ρ,m,FF,G,k',_,rfl,hye.same s5,by omega,hd.same s5,by omega,hF.same s5,hok,hG,hk',hh5,by rw [List.length_append];omega,fun H6 u6 v6 s6 hh6 hv6 _ hu6=>?_⟩⟩
     rw [hv2] at hv6
     cases hv6
     refine hN _ _ ⟨s5.trans s6,by rw [List.length_append];show ys.length+1≤i+1;omega,?_,?_⟩
     ·rw [←take_snoc hv1]
      exact VsAt.snoc hu6 (hys.same s6)
     ·rw [trcs_snoc he,←List.append_assoc]
      exact hh6
    ·rintro ys H5 D ⟨s5,hyl,hys,hh5⟩ hD
     rw [List.take_of_length_le (by omega)] at hys hh5
     have s6:=same_new hD (.lst ys)
     have z6:=zo_mono (S:=[lc]) s6
     have s56:=s5.trans z6
     obtain⟨ls,hls⟩:=hh5
     have ndl:D≠lc:=fun e=>hls.ne lc (by simp) (by rw [←e];exact hD)
     refine⟨_,rfl,_,rfl,_,rfl,p,_,_,_,rfl,rfl,loc (s56 _ _ hp),at1,_,rfl,p,_,_,_,rfl,rfl,loc (s56 _ _ hp),at2,_,rfl,lc,lf,D,qq,t,ls,_,FF,ks,k,ys,ws,rfl,hls.same s6,by rw [List.length_append];omega,hF.same s56,hok,hft,by rw [zo_ne (by simpa using ndl)];exact upd_same,hys.same z6,hwl,fun H7 u7 s7 hh7 hu7=>?_⟩
     have hvv:ev (ansC FF) ρ (.call qq t es)=some (ansV k ws):=by simp only [ev,hws];exact ansC_eq hft hwl
     exact q _ _ _ (s56.trans s7) (by rw [←List.append_assoc];exact⟨_,hh7⟩) hvv (ans_of ws (hok _ _ _ _ hft).1.1) hu7
end
end K72
namespace K72
open PySem L2 Kk
def boxK(pp pk pf:Addr)(room:Int):List (Key × V):=[(.inr "pool",.ref pp),(.inr "kinds",.ref pk),(.inr "room",.int room),(.inr "funs",.ref pf)]
theorem box_pool{pp pk pf:Addr}{r:Int}:valV (boxK pp pk pf r) (.inr "pool")=some (.ref pp):=rfl
theorem box_kinds{pp pk pf:Addr}{r:Int}:valV (boxK pp pk pf r) (.inr "kinds")=some (.ref pk):=rfl
theorem box_room{pp pk pf:Addr}{r:Int}:valV (boxK pp pk pf r) (.inr "room")=some (.int r):=rfl
theorem box_funs{pp pk pf:Addr}{r:Int}:valV (boxK pp pk pf r) (.inr "funs")=some (.ref pf):=rfl
theorem put_room{pp pk pf:Addr}{r r':Int}:putK (boxK pp pk pf r) (.inr "room") (.int r')=boxK pp pk pf r':=rfl
structure St2(K:PySem.W.Frag)(H:Hp)(ls lb pp pk pf:Addr)(room:Int):Prop where
 st:StAt K H ls
 ne:ls≠lb
 box:H lb=some (.dK (boxK pp pk pf room))
theorem St2.there{K:PySem.W.Frag}{H:Hp}{ls lb pp pk pf:Addr}{room:Int}(h:St2 K H ls lb pp pk pf room):∀b∈[ls,lb],H b≠none:=fun b hb=>by
 rcases List.mem_cons.mp hb with rfl|hb
 ·exact h.st.ne _ (by simp)
 ·obtain rfl:b=lb:=by simpa using hb
  rw [h.box]
  nofun
theorem St2.draw{K:PySem.W.Frag}{H H':Hp}{ls lb pp pk pf:Addr}{room:Int}(h:St2 K H ls lb pp pk pf room)(s:StAt K H' ls)(z:Same (zo H [ls]) (zo H' [ls])):St2 K H' ls lb pp pk pf room∧Same (zo H [ls,lb]) (zo H' [ls,lb]):=by
 refine⟨⟨s,h.ne,?_⟩,zo_sub (fun b hb=>by simp at hb;simp [hb]) z⟩
 have:=z lb _ (by rw [zo_ne (by simpa using Ne.symm h.ne)];exact h.box)
 rwa [zo_ne (by simpa using Ne.symm h.ne)] at this
theorem St2.same{K:PySem.W.Frag}{H H':Hp}{ls lb pp pk pf:Addr}{room:Int}(h:St2 K H ls lb pp pk pf room)(s:Same H H'):St2 K H' ls lb pp pk pf room:=⟨h.st.same s,h.ne,s _ _ h.box⟩
theorem St2.nw{K:PySem.W.Frag}{H:Hp}{ls lb pp pk pf p:Addr}{room:Int}(h:St2 K H ls lb pp pk pf room)(hp:H p=none)(o:HO):St2 K (upd H p o) ls lb pp pk pf room∧Same (zo H [ls,lb]) (zo (upd H p o) [ls,lb])∧zo (upd H p o) [ls,lb] p=some o:=⟨h.same (same_new hp o),zo_mono (same_new hp o),zo_nw hp h.there⟩
structure Box(K:PySem.W.Frag)(W:Hp)(pp pk pf:Addr)(F:FT)(ks:List Kd):Prop where
 pool:∃xs:List V,W pp=some (.lst xs)∧0 < xs.length∧xs.length≤100∧∀x∈xs,∃z:Str,x=.str z∧PyData.strOk z=true
 kinds:∃xs,W pk=some (.lst xs)∧Paired (KdAt K W) xs ks
 funs:∃kvs,W pf=some (.dT kvs)∧TabAt K W kvs F∧kvs.length≤5∧∀kv∈kvs,∃q t:Str,kv.1=[.inr q,.inr t]∧PyData.strOk q=true∧PyData.strOk t=true
 len:ks.length=6
 num:∀i,i < 4→∃n:Int,ks[i]?=some (.num n)
 good:∀k∈ks,Gd k∧Kd.depth k≤2
 fok:FtOk F
theorem Box.same{K:PySem.W.Frag}{W W':Hp}{pp pk pf:Addr}{F:FT}{ks:List Kd}(h:Box K W pp pk pf F ks)(s:Same W W'):Box K W' pp pk pf F ks:=by
 obtain⟨⟨xs,a1,a2⟩,⟨ys,b1,b2⟩,⟨kvs,c1,c2,c3⟩,d,e,f,g⟩:=h
 exact⟨⟨xs,s _ _ a1,a2⟩,⟨ys,s _ _ b1,Paired.mapP b2 fun _ _ z=>z.same s⟩,⟨kvs,s _ _ c1,c2.same s,c3⟩,d,e,f,g⟩
def ScAt(K:PySem.W.Frag)(W:Hp)(d:Addr)(G:GT)(m:Nat):Prop:=∃kvs,W d=some (.dK kvs)∧kvs.length≤m∧(∀kv∈kvs,∃y:Str,kv.1=.inr y∧PyData.strOk y=true)∧∀y,(G y=none∧valV kvs (.inr y)=none)∨∃k u,G y=some k∧valV kvs (.inr y)=some u∧KdAt K W u k∧Gd k∧Kd.depth k≤2
theorem ScAt.same{K:PySem.W.Frag}{W W':Hp}{d:Addr}{G:GT}{m:Nat}(h:ScAt K W d G m)(s:Same W W'):ScAt K W' d G m:=by
 obtain⟨kvs,a,b,c,e⟩:=h
 refine⟨kvs,s _ _ a,b,c,fun y=>?_⟩
 rcases e y with z|⟨k,u,e1,e2,e3,e4,e5⟩
 ·exact .inl z
 ·exact .inr ⟨k,u,e1,e2,e3.same s,e4,e5⟩
mutual
def nc:Ex→Nat
 |.lit _ _=>0
 |.var _=>0
 |.if_ a b c=>nc a+nc b+nc c
 |.let_ _ a b=>nc a+nc b
 |.nd _ es=>ncs es
 |.call _ _ es=>1+ncs es
def ncs:List Ex→Nat
 |[]=>0
 |e::es=>nc e+ncs es
end
mutual
theorem trc_nc{C:Orc}:∀(ρ:Str→Option Vl) (e:Ex),(trc C ρ e).length≤nc e
 |_,.lit _ _=>by simp [trc]
 |_,.var _=>by simp [trc]
 |ρ,.if_ a b c=>by
  have h1:=trc_nc (C:=C) ρ a
  have h2:=trc_nc (C:=C) ρ b
  have h3:=trc_nc (C:=C) ρ c
  rw [trc,List.length_append,nc]
  split
  ·split<;>omega
  ·simp only [List.length_nil];omega
 |ρ,.let_ x a b=>by
  have h1:=trc_nc (C:=C) ρ a
  rw [trc,List.length_append,nc]
  cases h:ev C ρ a with
  |none=>simp only [List.length_nil];omega
  |some v =>
   have h2:=trc_nc (C:=C) (fun y=>if y=x then some v else ρ y) b
   simp only
   omega
 |ρ,.nd _ es=>by
  rw [trc,nc]
  exact trcs_nc ρ es
 |ρ,.call q t es=>by
  have h:=trcs_nc (C:=C) ρ es
  rw [trc,List.length_append,nc]
  split
  ·simp only [List.length_cons,List.length_nil];omega
  ·simp only [List.length_nil];omega
theorem trcs_nc{C:Orc}:∀(ρ:Str→Option Vl) (es:List Ex),(trcs C ρ es).length≤ncs es
 |_,[]=>by simp [trcs]
 |ρ,e::es=>by
  have h1:=trc_nc (C:=C) ρ e
  have h2:=trcs_nc (C:=C) ρ es
  rw [trcs,List.length_append,ncs]
  omega
end
theorem lit_nc{k:Kd}{e:Ex}(h:LitE k e):nc e=0:=by
 induction h with
 |num _ _ _=>rw [nc]
 |pair _ _ i1 i2=>simp [nc,ncs,i1,i2]
def spMade(K:PySem.W.Frag)(n:Nat):Sp:=fun vs H Q _=>∃(ls lb pp pk pf d:Addr) (x:V) (k:Kd) (F:FT) (ks:List Kd) (G:GT) (m:Nat) (room deep:Int),vs=[.ref ls,.ref lb,x,.ref d,.int deep]∧St2 K H ls lb pp pk pf room∧Box K (zo H [ls,lb]) pp pk pf F ks∧KdAt K (zo H [ls,lb]) x k∧Gd k∧Kd.depth k≤3∧ScAt K (zo H [ls,lb]) d G m∧m+n≤500∧deep≤n ∧
 ∀H' u e room',St2 K H' ls lb pp pk pf room'→Same (zo H [ls,lb]) (zo H' [ls,lb])→ExAt (zo H' [ls,lb]) u e→Ty F G e k→e.ht≤n+5→nc e+room'.toNat≤room.toNat→Q u H'
def spNum(K:PySem.W.Frag)(n:Nat):Sp:=fun vs H Q _=>∃(ls lb pp pk pf d:Addr) (F:FT) (ks:List Kd) (G:GT) (m:Nat) (room deep:Int),vs=[.ref ls,.ref lb,.ref d,.int deep]∧St2 K H ls lb pp pk pf room∧Box K (zo H [ls,lb]) pp pk pf F ks∧ScAt K (zo H [ls,lb]) d G m∧m+n≤500∧deep≤n ∧
 ∀H' u e n' room',St2 K H' ls lb pp pk pf room'→Same (zo H [ls,lb]) (zo H' [ls,lb])→ExAt (zo H' [ls,lb]) u e→Ty F G e (.num n')→e.ht≤n+5→nc e+room'.toNat≤room.toNat→Q u H'
end K72
namespace K72
open PySem L2 Kk
theorem cut4{xs:List V}:cutV xs none (some 4)=xs.take 4:=by
 unfold cutV
 rw [show HT.sIx xs.length 0 none=0 from rfl,show HT.sIx xs.length xs.length (some 4)=min 4 xs.length from HT.sIx_nat _ _ 4,List.drop_zero,Nat.sub_zero]
 rw [List.take_eq_take_iff]
 omega
theorem pair_len{α β:Type}{p:α→β→Prop}{xs:List α}{ys:List β}(h:Paired p xs ys):xs.length=ys.length:=h.length
theorem zo1{H:Hp}{ls lb:Addr}:Same (zo H [ls,lb]) (zo H [ls]):=fun b u q=>by
 by_cases e:b∈[ls,lb]
 ·rw [zo_at e] at q;cases q
 ·have e':b∉[ls]:=fun z=>e (by simp at z;simp [z])
  rw [zo_ne e] at q
  rw [zo_ne e']
  exact q
def spHalf(K:PySem.W.Frag)(n:Nat):Sp:=fun vs H Q _=>∃(ls lb pp pk pf d:Addr) (x:V) (k:Kd) (F:FT) (ks:List Kd) (G:GT) (m:Nat) (room deep:Int),vs=[.ref ls,.ref lb,x,.ref d,.int deep]∧St2 K H ls lb pp pk pf room∧Box K (zo H [ls,lb]) pp pk pf F ks∧KdAt K (zo H [ls,lb]) x k∧Gd k∧Kd.depth k≤2∧ScAt K (zo H [ls,lb]) d G m∧m+n≤500∧deep≤n ∧
 ∀H' u e room',St2 K H' ls lb pp pk pf room'→Same (zo H [ls,lb]) (zo H' [ls,lb])→ExAt (zo H' [ls,lb]) u e→Ty F G e k→e.ht≤n+6→nc e+room'.toNat≤room.toNat→Q u H'
theorem ht_nd1{f:Fm}{a:Ex}{n:Nat}(h:a.ht≤n)(h1:1≤n):(Ex.nd f [a]).ht≤n+1:=by
 simp only [Ex.ht,hts,List.length_cons,List.length_nil]
 omega
theorem nc_nd1{f:Fm}{a:Ex}:nc (.nd f [a])=nc a:=by simp [nc,ncs]
section
variable{P:Program}{w:World}{K:PySem.W.Frag}{mg:Str→Option Value}{base:Heap}
theorem scNum:FnScope ["_law_state","_law_box","_law_scope","_law_deep","_law_kind"] ["_law_state","_law_box","_law_scope","_law_deep"] (defScope sNum):=⟨rfl,rfl,rfl,by decide +kernel,rfl,by decide +kernel,by decide +kernel⟩
set_option maxHeartbeats 0 in
theorem ok_num{f fS fM:Addr}{fd fdS fdM:FuncData}{L n:Nat}(hL:2≤L) (F:Fun K "_law_num" "_law_num" sNum f fd)
  (GS:FnOk P w K mg base CX0 2 fS fdS ["_law_state","_law_pool"] (spSome K)) (bS:Binds K fdS ["_law_state","_law_pool"] []) (kS:PySem.W.keepIn K (.ref fS)=true) (mS:mg "_law_some"=some (.ref fS))
  (GM:FnOk P w K mg base CX0 L fM fdM ["_law_state","_law_box","_law_kind","_law_scope","_law_deep"] (spMade K n)) (bM:Binds K fdM ["_law_state","_law_box","_law_kind","_law_scope","_law_deep"] []) (kM:PySem.W.keepIn K (.ref fM)=true) (mM:mg "_law_made"=some (.ref fM)) :
  FnOk P w K mg base CX0 (L+1) f fd ["_law_state","_law_box","_law_scope","_law_deep"] (spNum K n):=by
 refine F.ok scNum (fun vs H Q E h=>?_) (fun cdv A outer s H vs Q E hrM h=>?_)
 ·obtain⟨_,_,_,_,_,_,_,_,_,_,_,_,rfl,_⟩:=h
  rfl
 obtain⟨lst,lb,pp,pk,pf,d,FF,ks,G,m,room,deep,rfl,hst,hbox,hsc,hm,hdeep,q⟩:=h
 have hu:=hu_of hrM
 have hrS:Room 2 _:=hrM.mono (by omega)
 refine⟨_,@pss_cons _ _ _ _ _ (ps_set (i:=4) scNum.nd rfl (Or.inl rfl) (pe_call GS hrS rfl mS kS bS .nil pass0 (@pa_cons _ _ _ _ _ (pv 0) (@pa_cons _ _ _ _ _ (pe_slice sl_list (pe_dget hu (pv 1) pe_str (fun _ _=>rfl)) po_none (po_some pe_int)) pa_nil rfl) rfl))) (@pss_one _ _ _ (@ps_ret _ _ _ _ (pe_call GM hrM rfl mM kM bM .nil pass0 (@pa_cons _ _ _ _ _ (pv 0) (@pa_cons _ _ _ _ _ (pv 1) (@pa_cons _ _ _ _ _ (pv 4) (@pa_cons _ _ _ _ _ (pv 2) (@pa_cons _ _ _ _ _ (pv 3) pa_nil rfl) rfl) rfl) rfl) rfl)))),?_⟩
 obtain⟨kx,hk1,hk2⟩:=hbox.kinds
 have g:=DGet.k (k:=Sum.inr "kinds") hst.box
 rw [box_kinds] at g
 refine⟨_,rfl,_,rfl,lb,_,rfl,g,_,rfl,pk,kx,rfl,SqL.of (zo_same _ _ hk1),fun l hl=>?_⟩
 obtain⟨s1,z1,g1⟩:=hst.nw hl (.lst (cutV kx none (some 4)))
 have hkl:kx.length=6:=(pair_len hk2).trans hbox.len
 refine⟨lst,l,cutV kx none (some 4),rfl,s1.st,SqL.of (zo1 _ _ g1),by rw [cut4,List.length_take];omega,by rw [cut4,List.length_take];omega,fun H2 i x t2 y2 hx=>?_⟩
 obtain⟨s2,z2⟩:=s1.draw t2 y2
 have z12:=z1.trans z2
 have hi4:i < 4:=by
  rw [cut4] at hx
  have:=(List.getElem?_eq_some_iff.mp hx).1
  rw [List.length_take] at this
  omega
 have hx':kx[i]?=some x:=by
  rw [cut4,List.getElem?_take_of_lt hi4] at hx
  exact hx
 obtain⟨k,hk,hxk⟩:=pair_get hk2 hx'
 obtain⟨n',hn'⟩:=hbox.num i hi4
 rw [hn'] at hk
 cases hk
 obtain⟨e1,e2⟩:=hbox.good _ (List.mem_of_getElem? hn')
 refine⟨_,rfl,_,rfl,_,rfl,_,rfl,_,rfl,lst,lb,pp,pk,pf,d,x,.num n',FF,ks,G,m,room,deep,rfl,s2,hbox.same z12,hxk.same z12,e1,by omega,hsc.same z12,hm,hdeep,fun H3 u e room' s3 z3 a1 a2 a3 a4=>?_⟩
 exact q _ _ _ _ _ s3 (z12.trans z3) a1 a2 a3 a4
theorem scHalved:FnScope ["_law_state","_law_box","_law_kind","_law_scope","_law_deep","_law_other"] ["_law_state","_law_box","_law_kind","_law_scope","_law_deep"] (defScope sHalved):=⟨rfl,rfl,rfl,by decide +kernel,rfl,by decide +kernel,by decide +kernel⟩
set_option maxHeartbeats 0 in
theorem ok_halved{f fS fM fD:Addr}{fd fdS fdM fdD:FuncData}{L n:Nat}(hL:2≤L) (F:Fun K "_law_halved" "_law_halved" sHalved f fd)
  (GD:FnOk P w K mg base CX0 1 fD fdD ["_law_state","_law_many"] (spDraw K)) (bD:Binds K fdD ["_law_state","_law_many"] []) (kD:PySem.W.keepIn K (.ref fD)=true) (mD:mg "_law_draw"=some (.ref fD))
  (GS:FnOk P w K mg base CX0 2 fS fdS ["_law_state","_law_pool"] (spSome K)) (bS:Binds K fdS ["_law_state","_law_pool"] []) (kS:PySem.W.keepIn K (.ref fS)=true) (mS:mg "_law_some"=some (.ref fS))
  (GM:FnOk P w K mg base CX0 L fM fdM ["_law_state","_law_box","_law_kind","_law_scope","_law_deep"] (spMade K n)) (bM:Binds K fdM ["_law_state","_law_box","_law_kind","_law_scope","_law_deep"] []) (kM:PySem.W.keepIn K (.ref fM)=true) (mM:mg "_law_made"=some (.ref fM)) :
  FnOk P w K mg base CX0 (L+1) f fd ["_law_state","_law_box","_law_kind","_law_scope","_law_deep"] (spHalf K n):=by
 refine F.ok scHalved (fun vs H Q E h=>?_) (fun cdv A outer s H vs Q E hrM h=>?_)
 ·obtain⟨_,_,_,_,_,_,_,_,_,_,_,_,_,_,rfl,_⟩:=h
  rfl
 obtain⟨lst,lb,pp,pk,pf,d,x,k,FF,ks,G,m,room,deep,rfl,hst,hbox,hx,hg,hkd,hsc,hm,hdeep,q⟩:=h
 have hu:=hu_of hrM
 have hrS:Room 2 _:=hrM.mono (by omega)
 have hrD:Room 1 _:=hrM.mono (by omega)
 refine⟨_,@pss_cons _ _ _ _ _ (ps_set (i:=5) scHalved.nd rfl (Or.inl rfl) (pe_call GS hrS rfl mS kS bS .nil pass0 (@pa_cons _ _ _ _ _ (pv 0) (@pa_cons _ _ _ _ _ (pe_dget hu (pv 1) pe_str (fun _ _=>rfl)) pa_nil rfl) rfl))) (@pss_cons _ _ _ _ _ (ps_if (pt_cmpR op_eq (pe_call GD hrD rfl mD kD bD .nil pass0 (@pa_cons _ _ _ _ _ (pv 0) (@pa_cons _ _ _ _ _ pe_int pa_nil rfl) rfl)) pe_int (nomark _)) (@pss_one _ _ _ (@ps_ret _ _ _ _ (@pe_tup _ _ _ _ _ (@pa_cons _ _ _ _ _ pe_str (@pa_cons _ _ _ _ _ (pe_call GM hrM rfl mM kM bM .nil pass0 (@pa_cons _ _ _ _ _ (pv 0) (@pa_cons _ _ _ _ _ (pv 1) (@pa_cons _ _ _ _ _ (@pe_tup _ _ _ _ _ (@pa_cons _ _ _ _ _ pe_str (@pa_cons _ _ _ _ _ (pv 2) (@pa_cons _ _ _ _ _ (pv 5) pa_nil rfl) rfl) rfl)) (@pa_cons _ _ _ _ _ (pv 3) (@pa_cons _ _ _ _ _ (pv 4) pa_nil rfl) rfl) rfl) rfl) rfl)) pa_nil rfl) rfl)))) pss_nil) (@pss_one _ _ _ (@ps_ret _ _ _ _ (@pe_tup _ _ _ _ _ (@pa_cons _ _ _ _ _ pe_str (@pa_cons _ _ _ _ _ (pe_call GM hrM rfl mM kM bM .nil pass0 (@pa_cons _ _ _ _ _ (pv 0) (@pa_cons _ _ _ _ _ (pv 1) (@pa_cons _ _ _ _ _ (@pe_tup _ _ _ _ _ (@pa_cons _ _ _ _ _ pe_str (@pa_cons _ _ _ _ _ (pv 5) (@pa_cons _ _ _ _ _ (pv 2) pa_nil rfl) rfl) rfl)) (@pa_cons _ _ _ _ _ (pv 3) (@pa_cons _ _ _ _ _ (pv 4) pa_nil rfl) rfl) rfl) rfl) rfl)) pa_nil rfl) rfl))))),?_⟩
 obtain⟨kx,hk1,hk2⟩:=hbox.kinds
 have g:=DGet.k (k:=Sum.inr "kinds") hst.box
 rw [box_kinds] at g
 have hkl:kx.length=6:=(pair_len hk2).trans hbox.len
 refine⟨_,rfl,_,rfl,lb,_,rfl,g,lst,pk,kx,rfl,hst.st,SqL.of (zo1 _ _ hk1),by omega,by omega,fun H2 i y t2 y2 hy=>?_⟩
 obtain⟨s2,z2⟩:=hst.draw t2 y2
 obtain⟨l,hl,hyl⟩:=pair_get hk2 hy
 obtain⟨e1,e2⟩:=hbox.good _ (List.mem_of_getElem? hl)
 refine⟨_,rfl,lst,2,rfl,s2.st,by decide,by decide,fun H3 r t3 y3 r0 r1=>?_⟩
 obtain⟨s3,z3⟩:=s2.draw t3 y3
 have z23:=z2.trans z3
 refine⟨rfl,_,rfl,ite2 (fun _=>?_) (fun _=>?_)⟩
 ·refine⟨_,rfl,_,rfl,_,rfl,_,rfl,(by show 3≤sizeLine;decide),fun p hp=>?_⟩
  obtain⟨s4,z4,g4⟩:=s3.nw hp (.tup [.str "pair",x,y])
  have z24:=z23.trans z4
  refine⟨_,rfl,_,rfl,lst,lb,pp,pk,pf,d,.ref p,.pair k l,FF,ks,G,m,room,deep,rfl,s4,hbox.same z24,.pair (SqT.of g4) (hx.same z24) (hyl.same z24),.pair hg e1,by simp only [Kd.depth];omega,hsc.same z24,hm,hdeep,fun H5 u e room' s5 z5 a1 a2 a3 a4=>?_⟩
  refine⟨(by show 2≤sizeLine;decide),fun p2 hp2=>?_⟩
  obtain⟨s6,z6,g6⟩:=s5.nw hp2 (.tup [.str "first",u])
  exact q _ _ (.nd .fst [e]) _ s6 (z24.trans (z5.trans z6)) (.nd (f:=.fst) (xs:=[u]) g6 (.cons (a1.same z6) .nil)) (.fst a2) (ht_nd1 a3 (by omega)) (by rw [nc_nd1];exact a4)
 ·refine⟨_,rfl,_,rfl,_,rfl,_,rfl,(by show 3≤sizeLine;decide),fun p hp=>?_⟩
  obtain⟨s4,z4,g4⟩:=s3.nw hp (.tup [.str "pair",y,x])
  have z24:=z23.trans z4
  refine⟨_,rfl,_,rfl,lst,lb,pp,pk,pf,d,.ref p,.pair l k,FF,ks,G,m,room,deep,rfl,s4,hbox.same z24,.pair (SqT.of g4) (hyl.same z24) (hx.same z24),.pair e1 hg,by simp only [Kd.depth];omega,hsc.same z24,hm,hdeep,fun H5 u e room' s5 z5 a1 a2 a3 a4=>?_⟩
  refine⟨(by show 2≤sizeLine;decide),fun p2 hp2=>?_⟩
  obtain⟨s6,z6,g6⟩:=s5.nw hp2 (.tup [.str "second",u])
  exact q _ _ (.nd .snd [e]) _ s6 (z24.trans (z5.trans z6)) (.nd (f:=.snd) (xs:=[u]) g6 (.cons (a1.same z6) .nil)) (.snd a2) (ht_nd1 a3 (by omega)) (by rw [nc_nd1];exact a4)
end
end K72
namespace K72
open PySem L2 Kk
def spOwn(K:PySem.W.Frag)(n:Nat):Sp:=fun vs H Q _=>∃(ls lb pp pk pf d:Addr) (x:V) (k:Kd) (F:FT) (ks:List Kd) (G:GT) (m:Nat) (room deep:Int),vs=[.ref ls,.ref lb,x,.ref d,.int deep]∧St2 K H ls lb pp pk pf room∧Box K (zo H [ls,lb]) pp pk pf F ks∧KdAt K (zo H [ls,lb]) x k∧Gd k∧Kd.depth k≤3∧ScAt K (zo H [ls,lb]) d G m∧m+n≤500∧deep≤n ∧
 ∀H' u e room',St2 K H' ls lb pp pk pf room'→Same (zo H [ls,lb]) (zo H' [ls,lb])→ExAt (zo H' [ls,lb]) u e→Ty F G e k→e.ht≤n+6→nc e+room'.toNat≤room.toNat→Q u H'
theorem ht_nd2{f:Fm}{a b:Ex}{n:Nat}(h:a.ht≤n)(h2:b.ht≤n)(h1:2≤n):(Ex.nd f [a,b]).ht≤n+1:=by
 simp only [Ex.ht,hts,List.length_cons,List.length_nil]
 omega
theorem nc_nd2{f:Fm}{a b:Ex}:nc (.nd f [a,b])=nc a+nc b:=by simp [nc,ncs]
theorem sign2{r:Int}(h0:0≤r)(h1:r < 2):∃c,atI (("=<":Str).cps.toList) r=some c∧((⟨#[c]⟩:Str)="="∨(⟨#[c]⟩:Str)="<"):=by
 have:r=0∨r=1:=by omega
 rcases this with rfl|rfl
 ·exact⟨_,rfl,.inl (by decide +kernel)⟩
 ·exact⟨_,rfl,.inr (by decide +kernel)⟩
theorem sign3{r:Int}(h0:0≤r)(h1:r < 3):∃c,atI (("+-*":Str).cps.toList) r=some c∧((⟨#[c]⟩:Str)="+"∨(⟨#[c]⟩:Str)="-"∨(⟨#[c]⟩:Str)="*"):=by
 have:r=0∨r=1∨r=2:=by omega
 rcases this with rfl|rfl|rfl
 ·exact⟨_,rfl,.inl (by decide +kernel)⟩
 ·exact⟨_,rfl,.inr (.inl (by decide +kernel))⟩
 ·exact⟨_,rfl,.inr (.inr (by decide +kernel))⟩
section
variable{P:Program}{w:World}{K:PySem.W.Frag}{mg:Str→Option Value}{base:Heap}
theorem scOwn:FnScope ["_law_state","_law_box","_law_kind","_law_scope","_law_deep","_law_one","_law_told"] ["_law_state","_law_box","_law_kind","_law_scope","_law_deep"] (defScope sOwn):=⟨rfl,rfl,rfl,by decide +kernel,rfl,by decide +kernel,by decide +kernel⟩
set_option maxHeartbeats 0 in
theorem ok_own{f fS fM fD fN:Addr}{fd fdS fdM fdD fdN:FuncData}{L n:Nat}(hL:2≤L) (F:Fun K "_law_own" "_law_own" sOwn f fd)
  (GD:FnOk P w K mg base CX0 1 fD fdD ["_law_state","_law_many"] (spDraw K)) (bD:Binds K fdD ["_law_state","_law_many"] []) (kD:PySem.W.keepIn K (.ref fD)=true) (mD:mg "_law_draw"=some (.ref fD))
  (GS:FnOk P w K mg base CX0 2 fS fdS ["_law_state","_law_pool"] (spSome K)) (bS:Binds K fdS ["_law_state","_law_pool"] []) (kS:PySem.W.keepIn K (.ref fS)=true) (mS:mg "_law_some"=some (.ref fS))
  (GM:FnOk P w K mg base CX0 L fM fdM ["_law_state","_law_box","_law_kind","_law_scope","_law_deep"] (spMade K n)) (bM:Binds K fdM ["_law_state","_law_box","_law_kind","_law_scope","_law_deep"] []) (kM:PySem.W.keepIn K (.ref fM)=true) (mM:mg "_law_made"=some (.ref fM))
  (GN:FnOk P w K mg base CX0 (L+1) fN fdN ["_law_state","_law_box","_law_scope","_law_deep"] (spNum K n)) (bN:Binds K fdN ["_law_state","_law_box","_law_scope","_law_deep"] []) (kN:PySem.W.keepIn K (.ref fN)=true) (mN:mg "_law_num"=some (.ref fN)) :
  FnOk P w K mg base CX0 (L+2) f fd ["_law_state","_law_box","_law_kind","_law_scope","_law_deep"] (spOwn K n):=by
 refine F.ok scOwn (fun vs H Q E h=>?_) (fun cdv A outer s H vs Q E hrN h=>?_)
 ·obtain⟨_,_,_,_,_,_,_,_,_,_,_,_,_,_,rfl,_⟩:=h
  rfl
 obtain⟨lst,lb,pp,pk,pf,d,x,k,FF,ks,G,m,room,deep,rfl,hst,hbox,hx,hg,hkd,hsc,hm,hdeep,q⟩:=h
 have hu:=hu_of hrN
 have hrM:Room L _:=hrN.mono (by omega)
 have hrS:Room 2 _:=hrN.mono (by omega)
 have hrD:Room 1 _:=hrN.mono (by omega)
 obtain⟨t2,d2,k2⟩:∃t,PSs (cxOf CX0 P w K mg base ["_law_state","_law_box","_law_kind","_law_scope","_law_deep","_law_one","_law_told"] "_law_own" (defScope sOwn) f cdv A outer s H E).nox (List.drop 2 (defBody sOwn)) t ∧
   ∀(H1:Hp) (n0:Int),k=.num n0→St2 K H1 lst lb pp pk pf room→Same (zo H [lst,lb]) (zo H1 [lst,lb]) →
    t { nx:=fun _ H'=>Q .non H',rt:=Q } [some (.ref lst),some (.ref lb),some x,some (.ref d),some (.int deep),none,none] H1:=by
  refine⟨_,@pss_cons _ _ _ _ _ (ps_if (pt_cmpR op_eq (pe_call GD hrD rfl mD kD bD .nil pass0 (@pa_cons _ _ _ _ _ (pv 0) (@pa_cons _ _ _ _ _ pe_int pa_nil rfl) rfl)) pe_int (nomark _)) (@pss_one _ _ _ (@ps_ret _ _ _ _ (@pe_tup _ _ _ _ _ (@pa_cons _ _ _ _ _ pe_str (@pa_cons _ _ _ _ _ (pe_ix ix_tup (pv 2) pe_int (fun _ _=>rfl)) (@pa_cons _ _ _ _ _ (pe_call GN hrN rfl mN kN bN .nil pass0 (@pa_cons _ _ _ _ _ (pv 0) (@pa_cons _ _ _ _ _ (pv 1) (@pa_cons _ _ _ _ _ (pv 3) (@pa_cons _ _ _ _ _ (pv 4) pa_nil rfl) rfl) rfl) rfl)) pa_nil rfl) rfl) rfl)))) pss_nil) (@pss_cons _ _ _ _ _ (ps_set (i:=5) scOwn.nd rfl (Or.inl rfl) (pe_call GM hrM rfl mM kM bM .nil pass0 (@pa_cons _ _ _ _ _ (pv 0) (@pa_cons _ _ _ _ _ (pv 1) (@pa_cons _ _ _ _ _ (pv 2) (@pa_cons _ _ _ _ _ (pv 3) (@pa_cons _ _ _ _ _ (pv 4) pa_nil rfl) rfl) rfl) rfl) rfl))) (@pss_one _ _ _ (@ps_ret _ _ _ _ (@pe_tup _ _ _ _ _ (@pa_cons _ _ _ _ _ pe_str (@pa_cons _ _ _ _ _ (pe_ix ix_str pe_str (pe_call GD hrD rfl mD kD bD .nil pass0 (@pa_cons _ _ _ _ _ (pv 0) (@pa_cons _ _ _ _ _ pe_int pa_nil rfl) rfl)) (fun _ _=>rfl)) (@pa_cons _ _ _ _ _ (pe_ix ix_tup (pv 2) pe_int (fun _ _=>rfl)) (@pa_cons _ _ _ _ _ (pv 5) (@pa_cons _ _ _ _ _ (pe_call GM hrM rfl mM kM bM .nil pass0 (@pa_cons _ _ _ _ _ (pv 0) (@pa_cons _ _ _ _ _ (pv 1) (@pa_cons _ _ _ _ _ (pv 2) (@pa_cons _ _ _ _ _ (pv 3) (@pa_cons _ _ _ _ _ (pv 4) pa_nil rfl) rfl) rfl) rfl) rfl)) pa_nil rfl) rfl) rfl) rfl) rfl))))),?_⟩
  rintro H1 n0 rfl s1 z1
  cases hx with
  |@num a _ ha =>
   cases hg with
   |num g1 g2 =>
    have ha1:=z1.tup ha
    refine⟨_,rfl,lst,3,rfl,s1.st,by decide,by decide,fun H2 r t2 y2 r0 r1=>?_⟩
    obtain⟨s2,z2⟩:=s1.draw t2 y2
    have z12:=z1.trans z2
    refine⟨rfl,_,rfl,ite2 (fun _=>?_) (fun _=>?_)⟩
    ·refine⟨_,rfl,a,_,_,_,rfl,rfl,zo_same.tup (z12.tup ha),at1,_,rfl,_,rfl,_,rfl,_,rfl,lst,lb,pp,pk,pf,d,FF,ks,G,m,room,deep,rfl,s2,hbox.same z12,hsc.same z12,hm,hdeep,fun H3 u e n' room' s3 z3 a1 a2 a3 a4=>?_⟩
     refine⟨(by show 3≤sizeLine;decide),fun p hp=>?_⟩
     obtain⟨s4,z4,g4⟩:=s3.nw hp (.tup [.str "as",.int n0,u])
     exact q _ _ (.nd (.as_ n0) [e]) _ s4 (z12.trans (z3.trans z4)) (.nd (f:=.as_ n0) (xs:=[u]) g4 (.cons (a1.same z4) .nil)) (.as_ g1 g2 a2) (ht_nd1 a3 (by omega)) (by rw [nc_nd1];exact a4)
    ·refine⟨_,rfl,_,rfl,_,rfl,_,rfl,_,rfl,lst,lb,pp,pk,pf,d,_,.num n0,FF,ks,G,m,room,deep,rfl,s2,hbox.same z12,.num (z12.tup ha),.num g1 g2,hkd,hsc.same z12,hm,hdeep,fun H3 u e room' s3 z3 a1 a2 a3 a4=>?_⟩
     refine⟨_,rfl,lst,3,rfl,s3.st,by decide,by decide,fun H4 r' t4 y4 r0 r1=>?_⟩
     obtain⟨s4,z4⟩:=s3.draw t4 y4
     obtain⟨c,hc1,hc2⟩:=sign3 r0 r1
     have z14:=z12.trans (z3.trans z4)
     refine⟨_,_,c,rfl,rfl,(by show 3≤sizeLine;decide),hc1,?_⟩
     refine⟨_,rfl,a,_,_,_,rfl,rfl,zo_same.tup (z14.tup ha),at1,_,rfl,?_⟩
     refine⟨_,rfl,_,rfl,_,rfl,_,rfl,_,rfl,lst,lb,pp,pk,pf,d,_,.num n0,FF,ks,G,m,room',deep,rfl,s4,hbox.same z14,.num (z14.tup ha),.num g1 g2,hkd,hsc.same z14,hm,hdeep,fun H5 u5 e5 room5 s5 z5 b1 b2 b3 b4=>?_⟩
     refine⟨(by show 5≤sizeLine;decide),fun p hp=>?_⟩
     obtain⟨s6,z6,g6⟩:=s5.nw hp (.tup [.str "op",.str ⟨#[c]⟩,.int n0,u,u5])
     exact q _ _ (.nd (.op ⟨#[c]⟩ n0) [e,e5]) _ s6 (z14.trans (z5.trans z6)) (.nd (f:=.op ⟨#[c]⟩ n0) (xs:=[u,u5]) g6 (.cons (a1.same (z4.trans (z5.trans z6))) (.cons (b1.same z6) .nil))) (.op hc2 a2 b2) (ht_nd2 a3 b3 (by omega)) (by rw [nc_nd2];omega)
 refine⟨_,@pss_cons _ _ _ _ _ (ps_if (pt_cmpR op_eq (pe_ix ix_tup (pv 2) pe_int (fun _ _=>rfl)) pe_str (nomark _)) (@pss_cons _ _ _ _ _ (ps_set (i:=5) scOwn.nd rfl (Or.inl rfl) (pe_call GM hrM rfl mM kM bM .nil pass0 (@pa_cons _ _ _ _ _ (pv 0) (@pa_cons _ _ _ _ _ (pv 1) (@pa_cons _ _ _ _ _ (pe_ix ix_tup (pv 2) pe_int (fun _ _=>rfl)) (@pa_cons _ _ _ _ _ (pv 3) (@pa_cons _ _ _ _ _ (pv 4) pa_nil rfl) rfl) rfl) rfl) rfl))) (@pss_one _ _ _ (@ps_ret _ _ _ _ (@pe_tup _ _ _ _ _ (@pa_cons _ _ _ _ _ pe_str (@pa_cons _ _ _ _ _ (pv 5) (@pa_cons _ _ _ _ _ (pe_call GM hrM rfl mM kM bM .nil pass0 (@pa_cons _ _ _ _ _ (pv 0) (@pa_cons _ _ _ _ _ (pv 1) (@pa_cons _ _ _ _ _ (pe_ix ix_tup (pv 2) pe_int (fun _ _=>rfl)) (@pa_cons _ _ _ _ _ (pv 3) (@pa_cons _ _ _ _ _ (pv 4) pa_nil rfl) rfl) rfl) rfl) rfl)) pa_nil rfl) rfl) rfl))))) pss_nil) (@pss_cons _ _ _ _ _ (ps_if (PW.pt (pw_and (pt_cmpR op_eq (pe_ix ix_tup (pv 2) pe_int (fun _ _=>rfl)) pe_int (nomark _)) (pw_and1 (pt_cmpR op_eq (pe_call GD hrD rfl mD kD bD .nil pass0 (@pa_cons _ _ _ _ _ (pv 0) (@pa_cons _ _ _ _ _ pe_int pa_nil rfl) rfl)) pe_int (nomark _))))) (@pss_cons _ _ _ _ _ (ps_set (i:=6) scOwn.nd rfl (Or.inl rfl) (pe_call GS hrS rfl mS kS bS .nil pass0 (@pa_cons _ _ _ _ _ (pv 0) (@pa_cons _ _ _ _ _ (pe_slice sl_list (pe_dget hu (pv 1) pe_str (fun _ _=>rfl)) po_none (po_some pe_int)) pa_nil rfl) rfl))) (@pss_cons _ _ _ _ _ (ps_set (i:=5) scOwn.nd rfl (Or.inl rfl) (pe_call GM hrM rfl mM kM bM .nil pass0 (@pa_cons _ _ _ _ _ (pv 0) (@pa_cons _ _ _ _ _ (pv 1) (@pa_cons _ _ _ _ _ (pv 6) (@pa_cons _ _ _ _ _ (pv 3) (@pa_cons _ _ _ _ _ (pv 4) pa_nil rfl) rfl) rfl) rfl) rfl))) (@pss_one _ _ _ (@ps_ret _ _ _ _ (@pe_tup _ _ _ _ _ (@pa_cons _ _ _ _ _ pe_str (@pa_cons _ _ _ _ _ (pe_ix ix_str pe_str (pe_call GD hrD rfl mD kD bD .nil pass0 (@pa_cons _ _ _ _ _ (pv 0) (@pa_cons _ _ _ _ _ pe_int pa_nil rfl) rfl)) (fun _ _=>rfl)) (@pa_cons _ _ _ _ _ (pv 5) (@pa_cons _ _ _ _ _ (pe_call GM hrM rfl mM kM bM .nil pass0 (@pa_cons _ _ _ _ _ (pv 0) (@pa_cons _ _ _ _ _ (pv 1) (@pa_cons _ _ _ _ _ (pv 6) (@pa_cons _ _ _ _ _ (pv 3) (@pa_cons _ _ _ _ _ (pv 4) pa_nil rfl) rfl) rfl) rfl) rfl)) pa_nil rfl) rfl) rfl) rfl)))))) pss_nil) d2),?_⟩
 cases hx with
 |name ha=>cases hg
 |@pair a y1 y2 k1 k' ha h1 h2 =>
  cases hg with
  |pair g1 g2 =>
   simp only [Kd.depth] at hkd
   refine⟨_,rfl,a,_,_,_,rfl,rfl,zo_same.tup ha,at0,rfl,_,rfl,ite2 (fun _=>?_) (fun e=>absurd (decide_eq_true rfl) e)⟩
   refine⟨_,rfl,_,rfl,_,rfl,a,_,_,_,rfl,rfl,zo_same.tup ha,at1,_,rfl,_,rfl,lst,lb,pp,pk,pf,d,y1,k1,FF,ks,G,m,room,deep,rfl,hst,hbox,h1,g1,by omega,hsc,hm,hdeep,fun H2 u e room' s2 z2 a1 a2 a3 a4=>?_⟩
   refine⟨_,rfl,_,rfl,_,rfl,_,rfl,a,_,_,_,rfl,rfl,zo_same.tup (z2.tup ha),at2,_,rfl,_,rfl,lst,lb,pp,pk,pf,d,y2,k',FF,ks,G,m,room',deep,rfl,s2,hbox.same z2,h2.same z2,g2,by omega,hsc.same z2,hm,hdeep,fun H3 u3 e3 room3 s3 z3 b1 b2 b3 b4=>?_⟩
   refine⟨(by show 3≤sizeLine;decide),fun p hp=>?_⟩
   obtain⟨s6,z6,g6⟩:=s3.nw hp (.tup [.str "two",u,u3])
   exact q _ _ (.nd .two [e,e3]) _ s6 (z2.trans (z3.trans z6)) (.nd (f:=.two) (xs:=[u,u3]) g6 (.cons (a1.same (z3.trans z6)) (.cons (b1.same z6) .nil))) (.two a2 b2) (ht_nd2 a3 b3 (by omega)) (by rw [nc_nd2];omega)
 |@num a n0 ha =>
  refine⟨_,rfl,a,_,_,_,rfl,rfl,zo_same.tup ha,at0,rfl,_,rfl,ite2 (fun e=>absurd (of_decide_eq_true e) (by intro z;cases z)) (fun _=>?_)⟩
  refine⟨_,rfl,a,_,_,_,rfl,rfl,zo_same.tup ha,at1,rfl,_,rfl,ite2 (fun e=>?_) (fun _=>iteF (A:=True) (k2 H n0 rfl hst (Same.refl _)))⟩
  have en:n0=2:=V.int.inj (of_decide_eq_true e)
  subst en
  refine⟨_,rfl,lst,2,rfl,hst.st,by decide,by decide,fun H2 r t2 y2 r0 r1=>?_⟩
  obtain⟨s2,z2⟩:=hst.draw t2 y2
  refine⟨rfl,_,rfl,ite2 (fun _=>?_) (fun _=>k2 H2 2 rfl s2 z2)⟩
  obtain⟨kx,hk1,hk2⟩:=(hbox.same z2).kinds
  have g:=DGet.k (k:=Sum.inr "kinds") s2.box
  rw [box_kinds] at g
  refine⟨_,rfl,_,rfl,lb,_,rfl,g,_,rfl,pk,kx,rfl,SqL.of (zo_same _ _ hk1),fun l hl=>?_⟩
  obtain⟨s3,z3,g3⟩:=s2.nw hl (.lst (cutV kx none (some 4)))
  have hkl:kx.length=6:=(pair_len hk2).trans hbox.len
  refine⟨lst,l,cutV kx none (some 4),rfl,s3.st,SqL.of (zo1 _ _ g3),by rw [cut4,List.length_take];omega,by rw [cut4,List.length_take];omega,fun H4 i xx t4 y4 hxx=>?_⟩
  obtain⟨s4,z4⟩:=s3.draw t4 y4
  have z34:=z3.trans z4
  have z14:=z2.trans z34
  have hi4:i < 4:=by
   rw [cut4] at hxx
   have:=(List.getElem?_eq_some_iff.mp hxx).1
   rw [List.length_take] at this
   omega
  have hx':kx[i]?=some xx:=by
   rw [cut4,List.getElem?_take_of_lt hi4] at hxx
   exact hxx
  obtain⟨k9,hk9,hxk⟩:=pair_get hk2 hx'
  obtain⟨n',hn'⟩:=hbox.num i hi4
  rw [hn'] at hk9
  cases hk9
  obtain⟨e1,e2⟩:=hbox.good _ (List.mem_of_getElem? hn')
  refine⟨_,rfl,_,rfl,_,rfl,_,rfl,_,rfl,lst,lb,pp,pk,pf,d,xx,.num n',FF,ks,G,m,room,deep,rfl,s4,hbox.same z14,hxk.same z34,e1,by omega,hsc.same z14,hm,hdeep,fun H5 u e room' s5 z5 a1 a2 a3 a4=>?_⟩
  refine⟨_,rfl,lst,2,rfl,s5.st,by decide,by decide,fun H6 r' t6 y6 r0 r1=>?_⟩
  obtain⟨s6,z6⟩:=s5.draw t6 y6
  obtain⟨c,hc1,hc2⟩:=sign2 r0 r1
  have z56:=z5.trans z6
  have z16:=z14.trans z56
  refine⟨_,_,c,rfl,rfl,(by show 2≤sizeLine;decide),hc1,_,rfl,?_⟩
  refine⟨_,rfl,_,rfl,_,rfl,_,rfl,_,rfl,lst,lb,pp,pk,pf,d,xx,.num n',FF,ks,G,m,room',deep,rfl,s6,hbox.same z16,hxk.same (z34.trans z56),e1,by omega,hsc.same z16,hm,hdeep,fun H7 u7 e7 room7 s7 z7 b1 b2 b3 b4=>?_⟩
  refine⟨(by show 4≤sizeLine;decide),fun p hp=>?_⟩
  obtain⟨s8,z8,g8⟩:=s7.nw hp (.tup [.str "test",.str ⟨#[c]⟩,u,u7])
  exact q _ _ (.nd (.test ⟨#[c]⟩) [e,e7]) _ s8 (z16.trans (z7.trans z8)) (.nd (f:=.test ⟨#[c]⟩) (xs:=[u,u7]) g8 (.cons (a1.same (z6.trans (z7.trans z8))) (.cons (b1.same z8) .nil))) (.test hc2 a2 b2) (ht_nd2 a3 b3 (by omega)) (by rw [nc_nd2];omega)
end
end K72
namespace L2
open PySem
theorem comp_fTL{K:PySem.W.Frag}{p:Addr}{xs:List V}{n:Nat}{κ:List Nat}{g:TG}{tc:TT}{te:TE}{σ:St}{H:Hp}{Q:VK}(hx:xs.length≤1000)(R:Nat→List V→Hp→Prop)(h0:R 0 [] H)(hp:∀i ys H2,R i ys H2→SqL K H2 p xs)(hlen:∀i ys H2,R i ys H2→ys.length≤i)
  (hs:∀i u ys H2 (N:List V→Hp→Prop),(∀ys' H',R (i+1) ys' H'→N ys' H')→xs[i]?=some u→R i ys H2→g u (blkSt n κ σ) H2 fun σ4 H4=>σ4.drop n=(blkSt n κ σ).drop n∧tc σ4 H4 fun b H5=>if b=true then te σ4 H5 fun v H6=>N (ys++[v]) H6 else N ys H5)
  (hQ:∀ys H2 D,R xs.length ys H2→H2 D=none→Q (.ref D) (upd H2 D (.lst ys))):CompRun n κ g tc te σ (Itl K p) H Q:=by
 refine comp_by (J:=Itl K p) (xs:=xs) R h0 (Nat.le_of_lt (small1000 hx)) hlen ?_ ?_ ?_ ?_ ?_
 ·rintro i u ys H3 hu h
  exact⟨_,_,hp _ _ _ h,hu⟩
 ·rintro i ys u H3 H' hn h hy
  exact⟨hy.1,hy.2 _ (hp _ _ _ h)⟩
 ·rintro ys H3 h
  exact⟨_,hp _ _ _ h,Nat.le_refl _⟩
 ·rintro i u ys H3 N hN hu h
  exact hs i u ys H3 N hN hu h
 ·rintro ys H3 D h hD
  exact hQ ys H3 D h hD
end L2
namespace K72
open PySem L2 Kk
theorem Tys.snoc{F:FT}{G:GT}{e:Ex}{k:Kd}(h:Ty F G e k):∀{es:List Ex} {ks:List Kd},Tys F G es ks→Tys F G (es++[e]) (ks++[k])
 |_,_,.nil=>.cons h .nil
 |_,_,.cons a r=>.cons a (Tys.snoc h r)
theorem exs_snoc{H:Hp}{x:V}{e:Ex}(h:ExAt H x e):∀{xs:List V} {es:List Ex},ExsAt H xs es→ExsAt H (xs++[x]) (es++[e])
 |_,_,.nil=>.cons h .nil
 |_,_,.cons a r=>.cons a (exs_snoc h r)
theorem hts_snoc{e:Ex}:∀(es:List Ex),hts (es++[e])=max (hts es) e.ht
 |[]=>by simp [hts]
 |a::es=>by
  rw [List.cons_append,hts,hts,hts_snoc es]
  omega
theorem ncs_snoc{e:Ex}:∀(es:List Ex),ncs (es++[e])=ncs es+nc e
 |[]=>by simp [ncs]
 |a::es=>by
  rw [List.cons_append,ncs,ncs,ncs_snoc es]
  omega
mutual
theorem ExAt.tups{H H':Hp}(s:∀p xs,H p=some (.tup xs)→H' p=some (.tup xs)):∀{x:V} {e:Ex},ExAt H x e→ExAt H' x e
 |_,_,.lit h=>.lit (s _ _ h)
 |_,_,.var h=>.var (s _ _ h)
 |_,_,.if_ h a b c=>.if_ (s _ _ h) (ExAt.tups s a) (ExAt.tups s b) (ExAt.tups s c)
 |_,_,.let_ h a b=>.let_ (s _ _ h) (ExAt.tups s a) (ExAt.tups s b)
 |_,_,.nd h r=>.nd (s _ _ h) (ExsAt.tups s r)
 |_,_,.call h h2 r=>.call (s _ _ h) (s _ _ h2) (ExsAt.tups s r)
theorem ExsAt.tups{H H':Hp}(s:∀p xs,H p=some (.tup xs)→H' p=some (.tup xs)):∀{xs:List V} {es:List Ex},ExsAt H xs es→ExsAt H' xs es
 |_,_,.nil=>.nil
 |_,_,.cons a r=>.cons (ExAt.tups s a) (ExsAt.tups s r)
end
theorem ex_box{K:PySem.W.Frag}{H:Hp}{ls lb pp pk pf:Addr}{room:Int}(h:St2 K H ls lb pp pk pf room){x:V}{e:Ex}(hx:ExAt (zo H [ls]) x e):ExAt (zo H [ls,lb]) x e:=hx.tups fun p xs hp=>by
 have n1:p∉[ls]:=fun z=>by rw [zo_at z] at hp;cases hp
 rw [zo_ne n1] at hp
 have n2:p≠lb:=fun z=>by rw [z,h.box] at hp;cases hp
 rw [zo_ne (fun z=>by simp at z n1;rcases z with z|z<;>contradiction)]
 exact hp
theorem lit_ht:∀{k:Kd} {e:Ex},LitE k e→e.ht≤Kd.depth k+1
 |_,_,.num _ _ _=>by simp [Ex.ht,Kd.depth]
 |_,_,.pair (k:=k) (l:=l) a b=>by
  have h1:=lit_ht a
  have h2:=lit_ht b
  have p1:=kd_pos k
  simp only [Ex.ht,hts,List.length_cons,List.length_nil,Kd.depth]
  omega
theorem kds_dats{K:PySem.W.Frag}{H:Hp}:∀{xs:List V} {ks:List Kd},Paired (KdAt K H) xs ks→Dats K H xs (ks.map Kd.dat)
 |_,_,.nil=>.nil
 |_,_,.cons a r=>.cons (kd_dat a) (kds_dats r)
theorem lay_all:∀{ks:List Kd},(∀k∈ks,Gd k∧Kd.depth k≤2)→PyData.canLayAll0 (ks.map Kd.dat)=true
 |[],_=>by simp [PyData.canLayAll0]
 |k::ks,h=>by
  have h1:=lay_kd (gd_ok (h k (.head _)).1)
  have h2:=lay_all (ks:=ks) fun z hz=>h z (.tail _ hz)
  simp [PyData.canLayAll0,h1,h2]
theorem any_kd{ks:List Kd}{k:Kd}(h:((ks.map Kd.dat).any fun e=>PyData.eqv e (Kd.dat k))=true):k∈ks:=by
 obtain⟨e,he,h2⟩:=List.any_eq_true.mp h
 obtain⟨k',hk',rfl⟩:=List.mem_map.mp he
 rw [eqv_dat] at h2
 rw [←of_decide_eq_true h2]
 exact hk'
theorem mem_putK{kvs:List (Key × V)}{k:Key}{v:V}{p:Key × V}(h:p∈putK kvs k v):(p.1=k∧p.2=v)∨p∈kvs:=by
 unfold putK at h
 split at h
 ·obtain⟨q,hq,e⟩:=List.mem_map.mp h
  split at e
  ·rename_i hk
   rw [←e]
   exact .inl ⟨hk,rfl⟩
  ·rw [←e];exact .inr hq
 ·rcases List.mem_append.mp h with z|z
  ·exact .inr z
  ·rw [List.mem_singleton.mp z];exact .inl ⟨rfl,rfl⟩
theorem upd_upd{H:Hp}{i:Addr}{a b:HO}:upd (upd H i a) i b=upd H i b:=by
 funext z
 by_cases e:z=i
 ·subst e;rw [upd_same,upd_same]
 ·rw [upd_ne e,upd_ne e,upd_ne e]
theorem kd_keep{K:PySem.W.Frag}{H H':Hp}(e:∀a xs,SqT K H a xs→SqT K H' a xs):∀{x:V} {k:Kd},KdAt K H x k→KdAt K H' x k
 |_,_,.num h=>.num (e _ _ h)
 |_,_,.name h=>.name (e _ _ h)
 |_,_,.pair h a b=>.pair (e _ _ h) (kd_keep e a) (kd_keep e b)
theorem thaw_eq{H:Hp}{d D:Addr}{u f l:HO}(h:H d=some u)(n:d≠D):upd (upd (upd H d f) D l) d u=upd H D l:=by
 funext b
 by_cases e:b=d
 ·subst e
  rw [upd_same,upd_ne n]
  exact h.symm
 ·rw [upd_ne e]
  by_cases e2:b=D
  ·subst e2
   rw [upd_same,upd_same]
  ·rw [upd_ne e2,upd_ne e2,upd_ne e]
theorem valV_mem{α:Type}[DecidableEq α]{kvs:List (α × V)}{kv:α × V}(h:kv∈kvs):valV kvs kv.1≠none:=fun e=>by
 unfold valV at e
 rw [Option.map_eq_none_iff,List.find?_eq_none] at e
 exact e kv h (decide_eq_true rfl)
theorem sqt_frT{K:PySem.W.Frag}{H:Hp}{l a:Addr}{kvs:List (List Key × V)}{xs:List V}{o:HO}(h:H l=some (.dT kvs))(t:SqT K H a xs):SqT K (upd H l o) a xs:=by
 rcases t with (t|⟨o',t⟩)|t
 ·exact .inl (.inl (by rw [upd_ne (fun e=>by rw [e,h] at t;cases t)];exact t))
 ·exact .inl (.inr ⟨o',by rw [upd_ne (fun e=>by rw [e,h] at t;cases t)];exact t⟩)
 ·exact .inr t
theorem comp_keys{d:Addr}{o:Obj}{kvs:List (Key × V)}{n:Nat}{κ:List Nat}{g:TG}{tc:TT}{te:TE}{σ:St}{H:Hp}{Q:VK}(hz:kvs.length≤1000)(hd:H d=some (.frz o (.dK kvs)))(R:Nat→List V→Prop)(h0:R 0 [])(hlen:∀i ys,R i ys→ys.length≤i)
  (hs:∀i kv ys (N:List V→Hp→Prop),kvs[i]?=some kv→R i ys→(∀ys',R (i+1) ys'→N ys' H)→g (kV kv.1) (blkSt n κ σ) H fun σ4 H4=>σ4.drop n=(blkSt n κ σ).drop n∧tc σ4 H4 fun b H5=>if b=true then te σ4 H5 fun v H6=>N (ys++[v]) H6 else N ys H5)
  (hQ:∀ys D,R kvs.length ys→H D=none→Q (.ref D) (upd H D (.lst ys))):CompRun n κ g tc te σ (Itk d o kvs) H Q:=by
 have hl:(kvs.map fun p=>kV p.1).length=kvs.length:=List.length_map _
 refine comp_by (J:=Itk d o kvs) (xs:=kvs.map fun p=>kV p.1) (fun i ys H3=>H3=H∧R i ys) ⟨rfl,h0⟩ (by rw [hl];exact Nat.le_of_lt (small1000 hz)) (fun i ys H3 h=>hlen i ys h.2) ?_ ?_ ?_ ?_ ?_
 ·rintro i u ys H3 hu ⟨rfl,_⟩
  refine⟨hd,?_⟩
  have:=(List.getElem?_eq_some_iff.mp hu).1
  omega
 ·rintro i ys u H3 H' hn ⟨rfl,_⟩ ⟨e,p,hp,ex⟩
  refine⟨e,?_⟩
  rw [List.getElem?_map,hp,ex]
  rfl
 ·rintro ys H3 ⟨rfl,_⟩
  exact⟨hd,by omega⟩
 ·rintro i u ys H3 N hN hu ⟨rfl,h⟩
  rw [List.getElem?_map] at hu
  cases e:kvs[i]? with
  |none=>rw [e] at hu;cases hu
  |some kv =>
   rw [e] at hu
   cases hu
   exact hs i kv ys N e h fun ys' h'=>hN ys' _ ⟨rfl,h'⟩
 ·rintro ys H3 D ⟨rfl,h⟩ hD
  rw [hl] at h
  exact hQ ys D h hD
theorem sqt_dK{K:PySem.W.Frag}{H:Hp}{l a:Addr}{kvs:List (Key × V)}{xs:List V}{o:HO}(h:H l=some (.dK kvs))(t:SqT K H a xs):SqT K (upd H l o) a xs:=by
 rcases t with (t|⟨o',t⟩)|t
 ·exact .inl (.inl (by rw [upd_ne (fun e=>by rw [e,h] at t;cases t)];exact t))
 ·exact .inl (.inr ⟨o',by rw [upd_ne (fun e=>by rw [e,h] at t;cases t)];exact t⟩)
 ·exact .inr t
theorem sql_dK{K:PySem.W.Frag}{H:Hp}{l a:Addr}{kvs:List (Key × V)}{xs:List V}{o:HO}(h:H l=some (.dK kvs))(t:SqL K H a xs):SqL K (upd H l o) a xs:=by
 rcases t with (t|⟨o',t⟩)|t
 ·exact .inl (.inl (by rw [upd_ne (fun e=>by rw [e,h] at t;cases t)];exact t))
 ·exact .inl (.inr ⟨o',by rw [upd_ne (fun e=>by rw [e,h] at t;cases t)];exact t⟩)
 ·exact .inr t
theorem St2.room{K:PySem.W.Frag}{H:Hp}{ls lb pp pk pf:Addr}{room r':Int}(h:St2 K H ls lb pp pk pf room):St2 K (upd H lb (.dK (boxK pp pk pf r'))) ls lb pp pk pf r':=by
 obtain⟨⟨p,ns,k,d,h1,h2,h3⟩,n,b⟩:=h
 refine⟨⟨p,ns,k,d,by rw [upd_ne n];exact h1,?_,h3⟩,n,upd_same⟩
 rw [zo_put (Ne.symm n)]
 exact sql_dK (by rw [zo_ne (by simpa using Ne.symm n)];exact b) h2
theorem eqv_nil:PyData.eqv (.list []) (.list [])=true:=by simp [PyData.eqv,PyData.eqvAll]
def CallsAt(W:Hp)(F:FT)(k:Kd)(ys:List V):Prop:=∀y∈ys,∃a qq t us,y=.ref a∧W a=some (.tup [.str qq,.str t])∧PyData.strOk qq=true∧PyData.strOk t=true∧F qq t=some (us,k)
theorem calls_dat{K:PySem.W.Frag}{W:Hp}{F:FT}{k:Kd}:∀{ys:List V},CallsAt W F k ys→∃ds,Dats K W ys ds∧PyData.canLayAll0 ds=true∧PyData.depthAll ds≤9
 |[],_=>⟨[],.nil,by simp [PyData.canLayAll0],by simp [PyData.depthAll]⟩
 |y::ys,h=>by
  obtain⟨ds,h1,h2,h3⟩:=calls_dat (ys:=ys) fun z hz=>h z (.tail _ hz)
  obtain⟨a,qq,t,us,rfl,e1,e2,e3,_⟩:=h y (.head _)
  refine⟨.tuple [.str qq,.str t]::ds,.cons (.tup (SqT.of e1) (.cons (.str _) (.cons (.str _) .nil))) h1,?_,?_⟩
  ·simp [PyData.canLayAll0,PyData.canLay0,e2,e3,h2]
  ·simp only [PyData.depthAll,PyData.depth]
   omega
def NamesAt(G:GT)(k:Kd)(ns:List V):Prop:=∀y∈ns,∃z:Str,y=.str z∧PyData.strOk z=true∧G z=some k
theorem names_dat{K:PySem.W.Frag}{W:Hp}{G:GT}{k:Kd}:∀{ns:List V},NamesAt G k ns→∃ds,Dats K W ns ds∧PyData.canLayAll0 ds=true∧PyData.depthAll ds≤9
 |[],_=>⟨[],.nil,by simp [PyData.canLayAll0],by simp [PyData.depthAll]⟩
 |y::ys,h=>by
  obtain⟨ds,h1,h2,h3⟩:=names_dat (ns:=ys) fun z hz=>h z (.tail _ hz)
  obtain⟨z,rfl,e2,_⟩:=h y (.head _)
  refine⟨.str z::ds,.cons (.str _) h1,?_,?_⟩
  ·simp [PyData.canLayAll0,PyData.canLay0,e2,h2]
  ·simp only [PyData.depthAll,PyData.depth]
   omega
theorem shaped_of{ds:List PyData}(h1:PyData.canLayAll0 ds=true)(h2:PyData.depthAll ds≤9):SeqAt.shaped (.list ds)=true:=by
 unfold SeqAt.shaped
 rw [Bool.and_eq_true]
 refine⟨by simp [PyData.canLay0,h1],decide_eq_true ?_⟩
 simp only [PyData.depth]
 omega
theorem hu64_of{A:Around}{k:Nat}(hr:Room k A):A.units+64 < cLine:=by have:=hr.un;omega
def spP(g:Nat→Sp)(N:Nat):Sp:=fun vs H Q E=>1≤N∧g (N - 1) vs H Q E
theorem spP_zero{P:Program}{w:World}{K:PySem.W.Frag}{mg:Str→Option Value}{base:Heap}{k:Nat}{f:Addr}{fd:FuncData}{ps:List Str}{g:Nat→Sp}:FnOk P w K mg base CX0 k f fd ps (spP g 0):=⟨fun _ _ _ _ h=>absurd h.1 (by decide),fun _ _ _ _ _ _ _ _ _ _ _ _ _ h=>absurd h.1 (by decide)⟩
theorem spP_succ{P:Program}{w:World}{K:PySem.W.Frag}{mg:Str→Option Value}{base:Heap}{k n:Nat}{f:Addr}{fd:FuncData}{ps:List Str}{g:Nat→Sp}(F:FnOk P w K mg base CX0 k f fd ps (g n)):FnOk P w K mg base CX0 k f fd ps (spP g (n+1)):=F.imp fun _ _ _ _ h=>h.2
section
variable{P:Program}{w:World}{K:PySem.W.Frag}{mg:Str→Option Value}{base:Heap}
theorem scMade:FnScope ["_law_state","_law_box","_law_kind","_law_scope","_law_deep","_law_names","_law_goes","_law_calls","_law_test","_law_one","_law_told","_law_x","_law_inner","_law_q","_law_f","_law_args"] ["_law_state","_law_box","_law_kind","_law_scope","_law_deep"] (defScope sMade):=⟨rfl,rfl,rfl,by decide +kernel,rfl,by decide +kernel,by decide +kernel⟩
set_option maxHeartbeats 0 in
theorem ok_made{f fS fD fL:Addr}{fd fdS fdD fdL:FuncData} (F:Fun K "_law_made" "_law_made" sMade f fd) (bM:Binds K fd ["_law_state","_law_box","_law_kind","_law_scope","_law_deep"] []) (mM:mg "_law_made"=some (.ref f)) (md:mg "dict"=none) (mt:mg "tuple"=none)
  (GD:FnOk P w K mg base CX0 1 fD fdD ["_law_state","_law_many"] (spDraw K)) (bD:Binds K fdD ["_law_state","_law_many"] []) (kD:PySem.W.keepIn K (.ref fD)=true) (mD:mg "_law_draw"=some (.ref fD))
  (GS:FnOk P w K mg base CX0 2 fS fdS ["_law_state","_law_pool"] (spSome K)) (bS:Binds K fdS ["_law_state","_law_pool"] []) (kS:PySem.W.keepIn K (.ref fS)=true) (mS:mg "_law_some"=some (.ref fS))
  (GL:FnOk P w K mg base CX0 5 fL fdL ["_law_state","_law_kind"] (spLit K 3)) (bL:Binds K fdL ["_law_state","_law_kind"] []) (kL:PySem.W.keepIn K (.ref fL)=true) (mL:mg "_law_lit"=some (.ref fL))
  {fH fY:Addr} {fdH fdY:FuncData} (bH:Binds K fdH ["_law_state","_law_box","_law_kind","_law_scope","_law_deep"] []) (kH:PySem.W.keepIn K (.ref fH)=true) (mH:mg "_law_halved"=some (.ref fH)) (bY:Binds K fdY ["_law_state","_law_box","_law_kind","_law_scope","_law_deep"] []) (kY:PySem.W.keepIn K (.ref fY)=true) (mY:mg "_law_own"=some (.ref fY)) {L N:Nat} (hL:5≤L)
  (GM:FnOk P w K mg base CX0 L f fd ["_law_state","_law_box","_law_kind","_law_scope","_law_deep"] (spP (spMade K) N)) (GH:FnOk P w K mg base CX0 (L+1) fH fdH ["_law_state","_law_box","_law_kind","_law_scope","_law_deep"] (spP (spHalf K) N)) (GY:FnOk P w K mg base CX0 (L+2) fY fdY ["_law_state","_law_box","_law_kind","_law_scope","_law_deep"] (spP (spOwn K) N)) :
  FnOk P w K mg base CX0 (L+3) f fd ["_law_state","_law_box","_law_kind","_law_scope","_law_deep"] (spMade K N):=by
 refine F.ok scMade (fun vs H Q E h=>?_) (fun cdv A outer s H vs Q E hrY h=>?_)
 ·obtain⟨_,_,_,_,_,_,_,_,_,_,_,_,_,_,rfl,_⟩:=h
  rfl
 obtain⟨lst,lb,pp,pk,pf,d,x,k,FF,ks,G,m,room,deep,rfl,hst,hbox,hx,hg,hkd,hsc,hm,hdeep,q⟩:=h
 have hu:=hu_of hrY
 have hu64:=hu64_of hrY
 have hrH:Room (L+1) _:=hrY.mono (by omega)
 have hrM:Room L _:=hrY.mono (by omega)
 have hrL:Room 5 _:=hrY.mono (by omega)
 have hrS:Room 2 _:=hrY.mono (by omega)
 have hrD:Room 1 _:=hrY.mono (by omega)
 have kM:=F.kp
 obtain⟨t9,d9,k9⟩:∃t,PSs (cxOf CX0 P w K mg base ["_law_state","_law_box","_law_kind","_law_scope","_law_deep","_law_names","_law_goes","_law_calls","_law_test","_law_one","_law_told","_law_x","_law_inner","_law_q","_law_f","_law_args"] "_law_made" (defScope sMade) f cdv A outer s H E).nox (List.drop 9 (defBody sMade)) t ∧
   ∀(H1:Hp) (ln lc:Addr) (gs:Int) (ys:List V),1≤deep→5≤room→St2 K H1 lst lb pp pk pf (room - 1)→Same (zo H [lst,lb]) (zo H1 [lst,lb])→zo H1 [lst,lb] lc=some (.lst ys)→ys.length≤5→CallsAt (zo H1 [lst,lb]) FF k ys →
    t { nx:=fun _ H'=>Q .non H',rt:=Q } [some (.ref lst),some (.ref lb),some x,some (.ref d),some (.int deep),some (.ref ln),some (.int gs),some (.ref lc),none,none,none,none,none,none,none,none] H1:=by
  refine⟨_,@pss_cons _ _ _ _ _ (ps_if (PW.pt (pw_and (pt_cmpR op_lt (pv 6) pe_int (nomark _)) (pw_and1 (pt_cmpR (op_neD hu64) (pv 7) (pe_lst pa_nil) (nomark _))))) (@pss_cons _ _ _ _ _ (ps_asg (pe_call GS hrS rfl mS kS bS .nil pass0 (@pa_cons _ _ _ _ _ (pv 0) (@pa_cons _ _ _ _ _ (pv 7) pa_nil rfl) rfl)) (pg_tup rfl (pgs_cons (pg_name (i:=13) scMade.nd rfl (Or.inl rfl)) (pgs_cons (pg_name (i:=14) scMade.nd rfl (Or.inl rfl)) pgs_nil)))) (@pss_cons _ _ _ _ _ (ps_comp (i0:=15) scMade.nd rfl (Or.inl rfl) (own:=["_law_each"]) (caps:=["_law_state","_law_box","_law_scope","_law_deep"]) (κ:=[0,1,3,4]) rfl ⟨rfl,by decide +kernel,by decide +kernel,rfl,rfl,(fun y hy=>by simp only [List.mem_cons,List.not_mem_nil,or_false] at hy;rcases hy with rfl|rfl|rfl|rfl<;>rfl),(fun y hy=>by simp only [List.mem_cons,List.not_mem_nil,or_false] at hy;rcases hy with rfl|rfl|rfl|rfl<;>exact⟨.inl rfl,rfl,.inl rfl⟩)⟩ rfl (pi_list (pe_ix ix_tup (pe_dget hu (pe_dget hu (pv 1) pe_str (fun _ _=>rfl)) (@pe_tup _ _ _ _ _ (@pa_cons _ _ _ _ _ (pv 13) (@pa_cons _ _ _ _ _ (pv 14) pa_nil rfl) rfl)) (fun _ _=>rfl)) pe_int (fun _ _=>rfl))) (fun _ _ _ _=>(pg_name (i:=0) (show(["_law_each","_law_state","_law_box","_law_scope","_law_deep"]:List Str).Nodup from by decide +kernel) rfl (Or.inl rfl))) (fun _ _ _ _=>(pe_call GM hrM rfl mM kM bM .nil pass0 (@pa_cons _ _ _ _ _ (pv 1) (@pa_cons _ _ _ _ _ (pv 2) (@pa_cons _ _ _ _ _ (pv 0) (@pa_cons _ _ _ _ _ (pv 3) (@pa_cons _ _ _ _ _ (pe_op op_sub (pv 4) pe_int) pa_nil rfl) rfl) rfl) rfl) rfl)))) (@pss_one _ _ _ (@ps_ret _ _ _ _ (@pe_tup _ _ _ _ _ (@pa_cons _ _ _ _ _ pe_str (@pa_cons _ _ _ _ _ (pv 13) (@pa_cons _ _ _ _ _ (pv 14) (@pa_cons _ _ _ _ _ (pe_callTy call_tuple_of rfl mt bootTuple (@pa_cons _ _ _ _ _ (pv 15) pa_nil rfl)) pa_nil rfl) rfl) rfl) rfl)))))) pss_nil) (@pss_one _ _ _ (@ps_ret _ _ _ _ (pe_call GY hrY rfl mY kY bY .nil pass0 (@pa_cons _ _ _ _ _ (pv 0) (@pa_cons _ _ _ _ _ (pv 1) (@pa_cons _ _ _ _ _ (pv 2) (@pa_cons _ _ _ _ _ (pv 3) (@pa_cons _ _ _ _ _ (pe_op op_sub (pv 4) pe_int) pa_nil rfl) rfl) rfl) rfl) rfl)))),?_⟩
  intro H1 ln lc gs ys hd1 hr5 s1 z1 hlc hyl hys
  have own:∀{H2:Hp},St2 K H2 lst lb pp pk pf (room - 1)→Same (zo H [lst,lb]) (zo H2 [lst,lb])→spP (spOwn K) N [.ref lst,.ref lb,x,.ref d,.int (deep - 1)] H2 Q E:=fun s1 z1=>⟨(by omega),lst,lb,pp,pk,pf,d,x,k,FF,ks,G,m,room - 1,deep - 1,rfl,s1,hbox.same z1,hx.same z1,hg,hkd,hsc.same z1,by omega,by omega,fun H2 u e room' s2 z2 a1 a2 a3 a4=>q _ _ _ _ s2 (z1.trans z2) a1 a2 (by omega) (by omega)⟩
  refine⟨_,rfl,_,_,rfl,rfl,_,rfl,ite2 (fun _=>?_) (fun _=>iteF (A:=True) ⟨_,rfl,_,rfl,_,rfl,_,rfl,_,rfl,_,_,rfl,rfl,own s1 z1⟩)⟩
  refine⟨_,rfl,(by show 0≤sizeLine;decide),fun p0 hp0=>?_⟩
  obtain⟨s2,z2,g2⟩:=s1.nw hp0 (.lst [])
  have z12:=z1.trans z2
  obtain⟨ds,h1,h2,h3⟩:=calls_dat (K:=K) hys
  refine⟨_,_,(Dat.lst (SqL.of hlc) h1).same (z2.trans zo_same),.lst (SqL.of upd_same) .nil,shaped_of h2 h3,shaped_of (ds:=[]) (by simp [PyData.canLayAll0]) (by simp [PyData.depthAll]),_,rfl,ite2 (fun hne=>?_) (fun _=>⟨_,rfl,_,rfl,_,rfl,_,rfl,_,rfl,_,_,rfl,rfl,own s2 z12⟩)⟩
  have hpos:0 < ys.length:=by
   cases h1 with
   |nil =>
    have hne':(!PyData.eqv (.list []) (.list []))=true:=hne
    rw [eqv_nil] at hne'
    cases hne'
   |cons _ _=>exact Nat.succ_pos _
  refine⟨_,rfl,_,rfl,lst,lc,ys,rfl,s2.st,SqL.of (zo1 _ _ (z2 _ _ hlc)),hpos,by omega,fun H3 i y t3 y3 hy=>?_⟩
  obtain⟨s3,z3⟩:=s2.draw t3 y3
  have z23:=z2.trans z3
  have z13:=z12.trans z3
  obtain⟨a,qq,t,us,rfl,e1,e2,e3,hft⟩:=hys y (List.mem_of_getElem? hy)
  refine⟨a,_,rfl,SqT.of (zo_same _ _ (z23 _ _ e1)),rfl,_,_,rfl,_,_,rfl,rfl,?_⟩
  obtain⟨kvs,f1,f2,_⟩:=(hbox.same z13).funs
  obtain⟨u,w2,p',tk,vs',x',rfl,w3,w4,w5,w6⟩:∃u,valV kvs [Sum.inr qq,Sum.inr t]=some u∧ToldAt K (zo H3 [lst,lb]) u us k:=by
   rcases f2 qq t with ⟨c1,_⟩|⟨us',k',u,c1,c2,c3⟩
   ·rw [hft] at c1;cases c1
   ·rw [hft] at c1
    cases c1
    exact⟨u,c2,c3⟩
  obtain⟨_,hul,hup⟩:=hbox.fok _ _ _ _ hft
  have g:=DGet.k (k:=Sum.inr "funs") s3.box
  rw [box_funs] at g
  refine⟨_,rfl,lb,_,rfl,g,_,rfl,_,rfl,(by show 2≤sizeLine;decide),fun pk' hpk=>?_⟩
  obtain⟨s4,z4,g4⟩:=s3.nw hpk (.tup [.str qq,.str t])
  have z14:=z13.trans z4
  have g5:=DGet.t (k:=[Sum.inr qq,Sum.inr t]) (zo_same _ _ (z4 _ _ f1)) (zo_same _ _ g4)
  rw [w2] at g5
  have hvl:vs'.length=us.length:=pair_len w5
  refine⟨pf,.ref p',rfl,g5,p',_,_,_,rfl,rfl,SqT.of (zo_same _ _ (z4 _ _ w3)),at0,tk,rfl,⟨vs',SqL.of (zo_same _ _ (z4 _ _ w4))⟩,comp_fTL (xs:=vs') (by omega) (fun i ys' H5=>∃es room5,St2 K H5 lst lb pp pk pf room5∧Same (zo (upd H3 pk' (.tup [.str qq,.str t])) [lst,lb]) (zo H5 [lst,lb])∧ys'.length=i∧ExsAt (zo H5 [lst,lb]) ys' es∧Tys FF G es (us.take i)∧hts es≤N - 1+5∧es.length=i∧ncs es+room5.toNat≤(room - 1).toNat) ⟨[],room - 1,s4,Same.refl _,rfl,.nil,.nil,Nat.zero_le _,rfl,by simp [ncs]⟩ ?_ ?_ ?_ ?_⟩
  ·rintro i ys' H5 ⟨es,room5,s5,z5,_⟩
   exact SqL.of (zo_same _ _ (z5 _ _ (z4 _ _ w4)))
  ·rintro i ys' H5 ⟨es,room5,s5,z5,h,_⟩
   exact Nat.le_of_eq h
  ·rintro i u ys' H5 N hN hu9 ⟨es,room5,s5,z5,hl5,hes,hty,hht,hel,hnc⟩
   obtain⟨k',hk',hku⟩:=pair_get w5 hu9
   obtain⟨gg1,gg2⟩:=hup k' (List.mem_of_getElem? hk')
   have z15:=z14.trans z5
   refine⟨rfl,tYes_go ⟨_,rfl,_,rfl,_,rfl,_,rfl,_,rfl,_,_,rfl,rfl,(by omega),lst,lb,pp,pk,pf,d,u,k',FF,ks,G,m,room5,deep - 1,rfl,s5,hbox.same z15,hku.same (z4.trans z5),gg1,by omega,hsc.same z15,by omega,by omega,fun H6 u6 e6 room6 s6 z6 b1 b2 b3 b4=>?_⟩⟩
   refine hN _ _ ⟨es++[e6],room6,s6,z5.trans z6,by rw [List.length_append,hl5];rfl,exs_snoc b1 (hes.same z6),?_,by rw [hts_snoc];omega,by rw [List.length_append,hel];rfl,by rw [ncs_snoc];omega⟩
   rw [←take_snoc hk']
   exact Tys.snoc b2 hty
  ·rintro ys' H5 D ⟨es,room5,s5,z5,hl5,hes,hty,hht,hel,hnc⟩ hD
   rw [List.take_of_length_le (by omega)] at hty
   obtain⟨s6,z6,g6⟩:=s5.nw hD (.lst ys')
   refine⟨_,rfl,_,rfl,_,rfl,D,ys',rfl,.inl ⟨SqL.of upd_same,fun p hp=>?_⟩⟩
   obtain⟨s7,z7,g7⟩:=s6.nw hp (.tup ys')
   refine⟨(by show 4≤sizeLine;decide),fun p2 hp2=>?_⟩
   obtain⟨s8,z8,g8⟩:=s7.nw hp2 (.tup [.str "call",.str qq,.str t,.ref p])
   have z58:=z6.trans (z7.trans z8)
   exact q _ _ (.call qq t es) room5 s8 (z14.trans (z5.trans z58)) (.call g8 (z8 _ _ g7) (hes.same z58)) (.call hft hty) (by simp only [Ex.ht];omega) (by rw [nc];omega)
 obtain⟨t5,d5,k5⟩:∃t,PSs (cxOf CX0 P w K mg base ["_law_state","_law_box","_law_kind","_law_scope","_law_deep","_law_names","_law_goes","_law_calls","_law_test","_law_one","_law_told","_law_x","_law_inner","_law_q","_law_f","_law_args"] "_law_made" (defScope sMade) f cdv A outer s H E).nox (List.drop 5 (defBody sMade)) t ∧
   ∀(H1:Hp) (ln lc:Addr) (gs:Int) (ys:List V),St2 K H1 lst lb pp pk pf (room - 1)→Same (zo H [lst,lb]) (zo H1 [lst,lb])→zo H1 [lst,lb] lc=some (.lst ys)→ys.length≤5→CallsAt (zo H1 [lst,lb]) FF k ys →
    t { nx:=fun _ H'=>Q .non H',rt:=Q } [some (.ref lst),some (.ref lb),some x,some (.ref d),some (.int deep),some (.ref ln),some (.int gs),some (.ref lc),none,none,none,none,none,none,none,none] H1:=by
  refine⟨_,@pss_cons _ _ _ _ _ (ps_if (PW.pt (pw_or (pt_cmpR op_lt (pv 4) pe_int (nomark _)) (pw_or (pt_cmpR op_lt (pe_dget hu (pv 1) pe_str (fun _ _=>rfl)) pe_int (nomark _)) (pw_or1 (pt_cmpR op_eq (pv 6) pe_int (nomark _)))))) (@pss_one _ _ _ (@ps_ret _ _ _ _ (pe_call GL hrL rfl mL kL bL .nil pass0 (@pa_cons _ _ _ _ _ (pv 0) (@pa_cons _ _ _ _ _ (pv 2) pa_nil rfl) rfl)))) pss_nil) (@pss_cons _ _ _ _ _ (ps_if (pt_cmpR op_eq (pv 6) pe_int (nomark _)) (@pss_cons _ _ _ _ _ (ps_set (i:=8) scMade.nd rfl (Or.inl rfl) (pe_call GM hrM rfl mM kM bM .nil pass0 (@pa_cons _ _ _ _ _ (pv 0) (@pa_cons _ _ _ _ _ (pv 1) (@pa_cons _ _ _ _ _ (@pe_tup _ _ _ _ _ (@pa_cons _ _ _ _ _ pe_str (@pa_cons _ _ _ _ _ pe_int pa_nil rfl) rfl)) (@pa_cons _ _ _ _ _ (pv 3) (@pa_cons _ _ _ _ _ (pe_op op_sub (pv 4) pe_int) pa_nil rfl) rfl) rfl) rfl) rfl))) (@pss_cons _ _ _ _ _ (ps_set (i:=9) scMade.nd rfl (Or.inl rfl) (pe_call GM hrM rfl mM kM bM .nil pass0 (@pa_cons _ _ _ _ _ (pv 0) (@pa_cons _ _ _ _ _ (pv 1) (@pa_cons _ _ _ _ _ (pv 2) (@pa_cons _ _ _ _ _ (pv 3) (@pa_cons _ _ _ _ _ (pe_op op_sub (pv 4) pe_int) pa_nil rfl) rfl) rfl) rfl) rfl))) (@pss_one _ _ _ (@ps_ret _ _ _ _ (@pe_tup _ _ _ _ _ (@pa_cons _ _ _ _ _ pe_str (@pa_cons _ _ _ _ _ (pv 8) (@pa_cons _ _ _ _ _ (pv 9) (@pa_cons _ _ _ _ _ (pe_call GM hrM rfl mM kM bM .nil pass0 (@pa_cons _ _ _ _ _ (pv 0) (@pa_cons _ _ _ _ _ (pv 1) (@pa_cons _ _ _ _ _ (pv 2) (@pa_cons _ _ _ _ _ (pv 3) (@pa_cons _ _ _ _ _ (pe_op op_sub (pv 4) pe_int) pa_nil rfl) rfl) rfl) rfl) rfl)) pa_nil rfl) rfl) rfl) rfl)))))) pss_nil) (@pss_cons _ _ _ _ _ (ps_if (pt_cmpR op_eq (pv 6) pe_int (nomark _)) (@pss_cons _ _ _ _ _ (ps_set (i:=10) scMade.nd rfl (Or.inl rfl) (pe_call GS hrS rfl mS kS bS .nil pass0 (@pa_cons _ _ _ _ _ (pv 0) (@pa_cons _ _ _ _ _ (pe_dget hu (pv 1) pe_str (fun _ _=>rfl)) pa_nil rfl) rfl))) (@pss_cons _ _ _ _ _ (ps_set (i:=11) scMade.nd rfl (Or.inl rfl) (pe_call GS hrS rfl mS kS bS .nil pass0 (@pa_cons _ _ _ _ _ (pv 0) (@pa_cons _ _ _ _ _ (pe_dget hu (pv 1) pe_str (fun _ _=>rfl)) pa_nil rfl) rfl))) (@pss_cons _ _ _ _ _ (ps_set (i:=12) scMade.nd rfl (Or.inl rfl) (pe_callTy call_dict_dK rfl md bootDict (@pa_cons _ _ _ _ _ (pv 3) pa_nil rfl))) (@pss_cons _ _ _ _ _ (ps_dput hu (pv 12) (pv 11) (pv 10) rfl) (@pss_cons _ _ _ _ _ (ps_set (i:=9) scMade.nd rfl (Or.inl rfl) (pe_call GM hrM rfl mM kM bM .nil pass0 (@pa_cons _ _ _ _ _ (pv 0) (@pa_cons _ _ _ _ _ (pv 1) (@pa_cons _ _ _ _ _ (pv 10) (@pa_cons _ _ _ _ _ (pv 3) (@pa_cons _ _ _ _ _ (pe_op op_sub (pv 4) pe_int) pa_nil rfl) rfl) rfl) rfl) rfl))) (@pss_one _ _ _ (@ps_ret _ _ _ _ (@pe_tup _ _ _ _ _ (@pa_cons _ _ _ _ _ pe_str (@pa_cons _ _ _ _ _ (pv 11) (@pa_cons _ _ _ _ _ (pv 9) (@pa_cons _ _ _ _ _ (pe_call GM hrM rfl mM kM bM .nil pass0 (@pa_cons _ _ _ _ _ (pv 0) (@pa_cons _ _ _ _ _ (pv 1) (@pa_cons _ _ _ _ _ (pv 2) (@pa_cons _ _ _ _ _ (pv 12) (@pa_cons _ _ _ _ _ (pe_op op_sub (pv 4) pe_int) pa_nil rfl) rfl) rfl) rfl) rfl)) pa_nil rfl) rfl) rfl) rfl))))))))) pss_nil) (@pss_cons _ _ _ _ _ (ps_if (PW.pt (pw_and (pt_cmpR op_eq (pv 6) pe_int (nomark _)) (pw_and1 (pt_cmpR (op_inD hu64) (pv 2) (pe_dget hu (pv 1) pe_str (fun _ _=>rfl)) (by with_unfolding_all rfl))))) (@pss_one _ _ _ (@ps_ret _ _ _ _ (pe_call GH hrH rfl mH kH bH .nil pass0 (@pa_cons _ _ _ _ _ (pv 0) (@pa_cons _ _ _ _ _ (pv 1) (@pa_cons _ _ _ _ _ (pv 2) (@pa_cons _ _ _ _ _ (pv 3) (@pa_cons _ _ _ _ _ (pe_op op_sub (pv 4) pe_int) pa_nil rfl) rfl) rfl) rfl) rfl)))) pss_nil) d9))),?_⟩
  intro H1 ln lc gs ys s1 z1 hlc hyl hys
  have lit:spLit K 3 [.ref lst,x] H1 Q E:=⟨lst,x,k,rfl,s1.st,hx.same (z1.trans zo1),hg,hkd,fun H2 u e t2 y2 le hu2=>by
   obtain⟨s2,z2⟩:=s1.draw t2 y2
   have hh:=lit_ht le
   exact q _ _ e (room - 1) s2 (z1.trans z2) (ex_box s2 hu2) le.ty (by omega) (by rw [lit_nc le];omega)⟩
  have groom:=DGet.k (k:=Sum.inr "room") s1.box
  rw [box_room] at groom
  refine⟨_,rfl,_,_,rfl,rfl,_,rfl,ite2 (fun _=>iteT ⟨_,rfl,_,rfl,lit⟩) (fun c1=>?_)⟩
  refine⟨_,rfl,lb,_,rfl,groom,_,_,rfl,rfl,_,rfl,ite2 (fun _=>iteT ⟨_,rfl,_,rfl,lit⟩) (fun c2=>?_)⟩
  refine⟨_,rfl,rfl,_,rfl,ite2 (fun _=>⟨_,rfl,_,rfl,lit⟩) (fun _=>?_)⟩
  have hd1:1≤deep:=by have:=of_decide_eq_false (Bool.eq_false_iff.mpr c1);omega
  have hr5:5≤room:=by have:=of_decide_eq_false (Bool.eq_false_iff.mpr c2);omega
  refine⟨_,rfl,rfl,_,rfl,ite2 (fun _=>?_) (fun _=>?_)⟩
  ·refine⟨_,rfl,_,rfl,(by show 2≤sizeLine;decide),fun p hp=>?_⟩
   obtain⟨s2,z2,g2⟩:=s1.nw hp (.tup [.str "num",.int 2])
   have z12:=z1.trans z2
   refine⟨_,rfl,_,rfl,_,_,rfl,rfl,(by omega),lst,lb,pp,pk,pf,d,.ref p,.num 2,FF,ks,G,m,room - 1,deep - 1,rfl,s2,hbox.same z12,.num (SqT.of g2),.num (by decide) (by decide),by decide,hsc.same z12,by omega,by omega,fun H3 u3 e3 room3 s3 z3 a1 a2 a3 a4=>?_⟩
   have z13:=z12.trans z3
   refine⟨_,rfl,_,rfl,_,rfl,_,rfl,_,rfl,_,_,rfl,rfl,(by omega),lst,lb,pp,pk,pf,d,x,k,FF,ks,G,m,room3,deep - 1,rfl,s3,hbox.same z13,hx.same z13,hg,hkd,hsc.same z13,by omega,by omega,fun H4 u4 e4 room4 s4 z4 b1 b2 b3 b4=>?_⟩
   have z14:=z13.trans z4
   refine⟨_,rfl,_,rfl,_,rfl,_,rfl,_,rfl,_,rfl,_,rfl,_,_,rfl,rfl,(by omega),lst,lb,pp,pk,pf,d,x,k,FF,ks,G,m,room4,deep - 1,rfl,s4,hbox.same z14,hx.same z14,hg,hkd,hsc.same z14,by omega,by omega,fun H5 u5 e5 room5 s5 z5 c1 c2 c3 c4=>?_⟩
   refine⟨(by show 4≤sizeLine;decide),fun p2 hp2=>?_⟩
   obtain⟨s6,z6,g6⟩:=s5.nw hp2 (.tup [.str "if",u3,u4,u5])
   exact q _ _ (.if_ e3 e4 e5) room5 s6 (z14.trans (z5.trans z6)) (.if_ g6 (a1.same (z4.trans (z5.trans z6))) (b1.same (z5.trans z6)) (c1.same z6)) (.if_ a2 b2 c2) (by simp only [Ex.ht];omega) (by rw [nc];omega)
  refine⟨_,rfl,rfl,_,rfl,ite2 (fun _=>?_) (fun _=>?_)⟩
  ·obtain⟨kx,hk1,hk2⟩:=(hbox.same z1).kinds
   have gk:=DGet.k (k:=Sum.inr "kinds") s1.box
   rw [box_kinds] at gk
   have hkl:kx.length=6:=(pair_len hk2).trans hbox.len
   refine⟨_,rfl,_,rfl,lb,_,rfl,gk,lst,pk,kx,rfl,s1.st,SqL.of (zo1 _ _ hk1),by omega,by omega,fun H2 i y t2 y2 hy=>?_⟩
   obtain⟨s2,z2⟩:=s1.draw t2 y2
   have z12:=z1.trans z2
   obtain⟨l,hl,hyl⟩:=pair_get hk2 hy
   obtain⟨e1,e2⟩:=hbox.good _ (List.mem_of_getElem? hl)
   obtain⟨px,hp1,hp2,hp3,hp4⟩:=(hbox.same z12).pool
   have gp:=DGet.k (k:=Sum.inr "pool") s2.box
   rw [box_pool] at gp
   refine⟨_,rfl,_,rfl,lb,_,rfl,gp,lst,pp,px,rfl,s2.st,SqL.of (zo1 _ _ hp1),hp2,by omega,fun H3 i3 yx t3 y3 hyx=>?_⟩
   obtain⟨s3,z3⟩:=s2.draw t3 y3
   have z13:=z12.trans z3
   obtain⟨wz,rfl,hwz⟩:=hp4 yx (List.mem_of_getElem? hyx)
   obtain⟨kvs,c1,c2,c3,c4⟩:=hsc.same z13
   refine⟨_,rfl,d,kvs,rfl,zo_same _ _ c1,fun di hdi=>?_⟩
   refine⟨_,rfl,_,rfl,_,rfl,di,_,rfl,DPut.k (k:=Sum.inr wz) upd_same (small1000 (by omega)),?_⟩
   rw [upd_upd]
   obtain⟨s4,z4,g4⟩:=s3.nw hdi (.dK (putK kvs (Sum.inr wz) y))
   have z14:=z13.trans z4
   have hsc4:ScAt K (zo (upd H3 di (.dK (putK kvs (Sum.inr wz) y))) [lst,lb]) di (fun z=>if z=wz then some l else G z) (m+1):=by
    refine⟨_,g4,Nat.le_trans (length_putK ..) (by omega),fun kv hkv=>?_,fun z=>?_⟩
    ·rcases mem_putK hkv with ⟨h1,_⟩|h1
     ·exact⟨wz,h1,hwz⟩
     ·exact c3 kv h1
    ·rw [valV_put]
     by_cases ez:z=wz
     ·subst ez
      rw [if_pos rfl]
      exact .inr ⟨l,y,if_pos rfl,rfl,hyl.same (z2.trans (z3.trans z4)),e1,e2⟩
     ·rw [if_neg fun h=>ez (Sum.inr.inj h)]
      rcases c4 z with h|⟨k',u',h1,h2,h3,h4⟩
      ·exact .inl ⟨(if_neg ez).trans h.1,h.2⟩
      ·exact .inr ⟨k',u',(if_neg ez).trans h1,h2,h3.same z4,h4⟩
   refine⟨_,rfl,_,rfl,_,rfl,_,rfl,_,rfl,_,_,rfl,rfl,(by omega),lst,lb,pp,pk,pf,d,y,l,FF,ks,G,m,room - 1,deep - 1,rfl,s4,hbox.same z14,hyl.same (z2.trans (z3.trans z4)),e1,by omega,hsc.same z14,by omega,by omega,fun H5 u5 ex5 room5 s5 z5 a1 a2 a3 a4=>?_⟩
   have z15:=z14.trans z5
   refine⟨_,rfl,_,rfl,_,rfl,_,rfl,_,rfl,_,rfl,_,rfl,_,_,rfl,rfl,(by omega),lst,lb,pp,pk,pf,di,x,k,FF,ks,_,m+1,room5,deep - 1,rfl,s5,hbox.same z15,hx.same z15,hg,hkd,hsc4.same z5,by omega,by omega,fun H6 u6 ex6 room6 s6 z6 b1 b2 b3 b4=>?_⟩
   refine⟨(by show 4≤sizeLine;decide),fun p2 hp2=>?_⟩
   obtain⟨s7,z7,g7⟩:=s6.nw hp2 (.tup [.str "let",.str wz,u5,u6])
   exact q _ _ (.let_ wz ex5 ex6) room6 s7 (z15.trans (z6.trans z7)) (.let_ g7 (a1.same (z6.trans z7)) (b1.same z7)) (.let_ a2 b2) (by simp only [Ex.ht];omega) (by rw [nc];omega)
  refine⟨_,rfl,rfl,_,rfl,ite2 (fun _=>?_) (fun _=>iteF (A:=True) (k9 H1 ln lc gs ys hd1 hr5 s1 z1 hlc hyl hys))⟩
  obtain⟨kx,hk1,hk2⟩:=(hbox.same z1).kinds
  have gk:=DGet.k (k:=Sum.inr "kinds") s1.box
  rw [box_kinds] at gk
  have hdk:=deep_kd k
  refine⟨_,rfl,_,rfl,lb,_,rfl,gk,pk,kx,ks.map Kd.dat,Kd.dat k,rfl,SqL.of (zo_same _ _ hk1),kds_dats (Paired.mapP hk2 fun _ _ z=>z.same zo_same),kd_dat (hx.same (z1.trans zo_same)),lay_all hbox.good,lay_kd (gd_ok hg),by omega,_,rfl,ite2 (fun hmem=>?_) (fun _=>k9 H1 ln lc gs ys hd1 hr5 s1 z1 hlc hyl hys)⟩
  obtain⟨_,hk9⟩:=hbox.good k (any_kd hmem)
  exact⟨_,rfl,_,rfl,_,rfl,_,rfl,_,rfl,_,_,rfl,rfl,(by omega),lst,lb,pp,pk,pf,d,x,k,FF,ks,G,m,room - 1,deep - 1,rfl,s1,hbox.same z1,hx.same z1,hg,hk9,hsc.same z1,by omega,by omega,fun H2 u e room2 s2 z2 a1 a2 a3 a4=>q _ _ _ _ s2 (z1.trans z2) a1 a2 (by omega) (by omega)⟩
 obtain⟨t4,d4,k4⟩:∃t,PSs (cxOf CX0 P w K mg base ["_law_state","_law_box","_law_kind","_law_scope","_law_deep","_law_names","_law_goes","_law_calls","_law_test","_law_one","_law_told","_law_x","_law_inner","_law_q","_law_f","_law_args"] "_law_made" (defScope sMade) f cdv A outer s H E).nox (List.drop 4 (defBody sMade)) t ∧
   ∀(H1:Hp) (ln:Addr) (gs:Int),St2 K H1 lst lb pp pk pf (room - 1)→Same (zo H [lst,lb]) (zo H1 [lst,lb]) →
    t { nx:=fun _ H'=>Q .non H',rt:=Q } [some (.ref lst),some (.ref lb),some x,some (.ref d),some (.int deep),some (.ref ln),some (.int gs),none,none,none,none,none,none,none,none,none] H1:=by
  refine⟨_,@pss_cons _ _ _ _ _ (ps_thaw (ps_comp_if (i0:=7) scMade.nd rfl (Or.inl rfl) (own:=["_law_name"]) (caps:=["_law_box","_law_kind"]) (κ:=[1,2]) rfl ⟨rfl,by decide +kernel,by decide +kernel,rfl,rfl,(fun y hy=>by simp only [List.mem_cons,List.not_mem_nil,or_false] at hy;rcases hy with rfl|rfl<;>rfl),(fun y hy=>by simp only [List.mem_cons,List.not_mem_nil,or_false] at hy;rcases hy with rfl|rfl<;>exact⟨.inl rfl,rfl,.inl rfl⟩)⟩ rfl (pi_keysT (pe_dget hu (pv 1) pe_str (fun _ _=>rfl))) (fun _ _ _ _=>(pg_name (i:=0) (show(["_law_name","_law_box","_law_kind"]:List Str).Nodup from by decide +kernel) rfl (Or.inl rfl))) (fun _ _ _ _=>(pt_cmpR (r:=rEqD K false) (op_eqD hu64) (pe_ix (r:=rIxT K) ix_tup (pe_dget hu (pe_dget hu (pv 1) pe_str (fun _ _=>rfl)) (pv 0) (fun _ _=>rfl)) pe_int (fun _ _=>rfl)) (pv 2) (nomark _))) (fun _ _ _ _=>(pv 0)))) d5,?_⟩
  intro H1 ln gs s1 z1
  obtain⟨kvs,f1,f2,f3,f4⟩:=(hbox.same z1).funs
  have hf:=zo_same _ _ f1
  have gf:=DGet.k (k:=Sum.inr "funs") s1.box
  rw [box_funs] at gf
  have hlp:lb≠pf:=fun e=>by rw [←e,s1.box] at hf;cases hf
  refine⟨_,rfl,lb,_,rfl,gf,pf,kvs,rfl,hf,fun o as hp=>?_⟩
  have kp:∀(a:Addr) (xs:List V),SqT K (zo H1 [lst,lb]) a xs→SqT K (upd H1 pf (.frz o (.dT kvs))) a xs:=fun a xs t=>sqt_frT hf (zo_same.tup t)
  have hal:=pair_len hp
  refine comp_kT hal (by omega) upd_same (fun i ys H2=>H2=upd H1 pf (.frz o (.dT kvs))∧ys.length≤i∧CallsAt (zo H1 [lst,lb]) FF k ys) ⟨rfl,Nat.zero_le _,fun _ h=>nomatch h⟩ (fun _ _ _ h=>h.2.1) ?_ ?_
  ·rintro i a ys H2 N hN ha _ ⟨rfl,hyl,hys⟩
   have hi:i < kvs.length:=by
    have:=(List.getElem?_eq_some_iff.mp ha).1
    omega
   have hkv:kvs[i]?=some kvs[i]:=List.getElem?_eq_getElem hi
   obtain⟨a',ha',hat⟩:=pair_get hp hkv
   rw [ha] at ha'
   cases ha'
   have hmem:=List.mem_of_getElem? hkv
   obtain⟨qq,t,ek,o1,o2⟩:=f4 _ hmem
   have hva:valV kvs [Sum.inr qq,Sum.inr t]≠none:=by rw [←ek];exact valV_mem hmem
   rw [ek] at hat
   obtain⟨us,k',u,hft,hu1,p',tk,vs',x',rfl,w3,w4,w5,w6⟩:∃us k' u,FF qq t=some (us,k')∧valV kvs [Sum.inr qq,Sum.inr t]=some u∧ToldAt K (zo H1 [lst,lb]) u us k':=by
    rcases f2 qq t with ⟨_,c2⟩|⟨us',k',u,c1,c2,c3⟩
    ·exact absurd c2 hva
    ·exact⟨us',k',u,c1,c2,c3⟩
   obtain⟨⟨gk1,gk2⟩,_⟩:=hbox.fok _ _ _ _ hft
   have naf:a≠pf:=fun e=>by rw [e,hf] at hat;cases hat
   have gb:=DGet.k (H:=upd H1 pf (.frz o (.dT kvs))) (a:=lb) (k:=Sum.inr "funs") (by rw [upd_ne hlp];exact s1.box)
   rw [box_funs] at gb
   refine⟨rfl,_,rfl,lb,_,rfl,gb,_,rfl,pf,.ref p',rfl,.inr ⟨kvs,[Sum.inr qq,Sum.inr t],a,.inr ⟨o,upd_same⟩,rfl,by rw [upd_ne naf];exact hat,hu1.symm⟩,p',_,_,_,rfl,rfl,kp _ _ (SqT.of w3),at1,_,rfl,Kd.dat k',Kd.dat k,kd_dat (kd_keep kp w6),kd_dat (kd_keep kp (hx.same z1)),gd_shaped gk1 (by omega),gd_shaped hg (by omega),_,rfl,?_⟩
   show if PyData.eqv (Kd.dat k') (Kd.dat k)=true then _ else _
   rw [eqv_dat]
   refine ite2 (fun h=>?_) (fun _=>hN _ _ (Same.refl _) ⟨rfl,Nat.le_succ_of_le hyl,hys⟩)
   obtain rfl:k'=k:=of_decide_eq_true h
   refine⟨_,rfl,hN _ _ (Same.refl _) ⟨rfl,by rw [List.length_append];exact Nat.succ_le_succ hyl,fun v hv'=>?_⟩⟩
   rcases List.mem_append.mp hv' with z|z
   ·exact hys v z
   ·refine⟨a,qq,t,us,List.mem_singleton.mp z,?_,o1,o2,hft⟩
    rw [zo_ne]
    ·exact hat
    ·intro zz
     simp only [List.mem_cons,List.not_mem_nil,or_false] at zz
     rcases zz with rfl|rfl
     ·obtain⟨_,_,_,_,e9,_⟩:=s1.st
      rw [e9] at hat
      cases hat
     ·rw [s1.box] at hat
      cases hat
  ·rintro ys H2 D _ ⟨rfl,hyl,hys⟩ hD
   have hdD:pf≠D:=fun e=>by rw [←e,upd_same] at hD;cases hD
   have hD0:H1 D=none:=by rw [upd_ne (Ne.symm hdD)] at hD;exact hD
   refine⟨pf,o,.dT kvs,by rw [upd_ne hdD];exact upd_same,fun o' u' e=>(by
    obtain⟨kvs0,f0,_⟩:=hbox.funs
    have e':H pf=some (.frz o' u'):=e
    rw [zo_same _ _ f0] at e'
    cases e'),?_⟩
   rw [thaw_eq hf hdD]
   obtain⟨s5,z5,g5⟩:=s1.nw hD0 (.lst ys)
   exact k5 _ ln D gs ys s5 (z1.trans z5) g5 (by omega) (fun v hv=>by
    obtain⟨a,qq,t,us,c1,c2,c3⟩:=hys v hv
    exact⟨a,qq,t,us,c1,z5 _ _ c2,c3⟩)
 obtain⟨t2,d2,k2⟩:∃t,PSs (cxOf CX0 P w K mg base ["_law_state","_law_box","_law_kind","_law_scope","_law_deep","_law_names","_law_goes","_law_calls","_law_test","_law_one","_law_told","_law_x","_law_inner","_law_q","_law_f","_law_args"] "_law_made" (defScope sMade) f cdv A outer s H E).nox (List.drop 2 (defBody sMade)) t ∧
   ∀(H1:Hp) (ln:Addr) (ns:List V),St2 K H1 lst lb pp pk pf (room - 1)→Same (zo H [lst,lb]) (zo H1 [lst,lb])→zo H1 [lst,lb] ln=some (.lst ns)→ns.length≤1000→NamesAt G k ns →
    t { nx:=fun _ H'=>Q .non H',rt:=Q } [some (.ref lst),some (.ref lb),some x,some (.ref d),some (.int deep),some (.ref ln),none,none,none,none,none,none,none,none,none,none] H1:=by
  refine⟨_,@pss_cons _ _ _ _ _ (ps_set (i:=6) scMade.nd rfl (Or.inl rfl) (pe_call GD hrD rfl mD kD bD .nil pass0 (@pa_cons _ _ _ _ _ (pv 0) (@pa_cons _ _ _ _ _ pe_int pa_nil rfl) rfl))) (@pss_cons _ _ _ _ _ (ps_if (PW.pt (pw_and (pt_cmpR (op_neD hu64) (pv 5) (pe_lst pa_nil) (nomark _)) (pw_and1 (pt_cmpR op_eq (pv 6) pe_int (nomark _))))) (@pss_one _ _ _ (@ps_ret _ _ _ _ (@pe_tup _ _ _ _ _ (@pa_cons _ _ _ _ _ pe_str (@pa_cons _ _ _ _ _ (pe_call GS hrS rfl mS kS bS .nil pass0 (@pa_cons _ _ _ _ _ (pv 0) (@pa_cons _ _ _ _ _ (pv 5) pa_nil rfl) rfl)) pa_nil rfl) rfl)))) pss_nil) d4),?_⟩
  intro H1 ln ns s1 z1 hln hnl hns
  refine⟨_,rfl,lst,9,rfl,s1.st,by decide,by decide,fun H2 r t2 y2 r0 r1=>?_⟩
  obtain⟨s2,z2⟩:=s1.draw t2 y2
  have z12:=z1.trans z2
  refine⟨_,rfl,(by show 0≤sizeLine;decide),fun p0 hp0=>?_⟩
  obtain⟨s3,z3,g3⟩:=s2.nw hp0 (.lst [])
  have z13:=z12.trans z3
  have K4:=k4 _ ln r s3 z13
  obtain⟨ds,h1,h2,h3⟩:=names_dat (K:=K) (W:=zo H1 [lst,lb]) hns
  refine⟨_,_,(Dat.lst (SqL.of hln) h1).same (z2.trans (z3.trans zo_same)),.lst (SqL.of upd_same) .nil,shaped_of h2 h3,shaped_of (ds:=[]) (by simp [PyData.canLayAll0]) (by simp [PyData.depthAll]),_,rfl,ite2 (fun hne=>?_) (fun _=>iteF (A:=True) K4)⟩
  have hpos:0 < ns.length:=by
   cases h1 with
   |nil =>
    have hne':(!PyData.eqv (.list []) (.list []))=true:=hne
    rw [eqv_nil] at hne'
    cases hne'
   |cons _ _=>exact Nat.succ_pos _
  refine⟨_,rfl,rfl,_,rfl,ite2 (fun _=>?_) (fun _=>K4)⟩
  refine⟨_,rfl,_,rfl,lst,ln,ns,rfl,s3.st,SqL.of (zo1 _ _ (z3 _ _ (z2 _ _ hln))),hpos,by omega,fun H4 i y t4 y4 hy=>?_⟩
  obtain⟨s4,z4⟩:=s3.draw t4 y4
  obtain⟨z,rfl,_,hG⟩:=hns y (List.mem_of_getElem? hy)
  refine⟨(by show 2≤sizeLine;decide),fun p hp=>?_⟩
  obtain⟨s5,z5,g5⟩:=s4.nw hp (.tup [.str "var",.str z])
  exact q _ _ (.var z) (room - 1) s5 (z13.trans (z4.trans z5)) (.var g5) (.var hG) (by simp only [Ex.ht];omega) (by rw [nc];omega)
 refine⟨_,@pss_cons _ _ _ _ _ (ps_dput hu (pv 1) pe_str (pe_op op_sub (pe_dget hu (pv 1) pe_str (fun _ _=>rfl)) pe_int) rfl) (@pss_cons _ _ _ _ _ (ps_thaw (ps_comp_if (i0:=5) scMade.nd rfl (Or.inl rfl) (own:=["_law_x"]) (caps:=["_law_scope","_law_kind"]) (κ:=[3,2]) rfl ⟨rfl,by decide +kernel,by decide +kernel,rfl,rfl,(fun y hy=>by simp only [List.mem_cons,List.not_mem_nil,or_false] at hy;rcases hy with rfl|rfl<;>rfl),(fun y hy=>by simp only [List.mem_cons,List.not_mem_nil,or_false] at hy;rcases hy with rfl|rfl<;>exact⟨.inl rfl,rfl,.inl rfl⟩)⟩ rfl (pi_keys (pv 3)) (fun _ _ _ _=>(pg_name (i:=0) (show(["_law_x","_law_scope","_law_kind"]:List Str).Nodup from by decide +kernel) rfl (Or.inl rfl))) (fun _ _ _ _=>(pt_cmpR (r:=rEqD K false) (op_eqD hu64) (pe_dget hu (pv 1) (pv 0) (fun _ _=>rfl)) (pv 2) (nomark _))) (fun _ _ _ _=>(pv 0)))) d2),?_⟩
 have groom:=DGet.k (k:=Sum.inr "room") hst.box
 rw [box_room] at groom
 refine⟨_,rfl,lb,_,rfl,groom,_,_,rfl,rfl,_,rfl,lb,_,rfl,DPut.k (k:=Sum.inr "room") hst.box (small1000 (by show 4≤1000;decide)),?_⟩
 rw [put_room]
 have s1:=hst.room (r':=room - 1)
 have z1:Same (zo H [lst,lb]) (zo (upd H lb (.dK (boxK pp pk pf (room - 1)))) [lst,lb]):=by rw [zo_upd (by simp)];exact Same.refl _
 have hnot:∀o' u',H d≠some (.frz o' u'):=fun o' u' e=>by
  obtain⟨kvs0,f0,_⟩:=hsc
  rw [zo_same _ _ f0] at e
  cases e
 generalize upd H lb (.dK (boxK pp pk pf (room - 1)))=H1 at s1 z1
 obtain⟨kvs,hd1,hl,hks,hv⟩:=hsc.same z1
 have hdH:=zo_same _ _ hd1
 have kp:∀{o:Obj} (a:Addr) (xs:List V),SqT K (zo H1 [lst,lb]) a xs→SqT K (upd H1 d (.frz o (.dK kvs))) a xs:=fun a xs t=>sqt_dK hdH (zo_same.tup t)
 refine⟨_,rfl,d,kvs,rfl,hdH,fun o=>?_⟩
 refine comp_keys (by omega) upd_same (fun i ys=>ys.length≤i∧NamesAt G k ys) ⟨Nat.le_refl _,fun _ h=>nomatch h⟩ (fun _ _ h=>h.1) ?_ ?_
 ·rintro i kv ys N hi ⟨hyl,hys⟩ hN
  have hmem:=List.mem_of_getElem? hi
  obtain⟨z,ek,oz⟩:=hks kv hmem
  rcases hv z with ⟨_,e2⟩|⟨k',u,e1,e2,e3,e4,e5⟩
  ·exact absurd e2 (by rw [←ek];exact valV_mem hmem)
  ·rw [ek]
   refine⟨rfl,_,rfl,_,rfl,d,u,rfl,.inl ⟨kvs,.inr z,.inr ⟨o,upd_same⟩,rfl,e2.symm⟩,_,rfl,Kd.dat k',Kd.dat k,kd_dat (kd_keep kp e3),kd_dat (kd_keep kp (hx.same z1)),gd_shaped e4 (by omega),gd_shaped hg (by omega),_,rfl,?_⟩
   show if PyData.eqv (Kd.dat k') (Kd.dat k)=true then _ else _
   rw [eqv_dat]
   refine ite2 (fun h=>?_) (fun _=>hN _ ⟨Nat.le_succ_of_le hyl,hys⟩)
   obtain rfl:k'=k:=of_decide_eq_true h
   refine⟨_,rfl,hN _ ⟨by rw [List.length_append];exact Nat.succ_le_succ hyl,fun v hv'=>?_⟩⟩
   rcases List.mem_append.mp hv' with zz|zz
   ·exact hys v zz
   ·exact⟨z,List.mem_singleton.mp zz,oz,e1⟩
 ·rintro ys D ⟨hyl,hys⟩ hD
  have hdD:d≠D:=fun e=>by rw [←e,upd_same] at hD;cases hD
  have hD0:H1 D=none:=by rw [upd_ne (Ne.symm hdD)] at hD;exact hD
  refine⟨d,o,.dK kvs,by rw [upd_ne hdD];exact upd_same,hnot,?_⟩
  rw [thaw_eq hdH hdD]
  obtain⟨s5,z5,g5⟩:=s1.nw hD0 (.lst ys)
  exact k2 _ D ys s5 (z1.trans z5) g5 (by omega) hys
set_option maxHeartbeats 0 in
theorem ok_mades{f fS fD fL fH fY fN:Addr}{fd fdS fdD fdL fdH fdY fdN:FuncData} (F:Fun K "_law_made" "_law_made" sMade f fd) (bM:Binds K fd ["_law_state","_law_box","_law_kind","_law_scope","_law_deep"] []) (mM:mg "_law_made"=some (.ref f)) (md:mg "dict"=none) (mt:mg "tuple"=none)
  (GD:FnOk P w K mg base CX0 1 fD fdD ["_law_state","_law_many"] (spDraw K)) (bD:Binds K fdD ["_law_state","_law_many"] []) (kD:PySem.W.keepIn K (.ref fD)=true) (mD:mg "_law_draw"=some (.ref fD))
  (GS:FnOk P w K mg base CX0 2 fS fdS ["_law_state","_law_pool"] (spSome K)) (bS:Binds K fdS ["_law_state","_law_pool"] []) (kS:PySem.W.keepIn K (.ref fS)=true) (mS:mg "_law_some"=some (.ref fS))
  (GL:FnOk P w K mg base CX0 5 fL fdL ["_law_state","_law_kind"] (spLit K 3)) (bL:Binds K fdL ["_law_state","_law_kind"] []) (kL:PySem.W.keepIn K (.ref fL)=true) (mL:mg "_law_lit"=some (.ref fL))
  (FH:Fun K "_law_halved" "_law_halved" sHalved fH fdH) (bH:Binds K fdH ["_law_state","_law_box","_law_kind","_law_scope","_law_deep"] []) (mH:mg "_law_halved"=some (.ref fH)) (FY:Fun K "_law_own" "_law_own" sOwn fY fdY) (bY:Binds K fdY ["_law_state","_law_box","_law_kind","_law_scope","_law_deep"] []) (mY:mg "_law_own"=some (.ref fY)) (FN:Fun K "_law_num" "_law_num" sNum fN fdN) (bN:Binds K fdN ["_law_state","_law_box","_law_scope","_law_deep"] []) (mN:mg "_law_num"=some (.ref fN)) :
  ∀n,FnOk P w K mg base CX0 (8+3*n) f fd ["_law_state","_law_box","_law_kind","_law_scope","_law_deep"] (spMade K n):=by
 intro n
 induction n with
 |zero=>exact ok_made F bM mM md mt GD bD kD mD GS bS kS mS GL bL kL mL bH FH.kp mH bY FY.kp mY (L:=5) (by omega) spP_zero spP_zero spP_zero
 |succ n ih =>
  have GN:=ok_num (by omega) FN GS bS kS mS ih bM F.kp mM
  have GH:=ok_halved (by omega) FH GD bD kD mD GS bS kS mS ih bM F.kp mM
  have GY:=ok_own (by omega) FY GD bD kD mD GS bS kS mS ih bM F.kp mM GN bN FN.kp mN
  exact(ok_made F bM mM md mt GD bD kD mD GS bS kS mS GL bL kL mL bH FH.kp mH bY FY.kp mY (L:=8+3*n) (by omega) (spP_succ ih) (spP_succ GH) (spP_succ GY)).mono (by omega)
end
end K72
namespace K72
open PySem L2 Kk
abbrev cps(x:Str):List Nat:=x.cps.toList
theorem cps_app(a b:Str):cps (a++b)=cps a++cps b:=by
 show(a.cps++b.cps).toList=_
 rw [Array.toList_append]
theorem cps_join0:∀ps:List Str,cps (Str.join (Str.ofString "") ps)=(ps.map cps).flatten
 |[]=>rfl
 |[p]=>by
  show cps p=cps p++[]
  rw [List.append_nil]
 |p::q::r=>by
  have ih:=cps_join0 (q::r)
  show cps (p++Str.ofString ""++Str.join (Str.ofString "") (q::r))=cps p++((q::r).map cps).flatten
  rw [cps_app,cps_app,ih]
  show cps p++[]++_=_
  rw [List.append_nil]
theorem sok_iff(z:Str):PyData.strOk z=true↔∀c∈z.cps.toList,c < 0x110000:=by
 unfold PyData.strOk
 rw [Array.all_eq_true_iff_forall_mem]
 simp
theorem join_ok{ps:List Str}(h:∀z∈ps,PyData.strOk z=true):PyData.strOk (Txt.join (Str.ofString "") ps)=true:=by
 unfold Txt.join
 rw [StrLaws.glued_eq_join,sok_iff]
 intro c hc
 have hc':c∈cps (Str.join (Str.ofString "") ps):=hc
 rw [cps_join0,List.mem_flatten] at hc'
 obtain⟨l,hl,hcl⟩:=hc'
 obtain⟨z,hz,rfl⟩:=List.mem_map.mp hl
 exact(sok_iff z).mp (h z hz) c hcl
theorem inV_str{z:Str}{zs:List Str}(h:inV (.str z) (zs.map V.str)=true):z∈zs:=by
 unfold inV at h
 obtain⟨y,hy,e⟩:=List.any_eq_true.mp h
 obtain⟨s,hs,rfl⟩:=List.mem_map.mp hy
 have:s=z:=eq_of_beq (show(s==z)=true from e)
 rw [←this]
 exact hs
theorem flat_strs:∀zs:List Str,(zs.map V.str).all flatV=true
 |[]=>rfl
 |_::zs=>by
  rw [List.map_cons,List.all_cons,flat_strs zs]
  rfl
def qw(i:Nat):Str:=Str.ofString "q"++(⟨#[letters.cps.toList.getD i 0]⟩:Str)
def bareL:List Str:=["num","pair","lit","as","if","let","two","first","second"]
theorem qw_inj:∀a < 10,∀b < 10,qw a=qw b→a=b:=by decide +kernel
theorem qw_bare:∀a < 10,qw a∉bareL:=by decide +kernel
theorem qw_ok:∀a < 10,PyData.strOk (qw a)=true:=by decide +kernel
theorem qw_few:∀(n:Nat) (zs:List Str),n≤10→(∀j < n,qw j∈zs)→n≤zs.length
 |0,_,_,_=>Nat.zero_le _
 |n+1,zs,hn,h=>by
  have h1:=h n (Nat.lt_succ_self n)
  have:=qw_few n (zs.erase (qw n)) (by omega) fun j hj=>(List.mem_erase_of_ne fun e=>by
   have:=qw_inj _ (by omega) _ (by omega) e
   omega).mpr (h j (by omega))
  rw [List.length_erase_of_mem h1] at this
  have:=List.length_pos_of_mem h1
  omega
theorem pair_snoc{α β:Type}{p:α→β→Prop}{x:α}{y:β}(h:p x y):∀{xs:List α} {ys:List β},Paired p xs ys→Paired p (xs++[x]) (ys++[y])
 |_,_,.nil=>.cons h .nil
 |_,_,.cons a r=>.cons a (pair_snoc h r)
def PoolAt(W:Hp)(pp:Addr):Prop:=∃xs:List V,W pp=some (.lst xs)∧0 < xs.length∧xs.length≤100∧∀x∈xs,∃z:Str,x=.str z∧PyData.strOk z=true
def KsAt(K:PySem.W.Frag)(W:Hp)(pk:Addr)(ks:List Kd):Prop:=(∃xs,W pk=some (.lst xs)∧Paired (KdAt K W) xs ks)∧ks.length=6∧(∀i,i < 4→∃n:Int,ks[i]?=some (.num n))∧∀k∈ks,Gd k∧Kd.depth k≤2
def boxB(pp pk:Addr):List (Key × V):=[(.inr "pool",.ref pp),(.inr "kinds",.ref pk),(.inr "room",.int 40)]
def spBegun(K:PySem.W.Frag):Sp:=fun vs H Q _=>∃(ls p:Addr) (ns:List Int),vs=[.ref ls]∧StP K H ls p ns∧∀H' pb pp pk ks,StP K H' ls p ns→Same (zo H [ls]) (zo H' [ls])→H pb=none→H' pb=some (.dK (boxB pp pk))→PoolAt (zo H' [ls]) pp→KsAt K (zo H' [ls]) pk ks→Q (.ref pb) H'
def Apart(K:PySem.W.Frag)(l p:Addr)(ns:List Int):Prop:=∀(H:Hp) (o:HO),SqL K H p (ns.map V.int)→SqL K (upd H l o) p (ns.map V.int)
theorem StP.ls{K:PySem.W.Frag}{H:Hp}{ls p:Addr}{ns:List Int}(h:StP K H ls p ns):H ls≠none:=by
 obtain⟨_,_,e,_⟩:=h
 rw [e]
 nofun
theorem StP.apart{K:PySem.W.Frag}{H:Hp}{ls p l:Addr}{ns:List Int}(h:StP K H ls p ns)(hl:H l=none):Apart K l p ns:=by
 obtain⟨_,_,_,e,_⟩:=h
 rcases e with (e|⟨o,e⟩)|e
 ·have n:p≠l:=fun z=>by rw [z] at e;have:=zo_same _ _ e;rw [hl] at this;cases this
  intro H' o' e'
  rcases e' with (e'|⟨o2,e'⟩)|e'
  ·exact .inl (.inl (by rw [upd_ne n];exact e'))
  ·exact .inl (.inr ⟨o2,by rw [upd_ne n];exact e'⟩)
  ·exact .inr e'
 ·have n:p≠l:=fun z=>by rw [z] at e;have:=zo_same _ _ e;rw [hl] at this;cases this
  intro H' o' e'
  rcases e' with (e'|⟨o2,e'⟩)|e'
  ·exact .inl (.inl (by rw [upd_ne n];exact e'))
  ·exact .inl (.inr ⟨o2,by rw [upd_ne n];exact e'⟩)
  ·exact .inr e'
 ·exact fun _ _ _=>.inr e
theorem StP.put{K:PySem.W.Frag}{H:Hp}{ls p l:Addr}{ns:List Int}(h:StP K H ls p ns)(n:l≠ls)(a:Apart K l p ns)(o:HO):StP K (upd H l o) ls p ns:=by
 obtain⟨k,d,e1,e2,e3⟩:=h
 exact⟨k,d,by rw [upd_ne (Ne.symm n)];exact e1,by rw [zo_put n];exact a _ _ e2,e3⟩
theorem StP.new{K:PySem.W.Frag}{H:Hp}{ls p l:Addr}{ns:List Int}(h:StP K H ls p ns)(hl:H l=none)(o:HO):StP K (upd H l o) ls p ns∧Same (zo H [ls]) (zo (upd H l o) [ls]):=by
 have n:l≠ls:=fun e=>h.ls (by rw [←e];exact hl)
 exact⟨h.put n (h.apart hl) o,by rw [zo_put n];exact sput (Same.refl _) (by rw [zo_ne (by simpa using n)];exact hl)⟩
theorem zo_apart{H0 H:Hp}{ls l:Addr}{o:HO}(s:Same (zo H0 [ls]) (zo H [ls]))(h0:H0 l=none)(n:l≠ls):Same (zo H0 [ls]) (zo (upd H l o) [ls]):=by
 rw [zo_put n]
 exact sput s (by rw [zo_ne (by simpa using n)];exact h0)
def strsOf:List Expr→Option (List Str)
 |[]=>some []
 |.Constant (.str x) _ _::r=>(strsOf r).map (x::·)
 |_=>none
theorem pa_strs{X:Cx}:∀{es:List Expr} {xs:List Str},strsOf es=some xs→PA X es (fun _ H Q=>Q (xs.map V.str) H)
 |[],xs,h=>by
  have e:xs=[]:=(Option.some.inj h).symm
  subst e
  exact pa_nil
 |.Constant (.str x) j p::r,xs,h=>by
  have h':(strsOf r).map (x::·)=some xs:=h
  cases e:strsOf r with
  |none=>rw [e] at h';cases h'
  |some ys =>
   rw [e] at h'
   have e2:x::ys=xs:=Option.some.inj h'
   subst e2
   exact pa_cons (pe_str (x:=x)) (pa_strs e)
theorem sum_one:∀{ws:List Str},(∀z∈ws,z.length=1)→(ws.map fun x=>x.length).sum=ws.length
 |[],_=>rfl
 |z::ws,h=>by
  rw [List.map_cons,List.sum_cons,h z (.head _),sum_one fun y hy=>h y (.tail _ hy),List.length_cons,Nat.add_comm]
theorem iteT'{A B:Prop}(h:if true=true then A else B):A:=by rwa [if_pos rfl] at h
theorem iteF'{A B:Prop}(h:if false=true then A else B):B:=by rwa [if_neg Bool.false_ne_true] at h
section
variable{P:Program}{w:World}{K:PySem.W.Frag}{mg:Str→Option Value}{base:Heap}
theorem scBegun:FnScope ["_law_state","_law_letters","_law_bare","_law_pool","_law_k","_law_word","_law_at","_law_kinds"] ["_law_state"] (defScope sBegun):=⟨rfl,rfl,rfl,by decide +kernel,rfl,by decide +kernel,by decide +kernel⟩
set_option maxHeartbeats 0 in
theorem ok_begun{f fD fS:Addr}{fd fdD fdS:FuncData} (F:Fun K "_law_begun" "_law_begun" sBegun f fd) (mr:mg "range"=none)
  (GD:FnOk P w K mg base CX0 1 fD fdD ["_law_state","_law_many"] (spDrawP K)) (bD:Binds K fdD ["_law_state","_law_many"] []) (kD:PySem.W.keepIn K (.ref fD)=true) (mD:mg "_law_draw"=some (.ref fD))
  (GS:FnOk P w K mg base CX0 2 fS fdS ["_law_state","_law_pool"] (spSomeP K)) (bS:Binds K fdS ["_law_state","_law_pool"] []) (kS:PySem.W.keepIn K (.ref fS)=true) (mS:mg "_law_some"=some (.ref fS)) :
  FnOk P w K mg base CX0 3 f fd ["_law_state"] (spBegun K):=by
 refine F.ok scBegun (fun vs H Q E h=>?_) (fun cdv A outer s H vs Q E hr h=>?_)
 ·obtain⟨_,_,_,rfl,_⟩:=h
  rfl
 obtain⟨lst,p,ns,rfl,hst,q⟩:=h
 have hu:=hu_of hr
 have hu64:=hu64_of hr
 have hrS:Room 2 _:=hr.mono (by decide)
 have hrD:Room 1 _:=hr.mono (by decide)
 obtain⟨t4,d4,k4⟩:∃t,PSs (cxOf CX0 P w K mg base ["_law_state","_law_letters","_law_bare","_law_pool","_law_k","_law_word","_law_at","_law_kinds"] "_law_begun" (defScope sBegun) f cdv A outer s H E).nox (List.drop 4 (defBody sBegun)) t ∧
   ∀(H1:Hp) (pp b:Addr) (v4 v5 v6:Option V),StP K H1 lst p ns→Same (zo H [lst]) (zo H1 [lst])→PoolAt (zo H1 [lst]) pp →
    t { nx:=fun _ H'=>Q .non H',rt:=Q } [some (.ref lst),some (.str letters),some (.ref b),some (.ref pp),v4,v5,v6,none] H1:=by
  refine⟨_,@pss_cons _ _ _ _ _ (ps_set (i:=7) scBegun.nd rfl (Or.inl rfl) (pe_lst (@pa_cons _ _ _ _ _ (@pe_tup _ _ _ _ _ (@pa_cons _ _ _ _ _ pe_str (@pa_cons _ _ _ _ _ pe_int pa_nil rfl) rfl)) pa_nil rfl))) (@pss_cons _ _ _ _ _ (ps_for PassesOwn.never rfl (pi_range1 rfl mr (@pa_cons _ _ _ _ _ pe_int pa_nil rfl)) (pg_name (i:=4) scBegun.nd rfl (Or.inl rfl)) (@pss_one _ _ _ (ps_expr (pe_bm PySem.F.plainAttrs_list PySem.F.slot_list_append PySem.F.type_list_append mt_append (pv 7) (@pa_cons _ _ _ _ _ (@pe_tup _ _ _ _ _ (@pa_cons _ _ _ _ _ pe_str (@pa_cons _ _ _ _ _ (pe_op op_add pe_int (pe_call GD hrD rfl mD kD bD .nil pass0 (@pa_cons _ _ _ _ _ (pv 0) (@pa_cons _ _ _ _ _ (pe_ix ix_list (pe_lst (@pa_cons _ _ _ _ _ pe_int (@pa_cons _ _ _ _ _ pe_int (@pa_cons _ _ _ _ _ (pe_op op_pow pe_int pe_int) pa_nil rfl) rfl) rfl)) (pe_call GD hrD rfl mD kD bD .nil pass0 (@pa_cons _ _ _ _ _ (pv 0) (@pa_cons _ _ _ _ _ pe_int pa_nil rfl) rfl)) (fun _ _=>rfl)) pa_nil rfl) rfl))) pa_nil rfl) rfl)) pa_nil rfl))))) (@pss_cons _ _ _ _ _ (ps_for PassesOwn.never rfl (pi_range1 rfl mr (@pa_cons _ _ _ _ _ pe_int pa_nil rfl)) (pg_name (i:=4) scBegun.nd rfl (Or.inl rfl)) (@pss_one _ _ _ (ps_expr (pe_bm PySem.F.plainAttrs_list PySem.F.slot_list_append PySem.F.type_list_append mt_append (pv 7) (@pa_cons _ _ _ _ _ (@pe_tup _ _ _ _ _ (@pa_cons _ _ _ _ _ pe_str (@pa_cons _ _ _ _ _ (pe_call GS hrS rfl mS kS bS .nil pass0 (@pa_cons _ _ _ _ _ (pv 0) (@pa_cons _ _ _ _ _ (pe_slice sl_list (pv 7) po_none (po_some pe_int)) pa_nil rfl) rfl)) (@pa_cons _ _ _ _ _ (pe_call GS hrS rfl mS kS bS .nil pass0 (@pa_cons _ _ _ _ _ (pv 0) (@pa_cons _ _ _ _ _ (pe_slice sl_list (pv 7) po_none (po_some pe_int)) pa_nil rfl) rfl)) pa_nil rfl) rfl) rfl)) pa_nil rfl))))) (@pss_one _ _ _ (@ps_ret _ _ _ _ (pe_disp (pps_cons pe_str (pv 3) (pps_cons pe_str (pv 7) (pps_cons pe_str pe_int pps_nil))) rfl rfl (by intro e;cases e) (by decide)))))),?_⟩
  intro H1 pp b v4 v5 v6 s1 z1 hpp
  refine⟨(by show 2≤sizeLine;decide),fun a ha=>⟨(by show 1≤sizeLine;decide),fun pk hpk=>?_⟩⟩
  obtain⟨s2,z2⟩:=s1.new ha (.tup [.str "num",.int 2])
  have na:a≠lst:=fun e=>s1.ls (by rw [←e];exact ha)
  have z12:=z1.trans z2
  have ga:zo (upd H1 a (.tup [.str "num",.int 2])) [lst] a=some (.tup [.str "num",.int 2]):=by rw [zo_ne (by simpa using na)];exact upd_same
  have hpp2:PoolAt (zo (upd H1 a (.tup [.str "num",.int 2])) [lst]) pp:=by
   obtain⟨xs,e1,e2⟩:=hpp
   exact⟨xs,z2 _ _ e1,e2⟩
  generalize upd H1 a (.tup [.str "num",.int 2])=H2 at hpk s2 z2 z12 ga hpp2
  have npk:pk≠lst:=fun e=>s2.ls (by rw [←e];exact hpk)
  have apk:=s2.apart hpk
  have s3:=s2.put npk apk (.lst [.ref a])
  have z3:=zo_apart (o:=.lst [.ref a]) (Same.refl (zo H2 [lst])) hpk npk
  have hkeep:∀{H5 H6:Hp},Same (zo H5 [lst]) (zo H6 [lst])→Same (zo H5 [lst,pk]) (zo H6 [lst,pk]):=fun z=>zo_sub (fun b hb=>by simp at hb;simp [hb]) z
  have hput:∀{H5:Hp} {o:HO},zo (upd H5 pk o) [lst,pk]=zo H5 [lst,pk]:=fun {H5 o}=>zo_upd (by simp)
  have hsub:∀{H5:Hp},Same (zo H5 [lst,pk]) (zo H5 [lst]):=fun {H5}=>zo1
  have k1:KdAt K (zo (upd H2 pk (.lst [.ref a])) [lst,pk]) (.ref a) (.num 2):=by
   refine .num (SqT.of ?_)
   rw [hput]
   have:a≠pk:=fun e=>by rw [zo_ne (by simpa using na),e,hpk] at ga;cases ga
   rw [zo_ne (by simp [na,this])]
   exact zo_same _ _ ga
  refine⟨3,rfl,by decide,by decide,for_range (n:=3) (fun i σ H5=>∃v4 xs ks,σ=[some (.ref lst),some (.str letters),some (.ref b),some (.ref pp),v4,v5,v6,some (.ref pk)]∧StP K H5 lst p ns∧Same (zo H2 [lst]) (zo H5 [lst])∧H5 pk=some (.lst xs)∧Paired (KdAt K (zo H5 [lst,pk])) xs ks∧ks.length=i+1∧∀k∈ks,∃n:Int,k=.num n∧Gd (.num n))
   ⟨v4,[.ref a],[.num 2],rfl,s3,z3,upd_same,.cons k1 .nil,rfl,fun k hk=>⟨2,by simpa using hk,.num (by decide) (by decide)⟩⟩ ?_ ?_⟩
  ·rintro i σ H5 hi ⟨v4,xs,ks,rfl,s5,z5,g5,hks,hkl,hkg⟩
   refine⟨_,rfl,.inl ⟨rfl,_,SqL.of g5⟩,?_⟩
   refine⟨_,rfl,_,_,rfl,rfl,⟨by decide,by decide,by decide⟩,(by show 3≤sizeLine;decide),fun q hq=>?_⟩
   obtain⟨s6,z6⟩:=s5.new hq (.lst [.int 3,.int 7,.int (10 ^ Int.toNat 18)])
   have nq:q≠lst:=fun e=>s5.ls (by rw [←e];exact hq)
   have gq:zo (upd H5 q (.lst [.int 3,.int 7,.int (10 ^ Int.toNat 18)])) [lst] q=some (.lst [.int 3,.int 7,.int (10 ^ Int.toNat 18)]):=by rw [zo_ne (by simpa using nq)];exact upd_same
   refine⟨_,rfl,lst,3,p,ns,rfl,s6,by decide,by decide,fun H7 r s7 z7 r0 r1=>?_⟩
   obtain⟨m,hm,m0,m1⟩:∃m:Int,atI [V.int 3,V.int 7,V.int (10 ^ Int.toNat 18)] r=some (.int m)∧0 < m∧m≤10 ^ 18:=by
    have:r=0∨r=1∨r=2:=by omega
    rcases this with rfl|rfl|rfl
    ·exact⟨3,rfl,by decide,by decide⟩
    ·exact⟨7,rfl,by decide,by decide⟩
    ·exact⟨10 ^ 18,rfl,by decide,by decide⟩
   refine⟨q,_,r,_,rfl,rfl,SqL.of (zo_same _ _ (z7 _ _ gq)),hm,lst,m,p,ns,rfl,s7,m0,m1,fun H8 r' s8 z8 r0' r1'=>?_⟩
   refine⟨_,_,rfl,rfl,(by show 2≤sizeLine;decide),fun t ht=>?_⟩
   obtain⟨s9,z9⟩:=s8.new ht (.tup [.str "num",.int (1+r')])
   have nt:t≠lst:=fun e=>s8.ls (by rw [←e];exact ht)
   have z59:=z6.trans (z7.trans (z8.trans z9))
   have g9:=zo_same _ _ (z59 pk _ (by rw [zo_ne (by simpa using npk)];exact g5))
   have ntp:t≠pk:=fun e=>by
    have:=zo_same _ _ ((z6.trans (z7.trans z8)) pk _ (by rw [zo_ne (by simpa using npk)];exact g5))
    rw [←e,ht] at this
    cases this
   have gt:zo (upd H8 t (.tup [.str "num",.int (1+r')])) [lst,pk] t=some (.tup [.str "num",.int (1+r')]):=by rw [zo_ne (by simp [nt,ntp])];exact upd_same
   refine⟨pk,xs,_,rfl,rfl,g9,small1000 (by have:=pair_len hks;omega),?_⟩
   refine⟨_,xs++[.ref t],ks++[.num (1+r')],rfl,s9.put npk apk _,zo_apart (z5.trans z59) hpk npk,upd_same,?_,by rw [List.length_append,hkl];rfl,fun k hk=>?_⟩
   ·rw [hput]
    exact pair_snoc (.num (SqT.of gt)) (Paired.mapP hks fun _ _ z=>z.same (hkeep z59))
   ·rcases List.mem_append.mp hk with h|h
    ·exact hkg k h
    ·exact⟨_,by simpa using h,.num (by omega) (by omega)⟩
  ·rintro σ H5 ⟨v4,xs,ks,rfl,s5,z5,g5,hks,hkl,hkg⟩
   have num4:∀j,j < 4→∃n:Int,ks[j]?=some (.num n):=fun j hj=>by
    have hj':j < ks.length:=by omega
    obtain⟨n,e,_⟩:=hkg ks[j] (List.getElem_mem _)
    exact⟨n,by rw [List.getElem?_eq_getElem hj',e]⟩
   refine⟨2,rfl,by decide,by decide,for_range (n:=2) (fun i σ H5=>∃v4 xs ks,σ=[some (.ref lst),some (.str letters),some (.ref b),some (.ref pp),v4,v5,v6,some (.ref pk)]∧StP K H5 lst p ns∧Same (zo H2 [lst]) (zo H5 [lst])∧H5 pk=some (.lst xs)∧Paired (KdAt K (zo H5 [lst,pk])) xs ks∧ks.length=i+4∧(∀j,j < 4→∃n:Int,ks[j]?=some (.num n))∧∀k∈ks,Gd k∧Kd.depth k≤2)
    ⟨v4,xs,ks,rfl,s5,z5,g5,hks,hkl,num4,fun k hk=>by obtain⟨n,rfl,h⟩:=hkg k hk;exact⟨h,by simp [Kd.depth]⟩⟩ ?_ ?_⟩
   ·clear s5 z5 g5 hks hkl hkg num4 xs ks H5 v4
    rintro i σ H5 hi ⟨v4,xs,ks,rfl,s5,z5,g5,hks,hkl,num4,hkg⟩
    have hxl:=pair_len hks
    have pick:∀{j:Nat} {x:V},(cutV xs none (some 4))[j]?=some x→∃n:Int,Gd (.num n)∧KdAt K (zo H5 [lst,pk]) x (.num n):=fun {j x} hx=>by
     rw [cut4] at hx
     have hj:=(List.getElem?_eq_some_iff.mp hx).1
     rw [List.length_take] at hj
     rw [List.getElem?_take_of_lt (by omega)] at hx
     obtain⟨k,hk,hxk⟩:=pair_get hks hx
     obtain⟨n,e⟩:=num4 j (by omega)
     rw [hk] at e
     cases e
     exact⟨n,(hkg _ (List.mem_of_getElem? hk)).1,hxk⟩
    have hcl:(cutV xs none (some 4)).length=4:=by rw [cut4,List.length_take];omega
    refine⟨_,rfl,.inl ⟨rfl,_,SqL.of g5⟩,?_⟩
    refine⟨_,rfl,_,rfl,_,rfl,pk,xs,rfl,SqL.of g5,fun l hl=>?_⟩
    obtain⟨s6,z6⟩:=s5.new hl (.lst (cutV xs none (some 4)))
    have nl:l≠lst:=fun e=>s5.ls (by rw [←e];exact hl)
    refine⟨lst,l,cutV xs none (some 4),p,ns,rfl,s6,SqL.of (by rw [zo_ne (by simpa using nl)];exact upd_same),by omega,by omega,fun H7 j x s7 z7 hx=>?_⟩
    obtain⟨n1,gn1,kn1⟩:=pick hx
    have z57:=z6.trans z7
    have g7:=zo_same _ _ (z57 pk _ (by rw [zo_ne (by simpa using npk)];exact g5))
    refine⟨_,rfl,_,rfl,_,rfl,pk,xs,rfl,SqL.of g7,fun l' hl'=>?_⟩
    obtain⟨s8,z8⟩:=s7.new hl' (.lst (cutV xs none (some 4)))
    have nl':l'≠lst:=fun e=>s7.ls (by rw [←e];exact hl')
    refine⟨lst,l',cutV xs none (some 4),p,ns,rfl,s8,SqL.of (by rw [zo_ne (by simpa using nl')];exact upd_same),by omega,by omega,fun H9 j' x' s9 z9 hx'=>?_⟩
    obtain⟨n2,gn2,kn2⟩:=pick hx'
    have z59:=z57.trans (z8.trans z9)
    refine⟨(by show 3≤sizeLine;decide),fun t ht=>?_⟩
    obtain⟨sA,zA⟩:=s9.new ht (.tup [.str "pair",x,x'])
    have nt:t≠lst:=fun e=>s9.ls (by rw [←e];exact ht)
    have g9:=zo_same _ _ (z59 pk _ (by rw [zo_ne (by simpa using npk)];exact g5))
    have ntp:t≠pk:=fun e=>by rw [←e,ht] at g9;cases g9
    have z5A:=z59.trans zA
    have gA:=zo_same _ _ (z5A pk _ (by rw [zo_ne (by simpa using npk)];exact g5))
    have gt:zo (upd H9 t (.tup [.str "pair",x,x'])) [lst,pk] t=some (.tup [.str "pair",x,x']):=by rw [zo_ne (by simp [nt,ntp])];exact upd_same
    refine⟨pk,xs,_,rfl,rfl,gA,small1000 (by omega),?_⟩
    refine⟨_,xs++[.ref t],ks++[.pair (.num n1) (.num n2)],rfl,sA.put npk apk _,zo_apart (z5.trans z5A) hpk npk,upd_same,?_,by rw [List.length_append,hkl];show i+4+1=i+1+4;omega,fun j hj=>?_,fun k hk=>?_⟩
    ·rw [hput]
     exact pair_snoc (.pair (SqT.of gt) (kn1.same (hkeep z5A)) (kn2.same (hkeep z5A))) (Paired.mapP hks fun _ _ z=>z.same (hkeep z5A))
    ·rw [List.getElem?_append_left (by omega)]
     exact num4 j hj
    ·rcases List.mem_append.mp hk with h|h
     ·exact hkg k h
     ·obtain rfl:k=.pair (.num n1) (.num n2):=by simpa using h
      exact⟨.pair gn1 gn2,by simp [Kd.depth]⟩
   ·clear s5 z5 g5 hks hkl hkg num4 xs ks H5 v4
    rintro σ H5 ⟨v4,xs,ks,rfl,s5,z5,g5,hks,hkl,num4,hkg⟩
    intro pb hpb
    have nb:pb≠lst:=fun e=>s5.ls (by rw [←e];exact hpb)
    obtain⟨s6,z6⟩:=s5.new hpb (.dK [])
    obtain⟨s7,z7⟩:=s5.new hpb (.dK (boxB pp pk))
    refine⟨_,rfl,_,rfl,upd_same,[(.inr "pool",.ref pp),(.inr "kinds",.ref pk),(.inr "room",.int 40)],rfl,(by show 3≤15;decide),?_⟩
    rw [upd_upd]
    have z57:=z5.trans z7
    refine q _ pb pp pk ks s7 (z12.trans z57) ?_ upd_same ?_ ⟨⟨xs,z7 _ _ (by rw [zo_ne (by simpa using npk)];exact g5),Paired.mapP hks fun _ _ z=>z.same (hsub.trans z7)⟩,hkl,num4,hkg⟩
    ·cases e:H pb with
     |none=>rfl
     |some o =>
      have:=zo_same _ _ ((z12.trans z5) pb o (by rw [zo_ne (by simpa using nb)];exact e))
      rw [hpb] at this
      cases this
    ·obtain⟨ys,e1,e2⟩:=hpp2
     exact⟨ys,z57 _ _ e1,e2⟩
 refine⟨_,@pss_cons _ _ _ _ _ (ps_set (i:=1) scBegun.nd rfl (Or.inr rfl) pe_str) (@pss_cons _ _ _ _ _ (ps_set (i:=2) scBegun.nd rfl (Or.inl rfl) (pe_lst (pa_strs (xs:=bareL) (by rfl)):PE _ _ _)) (@pss_cons _ _ _ _ _ (ps_set (i:=3) scBegun.nd rfl (Or.inl rfl) (pe_lst pa_nil)) (@pss_cons _ _ _ _ _ (ps_for PassesOwn.never rfl (pi_range1 rfl mr (@pa_cons _ _ _ _ _ pe_int pa_nil rfl)) (pg_name (i:=4) scBegun.nd rfl (Or.inl rfl)) (@pss_cons _ _ _ _ _ (ps_set (i:=5) scBegun.nd rfl (Or.inl rfl) (pe_bm PySem.F.plainAttrs_str PySem.F.slot_str_join PySem.F.type_str_join mt_join pe_str (@pa_cons _ _ _ _ _ (pe_comp (own:=["_law_j"]) (caps:=["_law_letters","_law_state"]) (κ:=[1,0]) rfl ⟨rfl,by decide +kernel,by decide +kernel,rfl,rfl,(fun y hy=>by simp only [List.mem_cons,List.not_mem_nil,or_false] at hy;rcases hy with rfl|rfl<;>rfl),(fun y hy=>by simp only [List.mem_cons,List.not_mem_nil,or_false] at hy;rcases hy with rfl|rfl<;>exact⟨.inl rfl,rfl,.inl rfl⟩)⟩ rfl (pi_range1 rfl mr (@pa_cons _ _ _ _ _ (pe_op op_add pe_int (pe_call GD hrD rfl mD kD bD .nil pass0 (@pa_cons _ _ _ _ _ (pv 0) (@pa_cons _ _ _ _ _ pe_int pa_nil rfl) rfl))) pa_nil rfl)) (fun _ _ _ _=>(pg_name (i:=0) (show(["_law_j","_law_letters","_law_state"]:List Str).Nodup from by decide +kernel) rfl (Or.inl rfl))) (fun _ _ _ _=>(pe_ix ix_str (pv 1) (pe_call GD hrD rfl mD kD bD .nil pass0 (@pa_cons _ _ _ _ _ (pv 2) (@pa_cons _ _ _ _ _ pe_int pa_nil rfl) rfl)) (fun _ _=>rfl)))) pa_nil rfl))) (@pss_cons _ _ _ _ _ (ps_set (i:=6) scBegun.nd rfl (Or.inl rfl) pe_int) (@pss_cons _ _ _ _ _ (ps_while PassesOwn.never (PW.pt (pw_or (pt_cmpR op_in_seq (pv 5) (pv 3) (by with_unfolding_all rfl)) (pw_or1 (pt_cmpR op_in_seq (pv 5) (pv 2) (by with_unfolding_all rfl))))) (@pss_cons _ _ _ _ _ (ps_set (i:=5) scBegun.nd rfl (Or.inl rfl) (pe_op op_add_str pe_str (pe_ix ix_str (pv 1) (pv 6) (fun _ _=>rfl)))) (@pss_one _ _ _ (ps_set (i:=6) scBegun.nd rfl (Or.inl rfl) (pe_op op_add (pv 6) pe_int))))) (@pss_one _ _ _ (ps_expr (pe_bm PySem.F.plainAttrs_list PySem.F.slot_list_append PySem.F.type_list_append mt_append (pv 3) (@pa_cons _ _ _ _ _ (pv 5) pa_nil rfl)))))))) d4))),?_⟩
 refine⟨(by show 9≤sizeLine;decide),fun b hb=>⟨(by show 0≤sizeLine;decide),fun pp hpp=>?_⟩⟩
 obtain⟨s1,z1⟩:=hst.new hb (.lst (bareL.map V.str))
 have nb:b≠lst:=fun e=>hst.ls (by rw [←e];exact hb)
 have gb:zo (upd H b (.lst (bareL.map V.str))) [lst] b=some (.lst (bareL.map V.str)):=by rw [zo_ne (by simpa using nb)];exact upd_same
 show gName 3 (.ref pp) _ (upd (upd H b (.lst (bareL.map V.str))) pp (.lst [])) _
 replace hpp:upd H b (.lst (bareL.map V.str)) pp=none:=hpp
 generalize upd H b (.lst (bareL.map V.str))=H2 at hpp s1 z1 gb
 have np:pp≠lst:=fun e=>s1.ls (by rw [←e];exact hpp)
 have app:=s1.apart hpp
 refine⟨8,rfl,by decide,by decide,for_range (n:=8) (fun i σ H5=>∃v4 v5 v6 zs,σ=[some (.ref lst),some (.str letters),some (.ref b),some (.ref pp),v4,v5,v6,none]∧StP K H5 lst p ns∧Same (zo H2 [lst]) (zo H5 [lst])∧H5 pp=some (.lst (zs.map V.str))∧zs.length=i∧∀z∈zs,PyData.strOk z=true)
  ⟨none,none,none,[],rfl,s1.put np app _,zo_apart (Same.refl _) hpp np,upd_same,rfl,fun _ h=>nomatch h⟩ ?_ ?_⟩
 ·rintro i σ H5 hi ⟨v4,v5,v6,zs,rfl,s5,z5,g5,hzl,hzo⟩
  refine⟨rfl,_,rfl,lst,12,p,ns,rfl,s5,by decide,by decide,fun H6 r s6 z6 r0 r1=>?_⟩
  refine⟨_,_,rfl,rfl,1+r,rfl,by omega,by omega,?_⟩
  refine comp_fr (m:=(1+r).toNat) (by omega) (fun j ys H7=>∃ws:List Str,ys=ws.map V.str∧ws.length=j∧(∀z∈ws,PyData.strOk z=true∧z.length=1)∧StP K H7 lst p ns∧Same (zo H6 [lst]) (zo H7 [lst])) ⟨[],rfl,rfl,fun _ h=>(nomatch h),s6,Same.refl _⟩ (fun j ys H7 ⟨ws,e,hl,_⟩=>by rw [e,List.length_map,hl];exact Nat.le_refl _) ?_ ?_
  ·rintro j ys H7 N hN hj ⟨ws,rfl,hwl,hws,s7,z7⟩
   refine⟨rfl,tYes_go ⟨_,rfl,_,rfl,lst,26,p,ns,rfl,s7,by decide,by decide,fun H8 c s8 z8 c0 c1=>?_⟩⟩
   refine⟨letters,c,_,rfl,rfl,(by decide +kernel),get_at (d:=0) c0 (by rw [l26];exact c1),hN _ _ ⟨ws++[⟨#[letters.cps.toList.getD c.toNat 0]⟩],by rw [List.map_append];rfl,by rw [List.length_append,hwl];rfl,fun z hz=>?_,s8,z7.trans z8⟩⟩
   rcases List.mem_append.mp hz with h|h
   ·exact hws z h
   ·obtain rfl:z=⟨#[letters.cps.toList.getD c.toNat 0]⟩:=by simpa using h
    refine⟨(sok_iff _).mpr fun d hd=>?_,rfl⟩
    obtain rfl:d=letters.cps.toList.getD c.toNat 0:=by simpa using hd
    exact lt_small _ (by omega)
  ·rintro ys H7 D ⟨ws,rfl,hwl,hws,s7,z7⟩ hD
   obtain⟨s8,z8⟩:=s7.new hD (.lst (ws.map V.str))
   have z58:=z6.trans (z7.trans z8)
   have nD:D≠lst:=fun e=>s7.ls (by rw [←e];exact hD)
   have g8:=zo_same _ _ (z58 pp _ (by rw [zo_ne (by simpa using np)];exact g5))
   have b8:=zo_same _ _ (z58 b _ (z5 b _ gb))
   have hsum:(ws.map fun x=>x.length).sum=ws.length:=sum_one fun z hz=>(hws z hz).2
   refine⟨Str.ofString "",D,ws,rfl,rfl,SqL.of upd_same,by rw [hsum];show ws.length+ws.length*0≤_;omega,?_⟩
   have hw0:=join_ok fun z hz=>(hws z hz).1
   generalize Txt.join (Str.ofString "") ws=w0 at hw0
   have zz:Same (zo H5 [lst]) (zo (upd H7 D (.lst (ws.map V.str))) [lst]):=z58
   generalize upd H7 D (.lst (ws.map V.str))=H9 at s8 z8 z58 g8 b8 zz
   refine while_by (fun σ H2=>H2=H9∧∃(a:Nat) (wz:Str),σ=[some (.ref lst),some (.str letters),some (.ref b),some (.ref pp),some (.int (0+(i:Int))),some (.str wz),some (.int (a:Int)),none]∧PyData.strOk wz=true∧a≤8∧(a=0∨∃a',a=a'+1∧wz=qw a'∧∀j < a',qw j∈zs)) (fun σ _=>match σ with|[_,_,_,_,_,_,some (.int a),_]=>10 - a.toNat|_=>0) ⟨rfl,0,w0,rfl,hw0,by omega,.inl rfl⟩ ?_ ?_
   ·rintro σ H2 ⟨rfl,a,wz,rfl,hwz,ha8,hcase⟩
    have go:(wz∈zs∨wz∈bareL)→a≤7∧∀j < a,qw j∈zs:=fun h=>by
     rcases hcase with rfl|⟨a',rfl,rfl,hj⟩
     ·exact⟨by omega,fun j hj=>absurd hj (Nat.not_lt_zero _)⟩
     ·have hz:qw a'∈zs:=h.resolve_right (qw_bare _ (by omega))
      have hall:∀j < a'+1,qw j∈zs:=fun j hj'=>by
       by_cases e:j=a'
       ·rw [e];exact hz
       ·exact hj j (by omega)
      have:=qw_few (a'+1) zs (by omega) hall
      exact⟨by omega,hall⟩
    have ea:((a:Int)).toNat=a:=by omega
    have hix:∀(_:a≤7),atI letters.cps.toList (a:Int)=some (letters.cps.toList.getD a 0):=fun h=>by
     have:=get_at (xs:=letters.cps.toList) (i:=(a:Int)) (d:=0) (by omega) (by rw [l26];omega)
     rw [ea] at this
     exact this
    refine⟨_,rfl,_,rfl,pp,zs.map V.str,rfl,.inl (SqL.of g8),rfl,flat_strs _,_,rfl,ite2 (fun h=>iteT (by
     obtain⟨h7,hj⟩:=go (.inl (inV_str h))
     exact⟨_,rfl,_,rfl,letters,(a:Int),_,rfl,rfl,(by decide +kernel),hix h7,_,_,rfl,rfl,(by show 1+1≤sizeLine;decide),_,rfl,_,_,rfl,rfl,⟨rfl,a+1,qw a,rfl,qw_ok _ (by omega),by omega,.inr ⟨a,rfl,rfl,hj⟩⟩,by show 10 - ((a:Int)+1).toNat < 10 - ((a:Int)).toNat;omega⟩)) (fun _=>?_)⟩
    refine⟨_,rfl,_,rfl,b,bareL.map V.str,rfl,.inl (SqL.of b8),rfl,flat_strs _,_,rfl,ite2 (fun h=>(by
     obtain⟨h7,hj⟩:=go (.inr (inV_str h))
     exact⟨_,rfl,_,rfl,letters,(a:Int),_,rfl,rfl,(by decide +kernel),hix h7,_,_,rfl,rfl,(by show 1+1≤sizeLine;decide),_,rfl,_,_,rfl,rfl,⟨rfl,a+1,qw a,rfl,qw_ok _ (by omega),by omega,.inr ⟨a,rfl,rfl,hj⟩⟩,by show 10 - ((a:Int)+1).toNat < 10 - ((a:Int)).toNat;omega⟩)) (fun _=>?_)⟩
    refine⟨_,rfl,.inl ⟨rfl,_,SqL.of g8⟩,_,rfl,pp,_,_,rfl,rfl,g8,small1000 (by rw [List.length_map];omega),?_⟩
    refine⟨_,_,_,zs++[wz],rfl,s8.put np app _,zo_apart (z5.trans zz) hpp np,by rw [List.map_append,upd_same];rfl,by rw [List.length_append,hzl];rfl,fun z hz=>?_⟩
    rcases List.mem_append.mp hz with h|h
    ·exact hzo z h
    ·obtain rfl:z=wz:=by simpa using h
     exact hwz
   ·rintro σ H2 Q1 Q2 hq h
    obtain⟨a1,e1,a2,e2,p',xs,e3,h4,f1,f2,c,e5,h6⟩:=h
    refine⟨a1,e1,a2,e2,p',xs,e3,h4,f1,f2,c,e5,?_⟩
    cases c with
    |true =>
     refine iteT ?_
     exact hq _ _ (iteT' h6)
    |false =>
     refine iteF ?_
     obtain⟨a1,e1,a2,e2,p',xs,e3,h4,f1,f2,c,e5,h6⟩:=iteF' h6
     exact⟨a1,e1,a2,e2,p',xs,e3,h4,f1,f2,c,e5,hq _ _ h6⟩
 ·rintro σ H5 ⟨v4,v5,v6,zs,rfl,s5,z5,g5,hzl,hzo⟩
  exact k4 H5 pp b v4 v5 v6 s5 (z1.trans z5) ⟨zs.map V.str,by rw [zo_ne (by simpa using np)];exact g5,by rw [List.length_map];omega,by rw [List.length_map];omega,fun x hx=>by
   obtain⟨z,hz,rfl⟩:=List.mem_map.mp hx
   exact⟨z,rfl,hzo z hz⟩⟩
end
end K72
namespace K72
open PySem L2 Kk
def Vl.dat:Vl→PyData
 |.num n=>.int n
 |.pr a b=>.tuple [Vl.dat a,Vl.dat b]
theorem vat_datD{K:PySem.W.Frag}{H:Hp}{x:V}{v:Vl}(h:VAt H x v):Dat K H x (Vl.dat v):=by
 induction h with
 |num=>exact .int _
 |pr hp _ _ i1 i2=>exact .tup (SqT.of hp) (.cons i1 (.cons i2 .nil))
theorem vsat_dats{K:PySem.W.Frag}{H:Hp}:∀{xs:List V} {vs:List Vl},VsAt H xs vs→Dats K H xs (vs.map Vl.dat)
 |_,_,.nil=>.nil
 |_,_,.cons h t=>.cons (vat_datD h) (vsat_dats t)
abbrev callD(c:Call):PyData:=.tuple [.str c.1,.str c.2.1,.list (c.2.2.map Vl.dat)]
abbrev callsD(tr:List Call):PyData:=.list (tr.map callD)
theorem cs_dats{K:PySem.W.Frag}{W:Hp}:∀{xs:List V} {ls:List Addr} {cs:List Call},CsAt W xs ls cs→Dats K W xs (cs.map callD)
 |_,_,_,.nil=>.nil
 |_,_,_,.cons ⟨_,_,e,h1,h2,h3⟩ r=>by
  subst e
  exact .cons (.tup (SqT.of h1) (.cons (.str _) (.cons (.str _) (.cons (.lst (SqL.of h2) (vsat_dats h3)) .nil)))) (cs_dats r)
theorem hd_dat{K:PySem.W.Frag}{H:Hp}{lh:Addr}{ls:List Addr}{tr:List Call}(h:HdAt H lh ls tr):Dat K H (.ref lh) (callsD tr):=by
 obtain⟨xs,h1,h2⟩:=h
 exact .lst (SqL.of h1) (cs_dats (h2.same zo_same))
theorem vl_lay:∀v:Vl,(Vl.dat v).canLay0=true
 |.num _=>by simp only [Vl.dat,PyData.canLay0]
 |.pr a b=>by simp only [Vl.dat,PyData.canLay0,PyData.canLayAll0,vl_lay a,vl_lay b,Bool.and_self]
theorem vls_lay:∀vs:List Vl,PyData.canLayAll0 (vs.map Vl.dat)=true
 |[]=>by simp [PyData.canLayAll0]
 |v::vs=>by simp only [List.map_cons,PyData.canLayAll0,vl_lay v,vls_lay vs,Bool.and_self]
theorem vl_dep:∀v:Vl,(Vl.dat v).depth≤v.ht+1
 |.num _=>by simp only [Vl.dat,PyData.depth,Vl.ht];omega
 |.pr a b=>by
  have h1:=vl_dep a
  have h2:=vl_dep b
  simp only [Vl.dat,PyData.depth,PyData.depthAll,Vl.ht]
  omega
theorem vls_dep:∀{vs:List Vl},(∀v∈vs,v.ht≤5)→PyData.depthAll (vs.map Vl.dat)≤9
 |[],_=>by simp only [List.map_nil,PyData.depthAll];decide
 |v::vs,h=>by
  have h1:=vl_dep v
  have h2:=h v (.head _)
  have h3:=vls_dep fun u hu=>h u (.tail _ hu)
  simp only [List.map_cons,PyData.depthAll]
  omega
def TrOk(tr:List Call):Prop:=∀c∈tr,PyData.strOk c.1=true∧PyData.strOk c.2.1=true∧∀v∈c.2.2,v.ht≤5
theorem calls_lay:∀{tr:List Call},TrOk tr→PyData.canLayAll0 (tr.map callD)=true
 |[],_=>by simp [PyData.canLayAll0]
 |c::tr,h=>by
  obtain⟨h1,h2,_⟩:=h c (.head _)
  simp only [List.map_cons,PyData.canLayAll0,PyData.canLay0,h1,h2,vls_lay,calls_lay fun u hu=>h u (.tail _ hu),Bool.and_self]
theorem calls_dep:∀{tr:List Call},TrOk tr→PyData.depthAll (tr.map callD)≤20
 |[],_=>by simp only [List.map_nil,PyData.depthAll];decide
 |c::tr,h=>by
  obtain⟨_,_,h1⟩:=h c (.head _)
  have h2:=vls_dep h1
  have h3:=calls_dep fun u hu=>h u (.tail _ hu)
  simp only [List.map_cons,PyData.depthAll,PyData.depth]
  omega
theorem calls_shaped{tr:List Call}(h:TrOk tr):SeqAt.shaped (callsD tr)=true:=by
 have h1:(callsD tr).canLay0=true:=by simp only [PyData.canLay0,calls_lay h]
 have h2:(callsD tr).depth≤64:=by
  have:=calls_dep h
  simp only [PyData.depth]
  omega
 unfold SeqAt.shaped
 rw [h1,decide_eq_true h2]
 rfl
theorem calls_refl{tr:List Call}(h:TrOk tr):PyData.eqv (callsD tr) (callsD tr)=true:=SeqAt.eqv_refl _ (by simp only [PyData.canLay0,calls_lay h])
mutual
theorem trc_ok{F:FT}{C:Orc}(hC:FunOk F C):∀{G:GT} {ρ:Str→Option Vl} {e:Ex} {k:Kd},EnvOk G ρ→Ty F G e k→∀c∈trc C ρ e,∃ks k,F c.1 c.2.1=some (ks,k)∧VlsOf ks c.2.2
 |_,_,_,_,_,.lit _ _ _,c,h=>by rw [trc] at h;exact nomatch h
 |_,_,_,_,_,.var _,c,h=>by rw [trc] at h;exact nomatch h
 |_,ρ,.if_ a b d,k,hr,.if_ ha hb hc,c,h=>by
  rw [trc,List.mem_append] at h
  rcases h with h|h
  ·exact trc_ok hC hr ha c h
  ·split at h
   ·split at h
    ·exact trc_ok hC hr hb c h
    ·exact trc_ok hC hr hc c h
   ·exact nomatch h
 |_,ρ,.let_ x a b,k,hr,.let_ (l:=l) ha hb,c,h=>by
  obtain⟨va,a1,a2⟩:=ev_ok hC hr ha
  rw [trc,a1,List.mem_append] at h
  rcases h with h|h
  ·exact trc_ok hC hr ha c h
  ·refine trc_ok hC (fun y k' e=>?_) hb c h
   by_cases ey:y=x
   ·subst ey
    rw [if_pos rfl] at e ⊢
    cases e
    exact⟨va,rfl,a2⟩
   ·rw [if_neg ey] at e ⊢
    exact hr _ _ e
 |_,_,_,_,hr,.two ha hb,c,h=>by rw [trc] at h;exact trcs_ok hC hr (.cons ha (.cons hb .nil)) c h
 |_,_,_,_,hr,.fst ha,c,h=>by rw [trc] at h;exact trcs_ok hC hr (.cons ha .nil) c h
 |_,_,_,_,hr,.snd ha,c,h=>by rw [trc] at h;exact trcs_ok hC hr (.cons ha .nil) c h
 |_,_,_,_,hr,.op _ ha hb,c,h=>by rw [trc] at h;exact trcs_ok hC hr (.cons ha (.cons hb .nil)) c h
 |_,_,_,_,hr,.test _ ha hb,c,h=>by rw [trc] at h;exact trcs_ok hC hr (.cons ha (.cons hb .nil)) c h
 |_,_,_,_,hr,.as_ _ _ ha,c,h=>by rw [trc] at h;exact trcs_ok hC hr (.cons ha .nil) c h
 |_,_,_,_,hr,.call hf hs,c,h=>by
  obtain⟨ws,w1,w2⟩:=evs_ok hC hr hs
  rw [trc,w1,List.mem_append] at h
  rcases h with h|h
  ·exact trcs_ok hC hr hs c h
  ·obtain rfl:=List.mem_singleton.mp h
   exact⟨_,_,hf,w2⟩
theorem trcs_ok{F:FT}{C:Orc}(hC:FunOk F C):∀{G:GT} {ρ:Str→Option Vl} {es:List Ex} {ks:List Kd},EnvOk G ρ→Tys F G es ks→∀c∈trcs C ρ es,∃ks k,F c.1 c.2.1=some (ks,k)∧VlsOf ks c.2.2
 |_,_,_,_,_,.nil,c,h=>by rw [trcs] at h;exact nomatch h
 |_,_,_,_,hr,.cons ha hs,c,h=>by
  rw [trcs,List.mem_append] at h
  rcases h with h|h
  ·exact trc_ok hC hr ha c h
  ·exact trcs_ok hC hr hs c h
end
theorem VAt.tups{H H':Hp}(s:∀p xs,H p=some (.tup xs)→H' p=some (.tup xs)){x:V}{v:Vl}(h:VAt H x v):VAt H' x v:=by
 induction h with
 |num=>exact .num
 |pr hp _ _ i1 i2=>exact .pr (s _ _ hp) i1 i2
theorem CsAt.keep{W W':Hp}(kt:∀p xs,W p=some (.tup xs)→W' p=some (.tup xs))(kl:∀p xs,W p=some (.lst xs)→W' p=some (.lst xs)):∀{xs:List V} {ls:List Addr} {cs:List Call},CsAt W xs ls cs→CsAt W' xs ls cs
 |_,_,_,.nil=>.nil
 |_,_,_,.cons ⟨a,us,e,h1,h2,h3⟩ r=>.cons ⟨a,us,e,kt _ _ h1,kl _ _ h2,Paired.mapP h3 fun _ _ z=>z.tups kt⟩ (CsAt.keep kt kl r)
theorem no_frz{H:Hp}{ads:List Addr}(f:FrzAll H ads){p:Addr}{o:HO}(h:H p=some o)(n:∀a v,o≠.frz a (.cel v)):p∉ads:=fun z=>by
 obtain⟨o',v,e⟩:=f p z
 rw [h] at e
 exact n _ _ (Option.some.inj e)
theorem zo_drop{ads S:List Addr}{H:Hp}:zo (dropC ads H) S=dropC ads (zo H S):=by
 funext b
 unfold zo dropC
 by_cases h1:b∈S<;>by_cases h2:b∈ads<;>simp [h1,h2]
theorem zo_dk{H:Hp}{ads:List Addr}{lh:Addr}(f:FrzAll H ads){p:Addr}{o:HO}(n:∀a v,o≠.frz a (.cel v))(h:zo H [lh] p=some o):zo (dropC ads H) [lh] p=some o:=by
 rw [zo_drop,drop_no (no_frz f (zo_same _ _ h) n)]
 exact h
theorem HdAt.drop{H:Hp}{ads:List Addr}(f:FrzAll H ads){lh:Addr}{ls:List Addr}{tr:List Call}(h:HdAt H lh ls tr):HdAt (dropC ads H) lh ls tr:=by
 obtain⟨xs,h1,h2⟩:=h
 exact⟨xs,by rw [drop_no (no_frz f h1 fun _ _=>nofun)];exact h1,h2.keep (fun p ys e=>zo_dk f (fun _ _=>nofun) e) (fun p ys e=>zo_dk f (fun _ _=>nofun) e)⟩
theorem add_same{H H':Hp}{ads:List Addr}(n:∀a∈ads,H' a=none):Same H' (addC ads H H'):=fun b o e=>by
 unfold addC
 by_cases hb:b∈ads
 ·rw [n b hb] at e;cases e
 ·rw [if_neg hb];exact e
theorem zo_add{H H':Hp}{ads:List Addr}{lh:Addr}(s:Same (zo (dropC ads H) [lh]) (zo H' [lh])):Same (zo H [lh]) (zo (addC ads H H') [lh]):=fun b o e=>by
 have nb:b∉[lh]:=fun z=>by rw [zo_at z] at e;cases e
 rw [zo_ne nb] at e ⊢
 unfold addC
 by_cases hb:b∈ads
 ·rw [if_pos hb];exact e
 ·rw [if_neg hb]
  have:=s b o (by rw [zo_ne nb,drop_no hb];exact e)
  rwa [zo_ne nb] at this
theorem same_lam{H:Hp}{f c:Addr}{q:Str}{fd:FuncData}(hf:H f=none)(hfc:f≠c)(hc:H c=none∨H c=some (.cod q)):Same H (upd (upd H c (.cod q)) f (.fnc fd)):=by
 have s1:Same H (upd H c (.cod q)):=by
  rcases hc with hc|hc
  ·exact same_new hc _
  ·intro b o e
   by_cases hb:b=c
   ·subst hb;rw [upd_same];rw [hc] at e;exact e
   ·rw [upd_ne hb];exact e
 exact s1.trans (same_new (by rw [upd_ne hfc];exact hf) _)
abbrev lamN:List Str:=["_law_q","_law_f","_law_values"]
abbrev lamC:List Str:=["_law_heard","_law_funs"]
abbrev lamSc:Scope:={ kind:=.function,names:=[("_law_q",.local),("_law_f",.local),("_law_values",.local),("_law_funs",.free),("_law_heard",.free),("_law_noted",.globalImplicit)],isGenerator:=false,isCoroutine:=false,more:=[] }
theorem scLam:CloScope lamN lamC lamSc:=⟨rfl,rfl,rfl,by decide +kernel,by decide +kernel,by decide +kernel,by decide +kernel,by decide +kernel⟩
abbrev lamE(p1 p2 p3 p4 p5 p6 p7:Pos):Expr:=.Call (.Name "_law_noted" p1) [.Name "_law_heard" p2,.Name "_law_funs" p3,.Name "_law_q" p4,.Name "_law_f" p5,.Name "_law_values" p6] [] p7
abbrev lamA(r1 r2 r3:Pos):Arguments:={ posonlyargs:=[],args:=[⟨"_law_q",none,r1⟩,⟨"_law_f",none,r2⟩,⟨"_law_values",none,r3⟩],vararg:=none,kwonlyargs:=[],kw_defaults:=[],kwarg:=none,defaults:=[] }
abbrev lamQ:Str:=("law"++".<locals>.":Str)++"<lambda>"
abbrev tabL:Array Value:=#[.int 225 0,.int 60 0,.str lamQ 0]
section
variable{P:Program}{w:World}{K:PySem.W.Frag}{mg:Str→Option Value}{base:Heap}
theorem ok_lam{f c a1 a2 fT lh lf:Addr}{fdT:FuncData}{params:Arguments}{pm ctv:Value}{p1 p2 p3 p4 p5 p6 p7:Pos} (GT:FnOk P w K mg base CX0 14 fT fdT ["_law_heard","_law_funs","_law_q","_law_f","_law_values"] (spNoted K)) (bT:Binds K fdT ["_law_heard","_law_funs","_law_q","_law_f","_law_values"] []) (kT:PySem.W.keepIn K (.ref fT)=true) (mT:mg "_law_noted"=some (.ref fT)) (nd:[a1,a2].Nodup) :
  FnOk P w K mg base CX0 15 f (PySem.W.kla_fn "<lambda>" lamQ params (lamE p1 p2 p3 p4 p5 p6 p7) lamSc (lamC.zip [a1,a2]) pm (.ref c) ctv) lamN (spClo f (PySem.W.kla_fn "<lambda>" lamQ params (lamE p1 p2 p3 p4 p5 p6 p7) lamSc (lamC.zip [a1,a2]) pm (.ref c) ctv) c lamQ [a1,a2] [.ref lh,.ref lf] lamN.length (fun vs H Q E=>spNoted K (.ref lh::.ref lf::vs) H Q E)):=by
 refine fn_lam (k:=14) cxf0 scLam rfl nd fun A outer s H vs Q E hr h _=>?_
 refine⟨_,pe_call GT hr rfl mT kT bT .nil pass0 (pa_cons (pv 3) (pa_cons (pv 4) (pa_cons (pv 0) (pa_cons (pv 1) (pa_cons (pv 2) pa_nil))))),?_⟩
 obtain⟨lh',lf',l,q,t,ls,tr,F,ks,k,us,ws,e,r⟩:=h
 cases e
 exact⟨_,rfl,_,rfl,_,rfl,_,rfl,_,rfl,lh,lf,l,q,t,ls,tr,F,ks,k,us,ws,rfl,r⟩
theorem b_lam{r1 r2 r3:Pos}{body:Expr}{sc:Scope}{cl:List (Str × Addr)}{pm cd ctv:Value}:Binds K (PySem.W.kla_fn "<lambda>" lamQ (lamA r1 r2 r3) body sc cl pm cd ctv) lamN []:=.all fun us hl=>match us,hl with|[_,_,_],_=>rfl
theorem clo_same{H H6 H7:Hp}{g cc lh:Addr}{q:Str}{fd:FuncData}{ads:List Addr}(hg:H g=none)(hgc:g≠cc)(hcc:H cc=none∨H cc=some (.cod q))
  (s6:Same (upd (upd H cc (.cod q)) g (.fnc fd)) H6) (n6:∀c∈ads,(upd (upd H cc (.cod q)) g (.fnc fd)) c=none) (s7:Same (zo H6 [lh]) (zo H7 [lh])):Same (zo H [lh]) (zo (dropC ads H7) [lh]):=by
 rw [zo_drop]
 have s1:=same_lam (fd:=fd) hg hgc hcc
 refine Same.dropC ((zo_mono (s1.trans s6)).trans s7) fun c hc=>?_
 cases e:zo H [lh] c with
 |none=>rfl
 |some o =>
  have:=s1 _ _ (zo_same _ _ e)
  rw [n6 c hc] at this
  cases this
theorem froz_zo{H:Hp}{lh:Addr}:∀{ads:List Addr} {cvs:List V},lh∉ads→Froz H ads cvs→Froz (zo H [lh]) ads cvs
 |_,_,_,.nil=>.nil
 |_,_,n,.cons ⟨o,r⟩ t=>.cons ⟨o,by rw [zo_ne (fun z=>n (by rw [List.mem_singleton.mp z];exact .head _))];exact r⟩ (froz_zo (fun z=>n (.tail _ z)) t)
theorem froz_on{H H':Hp}{lh:Addr}{ads:List Addr}{cvs:List V}(n:lh∉ads)(f:Froz H ads cvs)(s:Same (zo H [lh]) (zo H' [lh])):Froz H' ads cvs:=((froz_zo n f).same s).same zo_same
theorem orc_ok{a1 a2 lh lf fT:Addr}{fdT:FuncData}{F:FT}{H H6:Hp}{g cc:Addr}{ctv pm:Value}{r1 r2 r3 p1 p2 p3 p4 p5 p6 p7:Pos} (GT:FnOk P w K mg base CX0 14 fT fdT ["_law_heard","_law_funs","_law_q","_law_f","_law_values"] (spNoted K)) (bT:Binds K fdT ["_law_heard","_law_funs","_law_q","_law_f","_law_values"] []) (kT:PySem.W.keepIn K (.ref fT)=true) (mT:mg "_law_noted"=some (.ref fT)) (nd:[a1,a2].Nodup)
  (hF:FnsAt K (zo H [lh]) lf F) (hok:FtOk F) (hg:H g=none) (hgc:g≠cc) (hcc:H cc=none∨H cc=some (.cod lamQ)) {xs0:List V} (hl0:H lh=some (.lst xs0))
  (s6:Same (upd (upd H cc (.cod lamQ)) g (.fnc (PySem.W.kla_fn "<lambda>" lamQ (lamA r1 r2 r3) (lamE p1 p2 p3 p4 p5 p6 p7) lamSc (lamC.zip [a1,a2]) pm (.ref cc) ctv))) H6)
  (n6:∀c∈[a1,a2],(upd (upd H cc (.cod lamQ)) g (.fnc (PySem.W.kla_fn "<lambda>" lamQ (lamA r1 r2 r3) (lamE p1 p2 p3 p4 p5 p6 p7) lamSc (lamC.zip [a1,a2]) pm (.ref cc) ctv))) c=none) (fz:Froz H6 [a1,a2] [.ref lh,.ref lf]):OrcOk P w K mg base 15 g lh (zo H6 [lh]) (ansC F):=by
 intro q t ws v H7 ls tr l us e s7 hh htr hl hus Q hQ
 have hlh:H lh≠none:=by rw [hl0];nofun
 have nlg:g≠lh:=fun z=>hlh (by rw [←z];exact hg)
 have nla:lh∉[a1,a2]:=fun z=>by
  have e1:=n6 lh z
  cases e2:H lh with
  |none=>exact hlh e2
  |some o =>
   have:=same_lam (fd:=(PySem.W.kla_fn "<lambda>" lamQ (lamA r1 r2 r3) (lamE p1 p2 p3 p4 p5 p6 p7) lamSc (lamC.zip [a1,a2]) pm (.ref cc) ctv)) hg hgc hcc _ _ e2
   rw [e1] at this
   cases this
 have fz7:=froz_on nla fz s7
 have fa:=fz7.all
 have s8:=clo_same hg hgc hcc s6 n6 s7
 obtain⟨ks,k,hft,hvl,rfl⟩:∃ks k,F q t=some (ks,k)∧VlsOf ks ws∧v=ansV k ws:=by
  unfold ansC at e
  cases hf:F q t with
  |none=>rw [hf] at e;cases e
  |some x =>
   obtain⟨ks,k⟩:=x
   rw [hf] at e
   by_cases hv:VlsOf ks ws
   ·exact⟨ks,k,rfl,hv,(Option.some.inj ((if_pos hv).symm.trans e)).symm⟩
   ·have:=(if_neg hv).symm.trans e
    cases this
 have gg:H7 g=some (.fnc (PySem.W.kla_fn "<lambda>" lamQ (lamA r1 r2 r3) (lamE p1 p2 p3 p4 p5 p6 p7) lamSc (lamC.zip [a1,a2]) pm (.ref cc) ctv)):=zo_same _ _ (s7 _ _ (by rw [zo_ne (by simpa using nlg)];exact s6 _ _ upd_same))
 have gc:H7 cc=some (.cod lamQ):=by
  have h6:H6 cc=some (.cod lamQ):=s6 _ _ (by rw [upd_ne (Ne.symm hgc),upd_same])
  have ncl:cc≠lh:=fun z=>by
   rcases hcc with h|h
   ·exact hlh (by rw [←z];exact h)
   ·rw [z,hl0] at h;cases h
  exact zo_same _ _ (s7 _ _ (by rw [zo_ne (by simpa using ncl)];exact h6))
 refine⟨_,lamN,_,gg,ok_lam (lh:=lh) (lf:=lf) GT bT kT mT nd,b_lam,rfl,gg,gc,fz7,lh,lf,l,q,t,ls,tr,F,ks,k,us,ws,rfl,hh.drop fa,htr,hF.same s8,hok,hft,zo_dk fa (fun _ _=>nofun) hl,Paired.mapP hus fun _ _ z=>z.tups fun p xs e=>zo_dk fa (fun _ _=>nofun) e,hvl,fun H9 u s9 h9 u9 n9=>?_⟩
 exact hQ _ _ (zo_add s9) (h9.same (add_same n9)) (u9.same (zo_mono (add_same n9)))
end
end K72
namespace L2
open PySem
theorem call_isiLK{X:Cx}:CallR X (.builtin "isinstance") (fun xs H Q=>∃l us,xs=[.ref l,.ty "list"]∧H l=some (.lst us)∧Q (.bl true) H):=by
 intro pins s σ H xs us Q I rv h
 obtain⟨l,vs,rfl,hl,q⟩:=h
 exact K72.call_isi pins s σ H _ us Q I rv ⟨.ref l,"list",_,true,rfl,.lst hl,rfl,q⟩
end L2
namespace K72
open PySem L2 Kk
abbrev laN:List Str:=["_law_script","_law_state","_law_box","_law_scope","_law_held","_law_x","_law_funs","_law_k","_law_name","_law_heard","_law_deep","_law_expression","_law_calls","_law_due","_law_handed","_law_found"]
theorem scLaw:FnScope laN ["_law_script"] (defScope sLaw):=⟨rfl,rfl,rfl,by decide +kernel,rfl,by decide +kernel,by decide +kernel⟩
structure Fx(K:PySem.W.Frag)(H:Hp)(T lv lf lc:Addr)(x due:V)(e:Ex)(v:Vl)(ρ:Str→Option Vl)(F:FT)(kvs:List (Key × V)):Prop where
 tb:H T=some (.tbl tabL)
 ex:ExAt H x e
 ht:e.ht≤17
 hv:H lv=some (.dK kvs)
 len:kvs.length≤4
 env:∀y z,ρ y=some z→∃u,valV kvs (.inr y)=some u∧VAt H u z
 pl:∀p∈kvs,plainE p.2=true
 fns:FnsAt K H lf F
 fok:FtOk F
 cs:HdE H lc (trc (ansC F) ρ e)
 few:(trc (ansC F) ρ e).length≤40
 tro:TrOk (trc (ansC F) ρ e)
 hev:ev (ansC F) ρ e=some v
 due:VAt H due v
 vht:v.ht≤3
theorem Fx.same{K:PySem.W.Frag}{H H':Hp}{T lv lf lc:Addr}{x due:V}{e:Ex}{v:Vl}{ρ:Str→Option Vl}{F:FT}{kvs:List (Key × V)}(h:Fx K H T lv lf lc x due e v ρ F kvs)(s:Same H H'):Fx K H' T lv lf lc x due e v ρ F kvs :=
 ⟨s _ _ h.tb,h.ex.same s,h.ht,s _ _ h.hv,h.len,fun y z e=>let ⟨u,a,b⟩:=h.env y z e;⟨u,a,b.same s⟩,h.pl,h.fns.same s,h.fok,h.cs.same s,h.few,h.tro,h.hev,h.due.same s,h.vht⟩
theorem CsAt.get{W:Hp}:∀{xs:List V} {ls:List Addr} {cs:List Call} {i:Nat} {y:V},CsAt W xs ls cs→xs[i]?=some y→∃l c,CallAt W y l c
 |_,_,_,_,_,.nil,h=>by simp at h
 |_,_,_,0,_,.cons a _,h=>by simp at h;subst h;exact⟨_,_,a⟩
 |_,_,_,i+1,y,.cons _ r,h=>CsAt.get (i:=i) (y:=y) r (by simpa using h)
theorem lam_no{H:Hp}{g cc lh:Addr}{q:Str}{fd:FuncData}{ads:List Addr}{o:HO}(hg:H g=none)(hgc:g≠cc)(hcc:H cc=none∨H cc=some (.cod q))(gl:H lh=some o)
  (n7:∀c∈ads,(upd (upd H cc (.cod q)) g (.fnc fd)) c=none):lh∉ads:=fun z=>by
 have e1:=n7 lh z
 have e2:=same_lam (fd:=fd) hg hgc hcc _ _ gl
 rw [e1] at e2
 cases e2
def spLaw(K:PySem.W.Frag)(T:Addr):Sp:=fun vs H Q _=>∃(a:Addr) (ns:List Int),vs=[.ref a]∧SqL K H a (ns.map V.int)∧ns.length≤63∧H T=some (.tbl tabL)∧∀H',Q (.bl true) H'
section
variable{P:Program}{w:World}{K:PySem.W.Frag}{mg:Str→Option Value}{base:Heap}
set_option maxHeartbeats 0 in
theorem lw12{f c T fZ fA fT:Addr}{fdZ fdA fdT:FuncData}{A:Around}{outer:List Env}{s:Shared}{H:Hp}{Q:VK}{E:XK}(C0:PySem.W.CodeHd base c T) (mr:mg "range"=none) (md:mg "dict"=none) (ma:mg "all"=none) (mis:mg "isinstance"=none) (mli:mg "list"=none)
  (GZ:FnOk P w K mg base CX0 35 fZ fdZ ["expression","variables","call"] (spValue P w K mg base 15 17)) (bZ:Binds K fdZ ["expression","variables","call"] []) (kZ:PySem.W.keepIn K (.ref fZ)=true) (mZ:mg "value_of"=some (.ref fZ))
  (GA:FnOk P w K mg base CX0 4 fA fdA ["_law_found","_law_due"] (spAlike 3)) (bA:Binds K fdA ["_law_found","_law_due"] []) (kA:PySem.W.keepIn K (.ref fA)=true) (mA:mg "_law_alike"=some (.ref fA))
  (GT:FnOk P w K mg base CX0 14 fT fdT ["_law_heard","_law_funs","_law_q","_law_f","_law_values"] (spNoted K)) (bT:Binds K fdT ["_law_heard","_law_funs","_law_q","_law_f","_law_values"] []) (kT:PySem.W.keepIn K (.ref fT)=true) (mT:mg "_law_noted"=some (.ref fT))
  (hrL:Room 44 (A.deeper (PyProof.Rows.envOfC "law" (defScope sLaw) s.heap.objs.size f (.ref c)))) (q:∀H',Q (.bl true) H') :
  ∃t,PSs (cxOf CX0 P w K mg base laN "law" (defScope sLaw) f (.ref c) A outer s H E).nox (List.drop 12 (defBody sLaw)) t ∧
   ∀(H1:Hp) (lv lf lc:Addr) (x due:V) (e:Ex) (v:Vl) (ρ:Str→Option Vl) (F:FT) (kvs:List (Key × V)) (v0 v1 v2 v3 v5 v7 v8 v9 v10:Option V),Fx K H1 T lv lf lc x due e v ρ F kvs →
    t { nx:=fun _ H'=>Q .non H',rt:=Q } [v0,v1,v2,v3,some (.ref lv),v5,some (.ref lf),v7,v8,v9,v10,some x,some (.ref lc),some due,none,none] H1:=by
 have hu:=hu_of hrL
 have hu64:=hu64_of hrL
 have hrZ:Room 35 _:=hrL.mono (by decide)
 have hrA:Room 4 _:=hrL.mono (by decide)
 refine⟨_,@pss_cons _ _ _ _ _ (ps_set (i:=14) scLaw.nd rfl (Or.inl rfl) (pe_callTy call_dict_dK rfl md bootDict (@pa_cons _ _ _ _ _ (pv 4) pa_nil rfl))) (@pss_cons _ _ _ _ _ (ps_for PassesOwn.never rfl (pi_range1 rfl mr (@pa_cons _ _ _ _ _ pe_int pa_nil rfl)) (pg_name (i:=7) scLaw.nd rfl (Or.inl rfl)) (@pss_cons _ _ _ _ _ (ps_set (i:=9) scLaw.nd rfl (Or.inr rfl) (pe_lst pa_nil)) (@pss_cons _ _ _ _ _ (ps_set (i:=15) scLaw.nd rfl (Or.inl rfl) (pe_callF (l:=[(9,"_law_heard",_),(6,"_law_funs",_)]) cxf0 GZ hrZ rfl mZ kZ bZ .nil pass0 (.cons rfl rfl rfl rfl (.cons rfl rfl rfl rfl .nil)) (show(["_law_heard","_law_funs"]:List Str).Nodup from by decide +kernel) (@pa_cons _ _ _ _ _ (pv 11) (@pa_cons _ _ _ _ _ (pv 14) (@pa_cons _ _ _ _ _ (pe_lam (P:=T) (q:=lamQ) rfl C0 rfl) pa_nil rfl) rfl) rfl))) (@pss_cons _ _ _ _ _ (ps_if (PW.pt (pw_or (pt_not (L2.pt_val (pe_call GA hrA rfl mA kA bA .nil pass0 (@pa_cons _ _ _ _ _ (pv 15) (@pa_cons _ _ _ _ _ (pv 13) pa_nil rfl) rfl)))) (pw_or1 (pt_cmpR (op_neD hu64) (pv 9) (pv 12) (nomark _))))) (@pss_one _ _ _ (@ps_ret _ _ _ _ pe_bl)) pss_nil) (@pss_one _ _ _ (ps_if (pt_not (L2.pt_val (pe_callB (call_allB rfl) rfl ma bootAll (@pa_cons _ _ _ _ _ (pe_comp (own:=["_law_call"]) (caps:=[]) (κ:=[]) rfl ⟨rfl,by decide +kernel,by decide +kernel,rfl,rfl,(fun y hy=>nomatch hy),(fun y hy=>nomatch hy)⟩ rfl (pi_list (pv 9)) (fun _ _ _ _=>(pg_name (i:=0) (show(["_law_call"]:List Str).Nodup from by decide +kernel) rfl (Or.inl rfl))) (fun _ _ _ _=>(pe_callB call_isiLK rfl mis bootIsi (@pa_cons _ _ _ _ _ (pe_ix (r:=rIxT K) ix_tup (pv 0) pe_int (fun _ _=>rfl)) (@pa_cons _ _ _ _ _ (pe_bltn rfl mli bootListT (v:=.ty "list") rfl) pa_nil rfl) rfl)))) pa_nil rfl)))) (@pss_one _ _ _ (@ps_ret _ _ _ _ pe_bl)) pss_nil)))))) (@pss_one _ _ _ (@ps_ret _ _ _ _ (pe_cmpR (op_eqE hu) (pv 14) (pv 4) (nomark _))))),?_⟩
 intro H1 lv lf lc x due e v ρ F kvs v0 v1 v2 v3 v5 v7 v8 v9 v10 X
 refine⟨_,rfl,lv,kvs,rfl,X.hv,fun hd hhd=>?_⟩
 have X2:=X.same (same_new hhd (.dK kvs))
 have hh:=upd_same (H:=H1) (a:=hd) (o:=.dK kvs)
 generalize upd H1 hd (.dK kvs)=H2 at X2 hh
 clear X
 refine⟨2,rfl,by decide,by decide,for_range (n:=2) (fun i σ H5=>∃v7 v9 v15,σ=[v0,v1,v2,v3,some (.ref lv),v5,some (.ref lf),v7,v8,v9,v10,some x,some (.ref lc),some due,some (.ref hd),v15]∧Same H2 H5) ⟨_,_,_,rfl,Same.refl _⟩ ?_ ?_⟩
 ·rintro i σ H5 hi ⟨v7,v9,v15,rfl,s5⟩
  have X5:=X2.same s5
  refine⟨(by show 0≤sizeLine;decide),fun lh hlh=>?_⟩
  have s6:=same_new hlh (.lst [])
  have X6:=X5.same s6
  have gl:=upd_same (H:=H5) (a:=lh) (o:=.lst [])
  have z6:Same H5 (zo (upd H5 lh (.lst [])) [lh]):=zo_of s6 fun b hb=>by rw [List.mem_singleton.mp hb];exact hlh
  have X6z:=X5.same z6
  have hh6:=z6 _ _ (s5 _ _ hh)
  generalize upd H5 lh (.lst [])=H6 at s6 X6 gl z6 X6z hh6
  refine⟨_,rfl,_,rfl,⟨_,X6.tb,rfl⟩,fun g cc ctv hg hgc hcc=>?_⟩
  refine⟨[.ref lh,.ref lf],.cons rfl (.cons rfl .nil),fun H7 e7 s7 n7 fz=>?_⟩
  have s67:=(same_lam hg hgc hcc).trans s7
  have X7:=X6z.same (zo_mono s67)
  have nd:([s.heap.objs.size+4,s.heap.objs.size+3]:List Nat).Nodup:=by simp
  have nlg:g≠lh:=fun z=>by rw [z,gl] at hg;cases hg
  refine⟨x,hd,g,lh,e,ρ,4,_,ansC F,[],[],v,rfl,X7.ex,X7.ht,⟨kvs,zo_mono s67 _ _ hh6,X7.len,X7.env⟩,by decide,by rw [zo_ne (by simpa using nlg)];exact s7 _ _ upd_same,orc_ok GT bT kT mT nd X6z.fns X6z.fok hg hgc hcc gl s7 n7 fz,⟨[],s67 _ _ gl,.nil⟩,by have:=X7.few;simp only [List.length_nil];omega,X7.hev,fun H8 u ls2 s8 h8 f8 u8=>?_⟩
  have nla:lh∉[s.heap.objs.size+4,s.heap.objs.size+3]:=lam_no hg hgc hcc gl n7
  have fa:=(froz_on nla fz s8).all
  have z9:Same H5 (zo (dropC [s.heap.objs.size+4,s.heap.objs.size+3] H8) [lh]):=z6.trans (clo_same hg hgc hcc s7 n7 s8)
  have h9:HdAt (dropC [s.heap.objs.size+4,s.heap.objs.size+3] H8) lh ([]++ls2) ([]++trc (ansC F) ρ e):=h8.drop fa
  have u9:VAt (zo (dropC [s.heap.objs.size+4,s.heap.objs.size+3] H8) [lh]) u v:=u8.tups fun p xs e=>zo_dk fa (fun _ _=>nofun) e
  rw [List.nil_append,List.nil_append] at h9
  show gName 15 u _ (dropC [s.heap.objs.size+4,s.heap.objs.size+3] H8) _
  generalize dropC [s.heap.objs.size+4,s.heap.objs.size+3] H8=H9 at z9 h9 u9
  have s59:=z9.trans zo_same
  have X9:=X5.same s59
  refine⟨_,rfl,_,rfl,u,due,v,rfl,u9.same zo_same,X9.due,X9.vht,fun H10 s10=>⟨true,rfl,iteF ?_⟩⟩
  have h10:=h9.same s10
  have X10:=X9.same s10
  obtain⟨lsc,hc10⟩:=X10.cs
  refine⟨_,rfl,_,rfl,callsD (trc (ansC F) ρ e),callsD (trc (ansC F) ρ e),hd_dat h10,hd_dat hc10,calls_shaped X10.tro,calls_shaped X10.tro,?_⟩
  rw [calls_refl X10.tro]
  refine⟨_,rfl,iteF ?_⟩
  obtain⟨xs,hx1,hx2⟩:=id h10
  have hxl:=hx2.len
  have hfew:=X10.few
  refine⟨_,rfl,lh,rfl,⟨_,SqL.of hx1⟩,comp_fTL (p:=lh) (xs:=xs) (by omega) (fun i ys H11=>Same H10 H11∧ys=(List.replicate i true).map V.bl) ⟨Same.refl _,rfl⟩ ?_ ?_ ?_ ?_⟩
  ·rintro i ys H11 ⟨s11,_⟩
   exact SqL.of (s11 _ _ hx1)
  ·rintro i ys H11 ⟨_,rfl⟩
   rw [List.length_map,List.length_replicate]
   exact Nat.le_refl _
  ·rintro i y ys H11 N hN hy ⟨s11,rfl⟩
   obtain⟨l,cl,a,us,rfl,e1,e2,_⟩:=hx2.get hy
   refine⟨rfl,tYes_go ⟨_,rfl,a,_,_,_,rfl,rfl,SqT.of (s11 _ _ (zo_same _ _ e1)),at2,l,us,rfl,s11 _ _ (zo_same _ _ e2),hN _ _ ⟨s11,?_⟩⟩⟩
   rw [List.replicate_succ',List.map_append]
   rfl
  ·rintro ys H11 D ⟨s11,rfl⟩ hD
   have s12:=s11.trans (same_new hD (.lst ((List.replicate xs.length true).map V.bl)))
   refine⟨D,List.replicate _ true,rfl,SqL.of upd_same,?_⟩
   rw [all_true]
   exact⟨true,rfl,iteF ⟨_,_,_,rfl,s5.trans (s59.trans (s10.trans s12))⟩⟩
 ·rintro σ H5 ⟨v7,v9,v15,rfl,s5⟩
  have X5:=X2.same s5
  exact⟨_,rfl,_,rfl,hd,lv,kvs,rfl,rfl,s5 _ _ hh,X5.hv,X5.pl,q _⟩
end
end K72
namespace K72
open PySem L2 Kk
theorem zo_put2{H:Hp}{S:List Addr}{l:Addr}{o:HO}(n:l∉S):zo (L2.upd H l o) S=L2.upd (zo H S) l o:=by
 funext b
 by_cases hb:b∈S
 ·rw [zo_at hb,upd_ne (fun e=>n (by rw [←e];exact hb)),zo_at hb]
 ·rw [zo_ne hb]
  by_cases e2:b=l
  ·subst e2
   rw [upd_same,upd_same]
  ·rw [upd_ne e2,upd_ne e2,zo_ne hb]
theorem sqt_o{K:PySem.W.Frag}{H:Hp}{l a:Addr}{u:HO}{xs:List V}{o:HO}(h:H l=some u)(n1:∀ys,u≠.tup ys)(n2:∀b ys,u≠.frz b (.tup ys))(t:SqT K H a xs):SqT K (upd H l o) a xs:=by
 rcases t with (t|⟨b,t⟩)|t
 ·exact .inl (.inl (by rw [upd_ne (fun e=>by rw [e,h] at t;exact n1 _ (Option.some.inj t))];exact t))
 ·exact .inl (.inr ⟨b,by rw [upd_ne (fun e=>by rw [e,h] at t;exact n2 _ _ (Option.some.inj t))];exact t⟩)
 ·exact .inr t
theorem sql_o{K:PySem.W.Frag}{H:Hp}{l a:Addr}{u:HO}{xs:List V}{o:HO}(h:H l=some u)(n1:∀ys,u≠.lst ys)(n2:∀b ys,u≠.frz b (.lst ys))(t:SqL K H a xs):SqL K (upd H l o) a xs:=by
 rcases t with (t|⟨b,t⟩)|t
 ·exact .inl (.inl (by rw [upd_ne (fun e=>by rw [e,h] at t;exact n1 _ (Option.some.inj t))];exact t))
 ·exact .inl (.inr ⟨b,by rw [upd_ne (fun e=>by rw [e,h] at t;exact n2 _ _ (Option.some.inj t))];exact t⟩)
 ·exact .inr t
def IsD(u:HO):Prop:=(∃kvs,u=.dK kvs)∨∃kvs,u=.dT kvs
theorem IsD.n1{u:HO}(h:IsD u):∀ys,u≠.tup ys:=by rcases h with ⟨_,rfl⟩|⟨_,rfl⟩<;>exact fun _=>nofun
theorem IsD.n2{u:HO}(h:IsD u):∀b ys,u≠.frz b (.tup ys):=by rcases h with ⟨_,rfl⟩|⟨_,rfl⟩<;>exact fun _ _=>nofun
theorem IsD.n3{u:HO}(h:IsD u):∀ys,u≠.lst ys:=by rcases h with ⟨_,rfl⟩|⟨_,rfl⟩<;>exact fun _=>nofun
theorem IsD.n4{u:HO}(h:IsD u):∀b ys,u≠.frz b (.lst ys):=by rcases h with ⟨_,rfl⟩|⟨_,rfl⟩<;>exact fun _ _=>nofun
theorem kd_putD{K:PySem.W.Frag}{W:Hp}{l:Addr}{u o:HO}(h:W l=some u)(d:IsD u){x:V}{k:Kd}(t:KdAt K W x k):KdAt K (upd W l o) x k:=kd_keep (fun _ _ t=>sqt_o h d.n1 d.n2 t) t
theorem VAt.putD{W:Hp}{l:Addr}{u o:HO}(h:W l=some u)(d:IsD u){x:V}{v:Vl}(t:VAt W x v):VAt (L2.upd W l o) x v:=t.tups fun p xs e=>by rw [upd_ne (fun z=>by rw [z,h] at e;exact d.n1 _ (Option.some.inj e))];exact e
structure St3(K:PySem.W.Frag)(H:Hp)(ls lb pp pk:Addr):Prop where
 st:StAt K H ls
 ne:ls≠lb
 box:H lb=some (.dK (boxB pp pk))
theorem St3.there{K:PySem.W.Frag}{H:Hp}{ls lb pp pk:Addr}(h:St3 K H ls lb pp pk):∀b∈[ls,lb],H b≠none:=fun b hb=>by
 rcases List.mem_cons.mp hb with rfl|hb
 ·exact h.st.ne _ (by simp)
 ·obtain rfl:b=lb:=by simpa using hb
  rw [h.box]
  nofun
theorem St3.draw{K:PySem.W.Frag}{H H':Hp}{ls lb pp pk:Addr}(h:St3 K H ls lb pp pk)(s:StAt K H' ls)(z:Same (zo H [ls]) (zo H' [ls])):St3 K H' ls lb pp pk∧Same (zo H [ls,lb]) (zo H' [ls,lb]):=by
 refine⟨⟨s,h.ne,?_⟩,zo_sub (fun b hb=>by simp at hb;simp [hb]) z⟩
 have:=z lb _ (by rw [zo_ne (by simpa using Ne.symm h.ne)];exact h.box)
 rwa [zo_ne (by simpa using Ne.symm h.ne)] at this
theorem St3.nw{K:PySem.W.Frag}{H:Hp}{ls lb pp pk p:Addr}(h:St3 K H ls lb pp pk)(hp:H p=none)(o:HO):St3 K (upd H p o) ls lb pp pk∧Same (zo H [ls,lb]) (zo (upd H p o) [ls,lb])∧zo (upd H p o) [ls,lb] p=some o:=⟨⟨h.st.same (same_new hp o),h.ne,same_new hp o _ _ h.box⟩,zo_mono (same_new hp o),zo_nw hp h.there⟩
theorem St3.put{K:PySem.W.Frag}{H:Hp}{ls lb pp pk l:Addr}{u o:HO}(h:St3 K H ls lb pp pk)(hl:zo H [ls,lb] l=some u)(d:IsD u):St3 K (upd H l o) ls lb pp pk∧zo (upd H l o) [ls,lb]=upd (zo H [ls,lb]) l o:=by
 have nl:l∉[ls,lb]:=fun z=>by rw [zo_at z] at hl;cases hl
 have hl':=hl
 rw [zo_ne nl] at hl'
 have n1:l≠ls:=fun z=>nl (by simp [z])
 have n2:l≠lb:=fun z=>nl (by simp [z])
 refine⟨⟨?_,h.ne,by rw [upd_ne (Ne.symm n2)];exact h.box⟩,zo_put2 nl⟩
 obtain⟨p,ns,k,d',e1,e2,e3⟩:=h.st
 refine⟨p,ns,k,d',by rw [upd_ne (Ne.symm n1)];exact e1,?_,e3⟩
 rw [zo_put n1]
 exact sql_o (by rw [zo_ne (by simpa using n1)];exact hl') d.n3 d.n4 e2
theorem val_key{α:Type}[DecidableEq α]{kvs:List (α × V)}{k:α}{u:V}(h:valV kvs k=some u):∃kv∈kvs,kv.1=k:=by
 refine Classical.byContradiction fun n=>?_
 have:valV kvs k=none:=by
  unfold valV
  cases e:kvs.find? fun p:α × V=>decide (p.1=k) with
  |none=>rfl
  |some p =>
   exact absurd ⟨p,List.mem_of_find?_eq_some e,of_decide_eq_true (List.find?_some (p:=fun p:α × V=>decide (p.1=k)) e)⟩ n
 rw [this] at h
 cases h
def NamesOk(kvf:List (List Key × V)):Prop:=∀kv∈kvf,∃q t:Str,kv.1=[.inr q,.inr t]∧PyData.strOk q=true∧PyData.strOk t=true
theorem tr_ok{K:PySem.W.Frag}{W:Hp}{kvf:List (List Key × V)}{F:FT}{G:GT}{ρ:Str→Option Vl}{e:Ex}{k:Kd}(ht:TabAt K W kvf F)(hn:NamesOk kvf)(hok:FtOk F)(hr:EnvOk G ρ)(hty:Ty F G e k):TrOk (trc (ansC F) ρ e):=fun c hc=>by
 obtain⟨ks,k',e1,e2⟩:=trc_ok (ansC_ok hok) hr hty c hc
 rcases ht c.1 c.2.1 with ⟨z,_⟩|⟨us,k2,u,_,e3,_⟩
 ·rw [e1] at z;cases z
 ·obtain⟨kv,h1,h2⟩:=val_key e3
  obtain⟨q,t,h3,oq,ot⟩:=hn kv h1
  rw [h2] at h3
  have h4:c.1=q:=Sum.inr.inj (List.cons.inj h3).1
  have h5:c.2.1=t:=Sum.inr.inj (List.cons.inj (List.cons.inj h3).2).1
  refine⟨by rw [h4];exact oq,by rw [h5];exact ot,fun v hv=>?_⟩
  obtain⟨k3,m1,m2⟩:=vls_get e2 v hv
  have:=(of_ht m2).1
  have:=((hok _ _ _ _ e1).2.2 k3 m1).2
  omega
structure Fy(K:PySem.W.Frag)(W:Hp)(T pp pk ld lv lf:Addr)(ks:List Kd)(G:GT)(ρ:Str→Option Vl)(F:FT)(kvs:List (Key × V))(kvf:List (List Key × V)):Prop where
 tb:W T=some (.tbl tabL)
 pool:PoolAt W pp
 kinds:KsAt K W pk ks
 sc:ScAt K W ld G 4
 hv:W lv=some (.dK kvs)
 len:kvs.length≤4
 env:∀y z,ρ y=some z→∃u,valV kvs (.inr y)=some u∧VAt W u z
 pl:∀p∈kvs,plainE p.2=true
 eok:EnvOk G ρ
 hf:W lf=some (.dT kvf)
 tab:TabAt K W kvf F
 few:kvf.length≤5
 nms:NamesOk kvf
 fok:FtOk F
theorem dput_e{pp pk pf:Addr}:putK (boxB pp pk) (.inr "funs") (.ref pf)=boxK pp pk pf 40:=rfl
section
variable{P:Program}{w:World}{K:PySem.W.Frag}{mg:Str→Option Value}{base:Heap}
set_option maxHeartbeats 0 in
theorem lw7{f c T fZ fA fT fD fS fM fV:Addr}{fdZ fdA fdT fdD fdS fdM fdV:FuncData}{A:Around}{outer:List Env}{s:Shared}{H:Hp}{Q:VK}{E:XK}(C0:PySem.W.CodeHd base c T) (mr:mg "range"=none) (md:mg "dict"=none) (ma:mg "all"=none) (mis:mg "isinstance"=none) (mli:mg "list"=none) (mi:mg "int"=none)
  (GZ:FnOk P w K mg base CX0 35 fZ fdZ ["expression","variables","call"] (spValue P w K mg base 15 17)) (bZ:Binds K fdZ ["expression","variables","call"] []) (kZ:PySem.W.keepIn K (.ref fZ)=true) (mZ:mg "value_of"=some (.ref fZ))
  (GA:FnOk P w K mg base CX0 4 fA fdA ["_law_found","_law_due"] (spAlike 3)) (bA:Binds K fdA ["_law_found","_law_due"] []) (kA:PySem.W.keepIn K (.ref fA)=true) (mA:mg "_law_alike"=some (.ref fA))
  (GT:FnOk P w K mg base CX0 14 fT fdT ["_law_heard","_law_funs","_law_q","_law_f","_law_values"] (spNoted K)) (bT:Binds K fdT ["_law_heard","_law_funs","_law_q","_law_f","_law_values"] []) (kT:PySem.W.keepIn K (.ref fT)=true) (mT:mg "_law_noted"=some (.ref fT))
  (GD:FnOk P w K mg base CX0 1 fD fdD ["_law_state","_law_many"] (spDraw K)) (bD:Binds K fdD ["_law_state","_law_many"] []) (kD:PySem.W.keepIn K (.ref fD)=true) (mD:mg "_law_draw"=some (.ref fD))
  (GS:FnOk P w K mg base CX0 2 fS fdS ["_law_state","_law_pool"] (spSome K)) (bS:Binds K fdS ["_law_state","_law_pool"] []) (kS:PySem.W.keepIn K (.ref fS)=true) (mS:mg "_law_some"=some (.ref fS))
  (GM:FnOk P w K mg base CX0 44 fM fdM ["_law_state","_law_box","_law_kind","_law_scope","_law_deep"] (spMade K 12)) (bM:Binds K fdM ["_law_state","_law_box","_law_kind","_law_scope","_law_deep"] []) (kM:PySem.W.keepIn K (.ref fM)=true) (mM:mg "_law_made"=some (.ref fM))
  (GV:FnOk P w K mg base CX0 32 fV fdV ["_law_one","_law_held","_law_funs","_law_calls"] (spValL K 17)) (bV:Binds K fdV ["_law_one","_law_held","_law_funs","_law_calls"] []) (kV:PySem.W.keepIn K (.ref fV)=true) (mV:mg "_law_value"=some (.ref fV))
  (hrL:Room 44 (A.deeper (PyProof.Rows.envOfC "law" (defScope sLaw) s.heap.objs.size f (.ref c)))) (q:∀H',Q (.bl true) H') :
  ∃t,PSs (cxOf CX0 P w K mg base laN "law" (defScope sLaw) f (.ref c) A outer s H E).nox (List.drop 7 (defBody sLaw)) t ∧
   ∀(H1:Hp) (ls lb pp pk ld lv lf:Addr) (ks:List Kd) (G:K72.GT) (ρ:Str→Option Vl) (F:FT) (kvs:List (Key × V)) (kvf:List (List Key × V)) (v0 v5 v7 v8 v9:Option V),St3 K H1 ls lb pp pk→Fy K (zo H1 [ls,lb]) T pp pk ld lv lf ks G ρ F kvs kvf →
    t { nx:=fun _ H'=>Q .non H',rt:=Q } [v0,some (.ref ls),some (.ref lb),some (.ref ld),some (.ref lv),v5,some (.ref lf),v7,v8,v9,none,none,none,none,none,none] H1:=by
 have hu:=hu_of hrL
 have hrD:Room 1 _:=hrL.mono (by decide)
 have hrS:Room 2 _:=hrL.mono (by decide)
 have hrM:Room 44 _:=hrL
 have hrV:Room 32 _:=hrL.mono (by decide)
 obtain⟨t12,d12,k12⟩:=lw12 (f:=f) (c:=c) (outer:=outer) (H:=H) (E:=E) C0 mr md ma mis mli GZ bZ kZ mZ GA bA kA mA GT bT kT mT hrL q
 refine⟨_,@pss_cons _ _ _ _ _ (ps_dput hu (pv 2) pe_str (pv 6) rfl) (@pss_cons _ _ _ _ _ (ps_set (i:=10) scLaw.nd rfl (Or.inl rfl) (pe_ix ix_list (pe_lst (@pa_cons _ _ _ _ _ (pe_op op_add pe_int (pe_call GD hrD rfl mD kD bD .nil pass0 (@pa_cons _ _ _ _ _ (pv 1) (@pa_cons _ _ _ _ _ pe_int pa_nil rfl) rfl))) (@pa_cons _ _ _ _ _ pe_int pa_nil rfl) rfl)) (pe_callTy call_int1 rfl mi bootInt (@pa_cons _ _ _ _ _ (pe_cmpR op_eq (pe_call GD hrD rfl mD kD bD .nil pass0 (@pa_cons _ _ _ _ _ (pv 1) (@pa_cons _ _ _ _ _ pe_int pa_nil rfl) rfl)) pe_int (nomark _)) pa_nil rfl)) (fun _ _=>rfl))) (@pss_cons _ _ _ _ _ (ps_set (i:=11) scLaw.nd rfl (Or.inl rfl) (pe_call GM hrM rfl mM kM bM .nil pass0 (@pa_cons _ _ _ _ _ (pv 1) (@pa_cons _ _ _ _ _ (pv 2) (@pa_cons _ _ _ _ _ (pe_call GS hrS rfl mS kS bS .nil pass0 (@pa_cons _ _ _ _ _ (pv 1) (@pa_cons _ _ _ _ _ (pe_dget hu (pv 2) pe_str (fun _ _=>rfl)) pa_nil rfl) rfl)) (@pa_cons _ _ _ _ _ (pv 3) (@pa_cons _ _ _ _ _ (pv 10) pa_nil rfl) rfl) rfl) rfl) rfl))) (@pss_cons _ _ _ _ _ (ps_set (i:=12) scLaw.nd rfl (Or.inl rfl) (pe_lst pa_nil)) (@pss_cons _ _ _ _ _ (ps_set (i:=13) scLaw.nd rfl (Or.inl rfl) (pe_call GV hrV rfl mV kV bV .nil pass0 (@pa_cons _ _ _ _ _ (pv 11) (@pa_cons _ _ _ _ _ (pv 4) (@pa_cons _ _ _ _ _ (pv 6) (@pa_cons _ _ _ _ _ (pv 12) pa_nil rfl) rfl) rfl) rfl))) d12)))),?_⟩
 intro H1 ls lb pp pk ld lv lf ks G ρ F kvs kvf v0 v5 v7 v8 v9 hst X
 refine⟨_,rfl,_,rfl,lb,_,rfl,DPut.k (k:=Sum.inr "funs") hst.box (small1000 (by show 3≤1000;decide)),?_⟩
 rw [dput_e]
 have st2:St2 K (upd H1 lb (.dK (boxK pp pk lf 40))) ls lb pp pk lf 40:=by
  obtain⟨p,ns,k,d',e1,e2,e3⟩:=hst.st
  refine⟨⟨p,ns,k,d',by rw [upd_ne hst.ne];exact e1,?_,e3⟩,hst.ne,upd_same⟩
  rw [zo_put (Ne.symm hst.ne)]
  exact sql_o (u:=.dK (boxB pp pk)) (by rw [zo_ne (by simpa using Ne.symm hst.ne)];exact hst.box) (fun _=>nofun) (fun _ _=>nofun) e2
 have ez:zo (upd H1 lb (.dK (boxK pp pk lf 40))) [ls,lb]=zo H1 [ls,lb]:=zo_upd (by simp)
 rw [←ez] at X
 generalize upd H1 lb (.dK (boxK pp pk lf 40))=H2 at st2 X
 obtain⟨kh,kl,kn,kg⟩:=X.kinds
 have hbox:Box K (zo H2 [ls,lb]) pp pk lf F ks:=⟨X.pool,kh,⟨kvf,X.hf,X.tab,X.few,X.nms⟩,kl,kn,kg,X.fok⟩
 obtain⟨kx,hk1,hk2⟩:=kh
 have hkl:kx.length=6:=(pair_len hk2).trans kl
 refine⟨_,rfl,ls,4,rfl,st2.st,by decide,by decide,fun H3 r t3 y3 r0 r1=>?_⟩
 obtain⟨s3,z3⟩:=st2.draw t3 y3
 refine⟨_,_,rfl,rfl,(by show 2≤sizeLine;decide),fun l hl=>?_⟩
 obtain⟨s4,z4,g4⟩:=s3.nw hl (.lst [.int (2+r),.int 12])
 refine⟨_,rfl,ls,8,rfl,s4.st,by decide,by decide,fun H5 r' t5 y5 _ _=>?_⟩
 obtain⟨s5,z5⟩:=s4.draw t5 y5
 obtain⟨dp,hdp,hdl⟩:∃dp:Int,atI [V.int (2+r),V.int 12] (if decide (V.int r'=V.int 1) then 1 else 0)=some (.int dp)∧dp≤12:=by
  split
  ·exact⟨12,at1,Int.le_refl _⟩
  ·exact⟨2+r,at0,by omega⟩
 refine⟨rfl,.inr ⟨_,rfl,l,_,_,_,rfl,rfl,SqL.of (zo_same _ _ (z5 _ _ g4)),hdp,?_⟩⟩
 have z25:=z3.trans (z4.trans z5)
 have g:=DGet.k (k:=Sum.inr "kinds") s5.box
 rw [box_kinds] at g
 refine⟨_,rfl,_,rfl,_,rfl,_,rfl,lb,_,rfl,g,ls,pk,kx,rfl,s5.st,SqL.of (zo1 _ _ (z25 _ _ hk1)),by omega,by omega,fun H6 j y t6 y6 hy=>?_⟩
 obtain⟨s6,z6⟩:=s5.draw t6 y6
 have z26:=z25.trans z6
 obtain⟨k,hk,hky⟩:=pair_get hk2 hy
 obtain⟨e1,e2⟩:=kg _ (List.mem_of_getElem? hk)
 refine⟨_,rfl,_,rfl,ls,lb,pp,pk,lf,ld,y,k,F,ks,G,4,40,dp,rfl,s6,hbox.same z26,hky.same z26,e1,by omega,X.sc.same z26,by decide,hdl,fun H7 x e room' s7 z7 hx hty hht hnc=>?_⟩
 have z27:=z26.trans z7
 refine⟨(by show 0≤sizeLine;decide),fun lc hlc=>?_⟩
 obtain⟨s8,z8,g8⟩:=s7.nw hlc (.lst [])
 have z28:=z27.trans z8
 have zc:Same (zo H7 [ls,lb]) (zo (upd H7 lc (.lst [])) [lc]):=zo_same.trans (zo_of (same_new hlc _) fun b hb=>by rw [List.mem_singleton.mp hb];exact hlc)
 have z2c:=z27.trans zc
 have hcs:HdE (upd H7 lc (.lst [])) lc []:=⟨[],[],upd_same,.nil⟩
 have hle:=trc_nc (C:=ansC F) ρ e
 have h40:(40:Int).toNat=40:=rfl
 generalize upd H7 lc (.lst [])=H8 at zc z2c hcs
 refine⟨_,rfl,_,rfl,_,rfl,_,rfl,x,lv,lf,lc,e,ρ,4,F,G,k,[],rfl,hx.same zc,by omega,⟨kvs,z2c _ _ X.hv,X.len,fun y z e=>let ⟨u,a,b⟩:=X.env y z e;⟨u,a,b.same z2c⟩⟩,by decide,⟨kvf,z2c _ _ X.hf,X.tab.same z2c⟩,X.fok,X.eok,hty,hcs,by simp only [List.length_nil];omega,fun H9 u v s9 hh hev hvl hu=>?_⟩
 have z29:=(z2c.trans s9).trans zo_same
 have hvh:=(of_ht hvl).1
 exact k12 H9 lv lf lc x u e v ρ F kvs _ _ _ _ _ _ _ _ _ ⟨z29 _ _ X.tb,((hx.same zc).same s9).same zo_same,by omega,z29 _ _ X.hv,X.len,fun y z e=>let ⟨u,a,b⟩:=X.env y z e;⟨u,a,b.same z29⟩,X.pl,⟨kvf,z29 _ _ X.hf,X.tab.same z29⟩,X.fok,by rw [List.nil_append] at hh;exact hh,by omega,tr_ok X.tab X.nms X.fok X.eok hty,hev,hu.same zo_same,by omega⟩
end
end K72
namespace K72
open PySem L2 Kk
theorem ToldAt.put{K:PySem.W.Frag}{W:Hp}{l:Addr}{u0 o:HO}(h:W l=some u0)(d:IsD u0){u:V}{us:List Kd}{k:Kd}(t:ToldAt K W u us k):ToldAt K (L2.upd W l o) u us k:=by
 obtain⟨p,tk,vs,x,rfl,h1,h2,h3,h4⟩:=t
 exact⟨p,tk,vs,x,rfl,by rw [upd_ne (fun e=>by rw [e,h] at h1;exact d.n1 _ (Option.some.inj h1))];exact h1,by rw [upd_ne (fun e=>by rw [e,h] at h2;exact d.n3 _ (Option.some.inj h2))];exact h2,Paired.mapP h3 fun _ _ z=>kd_putD h d z,kd_putD h d h4⟩
def fput(F:FT)(q t:Str)(us:List Kd)(k:Kd):FT:=fun q' t'=>if q'=q∧t'=t then some (us,k) else F q' t'
theorem TabAt.put{K:PySem.W.Frag}{W:Hp}{l:Addr}{u0 o:HO}(h:W l=some u0)(d:IsD u0){kvf:List (List Key × V)}{F:FT}{q t:Str}{us:List Kd}{k:Kd}{u:V}(ht:TabAt K W kvf F)(hu:ToldAt K W u us k):TabAt K (L2.upd W l o) (putK kvf [.inr q,.inr t] u) (fput F q t us k):=fun q' t'=>by
 rw [valV_put]
 by_cases e:q'=q∧t'=t
 ·obtain⟨rfl,rfl⟩:=e
  rw [if_pos rfl]
  exact .inr ⟨us,k,u,if_pos ⟨rfl,rfl⟩,rfl,hu.put h d⟩
 ·rw [if_neg (fun z=>e ⟨Sum.inr.inj (List.cons.inj z).1,Sum.inr.inj (List.cons.inj (List.cons.inj z).2).1⟩)]
  rcases ht q' t' with ⟨e1,e2⟩|⟨us',k',u',e1,e2,e3⟩
  ·exact .inl ⟨(if_neg e).trans e1,e2⟩
  ·exact .inr ⟨us',k',u',(if_neg e).trans e1,e2,e3.put h d⟩
theorem mem_putG{α:Type}[DecidableEq α]{kvs:List (α × V)}{k:α}{v:V}{p:α × V}(h:p∈putK kvs k v):p.1=k∨p∈kvs:=by
 unfold putK at h
 split at h
 ·obtain⟨q,hq,e⟩:=List.mem_map.mp h
  split at e
  ·rename_i hk
   rw [←e]
   first|exact .inl hk|exact .inl rfl|exact .inl (of_decide_eq_true hk)
  ·rw [←e];exact .inr hq
 ·rcases List.mem_append.mp h with z|z
  ·exact .inr z
  ·rw [List.mem_singleton.mp z];exact .inl rfl
theorem NamesOk.put{kvf:List (List Key × V)}{q t:Str}{u:V}(h:NamesOk kvf)(oq:PyData.strOk q=true)(ot:PyData.strOk t=true):NamesOk (putK kvf [.inr q,.inr t] u):=fun kv hkv=>by
 rcases mem_putG hkv with e|z
 ·exact⟨q,t,e,oq,ot⟩
 ·exact h kv z
theorem FtOk.put{F:FT}{q t:Str}{us:List Kd}{k:Kd}(h:FtOk F)(hk:Gd k∧Kd.depth k≤2)(hl:us.length≤4)(hu:∀k'∈us,Gd k'∧Kd.depth k'≤2):FtOk (fput F q t us k):=fun q' t' ks k2 e=>by
 unfold fput at e
 split at e
 ·cases e
  exact⟨hk,hl,hu⟩
 ·exact h _ _ _ _ e
theorem St3.gp{K:PySem.W.Frag}{H:Hp}{ls lb pp pk:Addr}(h:St3 K H ls lb pp pk):DGet H lb (.str "pool") (some (.ref pp)):=DGet.k (k:=Sum.inr "pool") h.box
theorem St3.gk{K:PySem.W.Frag}{H:Hp}{ls lb pp pk:Addr}(h:St3 K H ls lb pp pk):DGet H lb (.str "kinds") (some (.ref pk)):=DGet.k (k:=Sum.inr "kinds") h.box
structure Fz(K:PySem.W.Frag)(W:Hp)(T pp pk ld lv:Addr)(ks:List Kd)(G:GT)(ρ:Str→Option Vl)(kvs:List (Key × V)):Prop where
 tb:W T=some (.tbl tabL)
 pool:PoolAt W pp
 kinds:KsAt K W pk ks
 sc:ScAt K W ld G 4
 hv:W lv=some (.dK kvs)
 len:kvs.length≤4
 env:∀y z,ρ y=some z→∃u,valV kvs (.inr y)=some u∧VAt W u z
 pl:∀p∈kvs,plainE p.2=true
 eok:EnvOk G ρ
theorem PoolAt.same{W W':Hp}{pp:Addr}(h:PoolAt W pp)(s:Same W W'):PoolAt W' pp:=by
 obtain⟨xs,a,b⟩:=h
 exact⟨xs,s _ _ a,b⟩
theorem KsAt.same{K:PySem.W.Frag}{W W':Hp}{pk:Addr}{ks:List Kd}(h:KsAt K W pk ks)(s:Same W W'):KsAt K W' pk ks:=by
 obtain⟨⟨xs,a,b⟩,c⟩:=h
 exact⟨⟨xs,s _ _ a,Paired.mapP b fun _ _ z=>z.same s⟩,c⟩
section
variable{P:Program}{w:World}{K:PySem.W.Frag}{mg:Str→Option Value}{base:Heap}
set_option maxHeartbeats 0 in
theorem lw5{f c T fZ fA fT fD fS fM fV:Addr}{fdZ fdA fdT fdD fdS fdM fdV:FuncData}{A:Around}{outer:List Env}{s:Shared}{H:Hp}{Q:VK}{E:XK}(C0:PySem.W.CodeHd base c T) (mr:mg "range"=none) (md:mg "dict"=none) (ma:mg "all"=none) (mis:mg "isinstance"=none) (mli:mg "list"=none) (mi:mg "int"=none)
  (GZ:FnOk P w K mg base CX0 35 fZ fdZ ["expression","variables","call"] (spValue P w K mg base 15 17)) (bZ:Binds K fdZ ["expression","variables","call"] []) (kZ:PySem.W.keepIn K (.ref fZ)=true) (mZ:mg "value_of"=some (.ref fZ))
  (GA:FnOk P w K mg base CX0 4 fA fdA ["_law_found","_law_due"] (spAlike 3)) (bA:Binds K fdA ["_law_found","_law_due"] []) (kA:PySem.W.keepIn K (.ref fA)=true) (mA:mg "_law_alike"=some (.ref fA))
  (GT:FnOk P w K mg base CX0 14 fT fdT ["_law_heard","_law_funs","_law_q","_law_f","_law_values"] (spNoted K)) (bT:Binds K fdT ["_law_heard","_law_funs","_law_q","_law_f","_law_values"] []) (kT:PySem.W.keepIn K (.ref fT)=true) (mT:mg "_law_noted"=some (.ref fT))
  (GD:FnOk P w K mg base CX0 1 fD fdD ["_law_state","_law_many"] (spDraw K)) (bD:Binds K fdD ["_law_state","_law_many"] []) (kD:PySem.W.keepIn K (.ref fD)=true) (mD:mg "_law_draw"=some (.ref fD))
  (GS:FnOk P w K mg base CX0 2 fS fdS ["_law_state","_law_pool"] (spSome K)) (bS:Binds K fdS ["_law_state","_law_pool"] []) (kS:PySem.W.keepIn K (.ref fS)=true) (mS:mg "_law_some"=some (.ref fS))
  (GM:FnOk P w K mg base CX0 44 fM fdM ["_law_state","_law_box","_law_kind","_law_scope","_law_deep"] (spMade K 12)) (bM:Binds K fdM ["_law_state","_law_box","_law_kind","_law_scope","_law_deep"] []) (kM:PySem.W.keepIn K (.ref fM)=true) (mM:mg "_law_made"=some (.ref fM))
  (GV:FnOk P w K mg base CX0 32 fV fdV ["_law_one","_law_held","_law_funs","_law_calls"] (spValL K 17)) (bV:Binds K fdV ["_law_one","_law_held","_law_funs","_law_calls"] []) (kV:PySem.W.keepIn K (.ref fV)=true) (mV:mg "_law_value"=some (.ref fV))
  (hrL:Room 44 (A.deeper (PyProof.Rows.envOfC "law" (defScope sLaw) s.heap.objs.size f (.ref c)))) (q:∀H',Q (.bl true) H') :
  ∃t,PSs (cxOf CX0 P w K mg base laN "law" (defScope sLaw) f (.ref c) A outer s H E).nox (List.drop 5 (defBody sLaw)) t ∧
   ∀(H1:Hp) (ls lb pp pk ld lv:Addr) (ks:List Kd) (G:K72.GT) (ρ:Str→Option Vl) (kvs:List (Key × V)) (v0 v5:Option V),St3 K H1 ls lb pp pk→Fz K (zo H1 [ls,lb]) T pp pk ld lv ks G ρ kvs →
    t { nx:=fun _ H'=>Q .non H',rt:=Q } [v0,some (.ref ls),some (.ref lb),some (.ref ld),some (.ref lv),v5,none,none,none,none,none,none,none,none,none,none] H1:=by
 have hu:=hu_of hrL
 have hrD:Room 1 _:=hrL.mono (by decide)
 have hrS:Room 2 _:=hrL.mono (by decide)
 obtain⟨t7,d7,k7⟩:=lw7 (f:=f) (c:=c) (outer:=outer) (H:=H) (E:=E) C0 mr md ma mis mli mi GZ bZ kZ mZ GA bA kA mA GT bT kT mT GD bD kD mD GS bS kS mS GM bM kM mM GV bV kV mV hrL q
 refine⟨_,@pss_cons _ _ _ _ _ (ps_set (i:=6) scLaw.nd rfl (Or.inr rfl) pe_dnewT) (@pss_cons _ _ _ _ _ (ps_for PassesOwn.never rfl (pi_range1 rfl mr (@pa_cons _ _ _ _ _ (pe_call GD hrD rfl mD kD bD .nil pass0 (@pa_cons _ _ _ _ _ (pv 1) (@pa_cons _ _ _ _ _ pe_int pa_nil rfl) rfl)) pa_nil rfl)) (pg_name (i:=7) scLaw.nd rfl (Or.inl rfl)) (@pss_cons _ _ _ _ _ (ps_set (i:=8) scLaw.nd rfl (Or.inl rfl) (@pe_tup _ _ _ _ _ (@pa_cons _ _ _ _ _ (pe_call GS hrS rfl mS kS bS .nil pass0 (@pa_cons _ _ _ _ _ (pv 1) (@pa_cons _ _ _ _ _ (pe_op op_cat (pe_lst (@pa_cons _ _ _ _ _ pe_str (@pa_cons _ _ _ _ _ pe_str pa_nil rfl) rfl)) (pe_dget hu (pv 2) pe_str (fun _ _=>rfl))) pa_nil rfl) rfl)) (@pa_cons _ _ _ _ _ (pe_call GS hrS rfl mS kS bS .nil pass0 (@pa_cons _ _ _ _ _ (pv 1) (@pa_cons _ _ _ _ _ (pe_dget hu (pv 2) pe_str (fun _ _=>rfl)) pa_nil rfl) rfl)) pa_nil rfl) rfl))) (@pss_cons _ _ _ _ _ (ps_set (i:=9) scLaw.nd rfl (Or.inr rfl) (pe_comp (own:=["_law_j"]) (caps:=["_law_state","_law_box"]) (κ:=[1,2]) rfl ⟨rfl,by decide +kernel,by decide +kernel,rfl,rfl,(fun y hy=>by simp only [List.mem_cons,List.not_mem_nil,or_false] at hy;rcases hy with rfl|rfl<;>rfl),(fun y hy=>by simp only [List.mem_cons,List.not_mem_nil,or_false] at hy;rcases hy with rfl|rfl<;>exact⟨.inl rfl,rfl,.inl rfl⟩)⟩ rfl (pi_range1 rfl mr (@pa_cons _ _ _ _ _ (pe_call GD hrD rfl mD kD bD .nil pass0 (@pa_cons _ _ _ _ _ (pv 1) (@pa_cons _ _ _ _ _ pe_int pa_nil rfl) rfl)) pa_nil rfl)) (fun _ _ _ _=>(pg_name (i:=0) (show(["_law_j","_law_state","_law_box"]:List Str).Nodup from by decide +kernel) rfl (Or.inl rfl))) (fun _ _ _ _=>(pe_call GS hrS rfl mS kS bS .nil pass0 (@pa_cons _ _ _ _ _ (pv 1) (@pa_cons _ _ _ _ _ (pe_dget hu (pv 2) pe_str (fun _ _=>rfl)) pa_nil rfl) rfl))))) (@pss_one _ _ _ (ps_dput hu (pv 6) (pv 8) (@pe_tup _ _ _ _ _ (@pa_cons _ _ _ _ _ (pv 9) (@pa_cons _ _ _ _ _ (pe_call GS hrS rfl mS kS bS .nil pass0 (@pa_cons _ _ _ _ _ (pv 1) (@pa_cons _ _ _ _ _ (pe_dget hu (pv 2) pe_str (fun _ _=>rfl)) pa_nil rfl) rfl)) pa_nil rfl) rfl)) rfl))))) d7),?_⟩
 intro H1 ls lb pp pk ld lv ks G ρ kvs v0 v5 hst X
 refine fun lf hlf=>?_
 obtain⟨s2,z2,g2⟩:=hst.nw hlf (.dT [])
 refine⟨_,rfl,ls,6,rfl,s2.st,by decide,by decide,fun H3 r t3 y3 r0 r1=>?_⟩
 obtain⟨s3,z3⟩:=s2.draw t3 y3
 refine⟨_,rfl,by omega,by omega,for_range (n:=r.toNat) (fun i σ H5=>∃v7 v8 v9 F kvf,σ=[v0,some (.ref ls),some (.ref lb),some (.ref ld),some (.ref lv),v5,some (.ref lf),v7,v8,v9,none,none,none,none,none,none]∧St3 K H5 ls lb pp pk∧Same (zo H1 [ls,lb]) (zo H5 [ls,lb])∧zo H5 [ls,lb] lf=some (.dT kvf)∧TabAt K (zo H5 [ls,lb]) kvf F∧kvf.length≤i∧NamesOk kvf∧FtOk F)
  ⟨none,none,none,fun _ _=>none,[],rfl,s3,z2.trans z3,z3 _ _ g2,fun _ _=>.inl ⟨rfl,rfl⟩,Nat.le_refl _,fun _ h=>(nomatch h),fun _ _ _ _ h=>(nomatch h)⟩ ?_ ?_⟩
 ·rintro i σ H5 hi ⟨v7,v8,v9,F,kvf,rfl,s5,z5,g5,tab,hl,nm,fo⟩
  obtain⟨xp,p1,p2,p3,p4⟩:=X.pool.same z5
  obtain⟨⟨kx,k1,k2⟩,kl,kn,kg⟩:=X.kinds.same z5
  have hkl:kx.length=6:=(pair_len k2).trans kl
  refine⟨_,rfl,(by show 2≤sizeLine;decide),fun l1 hl1=>?_⟩
  obtain⟨s6,z6,g6⟩:=s5.nw hl1 (.lst [.str "",.str ""])
  refine⟨_,rfl,lb,_,rfl,s6.gp,l1,pp,_,_,rfl,rfl,zo_same _ _ g6,zo_same _ _ (z6 _ _ p1),Nat.le_of_lt (small1000 (by show 2+xp.length≤1000;omega)),fun l2 hl2=>?_⟩
  obtain⟨s7,z7,g7⟩:=s6.nw hl2 (.lst ([.str "",.str ""]++xp))
  refine⟨ls,l2,_,rfl,s7.st,SqL.of (zo1 _ _ g7),by rw [List.length_append];omega,by rw [List.length_append];show 2+xp.length≤100000;omega,fun H8 j y t8 y8 hy=>?_⟩
  obtain⟨qq,rfl,oq⟩:∃z:Str,y=.str z∧PyData.strOk z=true:=by
   rcases List.mem_append.mp (List.mem_of_getElem? hy) with z|z
   ·exact⟨"",by simpa using z,by decide +kernel⟩
   ·exact p4 y z
  obtain⟨s8,z8⟩:=s7.draw t8 y8
  have z58:=z6.trans (z7.trans z8)
  refine⟨_,rfl,_,rfl,lb,_,rfl,s8.gp,ls,pp,xp,rfl,s8.st,SqL.of (zo1 _ _ (z58 _ _ p1)),p2,by omega,fun H9 j' y' t9 y9 hy'=>?_⟩
  obtain⟨z',rfl,oz'⟩:=p4 y' (List.mem_of_getElem? hy')
  obtain⟨s9,z9⟩:=s8.draw t9 y9
  have z59:=z58.trans z9
  refine⟨(by show 2≤sizeLine;decide),fun n hn=>?_⟩
  obtain⟨sA,zA,gA⟩:=s9.nw hn (.tup [.str qq,.str z'])
  have z5A:=z59.trans zA
  refine⟨_,rfl,ls,5,rfl,sA.st,by decide,by decide,fun HB r2 tB yB a0 a1=>?_⟩
  obtain⟨sB,zB⟩:=sA.draw tB yB
  have z5B:=z5A.trans zB
  refine⟨_,rfl,by omega,by omega,comp_fr (m:=r2.toNat) (by omega) (fun j ys HC=>St3 K HC ls lb pp pk∧Same (zo HB [ls,lb]) (zo HC [ls,lb])∧ys.length=j∧∃us,Paired (KdAt K (zo HC [ls,lb])) ys us∧∀k∈us,Gd k∧Kd.depth k≤2) ⟨sB,Same.refl _,rfl,[],.nil,fun _ h=>nomatch h⟩ (fun _ _ _ h=>Nat.le_of_eq h.2.2.1) ?_ ?_⟩
  ·rintro j ys HC N hN hj ⟨sC,zC,hyl,us,hus,hug⟩
   have z5C:=z5B.trans zC
   refine⟨rfl,tYes_go ⟨_,rfl,_,rfl,lb,_,rfl,sC.gk,ls,pk,kx,rfl,sC.st,SqL.of (zo1 _ _ (z5C _ _ k1)),by omega,by omega,fun HD j2 yk tD yD hyk=>?_⟩⟩
   obtain⟨sD,zD⟩:=sC.draw tD yD
   obtain⟨k,hk,hky⟩:=pair_get k2 hyk
   refine hN _ _ ⟨sD,zC.trans zD,by rw [List.length_append,hyl];rfl,us++[k],pair_snoc (hky.same (z5C.trans zD)) (Paired.mapP hus fun _ _ z=>z.same zD),fun k' hk'=>?_⟩
   rcases List.mem_append.mp hk' with z|z
   ·exact hug k' z
   ·rw [List.mem_singleton.mp z]
    exact kg _ (List.mem_of_getElem? hk)
  ·rintro ys HC D ⟨sC,zC,hyl,us,hus,hug⟩ hD
   have hul:=pair_len hus
   obtain⟨sD,zD,gD⟩:=sC.nw hD (.lst ys)
   have z5D:=z5B.trans (zC.trans zD)
   refine⟨_,rfl,_,rfl,_,rfl,lb,_,rfl,sD.gk,ls,pk,kx,rfl,sD.st,SqL.of (zo1 _ _ (z5D _ _ k1)),by omega,by omega,fun HE j3 yk tE yE hyk=>?_⟩
   obtain⟨sE,zE⟩:=sD.draw tE yE
   obtain⟨k,hk,hky⟩:=pair_get k2 hyk
   refine⟨(by show 2≤sizeLine;decide),fun m hm=>?_⟩
   obtain⟨sF,zF,gF⟩:=sE.nw hm (.tup [.ref D,yk])
   have zDF:=zE.trans zF
   have z5F:=z5D.trans zDF
   have told:ToldAt K _ (.ref m) us k:=⟨m,D,ys,yk,rfl,gF,zDF _ _ gD,Paired.mapP hus fun _ _ z=>z.same (zD.trans zDF),hky.same z5F⟩
   have hlF:=z5F _ _ g5
   have hnF:=(zB.trans (zC.trans (zD.trans zDF))) _ _ gA
   refine⟨_,rfl,_,rfl,lf,_,rfl,DPut.t (k:=[Sum.inr qq,Sum.inr z']) (zo_same _ _ hlF) (zo_same _ _ hnF) (small1000 (by omega)),?_⟩
   obtain⟨sG,eG⟩:=sF.put (o:=.dT (putK kvf [Sum.inr qq,Sum.inr z'] (.ref m))) hlF (.inr ⟨_,rfl⟩)
   have hn1:zo H1 [ls,lb] lf=none:=by
    cases e:zo H1 [ls,lb] lf with
    |none=>rfl
    |some o=>rw [zo_same _ _ e] at hlf;cases hlf
   refine⟨_,_,_,_,_,rfl,sG,by rw [eG];exact sput (z5.trans z5F) hn1,by rw [eG];exact upd_same,by rw [eG];exact TabAt.put hlF (.inr ⟨_,rfl⟩) (tab.same z5F) told,Nat.le_trans (length_putK ..) (by omega),nm.put oq oz',fo.put (kg _ (List.mem_of_getElem? hk)) (by omega) hug⟩
 ·rintro σ H5 ⟨v7,v8,v9,F,kvf,rfl,s5,z5,g5,tab,hl,nm,fo⟩
  refine k7 H5 ls lb pp pk ld lv lf ks G ρ F kvs kvf v0 v5 v7 v8 v9 s5 ⟨z5 _ _ X.tb,X.pool.same z5,X.kinds.same z5,X.sc.same z5,z5 _ _ X.hv,X.len,fun y z e=>let ⟨u,a,b⟩:=X.env y z e;⟨u,a,b.same z5⟩,X.pl,X.eok,g5,tab,by omega,nm,fo⟩
end
end K72
namespace K72
open PySem L2 Kk
theorem cut_to(xs:List V)(k:Nat):cutV xs none (some (k:Int))=xs.take k:=by
 unfold cutV
 rw [HT.sIx_none,HT.sIx_nat,List.drop_zero,Nat.sub_zero]
 by_cases h:k≤xs.length
 ·rw [Nat.min_eq_left h]
 ·rw [Nat.min_eq_right (by omega),List.take_of_length_le (Nat.le_refl _),List.take_of_length_le (by omega)]
def ScI(K:PySem.W.Frag)(W:Hp)(kvs:List (Key × V))(G:GT):Prop:=(∀kv∈kvs,∃y:Str,kv.1=.inr y∧PyData.strOk y=true)∧∀y,(G y=none∧valV kvs (.inr y)=none)∨∃k u,G y=some k∧valV kvs (.inr y)=some u∧KdAt K W u k∧Gd k∧Kd.depth k≤2
theorem ScI.step{K:PySem.W.Frag}{W W':Hp}{kvs:List (Key × V)}{G:GT}(h:ScI K W kvs G)(s:∀x k,KdAt K W x k→KdAt K W' x k):ScI K W' kvs G:=⟨h.1,fun y=>by
 rcases h.2 y with z|⟨k,u,e1,e2,e3,e4,e5⟩
 ·exact .inl z
 ·exact .inr ⟨k,u,e1,e2,s _ _ e3,e4,e5⟩⟩
def gput(G:GT)(y:Str)(k:Kd):GT:=fun z=>if z=y then some k else G z
def rput(ρ:Str→Option Vl)(y:Str)(v:Vl):Str→Option Vl:=fun z=>if z=y then some v else ρ z
theorem ScI.put{K:PySem.W.Frag}{W:Hp}{kvs:List (Key × V)}{G:GT}{y:Str}{u:V}{k:Kd}(h:ScI K W kvs G)(oy:PyData.strOk y=true)(hu:KdAt K W u k)(hg:Gd k)(hd:Kd.depth k≤2):ScI K W (putK kvs (.inr y) u) (gput G y k):=by
 refine⟨fun kv hkv=>?_,fun z=>?_⟩
 ·rcases mem_putG hkv with e|z
  ·exact⟨y,e,oy⟩
  ·exact h.1 kv z
 ·rw [valV_put]
  unfold gput
  by_cases e:z=y
  ·subst e
   rw [if_pos rfl,if_pos rfl]
   exact .inr ⟨k,u,rfl,rfl,hu,hg,hd⟩
  ·rw [if_neg e,if_neg (fun w=>e (Sum.inr.inj w))]
   exact h.2 z
def EnI(W:Hp)(kvs:List (Key × V))(ρ:Str→Option Vl):Prop:=(∀y z,ρ y=some z→∃u,valV kvs (.inr y)=some u∧VAt W u z)∧∀p∈kvs,plainE p.2=true
theorem EnI.step{W W':Hp}{kvs:List (Key × V)}{ρ:Str→Option Vl}(h:EnI W kvs ρ)(s:∀x v,VAt W x v→VAt W' x v):EnI W' kvs ρ:=⟨fun y z e=>let ⟨u,a,b⟩:=h.1 y z e;⟨u,a,s _ _ b⟩,h.2⟩
theorem vat_plain{W:Hp}{x:V}{v:Vl}(h:VAt W x v):plainE x=true:=by cases h<;>rfl
theorem mem_putH{α:Type}[DecidableEq α]{kvs:List (α × V)}{k:α}{v:V}{p:α × V}(h:p∈putK kvs k v):p.2=v∨p∈kvs:=by
 unfold putK at h
 split at h
 ·obtain⟨q,hq,e⟩:=List.mem_map.mp h
  split at e
  ·rw [←e];exact .inl rfl
  ·rw [←e];exact .inr hq
 ·rcases List.mem_append.mp h with z|z
  ·exact .inr z
  ·rw [List.mem_singleton.mp z];exact .inl rfl
theorem EnI.put{W:Hp}{kvs:List (Key × V)}{ρ:Str→Option Vl}{y:Str}{u:V}{v:Vl}(h:EnI W kvs ρ)(hu:VAt W u v):EnI W (putK kvs (.inr y) u) (rput ρ y v):=by
 refine⟨fun z v' e=>?_,fun p hp=>?_⟩
 ·rw [valV_put]
  unfold rput at e
  by_cases ez:z=y
  ·subst ez
   rw [if_pos rfl] at e ⊢
   cases e
   exact⟨u,rfl,hu⟩
  ·rw [if_neg ez] at e
   rw [if_neg (fun w=>ez (Sum.inr.inj w))]
   exact h.1 z v' e
 ·rcases mem_putH hp with e|z
  ·rw [e];exact vat_plain hu
  ·exact h.2 p z
theorem zo1k{K:PySem.W.Frag}{H:Hp}{ls lb:Addr}{x:V}{k:Kd}(h:KdAt K (zo H [ls,lb]) x k):KdAt K (zo H [ls]) x k:=h.same zo1
theorem eok_put{G:GT}{ρ:Str→Option Vl}{y:Str}{k:Kd}{v:Vl}(h:EnvOk G ρ)(hv:VlOf k v):EnvOk (gput G y k) (rput ρ y v):=fun z k' e=>by
 unfold gput at e
 unfold rput
 by_cases ez:z=y
 ·rw [if_pos ez] at e ⊢
  cases e
  exact⟨v,rfl,hv⟩
 ·rw [if_neg ez] at e ⊢
  exact h z k' e
theorem nd_lb{H:Hp}{lb a:Addr}{kvs:List (Key × V)}{o:HO}{ls:Addr}(hb:H lb=some (.dK kvs))(h:zo H [ls] a=some o)(n:o≠.dK kvs):zo H [ls,lb] a=some o:=by
 have h':=zo_same _ _ h
 have n1:a≠ls:=fun e=>by rw [zo_at (by simp [e])] at h;cases h
 have n2:a≠lb:=fun e=>by rw [e,hb] at h';exact n (Option.some.inj h').symm
 rw [zo_ne (by simp [n1,n2])]
 exact h'
theorem kd_lb{K:PySem.W.Frag}{H:Hp}{lb ls:Addr}{kvs:List (Key × V)}(hb:H lb=some (.dK kvs)){x:V}{k:Kd}(h:KdAt K (zo H [ls]) x k):KdAt K (zo H [ls,lb]) x k:=kd_keep (fun a xs t=>by
 rcases t with (t|⟨b,t⟩)|t
 ·exact .inl (.inl (nd_lb hb t nofun))
 ·exact .inl (.inr ⟨b,nd_lb hb t nofun⟩)
 ·exact .inr t) h
section
variable{P:Program}{w:World}{K:PySem.W.Frag}{mg:Str→Option Value}{base:Heap}
set_option maxHeartbeats 0 in
theorem ok_law{f c T fZ fA fT fD fS fM fV:Addr}{fdZ fdA fdT fdD fdS fdM fdV:FuncData}{fB:Addr}{fdB fdW:FuncData}{fW:Addr}{fd:FuncData} (F:FunT K "law" "law" sLaw f fd c T) (X:K.In base) (mr:mg "range"=none) (md:mg "dict"=none) (ma:mg "all"=none) (mis:mg "isinstance"=none) (mli:mg "list"=none) (mi:mg "int"=none)
  (GZ:FnOk P w K mg base CX0 35 fZ fdZ ["expression","variables","call"] (spValue P w K mg base 15 17)) (bZ:Binds K fdZ ["expression","variables","call"] []) (kZ:PySem.W.keepIn K (.ref fZ)=true) (mZ:mg "value_of"=some (.ref fZ))
  (GA:FnOk P w K mg base CX0 4 fA fdA ["_law_found","_law_due"] (spAlike 3)) (bA:Binds K fdA ["_law_found","_law_due"] []) (kA:PySem.W.keepIn K (.ref fA)=true) (mA:mg "_law_alike"=some (.ref fA))
  (GT:FnOk P w K mg base CX0 14 fT fdT ["_law_heard","_law_funs","_law_q","_law_f","_law_values"] (spNoted K)) (bT:Binds K fdT ["_law_heard","_law_funs","_law_q","_law_f","_law_values"] []) (kT:PySem.W.keepIn K (.ref fT)=true) (mT:mg "_law_noted"=some (.ref fT))
  (GD:FnOk P w K mg base CX0 1 fD fdD ["_law_state","_law_many"] (spDraw K)) (bD:Binds K fdD ["_law_state","_law_many"] []) (kD:PySem.W.keepIn K (.ref fD)=true) (mD:mg "_law_draw"=some (.ref fD))
  (GS:FnOk P w K mg base CX0 2 fS fdS ["_law_state","_law_pool"] (spSome K)) (bS:Binds K fdS ["_law_state","_law_pool"] []) (kS:PySem.W.keepIn K (.ref fS)=true) (mS:mg "_law_some"=some (.ref fS))
  (GM:FnOk P w K mg base CX0 44 fM fdM ["_law_state","_law_box","_law_kind","_law_scope","_law_deep"] (spMade K 12)) (bM:Binds K fdM ["_law_state","_law_box","_law_kind","_law_scope","_law_deep"] []) (kM:PySem.W.keepIn K (.ref fM)=true) (mM:mg "_law_made"=some (.ref fM))
  (GV:FnOk P w K mg base CX0 32 fV fdV ["_law_one","_law_held","_law_funs","_law_calls"] (spValL K 17)) (bV:Binds K fdV ["_law_one","_law_held","_law_funs","_law_calls"] []) (kV:PySem.W.keepIn K (.ref fV)=true) (mV:mg "_law_value"=some (.ref fV))
  (GB:FnOk P w K mg base CX0 3 fB fdB ["_law_state"] (spBegun K)) (bB:Binds K fdB ["_law_state"] []) (kB:PySem.W.keepIn K (.ref fB)=true) (mB:mg "_law_begun"=some (.ref fB))
  (GO:FnOk P w K mg base CX0 4 fW fdW ["_law_state","_law_kind"] (spWorth K 2)) (bO:Binds K fdW ["_law_state","_law_kind"] []) (kO:PySem.W.keepIn K (.ref fW)=true) (mO:mg "_law_worth"=some (.ref fW)):FnOk P w K mg base CX0 45 f fd ["_law_script"] (spLaw K T):=by
 have C0:=F.code X
 refine F.ok (k:=44) scLaw (fun vs H Q E h=>?_) (fun A outer s H vs Q E hrL h=>?_)
 ·obtain⟨_,_,rfl,_⟩:=h
  rfl
 obtain⟨a,ns,rfl,hS,h63,hT,q⟩:=h
 have hu:=hu_of hrL
 have hrD:Room 1 _:=hrL.mono (by decide)
 have hrS:Room 2 _:=hrL.mono (by decide)
 have hrB:Room 3 _:=hrL.mono (by decide)
 have hrO:Room 4 _:=hrL.mono (by decide)
 obtain⟨t5,d5,k5⟩:=lw5 (f:=f) (c:=c) (outer:=outer) (H:=H) (E:=E) C0 mr md ma mis mli mi GZ bZ kZ mZ GA bA kA mA GT bT kT mT GD bD kD mD GS bS kS mS GM bM kM mM GV bV kV mV hrL q
 refine⟨_,@pss_cons _ _ _ _ _ (ps_set (i:=1) scLaw.nd rfl (Or.inr rfl) (pe_lst (@pa_cons _ _ _ _ _ (pv 0) (@pa_cons _ _ _ _ _ pe_int (@pa_cons _ _ _ _ _ pe_int pa_nil rfl) rfl) rfl))) (@pss_cons _ _ _ _ _ (ps_set (i:=2) scLaw.nd rfl (Or.inr rfl) (pe_call GB hrB rfl mB kB bB .nil pass0 (@pa_cons _ _ _ _ _ (pv 1) pa_nil rfl))) (@pss_cons _ _ _ _ _ (ps_set (i:=3) scLaw.nd rfl (Or.inl rfl) pe_dnewK) (@pss_cons _ _ _ _ _ (ps_set (i:=4) scLaw.nd rfl (Or.inl rfl) pe_dnewK) (@pss_cons _ _ _ _ _ (ps_for PassesOwn.never rfl (pi_list (pe_slice sl_list (pe_dget hu (pv 2) pe_str (fun _ _=>rfl)) po_none (po_some (pe_call GD hrD rfl mD kD bD .nil pass0 (@pa_cons _ _ _ _ _ (pv 1) (@pa_cons _ _ _ _ _ pe_int pa_nil rfl) rfl))))) (pg_name (i:=5) scLaw.nd rfl (Or.inl rfl)) (@pss_cons _ _ _ _ _ (ps_dput hu (pv 3) (pv 5) (pe_call GS hrS rfl mS kS bS .nil pass0 (@pa_cons _ _ _ _ _ (pv 1) (@pa_cons _ _ _ _ _ (pe_dget hu (pv 2) pe_str (fun _ _=>rfl)) pa_nil rfl) rfl)) rfl) (@pss_one _ _ _ (ps_dput hu (pv 4) (pv 5) (pe_call GO hrO rfl mO kO bO .nil pass0 (@pa_cons _ _ _ _ _ (pv 1) (@pa_cons _ _ _ _ _ (pe_dget hu (pv 3) (pv 5) (fun _ _=>rfl)) pa_nil rfl) rfl)) rfl)))) d5)))),?_⟩
 refine⟨_,rfl,(by show 3≤sizeLine;decide),fun ls hls=>?_⟩
 have z1:Same H (zo (upd H ls (.lst [.ref a,.int 0,.int 0])) [ls]):=zo_of (same_new hls _) fun b hb=>by rw [List.mem_singleton.mp hb];exact hls
 have st1:StP K (upd H ls (.lst [.ref a,.int 0,.int 0])) ls a ns:=⟨0,0,upd_same,sql_same z1 hS,by decide⟩
 generalize upd H ls (.lst [.ref a,.int 0,.int 0])=H1 at z1 st1
 refine⟨_,rfl,ls,a,ns,rfl,st1,fun H2 lb pp pk ks st2 z2 hlb hb pool kinds=>?_⟩
 have nlb:ls≠lb:=fun e=>st1.ls (by rw [e];exact hlb)
 have s2:St3 K H2 ls lb pp pk:=⟨let ⟨k,d,e⟩:=st2;⟨a,ns,k,d,e⟩,nlb,hb⟩
 have tb2:zo H2 [ls,lb] T=some (.tbl tabL):=nd_lb hb (z2 _ _ (z1 _ _ hT)) nofun
 have pool2:PoolAt (zo H2 [ls,lb]) pp:=by
  obtain⟨xs,a1,a2⟩:=pool
  exact⟨xs,nd_lb hb a1 nofun,a2⟩
 have kinds2:KsAt K (zo H2 [ls,lb]) pk ks:=by
  obtain⟨⟨xs,a1,a2⟩,a3⟩:=kinds
  exact⟨⟨xs,nd_lb hb a1 nofun,Paired.mapP a2 fun _ _ z=>kd_lb hb z⟩,a3⟩
 clear z2 st2 pool kinds
 refine fun ld hld=>?_
 obtain⟨s3,z3,g3⟩:=s2.nw hld (.dK [])
 refine fun lv hlv=>?_
 obtain⟨s4,z4,g4⟩:=s3.nw hlv (.dK [])
 have nlv:ld≠lv:=fun e=>by
  subst e
  have:=zo_same _ _ g3
  rw [hlv] at this
  cases this
 have g3':=z4 _ _ g3
 have z24:=z3.trans z4
 have hld2:zo H2 [ls,lb] ld=none:=by
  cases e:zo H2 [ls,lb] ld with
  |none=>rfl
  |some o=>rw [zo_same _ _ e] at hld;cases hld
 have hlv2:zo H2 [ls,lb] lv=none:=by
  cases e:zo H2 [ls,lb] lv with
  |none=>rfl
  |some o=>rw [zo_same _ _ (z3 _ _ e)] at hlv;cases hlv
 generalize upd (upd H2 ld (.dK [])) lv (.dK [])=H4 at s4 z4 g4 g3' z24
 clear z3 z4 s3 g3 hlv
 obtain⟨xp,p1,p2,p3,p4⟩:=id pool2
 obtain⟨⟨kx,k1,k2⟩,kl,kn,kg⟩:=id kinds2
 have hkl:kx.length=6:=(pair_len k2).trans kl
 refine⟨_,rfl,lb,_,rfl,s4.gp,_,rfl,ls,5,rfl,s4.st,by decide,by decide,fun H5 r t5 y5 r0 r1=>?_⟩
 obtain⟨s5,z5⟩:=s4.draw t5 y5
 have z25:=z24.trans z5
 refine⟨r,rfl,pp,xp,rfl,SqL.of (zo_same _ _ (z25 _ _ p1)),fun l0 hl0=>?_⟩
 obtain⟨s6,z6,g6⟩:=s5.nw hl0 (.lst (cutV xp none (some r)))
 have g3'':=(z5.trans z6) _ _ g3'
 have g4':=(z5.trans z6) _ _ g4
 have z26:=z25.trans z6
 have er:r=((r.toNat:Nat):Int):=by omega
 have ec:cutV xp none (some r)=xp.take r.toNat:=by
  have:=cut_to xp r.toNat
  rwa [←er] at this
 rw [ec] at g6 ⊢
 rw [ec] at s6 z26 g3'' g4'
 generalize upd H5 l0 (.lst (xp.take r.toNat))=H6 at s6 z26 g6 g3'' g4'
 refine⟨l0,rfl,⟨_,SqL.of (zo_same _ _ g6)⟩,for_list (xs:=xp.take r.toNat) (fun i σ H7=>∃v5 kvs1 kvs2 G ρ,σ=[some (.ref a),some (.ref ls),some (.ref lb),some (.ref ld),some (.ref lv),v5,none,none,none,none,none,none,none,none,none,none]∧St3 K H7 ls lb pp pk∧Same (zo H2 [ls,lb]) (zo H7 [ls,lb])∧zo H7 [ls,lb] l0=some (.lst (xp.take r.toNat))∧zo H7 [ls,lb] ld=some (.dK kvs1)∧zo H7 [ls,lb] lv=some (.dK kvs2)∧kvs1.length≤i∧kvs2.length≤i∧ScI K (zo H7 [ls,lb]) kvs1 G∧EnI (zo H7 [ls,lb]) kvs2 ρ∧EnvOk G ρ)
  ⟨none,[],[],fun _=>none,fun _=>none,rfl,s6,z26,g6,g3'',g4',Nat.le_refl _,Nat.le_refl _,⟨fun _ h=>(nomatch h),fun _=>.inl ⟨rfl,rfl⟩⟩,⟨fun _ _ h=>(nomatch h),fun _ h=>(nomatch h)⟩,fun _ _ h=>(nomatch h)⟩ ?_ ?_ ?_⟩
 ·rintro i σ H7 hi ⟨v5,kvs1,kvs2,G,ρ,rfl,s7,z7,g7,_⟩
  exact SqL.of (zo_same _ _ g7)
 ·rintro i x σ H7 hx ⟨v5,kvs1,kvs2,G,ρ,rfl,s7,z7,g7,gd,gv,l1,l2,sc,en,eo⟩
  have hi:i < r.toNat:=by
   have:=(List.getElem?_eq_some_iff.mp hx).1
   rw [List.length_take] at this
   omega
  obtain⟨y,rfl,oy⟩:=p4 x (List.mem_of_mem_take (List.mem_of_getElem? hx))
  refine⟨_,rfl,_,rfl,lb,_,rfl,s7.gk,ls,pk,kx,rfl,s7.st,SqL.of (zo1 _ _ (z7 _ _ k1)),by omega,by omega,fun H8 j u t8 y8 hu8=>?_⟩
  obtain⟨s8,z8⟩:=s7.draw t8 y8
  obtain⟨k,hk,hku⟩:=pair_get k2 hu8
  obtain⟨e1,e2⟩:=kg _ (List.mem_of_getElem? hk)
  have gd8:=z8 _ _ gd
  have gv8:=z8 _ _ gv
  refine⟨_,rfl,_,rfl,ld,_,rfl,DPut.k (k:=Sum.inr y) (zo_same _ _ gd8) (small1000 (by omega)),?_⟩
  obtain⟨s9,e9⟩:=s8.put (o:=.dK (putK kvs1 (Sum.inr y) u)) gd8 (.inl ⟨_,rfl⟩)
  have z29:Same (zo H2 [ls,lb]) (zo (upd H8 ld (.dK (putK kvs1 (Sum.inr y) u))) [ls,lb]):=by rw [e9];exact sput (z7.trans z8) hld2
  have gd9:zo (upd H8 ld (.dK (putK kvs1 (Sum.inr y) u))) [ls,lb] ld=some (.dK (putK kvs1 (Sum.inr y) u)):=by rw [e9];exact upd_same
  have gv9:zo (upd H8 ld (.dK (putK kvs1 (Sum.inr y) u))) [ls,lb] lv=some (.dK kvs2):=by rw [e9,upd_ne (Ne.symm nlv)];exact gv8
  have g79:zo (upd H8 ld (.dK (putK kvs1 (Sum.inr y) u))) [ls,lb] l0=some (.lst (xp.take r.toNat)):=by
   rw [e9,upd_ne (fun e=>by rw [e,gd] at g7;cases g7)]
   exact z8 _ _ g7
  have hku9:KdAt K (zo (upd H8 ld (.dK (putK kvs1 (Sum.inr y) u))) [ls,lb]) u k:=hku.same z29
  have sc9:ScI K (zo (upd H8 ld (.dK (putK kvs1 (Sum.inr y) u))) [ls,lb]) (putK kvs1 (Sum.inr y) u) (gput G y k):=ScI.put (sc.step fun x k t=>by rw [e9];exact kd_putD gd8 (.inl ⟨_,rfl⟩) (t.same z8)) oy hku9 e1 e2
  have en9:EnI (zo (upd H8 ld (.dK (putK kvs1 (Sum.inr y) u))) [ls,lb]) kvs2 ρ:=en.step fun x v t=>by rw [e9];exact VAt.putD gd8 (.inl ⟨_,rfl⟩) (t.same z8)
  have l1':=length_putK kvs1 (Sum.inr y) u
  have gg:=DGet.k (k:=Sum.inr y) (zo_same _ _ gd9)
  rw [valV_put,if_pos rfl] at gg
  generalize upd H8 ld (.dK (putK kvs1 (Sum.inr y) u))=H9 at s9 e9 z29 gd9 gv9 g79 hku9 sc9 en9 gg
  generalize putK kvs1 (Sum.inr y) u=kvn at gd9 sc9 l1' gg e9
  refine⟨_,rfl,_,rfl,_,rfl,ld,u,rfl,gg,ls,u,k,rfl,s9.st,zo1k hku9,e1,e2,fun HA u' v' tA yA o1 u1=>?_⟩
  obtain⟨sA,zA⟩:=s9.draw tA yA
  have u1':VAt (zo HA [ls,lb]) u' v':=u1.tups fun p xs e=>nd_lb sA.box e nofun
  have gvA:=zA _ _ gv9
  refine⟨_,rfl,_,rfl,lv,_,rfl,DPut.k (k:=Sum.inr y) (zo_same _ _ gvA) (small1000 (by omega)),?_⟩
  obtain⟨sB,eB⟩:=sA.put (o:=.dK (putK kvs2 (Sum.inr y) u')) gvA (.inl ⟨_,rfl⟩)
  refine⟨_,kvn,putK kvs2 (Sum.inr y) u',gput G y k,rput ρ y v',rfl,sB,by rw [eB];exact sput (z29.trans zA) hlv2,?_,?_,?_,by omega,Nat.le_trans (length_putK ..) (by omega),?_,?_,eok_put eo o1⟩
  ·rw [eB,upd_ne (fun e=>by rw [e,gv9] at g79;cases g79)]
   exact zA _ _ g79
  ·rw [eB,upd_ne nlv]
   exact zA _ _ gd9
  ·rw [eB];exact upd_same
  ·exact sc9.step fun x k t=>by rw [eB];exact kd_putD gvA (.inl ⟨_,rfl⟩) (t.same zA)
  ·rw [eB]
   exact EnI.put (en9.step fun x v t=>VAt.putD gvA (.inl ⟨_,rfl⟩) (t.same zA)) (VAt.putD gvA (.inl ⟨_,rfl⟩) u1')
 ·rintro σ H7 ⟨v5,kvs1,kvs2,G,ρ,rfl,s7,z7,g7,gd,gv,l1,l2,sc,en,eo⟩
  have hl4:(xp.take r.toNat).length≤4:=by rw [List.length_take];omega
  exact k5 H7 ls lb pp pk ld lv ks G ρ kvs2 _ v5 s7 ⟨z7 _ _ tb2,pool2.same z7,kinds2.same z7,⟨kvs1,gd,by omega,sc.1,sc.2⟩,gv,by omega,en.1,en.2,eo⟩
end
end K72
namespace PySem.W.Fast
def tw13196351797049212391:=()
def tw5857842027536534640:=()
def tw15065404561119952643:=()
def tw14243866440318898424:=()
def tw844335773746356857:=()
def tw783738423143963529:=()
def tw714090671772444390:=()
def tw9410180771657951775:=()
def tw16524753655915563496:=()
def tw9461736358737368808:=()
def tw9054730678746650724:=()
def tw9784260543970181403:=()
def tw5915336925527779236:=()
def tw9085518813913325162:=()
def tw13499427232673061408:=()
def tw16698425638414755700:=()
def tw3578008729614877762:=()
def tw14059533602061728437:=()
def tw14412202079656142488:=()
def tw3556559009062243024:=()
def tw8404886094784182663:=()
def tw17798113670661042513:=()
def tw5873626270380404695:=()
def tw13951900414544377252:=()
def tw7688879608273889330:=()
def tw8674009008218624423:=()
def tw12404587488122638051:=()
def tw16944101782665577313:=()
def tw13483410600377368130:=()
def tw12485283594233672456:=()
def tw7175982208778058393:=()
def tw12522797777998133398:=()
def tw12954592154318185885:=()
def tw12150947287541900173:=()
def tw2850283192317539465:=()
def tw14466318909638364638:=()
def tw1814450687799930777:=()
def tw15665041415966606412:=()
def tw471503155509706823:=()
def tw15780489887027425220:=()
def tw7185220748251797497:=()
def tw16029567619348755203:=()
def tw18058310056423112691:=()
def tw4865776339879879410:=()
def tw4208318785748276429:=()
def tw5492454907643453207:=()
def tw8111109749434566173:=()
def tw9489553538922955980:=()
def tw17554196061898336746:=()
def tw9057920610132410732:=()
def tw13125497197089418027:=()
def tw12761827659372640746:=()
def tw18257255026256238778:=()
def tw1164822529223937253:=()
def tw3728944710205347597:=()
def tw3085011781759006102:=()
def tw15669360471922449264:=()
def tw16609623616720198143:=()
def tw12367200872490579649:=()
def tw16582463303574784931:=()
def tw822592266719485956:=()
def tw14107276025766143241:=()
def tw921206655898933106:=()
def tw2725399052729823556:=()
def tw9354909884952745450:=()
def tw116500848799754994:=()
def tw8616181845963155802:=()
def tw16001680284471450175:=()
def tw4842173722234765815:=()
def tw18056901156673644483:=()
def tw10105377280063586456:=()
def tw4964599233309133864:=()
def tw2314821027468844010:=()
def tw16152850942837602870:=()
def tw8273839678818007369:=()
def tw2670329258969260500:=()
def tw9825314663255437631:=()
def tw8369206014059579682:=()
def tw13068749850389811304:=()
def tw8873478900980989918:=()
def tw5175399661350097481:=()
def tw8491634076431628188:=()
def tw17673720065069846660:=()
def tw12002722747897562594:=()
def tw9320282310181211358:=()
def tw9619696875029333782:=()
def tw10412085342271247489:=()
def tw10571057594152512965:=()
def tw14040393784408595150:=()
def tw8163896060906217670:=()
def tw7513858833335961825:=()
def tw10999935797166782899:=()
def tw12256153822793733373:=()
def tw17389584278891232743:=()
def tw2615160995445561258:=()
def tw1128668397054552778:=()
def tw18088602731622418582:=()
def tw6204888193376659394:=()
def tw16617867696525847891:=()
def tw12508834977562433847:=()
def tw6578181036762296268:=()
def tw4354907823815822764:=()
def tw5098400141179269007:=()
def tw2924095082311044359:=()
def tw2074966668874244851:=()
def tw15844040887808102653:=()
def tw14150874990164459129:=()
def tw13933236691281223302:=()
def tw7425583230201893112:=()
def tw17093301816647582409:=()
def tw17950868712877502019:=()
def tw15996996250066605825:=()
def tw16392144956406952388:=()
def tw1222652359891481902:=()
def tw4595677478507963494:=()
def tw7818467689968845795:=()
def tw12396021880330423508:=()
def tw14121184703182536297:=()
def tw15572561124451935951:=()
def tw12084479952546906074:=()
def tw3408838112406955598:=()
def tw2820994981681681167:=()
def tw10491098497345148128:=()
def tw7746156568630612236:=()
def tw8637094230322297935:=()
def tw8808106661595938050:=()
def tw5793166751639117578:=()
def tw8033071777094463468:=()
def tw15962207396952077169:=()
def tw9971809849666749484:=()
def tw7498257900729304631:=()
def tw5808045639791577080:=()
def tw9144776890304360282:=()
def tw14228389084336870842:=()
def tw2865595842647956548:=()
def tw15028707335808089917:=()
def tw8168839414142907353:=()
def tw10696991791250187633:=()
def tw6943766194777331559:=()
def tw18052588159990276489:=()
def tw10371686225299494677:=()
def tw8514284558441282157:=()
def tw4749841736661119415:=()
def tw16130332514959523563:=()
def tw2002753544160665746:=()
def tw9684546174454136853:=()
def tw9209997328964730839:=()
def tw15803193488704760782:=()
def tw9006646894460681612:=()
def tw4741970422042657614:=()
def tw2820798455228958363:=()
def tw4095024292466601057:=()
def tw580839775628372741:=()
def tw16236443484248468189:=()
def tw7491421944743137469:=()
def tw3347535355535034681:=()
def tw6572394654631990510:=()
def tw10716954167929086170:=()
def tw15805650177855352735:=()
def tw15911453588192344683:=()
def tw9882661227072990280:=()
def tw696103798886456218:=()
def tw6847739445502501745:=()
def tw15323174542088689302:=()
def tw15998718274491458962:=()
def tw8491796433985664385:=()
def tw15951299890756916158:=()
def tw10268429861239292231:=()
def tw6398430908655187984:=()
def tw14121833083146963471:=()
def tw13924321952946098018:=()
def tw6378860456673522930:=()
def tw11006596714610464721:=()
def tw9429843078342229766:=()
def tw8521223179296252793:=()
def tw11907481056980609801:=()
end PySem.W.Fast
namespace K72
open PySem L2 Kk
set_option maxHeartbeats 0 in
theorem all_mk{l:PySem.W.OpenLaw}{q:Program}{w:World}{K:PySem.W.Frag}{h:Heap}{mg:Str→Option Value}{fa f1 f2 f3 f4 f5 f6 f7 f8 f9 f10 f11 f12 f13 f14 f15 f16 f17 f18 f19 f20 f21 f22 f23:Addr}(X:K.In h)(G:h.Ns mainGlobals mg) (hfa:mg "law"=some (.ref fa))
  {od1 an1 od2 an2 od3 an3 od4 an4 od5 an5 od6 an6 od7 an7 od8 an8 od9 an9 od10 an10 od11 an11 od12 an12 od13 an13 od14 an14 od15 an15 od16 an16 od17 an17 od18 an18 od19 an19 od20 an20 od21 an21 od22 an22 od23 an23:Option Addr} {sl1 sl2 sl3 sl4 sl5 sl6 sl7 sl8 sl9 sl10 sl11 sl12 sl13 sl14 sl15 sl16 sl17 sl18 sl19 sl20 sl21 sl22 sl23:Array (Option Value)} {oc1 kV1 dc1 pm1 ct1 cd1 oc2 kV2 dc2 pm2 ct2 cd2 oc3 kV3 dc3 pm3 ct3 cd3 oc4 kV4 dc4 pm4 ct4 cd4 oc5 kV5 dc5 pm5 ct5 cd5 oc6 kV6 dc6 pm6 ct6 cd6 oc7 kV7 dc7 pm7 ct7 cd7 oc8 kV8 dc8 pm8 ct8 cd8 oc9 kV9 dc9 pm9 ct9 cd9 oc10 kV10 dc10 pm10 ct10 cd10 oc11 kV11 dc11 pm11 ct11 cd11 oc12 kV12 dc12 pm12 ct12 cd12 oc13 kV13 dc13 pm13 ct13 cd13 oc14 kV14 dc14 pm14 ct14 cd14 oc15 kV15 dc15 pm15 ct15 cd15 oc16 kV16 dc16 pm16 ct16 cd16 oc17 kV17 dc17 pm17 ct17 cd17 oc18 kV18 dc18 pm18 ct18 cd18 oc19 kV19 dc19 pm19 ct19 cd19 oc20 kV20 dc20 pm20 ct20 cd20 oc21 kV21 dc21 pm21 ct21 cd21 oc22 kV22 dc22 pm22 ct22 cd22 oc23 kV23 dc23 pm23 ct23:Value} {cc23 PT23:Addr}
  {pA:Addr} {nA:Nat} {g1 g2 g3 g4 g5 g6 g7 g8 y1 y2 y3 y4 y5 y6 y7 y8:Tok}
  (a1:PySem.W.nsIn K mainGlobals "within"=some (some (.ref f1))) (l1:K.lookup f1=some ⟨oc1,od1,.func (PySem.W.fnOf "within" "within" (defArgs sWithin) (defBody sWithin) (defScope sWithin) .none kV1 dc1 pm1 an1 cd1 ct1),sl1⟩) (c1:PySem.W.codeIn K cd1 "within"=true) (k1:PySem.W.keepIn K (.ref f1)=true)
  (a2:PySem.W.nsIn K mainGlobals "value_of"=some (some (.ref f2))) (l2:K.lookup f2=some ⟨oc2,od2,.func (PySem.W.fnOf "value_of" "value_of" (defArgs sValue) (defBody sValue) (defScope sValue) .none kV2 dc2 pm2 an2 cd2 ct2),sl2⟩) (c2:PySem.W.codeIn K cd2 "value_of"=true) (k2:PySem.W.keepIn K (.ref f2)=true)
  (a3:PySem.W.nsIn K mainGlobals "variable_value"=some (some (.ref f3))) (l3:K.lookup f3=some ⟨oc3,od3,.func (PySem.W.fnOf "variable_value" "variable_value" (defArgs sVar) (defBody sVar) (defScope sVar) .none kV3 dc3 pm3 an3 cd3 ct3),sl3⟩) (c3:PySem.W.codeIn K cd3 "variable_value"=true) (k3:PySem.W.keepIn K (.ref f3)=true)
  (a4:PySem.W.nsIn K mainGlobals "value_by_form"=some (some (.ref f4))) (l4:K.lookup f4=some ⟨oc4,od4,.func (PySem.W.fnOf "value_by_form" "value_by_form" (defArgs sForm) (defBody sForm) (defScope sForm) .none kV4 dc4 pm4 an4 cd4 ct4),sl4⟩) (c4:PySem.W.codeIn K cd4 "value_by_form"=true) (k4:PySem.W.keepIn K (.ref f4)=true)
  (a5:PySem.W.nsIn K mainGlobals "reckoned"=some (some (.ref f5))) (l5:K.lookup f5=some ⟨oc5,od5,.func (PySem.W.fnOf "reckoned" "reckoned" (defArgs sReck) (defBody sReck) (defScope sReck) .none kV5 dc5 pm5 an5 cd5 ct5),sl5⟩) (c5:PySem.W.codeIn K cd5 "reckoned"=true) (k5:PySem.W.keepIn K (.ref f5)=true)
  (a6:PySem.W.nsIn K mainGlobals "compared_values"=some (some (.ref f6))) (l6:K.lookup f6=some ⟨oc6,od6,.func (PySem.W.fnOf "compared_values" "compared_values" (defArgs sComp) (defBody sComp) (defScope sComp) .none kV6 dc6 pm6 an6 cd6 ct6),sl6⟩) (c6:PySem.W.codeIn K cd6 "compared_values"=true) (k6:PySem.W.keepIn K (.ref f6)=true)
  (a7:PySem.W.nsIn K mainGlobals "_law_draw"=some (some (.ref f7))) (l7:K.lookup f7=some ⟨oc7,od7,.func (PySem.W.fnOf "_law_draw" "_law_draw" (defArgs sDraw) (defBody sDraw) (defScope sDraw) .none kV7 dc7 pm7 an7 cd7 ct7),sl7⟩) (c7:PySem.W.codeIn K cd7 "_law_draw"=true) (k7:PySem.W.keepIn K (.ref f7)=true)
  (a8:PySem.W.nsIn K mainGlobals "_law_whole"=some (some (.ref f8))) (l8:K.lookup f8=some ⟨oc8,od8,.func (PySem.W.fnOf "_law_whole" "_law_whole" (defArgs sWhole) (defBody sWhole) (defScope sWhole) .none kV8 dc8 pm8 an8 cd8 ct8),sl8⟩) (c8:PySem.W.codeIn K cd8 "_law_whole"=true) (k8:PySem.W.keepIn K (.ref f8)=true)
  (a9:PySem.W.nsIn K mainGlobals "_law_alike"=some (some (.ref f9))) (l9:K.lookup f9=some ⟨oc9,od9,.func (PySem.W.fnOf "_law_alike" "_law_alike" (defArgs sAlike) (defBody sAlike) (defScope sAlike) .none kV9 dc9 pm9 an9 cd9 ct9),sl9⟩) (c9:PySem.W.codeIn K cd9 "_law_alike"=true) (k9:PySem.W.keepIn K (.ref f9)=true)
  (a10:PySem.W.nsIn K mainGlobals "_law_begun"=some (some (.ref f10))) (l10:K.lookup f10=some ⟨oc10,od10,.func (PySem.W.fnOf "_law_begun" "_law_begun" (defArgs sBegun) (defBody sBegun) (defScope sBegun) .none kV10 dc10 pm10 an10 cd10 ct10),sl10⟩) (c10:PySem.W.codeIn K cd10 "_law_begun"=true) (k10:PySem.W.keepIn K (.ref f10)=true)
  (a11:PySem.W.nsIn K mainGlobals "_law_some"=some (some (.ref f11))) (l11:K.lookup f11=some ⟨oc11,od11,.func (PySem.W.fnOf "_law_some" "_law_some" (defArgs sSome) (defBody sSome) (defScope sSome) .none kV11 dc11 pm11 an11 cd11 ct11),sl11⟩) (c11:PySem.W.codeIn K cd11 "_law_some"=true) (k11:PySem.W.keepIn K (.ref f11)=true)
  (a12:PySem.W.nsIn K mainGlobals "_law_worth"=some (some (.ref f12))) (l12:K.lookup f12=some ⟨oc12,od12,.func (PySem.W.fnOf "_law_worth" "_law_worth" (defArgs sWorth) (defBody sWorth) (defScope sWorth) .none kV12 dc12 pm12 an12 cd12 ct12),sl12⟩) (c12:PySem.W.codeIn K cd12 "_law_worth"=true) (k12:PySem.W.keepIn K (.ref f12)=true)
  (a13:PySem.W.nsIn K mainGlobals "_law_lit"=some (some (.ref f13))) (l13:K.lookup f13=some ⟨oc13,od13,.func (PySem.W.fnOf "_law_lit" "_law_lit" (defArgs sLit) (defBody sLit) (defScope sLit) .none kV13 dc13 pm13 an13 cd13 ct13),sl13⟩) (c13:PySem.W.codeIn K cd13 "_law_lit"=true) (k13:PySem.W.keepIn K (.ref f13)=true)
  (a14:PySem.W.nsIn K mainGlobals "_law_num"=some (some (.ref f14))) (l14:K.lookup f14=some ⟨oc14,od14,.func (PySem.W.fnOf "_law_num" "_law_num" (defArgs sNum) (defBody sNum) (defScope sNum) .none kV14 dc14 pm14 an14 cd14 ct14),sl14⟩) (c14:PySem.W.codeIn K cd14 "_law_num"=true) (k14:PySem.W.keepIn K (.ref f14)=true)
  (a15:PySem.W.nsIn K mainGlobals "_law_halved"=some (some (.ref f15))) (l15:K.lookup f15=some ⟨oc15,od15,.func (PySem.W.fnOf "_law_halved" "_law_halved" (defArgs sHalved) (defBody sHalved) (defScope sHalved) .none kV15 dc15 pm15 an15 cd15 ct15),sl15⟩) (c15:PySem.W.codeIn K cd15 "_law_halved"=true) (k15:PySem.W.keepIn K (.ref f15)=true)
  (a16:PySem.W.nsIn K mainGlobals "_law_own"=some (some (.ref f16))) (l16:K.lookup f16=some ⟨oc16,od16,.func (PySem.W.fnOf "_law_own" "_law_own" (defArgs sOwn) (defBody sOwn) (defScope sOwn) .none kV16 dc16 pm16 an16 cd16 ct16),sl16⟩) (c16:PySem.W.codeIn K cd16 "_law_own"=true) (k16:PySem.W.keepIn K (.ref f16)=true)
  (a17:PySem.W.nsIn K mainGlobals "_law_made"=some (some (.ref f17))) (l17:K.lookup f17=some ⟨oc17,od17,.func (PySem.W.fnOf "_law_made" "_law_made" (defArgs sMade) (defBody sMade) (defScope sMade) .none kV17 dc17 pm17 an17 cd17 ct17),sl17⟩) (c17:PySem.W.codeIn K cd17 "_law_made"=true) (k17:PySem.W.keepIn K (.ref f17)=true)
  (a18:PySem.W.nsIn K mainGlobals "_law_flat"=some (some (.ref f18))) (l18:K.lookup f18=some ⟨oc18,od18,.func (PySem.W.fnOf "_law_flat" "_law_flat" (defArgs sFlat) (defBody sFlat) (defScope sFlat) .none kV18 dc18 pm18 an18 cd18 ct18),sl18⟩) (c18:PySem.W.codeIn K cd18 "_law_flat"=true) (k18:PySem.W.keepIn K (.ref f18)=true)
  (a19:PySem.W.nsIn K mainGlobals "_law_answer"=some (some (.ref f19))) (l19:K.lookup f19=some ⟨oc19,od19,.func (PySem.W.fnOf "_law_answer" "_law_answer" (defArgs sAns) (defBody sAns) (defScope sAns) .none kV19 dc19 pm19 an19 cd19 ct19),sl19⟩) (c19:PySem.W.codeIn K cd19 "_law_answer"=true) (k19:PySem.W.keepIn K (.ref f19)=true)
  (a20:PySem.W.nsIn K mainGlobals "_law_noted"=some (some (.ref f20))) (l20:K.lookup f20=some ⟨oc20,od20,.func (PySem.W.fnOf "_law_noted" "_law_noted" (defArgs sNoted) (defBody sNoted) (defScope sNoted) .none kV20 dc20 pm20 an20 cd20 ct20),sl20⟩) (c20:PySem.W.codeIn K cd20 "_law_noted"=true) (k20:PySem.W.keepIn K (.ref f20)=true)
  (a21:PySem.W.nsIn K mainGlobals "_law_reckoned"=some (some (.ref f21))) (l21:K.lookup f21=some ⟨oc21,od21,.func (PySem.W.fnOf "_law_reckoned" "_law_reckoned" (defArgs sReckL) (defBody sReckL) (defScope sReckL) .none kV21 dc21 pm21 an21 cd21 ct21),sl21⟩) (c21:PySem.W.codeIn K cd21 "_law_reckoned"=true) (k21:PySem.W.keepIn K (.ref f21)=true)
  (a22:PySem.W.nsIn K mainGlobals "_law_value"=some (some (.ref f22))) (l22:K.lookup f22=some ⟨oc22,od22,.func (PySem.W.fnOf "_law_value" "_law_value" (defArgs sValL) (defBody sValL) (defScope sValL) .none kV22 dc22 pm22 an22 cd22 ct22),sl22⟩) (c22:PySem.W.codeIn K cd22 "_law_value"=true) (k22:PySem.W.keepIn K (.ref f22)=true)
  (a23:PySem.W.nsIn K mainGlobals "law"=some (some (.ref f23))) (l23:K.lookup f23=some ⟨oc23,od23,.func (PySem.W.fnOf "law" "law" (defArgs sLaw) (defBody sLaw) (defScope sLaw) .none kV23 dc23 pm23 an23 (.ref cc23) ct23),sl23⟩) (c23:PySem.W.codeIn K (.ref cc23) "law"=true) (k23:PySem.W.keepIn K (.ref f23)=true)
  (t23:PySem.W.tabIn K "law"=some (cc23,PT23)) (h23:PySem.W.codeHdIn K cc23 PT23=true) (r23:∃d,(PyProof.Rows.recsOf q).find? (fun e=>e.name==("law":Str))=some d)
  (nT:PySem.W.noTabs K=true) (nD:([PT23]:List Addr).Nodup)
  (eH:PySem.W.nsIn K mainGlobals "AHEAD"=some (some (.ref pA)))
  (lH:K.lookup pA=some ⟨.type "dict",none,.dict #[⟨hashStr w "op",.str "op" g1,.int 3 y1⟩,⟨hashStr w "test",.str "test" g2,.int 2 y2⟩,⟨hashStr w "as",.str "as" g3,.int 2 y3⟩,⟨hashStr w "let",.str "let" g4,.int 2 y4⟩,⟨hashStr w "if",.str "if" g5,.int 1 y5⟩,⟨hashStr w "two",.str "two" g6,.int 1 y6⟩,⟨hashStr w "first",.str "first" g7,.int 1 y7⟩,⟨hashStr w "second",.str "second" g8,.int 1 y8⟩] nA,#[]⟩)
  (qH:(pA==sysModules)=false)
  (z1:PySem.W.nsIn K mainGlobals "len"=some none)
  (z2:PySem.W.nsIn K mainGlobals "range"=some none)
  (z3:PySem.W.nsIn K mainGlobals "isinstance"=some none)
  (z4:PySem.W.nsIn K mainGlobals "tuple"=some none)
  (z5:PySem.W.nsIn K mainGlobals "str"=some none)
  (z6:PySem.W.nsIn K mainGlobals "int"=some none)
  (z7:PySem.W.nsIn K mainGlobals "bool"=some none)
  (z8:PySem.W.nsIn K mainGlobals "list"=some none)
  (z9:PySem.W.nsIn K mainGlobals "all"=some none)
  (z10:PySem.W.nsIn K mainGlobals "dict"=some none)
  (z11:PySem.W.nsIn K mainGlobals "zip"=some none) :
  ∃(fd:FuncData) (tabs:List (Addr × Array Value)) (sp:Sp),(∀(s:Shared) (v:Value),BindsTo s fd ⟨[v],[]⟩ [("_law_script",v)])∧TabsOf q K tabs∧(tabs.map (·.1)).Nodup∧PySem.W.noTabs K=true∧(∀base:Heap,K.In base→base.Ns mainGlobals mg→FnOk l.prog w K mg base CX0 45 fa fd ["_law_script"] sp) ∧
   ∀(H:Hp) (a:Addr) (ns:List Int),ns.length≤63→(∀t∈tabs,H t.1=some (.tbl t.2))→SqL K H a (ns.map V.int)→sp [.ref a] H (fun v _=>v=.bl true) fun _ _ _=>False:=by
 have e:=hfa.symm.trans (PySem.W.mg_of X G a23)
 cases e
 have F1:=fun_mk (st:=sWithin) l1 c1 k1
 have F2:=fun_mk (st:=sValue) l2 c2 k2
 have F3:=fun_mk (st:=sVar) l3 c3 k3
 have F4:=fun_mk (st:=sForm) l4 c4 k4
 have F5:=fun_mk (st:=sReck) l5 c5 k5
 have F6:=fun_mk (st:=sComp) l6 c6 k6
 have F7:=fun_mk (st:=sDraw) l7 c7 k7
 have F8:=fun_mk (st:=sWhole) l8 c8 k8
 have F9:=fun_mk (st:=sAlike) l9 c9 k9
 have F10:=fun_mk (st:=sBegun) l10 c10 k10
 have F11:=fun_mk (st:=sSome) l11 c11 k11
 have F12:=fun_mk (st:=sWorth) l12 c12 k12
 have F13:=fun_mk (st:=sLit) l13 c13 k13
 have F14:=fun_mk (st:=sNum) l14 c14 k14
 have F15:=fun_mk (st:=sHalved) l15 c15 k15
 have F16:=fun_mk (st:=sOwn) l16 c16 k16
 have F17:=fun_mk (st:=sMade) l17 c17 k17
 have F18:=fun_mk (st:=sFlat) l18 c18 k18
 have F19:=fun_mk (st:=sAns) l19 c19 k19
 have F20:=fun_mk (st:=sNoted) l20 c20 k20
 have F21:=fun_mk (st:=sReckL) l21 c21 k21
 have F22:=fun_mk (st:=sValL) l22 c22 k22
 have F23:=funt_mk (st:=sLaw) l23 c23 k23 h23
 have b1:=F1.binds (ps:=["expression"]) fun _ _ _ _ _ _ us hl=>match us,hl with|[_],_=>rfl
 have b2:=F2.binds (ps:=["expression","variables","call"]) fun _ _ _ _ _ _ us hl=>match us,hl with|[_,_,_],_=>rfl
 have b3:=F3.binds (ps:=["word","variables"]) fun _ _ _ _ _ _ us hl=>match us,hl with|[_,_],_=>rfl
 have b4:=F4.binds (ps:=["expression","values"]) fun _ _ _ _ _ _ us hl=>match us,hl with|[_,_],_=>rfl
 have b5:=F5.binds (ps:=["sign","one","other"]) fun _ _ _ _ _ _ us hl=>match us,hl with|[_,_,_],_=>rfl
 have b6:=F6.binds (ps:=["sign","one","other"]) fun _ _ _ _ _ _ us hl=>match us,hl with|[_,_,_],_=>rfl
 have b7:=F7.binds (ps:=["_law_state","_law_many"]) fun _ _ _ _ _ _ us hl=>match us,hl with|[_,_],_=>rfl
 have b8:=F8.binds (ps:=["_law_found"]) fun _ _ _ _ _ _ us hl=>match us,hl with|[_],_=>rfl
 have b9:=F9.binds (ps:=["_law_found","_law_due"]) fun _ _ _ _ _ _ us hl=>match us,hl with|[_,_],_=>rfl
 have b10:=F10.binds (ps:=["_law_state"]) fun _ _ _ _ _ _ us hl=>match us,hl with|[_],_=>rfl
 have b11:=F11.binds (ps:=["_law_state","_law_pool"]) fun _ _ _ _ _ _ us hl=>match us,hl with|[_,_],_=>rfl
 have b12:=F12.binds (ps:=["_law_state","_law_kind"]) fun _ _ _ _ _ _ us hl=>match us,hl with|[_,_],_=>rfl
 have b13:=F13.binds (ps:=["_law_state","_law_kind"]) fun _ _ _ _ _ _ us hl=>match us,hl with|[_,_],_=>rfl
 have b14:=F14.binds (ps:=["_law_state","_law_box","_law_scope","_law_deep"]) fun _ _ _ _ _ _ us hl=>match us,hl with|[_,_,_,_],_=>rfl
 have b15:=F15.binds (ps:=["_law_state","_law_box","_law_kind","_law_scope","_law_deep"]) fun _ _ _ _ _ _ us hl=>match us,hl with|[_,_,_,_,_],_=>rfl
 have b16:=F16.binds (ps:=["_law_state","_law_box","_law_kind","_law_scope","_law_deep"]) fun _ _ _ _ _ _ us hl=>match us,hl with|[_,_,_,_,_],_=>rfl
 have b17:=F17.binds (ps:=["_law_state","_law_box","_law_kind","_law_scope","_law_deep"]) fun _ _ _ _ _ _ us hl=>match us,hl with|[_,_,_,_,_],_=>rfl
 have b18:=F18.binds (ps:=["_law_value_here"]) fun _ _ _ _ _ _ us hl=>match us,hl with|[_],_=>rfl
 have b19:=F19.binds (ps:=["_law_kind","_law_values"]) fun _ _ _ _ _ _ us hl=>match us,hl with|[_,_],_=>rfl
 have b20:=F20.binds (ps:=["_law_heard","_law_funs","_law_q","_law_f","_law_values"]) fun _ _ _ _ _ _ us hl=>match us,hl with|[_,_,_,_,_],_=>rfl
 have b21:=F21.binds (ps:=["_law_sign","_law_many","_law_one","_law_other"]) fun _ _ _ _ _ _ us hl=>match us,hl with|[_,_,_,_],_=>rfl
 have b22:=F22.binds (ps:=["_law_one","_law_held","_law_funs","_law_calls"]) fun _ _ _ _ _ _ us hl=>match us,hl with|[_,_,_,_],_=>rfl
 refine⟨PySem.W.fnOf "law" "law" (defArgs sLaw) (defBody sLaw) (defScope sLaw) .none kV23 dc23 pm23 an23 (.ref cc23) ct23,[(PT23,tabL)],spLaw K PT23,fun s v=>.of_eq rfl,List.forall_mem_cons.mpr ⟨⟨"law",cc23,r23.choose,t23,r23.choose_spec⟩,fun t ht=>nomatch ht⟩,nD,nT,fun base hB _=>?_,fun H a ns hn hT hS=>⟨a,ns,rfl,hS,hn,hT _ (.head _),fun _=>rfl⟩⟩
 have hA:DKt K w pA ahs:=dkt_of lH qH (.cons rfl (.cons rfl (.cons rfl (.cons rfl (.cons rfl (.cons rfl (.cons rfl (.cons rfl .nil)))))))) (by decide +kernel)
 have GI:=ok_within (P:=l.prog) (w:=w) (base:=base) (mg:=mg) F1 (PySem.W.mg_of X G eH) hA
 have GVr:=ok_var (P:=l.prog) (w:=w) (base:=base) (mg:=mg) F3
 have GR:=ok_reck (P:=l.prog) (w:=w) (base:=base) (mg:=mg) F5
 have GCm:=ok_comp (P:=l.prog) (w:=w) (base:=base) (mg:=mg) F6
 have GF:=ok_form (P:=l.prog) (w:=w) (base:=base) (mg:=mg) F4 GR b5 k5 (PySem.W.mg_of X G a5) GCm b6 k6 (PySem.W.mg_of X G a6)
 have GZ:=ok_value (P:=l.prog) (w:=w) (base:=base) (mg:=mg) (k:=15) F2 b2 (PySem.W.mg_of X G a2) (PySem.W.mg_none_of X G z10) GVr b3 k3 (PySem.W.mg_of X G a3) GI b1 k1 (PySem.W.mg_of X G a1) GF b4 k4 (PySem.W.mg_of X G a4) 17
 have GDp:=ok_drawP (P:=l.prog) (w:=w) (base:=base) (mg:=mg) F7 (PySem.W.mg_none_of X G z1)
 have GD:=ok_draw (P:=l.prog) (w:=w) (base:=base) (mg:=mg) F7 (PySem.W.mg_none_of X G z1)
 have GWh:=ok_whole (P:=l.prog) (w:=w) (base:=base) (mg:=mg) F8 (PySem.W.mg_none_of X G z3) (PySem.W.mg_none_of X G z6) (PySem.W.mg_none_of X G z7)
 have GA:=ok_alike (P:=l.prog) (w:=w) (base:=base) (mg:=mg) F9 b9 (PySem.W.mg_of X G a9) GWh b8 k8 (PySem.W.mg_of X G a8) (PySem.W.mg_none_of X G z3) (PySem.W.mg_none_of X G z5) (PySem.W.mg_none_of X G z4) (PySem.W.mg_none_of X G z1) (PySem.W.mg_none_of X G z11) (PySem.W.mg_none_of X G z9) 3
 have GSp:=ok_someP (P:=l.prog) (w:=w) (base:=base) (mg:=mg) F11 (PySem.W.mg_none_of X G z1) GDp b7 k7 (PySem.W.mg_of X G a7)
 have GS:=ok_some (P:=l.prog) (w:=w) (base:=base) (mg:=mg) F11 (PySem.W.mg_none_of X G z1) GDp b7 k7 (PySem.W.mg_of X G a7)
 have GB:=ok_begun (P:=l.prog) (w:=w) (base:=base) (mg:=mg) F10 (PySem.W.mg_none_of X G z2) GDp b7 k7 (PySem.W.mg_of X G a7) GSp b11 k11 (PySem.W.mg_of X G a11)
 have GO:=ok_worth (P:=l.prog) (w:=w) (base:=base) (mg:=mg) F12 b12 (PySem.W.mg_of X G a12) GD b7 k7 (PySem.W.mg_of X G a7) 2
 have GL:=ok_lit (P:=l.prog) (w:=w) (base:=base) (mg:=mg) F13 b13 (PySem.W.mg_of X G a13) GD b7 k7 (PySem.W.mg_of X G a7) 3
 have GM:=ok_mades (P:=l.prog) (w:=w) (base:=base) (mg:=mg) F17 b17 (PySem.W.mg_of X G a17) (PySem.W.mg_none_of X G z10) (PySem.W.mg_none_of X G z4) GD b7 k7 (PySem.W.mg_of X G a7) GS b11 k11 (PySem.W.mg_of X G a11) GL b13 k13 (PySem.W.mg_of X G a13) F15 b15 (PySem.W.mg_of X G a15) F16 b16 (PySem.W.mg_of X G a16) F14 b14 (PySem.W.mg_of X G a14) 12
 have GFl:=ok_flat (P:=l.prog) (w:=w) (base:=base) (mg:=mg) F18 b18 (PySem.W.mg_of X G a18) (PySem.W.mg_none_of X G z3) (PySem.W.mg_none_of X G z4) 9
 have GAn:=ok_ans (P:=l.prog) (w:=w) (base:=base) (mg:=mg) F19 b19 (PySem.W.mg_of X G a19) GFl b18 k18 (PySem.W.mg_of X G a18) 2
 have GT:=ok_noted (P:=l.prog) (w:=w) (base:=base) (mg:=mg) F20 (PySem.W.mg_none_of X G z8) GAn b19 k19 (PySem.W.mg_of X G a19)
 have GQ:=ok_reckL (P:=l.prog) (w:=w) (base:=base) (mg:=mg) F21
 have GV:=ok_valL (P:=l.prog) (w:=w) (base:=base) (mg:=mg) F22 b22 (PySem.W.mg_of X G a22) (PySem.W.mg_none_of X G z10) (PySem.W.mg_none_of X G z3) (PySem.W.mg_none_of X G z4) (PySem.W.mg_none_of X G z6) GT b20 k20 (PySem.W.mg_of X G a20) GQ b21 k21 (PySem.W.mg_of X G a21) 17
 exact ok_law F23 hB (PySem.W.mg_none_of X G z2) (PySem.W.mg_none_of X G z10) (PySem.W.mg_none_of X G z9) (PySem.W.mg_none_of X G z3) (PySem.W.mg_none_of X G z8) (PySem.W.mg_none_of X G z6) GZ b2 k2 (PySem.W.mg_of X G a2) GA b9 k9 (PySem.W.mg_of X G a9) GT b20 k20 (PySem.W.mg_of X G a20) GD b7 k7 (PySem.W.mg_of X G a7) GS b11 k11 (PySem.W.mg_of X G a11) GM b17 k17 (PySem.W.mg_of X G a17) GV b22 k22 (PySem.W.mg_of X G a22) GB b10 k10 (PySem.W.mg_of X G a10) GO b12 k12 (PySem.W.mg_of X G a12)
end K72
open PySem PySem.W PyProof.Rows
set_option maxRecDepth 100000 in
set_option maxHeartbeats 0 in
theorem PySem.Challenge.cw_sealhouse_k72_whole_expressions_run_holds : PySem.Challenge.rw_sealhouse_k72_whole_expressions_run.Holds := by
 w_on;o_law;k_head;(case hw=>w_witness2)
 k_fill
 refine L2.walk_ofT (l:=PySem.Challenge.rw_sealhouse_k72_whole_expressions_run) (n:=63) (k:=45) (x:="_law_script") (CX:=fun _=>L2.CX0) rfl (by decide) rfl ⟨rfl,by decide,by decide,rfl⟩ (by intro w h Y;first|exact PySem.W.km_in_of Y|exact PySem.W.kIn_of Y) ?F (fun _ _ _ _ _ z=>z)
 case F =>
  intro w mg fa h KX G hmg
  refine' K72.all_mk KX G hmg ?a1 ?l1 ?c1 ?k1 ?a2 ?l2 ?c2 ?k2 ?a3 ?l3 ?c3 ?k3 ?a4 ?l4 ?c4 ?k4 ?a5 ?l5 ?c5 ?k5 ?a6 ?l6 ?c6 ?k6 ?a7 ?l7 ?c7 ?k7 ?a8 ?l8 ?c8 ?k8 ?a9 ?l9 ?c9 ?k9 ?a10 ?l10 ?c10 ?k10 ?a11 ?l11 ?c11 ?k11 ?a12 ?l12 ?c12 ?k12 ?a13 ?l13 ?c13 ?k13 ?a14 ?l14 ?c14 ?k14 ?a15 ?l15 ?c15 ?k15 ?a16 ?l16 ?c16 ?k16 ?a17 ?l17 ?c17 ?k17 ?a18 ?l18 ?c18 ?k18 ?a19 ?l19 ?c19 ?k19 ?a20 ?l20 ?c20 ?k20 ?a21 ?l21 ?c21 ?k21 ?a22 ?l22 ?c22 ?k22 ?a23 ?l23 ?c23 ?k23 ?t23 ?h23 ?r23 ?nT ?nD ?eH ?lH ?qH ?z1 ?z2 ?z3 ?z4 ?z5 ?z6 ?z7 ?z8 ?z9 ?z10 ?z11
  (case a1=>k_is)
  (case l1=>k_is)
  (case c1=>k_is)
  (case k1=>k_is)
  (case a2=>k_is)
  (case l2=>k_is)
  (case c2=>k_is)
  (case k2=>k_is)
  (case a3=>k_is)
  (case l3=>k_is)
  (case c3=>k_is)
  (case k3=>k_is)
  (case a4=>k_is)
  (case l4=>k_is)
  (case c4=>k_is)
  (case k4=>k_is)
  (case a5=>k_is)
  (case l5=>k_is)
  (case c5=>k_is)
  (case k5=>k_is)
  (case a6=>k_is)
  (case l6=>k_is)
  (case c6=>k_is)
  (case k6=>k_is)
  (case a7=>k_is)
  (case l7=>k_is)
  (case c7=>k_is)
  (case k7=>k_is)
  (case a8=>k_is)
  (case l8=>k_is)
  (case c8=>k_is)
  (case k8=>k_is)
  (case a9=>k_is)
  (case l9=>k_is)
  (case c9=>k_is)
  (case k9=>k_is)
  (case a10=>k_is)
  (case l10=>k_is)
  (case c10=>k_is)
  (case k10=>k_is)
  (case a11=>k_is)
  (case l11=>k_is)
  (case c11=>k_is)
  (case k11=>k_is)
  (case a12=>k_is)
  (case l12=>k_is)
  (case c12=>k_is)
  (case k12=>k_is)
  (case a13=>k_is)
  (case l13=>k_is)
  (case c13=>k_is)
  (case k13=>k_is)
  (case a14=>k_is)
  (case l14=>k_is)
  (case c14=>k_is)
  (case k14=>k_is)
  (case a15=>k_is)
  (case l15=>k_is)
  (case c15=>k_is)
  (case k15=>k_is)
  (case a16=>k_is)
  (case l16=>k_is)
  (case c16=>k_is)
  (case k16=>k_is)
  (case a17=>k_is)
  (case l17=>k_is)
  (case c17=>k_is)
  (case k17=>k_is)
  (case a18=>k_is)
  (case l18=>k_is)
  (case c18=>k_is)
  (case k18=>k_is)
  (case a19=>k_is)
  (case l19=>k_is)
  (case c19=>k_is)
  (case k19=>k_is)
  (case a20=>k_is)
  (case l20=>k_is)
  (case c20=>k_is)
  (case k20=>k_is)
  (case a21=>k_is)
  (case l21=>k_is)
  (case c21=>k_is)
  (case k21=>k_is)
  (case a22=>k_is)
  (case l22=>k_is)
  (case c22=>k_is)
  (case k22=>k_is)
  (case a23=>k_is)
  (case l23=>k_is)
  (case c23=>k_is)
  (case k23=>k_is)
  (case t23=>first|k_is|exact rfl)
  (case h23=>first|kernel_rfl|exact rfl)
  (case r23=>exact⟨_,rfl⟩)
  (case nT=>first|kernel_rfl|exact rfl)
  (case nD=>decide)
  (case eH=>k_is)
  (case lH=>with_unfolding_all exact rfl)
  (case qH=>decide)
  (case z1=>k_is)
  (case z2=>k_is)
  (case z3=>k_is)
  (case z4=>k_is)
  (case z5=>k_is)
  (case z6=>k_is)
  (case z7=>k_is)
  (case z8=>k_is)
  (case z9=>k_is)
  (case z10=>k_is)
  (case z11=>k_is)
#print axioms PySem.Challenge.cw_sealhouse_k72_whole_expressions_run_holds
