import PyProof.Rows.All
import Wide.All
import OpenK.AllK
import Wide.FinOn
import Lean
import PyProof.EqAt
import PyProof.EqKinds
import PyProof.TupleCall
import PySem.Challenge.RW_sealhouse_k52_whole_expressions_by_kind
set_option Elab.async false
set_option linter.all false
set_option maxRecDepth 100000
namespace L2
open PySem PySem.Spec PyProof.Rows
abbrev Key:=Sum Int Str
def keyIs:Key→Value→Bool
 |.inl k,v=>Value.isInt k v
 |.inr x,v=>Value.isStrOf x v
def keyH(w:World):Key→Int
 |.inl k=>hashInt k
 |.inr x=>hashStr w x
theorem keyIs_shape:∀{k:Key} {v:Value},keyIs k v=true→(∃i t,k=Sum.inl i∧v=Value.int i t)∨(∃x t,k=Sum.inr x∧v=Value.str x t)
 |.inl i,v,h=>by
  obtain⟨t,e⟩:=Value.isInt_shape (k:=i) (v:=v) h
  exact .inl ⟨i,t,rfl,e⟩
 |.inr x,v,h=>by
  obtain⟨t,e⟩:=Value.isStrOf_shape (x:=x) (v:=v) h
  exact .inr ⟨x,t,rfl,e⟩
theorem keyIs_int(i:Int)(t:Tok):keyIs (.inl i) (.int i t)=true:=by simp [keyIs,Value.isInt]
theorem keyIs_str(x:Str)(t:Tok):keyIs (.inr x) (.str x t)=true:=by simp [keyIs,Value.isStrOf]
theorem key_ll(a b:Int):decide ((Sum.inl a:Key)=Sum.inl b)=(a==b):=by
 by_cases e:a=b
 ·subst e;simp
 ·have h:¬(Sum.inl a:Key)=Sum.inl b:=fun q=>e (Sum.inl.inj q)
  rw [decide_eq_false h]
  exact(beq_eq_false_iff_ne.mpr e).symm
theorem key_rr(a b:Str):decide ((Sum.inr a:Key)=Sum.inr b)=decide (a=b):=by
 by_cases e:a=b
 ·subst e;simp
 ·have h:¬(Sum.inr a:Key)=Sum.inr b:=fun q=>e (Sum.inr.inj q)
  rw [decide_eq_false h,decide_eq_false e]
theorem key_lr(a:Int)(b:Str):decide ((Sum.inl a:Key)=Sum.inr b)=false:=decide_eq_false (fun q=>nomatch q)
theorem key_rl(a:Str)(b:Int):decide ((Sum.inr a:Key)=Sum.inl b)=false:=decide_eq_false (fun q=>nomatch q)
def mixKind(prog:Program)(w:World):PySem.KeyKind prog w Key where
 is:=keyIs
 hash:=keyH w
 inj:=fun v a b ha hb=>by
  rcases keyIs_shape ha with ⟨i,t,rfl,rfl⟩|⟨x,t,rfl,rfl⟩
  ·rcases keyIs_shape hb with ⟨j,u,rfl,e⟩|⟨y,u,rfl,e⟩
   ·injection e with e1 _;rw [e1]
   ·exact nomatch e
  ·rcases keyIs_shape hb with ⟨j,u,rfl,e⟩|⟨y,u,rfl,e⟩
   ·exact nomatch e
   ·injection e with e1 _;rw [e1]
 byValue:=fun k v h=>by
  rcases keyIs_shape h with ⟨i,t,rfl,rfl⟩|⟨x,t,rfl,rfl⟩<;>rfl
 pyHash:=fun hv h=>by
  rcases keyIs_shape hv with ⟨i,t,rfl,rfl⟩|⟨x,t,rfl,rfl⟩
  ·exact wpAny_pyHash_int h
  ·exact wpAny_pyHash_str h
 eqBool:=fun hu hv h=>by
  rcases keyIs_shape hu with ⟨i,t,rfl,rfl⟩|⟨x,t,rfl,rfl⟩
  ·rcases keyIs_shape hv with ⟨j,u,rfl,rfl⟩|⟨y,u,rfl,rfl⟩
   ·rw [key_ll] at h;exact wpAny_eqBool_int h
   ·rw [key_lr] at h;exact SeqAt.EqAt.int_str i t y u _ _ _ _ h
  ·rcases keyIs_shape hv with ⟨j,u,rfl,rfl⟩|⟨y,u,rfl,rfl⟩
   ·rw [key_rl] at h;exact SeqAt.EqAt.str_int x t j u _ _ _ _ h
   ·rw [key_rr] at h;exact wpAny_eqBool_str h
 «strs»:=fun k x t v h=>by
  rcases keyIs_shape h with ⟨i,u,rfl,e⟩|⟨y,u,rfl,e⟩
  ·exact nomatch e
  ·injection e with e1 _
   subst e1
   cases v<;>rfl
theorem mixKind_is(prog:Program)(w:World)(k:Key)(v:Value):(mixKind prog w).is k v=keyIs k v:=rfl
theorem mixKind_int(prog:Program)(w:World)(i:Int)(t:Tok):(mixKind prog w).is (.inl i) (.int i t)=true:=keyIs_int i t
theorem mixKind_str(prog:Program)(w:World)(x:Str)(t:Tok):(mixKind prog w).is (.inr x) (.str x t)=true:=keyIs_str x t
end L2
namespace L2
open PySem PySem.Spec PyProof.Rows
inductive V where
 |non|bl (b:Bool)|int (i:Int)|str (x:Str)|byt (b:Array UInt8)|flt (b:UInt64)|ref (a:Addr)|ty (n:String)
 deriving DecidableEq
def RelV:V→Value→Prop
 |.non,u=>u=Value.none
 |.bl b,u=>u=Value.bool b
 |.int i,u=>∃t,u=Value.int i t
 |.str x,u=>∃t,u=Value.str x t
 |.byt b,u=>∃t,u=Value.bytes b t
 |.flt b,u=>∃t,u=Value.float b t
 |.ref a,u=>u=Value.ref a
 |.ty n,u=>u=Value.type n
abbrev Vals:List V→List Value→Prop:=Paired RelV
theorem Vals.length{xs:List V}{us:List Value}(r:Vals xs us):xs.length=us.length:=Paired.length r
theorem Vals.get:∀{xs:List V} {us:List Value} {i:Nat} {x:V},Vals xs us→xs[i]?=some x→∃u,us[i]?=some u∧RelV x u
 |_,_,_,_,.nil,e=>by simp at e
 |_,_,0,_,.cons r _,e=>by simp at e;subst e;exact⟨_,rfl,r⟩
 |_,_,i+1,x,.cons _ t,e=>by
  obtain⟨u,h1,h2⟩:=Vals.get (i:=i) (x:=x) t (by simpa using e)
  exact⟨u,by simpa using h1,h2⟩
theorem Vals.set{x:V}{u:Value}(r:RelV x u):∀{xs:List V} {us:List Value} (i:Nat),Vals xs us→Vals (xs.set i x) (us.set i u)
 |_,_,_,.nil=>.nil
 |_,_,0,.cons _ t=>.cons r t
 |_,_,i+1,.cons q t=>.cons q (Vals.set r i t)
theorem Vals.append:∀{xs ys:List V} {us ws:List Value},Vals xs us→Vals ys ws→Vals (xs++ys) (us++ws)
 |_,_,_,_,.nil,s=>s
 |_,_,_,_,.cons r t,s=>.cons r (Vals.append t s)
theorem Vals.take:∀{xs:List V} {us:List Value} (n:Nat),Vals xs us→Vals (xs.take n) (us.take n)
 |_,_,0,_=>.nil
 |_,_,_+1,.nil=>.nil
 |_,_,n+1,.cons r t=>.cons r (Vals.take n t)
theorem Vals.drop:∀{xs:List V} {us:List Value} (n:Nat),Vals xs us→Vals (xs.drop n) (us.drop n)
 |_,_,0,r=>r
 |_,_,_+1,.nil=>.nil
 |_,_,n+1,.cons _ t=>Vals.drop n t
def RelO:Option V→Option Value→Prop
 |some v,some u=>RelV v u
 |none,none=>True
 |_,_=>False
def KV{κ:Type}:List (κ × V)→List (κ × Value)→Prop:=Paired fun(p:κ × V) (q:κ × Value)=>p.1=q.1∧RelV p.2 q.2
def kV:Key→V
 |.inl i=>.int i
 |.inr x=>.str x
inductive HO where
 |lst (xs:List V)
 |tup (xs:List V)
 |dK (kvs:List (Key × V))|dT (kvs:List (List Key × V))
 |set (S:Int→Bool) (n:Nat)
 |ins (C dx:Addr) (fs:List (Str × V))
 |own (x:Addr)
 |xd (fs:List (Str × V))
 |met (f x:Addr)
 |rng (lo hi:Int)
 |frz (o:Obj) (u:HO)
 |tbl (ps:Array Value)
 |cod (q:Str)|cel (v:V)|fnc (fd:FuncData)
 |ext (φ:Heap→Prop)
abbrev Hp:=Addr→Option HO
def upd(H:Hp)(a:Addr)(o:HO):Hp:=fun b=>if b=a then some o else H b
theorem upd_same{H:Hp}{a:Addr}{o:HO}:upd H a o a=some o:=by unfold upd;rw [if_pos rfl]
theorem upd_ne{H:Hp}{a b:Addr}{o:HO}(h:b≠a):upd H a o b=H b:=by unfold upd;rw [if_neg h]
theorem upd_upd{H:Hp}{a:Addr}{o u:HO}:upd (upd H a o) a u=upd H a u:=by
 funext b;unfold upd;split<;>rfl
theorem ne_of{H:Hp}{a b:Addr}{o u:HO}(h:H a=some o)(h':H b=some u)(d:o≠u):a≠b:=by
 intro e;subst e;rw [h] at h';exact d (Option.some.inj h')
theorem ne_of_none{H:Hp}{a b:Addr}{o:HO}(h:H a=some o)(h':H b=none):a≠b:=by
 intro e;subst e;rw [h] at h';cases h'
def qualAt:List Value→Pos→Option Str
 |.int l _::.int c _::.str q _::r,p=>if l==p.line&&c==p.col then some q else qualAt r p
 |_,_=>none
inductive FxO where
 |tup (xs:List V)|cod (q:Str)
def FxO.ho:FxO→HO
 |.tup xs=>.tup xs
 |.cod q=>.cod q
section
variable(P:Program)(w:World)
def ObjOk(H:Hp)(h:Heap)(a:Addr):HO→Prop
 |.lst xs=>xs.length≤sizeLine∧∃(its:List Value) (n:Nat),Vals xs its∧h.get? a=some { cls:=.type "list",data:=.seq its.toArray n }
 |.tup xs=>xs.length≤sizeLine∧∃its:List Value,Vals xs its∧IsTup h a its.toArray
 |.dK kvs=>kvs.length≤sizeLine∧(a==sysModules)=false∧∃vs,KV kvs vs∧h.DictOf (mixKind P w) a vs
 |.dT kvs=>kvs.length≤sizeLine∧(a==sysModules)=false∧∃xs:List (List Key × Addr × Value),
   Paired (fun(p:List Key × V) (q:List Key × Addr × Value)=>p.1=q.1∧H q.2.1=some (.tup (p.1.map kV))∧RelV p.2 q.2.2) kvs xs ∧
   ∃o es ep,h.get? a=some o∧o.ExactDict∧o.data=.dict es ep∧es.toList=xs.map (entryOfKey (tupleKind (mixKind P w)))∧(xs.map (·.1)).Nodup
 |.set S n=>h.SetOf (intKind P w) a S n
 |.ins C dx fs=>H dx=some (.own a)∧fs.length≤1000∧dx≠a∧h.get? a=some (PySem.W.instObj C dx) ∧
   ∃mA,h.Ns1 dx mA∧(∀f,RelO (fs.lookup f) (mA f))∧PySem.Within mA (fs.map (·.1))
 |.own _=>∃o,h.get? a=some o
 |.xd fs=>∃mA,h.Ns1 a mA∧∀f,RelO (fs.lookup f) (mA f)
 |.rng lo hi=>∃t u v,h.get? a=some { cls:=.type "range",data:=.fields #[.int lo t,.int hi u,.int 1 v] }
 |.frz o u=>h.get? a=some o∧ObjOk H h a u
 |.tbl ps=>∃tb:Array Value,h.get? a=some { cls:=.none,data:=.fields tb }∧TriplesOk tb.toList∧∀(p:Pos) (q:Str),qualAt ps.toList p=some q→∀cv,codeAmong p tb.toList=some cv→∃c,cv=Value.ref c∧H c=some (.cod q)
 |.cod q=>h.CodeRec (.ref a) q
 |.cel v=>∃u,RelV v u∧h.IsCell a (some u)
 |.fnc fd=>∃oc od sl,h.get? a=some ⟨oc,od,.func fd,sl⟩
 |.met f x=>h.get? a=some (PySem.W.methodObj (.ref f) (.ref x))
 |.ext φ=>φ h∧(∃o,h.get? a=some o)∧∀h1 h2:Heap,φ h1→(∀o,h1.get? a=some o→h2.get? a=some o)→φ h2
def HOk(H:Hp)(h:Heap):Prop:=∀a o,H a=some o→ObjOk P w H h a o
end
section
variable{P:Program}{w:World}{H H':Hp}{h h':Heap}{a:Addr}{o:HO}
theorem ObjOk.lt(x:ObjOk P w H h a o):a < h.objs.size:=by
 cases o with
 |lst xs=>obtain⟨_,_,_,_,e⟩:=x;exact Heap.lt_size e
 |tup xs=>obtain⟨_,_,_,p⟩:=x;exact p.lt
 |dK kvs=>obtain⟨_,_,_,_,o,_,_,e,_⟩:=x;exact Heap.lt_size e
 |dT kvs=>obtain⟨_,_,_,_,o,_,_,e,_⟩:=x;exact Heap.lt_size e
 |set S n=>obtain⟨o,_,_,_,e,_⟩:=x;exact Heap.lt_size e
 |ins C dx fs=>obtain⟨_,_,_,e,_⟩:=x;exact Heap.lt_size e
 |own y=>obtain⟨_,e⟩:=x;exact Heap.lt_size e
 |xd fs=>obtain⟨_,⟨_,_,_,e,_⟩,_⟩:=x;exact Heap.lt_size e
 |rng lo hi=>obtain⟨_,_,_,e⟩:=x;exact Heap.lt_size e
 |frz ob u=>obtain⟨e,_⟩:=x;exact Heap.lt_size e
 |tbl ps=>obtain⟨_,e,_⟩:=x;exact Heap.lt_size e
 |cod q=>obtain⟨_,_,_,_,e0,e,_⟩:=x;cases e0;exact Heap.lt_size e
 |cel v=>obtain⟨_,_,_,e,_⟩:=x;exact Heap.lt_size e
 |fnc fd=>obtain⟨_,_,_,e⟩:=x;exact Heap.lt_size e
 |met f y=>exact Heap.lt_size (show h.get? a=some _ from x)
 |ext φ=>obtain⟨_,⟨_,e⟩,_⟩:=x;exact Heap.lt_size e
theorem Paired.mapP{α β:Type}{F G:α→β→Prop}:∀{l₁:List α} {l₂:List β},Paired F l₁ l₂→(∀a b,F a b→G a b)→Paired G l₁ l₂
 |_,_,.nil,_=>.nil
 |_,_,.cons r t,f=>.cons (f _ _ r) (Paired.mapP t f)
theorem ObjOk.stay(x:ObjOk P w H h a o)(k:∀b u,(b=a∨H b=some (.own a))→h.get? b=some u→h'.get? b=some u)
  (ho:∀b,H b=some (.own a)→H' b=some (.own a)) (ht:∀b (xs:FxO),H b=some xs.ho→H' b=some xs.ho):ObjOk P w H' h' a o:=by
 induction o with
 |lst xs=>obtain⟨z,its,n,r,e⟩:=x;exact⟨z,its,n,r,k _ _ (.inl rfl) e⟩
 |tup xs=>obtain⟨z,its,r,ob,e,c⟩:=x;exact⟨z,its,r,ob,k _ _ (.inl rfl) e,c⟩
 |dK kvs=>obtain⟨z,y,vs,r,ob,es,ep,e,c⟩:=x;exact⟨z,y,vs,r,ob,es,ep,k _ _ (.inl rfl) e,c⟩
 |dT kvs =>
  obtain⟨z,y,xs,r,ob,es,ep,e,c⟩:=x
  exact⟨z,y,xs,Paired.mapP r fun p q z=>⟨z.1,ht _ (.tup _) z.2.1,z.2.2⟩,ob,es,ep,k _ _ (.inl rfl) e,c⟩
 |set S n=>obtain⟨ob,es,ep,t,e,c⟩:=x;exact⟨ob,es,ep,t,k _ _ (.inl rfl) e,c⟩
 |ins C dx fs =>
  obtain⟨d,z,ne,e,mA,⟨od,es,ep,e2,c⟩,r⟩:=x
  exact⟨ho _ d,z,ne,k _ _ (.inl rfl) e,mA,⟨od,es,ep,k _ _ (.inr d) e2,c⟩,r⟩
 |own y=>obtain⟨ob,e⟩:=x;exact⟨ob,k _ _ (.inl rfl) e⟩
 |xd fs=>obtain⟨mA,⟨od,es,ep,e,c⟩,r⟩:=x;exact⟨mA,⟨od,es,ep,k _ _ (.inl rfl) e,c⟩,r⟩
 |rng lo hi=>obtain⟨t,u,v,e⟩:=x;exact⟨t,u,v,k _ _ (.inl rfl) e⟩
 |frz ob u ih=>obtain⟨e,q⟩:=x;exact⟨k _ _ (.inl rfl) e,ih q⟩
 |tbl ps =>
  obtain⟨tb,e,tr,q⟩:=x
  exact⟨tb,k a _ (.inl rfl) e,tr,fun p z hz cv hc=>let ⟨c,e1,e2⟩:=q p z hz cv hc;⟨c,e1,ht c (.cod z) e2⟩⟩
 |cod q=>obtain⟨c,ob,vs,t,e0,e,r⟩:=x;cases e0;exact⟨_,ob,vs,t,rfl,k _ _ (.inl rfl) e,r⟩
 |cel v=>obtain⟨u,r,ob,e,d⟩:=x;exact⟨u,r,ob,k _ _ (.inl rfl) e,d⟩
 |fnc fd=>obtain⟨oc,od,sl,e⟩:=x;exact⟨oc,od,sl,k _ _ (.inl rfl) e⟩
 |met f y =>
  have e:h.get? a=some (PySem.W.methodObj (.ref f) (.ref y)):=x
  show h'.get? a=some (PySem.W.methodObj (.ref f) (.ref y))
  exact k a _ (.inl rfl) e
 |ext φ=>obtain⟨p,⟨o,e⟩,st⟩:=x;exact⟨st _ _ p fun o q=>k _ _ (.inl rfl) q,⟨o,k _ _ (.inl rfl) e⟩,st⟩
theorem HOk.lt(x:HOk P w H h)(e:H a=some o):a < h.objs.size:=(x a o e).lt
theorem HOk.fresh(x:HOk P w H h)(e:h.objs.size≤a):H a=none:=by
 cases q:H a with
 |none=>rfl
 |some u=>exact absurd (Nat.lt_of_lt_of_le (x.lt q) e) (Nat.lt_irrefl _)
theorem HOk.kept(x:HOk P w H h)(k:∀b u,h.get? b=some u→h'.get? b=some u):HOk P w H h':=fun a o e =>
 (x a o e).stay (fun b u _ q=>k b u q) (fun _ q=>q) fun _ _ q=>q
theorem HOk.laid(x:HOk P w H h)(k:∀b u,h.get? b=some u→h'.get? b=some u)(hp:h.objs.size≤a)(new:ObjOk P w (upd H a o) h' a o):HOk P w (upd H a o) h':=fun b u e=>by
 have hn:=x.fresh hp
 by_cases hb:b=a
 ·subst hb;rw [upd_same] at e;cases e;exact new
 ·rw [upd_ne hb] at e
  exact(x b u e).stay (fun c v _ q=>k c v q) (fun c q=>by rw [upd_ne (ne_of_none q hn)];exact q) fun c xs q=>by rw [upd_ne (ne_of_none q hn)];exact q
end
def Rd(H:Hp)(a:Addr)(u:HO):Prop:=H a=some u∨∃o,H a=some (.frz o u)
theorem Rd.ok{P:Program}{w:World}{H:Hp}{h:Heap}{a:Addr}{u:HO}(r:Rd H a u)(x:HOk P w H h):ObjOk P w H h a u:=by
 rcases r with r|⟨o,r⟩
 ·exact x a u r
 ·obtain⟨_,q⟩:=x a _ r
  exact q
def Mut:Option HO→Prop
 |some (.lst _)=>True
 |some (.dK _)=>True
 |some (.dT _)=>True
 |some (.set _ _)=>True
 |some (.ins _ _ _)=>True
 |some (.ext _)=>True
 |_=>False
section
variable{P:Program}{w:World}{H:Hp}{h h':Heap}{x e:Addr}{o':HO}
theorem HOk.write(ok:HOk P w H h)(mu:Mut (H x))(he:e=x∨H e=some (.own x))(k:∀b u,b≠e→h.get? b=some u→h'.get? b=some u)(heo:∃u,h'.get? e=some u)
  (new:ObjOk P w (upd H x o') h' x o'):HOk P w (upd H x o') h':=fun b u q=>by
 have nown:∀c y,H c=some (.own y)→c≠x:=fun c y r z=>by subst z;rw [r] at mu;exact mu
 have ntup:∀c (xs:FxO),H c=some xs.ho→c≠x:=fun c xs r z=>by subst z;rw [r] at mu;cases xs<;>exact mu
 by_cases hb:b=x
 ·subst hb;rw [upd_same] at q;cases q;exact new
 ·rw [upd_ne hb] at q
  by_cases hbe:b=e
  ·have q':H b=some (.own x):=by
    rcases he with z|z
    ·exact absurd (hbe.trans z) hb
    ·rw [hbe];exact z
   rw [q] at q';cases q'
   obtain⟨v,hv⟩:=heo
   exact⟨v,by rw [hbe];exact hv⟩
  ·refine(ok b u q).stay (fun c v hc r=>k c v ?_ r) (fun c r=>by rw [upd_ne (nown c b r)];exact r) fun c xs r=>by rw [upd_ne (ntup c xs r)];exact r
   rcases hc with rfl|hc
   ·exact hbe
   ·rintro rfl
    rcases he with z|z
    ·exact nown c b hc z
    ·rw [hc] at z;cases z;exact hb rfl
end
structure Un(fs ex:List Addr)(H H':Hp)(h h':Heap):Prop where
 keep:∀b o,h.get? b=some o→H b=none→b∉fs→b∉ex→h'.get? b=some o
 slot:∀b o,h.get? b=some o→H b=none→b∈fs→b∉ex→∃sl,h'.get? b=some { o with slots:=sl }
 free:∀b o,h.get? b=some o→H b=none→b∉ex→H' b=none
 there:∀b o,h.get? b=some o→b∉ex→∃o',h'.get? b=some o'
 tups:∀b xs,H b=some (.tup xs)→H' b=some (.tup xs)
 frzs:∀b o u,H b=some (.frz o u)→H' b=some (.frz o u)
 tbls:∀b ps,H b=some (.tbl ps)→∃more,H' b=some (.tbl (ps++more))
section
variable{fs fs' ex ex':List Addr}{H H1 H2:Hp}{h h1 h2 h':Heap}{a x e:Addr}{o:HO}
theorem Un.any(u:Un fs ex H H1 h h1){b:Addr}{ob:Obj}(q:h.get? b=some ob)(n:H b=none)(hx:b∉ex):∃sl,h1.get? b=some { ob with slots:=sl }:=by
 by_cases hb:b∈fs
 ·exact u.slot b ob q n hb hx
 ·exact⟨ob.slots,u.keep b ob q n hb hx⟩
theorem Un.kept(k:∀b u,h.get? b=some u→h'.get? b=some u):Un fs ex H H h h' :=
 ⟨fun b ob q _ _ _=>k b ob q,fun b ob q _ _ _=>⟨ob.slots,k b ob q⟩,fun _ _ _ n _=>n,fun b ob q _=>⟨ob,k b ob q⟩,fun _ _ q=>q,fun _ _ _ q=>q,fun _ ps q=>⟨#[],by rw [q];simp⟩⟩
theorem Un.refl:Un fs ex H H h h:=Un.kept fun _ _ q=>q
theorem Un.laid(k:∀b u,h.get? b=some u→h'.get? b=some u)(hp:h.objs.size≤a)(hn:H a=none):Un fs ex H (upd H a o) h h' where
 keep:=fun b u q _ _ _=>k b u q
 slot:=fun b u q _ _ _=>⟨u.slots,k b u q⟩
 free:=fun b u q n _=>by rw [upd_ne (Nat.ne_of_lt (Nat.lt_of_lt_of_le (Heap.lt_size q) hp))];exact n
 there:=fun b u q _=>⟨u,k b u q⟩
 tups:=fun b xs q=>by rw [upd_ne (ne_of_none q hn)];exact q
 frzs:=fun b u xs q=>by rw [upd_ne (ne_of_none q hn)];exact q
 tbls:=fun b ps q=>⟨#[],by rw [upd_ne (ne_of_none q hn),q];simp⟩
theorem Un.write(mu:Mut (H x))(he:e=x∨H e=some (.own x))(k:∀b u,b≠e→h.get? b=some u→h'.get? b=some u)(heo:∃u,h'.get? e=some u):Un fs ex H (upd H x o) h h':=by
 have hx:∀b,H b=none→b≠x:=fun b n z=>by subst z;rw [n] at mu;exact mu
 have hb:∀b,H b=none→b≠e:=fun b n z=>by
  subst z
  rcases he with r|r
  ·exact hx b n r
  ·rw [n] at r;cases r
 have hm:∀b u,H b=some u→¬Mut (some u)→b≠x:=fun b u q nm z=>by subst z;rw [q] at mu;exact nm mu
 refine⟨fun b u q n _ _=>k b u (hb b n) q,fun b u q n _ _=>⟨u.slots,k b u (hb b n) q⟩,fun b u q n _=>by rw [upd_ne (hx b n)];exact n,fun b u q _=>?_,
  fun b xs q=>by rw [upd_ne (hm b _ q fun z=>z)];exact q,fun b u xs q=>by rw [upd_ne (hm b _ q fun z=>z)];exact q,fun b ps q=>⟨#[],by rw [upd_ne (hm b _ q fun z=>z),q];simp⟩⟩
 by_cases hbe:b=e
 ·subst hbe;exact heo
 ·exact⟨u,k b u hbe q⟩
end
def trk(h:Heap)(H:Hp):List Addr:=(List.range h.objs.size).filter fun a=>(H a).isSome
def hidT(h:Heap)(H:Hp):Heap:=PySem.W.hideAll h (trk h H)
theorem hidT_size(h:Heap)(H:Hp):(hidT h H).objs.size=h.objs.size:=PySem.W.hideAll_size _ _
theorem hidT_get{h:Heap}{H:Hp}{b:Addr}{o:Obj}(e:h.get? b=some o)(n:H b=none):(hidT h H).get? b=some o :=
 PySem.W.hideAll_get _ e fun hm=>by
  have q:(H b).isSome=true:=(List.mem_filter.mp hm).2
  rw [n] at q;simp at q
theorem of_hidT{h:Heap}{H:Hp}{b:Addr}{o:Obj}(e:(hidT h H).get? b=some o):h.get? b=some o∧H b=none:=by
 have e':h.get? b=some o:=PySem.W.of_hideAll (trk h H) e
 refine⟨e',?_⟩
 cases q:H b with
 |none=>rfl
 |some x =>
  have hm:b∈trk h H:=List.mem_filter.mpr ⟨List.mem_range.mpr (Heap.lt_size e'),by simp [q]⟩
  have z:(hidT h H).get? b=none:=PySem.W.hideAll_none (trk h H) hm
  rw [z] at e;cases e
def allNews(g h:Heap)(L:Addr):List (Addr × Obj):=(List.range h.objs.size).filterMap fun a=>if a=L∨(g.get? a).isSome=true then none else (h.get? a).map fun o=>(a,o)
def rest(g h:Heap)(L d:Addr):List (Addr × Obj):=(allNews g h L).filter fun p=>decide (p.1≠d)
end L2
namespace L2
open PySem PySem.Spec PyProof.Rows
structure Mod(K:PySem.W.Frag)(mg:Str→Option Value)(base:Heap):Prop where
 kin:K.In base
 glob:base.Ns mainGlobals mg
 blt:∃mb,base.Ns builtinsNs mb∧∀x:Str,x≠"__name__"→mb x=bootBuiltins x
 nolimit:base.NoLimit
 bmn:∃bm ob,mg "__builtins__"=some (.ref bm)∧bm≠builtinsNs∧base.get? bm=some ob∧ob.cls=.type "module"∧ob.dict=some builtinsNs∧ob.data=.plain
structure Cx where
 prog:Program
 w:World
 K:PySem.W.Frag
 mg:Str→Option Value
 base:Heap
 A:Around
 N:List Str
 s₀:Shared
 H₀:Hp
 env:Env
 outer:List Env
 stack:List Env
 ex:List Addr
 fn:Str→Bool
 calm:Bool
 pn:List (Addr × Obj)
 xe:Value→Shared→Prop
def frs(l:List Env):List Addr:=l.filterMap (·.frame)
abbrev Cx.fs(X:Cx):List Addr:=frs X.outer
def Vis(sc:Scope)(x:Str):Prop:=sc.names.lookup x=some .local∨sc.names.lookup x=some .cell∨sc.names.lookup x=some .free
def Loc(sc:Scope)(x:Str):Prop:=sc.names.lookup x=some .local∨sc.names.lookup x=some .cell
def Look(env:Env)(h:Heap)(m:Str→Option Value)(x:Str)(u:Value):Prop :=
 (env.kindOf x=some .local∧m x=some u)∨((env.kindOf x=some .cell∨env.kindOf x=some .free)∧∃c,env.cells.lookup x=some c∧h.IsCell c (some u))
structure Cx.Ok(X:Cx):Prop where
 mod:Mod X.K X.mg X.base
 kind:X.env.scope.kind=.function
 glob:X.env.globals=mainGlobals
 blt:X.env.builtins=builtinsNs
 above:X.s₀.heap.objs.size≤X.env.locals
 inj:∀x y c,X.env.cells.lookup x=some c→X.env.cells.lookup y=some c→x=y
 has:∀x,(X.env.kindOf x=some .cell∨X.env.kindOf x=some .free)→∃c,X.env.cells.lookup x=some c
 cab:∀x c,X.fn x=true→X.env.cells.lookup x=some c→X.s₀.heap.objs.size≤c
 hd:X.calm=true→X.A.handled=none
 frames:X.A.frames=some X.stack
 stk:X.stack=X.outer∨(X.stack=X.env::X.outer∧X.env.frame=some X.env.locals)
 exf:∀b∈X.ex,b≠X.env.locals∧∀x c,X.env.cells.lookup x=some c→c≠b
 bs:∀b o,X.base.get? b=some o→X.s₀.heap.get? b=some o∧X.H₀ b=none
 bsz:X.base.objs.size≤X.s₀.heap.objs.size
 noex:∀b o,X.base.get? b=some o→b∉X.ex
 exfs:∀b∈X.ex,b∉X.fs
 funs:X.s₀.heap.FunFrames X.base X.outer
 frf:∀b∈X.fs,X.H₀ b=none
structure Inv(X:Cx)(pins:List (Addr × Obj))(σ:List (Option V))(H:Hp)(s:Shared):Prop where
 ok:X.Ok
 os:s.os=X.s₀.os
 bare:AllBare s.gens
 base:Un X.fs X.ex X.H₀ H X.s₀.heap s.heap
 loc:∃m,s.heap.Ns X.env.locals m∧∀(i:Nat) (x:Str) (v:V),X.N[i]?=some x→σ[i]?=some (some v)→Vis X.env.scope x→∃u,RelV v u∧Look X.env s.heap m x u
 cell:∀x c,X.env.cells.lookup x=some c→∃v,s.heap.IsCell c v
 free:H X.env.locals=none
 freeC:∀x c,X.env.cells.lookup x=some c→H c=none
 pin:∀p∈X.pn++pins,s.heap.get? p.1=some p.2∧H p.1=none∧p.1≠X.env.locals∧p.1∉X.fs∧∀v,p.2.data≠.cell v
 hok:HOk X.prog X.w H s.heap
 len:σ.length=X.N.length
section
variable{X:Cx}{pins:List (Addr × Obj)}{σ:List (Option V)}{H H':Hp}{s:Shared}{h':Heap}
theorem Cx.Ok.nofr(ok:X.Ok){b:Addr}{o:Obj}(e:X.base.get? b=some o):b∉X.fs:=fun hb=>by
 have:=(ok.funs.mem hb).1
 rw [e] at this;cases this
theorem Inv.bs(I:Inv X pins σ H s):∀b o,X.base.get? b=some o→s.heap.get? b=some o∧H b=none:=fun b o e =>
 ⟨I.base.keep b o (I.ok.bs b o e).1 (I.ok.bs b o e).2 (I.ok.nofr e) (I.ok.noex b o e),I.base.free b o (I.ok.bs b o e).1 (I.ok.bs b o e).2 (I.ok.noex b o e)⟩
theorem Inv.bk(I:Inv X pins σ H s):∀b o,X.base.get? b=some o→s.heap.get? b=some o:=fun b o e=>(I.bs b o e).1
theorem Inv.mod(I:Inv X pins σ H s):Mod X.K X.mg X.base:=I.ok.mod
theorem Inv.kIn(I:Inv X pins σ H s):X.K.In s.heap:=I.ok.mod.kin.keeps I.bk
theorem Inv.lt(I:Inv X pins σ H s):X.env.locals < s.heap.objs.size:=let ⟨_,hn,_⟩:=I.loc;hn.lt
theorem Inv.sz(I:Inv X pins σ H s):X.s₀.heap.objs.size≤s.heap.objs.size:=Nat.le_trans I.ok.above (Nat.le_of_lt I.lt)
theorem Inv.nofs(I:Inv X pins σ H s){a:Addr}(h:s.heap.objs.size≤a):a∉X.fs:=fun hb=>by
 obtain⟨_,o,ho,_⟩:=I.ok.funs.mem hb
 exact absurd (Nat.lt_of_lt_of_le (Heap.lt_size ho) (Nat.le_trans I.sz h)) (Nat.lt_irrefl _)
theorem Inv.cne(I:Inv X pins σ H s):∀x c,X.env.cells.lookup x=some c→c≠X.env.locals:=fun x c e z=>by
 obtain⟨v,o,ho,hd⟩:=I.cell x c e
 obtain⟨m,⟨o',es,ep,ho',hd',_⟩,_⟩:=I.loc
 rw [z,ho'] at ho;cases ho;rw [hd'] at hd;cases hd
theorem Inv.funs(I:Inv X pins σ H s):s.heap.FunFrames X.base X.outer:=by
 have all:∀(l:List Env),(∀b∈frs l,b∈X.fs)→X.s₀.heap.FunFrames X.base l→s.heap.FunFrames X.base l:=by
  intro l
  induction l with
  |nil=>intro _ _;trivial
  |cons env r ih =>
   intro hs hl
   obtain⟨hk,⟨L,o,hf,hn,ho,hd⟩,hr⟩:=hl
   have hL:L∈X.fs:=hs L (by unfold frs;rw [List.filterMap_cons,hf];exact List.mem_cons_self)
   obtain⟨sl,e⟩:=I.base.slot L o ho (I.ok.frf L hL) hL fun z=>I.ok.exfs L z hL
   exact⟨hk,⟨L,_,hf,hn,e,hd⟩,ih (fun b hb=>hs b (by unfold frs;rw [List.filterMap_cons,hf];exact List.mem_cons_of_mem _ hb)) hr⟩
 exact all X.outer (fun _ hb=>hb) I.ok.funs
theorem Inv.stack(I:Inv X pins σ H s):s.heap.FunFrames X.base X.stack:=by
 rcases I.ok.stk with e|⟨e,hf⟩
 ·rw [e];exact I.funs
 ·rw [e]
  obtain⟨m,hn,_⟩:=I.loc
  refine .cons (by rw [I.ok.kind];decide) hf hn ?_ I.funs
  exact Heap.get?_none_of_le (Nat.le_trans I.ok.bsz I.ok.above)
theorem Inv.stkSub(I:Inv X pins σ H s):∀b∈frs X.stack,b∈X.env.locals::X.fs:=fun b hb=>by
 rcases I.ok.stk with e|⟨e,hf⟩
 ·rw [e] at hb;exact List.mem_cons_of_mem _ hb
 ·rw [e] at hb
  unfold frs at hb
  rw [List.filterMap_cons,hf] at hb
  exact hb
theorem Inv.stkFree(I:Inv X pins σ H s):∀b∈frs X.stack,H b=none:=fun b hb=>by
 rcases List.mem_cons.mp (I.stkSub b hb) with e|hb
 ·rw [e];exact I.free
 ·obtain⟨_,o,ho,_⟩:=I.ok.funs.mem hb
  exact I.base.free b o ho (I.ok.frf b hb) fun z=>I.ok.exfs b z hb
theorem Inv.step{g':Array GenState}{t':Nat}{d':Drawn}{ch:List Addr}(I:Inv X pins σ H s)
  (hch:∀b∈ch,(b∈X.ex∨X.s₀.heap.objs.size≤b)∧b≠X.env.locals∧(∀x c,X.env.cells.lookup x=some c→c≠b)∧∀p∈X.pn++pins,p.1≠b)
  (keep:∀b o,b≠X.env.locals→b∉X.fs→b∉ch→s.heap.get? b=some o→H b=none→h'.get? b=some o)
  (slot:∀b o,b≠X.env.locals→b∈X.fs→b∉ch→s.heap.get? b=some o→H b=none→∃sl,h'.get? b=some { o with slots:=sl }) (free:∀b o,b∉ch→s.heap.get? b=some o→H b=none→H' b=none)
  (there:∀b o,b∉ch→s.heap.get? b=some o→∃o',h'.get? b=some o')
  (tups:∀b xs,H b=some (.tup xs)→H' b=some (.tup xs)) (frzs:∀b o u,H b=some (.frz o u)→H' b=some (.frz o u)) (tbls:∀b ps,H b=some (.tbl ps)→∃more,H' b=some (.tbl (ps++more)))
  (ns:∀m,s.heap.Ns X.env.locals m→h'.Ns X.env.locals m) (hok:HOk X.prog X.w H' h') (hg:AllBare g') :
  Inv X pins σ H' { s with heap:=h',gens:=g',drawn:=d',toks:=t' }:=by
 have neL:∀b o,X.s₀.heap.get? b=some o→b≠X.env.locals:=fun b o e=>Nat.ne_of_lt (Nat.lt_of_lt_of_le (Heap.lt_size e) I.ok.above)
 have neC:∀b o,X.s₀.heap.get? b=some o→b∉X.ex→b∉ch:=fun b o e hx hb=>by
  rcases (hch b hb).1 with z|z
  ·exact hx z
  ·exact absurd (Nat.lt_of_lt_of_le (Heap.lt_size e) z) (Nat.lt_irrefl _)
 have cellK:∀x c,X.env.cells.lookup x=some c→∀v,s.heap.IsCell c v→h'.IsCell c v:=fun x c e v ⟨o,ho,hd⟩=>by
  have nch:c∉ch:=fun z=>(hch c z).2.2.1 x c e rfl
  by_cases hc:c∈X.fs
  ·obtain⟨sl,q⟩:=slot c o (I.cne x c e) hc nch ho (I.freeC x c e)
   exact⟨_,q,hd⟩
  ·exact⟨o,keep c o (I.cne x c e) hc nch ho (I.freeC x c e),hd⟩
 refine⟨I.ok,I.os,hg,⟨fun b o e n hb hx=>?_,fun b o e n hb hx=>?_,fun b o e n hx=>?_,fun b o e hx=>?_,fun b xs e=>tups b xs (I.base.tups b xs e),fun b o xs e=>frzs b o xs (I.base.frzs b o xs e),fun b ps e=>?_⟩,?_,fun x c e=>?_,?_,fun x c e=>?_,fun p hp=>?_,hok,I.len⟩
 ·exact keep b o (neL b o e) hb (neC b o e hx) (I.base.keep b o e n hb hx) (I.base.free b o e n hx)
 ·obtain⟨sl,e1⟩:=I.base.slot b o e n hb hx
  obtain⟨sl',e2⟩:=slot b _ (neL b o e) hb (neC b o e hx) e1 (I.base.free b o e n hx)
  exact⟨sl',e2⟩
 ·obtain⟨o',e1⟩:=I.base.there b o e hx
  exact free b o' (neC b o e hx) e1 (I.base.free b o e n hx)
 ·obtain⟨o',e1⟩:=I.base.there b o e hx
  exact there b o' (neC b o e hx) e1
 ·obtain⟨m1,e1⟩:=I.base.tbls b ps e
  obtain⟨m2,e2⟩:=tbls b _ e1
  exact⟨m1++m2,by rw [e2,Array.append_assoc]⟩
 ·obtain⟨m,hn,hl⟩:=I.loc
  refine⟨m,ns m hn,fun i x v e1 e2 e3=>?_⟩
  obtain⟨u,r,l⟩:=hl i x v e1 e2 e3
  refine⟨u,r,?_⟩
  rcases l with l|⟨k,c,e,z⟩
  ·exact .inl l
  ·exact .inr ⟨k,c,e,cellK x c e _ z⟩
 ·obtain⟨v,z⟩:=I.cell x c e
  exact⟨v,cellK x c e v z⟩
 ·obtain⟨m,⟨o,_,_,ho,_⟩,_⟩:=I.loc
  exact free _ o (fun z=>(hch _ z).2.1 rfl) ho I.free
 ·obtain⟨v,o,ho,hd⟩:=I.cell x c e
  exact free c o (fun z=>(hch c z).2.2.1 x c e rfl) ho (I.freeC x c e)
 ·obtain⟨e,n,ne,nf,d⟩:=I.pin p hp
  have nch:p.1∉ch:=fun z=>(hch p.1 z).2.2.2 p hp rfl
  exact⟨keep p.1 p.2 ne nf nch e n,free p.1 p.2 nch e n,ne,nf,d⟩
theorem Inv.un{t':Nat}(I:Inv X pins σ H s)(u:Un X.fs [] H H' s.heap h')(hok:HOk X.prog X.w H' h'):Inv X pins σ H' { s with heap:=h',toks:=t' }:=by
 obtain⟨m,⟨o,es,ep,ho,r⟩,_⟩:=id I.loc
 obtain⟨sl,hL⟩:=u.any ho I.free (by simp)
 exact I.step (g':=s.gens) (d':=s.drawn) (ch:=[]) (fun _ z=>nomatch z) (fun b o _ hb _ e n=>u.keep b o e n hb (by simp)) (fun b o _ hb _ e n=>u.slot b o e n hb (by simp)) (fun b o _ e n=>u.free b o e n (by simp)) (fun b o _ e=>u.there b o e (by simp)) u.tups u.frzs u.tbls (fun m' hm=>by
  obtain⟨o',es',ep',ho',r'⟩:=hm
  rw [ho] at ho';cases ho'
  exact⟨_,es',ep',hL,r'⟩) hok I.bare
theorem Inv.call{g':Array GenState}{t':Nat}{d':Drawn}{ch:List Addr}(I:Inv X pins σ H s)(u:Un (frs X.stack) ch H H' s.heap h')(hok:HOk X.prog X.w H' h')(hg:AllBare g')
  (hch:∀b∈ch,(b∈X.ex∨X.s₀.heap.objs.size≤b)∧b≠X.env.locals∧(∀x c,X.env.cells.lookup x=some c→c≠b)∧∀p∈X.pn++pins,p.1≠b) :
  Inv X pins σ H' { s with heap:=h',gens:=g',drawn:=d',toks:=t' }:=by
 obtain⟨m,⟨o,es,ep,ho,r⟩,_⟩:=id I.loc
 obtain⟨sl,hL⟩:=u.any ho I.free fun z=>(hch _ z).2.1 rfl
 exact I.step (ch:=ch) hch (fun b o hL hb hc e n=>u.keep b o e n (fun z=>(List.mem_cons.mp (I.stkSub b z)).elim hL hb) hc) (fun b o _ _ hc e n=>u.any e n hc) (fun b o hc e n=>u.free b o e n hc) (fun b o hc e=>u.there b o e hc) u.tups u.frzs u.tbls (fun m' hm=>by
  obtain⟨o',es',ep',ho',r'⟩:=hm
  rw [ho] at ho';cases ho'
  exact⟨_,es',ep',hL,r'⟩) hok hg
theorem Inv.turned{t':Nat}{it:Addr}(I:Inv X pins σ H s)(k:∀b o,b≠it→s.heap.get? b=some o→h'.get? b=some o)(hn:H it=none)(hL:it≠X.env.locals)
  (h1:it∈X.ex∨X.s₀.heap.objs.size≤it) (h2:∀x c,X.env.cells.lookup x=some c→c≠it) (h3:∀p∈X.pn++pins,p.1≠it):Inv X pins σ H { s with heap:=h',toks:=t' }:=by
 have nit:∀b u,H b=some u→b≠it:=fun b u e z=>by rw [z,hn] at e;cases e
 refine I.step (g':=s.gens) (d':=s.drawn) (ch:=[it]) (fun b hb=>?_) (fun b o _ _ hc e _=>k b o (fun z=>hc (by simp [z])) e) (fun b o _ _ hc e _=>⟨o.slots,k b o (fun z=>hc (by simp [z])) e⟩) (fun _ _ _ _ n=>n)
  (fun b o hc e=>⟨o,k b o (fun z=>hc (by simp [z])) e⟩) (fun _ _ e=>e) (fun _ _ _ e=>e) (fun b ps e=>⟨#[],by rw [e];simp⟩) (fun m hm=>?_) (fun b u e=>?_) I.bare
 ·have e:b=it:=by simpa using hb
  subst e
  exact⟨h1,hL,h2,h3⟩
 ·obtain⟨o,es,ep,ho,r⟩:=hm
  exact⟨o,es,ep,k _ o (Ne.symm hL) ho,r⟩
 ·refine(I.hok b u e).stay (fun c v hc q=>k c v ?_ q) (fun _ q=>q) fun _ _ q=>q
  rcases hc with z|z
  ·rw [z];exact nit b u e
  ·exact nit c _ z
theorem Inv.tok(I:Inv X pins σ H s)(t:Nat):Inv X pins σ H { s with toks:=t }:=I.un (h':=s.heap) (t':=t) Un.refl I.hok
theorem Inv.kept{t':Nat}(I:Inv X pins σ H s)(k:∀b u,s.heap.get? b=some u→h'.get? b=some u):Inv X pins σ H { s with heap:=h',toks:=t' }:=I.un (Un.kept k) (I.hok.kept k)
theorem Inv.laid{a:Addr}{o:HO}{t':Nat}(I:Inv X pins σ H s)(k:∀b u,s.heap.get? b=some u→h'.get? b=some u)(hp:s.heap.objs.size≤a)(new:ObjOk X.prog X.w (upd H a o) h' a o) :
  Inv X pins σ (upd H a o) { s with heap:=h',toks:=t' }:=I.un (Un.laid k hp (I.hok.fresh hp)) (I.hok.laid k hp new)
theorem Inv.write{x e:Addr}{o:HO}{t':Nat}(I:Inv X pins σ H s)(mu:Mut (H x))(he:e=x∨H e=some (.own x))(k:∀b u,b≠e→s.heap.get? b=some u→h'.get? b=some u)(heo:∃u,h'.get? e=some u)
  (new:ObjOk X.prog X.w (upd H x o) h' x o):Inv X pins σ (upd H x o) { s with heap:=h',toks:=t' }:=I.un (Un.write mu he k heo) (I.hok.write mu he k heo new)
theorem Inv.weak{σ':List (Option V)}(I:Inv X pins σ H s)(hl:σ'.length=σ.length)(w:∀(i:Nat) v,σ'[i]?=some (some v)→σ[i]?=some (some v)):Inv X pins σ' H s :=
 ⟨I.ok,I.os,I.bare,I.base,let ⟨m,hn,hl'⟩:=I.loc;⟨m,hn,fun i x v e1 e2 e3=>hl' i x v e1 (w i v e2) e3⟩,I.cell,I.free,I.freeC,I.pin,I.hok,hl.trans I.len⟩
theorem Inv.pins_of{pins':List (Addr × Obj)}(I:Inv X pins σ H s)(h:∀p∈pins',s.heap.get? p.1=some p.2∧H p.1=none∧p.1≠X.env.locals∧p.1∉X.fs∧∀v,p.2.data≠.cell v):Inv X pins' σ H s :=
 ⟨I.ok,I.os,I.bare,I.base,I.loc,I.cell,I.free,I.freeC,fun p hp=>(List.mem_append.mp hp).elim (fun z=>I.pin p (List.mem_append_left _ z)) (h p),I.hok,I.len⟩
theorem nodup_ix{N:List Str}(hN:N.Nodup){i j:Nat}{x:Str}(a:N[i]?=some x)(b:N[j]?=some x):i=j:=by
 obtain⟨h1,e1⟩:=List.getElem?_eq_some_iff.mp a
 obtain⟨h2,e2⟩:=List.getElem?_eq_some_iff.mp b
 exact(List.getElem_inj hN).mp (e1.trans e2.symm)
theorem store_ok2{M:Model}{A:Around}{E:Value→Shared→Prop}{i:Nat}{x:Str}{v:V}{u:Value}{Q:Unit→Shared→Prop}(I:Inv X pins σ H s)(hN:X.N.Nodup)(hi:X.N[i]?=some x)(hx:Loc X.env.scope x)(r:RelV v u)
  (h:∀s',Inv X pins (σ.set i (some v)) H s'→(∃a,Heap.SameBut a s.heap s'.heap∧(a=X.env.locals∨X.env.cells.lookup x=some a))→Q () s') (hf:X.fn x=true∨X.env.scope.names.lookup x=some .local:=by first|exact .inl rfl|exact .inr rfl|assumption):wpAny M A (storeName X.env x u) Q E s:=by
 obtain⟨m,hn,hl⟩:=id I.loc
 have hcls:(X.env.scope.kind==.class||(X.env.scope.kind==.module&&X.env.locals != X.env.globals))=false:=by rw [I.ok.kind];rfl
 have hiσ:i < σ.length:=by rw [I.len];exact(List.getElem?_eq_some_iff.mp hi).1
 have cne:=I.cne
 have tracked:∀{a:Addr} {h':Heap},(∃o,s.heap.get? a=some o∧H a=none)→Heap.SameBut a s.heap h'→HOk X.prog X.w H h':=fun {a h'} ha hs b ob e=>by
  obtain⟨_,_,hfree⟩:=ha
  refine(I.hok b ob e).stay (fun c w' hc q=>(hs.2 c ?_).trans q) (fun _ q=>q) fun _ _ q=>q
  rintro rfl
  rcases hc with rfl|hc
  ·rw [hfree] at e;cases e
  ·rw [hfree] at hc;cases hc
 rcases hx with hk|hk
 ·refine wpAny_storeName_local hk hn (fun h' hn' hs=>?_) hcls
  obtain⟨oL,_,_,hoL,_⟩:=id hn
  refine h _ ⟨I.ok,I.os,I.bare,⟨fun b o e n hb hx=>?_,fun b o e n hb hx=>?_,I.base.free,fun b o e hx=>?_,I.base.tups,I.base.frzs,I.base.tbls⟩,⟨_,hn',fun j y v' e1 e2 e3=>?_⟩,fun y c e=>?_,I.free,I.freeC,fun p hp=>?_,tracked ⟨oL,hoL,I.free⟩ hs,by simpa using I.len⟩ ⟨_,hs,.inl rfl⟩
  ·exact(hs.2 b (Nat.ne_of_lt (Nat.lt_of_lt_of_le (Heap.lt_size e) I.ok.above))).trans (I.base.keep b o e n hb hx)
  ·obtain⟨sl,e1⟩:=I.base.slot b o e n hb hx
   exact⟨sl,(hs.2 b (Nat.ne_of_lt (Nat.lt_of_lt_of_le (Heap.lt_size e) I.ok.above))).trans e1⟩
  ·obtain⟨o',e1⟩:=I.base.there b o e hx
   exact⟨o',(hs.2 b (Nat.ne_of_lt (Nat.lt_of_lt_of_le (Heap.lt_size e) I.ok.above))).trans e1⟩
  ·by_cases hj:j=i
   ·subst hj
    rw [hi] at e1;cases e1
    rw [List.getElem?_set_self hiσ] at e2
    cases e2
    exact⟨u,r,.inl ⟨hk,by simp⟩⟩
   ·rw [List.getElem?_set_ne (Ne.symm hj)] at e2
    obtain⟨u',r',q⟩:=hl j y v' e1 e2 e3
    refine⟨u',r',?_⟩
    rcases q with ⟨k,e⟩|⟨k,c,e,z⟩
    ·refine .inl ⟨k,?_⟩
     have:y≠x:=fun e=>hj (nodup_ix hN e1 (e▸hi))
     simp [this,e]
    ·exact .inr ⟨k,c,e,z.sameBut hs (cne y c e)⟩
  ·obtain⟨w',z⟩:=I.cell y c e
   exact⟨w',z.sameBut hs (cne y c e)⟩
  ·obtain⟨e,n,ne,nf,d⟩:=I.pin p hp
   exact⟨(hs.2 p.1 ne).trans e,n,ne,nf,d⟩
 ·have hfn:X.fn x=true:=by
   rcases hf with z|z
   ·exact z
   ·rw [z] at hk;cases hk
  obtain⟨c,hc⟩:=I.ok.has x (.inl hk)
  obtain⟨w',z⟩:=I.cell x c hc
  refine wpAny_storeName_cell I.ok.kind hk hc z (fun h' hc' hs=>?_)
  obtain⟨oc,hoc,hocd⟩:=id z
  refine h { s with heap:=h' } ⟨I.ok,I.os,I.bare,⟨fun b o e n hb hx=>?_,fun b o e n hb hx=>?_,I.base.free,fun b o e hx=>?_,I.base.tups,I.base.frzs,I.base.tbls⟩,⟨m,hn.sameBut hs (Ne.symm (cne x c hc)),fun j y v' e1 e2 e3=>?_⟩,fun y c' e=>?_,I.free,I.freeC,fun p hp=>?_,tracked ⟨oc,hoc,I.freeC x c hc⟩ hs,by simpa using I.len⟩ ⟨c,hs,.inr hc⟩
  ·exact(hs.2 b (Nat.ne_of_lt (Nat.lt_of_lt_of_le (Heap.lt_size e) (I.ok.cab x c hfn hc)))).trans (I.base.keep b o e n hb hx)
  ·obtain⟨sl,e1⟩:=I.base.slot b o e n hb hx
   exact⟨sl,(hs.2 b (Nat.ne_of_lt (Nat.lt_of_lt_of_le (Heap.lt_size e) (I.ok.cab x c hfn hc)))).trans e1⟩
  ·obtain⟨o',e1⟩:=I.base.there b o e hx
   exact⟨o',(hs.2 b (Nat.ne_of_lt (Nat.lt_of_lt_of_le (Heap.lt_size e) (I.ok.cab x c hfn hc)))).trans e1⟩
  ·by_cases hj:j=i
   ·subst hj
    rw [hi] at e1;cases e1
    rw [List.getElem?_set_self hiσ] at e2
    cases e2
    exact⟨u,r,.inr ⟨.inl hk,c,hc,hc'⟩⟩
   ·rw [List.getElem?_set_ne (Ne.symm hj)] at e2
    obtain⟨u',r',q⟩:=hl j y v' e1 e2 e3
    refine⟨u',r',?_⟩
    rcases q with q|⟨k,c',e,z'⟩
    ·exact .inl q
    ·refine .inr ⟨k,c',e,z'.sameBut hs ?_⟩
     rintro rfl
     exact hj (nodup_ix hN e1 (I.ok.inj _ _ _ e hc▸hi))
  ·by_cases hcc:c'=c
   ·subst hcc;exact⟨_,hc'⟩
   ·obtain⟨w2,z2⟩:=I.cell y c' e
    exact⟨w2,z2.sameBut hs hcc⟩
  ·obtain⟨e,n,ne,nf,d⟩:=I.pin p hp
   refine⟨(hs.2 p.1 ?_).trans e,n,ne,nf,d⟩
   intro q
   rw [q,hoc] at e
   have q':oc=p.2:=Option.some.inj e
   exact d w' (by rw [←q'];exact hocd)
theorem store_ok{M:Model}{A:Around}{E:Value→Shared→Prop}{i:Nat}{x:Str}{v:V}{u:Value}{Q:Unit→Shared→Prop}(I:Inv X pins σ H s)(hN:X.N.Nodup)(hi:X.N[i]?=some x)(hx:Loc X.env.scope x)(r:RelV v u)
  (h:∀s',Inv X pins (σ.set i (some v)) H s'→Q () s') (hf:X.fn x=true∨X.env.scope.names.lookup x=some .local:=by first|exact .inl rfl|exact .inr rfl|assumption):wpAny M A (storeName X.env x u) Q E s :=
 store_ok2 I hN hi hx r (fun s' I' _=>h s' I') hf
theorem Inv.call'{s':Shared}{ch:List Addr}(I:Inv X pins σ H s)(ho:s'.os=s.os)(u:Un (frs X.stack) ch H H' s.heap s'.heap)(hok:HOk X.prog X.w H' s'.heap)(hg:AllBare s'.gens)
  (hch:∀b∈ch,(b∈X.ex∨X.s₀.heap.objs.size≤b)∧b≠X.env.locals∧(∀x c,X.env.cells.lookup x=some c→c≠b)∧∀p∈X.pn++pins,p.1≠b):Inv X pins σ H' s':=by
 obtain⟨h',g',d',t',o'⟩:=s'
 have e:o'=s.os:=ho
 subst e
 exact I.call (g':=g') (t':=t') (d':=d') u hok hg hch
end
abbrev XK:=Value→Option Addr→Hp→Prop
abbrev St:=List (Option V)
abbrev VK:=V→Hp→Prop
abbrev TE:=St→Hp→VK→Prop
abbrev TT:=St→Hp→(Bool→Hp→Prop)→Prop
abbrev TA:=St→Hp→(List V→Hp→Prop)→Prop
structure Ends where
 nx:St→Hp→Prop
 rt:VK
 bk:St→Hp→Prop:=fun _ _=>False
 ct:St→Hp→Prop:=fun _ _=>False
abbrev TS:=Ends→St→Hp→Prop
def EP(X:Cx)(pins:List (Addr × Obj))(σ:St)(Q:VK)(u:Value)(s':Shared):Prop:=∃v H',Inv X pins σ H' s'∧RelV v u∧Q v H'
def TP(X:Cx)(pins:List (Addr × Obj))(σ:St)(Q:Bool→Hp→Prop)(b:Bool)(s':Shared):Prop:=∃H',Inv X pins σ H' s'∧Q b H'
def AP(X:Cx)(pins:List (Addr × Obj))(σ:St)(Q:List V→Hp→Prop)(us:List Value)(s':Shared):Prop:=∃vs H',Inv X pins σ H' s'∧Vals vs us∧Q vs H'
def SP(X:Cx)(pins:List (Addr × Obj))(D:Ends)(f:Flow)(s':Shared):Prop :=
 match f with
 |.next=>∃σ' H',Inv X pins σ' H' s'∧D.nx σ' H'
 |.brk=>∃σ' H',Inv X pins σ' H' s'∧D.bk σ' H'
 |.cont=>∃σ' H',Inv X pins σ' H' s'∧D.ct σ' H'
 |.ret u=>∃v σ' H',Inv X pins σ' H' s'∧RelV v u∧D.rt v H'
def PE(X:Cx)(e:Expr)(t:TE):Prop :=
 ∀(pins:List (Addr × Obj)) (s:Shared) (σ:St) (H:Hp) (Q:VK),Inv X pins σ H s→t σ H Q→wpAny (model X.prog X.w) X.A (eval e X.env) (EP X pins σ Q) X.xe s
def PT(X:Cx)(e:Expr)(t:TT):Prop :=
 ∀(pins:List (Addr × Obj)) (s:Shared) (σ:St) (H:Hp) (Q:Bool→Hp→Prop),Inv X pins σ H s→t σ H Q→wpAny (model X.prog X.w) X.A (isTrue e X.env (eval e X.env)) (TP X pins σ Q) X.xe s
def PW(X:Cx)(e:Expr)(t:TT):Prop :=
 ∀(whole:Sem Value) (pins:List (Addr × Obj)) (s:Shared) (σ:St) (H:Hp) (Q:Bool→Hp→Prop),Inv X pins σ H s→t σ H Q→wpAny (model X.prog X.w) X.A (isTrue e X.env whole) (TP X pins σ Q) X.xe s
theorem PW.pt{X:Cx}{e:Expr}{t:TT}(h:PW X e t):PT X e t:=h _
def PA(X:Cx)(es:List Expr)(t:TA):Prop :=
 ∀(pos:Pos) (pins:List (Addr × Obj)) (s:Shared) (σ:St) (H:Hp) (Q:List V→Hp→Prop),Inv X pins σ H s→t σ H Q→wpAny (model X.prog X.w) X.A (spliced (backTo pos (starEach es X.env))) (AP X pins σ Q) X.xe s
def PS(X:Cx)(st:Stmt)(t:TS):Prop :=
 ∀(pins:List (Addr × Obj)) (s:Shared) (σ:St) (H:Hp) (D:Ends),Inv X pins σ H s→t D σ H→wpAny (model X.prog X.w) X.A (exec st X.env) (SP X pins D) X.xe s
def PSs(X:Cx)(st:List Stmt)(t:TS):Prop :=
 ∀(pins:List (Addr × Obj)) (s:Shared) (σ:St) (H:Hp) (D:Ends),Inv X pins σ H s→t D σ H→wpAny (model X.prog X.w) X.A (execs st X.env) (SP X pins D) X.xe s
theorem thn{α:Type}{t:Sem α}{Q Q':α→Shared→Prop}{M:Model}{A:Around}{E:Value→Shared→Prop}{s:Shared}(h:wpAny M A t Q E s)(hQ:∀a s,Q a s→Q' a s):wpAny M A t Q' E s:=wpAny_mono h hQ fun _ _ x=>x
end L2
namespace L2
open PySem PySem.Spec PyProof.Rows
section
variable{X:Cx}
inductive Wi (i:Nat) (σ:St) (H:Hp) (Q:VK):Prop
 |mk (v:V) (h:σ[i]?=some (some v)) (q:Q v H)
def tVar(i:Nat):TE:=fun σ H Q=>Wi i σ H Q
def tC(v:V):TE:=fun _ H Q=>Q v H
theorem pe_var{i:Nat}{x:Str}{pos:Pos}(hN:X.N[i]?=some x)(hv:Vis X.env.scope x) (hd:(x==("__debug__":Str))=false:=by decide) (hcd:(x==("__classdict__":Str))=false:=by decide):PE X (.Name x pos) (tVar i):=by
 intro pins s σ H Q I h
 obtain⟨v,e,h⟩:=h
 obtain⟨m,hn,hl⟩:=I.loc
 obtain⟨u,r,l⟩:=hl i x v hN e hv
 have fin:EP X pins σ Q u s:=⟨v,H,I,r,h⟩
 rcases l with ⟨hk,hm⟩|⟨hk,c,hc,hcell⟩
 ·exact wpAny_Name (wpAny_loadName_local I.ok.kind hk hn hm fin) hd
 ·rcases hk with hk|hk
  ·exact wpAny_Name (wpAny_loadName_cell I.ok.kind hk hc hcell fin) hd
  ·exact wpAny_Name (wpAny_loadName_free I.ok.kind hk hc hcell fin hcd) hd
theorem pe_int{i j pos}:PE X (.Constant (.int i) j pos) (tC (.int i)):=fun _ _ _ H _ I h=>wpAny_Constant_int ⟨.int i,H,I.tok _,⟨_,rfl⟩,h⟩
theorem pe_bl{b j pos}:PE X (.Constant (.bool b) j pos) (tC (.bl b)):=fun _ _ _ H _ I h=>Constant_bool ⟨.bl b,H,I,rfl,h⟩
theorem pe_non{j pos}:PE X (.Constant .none j pos) (tC .non):=fun _ _ _ H _ I h=>Constant_none ⟨.non,H,I,rfl,h⟩
theorem pe_str{x j pos}:PE X (.Constant (.str x) j pos) (tC (.str x)):=fun _ _ _ H _ I h=>Calls.Constant_str ⟨.str x,H,I.tok _,⟨_,rfl⟩,h⟩
def Gl(X:Cx)(x:Str):Prop:=X.env.kindOf x=some .globalImplicit
theorem ld_glob{E:Value→Shared→Prop}{pins:List (Addr × Obj)}{s:Shared}{σ:St}{H:Hp}{x:Str}{u:Value}{pos:Pos}{Q:Value→Shared→Prop}(I:Inv X pins σ H s)(hg:Gl X x)(hm:X.mg x=some u)(h:Q u s)
  (hd:(x==("__debug__":Str))=false:=by decide):wpAny (model X.prog X.w) X.A (eval (.Name x pos) X.env) Q E s :=
 Calls.Name_function_global I.ok.kind hg (Calls.loadGlobal_global (by rw [I.ok.glob];exact I.mod.glob.keeps I.bk) hm h) hd
theorem ld_blt{E:Value→Shared→Prop}{pins:List (Addr × Obj)}{s:Shared}{σ:St}{H:Hp}{x:Str}{u:Value}{pos:Pos}{Q:Value→Shared→Prop}(I:Inv X pins σ H s)(hg:Gl X x)(hm:X.mg x=none)(hv:bootBuiltins x=some u)(h:Q u s)
  (hn:x≠"__name__":=by decide) (hd:(x==("__debug__":Str))=false:=by decide):wpAny (model X.prog X.w) X.A (eval (.Name x pos) X.env) Q E s:=by
 obtain⟨mb,h1,h2⟩:=I.mod.blt
 exact Calls.Name_function_global I.ok.kind hg (Calls.loadGlobal_builtin (by rw [I.ok.glob];exact I.mod.glob.keeps I.bk) hm (by rw [I.ok.blt];exact h1.keeps I.bk) ((h2 x hn).trans hv) h) hd
theorem pe_glob{x:Str}{v:V}{u:Value}{pos:Pos}(hg:Gl X x)(hm:X.mg x=some u)(r:RelV v u) (hd:(x==("__debug__":Str))=false:=by decide):PE X (.Name x pos) (tC v) :=
 fun _ _ _ H _ I h=>ld_glob I hg hm ⟨v,H,I,r,h⟩ hd
theorem pe_bltn{x:Str}{v:V}{u:Value}{pos:Pos}(hg:Gl X x)(hm:X.mg x=none)(hv:bootBuiltins x=some u)(r:RelV v u) (hn:x≠"__name__":=by decide) (hd:(x==("__debug__":Str))=false:=by decide):PE X (.Name x pos) (tC v) :=
 fun _ _ _ H _ I h=>ld_blt I hg hm hv ⟨v,H,I,r,h⟩ hn hd
variable{a b:Expr}{ta tb:TE}{pos:Pos}
def PC(X:Cx)(op:CmpOp)(a b:Expr)(t:TE):Prop :=
 ∀(pins:List (Addr × Obj)) (s:Shared) (σ:St) (H:Hp) (Q:VK),Inv X pins σ H s→t σ H Q →
  wpAny (model X.prog X.w) X.A (eval a X.env) (fun v s₁=>wpAny (model X.prog X.w) X.A (eval b X.env) (fun u s₂=>wpAny (model X.prog X.w) X.A (compareOp op v u) (EP X pins σ Q) X.xe s₂) X.xe s₁) X.xe s
inductive Wb (x:V) (H:Hp) (Q:Bool→Hp→Prop):Prop
 |mk (c:Bool) (h:x=.bl c) (q:Q c H)
def tB(t:TE):TT:=fun σ H Q=>t σ H fun x H1=>Wb x H1 Q
theorem pt_cmp{op:CmpOp}{t:TE}(h:PC X op a b t)(h1:behindInMarks op b=false:=by first|exact nobehind _ (by decide) (by decide)|rfl):PT X (.Compare a [op] [b] pos) (tB t):=by
 intro pins s σ H Q I hw
 refine wpAny_isTrue_Compare1 (thn (h pins s σ H _ I hw) fun v s1 h1=>thn h1 fun u s2 h2=>thn h2 fun c s3 ⟨x,H1,I1,r1,q1⟩=>?_) h1
 obtain⟨d,rfl,q⟩:=q1
 cases r1
 exact wpAny_truthy_bool ⟨H1,I1,q⟩
theorem pt_val{e:Expr}{t:TE}(h:PE X e t)(he:∀whole,isTrue e X.env whole=(do let v ←whole;standAt e.pos;holding [v] (truthy v)):=by intro _;rfl):PT X e (tB t):=by
 intro pins s σ H Q I hw
 refine isTrue_plain (thn (h pins s σ H _ I hw) fun v s1 ⟨x,H1,I1,r1,q1⟩=>?_) (he _)
 obtain⟨d,rfl,q⟩:=q1
 cases r1
 exact wpAny_truthy_bool ⟨H1,I1,q⟩
variable{tA tB':TT}{rest:List Expr}
def tAnd(t u:TT):TT:=fun σ H Q=>t σ H fun c H1=>if c=true then u σ H1 Q else Q false H1
def tOr(t u:TT):TT:=fun σ H Q=>t σ H fun c H1=>if c=true then Q true H1 else u σ H1 Q
def tNot(t:TT):TT:=fun σ H Q=>t σ H fun c H1=>Q (!c) H1
theorem pw_and1(ha:PT X a tA):PW X (.BoolOp .And [a] pos) tA:=by
 intro wh pins s σ H Q I h
 refine isTrue_and (thn (ha pins s σ H Q I h) fun c s1 e=>?_)
 cases c with
 |true=>exact isTrue_and_nil e
 |false=>exact e
theorem pw_or1(ha:PT X a tA):PW X (.BoolOp .Or [a] pos) tA:=by
 intro wh pins s σ H Q I h
 refine isTrue_or (thn (ha pins s σ H Q I h) fun c s1 e=>?_)
 cases c with
 |false=>exact isTrue_or_nil e
 |true=>exact e
theorem pw_and(ha:PT X a tA)(hb:PW X (.BoolOp .And (b::rest) pos) tB'):PW X (.BoolOp .And (a::b::rest) pos) (tAnd tA tB'):=by
 intro wh pins s σ H Q I h
 refine isTrue_and (thn (ha pins s σ H _ I h) fun c s1 ⟨H1,I1,q1⟩=>?_)
 cases c with
 |true=>exact hb wh pins s1 σ H1 Q I1 q1
 |false=>exact⟨H1,I1,q1⟩
theorem pw_or(ha:PT X a tA)(hb:PW X (.BoolOp .Or (b::rest) pos) tB'):PW X (.BoolOp .Or (a::b::rest) pos) (tOr tA tB'):=by
 intro wh pins s σ H Q I h
 refine isTrue_or (thn (ha pins s σ H _ I h) fun c s1 ⟨H1,I1,q1⟩=>?_)
 cases c with
 |true=>exact⟨H1,I1,q1⟩
 |false=>exact hb wh pins s1 σ H1 Q I1 q1
theorem pt_not(ha:PT X a tA):PT X (.UnaryOp .Not a pos) (tNot tA):=by
 intro pins s σ H Q I h
 exact isTrue_not (ha pins s σ H (fun c H1=>Q (!c) H1) I h)
def tAndV(ta tb:TE):TE:=fun σ H Q=>ta σ H fun x H1=>∃c,x=.bl c∧if c=true then tb σ H1 Q else Q (.bl false) H1
def tNotV(ta:TE):TE:=fun σ H Q=>ta σ H fun x H1=>∃c,x=.bl c∧Q (.bl (!c)) H1
theorem pe_one{op}{t:TE}(h:PE X a t):PE X (.BoolOp op [a] pos) t:=fun pins s σ H Q I hw=>BoolOp_one (h pins s σ H Q I hw)
theorem pe_and(ha:PE X a ta)(hb:PE X (.BoolOp .And (b::rest) pos) tb):PE X (.BoolOp .And (a::b::rest) pos) (tAndV ta tb):=by
 intro pins s σ H Q I h
 refine BoolOp_and (thn (ha pins s σ H _ I h) fun v s1 ⟨x,H1,I1,r1,q1⟩=>?_)
 obtain⟨c,rfl,q1⟩:=q1
 cases r1
 refine wpAny_truthy_bool ?_
 cases c with
 |true=>exact hb pins s1 σ H1 Q I1 q1
 |false=>exact⟨.bl false,H1,I1,rfl,q1⟩
theorem pe_not(ha:PE X a ta):PE X (.UnaryOp .Not a pos) (tNotV ta):=by
 intro pins s σ H Q I h
 refine UnaryOp_ (thn (ha pins s σ H _ I h) fun v s1 ⟨x,H1,I1,r1,q1⟩=>?_)
 obtain⟨c,rfl,q1⟩:=q1
 cases r1
 exact not_of (wpAny_truthy_bool ⟨.bl (!c),H1,I1,rfl,q1⟩)
def tIf(t:TT)(ta tb:TE):TE:=fun σ H Q=>t σ H fun c H1=>if c=true then ta σ H1 Q else tb σ H1 Q
theorem pe_ifExp{c:Expr}(hc:PT X c tA)(ha:PE X a ta)(hb:PE X b tb):PE X (.IfExp c a b pos) (tIf tA ta tb):=by
 intro pins s σ H Q I h
 refine wpAny_IfExp (thn (hc pins s σ H _ I h) fun d s1 ⟨H1,I1,q1⟩=>?_)
 cases d with
 |true=>exact ha pins s1 σ H1 Q I1 q1
 |false=>exact hb pins s1 σ H1 Q I1 q1
end
end L2
namespace L2
open PySem PySem.Spec PyProof.Rows
def SqL(K:PySem.W.Frag)(H:Hp)(a:Addr)(xs:List V):Prop :=
 Rd H a (.lst xs) ∨
  ∃(o:Obj) (its:Array Value) (n:Nat),K.lookup a=some o∧o.cls=.type "list"∧o.dict=none∧o.data=.seq its n∧its.size≤sizeLine∧Vals xs its.toList
def SqT(K:PySem.W.Frag)(H:Hp)(a:Addr)(xs:List V):Prop :=
 Rd H a (.tup xs) ∨
  ∃(o:Obj) (its:Array Value) (n:Nat),K.lookup a=some o∧o.cls=.type "tuple"∧o.data=.seq its n∧its.size≤sizeLine∧Vals xs its.toList
def absV:Value→Option V
 |.none=>some .non
 |.bool b=>some (.bl b)
 |.int i _=>some (.int i)
 |.str x _=>some (.str x)
 |.bytes b _=>some (.byt b)
 |.float b _=>some (.flt b)
 |.ref a=>some (.ref a)
 |.type n=>some (.ty n)
 |_=>none
theorem RelV.abs{x:V}{u:Value}(r:RelV x u):absV u=some x:=by
 cases x with
 |non=>cases r;rfl
 |bl _=>cases r;rfl
 |int _=>obtain⟨t,rfl⟩:=r;rfl
 |str _=>obtain⟨t,rfl⟩:=r;rfl
 |byt _=>obtain⟨t,rfl⟩:=r;rfl
 |flt _=>obtain⟨t,rfl⟩:=r;rfl
 |ref _=>cases r;rfl
 |ty _=>cases r;rfl
theorem RelV.inj{x y:V}{u:Value}(r:RelV x u)(q:RelV y u):x=y:=Option.some.inj (r.abs.symm.trans q.abs)
theorem Vals.inj:∀{xs ys:List V} {us:List Value},Vals xs us→Vals ys us→xs=ys
 |_,_,_,.nil,.nil=>rfl
 |_,_,_,.cons r t,.cons r' t'=>by rw [r.inj r',Vals.inj t t']
section
variable{X:Cx}{pins:List (Addr × Obj)}{σ:St}{H:Hp}{s:Shared}{a:Addr}{xs ys:List V}
theorem SqL.of{K:PySem.W.Frag}(h:H a=some (.lst xs)):SqL K H a xs:=.inl (.inl h)
theorem SqT.of{K:PySem.W.Frag}(h:H a=some (.tup xs)):SqT K H a xs:=.inl (.inl h)
theorem Inv.list(I:Inv X pins σ H s)(h:SqL X.K H a xs):∃its:List Value,Vals xs its∧PlainL s.heap a its.toArray∧xs.length≤sizeLine:=by
 rcases h with h|⟨o,its,n,hk,hc,hd,hs,hz,r⟩
 ·obtain⟨z,its,n,r,e⟩:=h.ok I.hok
  exact⟨its,r,⟨_,n,e,rfl,rfl,rfl⟩,z⟩
 ·refine⟨its.toList,r,⟨o,n,I.kIn a o hk,hc,hd,by simpa using hs⟩,?_⟩
  have e:=r.length
  simp only [Array.length_toList] at e
  omega
theorem Inv.tuple(I:Inv X pins σ H s)(h:SqT X.K H a xs):∃its:List Value,Vals xs its∧IsTup s.heap a its.toArray∧xs.length≤sizeLine:=by
 rcases h with h|⟨o,its,n,hk,hc,hs,hz,r⟩
 ·obtain⟨z,its,r,p⟩:=h.ok I.hok
  exact⟨its,r,p,z⟩
 ·refine⟨its.toList,r,⟨o,I.kIn a o hk,hc,n,by simpa using hs⟩,?_⟩
  have e:=r.length
  simp only [Array.length_toList] at e
  omega
theorem Inv.list_inj(I:Inv X pins σ H s)(h:SqL X.K H a xs)(h':SqL X.K H a ys):xs=ys:=by
 obtain⟨its,r,⟨o,n,e,_,_,d⟩,_⟩:=I.list h
 obtain⟨its',r',⟨o',n',e',_,_,d'⟩,_⟩:=I.list h'
 rw [e] at e';cases e'
 rw [d] at d'
 injection d' with d1 _
 have:its=its':=by simpa using congrArg Array.toList d1
 subst this
 exact r.inj r'
theorem Inv.tuple_inj(I:Inv X pins σ H s)(h:SqT X.K H a xs)(h':SqT X.K H a ys):xs=ys:=by
 obtain⟨its,r,⟨o,e,_,n,d⟩,_⟩:=I.tuple h
 obtain⟨its',r',⟨o',e',_,n',d'⟩,_⟩:=I.tuple h'
 rw [e] at e';cases e'
 rw [d] at d'
 injection d' with d1 _
 have:its=its':=by simpa using congrArg Array.toList d1
 subst this
 exact r.inj r'
end
abbrev Cx.wish(X:Cx)(E:Value→Shared→Prop):Cx:={ X with xe:=E }
abbrev Cx.nox(X:Cx):Cx:=X.wish fun _ _=>False
theorem Cx.Ok.wish{X:Cx}(ok:X.Ok)(E:Value→Shared→Prop):(X.wish E).Ok :=
 ⟨ok.mod,ok.kind,ok.glob,ok.blt,ok.above,ok.inj,ok.has,ok.cab,ok.hd,ok.frames,ok.stk,ok.exf,ok.bs,ok.bsz,ok.noex,ok.exfs,ok.funs,ok.frf⟩
theorem Cx.Ok.unwish{X:Cx}{E:Value→Shared→Prop}(ok:(X.wish E).Ok):X.Ok :=
 ⟨ok.mod,ok.kind,ok.glob,ok.blt,ok.above,ok.inj,ok.has,ok.cab,ok.hd,ok.frames,ok.stk,ok.exf,ok.bs,ok.bsz,ok.noex,ok.exfs,ok.funs,ok.frf⟩
section
variable{X:Cx}{pins:List (Addr × Obj)}{σ:St}{H:Hp}{s:Shared}{E:Value→Shared→Prop}
theorem Inv.wish(I:Inv X pins σ H s)(E:Value→Shared→Prop):Inv (X.wish E) pins σ H s:=⟨I.ok.wish E,I.os,I.bare,I.base,I.loc,I.cell,I.free,I.freeC,I.pin,I.hok,I.len⟩
theorem Inv.unwish(I:Inv (X.wish E) pins σ H s):Inv X pins σ H s:=⟨I.ok.unwish,I.os,I.bare,I.base,I.loc,I.cell,I.free,I.freeC,I.pin,I.hok,I.len⟩
theorem SP.unwish{D:Ends}{f:Flow}{s':Shared}(h:SP (X.wish E) pins D f s'):SP X pins D f s':=by
 cases f with
 |next=>obtain⟨σ',H',I,q⟩:=h;exact⟨σ',H',I.unwish,q⟩
 |brk=>obtain⟨σ',H',I,q⟩:=h;exact⟨σ',H',I.unwish,q⟩
 |cont=>obtain⟨σ',H',I,q⟩:=h;exact⟨σ',H',I.unwish,q⟩
 |ret u=>obtain⟨v,σ',H',I,r,q⟩:=h;exact⟨v,σ',H',I.unwish,r,q⟩
theorem PSs.nox{st:List Stmt}{t:TS}(h:PSs X.nox st t):PSs X st t:=fun pins s σ H D I hw =>
 wpAny_mono (h pins s σ H D (I.wish _) hw) (fun _ _ q=>q.unwish) fun _ _ z=>False.elim z
end
section
variable{X:Cx}{st:Stmt}{rest:List Stmt}{t u:TS}{e:Expr}{te:TE}{pos:Pos}
def tNext:TS:=fun D σ H=>D.nx σ H
def tSeq(t u:TS):TS:=fun D σ H=>t { D with nx:=u D } σ H
theorem pss_nil:PSs X [] tNext:=fun _ _ σ H _ I h=>wpAny_execs_nil ⟨σ,H,I,h⟩
theorem pss_cons(h1:PS X st t)(h2:PSs X rest u):PSs X (st::rest) (tSeq t u):=by
 intro pins s σ H D I h
 refine wpAny_execs_cons (thn (h1 pins s σ H { D with nx:=u D } I h) fun f s1 q=>?_)
 cases f with
 |next =>
  obtain⟨σ',H',I',q⟩:=q
  exact h2 pins s1 σ' H' D I' q
 |ret v=>exact q
 |brk=>exact q
 |cont=>exact q
theorem pss_one(h1:PS X st t):PSs X [st] t:=by
 intro pins s σ H D I h
 refine wpAny_execs_cons (thn (h1 pins s σ H D I h) fun f s1 q=>?_)
 cases f with
 |next=>exact wpAny_execs_nil q
 |ret v=>exact q
 |brk=>exact q
 |cont=>exact q
theorem Inv.quiet{pins:List (Addr × Obj)}{σ:St}{H:Hp}{s:Shared}(I:Inv X pins σ H s):interactive X.env=false:=by simp [interactive,I.ok.kind]
def tDrop(te:TE):TS:=fun D σ H=>te σ H fun _ H1=>D.nx σ H1
theorem ps_expr(he:PE X e te)(hs:swapsWith e none pos.line X.env=pure false:=by rfl):PS X (.Expr e pos) (tDrop te):=by
 intro pins s σ H D I h
 exact wpAny_Expr_any (thn (he pins s σ H _ I h) fun v s1 ⟨x,H1,I1,r1,q1⟩=>⟨σ,H1,I1,q1⟩) I.quiet hs
def tRet(te:TE):TS:=fun D σ H=>te σ H D.rt
theorem ps_ret(he:PE X e te):PS X (.Return (some e) pos) (tRet te):=by
 intro pins s σ H D I h
 exact wpAny_Return_some (thn (he pins s σ H _ I h) fun v s1 ⟨x,H1,I1,r1,q1⟩=>⟨x,σ,H1,I1,r1,q1⟩)
def tIfS(c:TT)(t u:TS):TS:=fun D σ H=>c σ H fun b H1=>if b=true then t D σ H1 else u D σ H1
theorem ps_if{c:Expr}{a b:List Stmt}{tc:TT}(hc:PT X c tc)(ha:PSs X a t)(hb:PSs X b u):PS X (.If c a b pos) (tIfS tc t u):=by
 intro pins s σ H D I h
 refine wpAny_If (thn (hc pins s σ H _ I h) fun d s1 ⟨H1,I1,q1⟩=>?_)
 cases d with
 |true=>exact ha pins s1 σ H1 D I1 q1
 |false=>exact hb pins s1 σ H1 D I1 q1
end
abbrev TG:=V→St→Hp→(St→Hp→Prop)→Prop
abbrev TGs:=List V→St→Hp→(St→Hp→Prop)→Prop
def PG(X:Cx)(target:Expr)(t:TG):Prop :=
 ∀(pins:List (Addr × Obj)) (s:Shared) (σ:St) (H:Hp) (v:V) (u:Value) (Q:St→Hp→Prop),Inv X pins σ H s→RelV v u→t v σ H Q →
  wpAny (model X.prog X.w) X.A (assign target X.env u) (fun _ s'=>∃σ' H',Inv X pins σ' H' s'∧Q σ' H') X.xe s
def PGs(X:Cx)(ts:List Expr)(t:TGs):Prop :=
 ∀(pins:List (Addr × Obj)) (s:Shared) (σ:St) (H:Hp) (vs:List V) (us:List Value) (Q:St→Hp→Prop),Inv X pins σ H s→Vals vs us→t vs σ H Q →
  wpAny (model X.prog X.w) X.A (assignInOrder ((assignEach ts X.env).map (·.2)) us) (fun _ s'=>∃σ' H',Inv X pins σ' H' s'∧Q σ' H') X.xe s
abbrev TSet:=V→V→V→Hp→(Hp→Prop)→Prop
def PSet(X:Cx)(t:TSet):Prop :=
 ∀(pins:List (Addr × Obj)) (s:Shared) (σ:St) (H:Hp) (o i v:V) (ov iv u:Value) (Q:Hp→Prop),Inv X pins σ H s→RelV o ov→RelV i iv→RelV v u→t o i v H Q →
  wpAny (model X.prog X.w) X.A (setItem ov iv u) (fun _ s'=>∃H',Inv X pins σ H' s'∧Q H') X.xe s
abbrev TIp:=V→V→Hp→VK→Prop
def PIp(X:Cx)(op:Operator)(t:TIp):Prop :=
 ∀(pins:List (Addr × Obj)) (s:Shared) (σ:St) (H:Hp) (x y:V) (v u:Value) (Q:VK),Inv X pins σ H s→RelV x v→RelV y u→t x y H Q →
  wpAny (model X.prog X.w) X.A (inplaceOp op v u) (EP X pins σ Q) X.xe s
section
variable{X:Cx}{pos:Pos}
def gName(i:Nat):TG:=fun v σ H Q=>Q (σ.set i (some v)) H
theorem pg_name{i:Nat}{x:Str}(hN:X.N.Nodup)(hi:X.N[i]?=some x)(hx:Loc X.env.scope x)(hf:X.fn x=true∨X.env.scope.names.lookup x=some .local:=by first|exact .inl rfl|exact .inr rfl|assumption):PG X (.Name x pos) (gName i):=by
 intro pins s σ H v u Q I r h
 exact wpAny_assign_Name (store_ok I hN hi hx r (fun s' I'=>⟨_,H,I',h⟩) hf)
def gNil:TGs:=fun vs σ H Q=>vs=[]∧Q σ H
inductive Wc (t:TG) (u:TGs) (vs:List V) (σ:St) (H:Hp) (Q:St→Hp→Prop):Prop
 |mk (v:V) (r:List V) (h:vs=v::r) (q:t v σ H fun σ' H'=>u r σ' H' Q)
def gCons(t:TG)(u:TGs):TGs:=fun vs σ H Q=>Wc t u vs σ H Q
theorem pgs_nil:PGs X [] gNil:=by
 intro pins s σ H vs us Q I r h
 obtain⟨e,h⟩:=h
 subst e
 cases r
 exact assignInOrder_nil ⟨σ,H,I,h⟩
theorem pgs_cons{e:Expr}{es:List Expr}{t:TG}{u:TGs}(h1:PG X e t)(h2:PGs X es u)
  (hs:(assignEach (e::es) X.env).map (·.2)=assign e X.env::(assignEach es X.env).map (·.2):=by rfl):PGs X (e::es) (gCons t u):=by
 intro pins s σ H vs us Q I r h
 obtain⟨v,vr,e1,h⟩:=h
 subst e1
 cases r with
 |cons r rr =>
  rw [hs]
  refine assignInOrder_cons (thn (h1 pins s σ H _ _ _ I r h) fun _ s1 ⟨σ1,H1,I1,q1⟩=>?_)
  exact h2 pins s1 σ1 H1 _ _ Q I1 rr q1
def gTup(K:PySem.W.Frag)(n:Nat)(t:TGs):TG:=fun v σ H Q=>∃a xs,v=.ref a∧SqT K H a xs∧xs.length=n∧t xs σ H Q
theorem pg_tup{es:List Expr}{k:Nat}{t:TGs}{n:Nat}(hc:X.calm=true)(h:PGs X es t)
  (hn:(assignEach es X.env).length=n:=by rfl) (hst:(assignEach es X.env).findIdx? (·.1)=none:=by rfl):PG X (.Tuple es k pos) (gTup X.K n t):=by
 intro pins s σ H v u Q I r hw
 obtain⟨a,xs,e1,hq,hl,hw⟩:=hw
 subst e1
 cases r
 obtain⟨its,rv,ht,hz⟩:=I.tuple hq
 refine assign_Tuple_tuple (I.ok.hd hc) ht (by simp [hn,←hl,rv.length]) hst fun h' hx=>?_
 have I1:Inv X pins σ H { s with heap:=h' }:=I.kept (t':=s.toks) fun b o e=>hx b o (Nat.ne_of_lt (Heap.lt_size e)) e
 exact h pins _ σ H xs _ Q I1 (by simpa using rv) hw
def gSub(to ti:TE)(t:TSet):TG:=fun v σ H Q=>to σ H fun o H1=>ti σ H1 fun i H2=>t o i v H2 fun H3=>Q σ H3
theorem pg_sub{o i:Expr}{to ti:TE}{t:TSet}(ho:PE X o to)(hi:PE X i ti)(hs:PSet X t)
  (ha:∀v,assign (.Subscript o i pos) X.env v=(do
   let ov ←holding [v] (eval o X.env)
   let iv ←holding [v,ov] (eval i X.env)
   standAt pos
   holding [v,ov,iv] (setItem ov iv v)
   release [v,ov,iv] []):=by intro _;rfl):PG X (.Subscript o i pos) (gSub to ti t):=by
 intro pins s σ H v u Q I r h
 rw [ha]
 refine wpAny_bind (wpAny_holding (thn (ho pins s σ H _ I h) fun ov s1 ⟨x,H1,I1,r1,q1⟩=>?_))
 refine wpAny_bind (wpAny_holding (thn (hi pins s1 σ H1 _ I1 q1) fun iv s2 ⟨y,H2,I2,r2,q2⟩=>?_))
 refine wpAny_bind (wpAny_standAt (wpAny_bind (wpAny_holding (thn (hs pins s2 σ H2 x y v ov iv u _ I2 r1 r2 r q2) fun _ s3 ⟨H3,I3,q3⟩=>?_))))
 exact wpAny_release ⟨σ,H3,I3,q3⟩
def tAsg(te:TE)(g:TG):TS:=fun D σ H=>te σ H fun x H1=>g x σ H1 D.nx
theorem ps_asg{tg e:Expr}{te:TE}{g:TG}(he:PE X e te)(hg:PG X tg g)(hs:swapsWithSole [tg] e pos.line X.env=pure false:=by rfl)(hw:swappedStores [tg] e X.env=pure none:=by rfl)
  (h1:(assignEach [tg] X.env).map (·.2)=[assign tg X.env]:=by rfl):PS X (.Assign [tg] e pos) (tAsg te g):=by
 intro pins s σ H D I h
 refine wpAny_Assign_stores (thn (he pins s σ H _ I h) fun v s1 ⟨x,H1,I1,r1,q1⟩=>?_) hs hw
 rw [h1]
 exact thn (hg pins s1 σ H1 x v _ I1 r1 q1) fun _ s2 q=>q
theorem ps_set{i:Nat}{x:Str}{e:Expr}{te:TE}{pos':Pos}(hN:X.N.Nodup)(hi:X.N[i]?=some x)(hx:Loc X.env.scope x)(he:PE X e te)(hs:swapsWith e (some (.Name x pos')) pos.line X.env=pure false:=by rfl)(hf:X.fn x=true∨X.env.scope.names.lookup x=some .local:=by first|exact .inl rfl|exact .inr rfl|assumption) :
  PS X (.Assign [.Name x pos'] e pos) (tAsg te (gName i)):=by
 intro pins s σ H D I h
 refine wpAny_Assign_Name (thn (he pins s σ H _ I h) fun v s1 ⟨y,H1,I1,r1,q1⟩=>?_) hs
 exact store_ok I1 hN hi hx r1 (fun s2 I2=>⟨_,H1,I2,q1⟩) hf
def tAug(i:Nat)(te:TE)(ti:TIp):TS:=fun D σ H=>∃x,σ[i]?=some (some x)∧te σ H fun y H1=>ti x y H1 fun z H2=>D.nx (σ.set i (some z)) H2
theorem ps_aug{i:Nat}{x:Str}{e:Expr}{te:TE}{op:Operator}{ti:TIp}{pos':Pos}(hN:X.N.Nodup)(hi:X.N[i]?=some x)(hx:Loc X.env.scope x)(he:PE X e te)(ho:PIp X op ti)(hf:X.fn x=true∨X.env.scope.names.lookup x=some .local:=by first|exact .inl rfl|exact .inr rfl|assumption) :
  PS X (.AugAssign (.Name x pos') op e pos) (tAug i te ti):=by
 intro pins s σ H D I h
 obtain⟨v,e1,h⟩:=h
 obtain⟨m,hn,hl⟩:=I.loc
 have vis:Vis X.env.scope x:=by rcases hx with k|k;exact .inl k;exact .inr (.inl k)
 obtain⟨u,r,l⟩:=hl i x v hi e1 vis
 refine wpAny_AugAssign_Name ?_
 have go:wpAny (model X.prog X.w) X.A (eval e X.env) (fun w s₂=>wpAny (model X.prog X.w) X.A (inplaceOp op u w) (fun r s₃=>wpAny (model X.prog X.w) X.A (storeName X.env x r) (fun _=>SP X pins D .next) X.xe s₃) X.xe s₂) X.xe s:=by
  refine thn (he pins s σ H _ I h) fun w s1 ⟨y,H1,I1,r1,q1⟩=>?_
  refine thn (ho pins s1 σ H1 v y u w _ I1 r r1 q1) fun z s2 ⟨zv,H2,I2,r2,q2⟩=>?_
  exact store_ok I2 hN hi hx r2 (fun s3 I3=>⟨_,H2,I3,q2⟩) hf
 rcases l with ⟨hk,hm⟩|⟨hk,c,hc,hcell⟩
 ·exact wpAny_loadName_local I.ok.kind hk hn hm go
 ·rcases hk with hk|hk
  ·exact wpAny_loadName_cell I.ok.kind hk hc hcell go
  ·rcases hx with k|k
   ·have:X.env.scope.names.lookup x=some .free:=hk
    rw [k] at this;cases this
   ·have:X.env.scope.names.lookup x=some .free:=hk
    rw [k] at this;cases this
def ipI(f:Int→Int→Int):TIp:=fun x y H Q=>∃i j,x=.int i∧y=.int j∧Q (.int (f i j)) H
theorem ip_add:PIp X .Add (ipI fun i j=>i+j):=by
 intro pins s σ H x y v u Q I r1 r2 h
 obtain⟨i,j,e1,e2,q⟩:=h
 subst e1;subst e2
 obtain⟨t,rfl⟩:=r1
 obtain⟨t',rfl⟩:=r2
 exact iadd_int ⟨.int _,H,I.tok _,⟨_,rfl⟩,q⟩
end
section
variable{X:Cx}{pos:Pos}
def tWhile(c:TT)(tb:TS):TS:=fun D σ H=>∃W:Nat→St→Hp→Prop,(∃m,W m σ H)∧∀m σ H,W m σ H →
 c σ H fun b H1=>if b=true then ∃N:St→Hp→Prop,(∀σ' H',N σ' H'→∃m',m' < m∧W m' σ' H')∧tb { D with nx:=N,ct:=N,bk:=D.nx } σ H1 else D.nx σ H1
theorem ps_while{c:Expr}{body:List Stmt}{tc:TT}{tb:TS}(hp:PassesOwn (model X.prog X.w) X.A X.env X.xe)(hc:PT X c tc)(hb:PSs X body tb):PS X (.While c body [] pos) (tWhile tc tb):=by
 intro pins s σ H D I h
 obtain⟨W,⟨m0,w0⟩,turn⟩:=h
 refine wpAny_While (codeAny_whileLoop (fun n s'=>∃σ' H',Inv X pins σ' H' s'∧W n σ' H') ?_ m0 ⟨σ,H,I,w0⟩)
 rintro n s1 ⟨σ1,H1,I1,w1⟩
 refine wpAny_passesOwn hp (thn (hc pins s1 σ1 H1 _ I1 (turn n σ1 H1 w1)) fun b s2 ⟨H2,I2,q2⟩=>?_)
 cases b with
 |true =>
  obtain⟨N,hN,q2⟩:=q2
  rw [if_pos rfl]
  refine wpAny_passesOwn hp (thn (hb pins s2 σ1 H2 _ I2 q2) fun f s3 q3=>?_)
  cases f with
  |next =>
   obtain⟨σ3,H3,I3,n3⟩:=q3
   obtain⟨m',hm,w3⟩:=hN σ3 H3 n3
   exact⟨m',hm,σ3,H3,I3,w3⟩
  |cont =>
   obtain⟨σ3,H3,I3,n3⟩:=q3
   obtain⟨m',hm,w3⟩:=hN σ3 H3 n3
   exact⟨m',hm,σ3,H3,I3,w3⟩
  |brk=>exact q3
  |ret v=>exact q3
 |false =>
  rw [if_neg Bool.false_ne_true]
  exact wpAny_execs_nil ⟨σ1,H2,I2,q2⟩
end
structure It where
 go:Nat→Hp→Prop
 yld:Nat→Hp→V→Hp→Prop
 stop:Nat→Hp→Prop
def FpOk(X:Cx)(pins:List (Addr × Obj))(H:Hp)(b:Addr):Prop :=
 H b=none∧b≠X.env.locals∧b∉X.fs∧(b∈X.ex∨X.s₀.heap.objs.size≤b)∧(∀x c,X.env.cells.lookup x=some c→c≠b)∧∀p∈X.pn++pins,p.1≠b
theorem Inv.fpOk{X:Cx}{pins:List (Addr × Obj)}{σ:St}{H H':Hp}{s:Shared}{b:Addr}(I:Inv X pins σ H s)(hb:s.heap.objs.size≤b)(hn:H' b=none):FpOk X pins H' b:=by
 refine⟨hn,Nat.ne_of_gt (Nat.lt_of_lt_of_le I.lt hb),I.nofs hb,.inr (Nat.le_trans I.sz hb),fun x c e z=>?_,fun p hp z=>?_⟩
 ·obtain⟨v,q⟩:=I.cell x c e
  exact absurd (Nat.lt_of_lt_of_le q.lt (by rw [z];exact hb)) (Nat.lt_irrefl _)
 ·exact absurd (Nat.lt_of_lt_of_le (Heap.lt_size (I.pin p hp).1) (by rw [z];exact hb)) (Nat.lt_irrefl _)
structure Turn(P:Program)(w:World)(K:PySem.W.Frag)(tg:Expr)(J:It)(fp:List Addr)(it:Addr)(tn:Nat→Heap→Prop):Prop where
 mem:it∈fp
 obj:∀i h,tn i h→∀b∈fp,∃o,h.get? b=some o∧∀v,o.data≠.cell v
 keep:∀i h h',tn i h→(∀b∈fp,∀o,h.get? b=some o→h'.get? b=some o)→tn i h'
 item:∀(X:Cx),X.prog=P→X.w=w→X.K=K→X.calm=true→∀(i:Nat) (pins:List (Addr × Obj)) (s:Shared) (σ:St) (H:Hp) (E:Value→Shared→Prop),Inv X pins σ H s→(∀b∈fp,FpOk X pins H b)→tn i s.heap→J.go i H →
  wpAny (model P w) X.A (pyNext (.ref it)) (fun r s1=>∃u,r=some u ∧
   wpAny (model P w) X.A (letOwnedTupleGo tg (.ref it) u) (fun _ s2=>∃x H',Inv X pins σ H' s2∧RelV x u∧J.yld i H x H'∧tn (i+1) s2.heap∧∀b∈fp,H' b=none) E s1) E s
 done:∀(X:Cx),X.prog=P→X.w=w→X.K=K→X.calm=true→∀(i:Nat) (pins:List (Addr × Obj)) (s:Shared) (σ:St) (H:Hp) (E:Value→Shared→Prop),Inv X pins σ H s→(∀b∈fp,FpOk X pins H b)→tn i s.heap→J.stop i H →
  wpAny (model P w) X.A (pyNext (.ref it)) (fun r s1=>r=none∧Inv X pins σ H s1) E s
 self:∀(A:Around) (i:Nat) (s:Shared) (Q:Value→Shared→Prop) (E:Value→Shared→Prop),tn i s.heap→Q (.ref it) s→wpAny (model P w) A (pyIter (.ref it)) Q E s
abbrev TI:=St→Hp→(It→Hp→Prop)→Prop
def PIE(X:Cx)(pins:List (Addr × Obj))(σ:St)(tg:Expr)(R:It→Hp→Prop)(itv:Value)(s2:Shared):Prop :=
 ∃(it:Addr) (fp:List Addr) (tn:Nat→Heap→Prop) (J:It) (H':Hp),itv=.ref it∧Inv X pins σ H' s2∧Turn X.prog X.w X.K tg J fp it tn∧tn 0 s2.heap∧(∀b∈fp,FpOk X pins H' b)∧R J H'
def PI(X:Cx)(tg iter:Expr)(wi:TI):Prop :=
 ∀(pins:List (Addr × Obj)) (s:Shared) (σ:St) (H:Hp) (R:It→Hp→Prop),Inv X pins σ H s→wi σ H R →
  wpAny (model X.prog X.w) X.A (eval iter X.env) (fun v s1=>wpAny (model X.prog X.w) X.A (pyIter v) (PIE X pins σ tg R) X.xe s1) X.xe s
theorem go_of{M:Model}{A:Around}{E:Value→Shared→Prop}{s:Shared}{tg:Expr}{it:Addr}{u:Value}{o:Obj}{n:String}{vs:Array Value}{Q:Unit→Shared→Prop}(ho:s.heap.get? it=some o)(hc:o.cls=.type n)(hd:o.data=.fields vs)
    (hn:["enumerate","zip","dict_itemiterator","dict_reverseitemiterator","odict_iterator","itertools.zip_longest","itertools.pairwise"].contains n=false) (hQ:Q () s):wpAny M A (letOwnedTupleGo tg (.ref it) u) Q E s:=by
  unfold letOwnedTupleGo
  cases tg<;>first
    | exact wpAny_pure hQ
    | (cases u<;>first
        | exact wpAny_pure hQ
        | (refine wpAny_bind (wpAny_load ho ?_)
           rw [hc,hd]
           show wpAny M A (if (["enumerate","zip","dict_itemiterator","dict_reverseitemiterator","odict_iterator","itertools.zip_longest","itertools.pairwise"].contains n&&vs[0]?==some (rawInt _))=true then _ else _) Q E s
           rw [if_neg (by intro h;rw [hn,Bool.false_and] at h;cases h)]
           exact wpAny_pure hQ))
def Itl(K:PySem.W.Frag)(a:Addr):It :=
 ⟨fun i H=>∃xs x,SqL K H a xs∧xs[i]?=some x,fun i H x H'=>H'=H∧∀xs,SqL K H a xs→xs[i]?=some x,fun i H=>∃xs,SqL K H a xs∧xs.length≤i⟩
def Itt(K:PySem.W.Frag)(a:Addr):It :=
 ⟨fun i H=>∃xs x,SqT K H a xs∧xs[i]?=some x,fun i H x H'=>H'=H∧∀xs,SqT K H a xs→xs[i]?=some x,fun i H=>∃xs,SqT K H a xs∧xs.length≤i⟩
def Itr(lo:Int)(n:Nat):It:=⟨fun i _=>i < n,fun i H x H'=>H'=H∧x=.int (lo+i),fun i _=>n≤i⟩
theorem turn_list{P:Program}{w:World}{K:PySem.W.Frag}{tg:Expr}(a it:Addr):Turn P w K tg (Itl K a) [it] it (fun i h=>h.IsListIter it a i) where
 mem:=by simp
 obj:=fun i h st b hb=>by
  have e:b=it:=by simpa using hb
  subst e
  obtain⟨o,e,c,d⟩:=st
  exact⟨o,e,fun v z=>by rw [d] at z;cases z⟩
 keep:=fun i h h' st k=>st.at fun o e=>k it (by simp) o e
 item:=by
  intro X hP hw hK hc i pins s σ H E I hf st hg
  subst hP hw hK
  obtain⟨xs,x,hq,hx⟩:=hg
  obtain⟨its,rv,p,hz⟩:=I.list hq
  obtain⟨u,hu,ru⟩:=rv.get hx
  obtain⟨f0,f1,f2,f3,f4,f5⟩:=hf it (by simp)
  refine wpAny_pyNext_list_item st p.isList (x:=u) (by simpa using hu) fun h' st' sb=>?_
  have I1:Inv X pins σ H { s with heap:=h' }:=I.turned (t':=s.toks) (fun b o hb e=>(sb.2 b hb).trans e) f0 f1 f3 f4 f5
  obtain⟨o,e,c,d⟩:=id st'
  exact⟨u,rfl,go_of (s:={ s with heap:=h' }) e c d (by decide) ⟨x,H,I1,ru,⟨rfl,fun ys hy=>by rw [I.list_inj hy hq];exact hx⟩,st',fun b hb=>(hf b hb).1⟩⟩
 done:=by
  intro X hP hw hK hc i pins s σ H E I hf st hg
  subst hP hw hK
  obtain⟨xs,hq,hx⟩:=hg
  obtain⟨its,rv,p,hz⟩:=I.list hq
  obtain⟨f0,f1,f2,f3,f4,f5⟩:=hf it (by simp)
  have hl:=rv.length
  exact wpAny_pyNext_list_end (I.ok.hd hc) st p.isList (by simp;omega) fun h' eb=>⟨rfl,I.turned (t':=s.toks) (fun b o hb e=>eb b o hb e) f0 f1 f3 f4 f5⟩
 self:=fun _ _ _ _ _ st h=>wpAny_pyIter_listiter st h
theorem turn_tuple{P:Program}{w:World}{K:PySem.W.Frag}{tg:Expr}(a it:Addr):Turn P w K tg (Itt K a) [it] it (fun i h=>h.IsTupleIter it a i) where
 mem:=by simp
 obj:=fun i h st b hb=>by
  have e:b=it:=by simpa using hb
  subst e
  obtain⟨o,e,c,d⟩:=st
  exact⟨o,e,fun v z=>by rw [d] at z;cases z⟩
 keep:=fun i h h' st k=>st.at fun o e=>k it (by simp) o e
 item:=by
  intro X hP hw hK hc i pins s σ H E I hf st hg
  subst hP hw hK
  obtain⟨xs,x,hq,hx⟩:=hg
  obtain⟨its,rv,p,hz⟩:=I.tuple hq
  obtain⟨u,hu,ru⟩:=rv.get hx
  obtain⟨f0,f1,f2,f3,f4,f5⟩:=hf it (by simp)
  refine wpAny_pyNext_tuple_item st (show s.heap.IsTuple a its.toArray from p) (x:=u) (by simpa using hu) fun h' st' sb=>?_
  have I1:Inv X pins σ H { s with heap:=h' }:=I.turned (t':=s.toks) (fun b o hb e=>(sb.2 b hb).trans e) f0 f1 f3 f4 f5
  obtain⟨o,e,c,d⟩:=id st'
  exact⟨u,rfl,go_of (s:={ s with heap:=h' }) e c d (by decide) ⟨x,H,I1,ru,⟨rfl,fun ys hy=>by rw [I.tuple_inj hy hq];exact hx⟩,st',fun b hb=>(hf b hb).1⟩⟩
 done:=by
  intro X hP hw hK hc i pins s σ H E I hf st hg
  subst hP hw hK
  obtain⟨xs,hq,hx⟩:=hg
  obtain⟨its,rv,p,hz⟩:=I.tuple hq
  obtain⟨f0,f1,f2,f3,f4,f5⟩:=hf it (by simp)
  have hl:=rv.length
  exact wpAny_pyNext_tuple_end (I.ok.hd hc) st (show s.heap.IsTuple a its.toArray from p) (by simp;omega) fun h' eb=>⟨rfl,I.turned (t':=s.toks) (fun b o hb e=>eb b o hb e) f0 f1 f3 f4 f5⟩
 self:=fun _ _ _ _ _ st h=>wpAny_pyIter_tupleiter st h
theorem turn_range{P:Program}{w:World}{K:PySem.W.Frag}{tg:Expr}(it:Addr)(lo:Int)(n:Nat):Turn P w K tg (Itr lo n) [it] it (fun i h=>IsRangeIter h it (lo+(i:Nat)*1) ((n:Int) - (i:Nat)) 1) where
 mem:=by simp
 obj:=fun i h st b hb=>by
  have e:b=it:=by simpa using hb
  subst e
  exact⟨_,st,fun v z=>by
   have z':Data.fields _=Data.cell v:=z
   cases z'⟩
 keep:=fun i h h' st k=>k it (by simp) _ st
 item:=by
  intro X hP hw hK hc i pins s σ H E I hf st hg
  subst hP hw hK
  obtain⟨f0,f1,f2,f3,f4,f5⟩:=hf it (by simp)
  have W:=Walks.range (prog:=X.prog) (w:=X.w) (I.ok.hd hc) it lo 1 n
  refine W.item i s _ _ hg st fun v h' tk hv st' kk=>?_
  obtain⟨t,rfl⟩:=hv
  have I1:Inv X pins σ H { s with heap:=h',toks:=tk }:=I.turned (fun b o hb e=>kk b o (by simpa using hb) e) f0 f1 f3 f4 f5
  refine⟨_,rfl,go_of (s:={ s with heap:=h',toks:=tk }) (n:="range_iterator") st' rfl rfl (by decide) ⟨.int (lo+i),H,I1,⟨t,?_⟩,⟨rfl,rfl⟩,st',fun b hb=>(hf b hb).1⟩⟩
  rw [Int.mul_one]
 done:=by
  intro X hP hw hK hc i pins s σ H E I hf st hg
  subst hP hw hK
  obtain⟨f0,f1,f2,f3,f4,f5⟩:=hf it (by simp)
  exact wpAny_pyNext_range_end (I.ok.hd hc) st (by have:n≤i:=hg;omega) fun h' eb=>⟨rfl,I.turned (t':=s.toks) (fun b o hb e=>eb b o hb e) f0 f1 f3 f4 f5⟩
 self:=fun _ _ _ _ _ st h=>wpAny_pyIter_rangeiter st h
end L2
namespace L2
open PySem PySem.Spec PyProof.Rows
section
variable{X:Cx}{tg:Expr}
def iList(K:PySem.W.Frag)(tl:TE):TI:=fun σ H R=>tl σ H fun x H1=>∃a,x=.ref a∧(∃xs,SqL K H1 a xs)∧R (Itl K a) H1
def iTup(K:PySem.W.Frag)(tl:TE):TI:=fun σ H R=>tl σ H fun x H1=>∃a,x=.ref a∧(∃xs,SqT K H1 a xs)∧R (Itt K a) H1
theorem pi_list{l:Expr}{tl:TE}(hl:PE X l tl):PI X tg l (iList X.K tl):=by
 intro pins s σ H R I h
 refine thn (hl pins s σ H _ I h) fun v s1 ⟨x,H1,I1,r1,q1⟩=>?_
 obtain⟨a,e,⟨xs,hq⟩,q⟩:=q1
 subst e
 cases r1
 obtain⟨its,rv,p,hz⟩:=I1.list hq
 refine wpAny_pyIter_list p.isList ?_
 refine⟨s1.heap.objs.size,[s1.heap.objs.size],_,_,H1,rfl,I1.kept (t':=s1.toks) fun b o e=>Heap.get?_push_of_some _ e,turn_list a _,⟨_,Heap.get?_push_size _ rfl,rfl,rfl⟩,fun b hb=>?_,q⟩
 have e:b=s1.heap.objs.size:=by simpa using hb
 subst e
 exact I1.fpOk (Nat.le_refl _) (I1.hok.fresh (Nat.le_refl _))
theorem pi_tup{l:Expr}{tl:TE}(hl:PE X l tl):PI X tg l (iTup X.K tl):=by
 intro pins s σ H R I h
 refine thn (hl pins s σ H _ I h) fun v s1 ⟨x,H1,I1,r1,q1⟩=>?_
 obtain⟨a,e,⟨xs,hq⟩,q⟩:=q1
 subst e
 cases r1
 obtain⟨its,rv,p,hz⟩:=I1.tuple hq
 refine wpAny_pyIter_tuple (show s1.heap.IsTuple a its.toArray from p) ?_
 refine⟨s1.heap.objs.size,[s1.heap.objs.size],_,_,H1,rfl,I1.kept (t':=s1.toks) fun b o e=>Heap.get?_push_of_some _ e,turn_tuple a _,⟨_,Heap.get?_push_size _ rfl,rfl,rfl⟩,fun b hb=>?_,q⟩
 have e:b=s1.heap.objs.size:=by simpa using hb
 subst e
 exact I1.fpOk (Nat.le_refl _) (I1.hok.fresh (Nat.le_refl _))
theorem range_it{pins:List (Addr × Obj)}{σ:St}{H:Hp}{s:Shared}{R:It→Hp→Prop}{E:Value→Shared→Prop}{lo hi:Int}{t u v:Tok}{tk:Nat}(I:Inv X pins σ H s)(h1:-(2 ^ 62)≤lo)(h2:lo < 2 ^ 62)(h3:-(2 ^ 62)≤hi)(h4:hi < 2 ^ 62)
  (q:R (Itr lo (hi - lo).toNat) H):wpAny (model X.prog X.w) X.A (pyIter (.ref s.heap.objs.size)) (PIE X pins σ tg R) E { s with heap:=s.heap.push { cls:=.type "range",data:=.fields #[.int lo t,.int hi u,.int 1 v] },toks:=tk }:=by
 refine wpAny_pyIter_range (IsRange.new ..) (small_one h1 h2 h3 h4) ?_
 have I1:Inv X pins σ H { s with heap:=s.heap.push { cls:=.type "range",data:=.fields #[.int lo t,.int hi u,.int 1 v] },toks:=tk }:=I.kept fun b o e=>Heap.get?_push_of_some _ e
 refine⟨(s.heap.push { cls:=.type "range",data:=.fields #[.int lo t,.int hi u,.int 1 v] }).objs.size,[(s.heap.push { cls:=.type "range",data:=.fields #[.int lo t,.int hi u,.int 1 v] }).objs.size],_,_,H,rfl,
  I1.kept (t':=tk) fun b o e=>Heap.get?_push_of_some _ e,turn_range _ lo (hi - lo).toNat,?_,fun b hb=>?_,q⟩
 ·have e1:lo+((0:Nat):Int)*1=lo:=by simp
  have e2:(((hi - lo).toNat:Nat):Int) - ((0:Nat):Int)=Builtin.Range.rangeSize lo hi 1:=by rw [rangeSize_one];split<;>omega
  show IsRangeIter _ _ (lo+((0:Nat):Int)*1) ((((hi - lo).toNat:Nat):Int) - ((0:Nat):Int)) 1
  rw [e1,e2]
  exact Heap.get?_push_size _ rfl
 ·have e:b=(s.heap.push { cls:=.type "range",data:=.fields #[.int lo t,.int hi u,.int 1 v] }).objs.size:=by simpa using hb
  subst e
  exact I1.fpOk (Nat.le_refl _) (I1.hok.fresh (Nat.le_refl _))
def iRng1(ta:TA):TI:=fun σ H R=>ta σ H fun vs H1=>∃j:Int,vs=[.int j]∧-(2 ^ 62)≤j∧j < 2 ^ 62∧R (Itr 0 j.toNat) H1
theorem pi_range1{a:Expr}{ta:TA}{p pos:Pos} (hg:Gl X "range") (hm:X.mg "range"=none) (ha:PA X [a] ta) (hs:starEach [a] X.env=[(false,eval a X.env)]:=by rfl):PI X tg (.Call (.Name "range" p) [a] [] pos) (iRng1 ta):=by
 intro pins s σ H R I h
 refine Call_ (ld_blt I hg hm boot_range (PyProof.Rows.callWith_type1 (thn (ha pos pins s σ H _ I h) fun us s1 ⟨vs,H1,I1,r1,q1⟩=>?_) hs rfl))
 obtain⟨j,e,q1,q2,q⟩:=q1
 subst e
 cases r1 with
 |cons r rr =>
  cases rr
  obtain⟨t,rfl⟩:=r
  exact call_range_1 (range_it I1 (by omega) (by omega) q1 q2 (by simpa using q))
def tFor(wi:TI)(g:TG)(tb:TS):TS:=fun D σ H=>wi σ H fun J H1=>∃W:Nat→Nat→St→Hp→Prop,(∃m,W 0 m σ H1)∧∀i m σ H,W i m σ H →
 (J.stop i H∧D.nx σ H)∨(J.go i H∧∃N:St→Hp→Prop,(∀σ' H',N σ' H'→∃m',m' < m∧W (i+1) m' σ' H')∧∀x H',J.yld i H x H'→g x σ H' fun σ2 H2=>tb { D with nx:=N,ct:=N,bk:=D.nx } σ2 H2)
def pinsAt(fp:List Addr)(h:Heap):List (Addr × Obj):=fp.filterMap fun b=>(h.get? b).map fun o=>(b,o)
theorem mem_pinsAt{fp:List Addr}{h:Heap}{b:Addr}{o:Obj}(hb:b∈fp)(e:h.get? b=some o):(b,o)∈pinsAt fp h:=List.mem_filterMap.mpr ⟨b,hb,by rw [e];rfl⟩
theorem of_pinsAt{fp:List Addr}{h:Heap}{p:Addr × Obj}(hp:p∈pinsAt fp h):p.1∈fp∧h.get? p.1=some p.2:=by
 obtain⟨b,hb,e⟩:=List.mem_filterMap.mp hp
 cases q:h.get? b with
 |none=>rw [q] at e;cases e
 |some o =>
  rw [q] at e
  have e':(b,o)=p:=Option.some.inj e
  subst e'
  exact⟨hb,q⟩
theorem Inv.pinned{pins:List (Addr × Obj)}{σ:St}{H:Hp}{s:Shared}{fp:List Addr}(I:Inv X pins σ H s)(hf:∀b∈fp,FpOk X pins H b)(ho:∀b∈fp,∃o,s.heap.get? b=some o∧∀v,o.data≠.cell v):Inv X (pins++pinsAt fp s.heap) σ H s :=
 I.pins_of fun p hp=>(List.mem_append.mp hp).elim (fun z=>I.pin p (List.mem_append_right _ z)) fun z=>by
  obtain⟨hb,e⟩:=of_pinsAt z
  obtain⟨f0,f1,f2,_⟩:=hf p.1 hb
  obtain⟨o,e',d⟩:=ho p.1 hb
  rw [e] at e';cases e'
  exact⟨e,f0,f1,f2,d⟩
theorem Inv.unpinned{pins pl:List (Addr × Obj)}{σ:St}{H:Hp}{s:Shared}(I:Inv X (pins++pl) σ H s):Inv X pins σ H s:=I.pins_of fun p hp=>I.pin p (List.mem_append_right _ (List.mem_append_left _ hp))
theorem ps_for{iter:Expr}{body:List Stmt}{wi:TI}{g:TG}{tb:TS}{pos:Pos}(hp:PassesOwn (model X.prog X.w) X.A X.env X.xe)(hc:X.calm=true)(hi:PI X tg iter wi)(hg:PG X tg g)(hb:PSs X body tb)
  (hs:∀x,foldedSetIterable iter X.env x=pure x:=by intro _;rfl):PS X (.For tg iter body [] pos) (tFor wi g tb):=by
 intro pins s σ H D I h
 refine wpAny_For (thn (hi pins s σ H _ I h) fun v s1 h1=>thn h1 fun itv s2 h2=>?_) hs
 obtain⟨it,fp,tn,J,H2,e,I2,T,st2,f2,W,⟨m0,w0⟩,turn⟩:=h2
 subst e
 have stat:∀{H':Hp},(∀b∈fp,H' b=none)→∀b∈fp,FpOk X pins H' b:=fun hn b hb=>⟨hn b hb,(f2 b hb).2⟩
 refine codeAny_forLoop_any (fun n s'=>∃i σ' H',Inv X pins σ' H' s'∧tn i s'.heap∧(∀b∈fp,H' b=none)∧W i n σ' H') ?_ m0 ⟨0,σ,H2,I2,st2,fun b hb=>(f2 b hb).1,w0⟩
 rintro n s3 ⟨i,σ3,H3,I3,st3,fr3,w3⟩
 rcases turn i n σ3 H3 w3 with ⟨stop,qn⟩|⟨go,N,hN,step⟩
 ·refine wpAny_passesOwn hp (thn (T.done X rfl rfl rfl hc i pins s3 σ3 H3 X.xe I3 (stat fr3) st3 stop) fun r s4 ⟨hr,I4⟩=>?_)
  subst hr
  exact wpAny_execs_nil ⟨σ3,H3,I4,qn⟩
 ·refine wpAny_passesOwn hp (thn (T.item X rfl rfl rfl hc i pins s3 σ3 H3 X.xe I3 (stat fr3) st3 go) fun r s4 ⟨u,hr,h4⟩=>?_)
  subst hr
  refine wpAny_passesOwn hp (thn h4 fun _ s5 ⟨x,H5,I5,r5,y5,st5,fr5⟩=>?_)
  have I5':=I5.pinned (stat fr5) (T.obj _ _ st5)
  refine wpAny_passesOwn hp (thn (hg _ s5 σ3 H5 x u _ I5' r5 (step x H5 y5)) fun _ s6 ⟨σ6,H6,I6,q6⟩=>?_)
  refine wpAny_passesOwn hp (thn (hb _ s6 σ6 H6 _ I6 q6) fun f s7 q7=>?_)
  have again:∀{σ7:St} {H7:Hp},Inv X (pins++pinsAt fp s5.heap) σ7 H7 s7→N σ7 H7→∃m,m < n∧∃i σ' H',Inv X pins σ' H' s7∧tn i s7.heap∧(∀b∈fp,H' b=none)∧W i m σ' H':=fun {σ7 H7} I7 n7=>by
   obtain⟨m',hm,w7⟩:=hN σ7 H7 n7
   refine⟨m',hm,i+1,σ7,H7,I7.unpinned,T.keep _ _ _ st5 fun b hb o e=>(I7.pin (b,o) (List.mem_append_right _ (List.mem_append_right _ (mem_pinsAt hb e)))).1,fun b hb=>?_,w7⟩
   obtain⟨o,e,d⟩:=T.obj _ _ st5 b hb
   exact(I7.pin (b,o) (List.mem_append_right _ (List.mem_append_right _ (mem_pinsAt hb e)))).2.1
  cases f with
  |next=>obtain⟨σ7,H7,I7,n7⟩:=q7;exact again I7 n7
  |cont=>obtain⟨σ7,H7,I7,n7⟩:=q7;exact again I7 n7
  |brk=>obtain⟨σ7,H7,I7,q7⟩:=q7;exact⟨σ7,H7,I7.unpinned,q7⟩
  |ret v=>obtain⟨x7,σ7,H7,I7,r7,q7⟩:=q7;exact⟨x7,σ7,H7,I7.unpinned,r7,q7⟩
end
theorem for_tup{K:PySem.W.Frag}{a:Addr}{xs:List V}{g:TG}{tb:TS}{D:Ends}{σ:St}{H:Hp}(Pv:Nat→St→Hp→Prop)(h0:Pv 0 σ H)(hl:∀i σ H,i≤xs.length→Pv i σ H→SqT K H a xs)
  (hs:∀i x σ H,xs[i]?=some x→Pv i σ H→g x σ H fun σ2 H2=>tb { D with nx:=Pv (i+1),ct:=Pv (i+1),bk:=D.nx } σ2 H2) (hd:∀σ H,Pv xs.length σ H→D.nx σ H) :
  ∃W:Nat→Nat→St→Hp→Prop,(∃m,W 0 m σ H)∧∀i m σ H,W i m σ H →
   ((Itt K a).stop i H∧D.nx σ H)∨((Itt K a).go i H∧∃N:St→Hp→Prop,(∀σ' H',N σ' H'→∃m',m' < m∧W (i+1) m' σ' H')∧∀x H',(Itt K a).yld i H x H'→g x σ H' fun σ2 H2=>tb { D with nx:=N,ct:=N,bk:=D.nx } σ2 H2):=by
 refine⟨fun i m σ H=>m=xs.length - i∧i≤xs.length∧Pv i σ H,⟨xs.length,by simp,Nat.zero_le _,h0⟩,?_⟩
 rintro i m σ H ⟨rfl,hi,p⟩
 have q:=hl i σ H hi p
 by_cases hlt:i < xs.length
 ·refine .inr ⟨⟨xs,xs[i],q,by simp [hlt]⟩,Pv (i+1),fun σ' H' p'=>⟨xs.length - (i+1),by omega,rfl,hlt,p'⟩,fun x H' y=>?_⟩
  obtain⟨e,y⟩:=y
  subst e
  exact hs i x σ _ (y xs q) p
 ·have e:i=xs.length:=by omega
  subst e
  exact .inl ⟨⟨xs,q,Nat.le_refl _⟩,hd σ H p⟩
theorem for_range{lo:Int}{n:Nat}{g:TG}{tb:TS}{D:Ends}{σ:St}{H:Hp}(Pv:Nat→St→Hp→Prop)(h0:Pv 0 σ H)
  (hs:∀i σ H,i < n→Pv i σ H→g (.int (lo+i)) σ H fun σ2 H2=>tb { D with nx:=Pv (i+1),ct:=Pv (i+1),bk:=D.nx } σ2 H2) (hd:∀σ H,Pv n σ H→D.nx σ H) :
  ∃W:Nat→Nat→St→Hp→Prop,(∃m,W 0 m σ H)∧∀i m σ H,W i m σ H →
   ((Itr lo n).stop i H∧D.nx σ H)∨((Itr lo n).go i H∧∃N:St→Hp→Prop,(∀σ' H',N σ' H'→∃m',m' < m∧W (i+1) m' σ' H')∧∀x H',(Itr lo n).yld i H x H'→g x σ H' fun σ2 H2=>tb { D with nx:=N,ct:=N,bk:=D.nx } σ2 H2):=by
 refine⟨fun i m σ H=>m=n - i∧i≤n∧Pv i σ H,⟨n,by simp,Nat.zero_le _,h0⟩,?_⟩
 rintro i m σ H ⟨rfl,hi,p⟩
 by_cases hlt:i < n
 ·refine .inr ⟨hlt,Pv (i+1),fun σ' H' p'=>⟨n - (i+1),by omega,rfl,hlt,p'⟩,fun x H' y=>?_⟩
  obtain⟨e,y⟩:=y
  subst e y
  exact hs i σ _ hlt p
 ·have e:i=n:=by omega
  subst e
  exact .inl ⟨Nat.le_refl _,hd σ H p⟩
theorem while_by{c:TT}{tb:TS}{D:Ends}{σ:St}{H:Hp}(Pv:St→Hp→Prop)(μ:St→Hp→Nat)(h0:Pv σ H)
  (hs:∀σ H,Pv σ H→c σ H fun b H1=>if b=true then tb { D with nx:=fun σ' H'=>Pv σ' H'∧μ σ' H' < μ σ H,ct:=fun σ' H'=>Pv σ' H'∧μ σ' H' < μ σ H,bk:=D.nx } σ H1 else D.nx σ H1)
  (mono:∀σ H Q Q',(∀b H1,Q b H1→Q' b H1)→c σ H Q→c σ H Q'):tWhile c tb D σ H:=by
 refine⟨fun m σ H=>m=μ σ H∧Pv σ H,⟨_,rfl,h0⟩,?_⟩
 rintro m σ H ⟨rfl,p⟩
 refine mono σ H _ _ (fun b H1 q=>?_) (hs σ H p)
 cases b with
 |true=>exact⟨_,fun σ' H' ⟨p',l⟩=>⟨_,l,rfl,p'⟩,q⟩
 |false=>exact q
end L2
namespace L2
open PySem PySem.Spec PyProof.Rows
abbrev R2:=V→V→Hp→VK→Prop
def OpR(X:Cx)(f:Value→Value→Sem Value)(r:R2):Prop :=
 ∀(pins:List (Addr × Obj)) (s:Shared) (σ:St) (H:Hp) (x y:V) (v u:Value) (Q:VK),Inv X pins σ H s→RelV x v→RelV y u→r x y H Q →
  wpAny (model X.prog X.w) X.A (f v u) (EP X pins σ Q) X.xe s
def UnR(X:Cx)(f:Value→Sem Value)(r:V→Hp→VK→Prop):Prop :=
 ∀(pins:List (Addr × Obj)) (s:Shared) (σ:St) (H:Hp) (x:V) (v:Value) (Q:VK),Inv X pins σ H s→RelV x v→r x H Q →
  wpAny (model X.prog X.w) X.A (f v) (EP X pins σ Q) X.xe s
def CallR(X:Cx)(f:Value)(r:List V→Hp→VK→Prop):Prop :=
 ∀(pins:List (Addr × Obj)) (s:Shared) (σ:St) (H:Hp) (xs:List V) (us:List Value) (Q:VK),Inv X pins σ H s→Vals xs us→r xs H Q →
  wpAny (model X.prog X.w) X.A (call f us) (EP X pins σ Q) X.xe s
def tOp(r:R2)(ta tb:TE):TE:=fun σ H Q=>ta σ H fun x H1=>tb σ H1 fun y H2=>r x y H2 Q
def tUn(r:V→Hp→VK→Prop)(ta:TE):TE:=fun σ H Q=>ta σ H fun x H1=>r x H1 Q
inductive Wd (C:Int→Int→Prop) (g:Int→Int→V) (x y:V) (H:Hp) (Q:VK):Prop
 |mk (i j:Int) (a:x=.int i) (b:y=.int j) (c:C i j) (q:Q (g i j) H)
def rI(C:Int→Int→Prop)(g:Int→Int→V):R2:=fun x y H Q=>Wd C g x y H Q
inductive We (g:Int→Int→V) (x y:V) (H:Hp) (Q:VK):Prop
 |mk (i j:Int) (a:x=.int i) (b:y=.int j) (q:Q (g i j) H)
def rI0(g:Int→Int→V):R2:=fun x y H Q=>We g x y H Q
def rU(g:Int→V):V→Hp→VK→Prop:=fun x H Q=>∃i,x=.int i∧Q (g i) H
section
variable{X:Cx}{a b c:Expr}{ta tb tc:TE}{pos:Pos}
theorem binT(ha:PE X a ta)(hb:PE X b tb){pins:List (Addr × Obj)}{s:Shared}{σ:St}{H:Hp}{R:V→V→Hp→Prop}(I:Inv X pins σ H s)
  (h:ta σ H fun x H1=>tb σ H1 fun y H2=>R x y H2) {Q:Value→Shared→Prop} {f:Value→Value→Sem Value}
  (hf:∀v u s2 x y H2,Inv X pins σ H2 s2→RelV x v→RelV y u→R x y H2→wpAny (model X.prog X.w) X.A (f v u) Q X.xe s2) :
  wpAny (model X.prog X.w) X.A (eval a X.env) (fun v s₁=>wpAny (model X.prog X.w) X.A (eval b X.env) (fun u s₂=>wpAny (model X.prog X.w) X.A (f v u) Q X.xe s₂) X.xe s₁) X.xe s:=by
 refine thn (ha pins s σ H _ I h) fun v s1 ⟨x,H1,I1,r1,q1⟩=>?_
 refine thn (hb pins s1 σ H1 _ I1 q1) fun u s2 ⟨y,H2,I2,r2,q2⟩=>?_
 exact hf v u s2 x y H2 I2 r1 r2 q2
theorem pe_op{op:Operator}{r:R2}(ho:OpR X (binaryOp op) r)(ha:PE X a ta)(hb:PE X b tb):PE X (.BinOp a op b pos) (tOp r ta tb):=by
 intro pins s σ H Q I h
 exact wpAny_BinOp (binT ha hb I h fun v u s2 x y H2 I2 rx ry q=>ho pins s2 σ H2 x y v u Q I2 rx ry q)
theorem pe_un{op:UnaryOp}{r:V→Hp→VK→Prop}(ho:UnR X (unaryOp op) r)(ha:PE X a ta):PE X (.UnaryOp op a pos) (tUn r ta):=by
 intro pins s σ H Q I h
 exact UnaryOp_ (thn (ha pins s σ H _ I h) fun v s1 ⟨x,H1,I1,r1,q1⟩=>ho pins s1 σ H1 x v Q I1 r1 q1)
theorem opI{f:Value→Value→Sem Value}{C:Int→Int→Prop}{g:Int→Int→Int}
  (rule:∀(i j:Int) (t u:Tok) (s:Shared) (Q:Value→Shared→Prop) (E:Value→Shared→Prop),C i j→Q (.int (g i j) s.toks) { s with toks:=s.toks+1 }→wpAny (model X.prog X.w) X.A (f (.int i t) (.int j u)) Q E s) :
  OpR X f (rI C fun i j=>.int (g i j)):=by
 intro pins s σ H x y v u Q I rx ry h
 obtain⟨i,j,rfl,rfl,hc,q⟩:=h
 obtain⟨t,rfl⟩:=rx
 obtain⟨t',rfl⟩:=ry
 exact rule i j t t' s _ _ hc ⟨.int (g i j),H,I.tok _,⟨_,rfl⟩,q⟩
theorem opI0{f:Value→Value→Sem Value}{g:Int→Int→Int}
  (rule:∀(i j:Int) (t u:Tok) (s:Shared) (Q:Value→Shared→Prop) (E:Value→Shared→Prop),Q (.int (g i j) s.toks) { s with toks:=s.toks+1 }→wpAny (model X.prog X.w) X.A (f (.int i t) (.int j u)) Q E s) :
  OpR X f (rI0 fun i j=>.int (g i j)):=by
 intro pins s σ H x y v u Q I rx ry h
 obtain⟨i,j,rfl,rfl,q⟩:=h
 obtain⟨t,rfl⟩:=rx
 obtain⟨t',rfl⟩:=ry
 exact rule i j t t' s _ _ ⟨.int (g i j),H,I.tok _,⟨_,rfl⟩,q⟩
theorem opB0{f:Value→Value→Sem Value}{g:Int→Int→Bool}
  (rule:∀(i j:Int) (t u:Tok) (s:Shared) (Q:Value→Shared→Prop) (E:Value→Shared→Prop),Q (.bool (g i j)) s→wpAny (model X.prog X.w) X.A (f (.int i t) (.int j u)) Q E s) :
  OpR X f (rI0 fun i j=>.bl (g i j)):=by
 intro pins s σ H x y v u Q I rx ry h
 obtain⟨i,j,rfl,rfl,q⟩:=h
 obtain⟨t,rfl⟩:=rx
 obtain⟨t',rfl⟩:=ry
 exact rule i j t t' s _ _ ⟨.bl (g i j),H,I,rfl,q⟩
def CDiv(i j:Int):Prop:=0 < j∧j < 1073741824
def CPow(i j:Int):Prop:=0≤j∧j≤1000000∧i.natAbs < 2 ^ 64
def CMul(i j:Int):Prop:=(-(2 ^ 64) < i∧i < 2 ^ 64)∨(-(2 ^ 64) < j∧j < 2 ^ 64)
theorem CMul.ok{i j:Int}(h:CMul i j):IntMulOk i j:=by
 rcases h with ⟨h1,h2⟩|⟨h1,h2⟩
 ·exact .of_left (intBits_le_64 h1 h2)
 ·exact .of_right (intBits_le_64 h1 h2)
theorem op_add:OpR X (binaryOp .Add) (rI0 fun i j=>.int (i+j)):=opI0 fun _ _ _ _ _ _ _ q=>add_int q
theorem op_sub:OpR X (binaryOp .Sub) (rI0 fun i j=>.int (i - j)):=opI0 fun _ _ _ _ _ _ _ q=>sub_int q
theorem op_mul:OpR X (binaryOp .Mult) (rI CMul fun i j=>.int (i*j)):=opI fun _ _ _ _ _ _ _ hc q=>mul_int q hc.ok
theorem op_fdiv:OpR X (binaryOp .FloorDiv) (rI CDiv fun i j=>.int (i / j)):=opI fun i j _ _ _ _ _ hc q=>by
 have h1:(0:Int) < j:=hc.1
 have h2:j < 1073741824:=hc.2
 exact floordiv_int (by omega) (by rw [Int.fdiv_eq_ediv_of_nonneg i (by omega)];exact q) (.inl (PyProof.noPylong_small (by omega)))
theorem op_mod:OpR X (binaryOp .Mod) (rI (fun _ j=>0 < j) fun i j=>.int (i%j)):=opI fun i j _ _ _ _ _ hc q=>by
 have h1:(0:Int) < j:=hc
 exact mod_int' (by omega) (by rw [Int.fmod_eq_emod_of_nonneg i (by omega)];exact q)
theorem op_pow:OpR X (binaryOp .Pow) (rI CPow fun i j=>.int (i ^ j.toNat)):=opI fun _ _ _ _ _ _ _ hc q=>pow_int_small hc.1 hc.2.1 hc.2.2 q
theorem unI{f:Value→Sem Value}{g:Int→Int}
  (rule:∀(i:Int) (t:Tok) (s:Shared) (Q:Value→Shared→Prop) (E:Value→Shared→Prop),Q (.int (g i) s.toks) { s with toks:=s.toks+1 }→wpAny (model X.prog X.w) X.A (f (.int i t)) Q E s) :
  UnR X f (rU fun i=>.int (g i)):=by
 intro pins s σ H x v Q I rx h
 obtain⟨i,rfl,q⟩:=h
 obtain⟨t,rfl⟩:=rx
 exact rule i t s _ _ ⟨.int (g i),H,I.tok _,⟨_,rfl⟩,q⟩
theorem un_neg:UnR X (unaryOp .USub) (rU fun i=>.int (-i)):=unI fun _ _ _ _ _ q=>neg_int q
end
def scal:V→V→Bool
 |.non,.non=>true|.non,.int _=>true|.int _,.non=>true|.non,.bl _=>true|.bl _,.non=>true|.non,.str _=>true|.str _,.non=>true
 |.int _,.int _=>true|.bl _,.bl _=>true|.str _,.str _=>true|.byt _,.byt _=>true
 |.int _,.str _=>true|.str _,.int _=>true|.bl _,.str _=>true|.str _,.bl _=>true
 |_,_=>false
def rEq:R2:=fun x y H Q=>scal x y=true∧Q (.bl (decide (x=y))) H
def rNe:R2:=fun x y H Q=>scal x y=true∧Q (.bl (!decide (x=y))) H
theorem dec_int{i j:Int}:decide (V.int i=V.int j)=(i==j):=by
 rw [Bool.eq_iff_iff]
 simp
theorem dec_bl{i j:Bool}:decide (V.bl i=V.bl j)=(i==j):=by
 rw [Bool.eq_iff_iff]
 simp
theorem dec_str{i j:Str}:decide (V.str i=V.str j)=(i==j):=by
 rw [Bool.eq_iff_iff]
 simp
theorem dec_byt{i j:Array UInt8}:decide (V.byt i=V.byt j)=(i.toList==j.toList):=by
 rw [Bool.eq_iff_iff]
 cases i
 cases j
 simp
section
variable{X:Cx}{a b c:Expr}{ta tb tc:TE}{pos:Pos}
theorem fin_bl{pins:List (Addr × Obj)}{σ:St}{H:Hp}{s:Shared}{Q:VK}{k k':Bool}(I:Inv X pins σ H s)(q:Q (.bl k) H)(e:k=k'):EP X pins σ Q (.bool k') s:=by
 subst e
 exact⟨.bl k,H,I,rfl,q⟩
theorem op_eq:OpR X (compareOp .Eq) rEq:=by
 intro pins s σ H x y v u Q I rx ry h
 obtain⟨hs,q⟩:=h
 cases x with
 |non =>
  cases rx
  cases y with
  |non=>cases ry;exact PySem.EqNone.eq_none_none (fin_bl I q (by simp))
  |bl j=>cases ry;exact PySem.EqNone.eq_none_bool (fin_bl I q (by simp))
  |int j=>obtain⟨t',rfl⟩:=ry;exact PySem.EqNone.eq_none_int (fin_bl I q (by simp))
  |str j=>obtain⟨t',rfl⟩:=ry;exact PySem.EqNone.eq_none_str (fin_bl I q (by simp))
  |_=>exact absurd (show false=true from hs) Bool.false_ne_true
 |bl i =>
  cases rx
  cases y with
  |non=>cases ry;exact PySem.EqNone.eq_bool_none (fin_bl I q (by simp))
  |bl j=>cases ry;exact eq_bool (fin_bl I q dec_bl)
  |str j=>obtain⟨t',rfl⟩:=ry;exact PySem.EqMixed.eq_bool_str (fin_bl I q (by simp))
  |_=>exact absurd (show false=true from hs) Bool.false_ne_true
 |int i =>
  obtain⟨t,rfl⟩:=rx
  cases y with
  |non=>cases ry;exact PySem.EqNone.eq_int_none (fin_bl I q (by simp))
  |int j=>obtain⟨t',rfl⟩:=ry;exact eq_int (fin_bl I q dec_int)
  |str j=>obtain⟨t',rfl⟩:=ry;exact PySem.EqMixed.eq_int_str (fin_bl I q (by simp))
  |_=>exact absurd (show false=true from hs) Bool.false_ne_true
 |str i =>
  obtain⟨t,rfl⟩:=rx
  cases y with
  |non=>cases ry;exact PySem.EqNone.eq_str_none (fin_bl I q (by simp))
  |bl j=>cases ry;exact PySem.EqMixed.eq_str_bool (fin_bl I q (by simp))
  |int j=>obtain⟨t',rfl⟩:=ry;exact PySem.EqMixed.eq_str_int (fin_bl I q (by simp))
  |str j=>obtain⟨t',rfl⟩:=ry;exact eq_str (fin_bl I q dec_str)
  |_=>exact absurd (show false=true from hs) Bool.false_ne_true
 |byt i =>
  obtain⟨t,rfl⟩:=rx
  cases y with
  |byt j=>obtain⟨t',rfl⟩:=ry;exact PySem.W.eq_bytes (fin_bl I q dec_byt)
  |_=>exact absurd (show false=true from hs) Bool.false_ne_true
 |_=>cases y<;>exact absurd (show false=true from hs) Bool.false_ne_true
theorem op_ne:OpR X (compareOp .NotEq) rNe:=by
 intro pins s σ H x y v u Q I rx ry h
 obtain⟨hs,q⟩:=h
 cases x with
 |non =>
  cases rx
  cases y with
  |non=>cases ry;exact PySem.EqNone.ne_none_none (fin_bl I q (by simp))
  |bl j=>cases ry;exact PySem.EqNone.ne_none_bool (fin_bl I q (by simp))
  |int j=>obtain⟨t',rfl⟩:=ry;exact PySem.EqNone.ne_none_int (fin_bl I q (by simp))
  |str j=>obtain⟨t',rfl⟩:=ry;exact PySem.EqNone.ne_none_str (fin_bl I q (by simp))
  |_=>exact absurd (show false=true from hs) Bool.false_ne_true
 |bl i =>
  cases rx
  cases y with
  |non=>cases ry;exact PySem.EqNone.ne_bool_none (fin_bl I q (by simp))
  |bl j=>cases ry;exact ne_bool (fin_bl I q (congrArg not dec_bl))
  |str j=>obtain⟨t',rfl⟩:=ry;exact PySem.EqMixed.ne_bool_str (fin_bl I q (by simp))
  |_=>exact absurd (show false=true from hs) Bool.false_ne_true
 |int i =>
  obtain⟨t,rfl⟩:=rx
  cases y with
  |non=>cases ry;exact PySem.EqNone.ne_int_none (fin_bl I q (by simp))
  |int j=>obtain⟨t',rfl⟩:=ry;exact ne_int (fin_bl I q (congrArg not dec_int))
  |str j=>obtain⟨t',rfl⟩:=ry;exact PySem.EqMixed.ne_int_str (fin_bl I q (by simp))
  |_=>exact absurd (show false=true from hs) Bool.false_ne_true
 |str i =>
  obtain⟨t,rfl⟩:=rx
  cases y with
  |non=>cases ry;exact PySem.EqNone.ne_str_none (fin_bl I q (by simp))
  |bl j=>cases ry;exact PySem.EqMixed.ne_str_bool (fin_bl I q (by simp))
  |int j=>obtain⟨t',rfl⟩:=ry;exact PySem.EqMixed.ne_str_int (fin_bl I q (by simp))
  |str j=>obtain⟨t',rfl⟩:=ry;exact ne_str (fin_bl I q (congrArg not dec_str))
  |_=>exact absurd (show false=true from hs) Bool.false_ne_true
 |byt i =>
  obtain⟨t,rfl⟩:=rx
  cases y with
  |byt j=>obtain⟨t',rfl⟩:=ry;exact PySem.W.ne_bytes (fin_bl I q (congrArg not dec_byt))
  |_=>exact absurd (show false=true from hs) Bool.false_ne_true
 |_=>cases y<;>exact absurd (show false=true from hs) Bool.false_ne_true
theorem op_lt:OpR X (compareOp .Lt) (rI0 fun i j=>.bl (decide (i < j))):=opB0 fun _ _ _ _ _ _ _ q=>lt_int q
theorem op_gt:OpR X (compareOp .Gt) (rI0 fun i j=>.bl (decide (j < i))):=opB0 fun _ _ _ _ _ _ _ q=>gt_int q
theorem nomark(b:Expr){op:CmpOp}(h:op≠.In:=by decide)(h2:op≠.NotIn:=by decide):behindInMarks op b=false:=by
 have e1:(op==CmpOp.In)=false:=by cases op<;>first|rfl|exact absurd rfl h
 have e2:(op==CmpOp.NotIn)=false:=by cases op<;>first|rfl|exact absurd rfl h2
 cases b<;>simp [behindInMarks,e1,e2]
theorem pe_cmpR{op:CmpOp}{r:R2}(ho:OpR X (compareOp op) r)(ha:PE X a ta)(hb:PE X b tb)(hm:behindInMarks op b=false):PE X (.Compare a [op] [b] pos) (tOp r ta tb):=by
 intro pins s σ H Q I h
 exact wpAny_Compare1 (binT ha hb I h fun v u s2 x y H2 I2 rx ry q=>ho pins s2 σ H2 x y v u Q I2 rx ry q) hm
def tTest(t:TE):TT:=fun σ H Q=>t σ H fun x H'=>Wb x H' Q
theorem pt_cmpR{op:CmpOp}{r:R2}(ho:OpR X (compareOp op) r)(ha:PE X a ta)(hb:PE X b tb)(hm:behindInMarks op b=false):PT X (.Compare a [op] [b] pos) (tTest (tOp r ta tb)):=by
 intro pins s σ H Q I h
 refine wpAny_isTrue_Compare1 (thn (ha pins s σ H _ I h) fun v s1 ⟨x,H1,I1,r1,q1⟩=>thn (hb pins s1 σ H1 _ I1 q1) fun u s2 ⟨y,H2,I2,r2,q2⟩ =>
  thn (ho pins s2 σ H2 x y v u _ I2 r1 r2 q2) fun c s3 ⟨z,H3,I3,r3,k,e,q3⟩=>?_) hm
 subst e
 cases r3
 exact wpAny_truthy_bool ⟨H3,I3,q3⟩
def tChain(r r':R2)(ta tb tc:TE):TE:=fun σ H Q=>ta σ H fun x H1=>tb σ H1 fun y H2=>r x y H2 fun z H3=>∃k,z=.bl k ∧
 (if k=true then tc σ H3 fun w' H4=>r' y w' H4 Q else Q (.bl false) H3)
theorem pt_chain{op op':CmpOp}{r r':R2}(ho:OpR X (compareOp op) r)(ho':OpR X (compareOp op') r')(ha:PE X a ta)(hb:PE X b tb)(hc:PE X c tc)
  (hm:lastMarks [op,op'] [b,c]=false:=by with_unfolding_all rfl):PT X (.Compare a [op,op'] [b,c] pos) (tTest (tChain r r' ta tb tc)):=by
 intro pins s σ H Q I h
 refine isTrue_chain (thn (ha pins s σ H _ I h) fun v s1 ⟨x,H1,I1,r1,q1⟩=>test_link (thn (hb pins s1 σ H1 _ I1 q1) fun u s2 ⟨y,H2,I2,r2,q2⟩ =>
  thn (ho pins s2 σ H2 x y v u _ I2 r1 r2 q2) fun d s3 ⟨z,H3,I3,r3,k,e,q3⟩=>?_)) hm
 subst e
 cases r3
 refine wpAny_truthy_bool ?_
 cases k with
 |false =>
  obtain⟨k',e',q'⟩:=q3
  cases e'
  exact ite_ff ⟨H3,I3,q'⟩
 |true =>
  refine ite_tt (test_last (thn (hc pins s3 σ H3 _ I3 q3) fun w' s4 ⟨z',H4,I4,r4,q4⟩=>thn (ho' pins s4 σ H4 y z' u w' _ I4 r2 r4 q4) fun d' s5 ⟨z2,H5,I5,r5,k2,e2,q5⟩=>?_))
  subst e2
  cases r5
  exact wpAny_truthy_bool ⟨H5,I5,q5⟩
theorem line63:(sizeLine:Nat) < 2 ^ 63:=by rw [sizeLine_eq];decide
theorem op_add_str:OpR X (binaryOp .Add) (fun x y H Q=>∃i j,x=.str i∧y=.str j∧i.length+j.length≤sizeLine∧Q (.str (i++j)) H):=by
 intro pins s σ H x y v u Q I rx ry h
 obtain⟨i,j,rfl,rfl,hz,q⟩:=h
 obtain⟨t,rfl⟩:=rx
 obtain⟨t',rfl⟩:=ry
 exact add_str (fun t' tk=>⟨.str (i++j),H,I.tok _,⟨_,rfl⟩,q⟩) hz
theorem vals1{x:V}{us:List Value}(r:Vals [x] us):∃u,us=[u]∧RelV x u:=by
 cases r with
 |cons r1 r2=>cases r2;exact⟨_,rfl,r1⟩
theorem call_int1:CallR X (.type "int") (fun xs H Q=>(∃i,xs=[.int i]∧Q (.int i) H)∨∃k,xs=[.bl k]∧Q (.int (if k then 1 else 0)) H):=by
 intro pins s σ H xs us Q I r h
 rcases h with ⟨i,rfl,q⟩|⟨k,rfl,q⟩
 ·obtain⟨u,rfl,t,rfl⟩:=vals1 r
  exact call_int_int ⟨.int i,H,I,⟨_,rfl⟩,q⟩
 ·obtain⟨u,rfl,r1⟩:=vals1 r
  cases r1
  exact call_int_bool ⟨.int (if k then 1 else 0),H,I.tok _,⟨_,rfl⟩,q⟩
end
end L2
namespace L2
open PySem PySem.Spec PyProof.Rows
structure ObjM(h:Heap)(x dx C:Addr)(mA:Str→Option Value):Prop where
 obj:h.get? x=some (PySem.W.instObj C dx)
 ns:h.Ns1 dx mA
 ne:dx≠x
theorem lookIn_ns{h:Heap}{dx:Addr}{mA:Str→Option Value}(n:h.Ns1 dx mA):∃od,h.get? dx=some od∧∀name,PySem.W.lookIn name od=some (mA name):=by
 obtain⟨o,es,ep,ho,hd,hk,_,hm⟩:=n
 refine⟨o,ho,fun name=>?_⟩
 have e:=hm name
 unfold nsFind findBy at e
 rw [←Array.find?_toList] at e
 unfold PySem.W.lookIn
 rw [hd]
 dsimp only
 split
 ·rename_i y q
  rw [q] at e
  exact congrArg some e
 ·rename_i q
  rw [q] at e
  have a:es.toList.any (·.refKey)=false:=by
   rw [List.any_eq_false]
   intro y hy
   obtain⟨z,t,hkey⟩:=hk y (Array.mem_toList_iff.mp hy)
   simp [DictEntry.refKey,hkey]
  have a':¬es.toList.any (·.refKey)=true:=by rw [a];exact Bool.false_ne_true
  rw [if_neg a']
  exact congrArg some e
theorem ObjM.look{h:Heap}{x dx C:Addr}{mA:Str→Option Value}(I:ObjM h x dx C mA):∃od,PySem.W.InstAt h x (PySem.W.instObj C dx) C (some od)∧∀name,PySem.W.lookIn name od=some (mA name) :=
 let ⟨od,ho,hl⟩:=lookIn_ns I.ns
 ⟨od,⟨I.obj,rfl,rfl,ho⟩,hl⟩
section
variable{prog:Program}{w:World}{A:Around}{E:Value→Shared→Prop}{s:Shared}{K:PySem.W.Frag}{x dx C f:Addr}{mA:Str→Option Value}{name:Str}{v:Value}
end
theorem RelO.some_of{v:V}{o:Option Value}(r:RelO (some v) o):∃u,o=some u∧RelV v u:=by
 cases o with
 |none=>exact(show False from r).elim
 |some u=>exact⟨u,rfl,r⟩
section
variable{P:Program}{w:World}{H H':Hp}{h h':Heap}{a C dx:Addr}{fs fs':List (Str × V)}
theorem ins_get(hok:HOk P w H h)(e:H a=some (.ins C dx fs)):∃mA,ObjM h a dx C mA∧(∀f,RelO (fs.lookup f) (mA f))∧PySem.Within mA (fs.map (·.1))∧fs.length≤1000∧H dx=some (.own a):=by
 obtain⟨d,z,ne,ob,mA,n,r,q⟩:=(show ObjOk P w H h a (.ins C dx fs) from hok a _ e)
 exact⟨mA,⟨ob,n,ne⟩,r,q,z,d⟩
end
structure Cls(K:PySem.W.Frag)(C:Addr):Prop where
 pg:PySem.W.plainGet K C Str.empty=true
 hd:PySem.W.hasDictIn K C=true
 po:PySem.W.plainOver K C=true
 sa:PySem.W.findIn K (.ref C) "__setattr__"=some (some (.builtin "object.__setattr__"))
theorem Cls.get{K:PySem.W.Frag}{C:Addr}(c:Cls K C)(f:Str):PySem.W.plainGet K C f=true:=c.pg
structure Con(K:PySem.W.Frag)(C:Addr)(f:Str)(v:V)(u:Value):Prop where
 at_:PySem.W.findIn K (.ref C) f=some (some u)
 rel:RelV v u
 get:PySem.W.specialIn K u "__get__"=some none
 cp:PySem.W.copiedNames.contains f=false
structure Meth(K:PySem.W.Frag)(C:Addr)(m:Str)(f:Addr):Prop where
 at_:PySem.W.findIn K (.ref C) m=some (some (.ref f))
 fn:PySem.W.isFn K (.ref f)=true
 kp:PySem.W.keepIn K (.ref f)=true
section
variable{X:Cx}{pins:List (Addr × Obj)}{σ:St}{H:Hp}{s:Shared}{a C dx:Addr}{fs:List (Str × V)}{f:Str}{v:V}{A:Around}{E:Value→Shared→Prop}
end
section
variable{X:Cx}{o e value:Expr}{f:Str}{pos pos' tpos:Pos}{ta tv:TE}
end
section
variable{X:Cx}{pins:List (Addr × Obj)}{σ:St}{H:Hp}{s:Shared}{A:Around}{E:Value→Shared→Prop}{Q:Value→Shared→Prop}{c:Value}{b:Bool}
inductive TyOf (K:PySem.W.Frag) (H:Hp):V→Value→Prop where
 |non:TyOf K H .non (.type "NoneType")
 |bl (x:Bool):TyOf K H (.bl x) (.type "bool")
 |int (i:Int):TyOf K H (.int i) (.type "int")
 |str (x:Str):TyOf K H (.str x) (.type "str")
 |flt (x:UInt64):TyOf K H (.flt x) (.type "float")
 |lst {a:Addr} {xs:List V} (e:H a=some (.lst xs)):TyOf K H (.ref a) (.type "list")
 |frz {a:Addr} {o:Obj} {xs:List V} (e:H a=some (.frz o (.lst xs))):TyOf K H (.ref a) (.type "list")
 |tup {a:Addr} {xs:List V} (e:H a=some (.tup xs)):TyOf K H (.ref a) (.type "tuple")
 |dK {a:Addr} {kvs:List (Key × V)} (e:H a=some (.dK kvs)):TyOf K H (.ref a) (.type "dict")
 |dT {a:Addr} {kvs:List (List Key × V)} (e:H a=some (.dT kvs)):TyOf K H (.ref a) (.type "dict")
 |ins {a C dx:Addr} {fs:List (Str × V)} (e:H a=some (.ins C dx fs)) (cl:Cls K C) (ha:PySem.W.findIn K (.ref C) "__class__"=some (some (.builtin "object.__class__")))
   (hn:PySem.W.specialIn K (.builtin "object.__class__") "__get__"=some (some (.builtin "getset_descriptor.__get__"))) (htk:PySem.W.takesIn K (.builtin "object.__class__")=some true)
   (hm:PySem.W.mroIn K C (.type "object")=some true):TyOf K H (.ref a) (.ref C)
theorem isinst_ok{x:V}{u t:Value}(I:Inv X pins σ H s)(rx:RelV x u)(ty:TyOf X.K H x t)(e:PySem.W.kitOne X.K t c=some b)(h:∀tk,Q (.bool b) { s with toks:=tk }) :
  wpAny (model X.prog X.w) A (call (.builtin "isinstance") [u,c]) Q E s:=by
 cases ty with
 |non=>cases (show u=Value.none from rx);exact PySem.W.kia_one PySem.W.kitx_none I.kIn True.intro e (fun z=>nomatch z) h
 |bl y=>cases (show u=Value.bool y from rx);exact PySem.W.kia_one PySem.W.kitx_bool I.kIn True.intro e (fun z=>nomatch z) h
 |int i=>obtain⟨t,q⟩:=(show ∃t,u=Value.int i t from rx);cases q;exact PySem.W.kia_one PySem.W.kitx_int I.kIn True.intro e (fun z=>nomatch z) h
 |str y=>obtain⟨t,q⟩:=(show ∃t,u=Value.str y t from rx);cases q;exact PySem.W.kia_one PySem.W.kitx_str I.kIn True.intro e (fun z=>nomatch z) h
 |flt y=>obtain⟨t,q⟩:=(show ∃t,u=Value.float y t from rx);cases q;exact PySem.W.kia_one PySem.W.kitx_float I.kIn True.intro e (fun z=>nomatch z) h
 |@lst a xs ea =>
  cases (show u=Value.ref a from rx)
  obtain⟨_,_,n,_,h1⟩:=(show ObjOk X.prog X.w H s.heap a (.lst xs) from I.hok a _ ea)
  exact PySem.W.kia_one PySem.W.kitx_list I.kIn ⟨_,h1,rfl⟩ e (fun z=>nomatch z) h
 |@frz a ob xs ea =>
  cases (show u=Value.ref a from rx)
  obtain⟨_,_,_,n,_,h1⟩:=(show ObjOk X.prog X.w H s.heap a (.frz ob (.lst xs)) from I.hok a _ ea)
  exact PySem.W.kia_one PySem.W.kitx_list I.kIn ⟨_,h1,rfl⟩ e (fun z=>nomatch z) h
 |@tup a xs ea =>
  cases (show u=Value.ref a from rx)
  obtain⟨_,_,_,p⟩:=(show ObjOk X.prog X.w H s.heap a (.tup xs) from I.hok a _ ea)
  obtain⟨o,h1,h2,_⟩:=p
  exact PySem.W.kia_one PySem.W.kitx_tuple I.kIn ⟨o,h1,h2⟩ e (fun z=>nomatch z) h
 |@dK a kvs ea =>
  cases (show u=Value.ref a from rx)
  obtain⟨_,_,vs,_,p⟩:=(show ObjOk X.prog X.w H s.heap a (.dK kvs) from I.hok a _ ea)
  obtain⟨o,es,ep,h1,h2,_⟩:=p
  exact PySem.W.kia_one PySem.W.kitx_dict I.kIn ⟨o,h1,h2.1⟩ e (fun z=>nomatch z) h
 |@dT a kvs ea =>
  cases (show u=Value.ref a from rx)
  obtain⟨_,_,xs,_,o,es,ep,h1,h2,_⟩:=(show ObjOk X.prog X.w H s.heap a (.dT kvs) from I.hok a _ ea)
  exact PySem.W.kia_one PySem.W.kitx_dict I.kIn ⟨o,h1,h2.1⟩ e (fun z=>nomatch z) h
 |@ins a C dx fs ea cl ha hn htk hm =>
  cases (show u=Value.ref a from rx)
  obtain⟨mA,O,_⟩:=ins_get I.hok ea
  obtain⟨od,J,_⟩:=O.look
  exact PySem.W.kia_one (PySem.W.kitx_own (cl.get _) cl.hd ha hn htk hm) I.kIn J e (fun z=>nomatch z) h
end
end L2
namespace L2
open PySem PySem.Spec PyProof.Rows
structure Room(k:Nat)(A:Around):Prop where
 hd:A.handled=none
 dp:A.depth+3*k+5 < recursionLimit
 un:A.units+16*k+200 < cLine
 gd:A.guards=some []
theorem Room.mono{j k:Nat}{A:Around}(r:Room k A)(h:j≤k):Room j A:=⟨r.hd,by have:=r.dp;omega,by have:=r.un;omega,r.gd⟩
theorem Room.deeper{k:Nat}{A:Around}(r:Room (k+1) A)(env:Env):Room k (A.deeper env) :=
 ⟨r.hd,by have:=r.dp;show A.depth+1+3*k+5 < _;omega,by have:=r.un;show A.units+3+16*k+200 < _;omega,r.gd⟩
theorem Room.depth{k:Nat}{A:Around}(r:Room k A):A.depth < recursionLimit:=by have:=r.dp;omega
theorem Room.units{k:Nat}{A:Around}(r:Room k A):A.units+64 < cLine:=by have:=r.un;omega
def tNil:TA:=fun _ H Q=>Q [] H
def tCons(ta:TE)(tr:TA):TA:=fun σ H Q=>ta σ H fun x H1=>tr σ H1 fun xs H2=>Q (x::xs) H2
section
variable{X:Cx}{e:Expr}{es:List Expr}{te:TE}{t:TA}{pos:Pos}
theorem pa_nil:PA X [] tNil:=fun _ _ _ _ H Q I h=>Calls.spliced_nil ⟨[],H,I,.nil,h⟩
theorem pa_cons(ha:PE X e te)(hr:PA X es t)(hs:starEach (e::es) X.env=(false,eval e X.env)::starEach es X.env:=by rfl):PA X (e::es) (tCons te t):=by
 intro pos pins s σ H Q I h
 rw [hs]
 show wpAny _ _ (spliced ((false,eval e X.env)::backTo pos (starEach es X.env))) _ _ s
 refine Calls.spliced_cons (thn (ha pins s σ H _ I h) fun u s1 ⟨x,H1,I1,r1,q1⟩=>?_)
 exact thn (hr pos pins s1 σ H1 _ I1 q1) fun us s2 ⟨xs,H2,I2,r2,q2⟩=>⟨x::xs,H2,I2,.cons r1 r2,q2⟩
structure Wf(o:List V→HO)(xs:List V)(H:Hp)(Q:VK):Prop where
 h:xs.length≤sizeLine
 q:∀p,H p=none→Q (.ref p) (upd H p (o xs))
def tTup(t:TA):TE:=fun σ H Q=>t σ H fun xs H1=>Wf .tup xs H1 Q
def tLst(t:TA):TE:=fun σ H Q=>t σ H fun xs H1=>Wf .lst xs H1 Q
theorem pe_tup{x1}(h:PA X es t):PE X (.Tuple es x1 pos) (tTup t):=by
 intro pins s σ H Q I hq
 refine wpAny_Tuple_spliced (thn (h pos pins s σ H _ I hq) fun us s1 ⟨xs,H1,I1,r,z,q⟩=>⟨by rw [←r.length];exact z,?_⟩)
 have hf:H1 s1.heap.objs.size=none:=I1.hok.fresh (Nat.le_refl _)
 refine⟨.ref s1.heap.objs.size,upd H1 s1.heap.objs.size (.tup xs),I1.laid (t':=s1.toks) (fun b u e=>Heap.get?_push_of_some _ e) (Nat.le_refl _) ?_,rfl,q _ hf⟩
 exact⟨z,us,r,⟨_,Heap.get?_push_size _ rfl,rfl,_,rfl⟩⟩
theorem pe_lst(h:PA X es t):PE X (.List es pos) (tLst t):=by
 intro pins s σ H Q I hq
 refine wpAny_List_spliced (thn (h pos pins s σ H _ I hq) fun us s1 ⟨xs,H1,I1,r,z,q⟩=>⟨by rw [←r.length];exact z,?_⟩)
 have hf:H1 s1.heap.objs.size=none:=I1.hok.fresh (Nat.le_refl _)
 refine⟨.ref s1.heap.objs.size,upd H1 s1.heap.objs.size (.lst xs),I1.laid (t':=s1.toks) (fun b u e=>Heap.get?_push_of_some _ e) (Nat.le_refl _) ?_,rfl,q _ hf⟩
 exact⟨z,us,0,r,Heap.get?_push_size _ rfl⟩
end
abbrev Sp:=List V→Hp→VK→XK→Prop
abbrev CXT:=List Env→Hp→Shared→XK→Value→Shared→Prop
structure Env0(P:Program)(w:World)(K:PySem.W.Frag)(mg:Str→Option Value)(base:Heap)(A:Around)(outer:List Env)(s:Shared)(H:Hp):Prop where
 frames:A.frames=some outer
 mod:Mod K mg base
 bs:∀b o,base.get? b=some o→s.heap.get? b=some o∧H b=none
 bsz:base.objs.size≤s.heap.objs.size
 funs:s.heap.FunFrames base outer
 frf:∀b∈frs outer,H b=none
 hok:HOk P w H s.heap
 bare:AllBare s.gens
def CE(outer:List Env)(P:Program)(w:World)(H:Hp)(s:Shared)(Q:VK)(u:Value)(s':Shared):Prop :=
 ∃v H',s'.os=s.os∧AllBare s'.gens∧Un (frs outer) [] H H' s.heap s'.heap∧HOk P w H' s'.heap∧RelV v u∧Q v H'
def CR(CX:CXT)(outer:List Env)(P:Program)(w:World)(H:Hp)(s:Shared)(Q:VK)(E:XK)(r:Result)(s':Shared):Prop :=
 match r with
 |.ok (.ret u)=>CE outer P w H s Q u s'
 |.ok _=>False
 |.error e=>CX outer H s E e s'
structure FnOk(P:Program)(w:World)(K:PySem.W.Frag)(mg:Str→Option Value)(base:Heap)(CX:CXT)(k:Nat)(f:Addr)(fd:FuncData)(ps:List Str)(sp:Sp):Prop where
 len:∀vs H Q E,sp vs H Q E→vs.length=ps.length
 run:∀(A:Around) (outer:List Env) (s:Shared) (H:Hp) (args:Args) (us:List Value) (vs:List V) (Q:VK) (E:XK),Room k A→Env0 P w K mg base A outer s H→BindsTo s fd args (ps.zip us)→Vals vs us→sp vs H Q E →
  codeAny (model P w) A (.call (.ref f) args) (CR CX outer P w H s Q E) s
section
variable{X:Cx}{pins:List (Addr × Obj)}{σ:St}{H:Hp}{s s':Shared}
theorem Inv.env0(I:Inv X pins σ H s):Env0 X.prog X.w X.K X.mg X.base X.A X.stack s H :=
 ⟨I.ok.frames,I.ok.mod,I.bs,Nat.le_trans I.ok.bsz I.sz,I.stack,I.stkFree,I.hok,I.bare⟩
theorem Inv.after{Q:VK}{u:Value}(I:Inv X pins σ H s)(h:CE X.stack X.prog X.w H s Q u s'):EP X pins σ Q u s':=by
 obtain⟨v,H',os,bare,un,hok,r,q⟩:=h
 obtain⟨hh,g,d,t,os'⟩:=s'
 obtain rfl:os'=s.os:=os
 exact⟨v,H',I.call (h':=hh) (g':=g) (d':=d) (t':=t) (ch:=[]) un hok bare (fun b z=>absurd z (by simp)),r,q⟩
end
def tCall(sp:Sp)(dvs:List V)(E:XK)(t:TA):TE:=fun σ H Q=>t σ H fun vs H1=>sp (vs++dvs) H1 Q E
def Binds(K:PySem.W.Frag)(fd:FuncData)(ps:List Str)(ds:List Value):Prop :=
 ∀(s:Shared) (us:List Value),K.In s.heap→(us++ds).length=ps.length→BindsTo s fd ⟨us,[]⟩ (ps.zip (us++ds))
theorem Binds.all{K:PySem.W.Frag}{fd:FuncData}{ps:List Str}(h:∀us:List Value,us.length=ps.length→bindArgs fd ⟨us,[]⟩=pure (ps.zip us)):Binds K fd ps []:=fun s us _ hl=>by
 rw [List.append_nil] at hl ⊢
 exact .of_eq (h us hl)
def Passes(CX:CXT)(X:Cx)(E:XK):Prop:=∀(pins:List (Addr × Obj)) (σ:St) (H:Hp) (s:Shared) (e:Value) (s':Shared),Inv X pins σ H s→CX X.stack H s E e s'→X.xe e s'
section
variable{X:Cx}{CX:CXT}{k:Nat}{f C:Addr}{fd:FuncData}{ps:List Str}{sp:Sp}{dvs:List V}{ds:List Value}{E:XK}{x m:Str}{p pos apos:Pos}{e o:Expr}{es:List Expr}{ta:TE}{t:TA}
theorem run_fn{pins:List (Addr × Obj)}{σ:St}{H:Hp}{s:Shared}{Q:VK}{us:List Value}{vs:List V}(F:FnOk X.prog X.w X.K X.mg X.base CX k f fd ps sp)(hr:Room k X.A)(hb:Binds X.K fd ps ds)(hd:Vals dvs ds)(hx:Passes CX X E)
  (I:Inv X pins σ H s) (r:Vals vs us) (h:sp (vs++dvs) H Q E):wpAny (model X.prog X.w) X.A (call (.ref f) us) (EP X pins σ Q) X.xe s:=by
 have r2:Vals (vs++dvs) (us++ds):=r.append hd
 have hl:(us++ds).length=ps.length:=by rw [←r2.length];exact F.len _ _ _ _ h
 refine wpAny_call (codeAny_mono (F.run X.A X.stack s H ⟨us,[]⟩ (us++ds) (vs++dvs) Q E hr I.env0 (hb s us I.kIn hl) r2 h) fun r s' hq=>?_)
 cases r with
 |error e=>exact hx pins σ H s e s' I hq
 |ok fl =>
  cases fl with
  |ret u=>exact I.after hq
  |next=>exact False.elim hq
  |brk=>exact False.elim hq
  |cont=>exact False.elim hq
theorem pe_call(F:FnOk X.prog X.w X.K X.mg X.base CX k f fd ps sp)(hr:Room k X.A)(hg:Gl X x)(hm:X.mg x=some (.ref f))(hk:PySem.W.keepIn X.K (.ref f)=true)(hb:Binds X.K fd ps ds)(hd:Vals dvs ds)(hx:Passes CX X E)
  (ha:PA X (e::es) t) (hdb:(x==("__debug__":Str))=false:=by decide) (he:starEach (e::es) X.env=(false,eval e X.env)::starEach es X.env:=by rfl) (hpl:(backTo pos (starEach es X.env)).any (·.1)=false:=by rfl) :
  PE X (.Call (.Name x p) (e::es) [] pos) (tCall sp dvs E t):=by
 intro pins s σ H Q I h
 refine wpAny_Call_Name_kw (ld_glob I hg hm ?_ hdb)
 refine PySem.W.callWith_K (h₀:=X.base) I.ok.mod.kin hk (thn (ha pos pins s σ H _ I h) fun us s1 ⟨vs,H1,I1,r,q⟩=>⟨I1.kIn,?_⟩) he hpl
 exact run_fn F hr hb hd hx I1 r q
structure Mk(K:PySem.W.Frag)(C f:Addr):Prop where
 makes:PySem.W.makesIn K C=true
 init:PySem.W.findIn K (.ref C) "__init__"=some (some (.ref f))
 fn:PySem.W.isFn K (.ref f)=true
 kp:PySem.W.keepIn K (.ref C)=true
end
section
variable{X:Cx}{CX:CXT}{k:Nat}{f C:Addr}{fd:FuncData}{ps ks:List Str}{sp:Sp}{E:XK}{x m:Str}{p pos apos kpos:Pos}{e o:Expr}{es:List Expr}{kws:List Keyword}{te ta:TE}{t tk:TA}{nm:Option Str}
structure KBinds(K:PySem.W.Frag)(fd:FuncData)(ps ks:List Str)(g:List Value→List Value→List Value)(gV:List V→List V→List V):Prop where
 to:∀(s:Shared) (us ws:List Value),K.In s.heap→(g us ws).length=ps.length→BindsTo s fd ⟨us,ks.zip ws⟩ (ps.zip (g us ws))
 rel:∀{vs:List V} {us:List Value} {zs:List V} {ws:List Value},Vals vs us→Vals zs ws→Vals (gV vs zs) (g us ws)
variable{g:List Value→List Value→List Value}{gV:List V→List V→List V}
end
structure FnScope(N P:List Str)(sc:Scope):Prop where
 kind:sc.kind=.function
 co:sc.isCoroutine=false
 gen:sc.isGenerator=false
 nd:N.Nodup
 pre:N.take P.length=P
 par:∀x∈P,sc.names.lookup x=some .local∨sc.names.lookup x=some .cell
 nofree:∀y∈sc.names,y.2≠.free
theorem bindL_out{kindOf:Str→Option NameKind}{x:Str}:∀{binds:List (Str × Value)} {m:Str→Option Value},(∀v,(x,v)∉binds)→bindL kindOf binds m x=m x
 |[],_,_=>rfl
 |(n,v)::r,m,h=>by
  unfold bindL
  rw [bindL_out fun w hw=>h w (List.mem_cons_of_mem _ hw)]
  split
  ·have:x≠n:=by rintro rfl;exact h v List.mem_cons_self
   simp [this]
  ·rfl
theorem bindC_out{kindOf:Str→Option NameKind}{x:Str}:∀{binds:List (Str × Value)} {m:Str→Option Value},(∀v,(x,v)∉binds)→bindC kindOf binds m x=m x
 |[],_,_=>rfl
 |(n,v)::r,m,h=>by
  unfold bindC
  rw [bindC_out fun w hw=>h w (List.mem_cons_of_mem _ hw)]
  split
  ·rfl
  ·have:x≠n:=by rintro rfl;exact h v List.mem_cons_self
   simp [this]
theorem bindL_get{kindOf:Str→Option NameKind}{x:Str}{v:Value}:∀{P:List Str} {vs:List Value} {i:Nat} {m:Str→Option Value},P.Nodup→P[i]?=some x→vs[i]?=some v→kindOf x=some .local →
  bindL kindOf (P.zip vs) m x=some v
 |[],_,_,_,_,h,_,_=>by simp at h
 |_::_,[],_,_,_,_,h,_=>by simp at h
 |p::P,w::vs,0,m,nd,h1,h2,hk=>by
  simp at h1 h2;subst h1;subst h2
  show bindL kindOf ((p,w)::P.zip vs) m p=_
  unfold bindL
  rw [bindL_out fun v hv=>(List.nodup_cons.mp nd).1 (List.of_mem_zip hv).1,if_pos hk]
  simp
 |p::P,w::vs,i+1,m,nd,h1,h2,hk=>by
  show bindL kindOf ((p,w)::P.zip vs) m x=_
  unfold bindL
  exact bindL_get (i:=i) (List.nodup_cons.mp nd).2 (by simpa using h1) (by simpa using h2) hk
theorem bindC_get{kindOf:Str→Option NameKind}{x:Str}{v:Value}:∀{P:List Str} {vs:List Value} {i:Nat} {m:Str→Option Value},P.Nodup→P[i]?=some x→vs[i]?=some v→kindOf x≠some .local →
  bindC kindOf (P.zip vs) m x=some v
 |[],_,_,_,_,h,_,_=>by simp at h
 |_::_,[],_,_,_,_,h,_=>by simp at h
 |p::P,w::vs,0,m,nd,h1,h2,hk=>by
  simp at h1 h2;subst h1;subst h2
  show bindC kindOf ((p,w)::P.zip vs) m p=_
  unfold bindC
  rw [bindC_out fun v hv=>(List.nodup_cons.mp nd).1 (List.of_mem_zip hv).1,if_neg hk]
  simp
 |p::P,w::vs,i+1,m,nd,h1,h2,hk=>by
  show bindC kindOf ((p,w)::P.zip vs) m x=_
  unfold bindC
  exact bindC_get (i:=i) (List.nodup_cons.mp nd).2 (by simpa using h1) (by simpa using h2) hk
def start(N:List Str)(vs:List V):St:=vs.map some++List.replicate (N.length - vs.length) none
def cxOf(CX:CXT)(P:Program)(w:World)(K:PySem.W.Frag)(mg:Str→Option Value)(base:Heap)(N:List Str)(qual:Str)(scope:Scope)(f:Addr)(cd:Value)(A:Around)(outer:List Env)(s:Shared)(H:Hp)(E:XK):Cx where
 prog:=P
 w:=w
 K:=K
 mg:=mg
 base:=base
 A:=A.deeper (envOfC qual scope s.heap.objs.size f cd)
 N:=N
 s₀:=s
 H₀:=H
 env:=envOfC qual scope s.heap.objs.size f cd
 outer:=outer
 stack:=envOfC qual scope s.heap.objs.size f cd::outer
 ex:=[]
 calm:=true
 fn:=fun _=>true
 pn:=[]
 xe:=fun e s'=>wpAny (model P w) (A.deeper (envOfC qual scope s.heap.objs.size f cd)) (leaving (envOfC qual scope s.heap.objs.size f cd) e) (fun _ s''=>CX outer H s E e s'') (fun e' s''=>CX outer H s E e' s'') s'
theorem cell_has{sc:Scope}{n:Nat}{x:Str}(h:sc.names.lookup x=some .cell):∃c,(cellsFrom n sc.names []).lookup x=some c:=by
 have q:=PySem.W.cellsFrom_some sc.names n [] (.inl h)
 exact Option.isSome_iff_exists.mp q
theorem inv_start{CX:CXT}{P:Program}{w:World}{K:PySem.W.Frag}{mg:Str→Option Value}{base:Heap}{N ps:List Str}{qual:Str}{scope:Scope}{f:Addr}{cd:Value}{A:Around}{outer:List Env}{s s1:Shared}{H:Hp}{E:XK}{us:List Value}{vs:List V}
  (S:FnScope N ps scope) (hd:A.handled=none) (e0:Env0 P w K mg base A outer s H) (hl:vs.length=ps.length) (r:Vals vs us)
  (x:InCallC s s.heap.objs.size (bindL (envOfC qual scope s.heap.objs.size f cd).kindOf (ps.zip us) fun _=>none) (cellsFrom (s.heap.objs.size+1) scope.names []) (bindC (envOfC qual scope s.heap.objs.size f cd).kindOf (ps.zip us) fun _=>none) s1) :
  Inv (cxOf CX P w K mg base N qual scope f cd A outer s H E) [] (start N vs) H s1:=by
 have hpl:ps.length≤N.length:=by have:=congrArg List.length S.pre;rw [List.length_take] at this;omega
 obtain⟨h1,tk,rfl,hk⟩:=x.done
 have noA:∀b:Addr,b∉(cxOf CX P w K mg base N qual scope f cd A outer s H E).ex:=fun b z=>absurd (show b∈([]:List Addr) from z) (by simp)
 refine⟨⟨e0.mod,S.kind,rfl,rfl,Nat.le_refl _,fun y z c h1 h2=>?_,fun y hy=>?_,fun y c _ h=>?_,fun _=>hd,Around.frames_deeper e0.frames,.inr ⟨rfl,rfl⟩,fun b z=>absurd z (noA b),e0.bs,e0.bsz,fun b _ _=>noA b,fun b z=>absurd z (noA b),e0.funs,e0.frf⟩,
  rfl,e0.bare,Un.kept hk,⟨_,x.toInCall.ns,fun i y v h1 h2 h3=>?_⟩,fun y c h=>⟨_,x.cell y c h⟩,e0.hok.fresh (Nat.le_refl _),fun y c h=>?_,fun p hp=>absurd (show p∈([]:List (Addr × Obj)) from hp) (by simp),e0.hok.kept hk,?_⟩
 ·exact name_of_addr x.apart (PySem.mem_of_lookup h1) (PySem.mem_of_lookup h2)
 ·have hy:scope.names.lookup y=some .cell∨scope.names.lookup y=some .free:=hy
  rcases hy with hy|hy
  ·exact cell_has hy
  ·exact absurd rfl (S.nofree _ (PySem.mem_of_lookup hy))
 ·exact Nat.le_of_lt (x.above y c (PySem.mem_of_lookup h))
 ·have hi:i < vs.length:=by
   unfold start at h2
   by_cases hi:i < vs.length
   ·exact hi
   ·rw [List.getElem?_append_right (by simpa using hi)] at h2
    rw [List.getElem?_replicate] at h2
    split at h2<;>cases h2
  have ha:vs[i]?=some v:=by
   unfold start at h2
   rw [List.getElem?_append_left (by simpa using hi),List.getElem?_map] at h2
   cases e:vs[i]? with
   |none=>rw [e] at h2;cases h2
   |some a=>rw [e] at h2;cases h2;rfl
  obtain⟨u,hu,rv⟩:=r.get ha
  have hp:ps[i]?=some y:=by
   rw [←S.pre,List.getElem?_take_of_lt (by omega)];exact h1
  have ndP:ps.Nodup:=by rw [←S.pre];exact S.nd.sublist (List.take_sublist _ _)
  refine⟨u,rv,?_⟩
  rcases S.par y (List.mem_of_getElem? hp) with k|k
  ·exact .inl ⟨k,bindL_get ndP hp hu k⟩
  ·obtain⟨c,e⟩:=cell_has (n:=s.heap.objs.size+1) k
   refine .inr ⟨.inl k,c,e,?_⟩
   have q:=x.cell y c e
   rw [bindC_get ndP hp hu (by show scope.names.lookup y≠_;rw [k];decide)] at q
   exact q
 ·exact e0.hok.fresh (Nat.le_of_lt (x.above y c (PySem.mem_of_lookup h)))
 ·unfold start
  show _=N.length
  rw [List.length_append,List.length_map,List.length_replicate]
  omega
theorem fn_of{CX:CXT}{P:Program}{w:World}{K:PySem.W.Frag}{mg:Str→Option Value}{base:Heap}{k:Nat}{f:Addr}{name qual:Str}{params:Arguments}{body:List Stmt}{scope:Scope}{dV kV doc pm cdv ct oc:Value}{an od:Option Addr}
  {osl:Array (Option Value)} {N ps:List Str} {sp:Sp} (lk:K.lookup f=some ⟨oc,od,.func (PySem.W.fnOf name qual params body scope dV kV doc pm an cdv ct),osl⟩) (hcd:PySem.W.codeIn K cdv qual=true) (S:FnScope N ps scope)
  (len:∀vs H Q E,sp vs H Q E→vs.length=ps.length)
  (hbody:∀(A:Around) (outer:List Env) (s:Shared) (H:Hp) (vs:List V) (Q:VK) (E:XK),Room k (A.deeper (envOfC qual scope s.heap.objs.size f cdv))→sp vs H Q E →
   ∃t,PSs (cxOf CX P w K mg base N qual scope f cdv A outer s H E) body t∧t { nx:=fun _ H'=>Q .non H',rt:=Q } (start N vs) H) :
  FnOk P w K mg base CX (k+1) f (PySem.W.fnOf name qual params body scope dV kV doc pm an cdv ct) ps sp:=by
 refine⟨len,fun A outer s H args us vs Q E hr e0 hb r hsp=>?_⟩
 have hl:=len _ _ _ _ hsp
 have KX:K.In s.heap:=e0.mod.kin.keeps fun b o e=>(e0.bs b o e).1
 have lim:s.heap.NoLimit:=e0.mod.nolimit.keeps fun b o e=>(e0.bs b o e).1
 have hkind:∀y∈ps.zip us,scope.names.lookup y.1=some .local∨(scope.names.lookup y.1=some .cell∧((cellsFrom (s.heap.objs.size+1) scope.names []).lookup y.1).isSome=true):=fun⟨n,v⟩ hy=>by
  rcases S.par n (List.of_mem_zip hy).1 with q|q
  ·exact .inl q
  ·exact .inr ⟨q,PySem.W.cellsFrom_some _ _ _ (.inl q)⟩
 refine codeAny_call_function hr.depth (KX _ _ lk) rfl S.co S.gen rfl (PySem.W.codeRec_of KX hcd) (hb _ _ _ _ ?_)
 refine wpAny_newFunctionEnv_cells S.kind hkind fun env he s1 x=>?_
 subst he
 refine⟨lim.keeps x.toInCall.keep,codeAny_func ?_⟩
 obtain⟨t,ht,hq⟩:=hbody A outer s H vs Q E (hr.deeper _) hsp
 have I:Inv (cxOf CX P w K mg base N qual scope f cdv A outer s H E) [] (start N vs) H s1:=inv_start S hr.hd e0 hl r x
 refine wpAny_mono (ht [] s1 (start N vs) H _ I hq) (fun fl s' hs=>?_) fun e s' hs=>hs
 have fin:∀{σ':St} {H':Hp} {v:V} {u:Value},Inv (cxOf CX P w K mg base N qual scope f cdv A outer s H E) [] σ' H' s'→RelV v u→Q v H'→CE outer P w H s Q u s' :=
  fun {σ' H' v u} J rv q=>⟨v,H',J.os,J.bare,J.base,J.hok,rv,q⟩
 cases fl with
 |ret u =>
  obtain⟨v,σ',H',J,rv,q⟩:=hs
  exact fin J rv q
 |next =>
  obtain⟨σ',H',J,q⟩:=hs
  exact fin (v:=V.non) (u:=Value.none) J rfl q
 |brk =>
  obtain⟨_,_,_,q⟩:=hs
  exact False.elim q
 |cont =>
  obtain⟨_,_,_,q⟩:=hs
  exact False.elim q
end L2
namespace L2
open PySem PySem.Spec PyProof.Rows
section
variable{X:Cx}{x:Str}{p pos:Pos}{e:Expr}{es:List Expr}{t:TA}{id T:String}{r:List V→Hp→VK→Prop}
def tCB(r:List V→Hp→VK→Prop)(t:TA):TE:=fun σ H Q=>t σ H fun vs H1=>r vs H1 Q
theorem pe_callB(hc:CallR X (.builtin id) r)(hg:Gl X x)(hm:X.mg x=none)(hv:bootBuiltins x=some (.builtin id))(ha:PA X (e::es) t) (hn:x≠"__name__":=by decide) (hdb:(x==("__debug__":Str))=false:=by decide)
  (he:starEach (e::es) X.env=(false,eval e X.env)::starEach es X.env:=by rfl) (hpl:(backTo pos (starEach es X.env)).any (·.1)=false:=by rfl):PE X (.Call (.Name x p) (e::es) [] pos) (tCB r t):=by
 intro pins s σ H Q I h
 refine wpAny_Call_Name_kw (ld_blt I hg hm hv ?_ hn hdb)
 exact PyProof.Rows.callWith_builtin1 (thn (ha pos pins s σ H _ I h) fun us s1 ⟨vs,H1,I1,r1,q1⟩=>hc pins s1 σ H1 vs us Q I1 r1 q1) he hpl
theorem pe_callTy(hc:CallR X (.type T) r)(hg:Gl X x)(hm:X.mg x=none)(hv:bootBuiltins x=some (.type T))(ha:PA X (e::es) t) (hn:x≠"__name__":=by decide) (hdb:(x==("__debug__":Str))=false:=by decide)
  (he:starEach (e::es) X.env=(false,eval e X.env)::starEach es X.env:=by rfl) (hpl:(backTo pos (starEach es X.env)).any (·.1)=false:=by rfl):PE X (.Call (.Name x p) (e::es) [] pos) (tCB r t):=by
 intro pins s σ H Q I h
 refine wpAny_Call_Name_kw (ld_blt I hg hm hv ?_ hn hdb)
 exact PyProof.Rows.callWith_type1 (thn (ha pos pins s σ H _ I h) fun us s1 ⟨vs,H1,I1,r1,q1⟩=>hc pins s1 σ H1 vs us Q I1 r1 q1) he hpl
end
end L2
namespace HT
open PySem PyProof.Rows
section
open PySem.SeqAt
open PySem.AutoSeq1 (wpAny_loadPart')
open PySem.MeetsSeq PySem.MeetsSeq2 PySem.MeetsSeq3
end
section
variable{prog:Program}{w:World}{A:Around}{E:Value→Shared→Prop}{s:Shared}
def sIx(n d:Nat):Option Int→Nat
 |none=>d
 |some v=>if v < 0 then (v+(n:Int)).toNat else min v.toNat n
theorem sIx_none(n d:Nat):sIx n d none=d:=rfl
theorem sIx_nat(n d k:Nat):sIx n d (some (k:Int))=min k n:=by
 show(if (k:Int) < 0 then ((k:Int)+(n:Int)).toNat else min (k:Int).toNat n)=min k n
 rw [if_neg (by omega),Int.toNat_natCast]
theorem sIx_le(n d:Nat)(hd:d≤n)(o:Option Int):sIx n d o≤n:=by
 cases o with
 |none=>exact hd
 |some v =>
  show(if v < 0 then (v+(n:Int)).toNat else min v.toNat n)≤n
  by_cases hv:v < 0
  ·rw [if_pos hv];omega
  ·rw [if_neg hv];exact Nat.min_le_right _ _
theorem clip_eq(v:Int)(n d:Nat):(if v < 0 then max (v+(n:Int)) 0 else min v (n:Int))=((sIx n d (some v):Nat):Int):=by
 show(if v < 0 then max (v+(n:Int)) 0 else min v (n:Int))=(((if v < 0 then (v+(n:Int)).toNat else min v.toNat n):Nat):Int)
 by_cases hv:v < 0
 ·simp only [if_pos hv];omega
 ·simp only [if_neg hv];omega
theorem adjust_gen(lo hi:Option Int)(n:Nat):Builtin.Slice.sliceAdjust lo hi 1 (n:Int)=(((sIx n 0 lo:Nat):Int),((sIx n n hi:Nat):Int)):=by
 have h1:¬((1:Int) < 0):=by omega
 unfold Builtin.Slice.sliceAdjust
 simp only [h1,if_false]
 refine Prod.ext ?_ ?_
 ·cases lo with
  |none=>rfl
  |some v=>exact clip_eq v n 0
 ·cases hi with
  |none=>rfl
  |some v=>exact clip_eq v n n
theorem places_gen(i j:Nat):Builtin.Slice.slicePlaces (i:Int) (j:Int) 1=j - i:=by
 unfold Builtin.Slice.slicePlaces
 have h1:(1:Int) > 0:=by omega
 simp only [h1,if_true,Int.ediv_one]
 split<;>omega
theorem slicePart_{v:Value}{o:Option Int}{Q:Option Int→Shared→Prop}(p:IsPart v o)(h:Q o s):wpAny (model prog w) A (Builtin.Slice.slicePartIndex v) Q E s:=by
 cases p with
 |none=>exact slicePart_none h
 |int i t=>exact slicePart_int h
theorem sliceApplied_gen{sl:Addr}{vl vu:Value}{lo hi:Option Int}{n:Nat}{Q:Int × Int × Nat→Shared→Prop}(hs:s.heap.IsSliceOf sl vl vu .none)(pl:IsPart vl lo)(pu:IsPart vu hi)
  (h:Q (((sIx n 0 lo:Nat):Int),1,sIx n n hi - sIx n 0 lo) s):wpAny (model prog w) A (Builtin.Slice.sliceApplied (.ref sl) (pure (n:Int))) Q E s:=by
 obtain⟨os,hos,hcs,hds⟩:=id hs
 unfold Builtin.Slice.sliceApplied Builtin.Slice.sliceFields
 refine wpAny_bind (wpAny_bind (wpAny_field hos hds (x:=vl) rfl (wpAny_bind (wpAny_field hos hds (x:=vu) rfl (wpAny_bind (wpAny_field hos hds (x:=.none) rfl (wpAny_pure ?_)))))))
 refine wpAny_bind (slicePart_none ?_)
 show wpAny _ _ (if ((1:Int)==0)=true then _ else _) _ _ s
 rw [if_neg (by decide)]
 refine wpAny_bind (slicePart_ pl (wpAny_bind (slicePart_ pu (wpAny_bind (wpAny_pure ?_)))))
 show wpAny _ _ (match Builtin.Slice.sliceAdjust lo hi 1 (n:Int) with|(lo,hi)=>pure (lo,(1:Int),Builtin.Slice.slicePlaces lo hi 1)) _ _ s
 rw [adjust_gen lo hi n]
 show wpAny _ _ (pure (((sIx n 0 lo:Nat):Int),(1:Int),Builtin.Slice.slicePlaces ((sIx n 0 lo:Nat):Int) ((sIx n n hi:Nat):Int) 1)) _ _ s
 rw [places_gen]
 exact wpAny_pure h
theorem pick_gen(xs:Array Value)(i k:Nat):((List.range k).filterMap fun(m:Nat)=>xs[((i:Int)+(m:Int)*1).toNat]?).toArray=((xs.toList.drop i).take k).toArray:=by
 have e:(fun(m:Nat)=>xs[((i:Int)+(m:Int)*1).toNat]?)=fun m=>xs[i+m]?:=by
  funext m
  have:((i:Int)+(m:Int)*1).toNat=i+m:=by omega
  rw [this]
 rw [e]
 have:=pick_run xs i k
 rw [List.filterMap_map] at this
 have e2:((fun x=>xs[x]?)∘fun x=>i+x)=fun m=>xs[i+m]?:=rfl
 rw [e2] at this
 rw [this]
theorem getItem_tuple_cut{t sl:Addr}{items:Array Value}{vl vu:Value}{lo hi:Option Int}{Q:Value→Shared→Prop}(ht:IsTup s.heap t items)(hs:s.heap.IsSliceOf sl vl vu .none)(pl:IsPart vl lo)(pu:IsPart vu hi)
  (hw:¬(sIx items.size 0 lo=0∧sIx items.size items.size hi=items.size))
  (h:Q (.ref s.heap.objs.size) { s with heap:=s.heap.push { cls:=.type "tuple",data:=.seq ((items.toList.drop (sIx items.size 0 lo)).take (sIx items.size items.size hi - sIx items.size 0 lo)).toArray } })
  (hsz:items.size≤sizeLine):wpAny (model prog w) A (getItem (.ref t) (.ref sl)) Q E s:=by
 have htake:sizeOk (.seq ((items.toList.drop (sIx items.size 0 lo)).take (sIx items.size items.size hi - sIx items.size 0 lo)).toArray):=by
  show((items.toList.drop (sIx items.size 0 lo)).take (sIx items.size items.size hi - sIx items.size 0 lo)).toArray.size≤sizeLine
  rw [List.size_toArray,List.length_take,List.length_drop,Array.length_toList]
  omega
 have hj:sIx items.size items.size hi≤items.size:=sIx_le _ _ (Nat.le_refl _) hi
 obtain⟨os,hos,hcs,hds⟩:=id hs
 have hTs:s.TypeIs (.ref sl) "slice":=⟨os,hos,hcs⟩
 unfold getItem
 try with_reducible refine wpAny_holding ?_
 first|refine wpAny_bind (wpAny_pure ?_)|skip
 refine wpAny_bind (wpAny_sequenceKey ht.typeIs (by decide) ?_)
 refine wpAny_bind (wpAny_callSpecial?_slot (name:=Str.ofString "__getitem__") ht.typeIs PyProof.Rows.slot_tuple_getitem
  (wpAny_call_entry PyProof.Rows.slot_tuple_getitem ht.typeIs entry_tuple_getitem ?_ (args_tuple_getitem _ _)))
 show wpAny _ _ (Builtin.Tuple.tupleItemsOf (.ref t) >>= _) _ _ s
 refine wpAny_bind (tupleItemsOf_ ht ?_)
 refine wpAny_bind (wpAny_typeOf hTs ?_)
 rw [if_pos (by decide)]
 refine wpAny_bind (sliceApplied_gen hs pl pu ?_)
 have hno:¬((((sIx items.size 0 lo:Nat):Int)==0&&(1:Int)==1&&(sIx items.size items.size hi - sIx items.size 0 lo)==items.size)=true):=by
  intro q
  rw [Bool.and_eq_true,Bool.and_eq_true] at q
  have q1:((sIx items.size 0 lo:Nat):Int)=0:=eq_of_beq q.1.1
  have q2:sIx items.size items.size hi - sIx items.size 0 lo=items.size:=eq_of_beq q.2
  exact hw ⟨by omega,by omega⟩
 show wpAny _ _ (if (((sIx items.size 0 lo:Nat):Int)==0&&(1:Int)==1&&(sIx items.size items.size hi - sIx items.size 0 lo)==items.size)=true then _ else _) _ _ s
 rw [if_neg hno,pick_gen]
 first
  |exact wpAny_bind (m:=Builtin.Tuple.tupleExact _) (wpAny_newObj_type (wpAny_pure ⟨_,rfl,wpAny_pure h⟩) htake)
  |exact wpAny_bind (m:=Builtin.Tuple.tupleExact _) (wpAny_newObj_type (wpAny_bind (wpAny_pure (wpAny_pure ⟨_,rfl,wpAny_pure h⟩))) htake)
  |exact wpAny_bind (wpAny_bind (m:=Builtin.Tuple.tupleExact _) (wpAny_newObj_type (wpAny_pure (wpAny_pure ⟨_,rfl,wpAny_pure h⟩)) htake))
  |exact wpAny_bind (wpAny_bind (m:=Builtin.Tuple.tupleExact _) (wpAny_newObj_type (wpAny_pure ⟨_,rfl,wpAny_pure h⟩) htake))
end
end HT
namespace L2
open PySem PySem.Spec PyProof.Rows
abbrev TO:=St→Hp→(Option Int→Hp→Prop)→Prop
def PO(X:Cx)(e:Option Expr)(t:TO):Prop :=
 ∀(pins:List (Addr × Obj)) (s:Shared) (σ:St) (H:Hp) (Q:Option Int→Hp→Prop),Inv X pins σ H s→t σ H Q →
  wpAny (model X.prog X.w) X.A (evalPart e X.env) (fun u s'=>∃o H',Inv X pins σ H' s'∧IsPart u o∧Q o H') X.xe s
def tNoPart:TO:=fun _ H Q=>Q none H
def tPart(t:TE):TO:=fun σ H Q=>t σ H fun x H1=>∃i,x=.int i∧Q (some i) H1
section
variable{X:Cx}{e:Expr}{te:TE}{lo hi:Option Expr}{tl th:TO}{pos p2:Pos}
theorem po_none:PO X none tNoPart:=by
 intro pins s σ H Q I h
 rw [evalPart_none]
 exact wpAny_pure ⟨none,H,I,.none,h⟩
theorem po_some(h:PE X e te):PO X (some e) (tPart te):=by
 intro pins s σ H Q I hw
 rw [evalPart_some]
 refine thn (h pins s σ H _ I hw) fun u s1 ⟨x,H1,I1,r1,q1⟩=>?_
 obtain⟨i,rfl,q⟩:=q1
 obtain⟨t,rfl⟩:=r1
 exact⟨some i,H1,I1,.int i t,q⟩
def SlR(X:Cx)(r:V→Option Int→Option Int→Hp→VK→Prop):Prop :=
 ∀(pins:List (Addr × Obj)) (s:Shared) (σ:St) (H:Hp) (x:V) (v vl vu:Value) (lo hi:Option Int) (sl:Addr) (Q:VK),Inv X pins σ H s→RelV x v→s.heap.IsSliceOf sl vl vu .none→IsPart vl lo→IsPart vu hi→r x lo hi H Q →
  ∃T id,typeLookup (.type T) "__getitem__"=pure (some (.builtin id))∧s.TypeIs v T∧wpAny (model X.prog X.w) X.A (getItem v (.ref sl)) (EP X pins σ Q) X.xe s
def tSl(r:V→Option Int→Option Int→Hp→VK→Prop)(te:TE)(tl th:TO):TE:=fun σ H Q=>te σ H fun x H1=>tl σ H1 fun l H2=>th σ H2 fun u H3=>r x l u H3 Q
theorem pe_slice{r:V→Option Int→Option Int→Hp→VK→Prop}(hr:SlR X r)(he:PE X e te)(hl:PO X lo tl)(hu:PO X hi th):PE X (.Subscript e (.Slice lo hi none p2) pos) (tSl r te tl th):=by
 intro pins s σ H Q I h
 refine Subscript_ (thn (he pins s σ H _ I h) fun v s1 ⟨x,H1,I1,r1,q1⟩=>?_)
 refine wpAny_Slice (thn (hl pins s1 σ H1 _ I1 q1) fun vl s2 ⟨l,H2,I2,pl,q2⟩=>thn (hu pins s2 σ H2 _ I2 q2) fun vu s3 ⟨u,H3,I3,pu,q3⟩=>?_)
 rw [evalPart_none]
 refine wpAny_pure ?_
 have I4:Inv X pins σ H3 { s3 with heap:=s3.heap.push { cls:=.type "slice",data:=.fields #[vl,vu,.none] } }:=I3.kept (t':=s3.toks) fun b ob q=>Heap.get?_push_of_some _ q
 obtain⟨T,id,hT,ht,hg⟩:=hr pins { s3 with heap:=s3.heap.push { cls:=.type "slice",data:=.fields #[vl,vu,.none] } } σ H3 x v vl vu l u s3.heap.objs.size Q I4 r1 (Heap.IsSliceOf.new ..) pl pu q3
 show wpAny (model X.prog X.w) X.A (subscriptTail e (.Slice lo hi none p2) v (.ref s3.heap.objs.size)) (EP X pins σ Q) X.xe { s3 with heap:=s3.heap.push { cls:=.type "slice",data:=.fields #[vl,vu,.none] } }
 exact tail_any (ops:=[.ref s3.heap.objs.size,v]) ht hT hg (by with_unfolding_all rfl)
def cutV(xs:List V)(lo hi:Option Int):List V:=(xs.drop (HT.sIx xs.length 0 lo)).take (HT.sIx xs.length xs.length hi - HT.sIx xs.length 0 lo)
theorem cutV_length(xs:List V)(lo hi:Option Int):(cutV xs lo hi).length≤xs.length:=by
 unfold cutV
 rw [List.length_take,List.length_drop]
 omega
def rSlT(K:PySem.W.Frag):V→Option Int→Option Int→Hp→VK→Prop:=fun x lo hi H Q=>∃a xs,x=.ref a∧SqT K H a xs ∧
 ¬(HT.sIx xs.length 0 lo=0∧HT.sIx xs.length xs.length hi=xs.length)∧∀p,H p=none→Q (.ref p) (upd H p (.tup (cutV xs lo hi)))
theorem sl_tup:SlR X (rSlT X.K):=by
 intro pins s σ H x v vl vu lo hi sl Q I rx hs pl pu h
 obtain⟨a,xs,rfl,hx,hw,q⟩:=h
 cases rx
 obtain⟨its,r,ht,hz⟩:=I.tuple hx
 have hlen:its.toArray.size=xs.length:=by rw [List.size_toArray];exact r.length.symm
 refine⟨"tuple",_,PyProof.Rows.slot_tuple_getitem.lookup,ht.typeIs,?_⟩
 refine HT.getItem_tuple_cut ht hs pl pu (by rw [hlen];exact hw) ?_ (by rw [hlen];exact hz)
 rw [hlen]
 refine⟨.ref s.heap.objs.size,_,I.laid (t':=s.toks) (o:=.tup (cutV xs lo hi)) (fun b ob q=>Heap.get?_push_of_some _ q) (Nat.le_refl _) ?_,rfl,q _ (I.hok.fresh (Nat.le_refl _))⟩
 exact⟨Nat.le_trans (cutV_length xs lo hi) hz,_,(r.drop (HT.sIx xs.length 0 lo)).take (HT.sIx xs.length xs.length hi - HT.sIx xs.length 0 lo),IsTup.new _ _⟩
end
end L2
namespace L2
open PySem PySem.Spec PyProof.Rows
def ixN(n:Nat)(i:Int):Option Nat:=if 0≤i then (if i < n then some i.toNat else none) else if -(n:Int)≤i then some (i+n).toNat else none
def atI{α:Type}(xs:List α)(i:Int):Option α:=(ixN xs.length i).bind fun j=>xs[j]?
theorem ixN_seq{n:Nat}{i:Int}{j:Nat}(h:ixN n i=some j):seqIndex? i n=some j∧j < n∧-(n:Int)≤i∧i < n:=by
 unfold ixN at h
 by_cases h0:0≤i
 ·rw [if_pos h0] at h
  by_cases h1:i < n
  ·rw [if_pos h1] at h
   have e:i.toNat=j:=Option.some.inj h
   exact⟨by rw [seqIndex_of h0 h1,e],by omega,by omega,h1⟩
  ·rw [if_neg h1] at h;cases h
 ·rw [if_neg h0] at h
  by_cases h1:-(n:Int)≤i
  ·rw [if_pos h1] at h
   have e:(i+n).toNat=j:=Option.some.inj h
   exact⟨by rw [seqIndex_neg (by omega) h1,e],by omega,h1,by omega⟩
  ·rw [if_neg h1] at h;cases h
theorem atI_get{α:Type}{xs:List α}{i:Int}{v:α}(h:atI xs i=some v):∃j,seqIndex? i xs.length=some j∧xs[j]?=some v∧j < xs.length∧-(xs.length:Int)≤i∧i < xs.length:=by
 unfold atI at h
 cases e:ixN xs.length i with
 |none=>rw [e] at h;cases h
 |some j =>
  rw [e] at h
  obtain⟨h1,h2,h3,h4⟩:=ixN_seq e
  exact⟨j,h1,h,h2,h3,h4⟩
theorem atI_nat{α:Type}{xs:List α}{j:Nat}{v:α}(h:xs[j]?=some v):atI xs (j:Int)=some v:=by
 have hj:j < xs.length:=(List.getElem?_eq_some_iff.mp h).1
 have e:ixN xs.length (j:Int)=some j:=by
  unfold ixN
  rw [if_pos (by omega),if_pos (by omega)];simp
 unfold atI;rw [e];exact h
def PlainIx(b:Expr):Prop:=∀o i,subscripted b false o i=operate [o,i] (getItem o i)
def IxR(X:Cx)(r:R2):Prop :=
 ∀(value slice:Expr) (pins:List (Addr × Obj)) (s:Shared) (σ:St) (H:Hp) (x y:V) (v u:Value) (Q:VK),Inv X pins σ H s→RelV x v→RelV y u→r x y H Q →
  subscripted slice false v u=operate [v,u] (getItem v u)→wpAny (model X.prog X.w) X.A (subscriptTail value slice v u) (EP X pins σ Q) X.xe s
def MtR(X:Cx)(id:String)(r:V→List V→Hp→VK→Prop):Prop :=
 ∀(pins:List (Addr × Obj)) (s:Shared) (σ:St) (H:Hp) (x:V) (xs:List V) (v:Value) (us:List Value) (Q:VK),Inv X pins σ H s→RelV x v→Vals xs us→r x xs H Q →
  wpAny (model X.prog X.w) X.A (call (.builtin id) (v::us)) (EP X pins σ Q) X.xe s
section
variable{X:Cx}{a b:Expr}{ta tb:TE}{pos:Pos}
theorem pe_ix{r:R2}(hr:IxR X r)(ha:PE X a ta)(hb:PE X b tb)(hs:PlainIx b):PE X (.Subscript a b pos) (tOp r ta tb):=by
 intro pins s σ H Q I h
 exact Subscript_ (binT ha hb I h fun v u s2 x y H2 I2 rx ry q=>hr a b pins s2 σ H2 x y v u Q I2 rx ry q (hs _ _))
inductive Wg (S:PySem.W.Frag→Hp→Addr→List V→Prop) (K:PySem.W.Frag) (x y:V) (H:Hp) (Q:VK):Prop
 |mk (p:Addr) (xs:List V) (i:Int) (v:V) (a:x=.ref p) (b:y=.int i) (c:S K H p xs) (d:atI xs i=some v) (q:Q v H)
def rIxL(K:PySem.W.Frag):R2:=fun x y H Q=>Wg SqL K x y H Q
def rIxT(K:PySem.W.Frag):R2:=fun x y H Q=>Wg SqT K x y H Q
def rIxS:R2:=fun x y H Q=>∃z i c,x=.str z∧y=.int i∧z.length≤sizeLine∧atI z.cps.toList i=some c∧Q (.str ⟨#[c]⟩) H
theorem ix_list:IxR X (rIxL X.K):=by
 intro value slice pins s σ H x y v u Q I rx ry h hs
 obtain⟨p,xs,i,z,rfl,rfl,hq,he,q⟩:=h
 cases rx
 obtain⟨t,rfl⟩:=ry
 obtain⟨its,r,pl,hz⟩:=I.list hq
 obtain⟨j,h1,h2,h3,h4,h5⟩:=atI_get he
 obtain⟨w,ew,rw'⟩:=r.get h2
 have hl:=r.length
 have hn:=line63
 have fin:EP X pins σ Q w s:=⟨z,H,I,rw',q⟩
 by_cases h0:0≤i
 ·have hj:i.toNat=j:=by
   rw [seqIndex_of h0 h5] at h1
   exact Option.some.inj h1
  exact item_listR pl.isList h0 (by omega) (by rw [hj];simpa using ew) fin hs
 ·have hj:(i+(its.toArray.size:Int)).toNat=j:=by
   rw [seqIndex_neg (by omega) h4] at h1
   rw [List.size_toArray,←hl]
   exact Option.some.inj h1
  exact subscriptTail_builtinR (x:=w) pl.isList.typeIs slot_list_getitem.lookup
   (wpAny_getItem_list_neg (Q:=fun r s'=>r=w∧EP X pins σ Q r s') pl.isList (by omega) (by rw [List.size_toArray]<;>omega) (by omega) (by rw [hj];simpa using ew) ⟨rfl,fin⟩) hs
theorem ix_tup:IxR X (rIxT X.K):=by
 intro value slice pins s σ H x y v u Q I rx ry h hs
 obtain⟨p,xs,i,z,rfl,rfl,hq,he,q⟩:=h
 cases rx
 obtain⟨t,rfl⟩:=ry
 obtain⟨its,r,pl,hz⟩:=I.tuple hq
 obtain⟨j,h1,h2,h3,h4,h5⟩:=atI_get he
 obtain⟨w,ew,rw'⟩:=r.get h2
 have hl:=r.length
 have hn:=line63
 have fin:EP X pins σ Q w s:=⟨z,H,I,rw',q⟩
 exact subscriptTail_builtinR (x:=w) pl.typeIs slot_tuple_getitem.lookup
  (getItem_tuple (j:=j) (Q:=fun r s'=>r=w∧EP X pins σ Q r s') pl (by omega) (by omega) (by rw [List.size_toArray,←hl];exact h1) (by simpa using ew) ⟨rfl,fin⟩) hs
theorem ix_str:IxR X rIxS:=by
 intro value slice pins s σ H x y v u Q I rx ry h hs
 obtain⟨z,i,c,rfl,rfl,hz,he,q⟩:=h
 obtain⟨t,rfl⟩:=rx
 obtain⟨t',rfl⟩:=ry
 obtain⟨j,h1,h2,h3,h4,h5⟩:=atI_get he
 have hl:z.cps.toList.length=z.length:=by simp [Str.length]
 rw [hl] at h1 h4 h5
 have hn:=line63
 exact tail_any (typeIs_str s z t) slot_str_getitem.lookup (getItem_str (c:=c) (by
  have e1:decide (i < -(2 ^ 63:Int))=false:=decide_eq_false (by omega)
  have e2:decide (i≥2 ^ 63)=false:=decide_eq_false (by omega)
  rw [e1,e2,Bool.or_false]) (by rw [h1];simpa using h2) ⟨.str ⟨#[c]⟩,H,I.tok _,⟨_,rfl⟩,q⟩) hs
theorem mapSeq_set(its:List Value)(n j:Nat)(u:Value):Obj.mapSeq (·.setIfInBounds j u) { cls:=.type "list",data:=.seq its.toArray n }={ cls:=.type "list",data:=.seq (its.set j u).toArray n }:=by
 simp [Obj.mapSeq]
theorem Inv.lst{pins:List (Addr × Obj)}{σ:St}{H:Hp}{s:Shared}{p:Addr}{xs:List V}(I:Inv X pins σ H s)(h:H p=some (.lst xs)) :
  ∃(its:List Value) (n:Nat),Vals xs its∧s.heap.get? p=some { cls:=.type "list",data:=.seq its.toArray n }∧xs.length≤sizeLine:=by
 obtain⟨z,its,n,r,e⟩:=I.hok p _ h
 exact⟨its,n,r,e,z⟩
theorem Inv.lstUpd{pins:List (Addr × Obj)}{σ:St}{H:Hp}{s:Shared}{p:Addr}{xs ys:List V}{its its':List Value}{n n':Nat}{f:Obj→Obj}(I:Inv X pins σ H s)(h:H p=some (.lst xs))
  (ho:s.heap.get? p=some { cls:=.type "list",data:=.seq its.toArray n }) (hf:f { cls:=.type "list",data:=.seq its.toArray n }={ cls:=.type "list",data:=.seq its'.toArray n' }) (r:Vals ys its') (hz:ys.length≤sizeLine) (t:Nat) :
  Inv X pins σ (upd H p (.lst ys)) { s with heap:=s.heap.update p f,toks:=t }:=by
 have e:(s.heap.update p f).get? p=some { cls:=.type "list",data:=.seq its'.toArray n' }:=by
  rw [Heap.get?_update_self f ho (by rw [hf]<;>rfl),hf]
 refine I.write (x:=p) (e:=p) (by rw [h];trivial) (.inl rfl) (fun b u hb q=>(Heap.get?_update_other _ _ (Ne.symm hb)).trans q) ⟨_,e⟩ ?_
 exact⟨hz,its',n',r,e⟩
def rSetL:V→V→V→Hp→(Hp→Prop)→Prop:=fun o i v H Q=>∃p xs k j,o=.ref p∧i=.int k∧H p=some (.lst xs)∧ixN xs.length k=some j∧Q (upd H p (.lst (xs.set j v)))
theorem set_list:PSet X rSetL:=by
 intro pins s σ H o i v ov iv u Q I ro ri rv h
 obtain⟨p,xs,k,j,rfl,rfl,hp,hj,q⟩:=h
 cases ro
 obtain⟨t,rfl⟩:=ri
 obtain⟨its,n,r,ho,hz⟩:=I.lst hp
 obtain⟨h1,h2,h3,h4⟩:=ixN_seq hj
 have hl:=r.length
 have hn:=line63
 have I':Inv X pins σ (upd H p (.lst (xs.set j v))) { s with heap:=s.heap.update p (Obj.mapSeq (·.setIfInBounds j u)) } :=
  I.lstUpd hp ho (mapSeq_set its n j u) (r.set rv j) (by rw [List.length_set];exact hz) s.toks
 by_cases h0:0≤k
 ·have hk:k.toNat=j:=by
   rw [seqIndex_of h0 h4] at h1
   exact Option.some.inj h1
  exact PySem.W.ki_setAt ho h0 (by omega) (by rw [List.size_toArray,←hl];exact h4) (by rw [hk];exact⟨_,I',q⟩)
 ·have hk:(k+(its.toArray.size:Int)).toNat=j:=by
   rw [seqIndex_neg (by omega) h3] at h1
   rw [List.size_toArray,←hl]
   exact Option.some.inj h1
  exact PySem.W.ki_setBack ho (by omega) (by rw [List.size_toArray,←hl];exact h3) (by omega) (by rw [hk];exact⟨_,I',q⟩)
theorem slice_bounds(lo hi:Option Int)(n:Nat):(sliceBounds lo hi none n).1=((HT.sIx n 0 lo:Nat):Int)∧(sliceBounds lo hi none n).2.1=((HT.sIx n n hi:Nat):Int)∧(sliceBounds lo hi none n).2.2=1:=by
 refine⟨?_,?_,rfl⟩
 ·cases lo with
  |none=>simp [sliceBounds,HT.sIx]
  |some i =>
   simp only [sliceBounds,HT.sIx,Option.getD_none,show(1:Int) > 0 by decide,if_true]
   by_cases h:i < 0
   ·simp only [h,if_true]<;>omega
   ·simp only [h,if_false]<;>omega
 ·cases hi with
  |none=>simp [sliceBounds,HT.sIx]
  |some i =>
   simp only [sliceBounds,HT.sIx,Option.getD_none,show(1:Int) > 0 by decide,if_true]
   by_cases h:i < 0
   ·simp only [h,if_true]<;>omega
   ·simp only [h,if_false]<;>omega
theorem slicePick_cut(its:List Value)(lo hi:Option Int):slicePick its.toArray lo hi none=((its.drop (HT.sIx its.length 0 lo)).take (HT.sIx its.length its.length hi - HT.sIx its.length 0 lo)).toArray:=by
 obtain⟨h1,h2,h3⟩:=slice_bounds lo hi its.toArray.size
 unfold slicePick
 rw [h1,h2,h3]
 simp only [sliceRange_one,pick_run,List.size_toArray]<;>rfl
def rSlL(K:PySem.W.Frag):V→Option Int→Option Int→Hp→VK→Prop:=fun x lo hi H Q=>∃a xs,x=.ref a∧SqL K H a xs∧∀p,H p=none→Q (.ref p) (upd H p (.lst (cutV xs lo hi)))
theorem sl_list:SlR X (rSlL X.K):=by
 intro pins s σ H x v vl vu lo hi sl Q I rx hs pl pu h
 obtain⟨a,xs,rfl,hx,q⟩:=h
 cases rx
 obtain⟨its,r,ht,hz⟩:=I.list hx
 have hlen:=r.length
 refine⟨"list",_,slot_list_getitem.lookup,ht.isList.typeIs,?_⟩
 refine wpAny_getItem_list_slice ht.isList hs pl pu .none (by simp) ?_ (by rw [List.size_toArray]<;>omega)
 rw [slicePick_cut,←hlen]
 refine⟨.ref s.heap.objs.size,_,I.laid (t':=s.toks) (o:=.lst (cutV xs lo hi)) (fun b ob q=>Heap.get?_push_of_some _ q) (Nat.le_refl _) ?_,rfl,q _ (I.hok.fresh (Nat.le_refl _))⟩
 exact⟨Nat.le_trans (cutV_length xs lo hi) hz,_,0,(r.drop (HT.sIx xs.length 0 lo)).take (HT.sIx xs.length xs.length hi - HT.sIx xs.length 0 lo),Heap.get?_push_size _ rfl⟩
def flatV:V→Bool
 |.non=>true
 |.bl _=>true
 |.int _=>true
 |.str _=>true
 |_=>false
def eqV:V→V→Bool
 |.non,.non=>true
 |.bl a,.bl b=>a==b
 |.bl a,.int b=>(if a then 1 else 0)==b
 |.int a,.bl b=>a==(if b then 1 else 0)
 |.int a,.int b=>a==b
 |.str a,.str b=>a==b
 |_,_=>false
theorem eqAt_V{A:Around}{s:Shared}{y x:V}{u v:Value}(ry:RelV y u)(rx:RelV x v)(fy:flatV y=true)(fx:flatV x=true):SeqAt.EqAt A s u v (eqV y x):=by
 cases y with
 |non =>
  cases ry
  cases x with
  |non=>cases rx;exact SeqAt.EqAt.same _
  |bl b=>cases rx;exact SeqAt.EqAt.none_bool b
  |int b=>obtain⟨t,rfl⟩:=rx;exact SeqAt.EqAt.none_int b t
  |str b=>obtain⟨t,rfl⟩:=rx;exact SeqAt.EqAt.none_str b t
  |_=>exact absurd (show false=true from fx) Bool.false_ne_true
 |bl a =>
  cases ry
  cases x with
  |non=>cases rx;exact SeqAt.EqAt.bool_none a
  |bl b=>cases rx;exact SeqAt.EqAt.bool_bool a b
  |int b=>obtain⟨t,rfl⟩:=rx;exact SeqAt.EqAt.bool_int a b t
  |str b=>obtain⟨t,rfl⟩:=rx;exact SeqAt.EqAt.bool_str a b t
  |_=>exact absurd (show false=true from fx) Bool.false_ne_true
 |int a =>
  obtain⟨t',rfl⟩:=ry
  cases x with
  |non=>cases rx;exact SeqAt.EqAt.int_none a t'
  |bl b=>cases rx;exact SeqAt.EqAt.int_bool a t' b
  |int b=>obtain⟨t,rfl⟩:=rx;exact SeqAt.EqAt.int_int a t' b t
  |str b=>obtain⟨t,rfl⟩:=rx;exact SeqAt.EqAt.int_str a t' b t
  |_=>exact absurd (show false=true from fx) Bool.false_ne_true
 |str a =>
  obtain⟨t',rfl⟩:=ry
  cases x with
  |non=>cases rx;exact SeqAt.EqAt.str_none a t'
  |bl b=>cases rx;exact SeqAt.EqAt.str_bool a t' b
  |int b=>obtain⟨t,rfl⟩:=rx;exact SeqAt.EqAt.str_int a t' b t
  |str b=>obtain⟨t,rfl⟩:=rx;exact SeqAt.EqAt.str_str a t' b t
  |_=>exact absurd (show false=true from fx) Bool.false_ne_true
 |_=>exact absurd (show false=true from fy) Bool.false_ne_true
def eqU(x:V)(u:Value):Bool:=match u with
 |.none=>eqV .non x
 |.bool b=>eqV (.bl b) x
 |.int i _=>eqV (.int i) x
 |.str z _=>eqV (.str z) x
 |_=>false
theorem eqU_of{x y:V}{u:Value}(r:RelV y u)(f:flatV y=true):eqU x u=eqV y x:=by
 cases y with
 |non=>cases r;rfl
 |bl b=>cases r;rfl
 |int i=>obtain⟨t,rfl⟩:=r;rfl
 |str z=>obtain⟨t,rfl⟩:=r;rfl
 |_=>exact absurd (show false=true from f) Bool.false_ne_true
theorem any_eqU{x:V}:∀{xs:List V} {us:List Value},Vals xs us→xs.all flatV=true→us.any (eqU x)=xs.any fun y=>eqV y x
 |_,_,.nil,_=>rfl
 |y::xs,u::us,.cons r t,f=>by
  rw [List.all_cons,Bool.and_eq_true] at f
  rw [List.any_cons,List.any_cons,eqU_of r f.1,any_eqU t f.2]
theorem mem_eqAt{A:Around}{s:Shared}{x:V}{v:Value}(rx:RelV x v)(fx:flatV x=true):∀{xs:List V} {us:List Value},Vals xs us→xs.all flatV=true→∀u∈us,SeqAt.EqAt A s u v (eqU x u)
 |_,_,.nil,_=>fun u hu=>by cases hu
 |y::xs,u::us,.cons r t,f=>fun u' hu=>by
  rw [List.all_cons,Bool.and_eq_true] at f
  rcases List.mem_cons.mp hu with rfl|hu
  ·rw [eqU_of r f.1];exact eqAt_V r rx f.1 fx
  ·exact mem_eqAt rx fx t f.2 u' hu
def inV(x:V)(xs:List V):Bool:=xs.any fun y=>eqV y x
def rIn(K:PySem.W.Frag)(neg:Bool):R2:=fun x y H Q=>∃p xs,y=.ref p∧(SqL K H p xs∨SqT K H p xs)∧flatV x=true∧xs.all flatV=true∧Q (.bl (if neg then !inV x xs else inV x xs)) H
theorem op_in_seq:OpR X (compareOp .In) (rIn X.K false):=by
 intro pins s σ H x y v u Q I rx ry h
 obtain⟨p,xs,rfl,hq,fx,fs,q⟩:=h
 cases ry
 rcases hq with hq|hq
 ·obtain⟨its,r,pl,hz⟩:=I.list hq
  refine SeqAt.in_listAt (eqU x) pl.isList (fun w hw=>mem_eqAt rx fx r fs w (by simpa using hw)) ⟨.bl _,H,I,rfl,?_⟩
  rw [show its.toArray.any (eqU x)=its.any (eqU x) by simp,any_eqU r fs]
  exact q
 ·obtain⟨its,r,pl,hz⟩:=I.tuple hq
  refine SeqAt.in_tupleAt (eqU x) pl (fun w hw=>mem_eqAt rx fx r fs w (by simpa using hw)) ⟨.bl _,H,I,rfl,?_⟩
  rw [show its.toArray.any (eqU x)=its.any (eqU x) by simp,any_eqU r fs]
  exact q
theorem call_len_seq:CallR X (.builtin "len") (fun xs H Q=>∃p ys,xs=[.ref p]∧(SqL X.K H p ys∨SqT X.K H p ys)∧Q (.int ys.length) H):=by
 intro pins s σ H xs us Q I r h
 obtain⟨p,ys,rfl,hq,q⟩:=h
 obtain⟨u,rfl,rx⟩:=vals1 r
 cases rx
 have hn:=line63
 rcases hq with hq|hq
 ·obtain⟨its,r',pl,hz⟩:=I.list hq
  have hlen:=r'.length
  exact Calls.call_len_list pl.isList (by simp only [List.size_toArray]<;>omega) ⟨.int ys.length,H,I.tok _,⟨s.toks+1,by rw [List.size_toArray,hlen]⟩,q⟩
 ·obtain⟨its,r',pl,hz⟩:=I.tuple hq
  have hlen:=r'.length
  exact len_tuple pl (by simp only [List.size_toArray]<;>omega) ⟨.int ys.length,H,I.tok _,⟨s.toks+1,by rw [List.size_toArray,hlen]⟩,q⟩
theorem call_list_of:CallR X (.type "list") (fun xs H Q=>∃p ys,xs=[.ref p]∧(SqL X.K H p ys∨SqT X.K H p ys)∧∀l,H l=none→Q (.ref l) (upd H l (.lst ys))):=by
 intro pins s σ H xs us Q I r h
 obtain⟨p,ys,rfl,hq,q⟩:=h
 obtain⟨u,rfl,rx⟩:=vals1 r
 cases rx
 have fin:∀(its:List Value),Vals ys its→ys.length≤sizeLine→∀(h':Heap) (c':Nat),(∀b o',s.heap.get? b=some o'→h'.get? b=some o') →
   h'.get? s.heap.objs.size=some { cls:=.type "list",dict:=none,data:=.seq its.toArray c',slots:=#[] }→EP X pins σ Q (.ref s.heap.objs.size) { s with heap:=h' }:=fun its r' hz h' c' kp e =>
  ⟨.ref s.heap.objs.size,_,I.laid (t':=s.toks) kp (Nat.le_refl _) (show ObjOk X.prog X.w _ h' _ (.lst ys) from⟨hz,its,c',r',e⟩),rfl,q _ (I.hok.fresh (Nat.le_refl _))⟩
 rcases hq with hq|hq
 ·obtain⟨its,r',pl,hz⟩:=I.list hq
  have hlen:=r'.length
  obtain⟨o,ho,hc,n,hd⟩:=pl.isList
  exact call_list_seq p (.inl rfl) ho hc hd (fun h' c' kp e=>fin its r' hz h' c' kp e) (by simp only [List.size_toArray]<;>omega)
 ·obtain⟨its,r',pl,hz⟩:=I.tuple hq
  have hlen:=r'.length
  obtain⟨o,ho,hc,n,hd⟩:=pl
  exact call_list_seq p (.inr rfl) ho hc hd (fun h' c' kp e=>fin its r' hz h' c' kp e) (by simp only [List.size_toArray]<;>omega)
theorem call_tuple_of:CallR X (.type "tuple") (fun xs H Q=>∃p ys,xs=[.ref p]∧((SqL X.K H p ys∧∀l,H l=none→Q (.ref l) (upd H l (.tup ys)))∨(SqT X.K H p ys∧Q (.ref p) H))):=by
 intro pins s σ H xs us Q I r h
 obtain⟨p,ys,rfl,h⟩:=h
 obtain⟨u,rfl,rx⟩:=vals1 r
 cases rx
 rcases h with ⟨hq,q⟩|⟨hq,q⟩
 ·obtain⟨its,r',pl,hz⟩:=I.list hq
  have hlen:=r'.length
  refine call_tuple_list pl.isList (fun h' kp=>?_) (by simp only [List.size_toArray]<;>omega)
  have I1:Inv X pins σ H { s with heap:=h' }:=I.kept (t':=s.toks) kp
  have I2:Inv X pins σ (upd H h'.objs.size (.tup ys)) { s with heap:=h'.push { cls:=.type "tuple",data:=.seq its.toArray } } :=
   I1.laid (t':=s.toks) (fun b o e=>Heap.get?_push_of_some _ e) (Nat.le_refl _) (show ObjOk X.prog X.w _ _ _ (.tup ys) from⟨hz,its,r',IsTup.new _ _⟩)
  exact⟨.ref h'.objs.size,_,I2,rfl,q _ (I1.hok.fresh (Nat.le_refl _))⟩
 ·obtain⟨its,r',pl,hz⟩:=I.tuple hq
  exact call_tuple_same pl ⟨.ref p,H,I,rfl,q⟩
def tyV(K:PySem.W.Frag)(T:String)(x:V)(H:Hp):Prop:=match x with
 |.str _=>T="str"
 |.int _=>T="int"
 |.ref p=>(T="list"∧∃xs,SqL K H p xs)∨(T="tuple"∧∃o,K.lookup p=some o∧o.cls=.type "tuple"∧o.dict=none) ∨
   (T="dict"∧((∃kvs,H p=some (.dK kvs))∨∃kvs,H p=some (.dT kvs)))∨(T="set"∧∃S n,H p=some (.set S n))
 |_=>False
theorem tyV_is{pins:List (Addr × Obj)}{σ:St}{H:Hp}{s:Shared}{T:String}{x:V}{v:Value}(I:Inv X pins σ H s)(r:RelV x v)(ty:tyV X.K T x H) :
  s.TypeIs v T∧∀a,v=.ref a→∃ob,s.heap.get? a=some ob∧ob.dict=none:=by
 cases x with
 |str z =>
  obtain⟨t,rfl⟩:=r
  cases (show T="str" from ty)
  exact⟨typeIs_str s z t,fun _ e=>nomatch e⟩
 |int i =>
  obtain⟨t,rfl⟩:=r
  cases (show T="int" from ty)
  exact⟨typeIs_int s i t,fun _ e=>nomatch e⟩
 |ref p =>
  cases r
  rcases ty with ⟨rfl,xs,hq⟩|⟨rfl,o,hk,hc,hd⟩|⟨rfl,hk⟩|⟨rfl,S,n,hk⟩
  ·obtain⟨its,_,pl,_⟩:=I.list hq
   refine⟨pl.isList.typeIs,fun a e=>?_⟩
   cases e
   obtain⟨o,n,e,c,hd,_⟩:=pl
   exact⟨o,e,hd⟩
  ·refine⟨⟨o,I.kIn p o hk,hc⟩,fun a e=>?_⟩
   cases e
   exact⟨o,I.kIn _ o hk,hd⟩
  ·have z:∃o,s.heap.get? p=some o∧o.ExactDict:=by
    rcases hk with ⟨kvs,hk⟩|⟨kvs,hk⟩
    ·obtain⟨_,_,_,_,o,_,_,e,ex,_⟩:=I.hok p _ hk
     exact⟨o,e,ex⟩
    ·obtain⟨_,_,_,_,o,_,_,e,ex,_⟩:=I.hok p _ hk
     exact⟨o,e,ex⟩
   obtain⟨o,e,ex⟩:=z
   refine⟨⟨o,e,ex.1⟩,fun a e2=>?_⟩
   cases e2
   exact⟨o,e,ex.2.1⟩
  ·obtain⟨o,_,_,_,e,ex,_⟩:=I.hok p _ hk
   refine⟨⟨o,e,ex.1⟩,fun a e2=>?_⟩
   cases e2
   exact⟨o,e,ex.2.1⟩
 |_=>exact False.elim ty
def tBM0(K:PySem.W.Frag)(T:String)(r:V→List V→Hp→VK→Prop)(to:TE):TE:=fun σ H Q=>to σ H fun x H1=>tyV K T x H1∧r x [] H1 Q
structure Wh(K:PySem.W.Frag)(T:String)(r:V→List V→Hp→VK→Prop)(t:TA)(x:V)(σ:St)(H:Hp)(Q:VK):Prop where
 h:tyV K T x H
 q:t σ H fun xs H2=>r x xs H2 Q
def tBM(K:PySem.W.Frag)(T:String)(r:V→List V→Hp→VK→Prop)(to:TE)(t:TA):TE:=fun σ H Q=>to σ H fun x H1=>Wh K T r t x σ H1 Q
variable{o e:Expr}{es:List Expr}{to:TE}{t:TA}{name:Str}{apos cpos:Pos}{T id:String}{r:V→List V→Hp→VK→Prop}
theorem pe_bm0(pa:PlainAttrs T)(slot:Slot T name id) (hty:typeOf (.builtin id)=pure (.type "method_descriptor")) (hm:MtR X id r) (ho:PE X o to)
  (hbase:attributeBase o name X.env (eval o X.env)=eval o X.env:=by rfl) (hline:(apos.endLine==cpos.line)=true:=by rfl):PE X (.Call (.Attribute o name apos) [] [] cpos) (tBM0 X.K T r to):=by
 intro pins s σ H Q I h
 refine wpAny_Call_method0_late hbase hline (thn (ho pins s σ H _ I h) fun v s1 ⟨x,H1,I1,r1,ty,q1⟩=>?_)
 obtain⟨h1,h2⟩:=tyV_is I1 r1 ty
 exact⟨T,id,pa,slot,hty,h1,h2,Calls.callWith_builtin rfl (PySem.evalArgs_none (hm pins s1 σ H1 x [] v [] Q I1 r1 .nil q1))⟩
theorem pe_bm(pa:PlainAttrs T)(slot:Slot T name id) (hty:typeOf (.builtin id)=pure (.type "method_descriptor")) (hm:MtR X id r) (ho:PE X o to) (ha:PA X (e::es) t)
  (hbase:attributeBase o name X.env (eval o X.env)=eval o X.env:=by rfl)
  (hfew:((backTo cpos (starEach (e::es) X.env)).all (fun x=>!x.1)&&(backToKw cpos (keywordEach [] X.env)).all (fun x=>x.1.isSome)
   && decide ((e::es).length+([]:List Keyword).length+(if ([]:List Keyword).isEmpty then 0 else 1) < 30))=true:=by rfl)
  (hline:(apos.endLine==cpos.line)=true:=by rfl) (hs:starEach (e::es) X.env=(false,eval e X.env)::starEach es X.env:=by rfl) (hplain:(backTo cpos (starEach es X.env)).any (·.1)=false:=by rfl) :
  PE X (.Call (.Attribute o name apos) (e::es) [] cpos) (tBM X.K T r to t):=by
 intro pins s σ H Q I h
 refine wpAny_Call_method_late hbase hfew hline rfl (thn (ho pins s σ H _ I h) fun v s1 ⟨x,H1,I1,r1,ty,q1⟩=>?_)
 obtain⟨h1,h2⟩:=tyV_is I1 r1 ty
 refine⟨T,id,pa,slot,hty,h1,h2,?_⟩
 have hA:=ha cpos pins s1 σ H1 _ I1 q1
 rw [hs] at hA ⊢
 refine Calls.callWith_builtin (by show(false||(backTo cpos (starEach es X.env)).any (·.1))=false;rw [hplain]<;>rfl) (Calls.evalArgs_plain ?_)
 exact thn hA fun us s2 ⟨vs,H2,I2,r2,q2⟩=>hm pins s2 σ H2 x vs v us Q I2 r1 r2 q2
/- xs.append(e),list.index on a module's tuple .. are MtR facts of 06m -/
end
end L2
namespace L2
open PySem PySem.Spec PyProof.Rows
def MtM(X:Cx)(id:String)(r:V→List V→Hp→VK→Prop):Prop :=
 ∀(pins:List (Addr × Obj)) (s:Shared) (σ:St) (H:Hp) (x:V) (xs:List V) (v:Value) (us:List Value) (Q:VK),Inv X pins σ H s→RelV x v→Vals xs us→r x xs H Q →
  wpAny (model X.prog X.w) X.A (call (.builtin id) (v::us)) (EP X pins σ Q) X.xe s
theorem Vals.one:∀{x:V} {us:List Value},Vals [x] us→∃u,us=[u]∧RelV x u
 |_,_,.cons r .nil=>⟨_,rfl,r⟩
theorem Vals.two:∀{x y:V} {us:List Value},Vals [x,y] us→∃u v,us=[u,v]∧RelV x u∧RelV y v
 |_,_,_,.cons r (.cons q .nil)=>⟨_,_,rfl,r,q⟩
theorem Vals.zero:∀{us:List Value},Vals [] us→us=[]
 |_,.nil=>rfl
theorem Vals.dropLast{xs:List V}{us:List Value}(h:Vals xs us):Vals xs.dropLast us.dropLast:=by
 induction h with
 |nil=>exact .nil
 |cons r t ih =>
  cases t with
  |nil=>exact .nil
  |cons q t'=>exact .cons r ih
theorem Vals.eraseIdx:∀{xs:List V} {us:List Value} (i:Nat),Vals xs us→Vals (xs.eraseIdx i) (us.eraseIdx i)
 |_,_,_,.nil=>.nil
 |_,_,0,.cons _ t=>t
 |_,_,i+1,.cons r t=>.cons r (Vals.eraseIdx i t)
theorem erase_last{α:Type}(l:List α):l.eraseIdx (l.length - 1)=l.dropLast:=by
 induction l with
 |nil=>rfl
 |cons a r ih =>
  cases r with
  |nil=>rfl
  |cons b r =>
   have e:(a::b::r).length - 1=((b::r).length - 1)+1:=by
    have h1:(a::b::r).length=r.length+2:=rfl
    have h2:(b::r).length=r.length+1:=rfl
    omega
   rw [e,List.eraseIdx_cons_succ,ih]
   all_goals rfl
theorem len_erase{α:Type}:∀(l:List α) (i:Nat),(l.eraseIdx i).length≤l.length
 |[],_=>Nat.le_refl _
 |_::_,0=>Nat.le_succ _
 |_::r,i+1=>Nat.succ_le_succ (len_erase r i)
section
variable{X:Cx}{pins:List (Addr × Obj)}{σ:St}{H:Hp}{s:Shared}{l b:Addr}{xs ys zs:List V}
theorem Inv.lset{its its':List Value}{n:Nat}{f:Array Value→Array Value}{t':Nat}(I:Inv X pins σ H s)(hH:H l=some (.lst xs))
  (e:s.heap.get? l=some { cls:=.type "list",data:=.seq its.toArray n }) (hf:f its.toArray=its'.toArray) (hv:Vals ys its') (hz:ys.length≤sizeLine) :
  Inv X pins σ (upd H l (.lst ys)) { s with heap:=s.heap.update l (Obj.mapSeq f),toks:=t' }:=by
 have q:=PySem.IsL.update e f
 rw [hf] at q
 refine I.write (x:=l) (e:=l) (by rw [hH];exact trivial) (.inl rfl) (fun b' u hb hu=>(Heap.get?_update_other s.heap (Obj.mapSeq f) (Ne.symm hb)).trans hu) ⟨_,q⟩ ?_
 exact⟨hz,its',_,hv,q⟩
theorem Inv.lnew{its:List Value}{t':Nat}(I:Inv X pins σ H s)(hv:Vals ys its)(hz:ys.length≤sizeLine) :
  Inv X pins σ (upd H s.heap.objs.size (.lst ys)) { s with heap:=s.heap.push { cls:=.type "list",data:=.seq its.toArray },toks:=t' } :=
 I.laid (fun _ _ q=>Heap.get?_push_of_some _ q) (Nat.le_refl _) ⟨hz,its,0,hv,Heap.get?_push_size _ rfl⟩
theorem Inv.fresh(I:Inv X pins σ H s):H s.heap.objs.size=none:=I.hok.fresh (Nat.le_refl _)
theorem Inv.lstM(I:Inv X pins σ H s)(hH:H l=some (.lst xs)):xs.length≤sizeLine∧∃(its:List Value) (n:Nat),Vals xs its∧xs.length=its.length∧s.heap.get? l=some { cls:=.type "list",data:=.seq its.toArray n }:=by
 obtain⟨z,its,n,r,e⟩:=I.hok l _ hH
 exact⟨z,its,n,r,r.length,e⟩
end
section
variable{X:Cx}
def rAppend:V→List V→Hp→VK→Prop:=fun x vs H Q=>∃l xs y,x=.ref l∧vs=[y]∧H l=some (.lst xs)∧xs.length < sizeLine∧Q .non (upd H l (.lst (xs++[y])))
theorem mt_append:MtM X "list.append" rAppend:=by
 intro pins s σ H x vs v us Q I rx rv h
 obtain⟨l,xs,y,rfl,rfl,hH,hz,q⟩:=h
 cases rx
 obtain⟨u,rfl,ru⟩:=rv.one
 obtain⟨z,its,n,r,hl,e⟩:=I.lstM hH
 refine call_meets F.slot_list_append ⟨_,e,rfl⟩ F.entry_list_append (F.args_list_append_2 _ _) (PySem.list_append l its.toArray n u (by rw [List.size_toArray];omega)) ⟨e,?_⟩
 refine⟨.non,_,I.lset (its':=its++[u]) hH e (by simp) (r.append (.cons ru .nil)) ?_,rfl,q⟩
 rw [List.length_append,List.length_singleton]
 omega
def rPop:V→List V→Hp→VK→Prop:=fun x vs H Q=>∃l xs y,x=.ref l∧vs=[]∧H l=some (.lst xs)∧xs[xs.length - 1]?=some y∧Q y (upd H l (.lst xs.dropLast))
theorem mt_pop:MtM X "list.pop" rPop:=by
 intro pins s σ H x vs v us Q I rx rv h
 obtain⟨l,xs,y,rfl,rfl,hH,hy,q⟩:=h
 cases rx
 have hus:=rv.zero
 subst hus
 obtain⟨z,its,n,r,hl,e⟩:=I.lstM hH
 obtain⟨u,hu,ru⟩:=r.get hy
 have hy':its.toArray[its.toArray.size - 1]?=some u:=by
  show its.toArray[its.length - 1]?=some u
  rw [←Array.getElem?_toList,←hl]
  exact hu
 refine call_meets F.slot_list_pop ⟨_,e,rfl⟩ F.entry_list_pop (F.args_list_pop_1 _) (MeetsSeq.list_pop_last l its.toArray n u hy' (by rw [List.size_toArray];omega)) ⟨e,?_⟩
 refine⟨y,_,I.lset (its':=its.dropLast) hH e ?_ r.dropLast ?_,ru,q⟩
 ·show its.toArray.eraseIdxIfInBounds (its.toArray.size - 1)=its.dropLast.toArray
  rw [List.size_toArray,List.eraseIdxIfInBounds_toArray,erase_last]
 ·rw [List.length_dropLast]
  omega
def rPopAt:V→List V→Hp→VK→Prop:=fun x vs H Q=>∃l xs i k y,x=.ref l∧vs=[.int i]∧H l=some (.lst xs)∧-(2 ^ 63)≤i∧i < 2 ^ 63∧seqIndex? i xs.length=some k∧xs[k]?=some y∧Q y (upd H l (.lst (xs.eraseIdx k)))
theorem mt_popAt:MtM X "list.pop" rPopAt:=by
 intro pins s σ H x vs v us Q I rx rv h
 obtain⟨l,xs,i,k,y,rfl,rfl,hH,h1,h2,hk,hy,q⟩:=h
 cases rx
 obtain⟨u,rfl,ru⟩:=rv.one
 obtain⟨t,rfl⟩:=ru
 obtain⟨z,its,n,r,hl,e⟩:=I.lstM hH
 obtain⟨w,hw,rw'⟩:=r.get hy
 refine call_meets F.slot_list_pop ⟨_,e,rfl⟩ F.entry_list_pop (F.args_list_pop_2 _ _)
  (MeetsSeq.list_pop_at l its.toArray n i t k w (fitsIndex_both h1 h2) (by rw [List.size_toArray,←hl];exact hk) (by rw [←Array.getElem?_toList];exact hw) (by rw [List.size_toArray];omega)) ⟨e,?_⟩
 refine⟨y,_,I.lset (its':=its.eraseIdx k) hH e ?_ (r.eraseIdx k) ?_,rw',q⟩
 ·show its.toArray.eraseIdxIfInBounds k=(its.eraseIdx k).toArray
  rw [List.eraseIdxIfInBounds_toArray]
 ·have:=len_erase xs k
  omega
def rCat:R2:=fun x y H Q=>∃l b xs zs,x=.ref l∧y=.ref b∧H l=some (.lst xs)∧H b=some (.lst zs)∧xs.length+zs.length≤sizeLine∧∀p,H p=none→Q (.ref p) (upd H p (.lst (xs++zs)))
theorem op_cat:OpR X (binaryOp .Add) rCat:=by
 intro pins s σ H x y v u Q I rx ry h
 obtain⟨l,b,xs,zs,rfl,rfl,hH,hB,hz,q⟩:=h
 cases rx
 cases ry
 obtain⟨z,its,n,r,hl,e⟩:=I.lstM hH
 obtain⟨z2,its2,n2,r2,hl2,e2⟩:=I.lstM hB
 refine PySem.P.add_list e e2 ?_ (by rw [List.size_toArray,List.size_toArray];omega)
 have ea:its.toArray++its2.toArray=(its++its2).toArray:=by simp
 rw [ea]
 exact⟨.ref _,_,I.lnew (t':=s.toks) (r.append r2) (by rw [List.length_append];omega),rfl,q _ I.fresh⟩
end
section
variable{prog:Program}{w:World}{A:Around}{E:Value→Shared→Prop}{s:Shared}
end
section
variable{X:Cx}
end
end L2
namespace L2
open PySem PySem.Spec PyProof.Rows
section
variable{κ:Type}[DecidableEq κ]
def valV(kvs:List (κ × V))(k:κ):Option V:=(kvs.find? fun kv=>decide (kv.1=k)).map (·.2)
def putK(kvs:List (κ × V))(k:κ)(v:V):List (κ × V) :=
 if (kvs.any fun kv=>decide (kv.1=k))=true then kvs.map (fun kv=>if kv.1=k then (kv.1,v) else kv) else kvs++[(k,v)]
theorem valV_pos{p:κ × V}{r:List (κ × V)}{k:κ}(e:p.1=k):valV (p::r) k=some p.2:=by simp [valV,List.find?_cons,e]
theorem valV_neg{p:κ × V}{r:List (κ × V)}{k:κ}(e:¬p.1=k):valV (p::r) k=valV r k:=by simp [valV,List.find?_cons,e]
theorem valV_any(k:κ):∀kvs:List (κ × V),(kvs.any fun kv=>decide (kv.1=k))=(valV kvs k).isSome
 |[]=>rfl
 |p::r=>by
  rw [List.any_cons]
  by_cases e:p.1=k
  ·simp only [valV_pos e,decide_eq_true e,Bool.true_or,Option.isSome_some]
  ·rw [valV_neg e,decide_eq_false e,Bool.false_or];exact valV_any k r
theorem valV_map(k j:κ)(y:V):∀kvs:List (κ × V),valV (kvs.map fun kv=>if kv.1=k then (kv.1,y) else kv) j=(valV kvs j).map fun x=>if j=k then y else x
 |[]=>rfl
 |p::r=>by
  have ih:=valV_map k j y r
  rw [List.map_cons]
  by_cases h:p.1=k
  ·rw [if_pos h]
   by_cases e:p.1=j
   ·rw [valV_pos (p:=(p.1,y)) e,valV_pos e,Option.map_some,if_pos (e.symm.trans h)]
   ·rw [valV_neg (p:=(p.1,y)) e,valV_neg e,ih]
  ·rw [if_neg h]
   by_cases e:p.1=j
   ·rw [valV_pos (p:=p) e,valV_pos e,Option.map_some,if_neg (fun z=>h (e.trans z))]
   ·rw [valV_neg (p:=p) e,valV_neg e,ih]
theorem valV_snoc(k j:κ)(y:V):∀kvs:List (κ × V),valV kvs k=none→valV (kvs++[(k,y)]) j=if j=k then some y else valV kvs j
 |[],_=>by
  by_cases e:k=j
  ·rw [if_pos e.symm];exact valV_pos (p:=(k,y)) e
  ·rw [if_neg (fun z=>e z.symm)];exact valV_neg (p:=(k,y)) e
 |p::r,hn=>by
  rw [List.cons_append]
  have hk:¬p.1=k:=fun z=>by rw [valV_pos z] at hn;cases hn
  rw [valV_neg hk] at hn
  have ih:=valV_snoc k j y r hn
  by_cases e:p.1=j
  ·rw [valV_pos e,valV_pos e,if_neg (fun z=>hk (e.trans z))]
  ·rw [valV_neg e,valV_neg e,ih]
theorem valV_put(kvs:List (κ × V))(k j:κ)(y:V):valV (putK kvs k y) j=if j=k then some y else valV kvs j:=by
 unfold putK
 by_cases a:(kvs.any fun kv=>decide (kv.1=k))=true
 ·rw [if_pos a,valV_map]
  rw [valV_any] at a
  by_cases e:j=k
  ·obtain⟨x,hx⟩:=Option.isSome_iff_exists.mp a
   rw [if_pos e,e,hx,Option.map_some,if_pos rfl]
  ·rw [if_neg e]
   cases valV kvs j with
   |none=>rfl
   |some x=>rw [Option.map_some,if_neg e]
 ·rw [if_neg a]
  refine valV_snoc k j y kvs ?_
  rw [valV_any] at a
  cases q:valV kvs k with
  |none=>rfl
  |some x=>rw [q] at a;exact(a rfl).elim
theorem length_putK(kvs:List (κ × V))(k:κ)(v:V):(putK kvs k v).length≤kvs.length+1:=by
 unfold putK
 split
 ·rw [List.length_map];omega
 ·rw [List.length_append,List.length_cons,List.length_nil];omega
theorem RelO.isSome_eq{o:Option V}{u:Option Value}(r:RelO o u):o.isSome=u.isSome:=by
 cases o with
 |none=>cases u with
  |none=>rfl
  |some _=>exact(show False from r).elim
 |some _=>cases u with
  |none=>exact(show False from r).elim
  |some _=>rfl
theorem KV.val{kvs:List (κ × V)}{vs:List (κ × Value)}(r:KV kvs vs)(k:κ):RelO (valV kvs k) (valueAt vs k):=by
 unfold KV at r
 induction r with
 |nil=>exact True.intro
 |@cons p q ps qs h t ih =>
  obtain⟨h1,h2⟩:=h
  by_cases e:p.1=k
  ·have e':q.1=k:=h1.symm.trans e
   have b:valueAt (q::qs) k=some q.2:=by simp [valueAt,List.find?_cons,e']
   rw [valV_pos e,b];exact h2
  ·have e':¬q.1=k:=fun z=>e (h1.trans z)
   have b:valueAt (q::qs) k=valueAt qs k:=by simp [valueAt,List.find?_cons,e']
   rw [valV_neg e,b];exact ih
theorem KV.any{kvs:List (κ × V)}{vs:List (κ × Value)}(r:KV kvs vs)(k:κ):(kvs.any fun kv=>decide (kv.1=k))=vs.any fun kv=>decide (kv.1=k):=by
 unfold KV at r
 induction r with
 |nil=>rfl
 |cons h t ih=>rw [List.any_cons,List.any_cons,ih,h.1]
theorem KV.repl{kvs:List (κ × V)}{vs:List (κ × Value)}(r:KV kvs vs)(k:κ){y:V}{u:Value}(ry:RelV y u) :
  KV (kvs.map fun kv=>if kv.1=k then (kv.1,y) else kv) (vs.map fun kv=>if kv.1=k then (kv.1,u) else kv):=by
 unfold KV at r ⊢
 induction r with
 |nil=>exact .nil
 |@cons p q ps qs h t ih =>
  rw [List.map_cons,List.map_cons]
  refine .cons ?_ ih
  obtain⟨h1,h2⟩:=h
  by_cases e:p.1=k
  ·rw [if_pos e,if_pos (h1.symm.trans e)];exact⟨h1,ry⟩
  ·rw [if_neg e,if_neg (fun z=>e (h1.trans z))];exact⟨h1,h2⟩
theorem KV.put{kvs:List (κ × V)}{vs:List (κ × Value)}(r:KV kvs vs)(k:κ){y:V}{u:Value}(ry:RelV y u):KV (putK kvs k y) (stored vs k u):=by
 unfold putK stored
 rw [r.any k]
 by_cases e:(vs.any fun kv=>decide (kv.1=k))=true
 ·rw [if_pos e,if_pos e];exact r.repl k ry
 ·rw [if_neg e,if_neg e];exact Paired.snoc r ⟨rfl,ry⟩
theorem KV.length{kvs:List (κ × V)}{vs:List (κ × Value)}(r:KV kvs vs):kvs.length=vs.length:=Paired.length r
end
theorem kV_is{P:Program}{w:World}{k:Key}{u:Value}(r:RelV (kV k) u):(mixKind P w).is k u=true:=by
 cases k with
 |inl i=>obtain⟨t,e⟩:=(show ∃t,u=Value.int i t from r);subst e;exact mixKind_int P w i t
 |inr x=>obtain⟨t,e⟩:=(show ∃t,u=Value.str x t from r);subst e;exact mixKind_str P w x t
theorem items_are{P:Program}{w:World}:∀{ks:List Key} {us:List Value},Vals (ks.map kV) us→ItemsAre (mixKind P w) ks us
 |[],_,r=>by rw [List.map_nil] at r;cases r;exact .nil
 |k::ks,_,r=>by
  rw [List.map_cons] at r
  cases r with
  |cons h t=>exact .cons (kV_is h) (items_are t)
abbrev KT(H:Hp):List (List Key × V)→List (List Key × Addr × Value)→Prop:=Paired fun p q=>p.1=q.1∧H q.2.1=some (.tup (p.1.map kV))∧RelV p.2 q.2.2
theorem KT.val{H:Hp}{kvs:List (List Key × V)}{xs:List (List Key × Addr × Value)}(r:KT H kvs xs)(k:List Key):RelO (valV kvs k) ((atKey xs k).map (·.2)):=by
 induction r with
 |nil=>exact True.intro
 |@cons p q ps qs h t ih =>
  obtain⟨h1,_,h2⟩:=h
  by_cases e:p.1=k
  ·have e':q.1=k:=h1.symm.trans e
   have b:atKey (q::qs) k=some q.2:=by simp [atKey,List.find?_cons,e']
   rw [valV_pos e,b];exact h2
  ·have e':¬q.1=k:=fun z=>e (h1.trans z)
   have b:atKey (q::qs) k=atKey qs k:=by simp [atKey,List.find?_cons,e']
   rw [valV_neg e,b];exact ih
theorem KT.repl{H:Hp}{kvs:List (List Key × V)}{xs:List (List Key × Addr × Value)}(r:KT H kvs xs)(k:List Key){y:V}{u:Value}(ry:RelV y u) :
  KT H (kvs.map fun kv=>if kv.1=k then (kv.1,y) else kv) (xs.map (putAt k u)):=by
 induction r with
 |nil=>exact .nil
 |@cons p q ps qs h t ih =>
  rw [List.map_cons,List.map_cons]
  refine .cons ?_ ih
  obtain⟨h1,h2,h3⟩:=h
  unfold putAt
  by_cases e:p.1=k
  ·rw [if_pos e,if_pos (h1.symm.trans e)];exact⟨h1,h2,ry⟩
  ·rw [if_neg e,if_neg (fun z=>e (h1.trans z))];exact⟨h1,h2,h3⟩
theorem KT.put{H:Hp}{kvs:List (List Key × V)}{xs:List (List Key × Addr × Value)}(r:KT H kvs xs)(k:List Key){b:Addr}{y:V}{u:Value}(hb:H b=some (.tup (k.map kV)))(ry:RelV y u) :
  KT H (putK kvs k y) (storedH xs k b u):=by
 have e:(kvs.any fun kv=>decide (kv.1=k))=(atKey xs k).isSome:=by
  rw [valV_any,(r.val k).isSome_eq,Option.isSome_map]
 unfold putK storedH
 rw [e]
 by_cases q:(atKey xs k).isSome=true
 ·rw [if_pos q,if_pos q];exact r.repl k ry
 ·rw [if_neg q,if_neg q];exact Paired.snoc r ⟨rfl,hb,ry⟩
theorem KT.keeps{H H':Hp}{kvs:List (List Key × V)}{xs:List (List Key × Addr × Value)}(r:KT H kvs xs)(ht:∀b ys,H b=some (.tup ys)→H' b=some (.tup ys)):KT H' kvs xs :=
 Paired.mapP r fun _ _ z=>⟨z.1,ht _ _ z.2.1,z.2.2⟩
section
variable{P:Program}{w:World}{H:Hp}{h:Heap}{a:Addr}
theorem rd_of{u:HO}(ok:HOk P w H h)(e:Rd H a u):ObjOk P w H h a u:=e.ok ok
theorem dk_rd{kvs:List (Key × V)}(ok:HOk P w H h)(e:Rd H a (.dK kvs)):kvs.length≤sizeLine∧(a==sysModules)=false∧∃vs,KV kvs vs∧h.DictOf (mixKind P w) a vs :=
 show ObjOk P w H h a (.dK kvs) from rd_of ok e
theorem dk_of{kvs:List (Key × V)}(ok:HOk P w H h)(e:H a=some (.dK kvs)):kvs.length≤sizeLine∧(a==sysModules)=false∧∃vs,KV kvs vs∧h.DictOf (mixKind P w) a vs:=dk_rd ok (.inl e)
theorem key_of{ks:List Key}(ok:HOk P w H h)(e:H a=some (.tup (ks.map kV))):(tupleKind (mixKind P w)).is h ks a:=by
 obtain⟨_,its,r,o,h1,h2,n,h3⟩:=(show ObjOk P w H h a (.tup (ks.map kV)) from ok a _ e)
 exact⟨o,its.toArray,n,h1,h2,h3,by simpa using items_are r⟩
theorem dt_rd{kvs:List (List Key × V)}(ok:HOk P w H h)(e:Rd H a (.dT kvs)):kvs.length≤sizeLine∧(a==sysModules)=false ∧
  ∃xs,KT H kvs xs∧h.DictOfH (tupleKind (mixKind P w)) a xs:=by
 obtain⟨z,y,xs,r,o,es,ep,h1,h2,h3,h4,h5⟩:=(show ObjOk P w H h a (.dT kvs) from rd_of ok e)
 refine⟨z,y,xs,r,o,es,ep,h1,h2,h3,h4,fun x hx=>?_,h5⟩
 have all:∀{l:List (List Key × V)} {m:List (List Key × Addr × Value)},KT H l m→∀x∈m,(tupleKind (mixKind P w)).is h x.1 x.2.1:=by
  intro l m q
  induction q with
  |nil=>intro x hx;exact nomatch hx
  |@cons p q ps qs hq t ih =>
   intro x hx
   rcases List.mem_cons.mp hx with e|hx
   ·subst e
    exact key_of ok (by rw [←hq.1];exact hq.2.1)
   ·exact ih x hx
 exact all r x hx
theorem dt_of{kvs:List (List Key × V)}(ok:HOk P w H h)(e:H a=some (.dT kvs)):kvs.length≤sizeLine∧(a==sysModules)=false ∧
  ∃xs,KT H kvs xs∧h.DictOfH (tupleKind (mixKind P w)) a xs:=dt_rd ok (.inl e)
end
def DGet(H:Hp)(a:Addr)(y:V)(r:Option V):Prop :=
 (∃kvs k,Rd H a (.dK kvs)∧y=kV k∧r=valV kvs k)∨∃kvs k b,Rd H a (.dT kvs)∧y=.ref b∧H b=some (.tup (k.map kV))∧r=valV kvs k
def DPut(H:Hp)(a:Addr)(y v:V)(H':Hp):Prop :=
 (∃kvs k,H a=some (.dK kvs)∧y=kV k∧kvs.length < sizeLine∧H'=upd H a (.dK (putK kvs k v))) ∨
 ∃kvs k b,H a=some (.dT kvs)∧y=.ref b∧H b=some (.tup (k.map kV))∧kvs.length < sizeLine∧H'=upd H a (.dT (putK kvs k v))
theorem DGet.k{H:Hp}{a:Addr}{kvs:List (Key × V)}{k:Key}(e:H a=some (.dK kvs)):DGet H a (kV k) (valV kvs k):=.inl ⟨kvs,k,.inl e,rfl,rfl⟩
theorem DGet.t{H:Hp}{a b:Addr}{kvs:List (List Key × V)}{k:List Key}(e:H a=some (.dT kvs))(eb:H b=some (.tup (k.map kV))):DGet H a (.ref b) (valV kvs k):=.inr ⟨kvs,k,b,.inl e,rfl,eb,rfl⟩
theorem DPut.k{H:Hp}{a:Addr}{kvs:List (Key × V)}{k:Key}{v:V}(e:H a=some (.dK kvs))(hl:kvs.length < sizeLine):DPut H a (kV k) v (upd H a (.dK (putK kvs k v))):=.inl ⟨kvs,k,e,rfl,hl,rfl⟩
theorem DPut.t{H:Hp}{a b:Addr}{kvs:List (List Key × V)}{k:List Key}{v:V}(e:H a=some (.dT kvs))(eb:H b=some (.tup (k.map kV)))(hl:kvs.length < sizeLine) :
  DPut H a (.ref b) v (upd H a (.dT (putK kvs k v))):=.inr ⟨kvs,k,b,e,rfl,eb,hl,rfl⟩
section
variable{X:Cx}{pins:List (Addr × Obj)}{σ:St}{H:Hp}{s:Shared}{a:Addr}{y v:V}{u r:Value}{o:Option V}{A:Around}{E:Value→Shared→Prop}
theorem Inv.big(I:Inv X pins σ H s):sysModules < s.heap.objs.size:=by
 have h:mainGlobals < s.heap.objs.size:=(I.mod.glob.keeps I.bk).lt
 exact Nat.lt_trans (by decide) h
theorem d_getItem{Q:Value→Shared→Prop}(hu:A.units+1 < cLine)(I:Inv X pins σ H s)(g:DGet H a y (some v))(ry:RelV y u)(h:∀w' s',Inv X pins σ H s'→RelV v w'→Q w' s') :
  wpAny (model X.prog X.w) A (getItem (.ref a) u) Q E s:=by
 rcases g with ⟨kvs,k,e,ey,l⟩|⟨kvs,k,b,e,ey,eb,l⟩
 ·subst ey
  obtain⟨z,hd,vs,rel,dd⟩:=dk_rd I.hok e
  obtain⟨w',hw,rw'⟩:=RelO.some_of (v:=v) (o:=valueAt vs k) (by rw [l];exact rel.val k)
  exact wpAny_getItem_of (kV_is ry) dd.mapOf hw (h w' _ (I.tok _) rw')
 ·subst ey
  cases (show u=Value.ref b from ry)
  obtain⟨z,hd,xs,rel,dd⟩:=dt_rd I.hok e
  obtain⟨w',hw,rw'⟩:=RelO.some_of (v:=v) (o:=(atKey xs k).map (·.2)) (by rw [l];exact rel.val k)
  obtain⟨p,hp,hp2⟩:=Option.map_eq_some_iff.mp hw
  refine wpAny_getItem_heap (tupleKind_room_in1 hu) (key_of I.hok eb) dd hp ?_
  rw [hp2]
  exact h w' _ (I.tok _) rw'
theorem d_notIn{Q:Value→Shared→Prop}(hu:A.units+1 < cLine)(I:Inv X pins σ H s)(g:DGet H a y o)(ry:RelV y u)(h:∀s',Inv X pins σ H s'→Q (.bool (!o.isSome)) s') :
  wpAny (model X.prog X.w) A (compareOp .NotIn u (.ref a)) Q E s:=by
 rcases g with ⟨kvs,k,e,ey,l⟩|⟨kvs,k,b,e,ey,eb,l⟩
 ·subst ey
  obtain⟨z,hd,vs,rel,dd⟩:=dk_rd I.hok e
  refine wpAny_notIn_of (kV_is ry) hd dd.mapOf ?_
  rw [←(rel.val k).isSome_eq,←l]
  exact h _ (I.tok _)
 ·subst ey
  cases (show u=Value.ref b from ry)
  obtain⟨z,hd,xs,rel,dd⟩:=dt_rd I.hok e
  refine wpAny_notIn_heap (tupleKind_room_in1 hu) (key_of I.hok eb) hd dd ?_
  have q:=(rel.val k).isSome_eq
  rw [Option.isSome_map] at q
  rw [←q,←l]
  exact h _ (I.tok _)
theorem d_write{h':Heap}{t':Nat}{ob:HO}(I:Inv X pins σ H s)(mu:Mut (H a))(hs:Heap.SameBut a s.heap h')(he:∃q,h'.get? a=some q)(new:ObjOk X.prog X.w (upd H a ob) h' a ob) :
  Inv X pins σ (upd H a ob) { s with heap:=h',toks:=t' } :=
 I.write (x:=a) (e:=a) mu (.inl rfl) (fun b q hb z=>(hs.2 b hb).trans z) he new
theorem dk_new{P:Program}{w:World}{H':Hp}{h':Heap}{kvs:List (Key × V)}{vs:List (Key × Value)}(z:kvs.length≤sizeLine)(hd:(a==sysModules)=false)(rel:KV kvs vs)(dd:h'.DictOf (mixKind P w) a vs) :
  ObjOk P w H' h' a (.dK kvs):=⟨z,hd,vs,rel,dd⟩
theorem d_setItem{H':Hp}{Q:Unit→Shared→Prop}(hu:A.units+1 < cLine)(I:Inv X pins σ H s)(g:DPut H a y v H')(ry:RelV y u)(rv:RelV v r)(h:∀s',Inv X pins σ H' s'→Q () s') :
  wpAny (model X.prog X.w) A (setItem (.ref a) u r) Q E s:=by
 rcases g with ⟨kvs,k,e,ey,l,eH⟩|⟨kvs,k,b,e,ey,eb,l,eH⟩
 ·subst ey eH
  obtain⟨z,hd,vs,rel,dd⟩:=dk_of I.hok e
  have hz:vs.length≤sizeLine:=by rw [←rel.length];exact z
  have hl:(putK kvs k v).length≤sizeLine:=by have:=length_putK kvs k v;omega
  refine wpAny_setItem_pairs (hsz:=hz) (kV_is ry) dd fun h' dd' hs=>h _ ?_
  have he:∃q,h'.get? a=some q:=let ⟨q,_,_,hq,_⟩:=dd';⟨q,hq⟩
  exact d_write I (by rw [e];exact True.intro) hs he (dk_new hl hd (rel.put k rv) dd')
 ·subst ey eH
  cases (show u=Value.ref b from ry)
  obtain⟨z,hd,xs,rel,dd⟩:=dt_of I.hok e
  have hz:xs.length≤sizeLine:=by rw [←Paired.length rel];exact z
  have hl:(putK kvs k v).length≤sizeLine:=by have:=length_putK kvs k v;omega
  refine wpAny_setItem_heap (hsz:=hz) (tupleKind_room_in1 hu) (key_of I.hok eb) dd fun h' dd' hs=>h _ ?_
  obtain⟨q,es,ep,hq,h2,h3,h4,_,h5⟩:=dd'
  refine d_write I (by rw [e];exact True.intro) hs ⟨q,hq⟩ ⟨hl,hd,_,(rel.put k eb rv).keeps fun c ys ec=>?_,q,es,ep,hq,h2,h3,h4,h5⟩
  rw [upd_ne (ne_of ec e (fun z=>nomatch z))]
  exact ec
end
section
variable{X:Cx}{pins:List (Addr × Obj)}{σ:St}{H:Hp}{s:Shared}{a:Addr}{kvs:List (Key × V)}{k:Key}{u:Value}{A:Around}{E:Value→Shared→Prop}
end
def NoSl(i:Expr):Prop:=∀ov iv,subscripted i false ov iv=operate [ov,iv] (getItem ov iv)
theorem subD_of{prog:Program}{w:World}{A:Around}{E:Value→Shared→Prop}{s:Shared}{env:Env}{value slice:Expr}{pos:Pos}{T id:String}{Q:Value→Shared→Prop}
  (hl:typeLookup (.type T) "__getitem__"=pure (some (.builtin id))) (hs:NoSl slice)
  (h:wpAny (model prog w) A (eval value env) (fun o s₁=>wpAny (model prog w) A (eval slice env) (fun i s₂=>s₂.TypeIs o T∧wpAny (model prog w) A (getItem o i) Q E s₂) E s₁) E s) :
  wpAny (model prog w) A (eval (.Subscript value slice pos) env) Q E s:=by
 refine Subscript_ (wpAny_mono h (fun o s₁ h₁=>wpAny_mono h₁ (fun i s₂ h₂=>?_) fun _ _ x=>x) fun _ _ x=>x)
 obtain⟨hT,h₂⟩:=h₂
 unfold subscriptTail
 refine wpAny_bind ?_
 rw [getitemInPython_of_ne hT.not_modules]
 refine wpAny_bind (wpAny_specialOf hT hl ?_)
 have fin:wpAny (model prog w) A (subscripted slice false o i) (fun r s₃=>wpAny (model prog w) A (letTemporaryGo value o r >>= fun _=>pure r) Q E s₃) E s₂:=by
  rw [hs o i]
  exact wpAny_operating (wpAny_mono h₂ (fun r s₃ h₃=>wpAny_bind (wpAny_letTemporaryGo (wpAny_pure h₃))) fun _ _ x=>x)
 first
  |exact wpAny_pure (wpAny_bind fin)
  |exact wpAny_bind (wpAny_pure (wpAny_bind fin))
  |exact wpAny_bind fin
theorem dict_typeIs{X:Cx}{pins:List (Addr × Obj)}{σ:St}{H:Hp}{s:Shared}{a:Addr}{y:V}{o:Option V}(I:Inv X pins σ H s)(g:DGet H a y o):s.TypeIs (.ref a) "dict":=by
 rcases g with ⟨kvs,k,e,_,_⟩|⟨kvs,k,b,e,_,_,_⟩
 ·obtain⟨_,_,vs,_,dd⟩:=dk_rd I.hok e
  exact dd.typeIs
 ·obtain⟨_,_,xs,_,dd⟩:=dt_rd I.hok e
  exact dd.typeIs
def tDGet(td ty:TE):TE:=fun σ H Q=>td σ H fun x H1=>ty σ H1 fun y H2=>∃a v,x=.ref a∧DGet H2 a y (some v)∧Q v H2
def tDNotIn(ty td:TE):TE:=fun σ H Q=>ty σ H fun y H1=>td σ H1 fun x H2=>∃a o,x=.ref a∧DGet H2 a y o∧Q (.bl (!o.isSome)) H2
def sDPut(td ty tv:TE):TS:=fun D σ H=>tv σ H fun v H1=>td σ H1 fun x H2=>ty σ H2 fun y H3=>∃a H4,x=.ref a∧DPut H3 a y v H4∧D.nx σ H4
section
variable{X:Cx}{o i e value:Expr}{pos pos' tpos:Pos}{td ty tv:TE}
theorem pe_dget(hu:X.A.units+1 < cLine)(ho:PE X o td)(hi:PE X i ty)(hs:NoSl i):PE X (.Subscript o i pos) (tDGet td ty):=by
 intro pins s σ H Q I h
 refine subD_of PySem.F.slot_dict_getitem.lookup hs (thn (ho pins s σ H _ I h) fun u s1 ⟨x,H1,I1,rx,q1⟩=>thn (hi pins s1 σ H1 _ I1 q1) fun iv s2 ⟨y,H2,I2,ry,a,v,ex,g,q2⟩=>?_)
 subst ex
 obtain rfl:u=Value.ref a:=rx
 exact⟨dict_typeIs I2 g,d_getItem hu I2 g ry fun w' s3 I3 rw'=>⟨v,H2,I3,rw',q2⟩⟩
theorem pc_dnotin(hu:X.A.units+1 < cLine)(hi:PE X i ty)(ho:PE X o td):PC X .NotIn i o (tDNotIn ty td):=by
 intro pins s σ H Q I h
 refine thn (hi pins s σ H _ I h) fun iv s1 ⟨y,H1,I1,ry,q1⟩=>thn (ho pins s1 σ H1 _ I1 q1) fun u s2 ⟨x,H2,I2,rx,a,ov,ex,g,q2⟩=>?_
 subst ex
 obtain rfl:u=Value.ref a:=rx
 exact d_notIn hu I2 g ry fun s3 I3=>⟨.bl (!ov.isSome),H2,I3,rfl,q2⟩
theorem ps_dput(hu:X.A.units+1 < cLine)(ho:PE X o td)(hi:PE X i ty)(hv:PE X value tv)(hs:swapsWith value (some (.Subscript o i pos')) pos.line X.env=pure false) :
  PS X (.Assign [.Subscript o i pos'] value pos) (sDPut td ty tv):=by
 intro pins s σ H D I h
 refine wpAny_Assign_Subscript (thn (hv pins s σ H _ I h) fun r s1 ⟨v,H1,I1,rv,q1⟩=>thn (ho pins s1 σ H1 _ I1 q1) fun u s2 ⟨x,H2,I2,rx,q2⟩=>thn (hi pins s2 σ H2 _ I2 q2) fun iv s3 ⟨y,H3,I3,ry,a,H4,ex,g,q3⟩=>?_) hs
 subst ex
 obtain rfl:u=Value.ref a:=rx
 exact d_setItem hu I3 g ry rv fun s4 I4=>⟨σ,H4,I4,q3⟩
end
theorem dk_empty{P:Program}{w:World}{H:Hp}(h:Heap)(hb:sysModules < h.objs.size):ObjOk P w H (h.push { cls:=.type "dict",data:=.dict #[] }) h.objs.size (.dK []) :=
 ⟨Nat.zero_le _,beq_eq_false_iff_ne.mpr (Ne.symm (Nat.ne_of_lt hb)),[],.nil,Heap.DictOf.new h⟩
theorem dt_empty{P:Program}{w:World}{H:Hp}(h:Heap)(hb:sysModules < h.objs.size):ObjOk P w H (h.push { cls:=.type "dict",data:=.dict #[] }) h.objs.size (.dT []) :=
 ⟨Nat.zero_le _,beq_eq_false_iff_ne.mpr (Ne.symm (Nat.ne_of_lt hb)),[],.nil,_,#[],0,Heap.get?_push_size _ rfl,⟨rfl,rfl,rfl⟩,rfl,rfl,List.nodup_nil⟩
def tDNewK:TE:=fun _ H Q=>∀p,H p=none→Q (.ref p) (upd H p (.dK []))
def tDNewT:TE:=fun _ H Q=>∀p,H p=none→Q (.ref p) (upd H p (.dT []))
section
variable{X:Cx}{pos:Pos}
theorem pe_dnewK:PE X (.Dict [] [] pos) tDNewK:=fun pins s σ H Q I h =>
 wpAny_Dict_empty ⟨.ref s.heap.objs.size,_,I.laid (a:=s.heap.objs.size) (o:=.dK []) (t':=s.toks) (fun _ _ q=>Heap.get?_push_of_some _ q) (Nat.le_refl _) (dk_empty s.heap I.big),rfl,h _ (I.hok.fresh (Nat.le_refl _))⟩
theorem pe_dnewT:PE X (.Dict [] [] pos) tDNewT:=fun pins s σ H Q I h =>
 wpAny_Dict_empty ⟨.ref s.heap.objs.size,_,I.laid (a:=s.heap.objs.size) (o:=.dT []) (t':=s.toks) (fun _ _ q=>Heap.get?_push_of_some _ q) (Nat.le_refl _) (dt_empty s.heap I.big),rfl,h _ (I.hok.fresh (Nat.le_refl _))⟩
end
structure M1(X:Cx)(o:Expr)(m:Str)(apos:Pos)(e:Expr)(cpos:Pos):Prop where
 base:attributeBase o m X.env (eval o X.env)=eval o X.env
 few:((backTo cpos (starEach [e] X.env)).all (fun x=>!x.1)&&(backToKw cpos (keywordEach [] X.env)).all (fun x=>x.1.isSome)
  && decide (([e]:List Expr).length+([]:List Keyword).length+(if ([]:List Keyword).isEmpty then 0 else 1) < 30))=true
 line:(apos.endLine==cpos.line)=true
 trees:backTo cpos (starEach [e] X.env)=[(false,eval e X.env)]
structure M2(X:Cx)(o:Expr)(m:Str)(apos:Pos)(e f:Expr)(cpos:Pos):Prop where
 base:attributeBase o m X.env (eval o X.env)=eval o X.env
 few:((backTo cpos (starEach [e,f] X.env)).all (fun x=>!x.1)&&(backToKw cpos (keywordEach [] X.env)).all (fun x=>x.1.isSome)
  && decide (([e,f]:List Expr).length+([]:List Keyword).length+(if ([]:List Keyword).isEmpty then 0 else 1) < 30))=true
 line:(apos.endLine==cpos.line)=true
 trees:backTo cpos (starEach [e,f] X.env)=[(false,eval e X.env),(false,eval f X.env)]
section
variable{X:Cx}{pins:List (Addr × Obj)}{σ:St}{H:Hp}{s:Shared}{a:Addr}{y d:V}{u r:Value}{o:Option V}{A:Around}{E:Value→Shared→Prop}
end
section
variable{X:Cx}{o e f:Expr}{apos cpos:Pos}{td ty tx:TE}
end
section
variable{X:Cx}{pins:List (Addr × Obj)}{σ:St}{H:Hp}{s:Shared}{a:Addr}{kvs:List (Key × V)}{A:Around}{E:Value→Shared→Prop}
end
section
variable{X:Cx}{pins:List (Addr × Obj)}{σ:St}{H:Hp}{s:Shared}{a:Addr}{y:V}{u:Value}{A:Around}{E:Value→Shared→Prop}
end
end L2
namespace Att
open PySem PySem.W PySem.Calls PyProof.Rows
theorem ints_of_wellAll{P:Params}{h:Heap}:∀(ns:List Int) (vs:List Value),WellAll P h vs (ns.map WData.int)→IntsAre vs ns:=by
 intro ns
 induction ns with
 |nil =>
  intro vs w
  rw [List.map_nil] at w
  cases w
  exact .nil
 |cons n ns ih =>
  intro vs w
  rw [List.map_cons] at w
  cases w with
  |cons a b =>
   cases a
   exact .cons _ _ (ih _ b)
theorem script_of{l:OpenLaw}{n:Nat}(hn:l.most=some n){P:Params}{h:Heap}{args:List WData}{vals:List Value}
  (hpre:l.row.toRowW.claim.pre args=true) (hwl:WellAll P h vals args) :
  ∃a vs ns,vals=[Value.ref a]∧args=[WData.list (ns.map WData.int)]∧h.get? a=some { cls:=.type "list",data:=.seq vs.toArray }∧IntsAre vs ns∧ns.length≤n:=by
 have hsh:WShape.hasAll [] args [.list .int]=true:=(pre_splitW hpre).1
 have hc:l.pre.holds [] { args:=args }=true:=(pre_splitW hpre).2
 obtain⟨d,r,rfl,h1,h2⟩:=hasAllW_cons hsh
 obtain rfl:=hasAllW_nil h2
 obtain⟨xs,rfl,h3⟩:=hasW_list h1
 obtain⟨ns,rfl⟩:=items_int h3
 have hlen:ns.length≤n:=by
  unfold OpenLaw.pre at hc
  have h4:(WTm.not (.lt (.lit (.int (n:Int))) (.len (.arg 0)))).holds [] { args:=[.list (ns.map .int)] }=true:=by
   have h4:=(holds_andW hc).1
   rw [hn] at h4
   exact h4
  have h5:=condW_of h4 (w_not (w_lt w_lit (w_len_list (w_arg rfl))))
  rw [List.length_map] at h5
  refine Nat.le_of_not_lt fun q=>?_
  have q':(n:Int) < ((ns.length:Nat):Int):=by omega
  first
   |(rw [decide_eq_true q'] at h5;exact absurd h5 (by decide))
   |(simp at h5;omega)
 cases hwl with
 |cons w1 w2 =>
  cases w2
  cases w1 with
  |list ho hall=>exact⟨_,_,ns,rfl,rfl,ho,ints_of_wellAll ns _ hall,hlen⟩
theorem post_true(l:OpenLaw)(args:List WData):l.row.toRowW.claim.post args (.bool true) args=true :=
 postW_of (r:=l.row.toRowW) (X:=(true==true))
  (show WShape.has [] (.bool true) .bool=true by first|rfl|decide|simp [WShape.has,WShape.arms,WShape.armsAll])
  (show(WTm.eq .res (.lit (.bool true))).value [] { args:=args,res:=some (.bool true),after:=args }=some (.bool (true==true)) from w_eq_bool (w_res rfl) w_lit) rfl
theorem attach_call{l:OpenLaw}{n:Nat}{q:Program}{loose:List Str}{XP:(Str→Option Value)→Heap→Prop}{YP:World→Heap→Prop}{d:DefRec}
  (hn:l.most=some n) (hdf:d.params.defaults=[])
  (call:∀(w:World) (s₀ s₁:Shared) (mg mb:Str→Option Value) (fa:Addr) (o:Obj) (pm cd doc:Value) (a:Addr) (vs:List Value) (ns:List Int),
   Ground q loose [] XP w s₀ mg mb s₁.heap→YP w s₁.heap →
   s₁.heap.get? fa=some o→o.data=.func (docDef d.name d.params d.body d.scope pm cd doc)→s₁.heap.CodeRec cd d.name→mg d.name=some (.ref fa) →
   s₁.heap.get? a=some { cls:=.type "list",data:=.seq vs.toArray }→IntsAre vs ns→ns.length≤n→s₁.gens=#[] →
   codeAny (model l.prog w) callerA (.call (.ref fa) ⟨[.ref a],[]⟩) (fun r s'=>r=.ok (.ret (.bool true))∧OldK s₁.heap s'.heap∧s'.os=s₁.os∧AllBare s'.gens) s₁) :
  WalkO q loose XP YP l.row.toRowW d [] (fun f vs=>PySem.call f vs):=by
 intro w s₀ s₁ mg mb G Y fa o pm cd doc dV kV ho hd hcd hD hmg hg args vals as hpre hlay hrd hwl hlo
 obtain rfl:dV=.none:=Dflts.none hD hdf
 obtain rfl:kV=.none:=Dflts.noKw hD
 obtain⟨a,vs,ns,rfl,rfl,hobj,hints,hlen⟩:=script_of hn hpre hwl
 refine enter_call (codeAny_mono (call w s₀ s₁ mg mb fa o pm cd doc a vs ns G Y ho (fd_plain hd) hcd hmg hobj hints hlen hg) fun r s' hq=>?_)
 obtain⟨rfl,h2,h3,h4⟩:=hq
 exact⟨.inl ⟨.bool true,.bool true,[],rfl,fun _=>rfl,.bool true,post_true l _,fun _=>⟨List.Pairwise.nil,fun _ hm=>(nomatch hm)⟩⟩,h2,h3,h4⟩
section
variable{prog:Program}{w:World}{A:Around}{E:Value→Shared→Prop}{s:Shared}{K:Frag}
def ledger(h:Heap)(L d:Addr):List (Addr × Obj):=(List.range h.objs.size).filterMap fun a=>if a=L∨a=d then none else (h.get? a).map fun o=>(a,o)
end
end Att
namespace L2
open PySem PySem.Spec PyProof.Rows
theorem vals_ints:∀{vs:List Value} {ns:List Int},IntsAre vs ns→Vals (ns.map V.int) vs
 |_,_,.nil=>.nil
 |_,_,.cons n t h=>.cons ⟨t,rfl⟩ (vals_ints h)
end L2
namespace L2
open PySem PySem.Spec PyProof.Rows
abbrev KOf{K:PySem.W.Frag}{h:Heap}(_:K.In h):PySem.W.Frag:=K
end L2
/- THE LAST THEOREM (shape;LID,My.* are yours):
   My.Adr: a structure of the addresses that your layer names (classes,functions);My.Txt K t: a structure (Prop) of the equations over K;
   My.txt_mk:{K} {implicit addresses ..} (e1:nsIn K mainGlobals "law"=some (some (.ref f))) (e2:K.lookup f=some ⟨oc,od,.func (fnOf "law" "law" params body scope dV kV doc pm an cdv ct),sl⟩) (e3:codeIn K cdv "law"=true) ..:∃t,My.Txt K t
set_option maxRecDepth 100000 in
set_option maxHeartbeats 0 in
theorem PySem.Challenge.cw_LID_holds : PySem.Challenge.rw_LID.Holds := by
 w_on;o_law;k_head;(case hw=>w_witness2)
 k_fill
 refine L2.walk_of (l:=PySem.Challenge.rw_LID) (n:=63) (k:=40) (x:="script") (CX:=fun w=>..) (sp:=fun _=>My.sp_law) rfl (by decide) rfl ⟨rfl,by decide,by decide⟩ (fun w h Y=>PySem.W.kIn_of Y) ?F ?S ?C
 case F =>
  intro w mg fa h KX G hmg
  have T:∃t,My.Txt (L2.KOf KX) t:=by
   dsimp only [L2.KOf]                          -- K must stand as «<heap const> w.params» for k_is
   refine' My.txt_mk ?e1 ?e2 ?e3 ..
   (case e1=>PySem.W.k_is)                    -- in the order: a name -> its address -> its object -> its parts
   (case e2=>PySem.W.k_is)
   ..
  obtain⟨t,T⟩:=T
  have e0:=hmg.symm.trans (PySem.W.mg_of KX G T.law)
  cases e0                                       -- fa is the law's own address
  exact⟨_,fun s u=>.of_eq rfl,fun base kb nb=>My.law_fn T kb nb⟩     -- if «.of_eq rfl» comes too early: refine' ⟨_,?b,fun base kb nb=>My.law_fn T kb nb⟩;exact fun s u=>.of_eq rfl
 case S=>exact fun w H a ns hl hO hS=>..
 case C=>exact ..
(the tactic k_is has no namespace: write k_is) -/
namespace L2
open PySem PySem.Spec PyProof.Rows
def defArgs(s:Stmt):Arguments:=match s with
 |.FunctionDef _ a _ _ _ _ _ _ _ _=>a
 |_=>{ posonlyargs:=[],args:=[],vararg:=none,kwonlyargs:=[],kw_defaults:=[],kwarg:=none,defaults:=[] }
def defBody(s:Stmt):List Stmt:=match s with
 |.FunctionDef _ _ b _ _ _ _ _ _ _=>b
 |_=>[]
def defScope(s:Stmt):Scope:=match s with
 |.FunctionDef _ _ _ _ _ _ sc _ _ _=>sc
 |_=>{ kind:=.function,names:=[],isGenerator:=false,isCoroutine:=false }
abbrev CX0:CXT:=fun _ _ _ _ _ _=>False
abbrev E0:XK:=fun _ _ _=>False
theorem pass0{X:Cx}:Passes CX0 X E0:=fun _ _ _ _ _ _ _ h=>h.elim
structure Fun(K:PySem.W.Frag)(x qual:Str)(st:Stmt)(f:Addr)(fd:FuncData):Prop where
 ex:∃(oc:Value) (od:Option Addr) (kV doc pm:Value) (an:Option Addr) (cdv ct:Value) (osl:Array (Option Value)),
  fd=PySem.W.fnOf x qual (defArgs st) (defBody st) (defScope st) .none kV doc pm an cdv ct∧K.lookup f=some ⟨oc,od,.func fd,osl⟩∧PySem.W.codeIn K cdv qual=true
 kp:PySem.W.keepIn K (.ref f)=true
section
variable{P:Program}{w:World}{K:PySem.W.Frag}{mg:Str→Option Value}{base:Heap}
theorem Fun.ok{x qual:Str}{st:Stmt}{f:Addr}{fd:FuncData}{N ps:List Str}{k:Nat}{sp:Sp}(F:Fun K x qual st f fd)(S:FnScope N ps (defScope st))(len:∀vs H Q E,sp vs H Q E→vs.length=ps.length)
  (hbody:∀(cdv:Value) (A:Around) (outer:List Env) (s:Shared) (H:Hp) (vs:List V) (Q:VK) (E:XK),Room k (A.deeper (envOfC qual (defScope st) s.heap.objs.size f cdv))→sp vs H Q E →
   ∃t,PSs (cxOf CX0 P w K mg base N qual (defScope st) f cdv A outer s H E).nox (defBody st) t∧t { nx:=fun _ H'=>Q .non H',rt:=Q } (start N vs) H):FnOk P w K mg base CX0 (k+1) f fd ps sp:=by
 obtain⟨oc,od,kV,doc,pm,an,cdv,ct,osl,rfl,lk,hcd⟩:=F.ex
 refine fn_of lk hcd S len fun A outer s H vs Q E hr hsp=>?_
 obtain⟨t,h,q⟩:=hbody cdv A outer s H vs Q E hr hsp
 exact⟨t,h.nox,q⟩
theorem Fun.binds{x qual:Str}{st:Stmt}{f:Addr}{fd:FuncData}{ps:List Str}(F:Fun K x qual st f fd)
  (h:∀(kV doc pm:Value) (an:Option Addr) (cdv ct:Value) (us:List Value),us.length=ps.length→bindArgs (PySem.W.fnOf x qual (defArgs st) (defBody st) (defScope st) .none kV doc pm an cdv ct) ⟨us,[]⟩=pure (ps.zip us)):Binds K fd ps []:=by
 obtain⟨oc,od,kV,doc,pm,an,cdv,ct,osl,rfl,lk,hcd⟩:=F.ex
 exact .all (h kV doc pm an cdv ct)
theorem fun_mk{x qual:Str}{st:Stmt}{f:Addr}{oc:Value}{od an:Option Addr}{osl:Array (Option Value)}{kV doc pm cdv ct:Value}(l:K.lookup f=some ⟨oc,od,.func (PySem.W.fnOf x qual (defArgs st) (defBody st) (defScope st) .none kV doc pm an cdv ct),osl⟩)
  (c:PySem.W.codeIn K cdv qual=true) (k:PySem.W.keepIn K (.ref f)=true):Fun K x qual st f (PySem.W.fnOf x qual (defArgs st) (defBody st) (defScope st) .none kV doc pm an cdv ct):=⟨⟨oc,od,kV,doc,pm,an,cdv,ct,osl,rfl,l,c⟩,k⟩
end
theorem hu_of{A:Around}{k:Nat}(hr:Room k A):A.units+1 < cLine:=Nat.lt_of_le_of_lt (Nat.add_le_add_left (by decide:1≤64) _) hr.units
theorem small1000{n:Nat}(h:n≤1000):n < sizeLine:=Nat.lt_of_le_of_lt h (by decide)
section
variable{X:Cx}
theorem pv(i:Nat){x:Str}{pos:Pos}(hN:X.N[i]?=some x:=by rfl)(hv:Vis X.env.scope x:=by first|exact Or.inl rfl|exact Or.inr (Or.inl rfl)|exact Or.inr (Or.inr rfl)) (hd:(x==("__debug__":Str))=false:=by decide)
  (hcd:(x==("__classdict__":Str))=false:=by decide):PE X (.Name x pos) (tVar i):=pe_var hN hv hd hcd
end
theorem iteF{A B:Prop}(h:B):if false=true then A else B:=by
 rw [if_neg Bool.false_ne_true]
 exact h
theorem iteT{A B:Prop}(h:A):if true=true then A else B:=by
 rw [if_pos rfl]
 exact h
theorem ite2{c A B:Prop}[Decidable c](h1:c→A)(h2:¬c→B):if c then A else B:=by
 by_cases h:c
 ·rw [if_pos h]
  exact h1 h
 ·rw [if_neg h]
  exact h2 h
def Same(H H':Hp):Prop:=∀b o,H b=some o→H' b=some o
theorem Same.refl(H:Hp):Same H H:=fun _ _ h=>h
theorem Same.trans{H H1 H2:Hp}(a:Same H H1)(b:Same H1 H2):Same H H2:=fun c o h=>b c o (a c o h)
theorem Same.free{H H':Hp}(e:Same H H'){l:Addr}(h:H' l=Option.none):H l=Option.none:=by
 cases q:H l with
 |none=>rfl
 |some o =>
  rw [e l o q] at h
  cases h
theorem Same.seq{K:PySem.W.Frag}{H H':Hp}{a:Addr}{xs:List V}(e:Same H H')(h:SqL K H a xs):SqL K H' a xs:=by
 rcases h with (h|⟨o,h⟩)|h
 ·exact .inl (.inl (e _ _ h))
 ·exact .inl (.inr ⟨o,e _ _ h⟩)
 ·exact .inr h
end L2
namespace L2
open PySem PySem.Spec PyProof.Rows
section
variable{X:Cx}
end
end L2
namespace L2
open PySem PySem.Spec PyProof.Rows
section
variable{κ:Type}[DecidableEq κ]
end
end L2
namespace L2
open PySem PySem.Spec PyProof.Rows
section
variable{X:Cx}{tg:Expr}
end
abbrev blk(X:Cx)(N':List Str)(sc:Scope)(cl:List (Str × Addr))(s₀:Shared)(H₀:Hp)(C:Addr)(ex:List Addr):Cx :=
 { X with N:=N',s₀:=s₀,H₀:=H₀,env:=compEnvC sc cl C X.env,outer:=X.stack,ex:=ex,fn:=fun _=>false,xe:=fun _ _=>False }
structure BlkSc(X:Cx)(caps:List Str)(sc:Scope)(cl:List (Str × Addr)):Prop where
 kind:sc.kind=.function
 nocell:∀y∈sc.names,y.2≠.cell
 names:∀y∈sc.names,y.2=.local→sc.names.lookup y.1=some .local
 clos:closureFor sc X.env=pure cl
 has:(sc.names.all fun y=>y.2 != .free||(cl.lookup y.1).isSome)=true
 sub:∀y∈cl,X.env.cells.lookup y.1=some y.2
 caps:∀x∈caps,(X.env.kindOf x=some .cell∨X.env.kindOf x=some .free)∧(cl.lookup x).isSome=true∧((relabel sc X.env).names.lookup x=some .cell∨(relabel sc X.env).names.lookup x=some .free)
theorem relabel_inv{env:Env}:∀{names:List (Str × NameKind)} {x:Str} {k:NameKind},(names.map fun(n,k)=>if (k==NameKind.free&&env.scope.kind==.function&&env.kindOf n==some .cell) then (n,NameKind.cell) else (n,k)).lookup x=some k →
  ∃k',(x,k')∈names∧(k'=k∨k'=.free)
 |[],_,_,h=>by simp at h
 |(n,k0)::r,x,k,h=>by
  have h':List.lookup x ((if (k0==NameKind.free&&env.scope.kind==.function&&env.kindOf n==some .cell)=true then (n,NameKind.cell) else (n,k0))::(r.map fun(n,k)=>if (k==NameKind.free&&env.scope.kind==.function&&env.kindOf n==some .cell) then (n,NameKind.cell) else (n,k)))=some k:=h
  by_cases hx:x=n
  ·subst hx
   refine⟨k0,List.mem_cons_self,?_⟩
   by_cases hc:(k0==NameKind.free&&env.scope.kind==.function&&env.kindOf x==some .cell)=true
   ·have hf:(k0==NameKind.free)=true:=by
     rw [Bool.and_eq_true,Bool.and_eq_true] at hc
     exact hc.1.1
    exact .inr (by cases k0<;>first|rfl|exact absurd hf (by decide))
   ·rw [if_neg hc,List.lookup_cons_self] at h'
    exact .inl (Option.some.inj h')
  ·have hb:(x==n)=false:=beq_eq_false_iff_ne.mpr hx
   have h2:(r.map fun(n,k)=>if (k==NameKind.free&&env.scope.kind==.function&&env.kindOf n==some .cell) then (n,NameKind.cell) else (n,k)).lookup x=some k:=by
    split at h'<;>simpa [List.lookup_cons,hb] using h'
   obtain⟨k',hm,hk⟩:=relabel_inv h2
   exact⟨k',List.mem_cons_of_mem _ hm,hk⟩
theorem BlkSc.hasc{X:Cx}{caps:List Str}{sc:Scope}{cl:List (Str × Addr)}(S:BlkSc X caps sc cl){x:Str}(h:(relabel sc X.env).names.lookup x=some .cell∨(relabel sc X.env).names.lookup x=some .free):∃c,cl.lookup x=some c:=by
 have key:(x,NameKind.free)∈sc.names:=by
  rcases h with h|h
  ·obtain⟨k',hm,hk⟩:=relabel_inv h
   rcases hk with rfl|rfl
   ·exact absurd rfl (S.nocell _ hm)
   ·exact hm
  ·obtain⟨k',hm,hk⟩:=relabel_inv h
   rcases hk with rfl|rfl<;>exact hm
 have q:=List.all_eq_true.mp S.has _ key
 have q2:(cl.lookup x).isSome=true:=by simpa using q
 exact Option.isSome_iff_exists.mp q2
theorem BlkSc.subc{X:Cx}{caps:List Str}{sc:Scope}{cl:List (Str × Addr)}(S:BlkSc X caps sc cl){x:Str}{c:Addr}(h:cl.lookup x=some c):X.env.cells.lookup x=some c:=S.sub _ (PySem.mem_of_lookup h)
def blkSt(n:Nat)(κ:List Nat)(σ:St):St:=List.replicate n none++κ.map fun k=>(σ[k]?).join
def CompRun(n:Nat)(κ:List Nat)(g:TG)(tc:TT)(te:TE)(σ:St)(J:It)(H1:Hp)(Q:VK):Prop :=
 ∃W:Nat→Nat→List V→Hp→Prop,(∃m,W 0 m [] H1)∧∀i m ys H2,W i m ys H2 →
  (J.stop i H2∧∀D,H2 D=none→Q (.ref D) (upd H2 D (.lst ys))) ∨
  (J.go i H2∧ys.length < sizeLine∧∀x H3,J.yld i H2 x H3→g x (blkSt n κ σ) H3 fun σ4 H4=>σ4.drop n=(blkSt n κ σ).drop n ∧
   tc σ4 H4 fun b H5=>if b=true then te σ4 H5 fun v H6=>∃m',m' < m∧W (i+1) m' (ys++[v]) H6 else ∃m',m' < m∧W (i+1) m' ys H5)
def tComp(n:Nat)(κ:List Nat)(wi:TI)(g:TG)(tc:TT)(te:TE):TE:=fun σ H Q=>wi σ H fun J H1=>CompRun n κ g tc te σ J H1 Q
def tYes:TT:=fun _ H Q=>Q true H
theorem tYes_go{σ:St}{H:Hp}{A B:Hp→Prop}(h:A H):tYes σ H fun b H5=>if b=true then A H5 else B H5:=by
 show(if true=true then A H else B H)
 rw [if_pos rfl]
 exact h
section
variable{X:Cx}{pins:List (Addr × Obj)}{σ:St}{H:Hp}{s:Shared}
theorem Inv.block{caps:List Str}{own:List Str}{κ:List Nat}{sc:Scope}{cl:List (Str × Addr)}{fp:List Addr}{h₁:Heap}{tk:Nat}(S:BlkSc X caps sc cl)(hκ:κ.map (fun k=>X.N[k]?)=caps.map some)(I:Inv X pins σ H s)
  (f2:∀b∈fp,FpOk X pins H b) (hfp:∀b∈fp,b < s.heap.objs.size)
  {hp:Heap} {ol:Obj} (ehp:hp=s.heap.push ol) (hns:h₁.Ns hp.objs.size fun _=>none) (old:∀b o,hp.get? b=some o→h₁.get? b=some o) :
  Inv (blk X (own++caps) sc cl { s with heap:=hp } H hp.objs.size (s.heap.objs.size::fp)) pins (blkSt own.length κ σ) H { s with heap:=h₁,toks:=tk }:=by
 have hsz:hp.objs.size=s.heap.objs.size+1:=by rw [ehp,Heap.size_push]
 have up:∀b o,s.heap.get? b=some o→hp.get? b=some o:=fun b o e=>by rw [ehp];exact Heap.get?_push_of_some _ e
 have I3:Inv X pins σ H { s with heap:=hp }:=I.kept (t':=s.toks) up
 have stk:∀b,b≠X.env.locals→b∉X.fs→b∉frs X.stack:=fun b h1 h2 z=>(List.mem_cons.mp (I.stkSub b z)).elim h1 h2
 have dD:s.heap.objs.size≠X.env.locals:=Nat.ne_of_gt I.lt
 have cellLt:∀x c,X.env.cells.lookup x=some c→c < s.heap.objs.size:=fun x c e=>by
  obtain⟨v,q⟩:=I.cell x c e
  exact q.lt
 have ltC:∀b,b < s.heap.objs.size→b≠hp.objs.size:=fun b hb=>by rw [hsz];exact Nat.ne_of_lt (Nat.lt_succ_of_lt hb)
 have cellK:∀c v,s.heap.IsCell c v→h₁.IsCell c v:=fun c v ⟨o,ho,hd⟩=>⟨o,old _ _ (up _ _ ho),hd⟩
 refine⟨⟨I.ok.mod,?_,I.ok.glob,I.ok.blt,Nat.le_refl _,fun x y c h1 h2=>I.ok.inj x y c (S.subc h1) (S.subc h2),fun x h=>S.hasc h,fun _ _ z=>absurd z Bool.false_ne_true,I.ok.hd,I.ok.frames,.inl rfl,fun b hb=>?_,fun b o e=>⟨up _ _ (I.bs b o e).1,(I.bs b o e).2⟩,
   Nat.le_trans (Nat.le_trans I.ok.bsz I.sz) (by show s.heap.objs.size≤hp.objs.size;rw [hsz];exact Nat.le_succ _),fun b o e hb=>?_,fun b hb=>?_,I3.stack,I.stkFree⟩,
  rfl,I.bare,Un.kept old,⟨_,hns,fun i x v e1 e2 e3=>?_⟩,fun x c h=>?_,I.hok.fresh (by rw [hsz];exact Nat.le_succ _),fun x c h=>I.freeC x c (S.subc h),fun p hp'=>?_,I.hok.kept fun b u e=>old _ _ (up _ _ e),?_⟩
 ·show(relabel sc X.env).kind=.function
  exact S.kind
 ·show b≠hp.objs.size∧∀x c,cl.lookup x=some c→c≠b
  rcases List.mem_cons.mp hb with rfl|hb
  ·exact⟨by rw [hsz];exact Nat.ne_of_lt (Nat.lt_succ_self _),fun x c h=>Nat.ne_of_lt (cellLt x c (S.subc h))⟩
  ·exact⟨ltC b (hfp b hb),fun x c h=>(f2 b hb).2.2.2.2.1 x c (S.subc h)⟩
 ·have hlt:b < X.s₀.heap.objs.size:=Nat.lt_of_lt_of_le (Heap.lt_size e) I.ok.bsz
  rcases List.mem_cons.mp hb with rfl|hb
  ·exact absurd (Nat.lt_of_lt_of_le hlt I.sz) (Nat.lt_irrefl _)
  ·rcases (f2 b hb).2.2.2.1 with z|z
   ·exact I.ok.noex b o e z
   ·exact absurd (Nat.lt_of_lt_of_le hlt z) (Nat.lt_irrefl _)
 ·rcases List.mem_cons.mp hb with rfl|hb
  ·exact stk _ dD (I.nofs (Nat.le_refl _))
  ·exact stk _ (f2 b hb).2.1 (f2 b hb).2.2.1
 ·have e1':(own++caps)[i]?=some x:=e1
  have hlen:(List.replicate own.length (none:Option V)).length=own.length:=List.length_replicate
  have hge:own.length≤i:=by
   refine Nat.le_of_not_lt fun hlt=>?_
   unfold blkSt at e2
   rw [List.getElem?_append_left (by rw [hlen];exact hlt),List.getElem?_replicate,if_pos hlt] at e2
   cases e2
  unfold blkSt at e2
  rw [List.getElem?_append_right (by rw [hlen];exact hge),hlen,List.getElem?_map] at e2
  rw [List.getElem?_append_right hge] at e1'
  cases ek:κ[i - own.length]? with
  |none=>rw [ek] at e2;cases e2
  |some k =>
   rw [ek] at e2
   have e2':(σ[k]?).join=some v:=Option.some.inj e2
   have e4:σ[k]?=some (some v):=by
    cases eσ:σ[k]? with
    |none=>rw [eσ] at e2';cases e2'
    |some w=>rw [eσ] at e2';exact congrArg some e2'
   have e5:X.N[k]?=some x:=by
    have z:=congrArg (fun l=>l[i - own.length]?) hκ
    simp only [List.getElem?_map,ek,e1',Option.map_some] at z
    exact Option.some.inj z
   obtain⟨c1,c2,c3⟩:=S.caps x (List.mem_of_getElem? e1')
   obtain⟨m,hn,hl⟩:=I.loc
   obtain⟨u,r,l⟩:=hl k x v e5 e4 (c1.elim (fun z=>.inr (.inl z)) fun z=>.inr (.inr z))
   refine⟨u,r,?_⟩
   rcases l with ⟨hk,_⟩|⟨_,c,hc,hcell⟩
   ·rcases c1 with z|z<;>(rw [hk] at z;cases z)
   ·obtain⟨c',hc'⟩:=Option.isSome_iff_exists.mp c2
    have ecc:c'=c:=Option.some.inj ((S.subc hc').symm.trans hc)
    subst ecc
    exact .inr ⟨c3,c',hc',cellK _ _ hcell⟩
 ·obtain⟨v,q⟩:=I.cell x c (S.subc h)
  exact⟨v,cellK c v q⟩
 ·obtain⟨e,n,ne,nf,d⟩:=I.pin p hp'
  exact⟨old _ _ (up _ _ e),n,ltC _ (Heap.lt_size e),stk _ ne nf,d⟩
 ·show(blkSt own.length κ σ).length=(own++caps).length
  have z:=congrArg List.length hκ
  rw [List.length_map,List.length_map] at z
  unfold blkSt
  rw [List.length_append,List.length_append,List.length_replicate,List.length_map,z]
theorem Inv.unblock{own caps:List Str}{sc:Scope}{cl:List (Str × Addr)}{fp:List Addr}{H':Hp}{s4:Shared}{σ':St}{pins':List (Addr × Obj)}{hp h':Heap}{ol:Obj}{ys:List V}{its:List Value}{cap:Nat}(I:Inv X pins σ H s)
  (f2:∀b∈fp,FpOk X pins H b) (ehp:hp=s.heap.push ol)
  (J:Inv (blk X (own++caps) sc cl { s with heap:=hp } H hp.objs.size (s.heap.objs.size::fp)) pins' σ' H' s4)
  (hD:s4.heap.get? s.heap.objs.size=some { cls:=.type "list",data:=.seq its.toArray cap }) (nD:H' s.heap.objs.size=none) (r:Vals ys its) (hz:ys.length≤sizeLine) (sb:Heap.SameBut hp.objs.size s4.heap h') :
  Inv X pins σ (upd H' s.heap.objs.size (.lst ys)) { s4 with heap:=h' }:=by
 have hsz:hp.objs.size=s.heap.objs.size+1:=by rw [ehp,Heap.size_push]
 have up:∀b o,s.heap.get? b=some o→hp.get? b=some o:=fun b o e=>by rw [ehp];exact Heap.get?_push_of_some _ e
 have nDs:H s.heap.objs.size=none:=I.hok.fresh (Nat.le_refl _)
 have neD:∀b o,s.heap.get? b=some o→b≠s.heap.objs.size:=fun b o e=>Nat.ne_of_lt (Heap.lt_size e)
 have neC:∀b o,s.heap.get? b=some o→b≠hp.objs.size:=fun b o e=>by rw [hsz];exact Nat.ne_of_lt (Nat.lt_succ_of_lt (Heap.lt_size e))
 have nex:∀b o,s.heap.get? b=some o→b∉fp→b∉s.heap.objs.size::fp:=fun b o e hb z=>(List.mem_cons.mp z).elim (neD b o e) hb
 have u:=J.base
 have hDC:s.heap.objs.size≠hp.objs.size:=by rw [hsz];exact Nat.ne_of_lt (Nat.lt_succ_self _)
 have eD:h'.get? s.heap.objs.size=some { cls:=.type "list",data:=.seq its.toArray cap }:=(sb.2 _ hDC).trans hD
 refine I.call' (ch:=fp) J.os ⟨fun b o e n hb hx=>?_,fun b o e n hb hx=>?_,fun b o e n hx=>?_,fun b o e hx=>?_,fun b xs e=>?_,fun b o x e=>?_,fun b ps e=>?_⟩ (fun b o e=>?_) J.bare fun b hb=>?_
 ·exact(sb.2 b (neC b o e)).trans (u.keep b o (up _ _ e) n hb (nex b o e hx))
 ·obtain⟨sl,q⟩:=u.slot b o (up _ _ e) n hb (nex b o e hx)
  exact⟨sl,(sb.2 b (neC b o e)).trans q⟩
 ·rw [upd_ne (neD b o e)]
  exact u.free b o (up _ _ e) n (nex b o e hx)
 ·obtain⟨o',q⟩:=u.there b o (up _ _ e) (nex b o e hx)
  exact⟨o',(sb.2 b (neC b o e)).trans q⟩
 ·rw [upd_ne (ne_of_none e nDs)]
  exact u.tups b xs e
 ·rw [upd_ne (ne_of_none e nDs)]
  exact u.frzs b o x e
 ·rw [upd_ne (ne_of_none e nDs)]
  exact u.tbls b ps e
 ·by_cases hb:b=s.heap.objs.size
  ·subst hb
   rw [upd_same] at e
   cases e
   exact⟨hz,its,cap,r,eD⟩
  ·rw [upd_ne hb] at e
   have nC:∀c w,H' c=some w→c≠hp.objs.size:=fun c w q=>ne_of_none q J.free
   refine(J.hok b o e).stay (fun c v hc q=>(sb.2 c ?_).trans q) (fun c q=>by rw [upd_ne (ne_of_none q nD)];exact q) fun c xs q=>by rw [upd_ne (ne_of_none q nD)];exact q
   rcases hc with rfl|hc
   ·exact nC c o e
   ·exact nC c _ hc
 ·obtain⟨_,f1,_,f3,f4,f5⟩:=f2 b hb
  exact⟨f3,f1,f4,f5⟩
end
section
variable{X:Cx}
theorem pe_compG{tg elt iter:Expr}{ifs:List Expr}{own caps:List Str}{κ:List Nat}{sc:Scope}{cl:List (Str × Addr)}{pos:Pos}{wi:TI}{g:TG}{tc:TT}{te:TE}(hcalm:X.calm=true)(S:BlkSc X caps sc cl)(hκ:κ.map (fun k=>X.N[k]?)=caps.map some)
  (hi:PI X tg iter wi) (hg:∀s₀ H₀ C ex,PG (blk X (own++caps) sc cl s₀ H₀ C ex) tg g)
  (hc:∀s₀ H₀ C ex (pins:List (Addr × Obj)) (s:Shared) (σ:St) (H:Hp) (Q:Bool→Hp→Prop),Inv (blk X (own++caps) sc cl s₀ H₀ C ex) pins σ H s→tc σ H Q →
   wpAny (model X.prog X.w) X.A (forIn ifs true fun c r=>if r=true then do let ok ←isTrue c (compEnvC sc cl C X.env) (eval c (compEnvC sc cl C X.env));pure (ForInStep.yield ok) else pure (ForInStep.yield r)) (TP (blk X (own++caps) sc cl s₀ H₀ C ex) pins σ Q) (fun _ _=>False) s)
  (he:∀s₀ H₀ C ex,PE (blk X (own++caps) sc cl s₀ H₀ C ex) elt te)
  (hs:∀x,foldedSetIterable iter X.env x=pure x:=by intro _;rfl):PE X (.ListComp elt [⟨tg,iter,ifs,0⟩] sc pos) (tComp own.length κ wi g tc te):=by
 intro pins s σ H Q I h
 rw [eval_ListComp]
 refine wpAny_comprehension_free (use:=none) rfl hs S.clos S.kind S.names (thn (hi pins s σ H _ I h) fun v s1 h1=>thn h1 fun itv s2 h2=>?_)
 obtain⟨it,fp,tn,J,H2,e,I2,T,st2,f2,W,⟨m0,w0⟩,turn⟩:=h2
 subst e
 have hfp:∀b∈fp,b < s2.heap.objs.size:=fun b hb=>by
  obtain⟨o,e,_⟩:=T.obj _ _ st2 b hb
  exact Heap.lt_size e
 refine wpAny_newObj_type (wpAny_newFunctionEnv S.nocell (fun y hy=>nomatch hy) (fun h₁ hns hsb=>?_) S.kind)
 generalize ehp:s2.heap.push { cls:=.type "list",dict:=none,data:=.seq ([]:List Value).toArray }=hp at hns hsb ⊢
 have hsz:hp.objs.size=s2.heap.objs.size+1:=by rw [←ehp,Heap.size_push]
 have hDC:s2.heap.objs.size≠hp.objs.size:=by rw [hsz];exact Nat.ne_of_lt (Nat.lt_succ_self _)
 have old:∀b o,hp.get? b=some o→h₁.get? b=some o:=fun b o e=>(hsb.2 b (Nat.ne_of_lt (Heap.lt_size e))).trans (Heap.get?_push_of_some _ e)
 have eD:h₁.get? s2.heap.objs.size=some { cls:=.type "list",data:=.seq ([]:List Value).toArray }:=old _ _ (by rw [←ehp];exact Heap.get?_push_size _ rfl)
 have I0:=Inv.block (own:=own) (h₁:=h₁) (tk:=s2.toks+([]:List (Str × Value)).length) S hκ I2 f2 hfp ehp.symm hns old
 have stkD:s2.heap.objs.size∉frs X.stack:=fun z=>(List.mem_cons.mp (I2.stkSub _ z)).elim (Nat.ne_of_gt I2.lt) (I2.nofs (Nat.le_refl _))
 have cellD:∀x c,cl.lookup x=some c→c≠s2.heap.objs.size:=fun x c q=>by
  obtain⟨v,z⟩:=I2.cell x c (S.subc q)
  exact Nat.ne_of_lt z.lt
 have pinD:∀p∈X.pn++pins,p.1≠s2.heap.objs.size:=fun p hp=>Nat.ne_of_lt (Heap.lt_size (I2.pin p hp).1)
 have stkF:∀b∈fp,b∉frs X.stack:=fun b hb z=>(List.mem_cons.mp (I2.stkSub _ z)).elim (f2 b hb).2.1 (f2 b hb).2.2.1
 have loop:codeAny (model X.prog X.w) X.A (.compLoop (.ListComp elt [⟨tg,iter,ifs,0⟩] sc pos) 0 (.ref it) (.ref s2.heap.objs.size) (compEnvC sc cl hp.objs.size X.env))
   (compPost (model X.prog X.w) X.A X.xe none (EP X pins σ Q) (.ref s2.heap.objs.size) hp.objs.size) { s2 with heap:=h₁,toks:=s2.toks+([]:List (Str × Value)).length }:=by
  refine codeAny_loop rfl (fun n s'=>∃(i:Nat) (ys:List V) (its:List Value) (cap:Nat) (H':Hp),Inv (blk X (own++caps) sc cl { s2 with heap:=hp } H2 hp.objs.size (s2.heap.objs.size::fp)) pins (blkSt own.length κ σ) H' s'∧tn i s'.heap∧(∀b∈fp,H' b=none) ∧
   s'.heap.get? s2.heap.objs.size=some { cls:=.type "list",data:=.seq its.toArray cap }∧H' s2.heap.objs.size=none∧Vals ys its∧ys.length≤sizeLine∧W i n ys H') (fun n s3 hI=>?_) m0
   ⟨0,[],[],0,H2,I0,T.keep _ _ _ st2 fun b hb o e=>old _ _ (by rw [←ehp];exact Heap.get?_push_of_some _ e),fun b hb=>(f2 b hb).1,eD,I2.hok.fresh (Nat.le_refl _),.nil,Nat.zero_le _,w0⟩
  obtain⟨i,ys,its,cap,H3,I3,st3,fr3,eD3,nD3,rv,hz,w3⟩:=hI
  show wpAny _ X.A ((compTurn (.ListComp elt [⟨tg,iter,ifs,0⟩] sc pos) 0 (.ref it) (.ref s2.heap.objs.size) (compEnvC sc cl hp.objs.size X.env)).onRaise fun x=>do noteFrame x (compEnvC sc cl hp.objs.size X.env);theTreesLotGoes x) _ _ s3
  refine wpAny_noted ?_
  rw [compTurn_list]
  have I3':Inv (blk X (own++caps) sc cl { s2 with heap:=hp } H2 hp.objs.size (s2.heap.objs.size::fp)) (pins++[(s2.heap.objs.size,{ cls:=.type "list",data:=.seq its.toArray cap })]) (blkSt own.length κ σ) H3 s3:=by
   refine I3.pins_of fun p hp=>(List.mem_append.mp hp).elim (fun z=>I3.pin p (List.mem_append_right _ z)) fun z=>?_
   obtain rfl:=List.mem_singleton.mp z
   exact⟨eD3,nD3,hDC,stkD,fun v q=>by cases q⟩
  have fpk:∀{H':Hp},(∀b∈fp,H' b=none)→∀b∈fp,FpOk (blk X (own++caps) sc cl { s2 with heap:=hp } H2 hp.objs.size (s2.heap.objs.size::fp)) (pins++[(s2.heap.objs.size,{ cls:=.type "list",data:=.seq its.toArray cap })]) H' b:=fun {H'} hn b hb =>
   ⟨hn b hb,by show b≠hp.objs.size;rw [hsz];exact Nat.ne_of_lt (Nat.lt_succ_of_lt (hfp b hb)),stkF b hb,.inl (List.mem_cons_of_mem _ hb),fun x c q=>(f2 b hb).2.2.2.2.1 x c (S.subc q),fun p hp=>by
    rw [←List.append_assoc] at hp
    rcases List.mem_append.mp hp with z|z
    ·exact(f2 b hb).2.2.2.2.2 p z
    ·obtain rfl:=List.mem_singleton.mp z
     exact Nat.ne_of_gt (hfp b hb)⟩
  rcases turn i n ys H3 w3 with ⟨stop,fin⟩|⟨go,hlt,step⟩
  ·refine wpAny_bind (wpAny_standAt (wpAny_bind (thn (T.done (blk X (own++caps) sc cl { s2 with heap:=hp } H2 hp.objs.size (s2.heap.objs.size::fp)) rfl rfl rfl hcalm i _ s3 _ H3 _ I3' (fpk fr3) st3 stop) fun r s4 ⟨hr,I4⟩=>?_)))
   subst hr
   refine wpAny_pure ?_
   obtain⟨m,hm,_⟩:=I4.loc
   refine⟨m,hm,fun h' sb=>?_⟩
   have eD4:=(I4.pin (s2.heap.objs.size,{ cls:=.type "list",data:=.seq its.toArray cap }) (List.mem_append_right _ (List.mem_append_right _ (List.mem_singleton.mpr rfl)))).1
   exact⟨.ref s2.heap.objs.size,_,Inv.unblock I2 f2 ehp.symm I4 eD4 nD3 rv hz sb,rfl,fin _ nD3⟩
  ·refine wpAny_bind (wpAny_standAt (wpAny_bind (thn (T.item (blk X (own++caps) sc cl { s2 with heap:=hp } H2 hp.objs.size (s2.heap.objs.size::fp)) rfl rfl rfl hcalm i _ s3 _ H3 _ I3' (fpk fr3) st3 go) fun r s4 ⟨u,hr,h4⟩=>?_)))
   subst hr
   refine wpAny_bind (thn h4 fun _ s5 ⟨x,H5,I5,r5,y5,st5,fr5⟩=>?_)
   have I5':=I5.pinned (fpk fr5) (T.obj _ _ st5)
   refine wpAny_bind (wpAny_mono (hg _ _ _ _ _ s5 _ H5 x u _ I5' r5 (step x H5 y5)) (fun _ s6 ⟨σ6,H6,I6,eσ,q6⟩=>?_) fun _ _ z=>z.elim)
   refine wpAny_bind (wpAny_mono (hc _ _ _ _ _ s6 σ6 H6 _ I6 q6) (fun ok s7 ⟨H7,I7,q7⟩=>?_) fun _ _ z=>z.elim)
   have back:∀{s8:Shared} {H8:Hp},Inv (blk X (own++caps) sc cl { s2 with heap:=hp } H2 hp.objs.size (s2.heap.objs.size::fp)) ((pins++[(s2.heap.objs.size,{ cls:=.type "list",data:=.seq its.toArray cap })])++pinsAt fp s5.heap) σ6 H8 s8 →
     Inv (blk X (own++caps) sc cl { s2 with heap:=hp } H2 hp.objs.size (s2.heap.objs.size::fp)) pins (blkSt own.length κ σ) H8 s8∧tn (i+1) s8.heap∧(∀b∈fp,H8 b=none)∧s8.heap.get? s2.heap.objs.size=some { cls:=.type "list",data:=.seq its.toArray cap }∧H8 s2.heap.objs.size=none:=by
    intro s8 H8 I8
    have pk:∀b∈fp,∀o,s5.heap.get? b=some o→s8.heap.get? b=some o∧H8 b=none:=fun b hb o e=>by
     have z:=I8.pin (b,o) (List.mem_append_right _ (List.mem_append_right _ (mem_pinsAt hb e)))
     exact⟨z.1,z.2.1⟩
    have zD:=I8.pin (s2.heap.objs.size,{ cls:=.type "list",data:=.seq its.toArray cap }) (List.mem_append_right _ (List.mem_append_left _ (List.mem_append_right _ (List.mem_singleton.mpr rfl))))
    refine⟨(I8.pins_of fun p hp=>I8.pin p (List.mem_append_right _ (List.mem_append_left _ (List.mem_append_left _ hp)))).weak ?_ fun j v e=>?_,T.keep _ _ _ st5 fun b hb o e=>(pk b hb o e).1,fun b hb=>?_,zD.1,zD.2.1⟩
    ·exact I3.len.trans I8.len.symm
    ·have hge:own.length≤j:=by
      refine Nat.le_of_not_lt fun q=>?_
      unfold blkSt at e
      rw [List.getElem?_append_left (by rw [List.length_replicate];exact q),List.getElem?_replicate,if_pos q] at e
      cases e
     have z:=congrArg (fun l=>l[j - own.length]?) eσ
     simp only [List.getElem?_drop] at z
     rw [show own.length+(j - own.length)=j by omega] at z
     rw [z]
     exact e
    ·obtain⟨o,e,_⟩:=T.obj _ _ st5 b hb
     exact(pk b hb o e).2
   cases ok with
   |false =>
    obtain⟨m',hm,w7⟩:=(if_neg Bool.false_ne_true)▸q7
    obtain⟨I8,st8,fr8,e8,n8⟩:=back I7
    exact wpAny_pure ⟨rfl,m',hm,i+1,ys,its,cap,H7,I8,st8,fr8,e8,n8,rv,hz,w7⟩
   |true =>
    have q7':=(if_pos rfl)▸q7
    refine wpAny_bind (wpAny_bind (wpAny_mono (he _ _ _ _ _ s7 σ6 H7 _ I7 q7') (fun y s8 ⟨v8,H8,I8,r8,m',hm,w8⟩=>?_) fun _ _ z=>z.elim))
    obtain⟨I9,st9,fr9,e9,n9⟩:=back I8
    have hl:=rv.length
    refine wpAny_bind (wpAny_list_append_plain (items:=its.toArray) ⟨cap,e9⟩ (fun h' hl' sb=>?_) (by rw [List.size_toArray,←hl];exact hz))
    obtain⟨cap',e'⟩:=hl'
    refine wpAny_pure (wpAny_pure ⟨rfl,m',hm,i+1,ys++[v8],its++[y],cap',H8,?_,?_,fr9,?_,n9,Vals.append rv (.cons r8 .nil),?_,w8⟩)
    ·exact I9.turned (t':=s8.toks) (fun b o hb e=>(sb.2 b hb).trans e) n9 hDC (.inl List.mem_cons_self) cellD pinD
    ·exact T.keep _ _ _ st9 fun b hb o e=>(sb.2 b (Nat.ne_of_lt (hfp b hb))).trans e
    ·rw [e']
     congr 3
     simp
    ·rw [List.length_append]
     exact hlt
 exact codeAny_compStart_list loop (T.self _ 0 _ _ _ (T.keep _ _ _ st2 fun b hb o e=>old _ _ (by rw [←ehp];exact Heap.get?_push_of_some _ e)) loop)
theorem pe_comp{tg elt iter:Expr}{own caps:List Str}{κ:List Nat}{sc:Scope}{cl:List (Str × Addr)}{pos:Pos}{wi:TI}{g:TG}{te:TE}(hcalm:X.calm=true)(S:BlkSc X caps sc cl)(hκ:κ.map (fun k=>X.N[k]?)=caps.map some)
  (hi:PI X tg iter wi) (hg:∀s₀ H₀ C ex,PG (blk X (own++caps) sc cl s₀ H₀ C ex) tg g) (he:∀s₀ H₀ C ex,PE (blk X (own++caps) sc cl s₀ H₀ C ex) elt te)
  (hs:∀x,foldedSetIterable iter X.env x=pure x:=by intro _;rfl):PE X (.ListComp elt [⟨tg,iter,[],0⟩] sc pos) (tComp own.length κ wi g tYes te) :=
 pe_compG hcalm S hκ hi hg (fun s₀ H₀ C ex pins s σ H Q I h=>wpAny_tests_nil ⟨H,I,h⟩) he hs
end
end L2
namespace L2
open PySem PySem.Spec PyProof.Rows
section
variable{X:Cx}
theorem bootIsi:bootBuiltins "isinstance"=some (.builtin "isinstance"):=by decide +kernel
end
end L2
namespace L2
open PySem PySem.Spec PyProof.Rows
end L2
namespace L2
open PySem PySem.Spec PyProof.Rows
theorem comp_by{J:It}{xs:List V}{n:Nat}{κ:List Nat}{g:TG}{tc:TT}{te:TE}{σ:St}{H:Hp}{Q:VK}(Pv:Nat→List V→Hp→Prop)(h0:Pv 0 [] H)(hz:xs.length≤sizeLine)(hlen:∀i ys H2,Pv i ys H2→ys.length≤i)
  (hgo:∀i x ys H2,xs[i]?=some x→Pv i ys H2→J.go i H2) (hyl:∀i ys x H2 H',i < xs.length→Pv i ys H2→J.yld i H2 x H'→H'=H2∧xs[i]?=some x) (hst:∀ys H2,Pv xs.length ys H2→J.stop xs.length H2)
  (hs:∀i x ys H2 (N:List V→Hp→Prop),(∀ys' H',Pv (i+1) ys' H'→N ys' H')→xs[i]?=some x→Pv i ys H2→g x (blkSt n κ σ) H2 fun σ4 H4=>σ4.drop n=(blkSt n κ σ).drop n∧tc σ4 H4 fun b H5=>if b=true then te σ4 H5 fun v H6=>N (ys++[v]) H6 else N ys H5)
  (hQ:∀ys H2 D,Pv xs.length ys H2→H2 D=none→Q (.ref D) (upd H2 D (.lst ys))) :
  CompRun n κ g tc te σ J H Q:=by
 refine⟨fun i m ys H2=>m=xs.length - i∧i≤xs.length∧Pv i ys H2,⟨xs.length,rfl,Nat.zero_le _,h0⟩,?_⟩
 rintro i m ys H2 ⟨rfl,hi,p⟩
 by_cases hlt:i < xs.length
 ·have e:xs[i]?=some xs[i]:=List.getElem?_eq_getElem hlt
  refine .inr ⟨hgo i _ ys H2 e p,Nat.lt_of_le_of_lt (hlen i ys H2 p) (Nat.lt_of_lt_of_le hlt hz),fun x H3 y=>?_⟩
  obtain⟨rfl,ex⟩:=hyl i ys x H2 H3 hlt p y
  exact hs i x ys _ (fun ys' H'=>∃m',m' < xs.length - i∧m'=xs.length - (i+1)∧i+1≤xs.length∧Pv (i+1) ys' H') (fun ys' H' p'=>⟨xs.length - (i+1),by omega,rfl,hlt,p'⟩) ex p
 ·obtain rfl:i=xs.length:=by omega
  exact .inl ⟨hst ys H2 p,fun D hD=>hQ ys H2 D p hD⟩
def rangeV(lo:Int)(n:Nat):List V:=(List.range n).map fun i=>V.int (lo+(i:Nat))
theorem rangeV_len(lo:Int)(n:Nat):(rangeV lo n).length=n:=by simp [rangeV]
theorem rangeV_get{lo:Int}{n i:Nat}{x:V}:(rangeV lo n)[i]?=some x↔i < n∧x=.int (lo+i):=by
 unfold rangeV
 rw [List.getElem?_map]
 by_cases h:i < n
 ·rw [List.getElem?_range h]
  simp [h,eq_comm]
 ·rw [List.getElem?_eq_none (by simp;omega)]
  simp [h]
theorem itr_go{lo:Int}{n:Nat}{H:Hp}{i:Nat}{x:V}(h:(rangeV lo n)[i]?=some x):(Itr lo n).go i H:=(rangeV_get.mp h).1
theorem itr_yld'{lo:Int}{n:Nat}{H H':Hp}{i:Nat}{x:V}(hi:i < n)(h:(Itr lo n).yld i H x H'):H'=H∧(rangeV lo n)[i]?=some x:=⟨h.1,rangeV_get.mpr ⟨hi,h.2⟩⟩
section
variable{X:Cx}
end
end L2
namespace L2
open PySem PySem.Spec PyProof.Rows
mutual
inductive Dat (K:PySem.W.Frag) (H:Hp):V→PyData→Prop
 |non:Dat K H .non .none
 |bl (b:Bool):Dat K H (.bl b) (.bool b)
 |int (i:Int):Dat K H (.int i) (.int i)
 |str (x:Str):Dat K H (.str x) (.str x)
 |tup {a:Addr} {xs:List V} {ds:List PyData}:SqT K H a xs→Dats K H xs ds→Dat K H (.ref a) (.tuple ds)
 |lst {a:Addr} {xs:List V} {ds:List PyData}:SqL K H a xs→Dats K H xs ds→Dat K H (.ref a) (.list ds)
inductive Dats (K:PySem.W.Frag) (H:Hp):List V→List PyData→Prop
 |nil:Dats K H [] []
 |cons {x:V} {d:PyData} {xs:List V} {ds:List PyData}:Dat K H x d→Dats K H xs ds→Dats K H (x::xs) (d::ds)
end
theorem Same.tup{K:PySem.W.Frag}{H H':Hp}{a:Addr}{xs:List V}(e:Same H H')(h:SqT K H a xs):SqT K H' a xs:=by
 rcases h with (h|⟨o,h⟩)|h
 ·exact .inl (.inl (e _ _ h))
 ·exact .inl (.inr ⟨o,e _ _ h⟩)
 ·exact .inr h
mutual
theorem Dat.same{K:PySem.W.Frag}{H H':Hp}(e:Same H H'):∀{x:V} {d:PyData},Dat K H x d→Dat K H' x d
 |_,_,.non=>.non
 |_,_,.bl b=>.bl b
 |_,_,.int i=>.int i
 |_,_,.str x=>.str x
 |_,_,.tup h r=>.tup (e.tup h) (Dats.same e r)
 |_,_,.lst h r=>.lst (e.seq h) (Dats.same e r)
theorem Dats.same{K:PySem.W.Frag}{H H':Hp}(e:Same H H'):∀{xs:List V} {ds:List PyData},Dats K H xs ds→Dats K H' xs ds
 |_,_,.nil=>.nil
 |_,_,.cons h r=>.cons (Dat.same e h) (Dats.same e r)
end
section
variable{X:Cx}{pins:List (Addr × Obj)}{σ:St}{H:Hp}{s:Shared}
mutual
theorem Dat.reads(I:Inv X pins σ H s):∀{x:V} {d:PyData} {v:Value},Dat X.K H x d→RelV x v→∃as,Reads s.heap v d as
 |_,_,_,.non,r=>by cases r;exact⟨_,.none⟩
 |_,_,_,.bl b,r=>by cases r;exact⟨_,.bool b⟩
 |_,_,_,.int i,r=>by obtain⟨t,rfl⟩:=r;exact⟨_,.int i t⟩
 |_,_,_,.str x,r=>by obtain⟨t,rfl⟩:=r;exact⟨_,.str x t⟩
 |_,_,_,.tup hq ds,r=>by
  cases r
  obtain⟨its,rv,p,_⟩:=I.tuple hq
  obtain⟨as,q⟩:=Dats.reads I ds rv
  obtain⟨o,e,c,n,dt⟩:=p
  exact⟨as,.tuple e c dt (by simpa using q)⟩
 |_,_,_,.lst hq ds,r=>by
  cases r
  obtain⟨its,rv,p,_⟩:=I.list hq
  obtain⟨as,q⟩:=Dats.reads I ds rv
  obtain⟨o,n,e,c,_,dt⟩:=p
  exact⟨_,.list e c dt (by simpa using q)⟩
theorem Dats.reads(I:Inv X pins σ H s):∀{xs:List V} {ds:List PyData} {vs:List Value},Dats X.K H xs ds→Vals xs vs→∃as,ReadsAll s.heap vs ds as
 |_,_,_,.nil,r=>by cases r;exact⟨_,.nil⟩
 |_,_,_,.cons h t,r=>by
  cases r with
  |cons r1 r2 =>
   obtain⟨as,q⟩:=Dat.reads I h r1
   obtain⟨bs,q2⟩:=Dats.reads I t r2
   exact⟨_,.cons q q2⟩
end
end
section
variable{X:Cx}
def rEqD(K:PySem.W.Frag)(neg:Bool):R2:=fun x y H Q=>∃dx dy,Dat K H x dx∧Dat K H y dy∧SeqAt.shaped dx=true∧SeqAt.shaped dy=true∧Q (.bl (if neg then !PyData.eqv dx dy else PyData.eqv dx dy)) H
theorem op_eqD(hu:X.A.units+64 < cLine):OpR X (compareOp .Eq) (rEqD X.K false):=by
 intro pins s σ H x y v u Q I rx ry h
 obtain⟨dx,dy,hx,hy,sx,sy,q⟩:=h
 obtain⟨as,ra⟩:=Dat.reads I hx rx
 obtain⟨bs,rb⟩:=Dat.reads I hy ry
 exact eq_dataH ra rb sx sy hu ⟨.bl _,H,I,rfl,q⟩
theorem op_neD(hu:X.A.units+64 < cLine):OpR X (compareOp .NotEq) (rEqD X.K true):=by
 intro pins s σ H x y v u Q I rx ry h
 obtain⟨dx,dy,hx,hy,sx,sy,q⟩:=h
 obtain⟨as,ra⟩:=Dat.reads I hx rx
 obtain⟨bs,rb⟩:=Dat.reads I hy ry
 exact ne_dataH ra rb sx sy hu ⟨.bl _,H,I,rfl,q⟩
end
end L2
namespace L2
open PySem PySem.Spec PyProof.Rows
section
variable{X:Cx}
theorem canLayAll_mem{ds:List PyData}(h:PyData.canLayAll0 ds=true){d:PyData}(hd:d∈ds):d.canLay0=true:=PyData.canLay0_of_mem ds d h hd
theorem readsAll_get{h:Heap}:∀{vs:List Value} {ds:List PyData} {as:List Addr},ReadsAll h vs ds as→∀v∈vs,∃d∈ds,∃bs,Reads h v d bs
 |_,_,_,.nil,v,hv=>nomatch hv
 |_,_,_,.cons r t,v,hv=>by
  rcases List.mem_cons.mp hv with rfl|hv
  ·exact⟨_,List.mem_cons_self,_,r⟩
  ·obtain⟨d,hd,bs,q⟩:=readsAll_get t v hv
   exact⟨d,List.mem_cons_of_mem _ hd,bs,q⟩
open Classical in
noncomputable def eqAtD(h:Heap)(d:PyData)(v:Value):Bool:=if q:∃e,∃bs,Reads h v e bs then PyData.eqv q.choose d else false
theorem eqAtD_of{h:Heap}{d e:PyData}{v:Value}{as:List Addr}(hl:e.canLay0=true)(r:Reads h v e as):eqAtD h d v=PyData.eqv e d:=by
 unfold eqAtD
 have q:∃e,∃bs,Reads h v e bs:=⟨e,as,r⟩
 rw [dif_pos q]
 obtain⟨bs,r2⟩:=q.choose_spec
 rw [SeqAt.Reads.unique e _ v as bs hl r r2]
theorem op_mulS:OpR X (binaryOp .Mult) (fun x y H Q=>∃z n,x=.str z∧y=.int n∧MulOk z n∧Q (.str (Txt.mul z n)) H):=by
 intro pins s σ H x y v u Q I rx ry h
 obtain⟨z,n,rfl,rfl,hm,q⟩:=h
 obtain⟨t,rfl⟩:=rx
 obtain⟨t',rfl⟩:=ry
 exact SB.mul hm fun t' k=>⟨.str _,H,I.tok _,⟨_,rfl⟩,q⟩
theorem mulOk_small{z:Str}{n:Int}(h0:0≤n)(h1:n≤1000)(h2:z.length≤1000):MulOk z n:=by
 refine⟨?_,fun h3 _=>?_,fun _ _=>?_⟩
 ·rw [decide_eq_false (by omega),decide_eq_false (by omega)]<;>rfl
 ·have hn:0 < n:=by omega
  have hm:(z.length:Int)*n≤1000*1000:=Int.mul_le_mul (by omega) h1 h0 (by decide)
  have e:(z.length:Int)≤(2 ^ 63 - 1) / n:=Int.le_ediv_of_mul_le hn (by omega)
  omega
 ·unfold Builtin.Str.tooLong sizeLine
  refine decide_eq_false ?_
  have:z.length*n.toNat≤1000*1000:=Nat.mul_le_mul h2 (by omega)
  omega
end
end L2
namespace L2
open PySem PySem.Spec PyProof.Rows
section
variable{prog:Program}{w:World}{A:Around}{E:Value→Shared→Prop}{s:Shared}
end
end L2
namespace L2
open PySem PySem.Spec PyProof.Rows
section
variable{X:Cx}
end
end L2
namespace Kk
open PySem L2
inductive Kd where
 |num (n:Int)
 |name (q t:Str)
 |pair (a b:Kd)
 deriving DecidableEq
def Kd.words:Kd→Nat
 |.num _=>1
 |.name _ _=>1
 |.pair a b=>1+a.words+b.words
def Kd.leaves:Kd→List Kd
 |.num n=>[.num n]
 |.name q t=>[.name q t]
 |.pair a b=>a.leaves++b.leaves
def Kd.leaf:Kd→Bool
 |.pair _ _=>false
 |_=>true
theorem words_leaves:∀k:Kd,k.words+1=2*k.leaves.length
 |.num _=>rfl
 |.name _ _=>rfl
 |.pair a b=>by
  have h1:=words_leaves a
  have h2:=words_leaves b
  show 1+a.words+b.words+1=2*(a.leaves++b.leaves).length
  rw [List.length_append]
  omega
theorem leaves_pos:∀k:Kd,0 < k.leaves.length
 |.num _=>Nat.zero_lt_one
 |.name _ _=>Nat.zero_lt_one
 |.pair a b=>by
  have h1:=leaves_pos a
  show 0 < (a.leaves++b.leaves).length
  rw [List.length_append]
  omega
inductive KdAt (K:PySem.W.Frag) (H:Hp):V→Kd→Prop
 |num {a:Addr} {n:Int}:SqT K H a [.str "num",.int n]→KdAt K H (.ref a) (.num n)
 |name {a:Addr} {q t:Str}:SqT K H a [.str "name",.str q,.str t]→KdAt K H (.ref a) (.name q t)
 |pair {a:Addr} {x y:V} {k l:Kd}:SqT K H a [.str "pair",x,y]→KdAt K H x k→KdAt K H y l→KdAt K H (.ref a) (.pair k l)
theorem KdAt.same{K:PySem.W.Frag}{H H':Hp}(e:Same H H'):∀{x:V} {k:Kd},KdAt K H x k→KdAt K H' x k
 |_,_,.num h=>.num (e.tup h)
 |_,_,.name h=>.name (e.tup h)
 |_,_,.pair h a b=>.pair (e.tup h) (a.same e) (b.same e)
inductive KdsAt (K:PySem.W.Frag) (H:Hp):List V→List Kd→Prop
 |nil:KdsAt K H [] []
 |cons {x:V} {k:Kd} {xs:List V} {ks:List Kd}:KdAt K H x k→KdsAt K H xs ks→KdsAt K H (x::xs) (k::ks)
theorem KdsAt.length{K:PySem.W.Frag}{H:Hp}:∀{xs:List V} {ks:List Kd},KdsAt K H xs ks→xs.length=ks.length
 |_,_,.nil=>rfl
 |_,_,.cons _ b=>congrArg (·+1) b.length
theorem KdsAt.append{K:PySem.W.Frag}{H:Hp}:∀{xs ys:List V} {ks ls:List Kd},KdsAt K H xs ks→KdsAt K H ys ls→KdsAt K H (xs++ys) (ks++ls)
 |_,_,_,_,.nil,h=>h
 |_,_,_,_,.cons a b,h=>.cons a (b.append h)
end Kk
namespace L2
open PySem PySem.Spec PyProof.Rows
section
variable{α β:Type}{P:Shared→Prop}
def Keeps(P:Shared→Prop)(t:Sem α):Prop:=∀(M:Model) (Γ:PySem.Ctx) (Q:α→Pos→Shared→Prop) (E:Value→Pos→Shared→Prop) (p:Pos) (s:Shared),P s→Sem.wp M Γ t Q E p s →
 Sem.wp M Γ t (fun a p' s'=>Q a p' s'∧P s') (fun e p' s'=>E e p' s'∧P s') p s
theorem Keeps.ret(a:α):Keeps P (Pure.pure a:Sem α):=fun _ _ _ _ _ _ h q=>⟨q,h⟩
theorem Keeps.no(x:String):Keeps P (unsupported x:Sem α):=fun _ _ _ _ _ _ _ q=>False.elim q
theorem Keeps.then{m:Sem α}{f:α→Sem β}(hm:Keeps P m)(hf:∀a,Keeps P (f a)):Keeps P (m >>= f):=fun M Γ Q E p s h q=>by
 rw [Sem.wp_bind'] at q ⊢
 exact Sem.wp_mono M Γ m (fun a p' s' z=>hf a M Γ Q E p' s' z.2 z.1) (fun _ _ _ z=>z) p s (hm M Γ _ E p s h q)
theorem Keeps.ld(a:Addr):Keeps P (load a):=fun _ _ _ _ _ _ h ⟨o,e,q⟩=>⟨o,e,q,h⟩
theorem Keeps.stk:Keeps P stack:=fun _ _ _ _ _ _ h q=>⟨q,h⟩
theorem Keeps.ite{c:Prop}[Decidable c]{a b:Sem α}(ha:Keeps P a)(hb:Keeps P b):Keeps P (if c then a else b):=by split<;>assumption
theorem Keeps.wpAny{t:Sem α}(k:Keeps P t){M:Model}{A:Around}{Q:α→Shared→Prop}{E:Value→Shared→Prop}{s:Shared}(hp:P s)(h:wpAny M A t Q E s):wpAny M A t (fun a s'=>Q a s'∧P s') (fun e s'=>E e s'∧P s') s :=
 fun Γ p hΓ=>k M Γ _ _ p s hp (h Γ p hΓ)
def DictIs(x:Addr)(d:Option Addr)(s:Shared):Prop:=∃ob,s.heap.get? x=some ob∧ob.dict=d
variable{x:Addr}{d:Option Addr}
theorem Keeps.up{a:Addr}{f:Obj→Obj}(hf:∀o:Obj,o.isFreed=false→(f o).dict=o.dict∧(f o).isFreed=false):Keeps (DictIs x d) (update a f):=fun _ _ _ _ _ s h q=>by
 refine⟨q.1,q.2,?_⟩
 obtain⟨ob,e,hd⟩:=h
 have hfr:=(Heap.get?_some_iff.mp e).2
 by_cases hx:a=x
 ·subst hx
  exact⟨_,Heap.get?_update_self f e (hf ob hfr).2,(hf ob hfr).1.trans hd⟩
 ·exact⟨ob,(Heap.get?_update_other _ f hx).trans e,hd⟩
theorem Keeps.new{o:Obj}:Keeps (DictIs x d) (alloc o):=fun _ _ _ _ _ s h q=>by
 obtain⟨ob,e,hd⟩:=h
 exact⟨q,ob,Heap.get?_push_of_some _ e,hd⟩
theorem Keeps.flds{v:Value}:Keeps P (fieldsOf v):=by
 unfold fieldsOf
 split
 ·refine Keeps.then (Keeps.ld _) fun o=>?_
  split
  ·exact Keeps.ret _
  ·exact Keeps.no _
 ·exact Keeps.no _
theorem Keeps.fld{v:Value}{i:Nat}:Keeps P (field v i):=by
 unfold field
 refine Keeps.then Keeps.flds fun vs=>?_
 split
 ·exact Keeps.ret _
 ·exact Keeps.no _
theorem Keeps.setF{v u:Value}{i:Nat}:Keeps (DictIs x d) (setField v i u):=by
 unfold setField
 split
 ·unfold updateField
  refine Keeps.then (Keeps.ld _) fun o=>?_
  split
  ·refine Keeps.ite (Keeps.up fun o ho=>?_) (Keeps.no _)
   obtain⟨c,dd,dt,sl⟩:=o
   cases dt<;>exact⟨rfl,ho⟩
  ·exact Keeps.no _
 ·exact Keeps.no _
theorem Keeps.flight{e:Value}{f:Option Addr}:Keeps (DictIs x d) (setFlight e f):=by
 unfold setFlight
 exact Keeps.then Keeps.fld fun tb=>Keeps.ite Keeps.setF (Keeps.ret _)
theorem Keeps.ready:∀l:List Env,Keeps (DictIs x d) (readyFrames l)
 |[]=>Keeps.ret _
 |env::outer=>by
  unfold readyFrames
  split
  ·refine Keeps.then (Keeps.ld _) fun o=>Keeps.ite (Keeps.ret _) (Keeps.then ?_ fun im=>Keeps.then ?_ fun bk=>Keeps.then (Keeps.up fun o ho=>⟨rfl,by obtain⟨c,dd,dt,sl⟩:=o;cases dt<;>first|rfl|exact ho⟩) fun _=>Keeps.ready outer)
   ·unfold behindIsImport
    exact Keeps.ite (Keeps.ret _) (Keeps.ite (Keeps.ret _) (Keeps.then Keeps.fld fun _=>Keeps.ret _))
   ·cases outer with
    |nil =>
     unfold keptBack
     refine Keeps.ite (Keeps.ret _) (Keeps.then ?_ fun _=>Keeps.ret _)
     unfold underTheClaimsCaller
     exact Keeps.then Keeps.stk fun _=>Keeps.ret _
    |cons c r=>exact Keeps.ret _
  ·exact Keeps.no _
theorem Keeps.frame{env:Env}:Keeps (DictIs x d) (PySem.frameOf env):=by
 unfold PySem.frameOf
 refine Keeps.then (Keeps.then Keeps.stk fun _=>Keeps.ret _) fun l=>Keeps.then ?_ fun r=>?_
 ·generalize l.dropWhile (fun y=>y.frame != env.frame)=l2
  cases l2 with
  |nil=>exact Keeps.ret _
  |cons e r=>exact Keeps.then (Keeps.ready (e::r)) fun _=>Keeps.ret _
 ·split
  ·exact Keeps.ret _
  ·exact Keeps.no _
theorem Keeps.entry{a b c e f:Value}{pl:List Value}:Keeps (DictIs x d) (EntryCells.newEntry a b c e f pl):=by
 unfold EntryCells.newEntry newFields newObj
 have st:∀(dt:Data) (dd:Option Addr),Keeps (DictIs x d) (newObjAsIs (.type "traceback") dt dd):=fun dt dd=>by
  unfold newObjAsIs
  exact Keeps.then Keeps.new fun a=>Keeps.ret _
 exact Keeps.ite (Keeps.then (Keeps.no _) fun _=>st _ _) (st _ _)
theorem Keeps.note{e:Value}{env:Env}:Keeps (DictIs x d) (noteFrame e env):=by
 unfold noteFrame
 split
 ·rename_i fr _
  refine Keeps.then Keeps.fld fun hd=>?_
  have go:Keeps (DictIs x d) (do setField e 1 (←EntryCells.newEntry hd (←PySem.frameOf env) .none (rawInt fr) .none (←entryPlaceOf fr (hd != .none)))) :=
   Keeps.then Keeps.frame fun _=>Keeps.then (by
    unfold entryPlaceOf
    refine Keeps.then Keeps.stk fun _=>?_
    split
    ·exact Keeps.ret _
    ·exact Keeps.ret _) fun _=>Keeps.then Keeps.entry fun _=>Keeps.setF
  exact Keeps.ite (Keeps.then Keeps.fld fun _=>Keeps.ite (Keeps.ret _) (Keeps.then Keeps.setF fun _=>go)) go
 ·exact Keeps.no _
theorem Keeps.leave{e:Value}{env:Env}:Keeps (DictIs x d) (leaving env e):=by
 unfold leaving
 exact Keeps.then Keeps.note fun _=>Keeps.flight
end
end L2
namespace L2
open PySem PySem.Spec PyProof.Rows
section
variable{P:Program}{w:World}
theorem ObjOk.there{H:Hp}{h:Heap}{a:Addr}{o:HO}(x:ObjOk P w H h a o):∃u,h.get? a=some u:=by
 cases o with
 |lst xs=>obtain⟨_,_,_,_,e⟩:=x;exact⟨_,e⟩
 |tup xs=>obtain⟨_,_,_,ob,e,_⟩:=x;exact⟨_,e⟩
 |dK kvs=>obtain⟨_,_,_,_,o,_,_,e,_⟩:=x;exact⟨_,e⟩
 |dT kvs=>obtain⟨_,_,_,_,o,_,_,e,_⟩:=x;exact⟨_,e⟩
 |set S n=>obtain⟨o,_,_,_,e,_⟩:=x;exact⟨_,e⟩
 |ins C dx fs=>obtain⟨_,_,_,e,_⟩:=x;exact⟨_,e⟩
 |own y=>exact x
 |xd fs=>obtain⟨_,⟨_,_,_,e,_⟩,_⟩:=x;exact⟨_,e⟩
 |rng lo hi=>obtain⟨_,_,_,e⟩:=x;exact⟨_,e⟩
 |frz ob u=>obtain⟨e,_⟩:=x;exact⟨_,e⟩
 |tbl ps=>obtain⟨_,e,_⟩:=x;exact⟨_,e⟩
 |cod q=>obtain⟨_,_,_,_,e0,e,_⟩:=x;cases e0;exact⟨_,e⟩
 |cel v=>obtain⟨_,_,_,e,_⟩:=x;exact⟨_,e⟩
 |fnc fd=>obtain⟨_,_,_,e⟩:=x;exact⟨_,e⟩
 |met f y=>exact⟨_,(show h.get? a=some _ from x)⟩
 |ext φ=>obtain⟨_,e,_⟩:=x;exact e
structure Fly(P:Program)(w:World)(outer:List Env)(H:Hp)(s:Shared)(x:Addr)(cls:Value)(H':Hp)(s':Shared):Prop where
 os:s'.os=s.os
 bare:AllBare s'.gens
 un:Un (frs outer) [] H H' s.heap s'.heap
 hok:HOk P w H' s'.heap
 fl:∃B a0,Heap.FlyingW B outer x cls a0 s'.heap∧(∀b o,H' b=some o→∃u,B.get? b=some u)∧∀b o,s.heap.get? b=some o→b∉frs outer→∃u,B.get? b=some u
 free:H' x=none
def CX1(P:Program)(w:World):CXT:=fun outer H s E e s'=>∃x cls d H',e=.ref x∧Fly P w outer H s x cls H' s'∧DictIs x d s'∧E cls d H'
end
section
variable{X:Cx}{pins:List (Addr × Obj)}{σ:St}{H H':Hp}{s s':Shared}{x:Addr}{cls:Value}{E:Value→Shared→Prop}{Q:Unit→Shared→Prop}
theorem Inv.notSt(I:Inv X pins σ H s){b:Addr}(h1:b≠X.env.locals)(h2:b∉X.fs):b∉frs X.stack:=fun z=>(List.mem_cons.mp (I.stkSub b z)).elim h1 h2
theorem Inv.oldL(I:Inv X pins σ H s){b:Addr}{o:Obj}(e:X.s₀.heap.get? b=some o):b≠X.env.locals:=Nat.ne_of_lt (Nat.lt_of_lt_of_le (Heap.lt_size e) I.ok.above)
theorem Fly.leave(I:Inv X pins σ H s)(hst:X.stack=X.env::X.outer)(hfr:X.env.frame=some X.env.locals)(hex:X.ex=[])(f:Fly X.prog X.w X.stack H s x cls H' s'){d:Option Addr}(hdi:DictIs x d s')
  (hQ:∀s'',Fly X.prog X.w X.outer X.H₀ X.s₀ x cls H' s''→DictIs x d s''→Q () s''):wpAny (model X.prog X.w) X.A (leaving X.env (.ref x)) Q E s':=by
 refine wpAny_mono (Keeps.leave.wpAny (E:=E) (Q:=fun _ s''=>Fly X.prog X.w X.outer X.H₀ X.s₀ x cls H' s'') hdi ?_) (fun _ s'' z=>hQ s'' z.1 z.2) fun _ _ z=>z.1
 obtain⟨B,a0,fl,c1,c2⟩:=f.fl
 rw [hst] at fl
 have nx:∀b:Addr,b∉X.ex:=fun b=>by rw [hex];simp
 refine wpAny_leaves_onW (by rw [I.ok.frames,hst]) hfr fl fun h' fl' up=>?_
 have st:∀b o,B.get? b=some o→h'.get? b=some o:=fl'.1
 have same:∀b u v,B.get? b=some u→s'.heap.get? b=some v→u=v:=fun b u v h1 h2=>by
  have h3:=fl.1 b u h1
  rw [h2] at h3
  exact(Option.some.inj h3).symm
 have slot:∀b o,X.s₀.heap.get? b=some o→X.H₀ b=none→b∈X.fs→∃sl,h'.get? b=some { o with slots:=sl }:=fun b o e n hb=>by
  obtain⟨sl,e1⟩:=I.base.slot b o e n hb (nx b)
  obtain⟨sl2,e2⟩:=f.un.any e1 (I.base.free b o e n (nx b)) (by simp)
  obtain⟨_,of,ho,hnf⟩:=I.ok.funs.mem hb
  rw [e] at ho
  cases ho
  obtain⟨sl3,e3⟩:=up b _ e2 hnf
  exact⟨sl3,e3⟩
 refine⟨f.os.trans I.os,f.bare,⟨fun b o e n hb _=>?_,fun b o e n hb _=>slot b o e n hb,fun b o e n _=>?_,fun b o e _=>?_,fun b xs e=>f.un.tups b xs (I.base.tups b xs e),fun b o u e=>f.un.frzs b o u (I.base.frzs b o u e),fun b ps e=>?_⟩,fun a o e=>?_,⟨B,a0,fl',c1,fun b o e hb=>?_⟩,f.free⟩
 ·have e1:=I.base.keep b o e n hb (nx b)
  have n1:=I.base.free b o e n (nx b)
  have hb':=I.notSt (I.oldL e) hb
  have e2:=f.un.keep b o e1 n1 hb' (by simp)
  obtain⟨u,hu⟩:=c2 b o e1 hb'
  exact same b u o hu e2▸st b u hu
 ·obtain⟨o',e1⟩:=I.base.there b o e (nx b)
  exact f.un.free b o' e1 (I.base.free b o e n (nx b)) (by simp)
 ·by_cases hb:b∈X.fs
  ·obtain⟨sl,e1⟩:=slot b o e (I.ok.frf b hb) hb
   exact⟨_,e1⟩
  ·obtain⟨o',e1⟩:=I.base.there b o e (nx b)
   obtain⟨u,hu⟩:=c2 b o' e1 (I.notSt (I.oldL e) hb)
   exact⟨u,st b u hu⟩
 ·obtain⟨m1,e1⟩:=I.base.tbls b ps e
  obtain⟨m2,e2⟩:=f.un.tbls b _ e1
  exact⟨m1++m2,by rw [e2,Array.append_assoc]⟩
 ·refine(f.hok a o e).stay (fun b u hb q=>?_) (fun _ q=>q) fun _ _ q=>q
  have t:∃o',H' b=some o':=by
   rcases hb with z|z
   ·exact⟨o,by rw [z];exact e⟩
   ·exact⟨_,z⟩
  obtain⟨o',e'⟩:=t
  obtain⟨v,hv⟩:=c1 b o' e'
  exact same b v u hv q▸st b v hv
 ·obtain⟨o',e1⟩:=I.base.there b o e (nx b)
  exact c2 b o' e1 (I.notSt (I.oldL e) hb)
theorem Fly.first{oe:Obj}{vs:Array Value}{a0:Value}(I:Inv X pins σ H s)(hst:X.stack=X.env::X.outer)(hfr:X.env.frame=some X.env.locals)(hex:X.ex=[])(hx:s.heap.get? x=some oe)(hcl:oe.cls=cls)(hdt:oe.data=.fields vs)
  (h1:vs[1]?=some .none) (h0:vs[0]?=some a0) (hn:X.s₀.heap.get? x=none) (hH:H x=none)
  (hQ:∀s'',Fly X.prog X.w X.outer X.H₀ X.s₀ x cls H s''→DictIs x oe.dict s''→Q () s''):wpAny (model X.prog X.w) X.A (leaving X.env (.ref x)) Q E s:=by
 have nx:∀b:Addr,b∉X.ex:=fun b=>by rw [hex];simp
 refine wpAny_mono (Keeps.leave.wpAny (E:=E) (Q:=fun _ s''=>Fly X.prog X.w X.outer X.H₀ X.s₀ x cls H s'') ⟨oe,hx,rfl⟩ ?_) (fun _ s'' z=>hQ s'' z.1 z.2) fun _ _ z=>z.1
 have hl:s.heap.FunFrames (PySem.W.hideAll s.heap (x::frs X.stack)) (X.env::X.outer) :=
  PySem.W.funFrames_hide (base:=X.base) (by rw [←hst];exact I.stack) fun env he a hf=>by
   rw [hst]
   exact .tail _ (List.mem_filterMap.mpr ⟨env,he,hf⟩)
 have hen:(PySem.W.hideAll s.heap (x::frs X.stack)).get? x=none:=PySem.W.hideAll_none _ (.head _)
 refine wpAny_leaving_firstW (a0:=a0) (by rw [I.ok.frames,hst]) hl hfr hx (fun b o q=>PySem.W.of_hideAll _ q) hen hdt h1 h0 fun h' hL=>?_
 obtain⟨k1,⟨_,_,k2⟩,k3,up⟩:=hL
 rw [hcl] at k3
 have st:∀b o,s.heap.get? b=some o→b∉frs X.stack→b≠x→h'.get? b=some o:=fun b o e hb hbx=>k1 b o (PySem.W.hideAll_get _ e fun z=>(List.mem_cons.mp z).elim hbx hb)
 have old:∀b o,X.s₀.heap.get? b=some o→b≠x:=fun b o e z=>by rw [z,hn] at e;cases e
 have slot:∀b o,X.s₀.heap.get? b=some o→X.H₀ b=none→b∈X.fs→∃sl,h'.get? b=some { o with slots:=sl }:=fun b o e n hb=>by
  obtain⟨sl,e1⟩:=I.base.slot b o e n hb (nx b)
  obtain⟨_,of,ho,hnf⟩:=I.ok.funs.mem hb
  rw [e] at ho
  cases ho
  obtain⟨sl3,e3⟩:=up b _ e1 hnf
  exact⟨sl3,e3⟩
 have trk:∀b o,H b=some o→b∉frs X.stack∧b≠x:=fun b o e=>⟨fun z=>(by rw [I.stkFree b z] at e;cases e),fun z=>(by rw [z,hH] at e;cases e)⟩
 refine⟨I.os,I.bare,⟨fun b o e n hb _=>st b o (I.base.keep b o e n hb (nx b)) (I.notSt (I.oldL e) hb) (old b o e),fun b o e n hb _=>slot b o e n hb,fun b o e n _=>I.base.free b o e n (nx b),fun b o e _=>?_,I.base.tups,I.base.frzs,I.base.tbls⟩,fun a o e=>?_,⟨_,_,⟨k1,hen,k2,k3⟩,fun b o e=>?_,fun b o e hb=>?_⟩,hH⟩
 ·by_cases hb:b∈X.fs
  ·obtain⟨sl,e1⟩:=slot b o e (I.ok.frf b hb) hb
   exact⟨_,e1⟩
  ·obtain⟨o',e1⟩:=I.base.there b o e (nx b)
   exact⟨o',st b o' e1 (I.notSt (I.oldL e) hb) (old b o e)⟩
 ·refine(I.hok a o e).stay (fun b u hb q=>?_) (fun _ q=>q) fun _ _ q=>q
  have hb':∃o',H b=some o':=by
   rcases hb with z|z
   ·exact⟨o,by rw [z];exact e⟩
   ·exact⟨_,z⟩
  obtain⟨o',e'⟩:=hb'
  exact st b u q (trk b o' e').1 (trk b o' e').2
 ·obtain⟨u,hu⟩:=(I.hok b o e).there
  exact⟨u,PySem.W.hideAll_get _ hu fun z=>(List.mem_cons.mp z).elim (trk b o e).2 (trk b o e).1⟩
 ·obtain⟨o',e1⟩:=I.base.there b o e (nx b)
  exact⟨o',PySem.W.hideAll_get _ e1 fun z=>(List.mem_cons.mp z).elim (old b o e) (I.notSt (I.oldL e) hb)⟩
theorem Fly.made{h1:Heap}{vs:List Value}(I:Inv X pins σ H s)(hst:X.stack=X.env::X.outer)(hfr:X.env.frame=some X.env.locals)(hex:X.ex=[])(hx:Heap.MadeExcOf s.heap h1 x cls vs)
  (hQ:∀s'',Fly X.prog X.w X.outer X.H₀ X.s₀ x cls H s''→DictIs x none s''→Q () s''):wpAny (model X.prog X.w) X.A (leaving X.env (.ref x)) Q E { s with heap:=h1 }:=by
 obtain⟨t,he,_,_⟩:=hx.there
 have I1:Inv X pins σ H { s with heap:=h1 }:=I.kept hx.keeps
 refine Fly.first I1 hst hfr hex he rfl rfl rfl rfl ?_ ?_ hQ
 ·cases q:X.s₀.heap.get? x with
  |none=>rfl
  |some o =>
   obtain⟨u,hu⟩:=I.base.there x o q (by rw [hex];simp)
   have:=hx.new
   rw [hu] at this
   cases this
 ·cases q:H x with
  |none=>rfl
  |some o =>
   obtain⟨u,hu⟩:=(I.hok x o q).there
   have:=hx.new
   rw [hu] at this
   cases this
end
section
variable{P:Program}{w:World}{K:PySem.W.Frag}{mg:Str→Option Value}{base:Heap}{N:List Str}{qual:Str}{scope:Scope}{f:Addr}{cd:Value}{A:Around}{outer:List Env}{s:Shared}{H:Hp}{E:XK}
theorem pass1:Passes (CX1 P w) (cxOf (CX1 P w) P w K mg base N qual scope f cd A outer s H E) E:=fun pins σ H1 s1 e s' I h=>by
 obtain⟨x,cls,d,H',rfl,fl,hd,hE⟩:=h
 exact Fly.leave I rfl rfl rfl fl hd fun s'' g gd=>⟨x,cls,d,H',rfl,g,gd,hE⟩
end
theorem ownExc_of{K:PySem.W.Frag}{h:Heap}{mg:Str→Option Value}{c:Str}{C:Addr}{bmB:List Value}{newId:String}(kin:K.In h)(hm:mg c=some (.ref C))(q:PySem.W.excIn K C bmB newId=true):OwnCls c C bmB newId mg h:=by
 refine⟨hm,?_⟩
 unfold PySem.W.excIn at q
 split at q
 next ddx cdx slx look =>
  split at q
  next C2 tl z0 z1 z2 z3 nn z5 hmro hsl =>
   simp only [Bool.not_eq_true',Bool.and_eq_true,beq_iff_eq] at q
   obtain⟨⟨⟨⟨⟨e1,e2⟩,hdel⟩,htl⟩,hok⟩,hni⟩:=q
   obtain⟨nm,bs,mro,ns,qn,hd,sn,sub,ab,col,del⟩:=cdx
   obtain⟨sll⟩:=slx
   dsimp only at hmro hdel hok hni hsl
   subst e1 e2 hmro hdel hsl
   exact⟨tl,ns,nm,qn,bs,hd,sn,sub,ab,col,ddx,z0,z1,z2,z3,z5,_,kin _ _ look,.of_isNs (PySem.W.isNs_of_in kin hok),PySem.W.nsMap_none_of_in kin hok hni,PySem.W.tail_of_in kin htl⟩
  next=>cases q
 next=>cases q
abbrev bmVE:List Value:=[.type "ValueError",.type "Exception",.type "BaseException",.type "object"]
theorem ps_raise{X:Cx}{c:Str}{C:Addr}{e₀:Expr}{es:List Expr}{np cpos pos:Pos}{ta:TA}{W:St→Hp→Prop}(hc:X.calm=true)(hg:Gl X c)(hm:X.mg c=some (.ref C)) (q:PySem.W.excIn X.K C bmVE "ValueError.__new__"=true)
  (ha:PA X (e₀::es) ta) (hW:∀(pins:List (Addr × Obj)) (σ:St) (H:Hp) (s:Shared) (e:Addr) (h1:Heap) (vs:List Value),Inv X pins σ H s→W σ H→Heap.MadeExcOf s.heap h1 e (.ref C) vs→X.xe (.ref e) { s with heap:=h1 })
  (hd:(c==("__debug__":Str))=false:=by decide) (he:starEach (e₀::es) X.env=(false,eval e₀ X.env)::starEach es X.env:=by rfl) (hpl:(backTo cpos (starEach es X.env)).any (·.1)=false:=by rfl) :
  PS X (.Raise (some (.Call (.Name c np) (e₀::es) [] cpos)) none pos) (fun _ σ H=>ta σ H fun vs H1=>vs.length≤sizeLine∧W σ H1):=by
 intro pins s σ H D I h
 obtain⟨tl,N,nm,qq,bs,hdct,sn,sub,ab,col,dd,k0,k1,k2,k3,k5,mN,hC,hN,hni,T⟩:=(ownExc_of I.mod.kin hm q).obj
 refine wpAny_Raise_call_subU (C:=C) (nm:=nm) (q:=qq) (N:=N) (bs:=bs) (bm:=tl) (hdct:=hdct) (sn:=sn) (sub:=sub) (ab:=ab) (col:=col) (dd:=dd) (k0:=k0) (k1:=k1) (k2:=k2) (k3:=k3) (k5:=k5)
  PySem.F.excBase_ValueError (by decide +kernel) PySem.F.excBase_ValueError (mN:=mN) (T.hasType PySem.F.excBase_ValueError.hasBase) (I.ok.hd hc) ?_ hni (ld_glob I hg hm ⟨rfl,?_⟩ hd)
 ·rw [he]
  show(false||(backTo cpos (starEach es X.env)).any (·.1))=false
  rw [hpl]
  rfl
 ·have h2:=ha cpos pins s σ H _ I h
  rw [he] at h2 ⊢
  refine Calls.evalArgs_plain (wpAny_mono h2 (fun us s2 ⟨vs,H1,I1,rv,hl,hw⟩=>⟨rfl,?_,I1.bk _ _ hC,hN.keeps I1.bk,T.keeps I1.bk,fun h' e hx=>hW pins σ H1 s2 e h' us I1 hw hx⟩) fun _ _ z=>z)
  rw [←rv.length]
  exact hl
section
variable{P:Program}{w:World}{K:PySem.W.Frag}{mg:Str→Option Value}{base:Heap}
theorem ps_raise1{N:List Str}{qual:Str}{scope:Scope}{f:Addr}{cd:Value}{A:Around}{outer:List Env}{s:Shared}{H:Hp}{E:XK}{c:Str}{C:Addr}{e₀:Expr}{es:List Expr}{np cpos pos:Pos}{ta:TA}
  (hg:Gl (cxOf (CX1 P w) P w K mg base N qual scope f cd A outer s H E) c) (hm:mg c=some (.ref C)) (q:PySem.W.excIn K C bmVE "ValueError.__new__"=true) (ha:PA (cxOf (CX1 P w) P w K mg base N qual scope f cd A outer s H E) (e₀::es) ta)
  (hd:(c==("__debug__":Str))=false:=by decide) (he:starEach (e₀::es) (envOfC qual scope s.heap.objs.size f cd)=(false,eval e₀ (envOfC qual scope s.heap.objs.size f cd))::starEach es (envOfC qual scope s.heap.objs.size f cd):=by rfl)
  (hpl:(backTo cpos (starEach es (envOfC qual scope s.heap.objs.size f cd))).any (·.1)=false:=by rfl) :
  PS (cxOf (CX1 P w) P w K mg base N qual scope f cd A outer s H E) (.Raise (some (.Call (.Name c np) (e₀::es) [] cpos)) none pos) (fun _ σ H=>ta σ H fun vs H1=>vs.length≤sizeLine∧E (.ref C) none H1) :=
 ps_raise (X:=cxOf (CX1 P w) P w K mg base N qual scope f cd A outer s H E) (W:=fun _ H1=>E (.ref C) none H1) rfl hg hm q ha (fun pins σ H s e h1 vs I hw hx=>Fly.made I rfl rfl rfl hx fun s'' g gd=>⟨e,.ref C,none,H,rfl,g,gd,hw⟩) hd he hpl
theorem Fun.okX{x qual:Str}{st:Stmt}{f:Addr}{fd:FuncData}{N ps:List Str}{k:Nat}{sp:Sp}(F:Fun K x qual st f fd)(S:FnScope N ps (defScope st))(len:∀vs H Q E,sp vs H Q E→vs.length=ps.length)
  (hbody:∀(cdv:Value) (A:Around) (outer:List Env) (s:Shared) (H:Hp) (vs:List V) (Q:VK) (E:XK),Room k (A.deeper (envOfC qual (defScope st) s.heap.objs.size f cdv))→sp vs H Q E →
   ∃t,PSs (cxOf (CX1 P w) P w K mg base N qual (defScope st) f cdv A outer s H E) (defBody st) t∧t { nx:=fun _ H'=>Q .non H',rt:=Q } (start N vs) H):FnOk P w K mg base (CX1 P w) (k+1) f fd ps sp:=by
 obtain⟨oc,od,kV,doc,pm,an,cdv,ct,osl,rfl,lk,hcd⟩:=F.ex
 exact fn_of lk hcd S len fun A outer s H vs Q E hr hsp=>hbody cdv A outer s H vs Q E hr hsp
end
end L2
namespace L2
open PySem PySem.Spec PyProof.Rows
section
variable{X:Cx}{pins:List (Addr × Obj)}{σ:St}{H H':Hp}{s s':Shared}{x:Addr}{cls:Value}
theorem Fly.on{h':Heap}(f:Fly X.prog X.w X.stack H s x cls H' s')(I:Inv X pins σ H s){B:Heap}{a0 a1:Value}(fl:Heap.FlyingW B X.stack x cls a0 s'.heap)(c1:∀b o,H' b=some o→∃u,B.get? b=some u)
  (c2:∀b o,s.heap.get? b=some o→b∉frs X.stack→∃u,B.get? b=some u) (fl':Heap.FlyingW B X.stack x cls a1 h') (up:s'.heap.UpToSlots h'):Fly X.prog X.w X.stack H s x cls H' { s' with heap:=h' }:=by
 have st:∀b o,B.get? b=some o→h'.get? b=some o:=fl'.1
 have same:∀b u v,B.get? b=some u→s'.heap.get? b=some v→u=v:=fun b u v h1 h2=>by
  have h3:=fl.1 b u h1
  rw [h2] at h3
  exact(Option.some.inj h3).symm
 have slot:∀b o,s.heap.get? b=some o→H b=none→b∈frs X.stack→∃sl,h'.get? b=some { o with slots:=sl }:=fun b o e n hb=>by
  obtain⟨sl2,e2⟩:=f.un.any e n (by simp)
  obtain⟨_,of,ho,hnf⟩:=I.stack.mem hb
  rw [e] at ho
  cases ho
  obtain⟨sl3,e3⟩:=up b _ e2 hnf
  exact⟨sl3,e3⟩
 refine⟨f.os,f.bare,⟨fun b o e n hb _=>?_,fun b o e n hb _=>slot b o e n hb,f.un.free,fun b o e _=>?_,f.un.tups,f.un.frzs,f.un.tbls⟩,fun a o e=>?_,⟨B,a1,fl',c1,c2⟩,f.free⟩
 ·have e2:=f.un.keep b o e n hb (by simp)
  obtain⟨u,hu⟩:=c2 b o e hb
  exact same b u o hu e2▸st b u hu
 ·by_cases hb:b∈frs X.stack
  ·obtain⟨sl,e1⟩:=slot b o e (I.stkFree b hb) hb
   exact⟨_,e1⟩
  ·obtain⟨u,hu⟩:=c2 b o e hb
   exact⟨u,st b u hu⟩
 ·refine(f.hok a o e).stay (fun b u hb q=>?_) (fun _ q=>q) fun _ _ q=>q
  have t:∃o',H' b=some o':=by
   rcases hb with z|z
   ·exact⟨o,by rw [z];exact e⟩
   ·exact⟨_,z⟩
  obtain⟨o',e'⟩:=t
  obtain⟨v,hv⟩:=c1 b o' e'
  exact same b v u hv q▸st b v hv
theorem Fly.inv(f:Fly X.prog X.w X.stack H s x cls H' s')(I:Inv X pins σ H s):Inv X pins σ H' s':=I.call' (ch:=[]) f.os f.un f.hok f.bare fun b z=>absurd z (by simp)
theorem Fly.there(f:Fly X.prog X.w X.stack H s x cls H' s'):∃ob,s'.heap.get? x=some ob∧ob.cls=cls:=by
 obtain⟨B,a0,fl,_⟩:=f.fl
 exact fl.there
theorem Fly.again{A:Around}{E:Value→Shared→Prop}{Q:Unit→Shared→Prop}(f:Fly X.prog X.w X.stack H s x cls H' s')(I:Inv X pins σ H s){d:Option Addr}(hdi:DictIs x d s')(hQ:∀s'',Fly X.prog X.w X.stack H s x cls H' s''→DictIs x d s''→Q () s'') :
  wpAny (model X.prog X.w) A (setFlight (.ref x) none) Q E s':=by
 refine wpAny_mono (Keeps.flight.wpAny (E:=E) (Q:=fun _ s''=>Fly X.prog X.w X.stack H s x cls H' s'') hdi ?_) (fun _ s'' z=>hQ s'' z.1 z.2) fun _ _ z=>z.1
 obtain⟨B,a0,fl,c1,c2⟩:=f.fl
 exact lands_againW fl fun h' fl' up=>f.on I fl c1 c2 fl' up
theorem Fly.look{E E2:Value→Shared→Prop}{Q:Unit→Shared→Prop}(f:Fly X.prog X.w X.stack H s x cls H' s')(I:Inv X pins σ H s)(hst:X.stack=X.env::X.outer)(hfr:X.env.frame=some X.env.locals){d:Option Addr}(hdi:DictIs x d s')
  (hQ:∀s'',Fly X.prog X.w X.stack H s x cls H' s''→DictIs x d s''→Q () s''):wpAny (model X.prog X.w) X.A (noteFrame (.ref x) X.env) (fun _ s2=>wpAny (model X.prog X.w) X.A (setFlight (.ref x) none) Q E2 s2) E s':=by
 obtain⟨B,a0,fl,c1,c2⟩:=f.fl
 have fl0:=fl
 rw [hst] at fl
 refine wpAny_mono (Keeps.note.wpAny (E:=E) (Q:=fun _ s2=>wpAny (model X.prog X.w) X.A (setFlight (.ref x) none) (fun _ s''=>Fly X.prog X.w X.stack H s x cls H' s'') E2 s2) hdi ?_) (fun _ s2 z=>?_) fun _ _ z=>z.1
 ·refine wpAny_looks_onW (by rw [I.ok.frames,hst]) hfr fl fun h' hd up=>?_
  refine wpAny_landsW hd fun h2 fl2 up2=>?_
  rw [←hst] at fl2
  exact f.on I fl0 c1 c2 fl2 (up.trans up2)
 ·exact wpAny_mono (Keeps.flight.wpAny z.2 z.1) (fun _ s'' y=>hQ s'' y.1 y.2) fun _ _ y=>y.1
end
abbrev Cx.inE(X:Cx)(e:Addr):Cx:={ X with A:=X.A.mark (some (.ref e)),calm:=false }
section
variable{X:Cx}{pins:List (Addr × Obj)}{σ:St}{H:Hp}{s:Shared}
theorem Cx.Ok.inE{e:Addr}(ok:X.Ok):(X.inE e).Ok:=⟨ok.mod,ok.kind,ok.glob,ok.blt,ok.above,ok.inj,ok.has,ok.cab,fun z=>absurd z (by simp),ok.frames,ok.stk,ok.exf,ok.bs,ok.bsz,ok.noex,ok.exfs,ok.funs,ok.frf⟩
theorem Inv.inE{e:Addr}(I:Inv X pins σ H s):Inv (X.inE e) pins σ H s:=⟨I.ok.inE,I.os,I.bare,I.base,I.loc,I.cell,I.free,I.freeC,I.pin,I.hok,I.len⟩
theorem Inv.outE{e:Addr}{E:Value→Shared→Prop}(ok:X.Ok)(I:Inv ((X.inE e).wish E) pins σ H s):Inv X pins σ H s:=⟨ok,I.os,I.bare,I.base,I.loc,I.cell,I.free,I.freeC,I.pin,I.hok,I.len⟩
theorem SP.outE{e:Addr}{E:Value→Shared→Prop}{D:Ends}{f:Flow}{s':Shared}(ok:X.Ok)(h:SP ((X.inE e).wish E) pins D f s'):SP X pins D f s':=by
 cases f with
 |next=>obtain⟨σ',H',I,q⟩:=h;exact⟨σ',H',I.outE ok,q⟩
 |brk=>obtain⟨σ',H',I,q⟩:=h;exact⟨σ',H',I.outE ok,q⟩
 |cont=>obtain⟨σ',H',I,q⟩:=h;exact⟨σ',H',I.outE ok,q⟩
 |ret u=>obtain⟨v,σ',H',I,r,q⟩:=h;exact⟨v,σ',H',I.outE ok,r,q⟩
end
abbrev TH:=Ends→Value→Option Addr→Addr→St→Hp→Prop
def PH(X:Cx)(hs:List ExceptHandler)(t:TH):Prop :=
 ∀(pins:List (Addr × Obj)) (σ:St) (H H':Hp) (s s':Shared) (D:Ends) (cls:Value) (d:Option Addr) (e:Addr),Inv X pins σ H s→Fly X.prog X.w X.stack H s e cls H' s'→DictIs e d s'→t D cls d e σ H' →
  wpAny (model X.prog X.w) X.A (handleBy (.ref e) X.env hs) (SP X pins D) X.xe s'
theorem ph_nil{X:Cx}:PH X [] (fun _ _ _ _ _ _=>False):=fun _ _ _ _ _ _ _ _ _ _ _ _ _ h=>h.elim
theorem ph_cons{X:Cx}{d:Str}{vd:Value}{np pos:Pos}{b₀:Stmt}{suite:List Stmt}{rest:List ExceptHandler}{th:TS}{tr:TH}(hg:Gl X d)(hm:X.mg d=some vd)(hb:∀e,PSs (X.inE e).nox (b₀::suite) th)(hr:PH X rest tr)
  (hd:(d==("__debug__":Str))=false:=by decide) :
  PH X (.ExceptHandler (some (.Name d np)) none (b₀::suite) pos::rest) (fun D cls dd e σ H=>∃b,PySem.W.exmOne X.K cls vd=some b∧if b=true then th D σ H else tr D cls dd e σ H):=by
 intro pins σ H H' s s' D cls dd e I f hdi h
 obtain⟨b,hx,h⟩:=h
 have I1:=f.inv I
 obtain⟨ob,hob,hcl⟩:=f.there
 have LT:PySem.W.Looks (model X.prog X.w) s'.heap (typeOf (.ref e)) cls:=by
  rw [←hcl]
  exact(PySem.W.Looks.ld hob).andThen .now
 refine wpAny_handleBy_cons (codeAny_handlers_test (Calls.Name_function_global I1.ok.kind hg (Calls.loadGlobal_global (by rw [I1.ok.glob];exact I1.mod.glob.keeps I1.bk) hm ?_) hd)) (by intro q;cases q)
 refine(PySem.W.exm_one I1.kIn LT hx).here ?_
 cases b with
 |false=>exact hr pins σ H H' s s' D cls dd e I f hdi h
 |true =>
  refine codeAny_handlers_suite (f.again I hdi fun s2 f2 _=>?_)
  have I2:=(f2.inv I).inE (e:=e)
  exact wpAny_mono (hb e pins s2 σ H' D (I2.wish _) h) (fun fl s3 q=>SP.outE I1.ok q) fun _ _ z=>False.elim z
def etry(X:Cx)(hs:List ExceptHandler)(pins:List (Addr × Obj))(D:Ends):Value→Shared→Prop:=fun e s1 =>
 wpAny (model X.prog X.w) X.A (noteFrame e X.env) (fun _ s2=>wpAny (model X.prog X.w) X.A (setFlight e none) (fun _ s3=>wpAny (model X.prog X.w) X.A (handleBy e X.env hs) (SP X pins D) X.xe s3) X.xe s2) X.xe s1
abbrev Cx.tryIn(X:Cx)(hs:List ExceptHandler)(pins:List (Addr × Obj))(D:Ends):Cx:={ X with pn:=X.pn++pins,xe:=etry X hs pins D }
section
variable{X:Cx}{hs:List ExceptHandler}{pins pins':List (Addr × Obj)}{D D':Ends}{σ:St}{H:Hp}{s:Shared}
theorem Cx.Ok.tryIn(ok:X.Ok):(X.tryIn hs pins D).Ok:=⟨ok.mod,ok.kind,ok.glob,ok.blt,ok.above,ok.inj,ok.has,ok.cab,ok.hd,ok.frames,ok.stk,ok.exf,ok.bs,ok.bsz,ok.noex,ok.exfs,ok.funs,ok.frf⟩
theorem Cx.Ok.tryOut(ok:(X.tryIn hs pins D).Ok):X.Ok:=⟨ok.mod,ok.kind,ok.glob,ok.blt,ok.above,ok.inj,ok.has,ok.cab,ok.hd,ok.frames,ok.stk,ok.exf,ok.bs,ok.bsz,ok.noex,ok.exfs,ok.funs,ok.frf⟩
theorem Inv.tryIn(I:Inv X pins σ H s):Inv (X.tryIn hs pins D) [] σ H s:=⟨I.ok.tryIn,I.os,I.bare,I.base,I.loc,I.cell,I.free,I.freeC,fun p hp=>I.pin p (by simpa using hp),I.hok,I.len⟩
theorem Inv.tryOut(I:Inv (X.tryIn hs pins D) pins' σ H s):Inv X pins σ H s:=⟨I.ok.tryOut,I.os,I.bare,I.base,I.loc,I.cell,I.free,I.freeC,fun p hp=>I.pin p (List.mem_append_left _ hp),I.hok,I.len⟩
theorem SP.tryOut{f:Flow}{s':Shared}(h:SP (X.tryIn hs pins D') [] D f s'):SP X pins D f s':=by
 cases f with
 |next=>obtain⟨σ',H',I,q⟩:=h;exact⟨σ',H',I.tryOut,q⟩
 |brk=>obtain⟨σ',H',I,q⟩:=h;exact⟨σ',H',I.tryOut,q⟩
 |cont=>obtain⟨σ',H',I,q⟩:=h;exact⟨σ',H',I.tryOut,q⟩
 |ret u=>obtain⟨v,σ',H',I,r,q⟩:=h;exact⟨v,σ',H',I.tryOut,r,q⟩
end
theorem ps_try{X:Cx}{body:List Stmt}{h₀:ExceptHandler}{hs:List ExceptHandler}{pos:Pos}{tb:Ends→TS}(hb:∀pins D,PSs (X.tryIn (h₀::hs) pins D) body (tb D)):PS X (.Try body (h₀::hs) [] [] pos) (fun D σ H=>tb D D σ H):=by
 intro pins s σ H D I h
 refine wpAny_Try_except (wpAny_mono (hb pins D [] s σ H D I.tryIn h) (fun f s1 q=>?_) fun _ _ z=>z)
 have q':=SP.tryOut q
 cases f with
 |next=>exact wpAny_execs_nil q'
 |brk=>exact q'
 |cont=>exact q'
 |ret u=>exact q'
theorem passT{X:Cx}{hs:List ExceptHandler}{pins:List (Addr × Obj)}{D:Ends}{th:TH}(hst:X.stack=X.env::X.outer)(hfr:X.env.frame=some X.env.locals)(hh:PH X hs th) :
  ∀(pins':List (Addr × Obj)) (σ:St) (H:Hp) (s:Shared) (e:Value) (s':Shared),Inv (X.tryIn hs pins D) pins' σ H s→CX1 X.prog X.w X.stack H s (fun cls d H'=>∀x,H' x=none→th D cls d x σ H') e s'→(X.tryIn hs pins D).xe e s':=by
 intro pins' σ H s e s' I h
 obtain⟨x,cls,d,H',rfl,f,hdi,hE⟩:=h
 have I0:Inv X pins σ H s:=I.tryOut
 exact Fly.look f I0 hst hfr hdi fun s'' f2 d2=>hh pins σ H H' s s'' D cls d x I0 f2 d2 (hE x f.free)
section
variable{X:Cx}{CX:CXT}{k:Nat}{f C:Addr}{fd:FuncData}{ps:List Str}{sp:Sp}{dvs:List V}{ds:List Value}{E:St→XK}{x m:Str}{p pos apos:Pos}{e o:Expr}{es:List Expr}{ta:TE}{t:TA}
end
end L2
namespace L2
open PySem PySem.Spec PyProof.Rows
section
variable{X:Cx}{pos:Pos}{e:Expr}{es:List Expr}{te:TE}
abbrev TJ:=St→Hp→(Hp→Prop)→Prop
def PJ(X:Cx)(es:List Expr)(t:TJ):Prop :=
 ∀(pins:List (Addr × Obj)) (s:Shared) (σ:St) (H:Hp) (acc:Str) (Z:Hp→Prop),acc.length+2000000*es.length≤sizeLine→Inv X pins σ H s→t σ H Z →
  Joins (model X.prog X.w) X.A X.xe (evalEach es X.env) acc (fun out s1=>out.length≤sizeLine∧∃H1,Inv X pins σ H1 s1∧Z H1) s
theorem pj_nil:PJ X [] (fun _ H Z=>Z H):=fun _ _ _ H _ _ hz I h=>⟨Nat.le_trans (Nat.le_add_right _ _) hz,H,I,h⟩
theorem pj_cons{tj:TJ}(he:PE X e te)(hr:PJ X es tj):PJ X (e::es) (fun σ H Z=>te σ H fun v H1=>∃y:Str,v=.str y∧y.length≤2000000∧tj σ H1 Z):=by
 intro pins s σ H acc Z hz I h
 refine thn (he pins s σ H _ I h) fun u s1 ⟨v,H1,I1,r,y,hv,hy,q⟩=>?_
 subst hv
 obtain⟨t,rfl⟩:=r
 have e1:(acc++y).length=acc.length+y.length:=by
  show Array.size (acc.cps++y.cps)=_
  rw [Array.size_append]
  rfl
 have e2:(e::es).length=es.length+1:=rfl
 rw [e2] at hz
 refine⟨y,t,rfl,by omega,hr pins s1 σ H1 (acc++y) Z (by omega) I1 q⟩
theorem pe_fstr{v1 v2:Expr}{rest:List Expr}{tj:TJ}(hj:PJ X (v1::v2::rest) tj)(hl:(v1::v2::rest).length≤8) :
  PE X (.JoinedStr (v1::v2::rest) pos) (fun σ H Q=>tj σ H fun H1=>∀z:Str,z.length≤sizeLine→Q (.str z) H1):=by
 intro pins s σ H Q I h
 have hz:Str.empty.length+2000000*(v1::v2::rest).length≤sizeLine:=by
  have e0:Str.empty.length=0:=rfl
  rw [sizeLine_eq,e0]
  rw [Nat.zero_add]
  exact Nat.le_trans (Nat.mul_le_mul_left _ hl) (Nat.le_of_ble_eq_true rfl)
 refine wpAny_JoinedStr ?_
 have j:=hj pins s σ H Str.empty _ hz I h
 exact joins_mono _ _ (fun out s1 ⟨h1,H1,I1,q⟩=>⟨h1,.str out,H1,I1.tok _,⟨_,rfl⟩,q out h1⟩) _ j
where joins_mono {M:Model} {A:Around} {E:Value→Shared→Prop}:∀(parts:List (Sem Value)) (acc:Str) {Q Q':Str→Shared→Prop},(∀out s,Q out s→Q' out s)→∀s,Joins M A E parts acc Q s→Joins M A E parts acc Q' s
 |[],acc,_,_,hq,s,h=>hq _ _ h
 |x::rest,acc,_,_,hq,s,h=>thn (show wpAny _ _ _ _ _ _ from h) fun v s1 ⟨y,t,e1,e2,e3⟩=>⟨y,t,e1,e2,joins_mono rest (acc++y) hq s1 e3⟩
theorem pe_fv(he:PE X e te):PE X (.FormattedValue e (-1) none pos) (fun σ H Q=>te σ H fun v H1=>(∃y:Str,v=.str y∧y.length≤sizeLine∧Q (.str y) H1)∨∃i:Int,v=.int i∧i.natAbs.log2 < 1920∧Q (.str (toString i)) H1):=by
 intro pins s σ H Q I h
 refine FormattedValue_plain (thn (he pins s σ H _ I h) fun u s1 ⟨v,H1,I1,r,q⟩=>?_)
 rcases q with ⟨y,rfl,hy,q⟩|⟨i,rfl,hi,q⟩
 ·obtain⟨t,rfl⟩:=r
  exact formatField_str (fun t' tk=>⟨.str y,H1,I1.tok _,⟨_,rfl⟩,q⟩) hy
 ·obtain⟨t,rfl⟩:=r
  exact formatField_int_small hi ⟨.str _,H1,I1.tok _,⟨_,rfl⟩,q⟩
end
end L2
namespace L2
open PySem PySem.Spec PyProof.Rows
section
variable{prog:Program}{w:World}{A:Around}{s:Shared}{E:Value→Shared→Prop}{K:Type}[DecidableEq K]{knd:KeyKind prog w K}
end
section
variable{X:Cx}
theorem valV_nodup{kvs:List (Key × V)}(hn:(kvs.map (·.1)).Nodup):∀p∈kvs,valV kvs p.1=some p.2:=by
 intro p hp
 induction kvs with
 |nil=>cases hp
 |cons q r ih =>
  have hn:=List.nodup_cons.mp (List.map_cons▸hn)
  unfold valV
  rw [List.find?_cons]
  by_cases e:q.1=p.1
  ·have eq:q=p:=by
    rcases List.mem_cons.mp hp with z|z
    ·exact z.symm
    ·exact absurd (List.mem_map.mpr ⟨p,z,e.symm⟩) hn.1
   rw [decide_eq_true e,eq]<;>rfl
  ·rw [decide_eq_false e]
   have hp':p∈r:=(List.mem_cons.mp hp).resolve_left fun z=>e (by rw [z])
   exact ih hn.2 hp'
theorem call_dict_dK:CallR X (.type "dict") (fun xs H Q=>∃a kvs,xs=[.ref a]∧H a=some (.dK kvs)∧∀l,H l=none→Q (.ref l) (upd H l (.dK kvs))):=by
 intro pins s σ H xs us Q I r h
 obtain⟨a,kvs,rfl,ha,q⟩:=h
 obtain⟨u,rfl,ru⟩:=vals1 r
 cases ru
 obtain⟨z,hd,vs,rel,dd⟩:=dk_of I.hok ha
 refine PySem.kt_call_dict hd dd (by rw [←rel.length];exact z) fun h' dd' hs=>?_
 have keep:∀b o,s.heap.get? b=some o→h'.get? b=some o:=fun b o e=>(hs.2 b (Nat.ne_of_lt (Heap.lt_size e))).trans (Heap.get?_push_of_some _ e)
 refine⟨.ref s.heap.objs.size,_,I.laid (o:=.dK kvs) (t':=s.toks) keep (Nat.le_refl _) ⟨z,beq_eq_false_iff_ne.mpr (Ne.symm (Nat.ne_of_lt I.big)),vs,rel,dd'⟩,rfl,q _ (I.hok.fresh (Nat.le_refl _))⟩
theorem dK_nodup{pins:List (Addr × Obj)}{σ:St}{H:Hp}{s:Shared}{a:Addr}{kvs:List (Key × V)}(I:Inv X pins σ H s)(e:H a=some (.dK kvs)):(kvs.map (·.1)).Nodup:=by
 obtain⟨_,_,vs,rel,dd⟩:=dk_of I.hok e
 obtain⟨_,_,_,_,_,_,_,_,hn⟩:=dd
 have ek:∀{l:List (Key × V)} {m:List (Key × Value)},KV l m→l.map (·.1)=m.map (·.1):=fun {l m} p=>by
  unfold KV at p
  induction p with
  |nil=>rfl
  |cons h _ ih=>rw [List.map_cons,List.map_cons,ih,h.1]
 rw [ek rel]
 exact hn
end
end L2
namespace L2
open PySem PySem.Spec PyProof.Rows
structure ExcCls(K:PySem.W.Frag)(D:Addr):Prop where
 is:(match K.lookup D with|some ⟨_,_,.cls _,_⟩=>true|_=>false)=true
 ga:PySem.W.findIn K (.ref D) "__getattribute__"=some (some (.builtin "BaseException.__getattribute__"))
 gh:PySem.W.findIn K (.ref D) "__getattr__"=some none
 cl:PySem.W.findIn K (.ref D) "__class__"=some (some (.builtin "object.__class__"))
 sp:PySem.W.specialIn K (.builtin "object.__class__") "__get__"=some (some (.builtin "getset_descriptor.__get__"))
 tk:PySem.W.takesIn K (.builtin "object.__class__")=some true
 ob:PySem.W.mroIn K D (.type "object")=some true
 be:PySem.W.mroIn K D (.type "BaseException")=some true
section
variable{prog:Program}{w:World}{A:Around}{E:Value→Shared→Prop}{s:Shared}{K:PySem.W.Frag}{x D:Addr}
end
section
variable{X:Cx}
end
section
variable{X:Cx}{pins:List (Addr × Obj)}{σ:St}{H H':Hp}{s s':Shared}{x:Addr}{cls:Value}
def Ends.gone(D:Ends)(i:Nat):Ends:={ nx:=fun σ H=>D.nx (σ.set i none) H,rt:=D.rt,bk:=fun σ H=>D.bk (σ.set i none) H,ct:=fun σ H=>D.ct (σ.set i none) H }
end
end L2
namespace L2
open PySem PySem.Spec PyProof.Rows
structure FunD(K:PySem.W.Frag)(x qual:Str)(st:Stmt)(dV:Value)(f:Addr)(fd:FuncData):Prop where
 ex:∃(oc:Value) (od:Option Addr) (kV doc pm:Value) (an:Option Addr) (cdv ct:Value) (osl:Array (Option Value)),
  fd=PySem.W.fnOf x qual (defArgs st) (defBody st) (defScope st) dV kV doc pm an cdv ct∧K.lookup f=some ⟨oc,od,.func fd,osl⟩∧PySem.W.codeIn K cdv qual=true
 kp:PySem.W.keepIn K (.ref f)=true
section
variable{P:Program}{w:World}{K:PySem.W.Frag}{mg:Str→Option Value}{base:Heap}
theorem FunD.okX{x qual:Str}{st:Stmt}{dV:Value}{f:Addr}{fd:FuncData}{N ps:List Str}{k:Nat}{sp:Sp}(F:FunD K x qual st dV f fd)(S:FnScope N ps (defScope st))(len:∀vs H Q E,sp vs H Q E→vs.length=ps.length)
  (hbody:∀(cdv:Value) (A:Around) (outer:List Env) (s:Shared) (H:Hp) (vs:List V) (Q:VK) (E:XK),Room k (A.deeper (envOfC qual (defScope st) s.heap.objs.size f cdv))→sp vs H Q E →
   ∃t,PSs (cxOf (CX1 P w) P w K mg base N qual (defScope st) f cdv A outer s H E) (defBody st) t∧t { nx:=fun _ H'=>Q .non H',rt:=Q } (start N vs) H):FnOk P w K mg base (CX1 P w) (k+1) f fd ps sp:=by
 obtain⟨oc,od,kV,doc,pm,an,cdv,ct,osl,rfl,lk,hcd⟩:=F.ex
 exact fn_of lk hcd S len fun A outer s H vs Q E hr hsp=>hbody cdv A outer s H vs Q E hr hsp
theorem FunD.binds{x qual:Str}{st:Stmt}{T:Addr}{f:Addr}{fd:FuncData}{ps:List Str}{oT:Value}{dT:Option Addr}{its:Array Value}{nT:Nat}{sT:Array (Option Value)}{ds:List Value}(F:FunD K x qual st (.ref T) f fd)(lT:K.lookup T=some ⟨oT,dT,.seq its nT,sT⟩)
  (h:∀(kV doc pm:Value) (an:Option Addr) (cdv ct:Value) (us:List Value),(us++ds).length=ps.length→∃k:Option (Array Value)→Sem (List (Str × Value)),
   bindArgs (PySem.W.fnOf x qual (defArgs st) (defBody st) (defScope st) (.ref T) kV doc pm an cdv ct) ⟨us,[]⟩=seqItems? (.ref T) >>= k∧k (some its)=pure (ps.zip (us++ds))):Binds K fd ps ds:=by
 obtain⟨oc,od,kV,doc,pm,an,cdv,ct,osl,rfl,lk,hcd⟩:=F.ex
 intro s us kin hl
 obtain⟨k,h1,h2⟩:=h kV doc pm an cdv ct us hl
 exact BindsTo.of_defaults rfl (kin _ _ lT) rfl h1 h2
end
end L2
namespace L2
open PySem PySem.Spec PyProof.Rows
section
variable{X:Cx}
theorem ps_compG{i0:Nat}{y0:Str}{py0 spos:Pos}{tg elt iter:Expr}{ifs:List Expr}{own caps:List Str}{κ:List Nat}{sc:Scope}{cl:List (Str × Addr)}{pos:Pos}{wi:TI}{g:TG}{tc:TT}{te:TE}(hN:X.N.Nodup)(hi0:X.N[i0]?=some y0)(hy0:Loc X.env.scope y0)(hcalm:X.calm=true)(S:BlkSc X caps sc cl)(hκ:κ.map (fun k=>X.N[k]?)=caps.map some)
  (hi:PI X tg iter wi) (hg:∀s₀ H₀ C ex,PG (blk X (own++caps) sc cl s₀ H₀ C ex) tg g)
  (hc:∀s₀ H₀ C ex (pins:List (Addr × Obj)) (s:Shared) (σ:St) (H:Hp) (Q:Bool→Hp→Prop),Inv (blk X (own++caps) sc cl s₀ H₀ C ex) pins σ H s→tc σ H Q →
   wpAny (model X.prog X.w) X.A (forIn ifs true fun c r=>if r=true then do let ok ←isTrue c (compEnvC sc cl C X.env) (eval c (compEnvC sc cl C X.env));pure (ForInStep.yield ok) else pure (ForInStep.yield r)) (TP (blk X (own++caps) sc cl s₀ H₀ C ex) pins σ Q) (fun _ _=>False) s)
  (he:∀s₀ H₀ C ex,PE (blk X (own++caps) sc cl s₀ H₀ C ex) elt te)
  (hs:∀x,foldedSetIterable iter X.env x=pure x:=by intro _;rfl) (hsw:swapsWith (.ListComp elt [⟨tg,iter,ifs,0⟩] sc pos) (some (.Name y0 py0)) spos.line X.env=pure true:=by rfl)
  (hf0:X.fn y0=true∨X.env.scope.names.lookup y0=some .local:=by first|exact .inl rfl|exact .inr rfl|assumption) :
  PS X (.Assign [.Name y0 py0] (.ListComp elt [⟨tg,iter,ifs,0⟩] sc pos) spos) (tAsg (tComp own.length κ wi g tc te) (gName i0)):=by
 intro pins s σ H D0 I h
 rw [exec_Assign_Name_used _ _ _ _ hsw]
 refine wpAny_bind (wpAny_standAt (wpAny_bind ?_))
 show wpAny _ X.A (do let _ ←comprehension (.ListComp elt [⟨tg,iter,ifs,0⟩] sc pos) sc X.env _ (newList []) false (eval iter X.env) (some (assign (.Name y0 py0) X.env))) _ _ s
 refine wpAny_bind (wpAny_mono (wpAny_comprehension_free (use:=some (assign (.Name y0 py0) X.env)) (Q:=fun _ s'=>SP X pins D0 .next s') rfl hs S.clos S.kind S.names (thn (hi pins s σ H _ I h) fun v s1 h1=>thn h1 fun itv s2 h2=>?_))
  (fun _ s' hq=>wpAny_pure (wpAny_pure hq)) fun _ _ e=>e)
 obtain⟨it,fp,tn,J,H2,e,I2,T,st2,f2,W,⟨m0,w0⟩,turn⟩:=h2
 subst e
 have hfp:∀b∈fp,b < s2.heap.objs.size:=fun b hb=>by
  obtain⟨o,e,_⟩:=T.obj _ _ st2 b hb
  exact Heap.lt_size e
 refine wpAny_newObj_type (wpAny_newFunctionEnv S.nocell (fun y hy=>nomatch hy) (fun h₁ hns hsb=>?_) S.kind)
 generalize ehp:s2.heap.push { cls:=.type "list",dict:=none,data:=.seq ([]:List Value).toArray }=hp at hns hsb ⊢
 have hsz:hp.objs.size=s2.heap.objs.size+1:=by rw [←ehp,Heap.size_push]
 have hDC:s2.heap.objs.size≠hp.objs.size:=by rw [hsz];exact Nat.ne_of_lt (Nat.lt_succ_self _)
 have old:∀b o,hp.get? b=some o→h₁.get? b=some o:=fun b o e=>(hsb.2 b (Nat.ne_of_lt (Heap.lt_size e))).trans (Heap.get?_push_of_some _ e)
 have eD:h₁.get? s2.heap.objs.size=some { cls:=.type "list",data:=.seq ([]:List Value).toArray }:=old _ _ (by rw [←ehp];exact Heap.get?_push_size _ rfl)
 have I0:=Inv.block (own:=own) (h₁:=h₁) (tk:=s2.toks+([]:List (Str × Value)).length) S hκ I2 f2 hfp ehp.symm hns old
 have stkD:s2.heap.objs.size∉frs X.stack:=fun z=>(List.mem_cons.mp (I2.stkSub _ z)).elim (Nat.ne_of_gt I2.lt) (I2.nofs (Nat.le_refl _))
 have cellD:∀x c,cl.lookup x=some c→c≠s2.heap.objs.size:=fun x c q=>by
  obtain⟨v,z⟩:=I2.cell x c (S.subc q)
  exact Nat.ne_of_lt z.lt
 have pinD:∀p∈X.pn++pins,p.1≠s2.heap.objs.size:=fun p hp=>Nat.ne_of_lt (Heap.lt_size (I2.pin p hp).1)
 have stkF:∀b∈fp,b∉frs X.stack:=fun b hb z=>(List.mem_cons.mp (I2.stkSub _ z)).elim (f2 b hb).2.1 (f2 b hb).2.2.1
 have loop:codeAny (model X.prog X.w) X.A (.compLoop (.ListComp elt [⟨tg,iter,ifs,0⟩] sc pos) 0 (.ref it) (.ref s2.heap.objs.size) (compEnvC sc cl hp.objs.size X.env))
   (compPost (model X.prog X.w) X.A X.xe (some (assign (.Name y0 py0) X.env)) (fun _ s'=>SP X pins D0 .next s') (.ref s2.heap.objs.size) hp.objs.size) { s2 with heap:=h₁,toks:=s2.toks+([]:List (Str × Value)).length }:=by
  refine codeAny_loop rfl (fun n s'=>∃(i:Nat) (ys:List V) (its:List Value) (cap:Nat) (H':Hp),Inv (blk X (own++caps) sc cl { s2 with heap:=hp } H2 hp.objs.size (s2.heap.objs.size::fp)) pins (blkSt own.length κ σ) H' s'∧tn i s'.heap∧(∀b∈fp,H' b=none) ∧
   s'.heap.get? s2.heap.objs.size=some { cls:=.type "list",data:=.seq its.toArray cap }∧H' s2.heap.objs.size=none∧Vals ys its∧ys.length≤sizeLine∧W i n ys H') (fun n s3 hI=>?_) m0
   ⟨0,[],[],0,H2,I0,T.keep _ _ _ st2 fun b hb o e=>old _ _ (by rw [←ehp];exact Heap.get?_push_of_some _ e),fun b hb=>(f2 b hb).1,eD,I2.hok.fresh (Nat.le_refl _),.nil,Nat.zero_le _,w0⟩
  obtain⟨i,ys,its,cap,H3,I3,st3,fr3,eD3,nD3,rv,hz,w3⟩:=hI
  show wpAny _ X.A ((compTurn (.ListComp elt [⟨tg,iter,ifs,0⟩] sc pos) 0 (.ref it) (.ref s2.heap.objs.size) (compEnvC sc cl hp.objs.size X.env)).onRaise fun x=>do noteFrame x (compEnvC sc cl hp.objs.size X.env);theTreesLotGoes x) _ _ s3
  refine wpAny_noted ?_
  rw [compTurn_list]
  have I3':Inv (blk X (own++caps) sc cl { s2 with heap:=hp } H2 hp.objs.size (s2.heap.objs.size::fp)) (pins++[(s2.heap.objs.size,{ cls:=.type "list",data:=.seq its.toArray cap })]) (blkSt own.length κ σ) H3 s3:=by
   refine I3.pins_of fun p hp=>(List.mem_append.mp hp).elim (fun z=>I3.pin p (List.mem_append_right _ z)) fun z=>?_
   obtain rfl:=List.mem_singleton.mp z
   exact⟨eD3,nD3,hDC,stkD,fun v q=>by cases q⟩
  have fpk:∀{H':Hp},(∀b∈fp,H' b=none)→∀b∈fp,FpOk (blk X (own++caps) sc cl { s2 with heap:=hp } H2 hp.objs.size (s2.heap.objs.size::fp)) (pins++[(s2.heap.objs.size,{ cls:=.type "list",data:=.seq its.toArray cap })]) H' b:=fun {H'} hn b hb =>
   ⟨hn b hb,by show b≠hp.objs.size;rw [hsz];exact Nat.ne_of_lt (Nat.lt_succ_of_lt (hfp b hb)),stkF b hb,.inl (List.mem_cons_of_mem _ hb),fun x c q=>(f2 b hb).2.2.2.2.1 x c (S.subc q),fun p hp=>by
    rw [←List.append_assoc] at hp
    rcases List.mem_append.mp hp with z|z
    ·exact(f2 b hb).2.2.2.2.2 p z
    ·obtain rfl:=List.mem_singleton.mp z
     exact Nat.ne_of_gt (hfp b hb)⟩
  rcases turn i n ys H3 w3 with ⟨stop,fin⟩|⟨go,hlt,step⟩
  ·refine wpAny_bind (wpAny_standAt (wpAny_bind (thn (T.done (blk X (own++caps) sc cl { s2 with heap:=hp } H2 hp.objs.size (s2.heap.objs.size::fp)) rfl rfl rfl hcalm i _ s3 _ H3 _ I3' (fpk fr3) st3 stop) fun r s4 ⟨hr,I4⟩=>?_)))
   subst hr
   refine wpAny_pure ?_
   obtain⟨m,hm,_⟩:=I4.loc
   have eD4:=(I4.pin (s2.heap.objs.size,{ cls:=.type "list",data:=.seq its.toArray cap }) (List.mem_append_right _ (List.mem_append_right _ (List.mem_singleton.mpr rfl)))).1
   have I5:Inv X pins σ (upd H3 s2.heap.objs.size (.lst ys)) { s4 with heap:=s4.heap }:=Inv.unblock I2 f2 ehp.symm I4 eD4 nD3 rv hz (Heap.SameBut.refl ..)
   have neL:hp.objs.size≠X.env.locals:=by rw [hsz];exact Nat.ne_of_gt (Nat.lt_succ_of_lt I2.lt)
   have neC:∀x c,X.env.cells.lookup x=some c→c≠hp.objs.size:=fun x c q=>by
    obtain⟨v,z⟩:=I2.cell x c q
    rw [hsz]
    exact Nat.ne_of_lt (Nat.lt_succ_of_lt z.lt)
   have frC:upd H3 s2.heap.objs.size (.lst ys) hp.objs.size=none:=by rw [upd_ne (Ne.symm hDC)];exact I4.free
   show wpAny (model X.prog X.w) X.A (assign (.Name y0 py0) X.env (.ref s2.heap.objs.size)) _ X.xe s4
   refine wpAny_assign_Name (store_ok2 (v:=.ref s2.heap.objs.size) I5 hN hi0 hy0 rfl (fun s5 I6 ⟨a,sb,ha⟩=>?_) hf0)
   have hCa:hp.objs.size≠a:=by
    rcases ha with ha|ha
    ·rw [ha];exact neL
    ·exact Ne.symm (neC _ _ ha)
   refine⟨m,hm.sameBut sb hCa,fun h' sb'=>⟨_,_,I6.turned (t':=s5.toks) (fun b o hb e=>(sb'.2 b hb).trans e) frC neL (.inr ?_) neC (fun p hp'=>?_),fin _ nD3⟩⟩
   ·exact Nat.le_trans I2.sz (by rw [hsz];exact Nat.le_succ _)
   ·have:=Heap.lt_size (I2.pin p hp').1
    rw [hsz]
    exact Nat.ne_of_lt (Nat.lt_succ_of_lt this)
  ·refine wpAny_bind (wpAny_standAt (wpAny_bind (thn (T.item (blk X (own++caps) sc cl { s2 with heap:=hp } H2 hp.objs.size (s2.heap.objs.size::fp)) rfl rfl rfl hcalm i _ s3 _ H3 _ I3' (fpk fr3) st3 go) fun r s4 ⟨u,hr,h4⟩=>?_)))
   subst hr
   refine wpAny_bind (thn h4 fun _ s5 ⟨x,H5,I5,r5,y5,st5,fr5⟩=>?_)
   have I5':=I5.pinned (fpk fr5) (T.obj _ _ st5)
   refine wpAny_bind (wpAny_mono (hg _ _ _ _ _ s5 _ H5 x u _ I5' r5 (step x H5 y5)) (fun _ s6 ⟨σ6,H6,I6,eσ,q6⟩=>?_) fun _ _ z=>z.elim)
   refine wpAny_bind (wpAny_mono (hc _ _ _ _ _ s6 σ6 H6 _ I6 q6) (fun ok s7 ⟨H7,I7,q7⟩=>?_) fun _ _ z=>z.elim)
   have back:∀{s8:Shared} {H8:Hp},Inv (blk X (own++caps) sc cl { s2 with heap:=hp } H2 hp.objs.size (s2.heap.objs.size::fp)) ((pins++[(s2.heap.objs.size,{ cls:=.type "list",data:=.seq its.toArray cap })])++pinsAt fp s5.heap) σ6 H8 s8 →
     Inv (blk X (own++caps) sc cl { s2 with heap:=hp } H2 hp.objs.size (s2.heap.objs.size::fp)) pins (blkSt own.length κ σ) H8 s8∧tn (i+1) s8.heap∧(∀b∈fp,H8 b=none)∧s8.heap.get? s2.heap.objs.size=some { cls:=.type "list",data:=.seq its.toArray cap }∧H8 s2.heap.objs.size=none:=by
    intro s8 H8 I8
    have pk:∀b∈fp,∀o,s5.heap.get? b=some o→s8.heap.get? b=some o∧H8 b=none:=fun b hb o e=>by
     have z:=I8.pin (b,o) (List.mem_append_right _ (List.mem_append_right _ (mem_pinsAt hb e)))
     exact⟨z.1,z.2.1⟩
    have zD:=I8.pin (s2.heap.objs.size,{ cls:=.type "list",data:=.seq its.toArray cap }) (List.mem_append_right _ (List.mem_append_left _ (List.mem_append_right _ (List.mem_singleton.mpr rfl))))
    refine⟨(I8.pins_of fun p hp=>I8.pin p (List.mem_append_right _ (List.mem_append_left _ (List.mem_append_left _ hp)))).weak ?_ fun j v e=>?_,T.keep _ _ _ st5 fun b hb o e=>(pk b hb o e).1,fun b hb=>?_,zD.1,zD.2.1⟩
    ·exact I3.len.trans I8.len.symm
    ·have hge:own.length≤j:=by
      refine Nat.le_of_not_lt fun q=>?_
      unfold blkSt at e
      rw [List.getElem?_append_left (by rw [List.length_replicate];exact q),List.getElem?_replicate,if_pos q] at e
      cases e
     have z:=congrArg (fun l=>l[j - own.length]?) eσ
     simp only [List.getElem?_drop] at z
     rw [show own.length+(j - own.length)=j by omega] at z
     rw [z]
     exact e
    ·obtain⟨o,e,_⟩:=T.obj _ _ st5 b hb
     exact(pk b hb o e).2
   cases ok with
   |false =>
    obtain⟨m',hm,w7⟩:=(if_neg Bool.false_ne_true)▸q7
    obtain⟨I8,st8,fr8,e8,n8⟩:=back I7
    exact wpAny_pure ⟨rfl,m',hm,i+1,ys,its,cap,H7,I8,st8,fr8,e8,n8,rv,hz,w7⟩
   |true =>
    have q7':=(if_pos rfl)▸q7
    refine wpAny_bind (wpAny_bind (wpAny_mono (he _ _ _ _ _ s7 σ6 H7 _ I7 q7') (fun y s8 ⟨v8,H8,I8,r8,m',hm,w8⟩=>?_) fun _ _ z=>z.elim))
    obtain⟨I9,st9,fr9,e9,n9⟩:=back I8
    have hl:=rv.length
    refine wpAny_bind (wpAny_list_append_plain (items:=its.toArray) ⟨cap,e9⟩ (fun h' hl' sb=>?_) (by rw [List.size_toArray,←hl];exact hz))
    obtain⟨cap',e'⟩:=hl'
    refine wpAny_pure (wpAny_pure ⟨rfl,m',hm,i+1,ys++[v8],its++[y],cap',H8,?_,?_,fr9,?_,n9,Vals.append rv (.cons r8 .nil),?_,w8⟩)
    ·exact I9.turned (t':=s8.toks) (fun b o hb e=>(sb.2 b hb).trans e) n9 hDC (.inl List.mem_cons_self) cellD pinD
    ·exact T.keep _ _ _ st9 fun b hb o e=>(sb.2 b (Nat.ne_of_lt (hfp b hb))).trans e
    ·rw [e']
     congr 3
     simp
    ·rw [List.length_append]
     exact hlt
 exact codeAny_compStart_list loop (T.self _ 0 _ _ _ (T.keep _ _ _ st2 fun b hb o e=>old _ _ (by rw [←ehp];exact Heap.get?_push_of_some _ e)) loop)
theorem ps_comp{i0:Nat}{y0:Str}{py0 spos:Pos}{tg elt iter:Expr}{own caps:List Str}{κ:List Nat}{sc:Scope}{cl:List (Str × Addr)}{pos:Pos}{wi:TI}{g:TG}{te:TE}(hN:X.N.Nodup)(hi0:X.N[i0]?=some y0)(hy0:Loc X.env.scope y0)(hcalm:X.calm=true)(S:BlkSc X caps sc cl)(hκ:κ.map (fun k=>X.N[k]?)=caps.map some)
  (hi:PI X tg iter wi) (hg:∀s₀ H₀ C ex,PG (blk X (own++caps) sc cl s₀ H₀ C ex) tg g) (he:∀s₀ H₀ C ex,PE (blk X (own++caps) sc cl s₀ H₀ C ex) elt te)
  (hs:∀x,foldedSetIterable iter X.env x=pure x:=by intro _;rfl) (hsw:swapsWith (.ListComp elt [⟨tg,iter,[],0⟩] sc pos) (some (.Name y0 py0)) spos.line X.env=pure true:=by rfl)
  (hf0:X.fn y0=true∨X.env.scope.names.lookup y0=some .local:=by first|exact .inl rfl|exact .inr rfl|assumption) :
  PS X (.Assign [.Name y0 py0] (.ListComp elt [⟨tg,iter,[],0⟩] sc pos) spos) (tAsg (tComp own.length κ wi g tYes te) (gName i0)) :=
 ps_compG hN hi0 hy0 hcalm S hκ hi hg (fun s₀ H₀ C ex pins s σ H Q I h=>wpAny_tests_nil ⟨H,I,h⟩) he hs hsw hf0
theorem ps_comp_if{i0:Nat}{y0:Str}{py0 spos:Pos}{tg elt iter c:Expr}{own caps:List Str}{κ:List Nat}{sc:Scope}{cl:List (Str × Addr)}{pos:Pos}{wi:TI}{g:TG}{tc:TT}{te:TE}(hN:X.N.Nodup)(hi0:X.N[i0]?=some y0)(hy0:Loc X.env.scope y0)(hcalm:X.calm=true)(S:BlkSc X caps sc cl)(hκ:κ.map (fun k=>X.N[k]?)=caps.map some)
  (hi:PI X tg iter wi) (hg:∀s₀ H₀ C ex,PG (blk X (own++caps) sc cl s₀ H₀ C ex) tg g) (hc:∀s₀ H₀ C ex,PT (blk X (own++caps) sc cl s₀ H₀ C ex) c tc) (he:∀s₀ H₀ C ex,PE (blk X (own++caps) sc cl s₀ H₀ C ex) elt te)
  (hs:∀x,foldedSetIterable iter X.env x=pure x:=by intro _;rfl) (hsw:swapsWith (.ListComp elt [⟨tg,iter,[c],0⟩] sc pos) (some (.Name y0 py0)) spos.line X.env=pure true:=by rfl)
  (hf0:X.fn y0=true∨X.env.scope.names.lookup y0=some .local:=by first|exact .inl rfl|exact .inr rfl|assumption) :
  PS X (.Assign [.Name y0 py0] (.ListComp elt [⟨tg,iter,[c],0⟩] sc pos) spos) (tAsg (tComp own.length κ wi g tc te) (gName i0)) :=
 ps_compG hN hi0 hy0 hcalm S hκ hi hg (fun s₀ H₀ C ex pins s σ H Q I h=>wpAny_tests_one (hc s₀ H₀ C ex pins s σ H Q I h)) he hs hsw hf0
end
end L2
namespace L2
open PySem PySem.Spec PyProof.Rows
section
variable{X:Cx}{pins:List (Addr × Obj)}{σ:St}{H:Hp}{s:Shared}{h':Heap}
end
section
variable{X:Cx}{tg:Expr}
end
section
variable{prog:Program}{w:World}{A:Around}{E:Value→Shared→Prop}{s:Shared}
theorem nextT_item{j t:Addr}{n:Nat}{its:Array Value}{v:Value}{Q:Value→Shared→Prop}(hj:s.heap.IsTupleIter j t n)(ht:s.heap.IsTuple t its)(hv:its[n]?=some v)
  (q:∀h',h'.IsTupleIter j t (n+1)→Heap.SameBut j s.heap h'→Q v { s with heap:=h' }):wpAny (model prog w) A (Builtin.SmallTypes.nextOf (.ref j)) Q E s:=by
 obtain⟨oj,ej,cj,dj⟩:=id hj
 obtain⟨ot,et,_,nt,dt⟩:=ht
 unfold Builtin.SmallTypes.nextOf
 refine wpAny_bind (wpAny_callSpecial?_slot (name:=Str.ofString "__next__") hj.typeIs F.slot_tuple_iterator_next (wpAny_call_entry F.slot_tuple_iterator_next hj.typeIs F.entry_tuple_iterator_next ?_ (F.args_tuple_iterator_next_1 _)))
 show wpAny _ _ (field (.ref j) 0 >>= _) _ _ s
 refine wpAny_bind (wpAny_field ej dj (x:=.ref t) rfl ?_)
 show wpAny _ _ (if (Value.ref t==Value.none)=true then _ else _) _ _ _
 rw [if_neg (show ¬(Value.ref t==Value.none)=true from Bool.false_ne_true)]
 show wpAny _ _ (field (.ref j) 1 >>= _) _ _ s
 refine wpAny_bind (wpAny_field ej dj (x:=.int n 0) rfl ?_)
 show wpAny _ _ (seqItems? (.ref t) >>= _) _ _ _
 refine wpAny_bind (wpAny_seqItems et dt ?_)
 simp only [Int.toNat_natCast,hv]
 refine wpAny_bind (wpAny_setField ej dj (by simp) (wpAny_pure ⟨v,rfl,wpAny_pure (q _ ?_ (Heap.SameBut.update ..))⟩))
 exact⟨_,Heap.get?_update_self _ ej (Obj.isFreed_of_fields (Obj.data_mapFields dj _)),(Obj.cls_mapFields ..).trans cj,by rw [Obj.data_mapFields dj];simp [rawInt]⟩
theorem nextT_end{j t:Addr}{n:Nat}{its:Array Value}{Q:Value→Shared→Prop}(hh:A.handled=none)(hj:s.heap.IsTupleIter j t n)(ht:s.heap.IsTuple t its)(hv:its[n]?=none)
  (q:∀h' e,Heap.ExtBut j s.heap h'→(∃o,h'.get? e=some o∧o.cls=.type "StopIteration")→E (.ref e) { s with heap:=h' }):wpAny (model prog w) A (Builtin.SmallTypes.nextOf (.ref j)) Q E s:=by
 obtain⟨oj,ej,cj,dj⟩:=id hj
 obtain⟨ot,et,_,nt,dt⟩:=ht
 unfold Builtin.SmallTypes.nextOf
 refine wpAny_bind (wpAny_callSpecial?_slot (name:=Str.ofString "__next__") hj.typeIs F.slot_tuple_iterator_next (wpAny_call_entry F.slot_tuple_iterator_next hj.typeIs F.entry_tuple_iterator_next ?_ (F.args_tuple_iterator_next_1 _)))
 show wpAny _ _ (field (.ref j) 0 >>= _) _ _ s
 refine wpAny_bind (wpAny_field ej dj (x:=.ref t) rfl ?_)
 show wpAny _ _ (if (Value.ref t==Value.none)=true then _ else _) _ _ _
 rw [if_neg (show ¬(Value.ref t==Value.none)=true from Bool.false_ne_true)]
 show wpAny _ _ (field (.ref j) 1 >>= _) _ _ s
 refine wpAny_bind (wpAny_field ej dj (x:=.int n 0) rfl ?_)
 show wpAny _ _ (seqItems? (.ref t) >>= _) _ _ _
 refine wpAny_bind (wpAny_seqItems et dt ?_)
 simp only [Int.toNat_natCast,hv]
 refine wpAny_bind (wpAny_rule (wpAny_bind (wpAny_setField ej dj (by simp) ?_)))
 refine wpAny_bind (m:=newExc (.type "StopIteration") []) ?_
 simp only [newExc,newTuple]
 refine wpAny_bind (wpAny_newObj_type (wpAny_bind (m:=firstArgMember _ _) (wpAny_of_eq (a:=Value.none) (by first|rfl|(simp only [firstArgMember];rfl)) (wpAny_newObj_type ?_ (by size_fits)))) (by size_fits))
 simp only [raiseNew]
 refine wpAny_bind (wpAny_handled ?_)
 first|rw [show A.in1.handled=none from hh]|rw [hh]
 exact wpAny_bind (wpAny_pure (wpAny_throw (q _ _ (((Heap.SameBut.update ..).extBut.push _).push _) ⟨_,Heap.get?_push_size _ rfl,rfl⟩)))
open AutoSeq1 (wpAny_loadPart') in
end
section
variable{X:Cx}
end
end L2
namespace L2
open PySem PySem.Spec PyProof.Rows
theorem key_rel{P:Program}{w:World}{k:Key}{u:Value}(h:(mixKind P w).is k u=true):RelV (kV k) u:=by
 rw [mixKind_is] at h
 rcases keyIs_shape h with ⟨i,t,rfl,rfl⟩|⟨x,t,rfl,rfl⟩
 ·exact⟨t,rfl⟩
 ·exact⟨t,rfl⟩
section
variable{X:Cx}{pins:List (Addr × Obj)}{σ:St}{H H':Hp}{s:Shared}{h':Heap}
end
theorem pair_get{α β:Type}{F:α→β→Prop}:∀{as:List α} {bs:List β},Paired F as bs→∀{j:Nat} {a:α},as[j]?=some a→∃b,bs[j]?=some b∧F a b
 |_,_,.nil,j,a,h=>by simp at h
 |_,_,.cons x t,0,a,h=>by
  simp at h
  subst h
  exact⟨_,rfl,x⟩
 |_,_,.cons x t,j+1,a,h=>by
  simp at h
  obtain⟨b,hb,r⟩:=pair_get t h
  exact⟨b,by simpa using hb,r⟩
section
variable{X:Cx}
end
end L2
namespace L2
open PySem PySem.Spec PyProof.Rows
section
variable{X:Cx}{pins:List (Addr × Obj)}{σ:St}{H:Hp}{s:Shared}{d:Addr}{o:Obj}{u:HO}
theorem Inv.thaw(I:Inv X pins σ H s)(e:H d=some (.frz o u))(h0:∀o' u',X.H₀ d≠some (.frz o' u')):Inv X pins σ (upd H d u) s:=by
 have nd:∀b,H b=none→b≠d:=fun b n z=>by rw [z,e] at n;cases n
 have no:∀b v,H b=some v→(∀o u,v≠.frz o u)→b≠d:=fun b v q n z=>by rw [z,e] at q;cases q;exact n _ _ rfl
 refine⟨I.ok,I.os,I.bare,⟨I.base.keep,I.base.slot,fun b ob q n hx=>?_,I.base.there,fun b xs q=>?_,fun b ob v q=>?_,fun b ps q=>?_⟩,I.loc,I.cell,?_,fun x c q=>?_,fun p hp=>?_,fun b v q=>?_,I.len⟩
 ·have z:=I.base.free b ob q n hx
  rw [upd_ne (nd b z)]
  exact z
 ·have z:=I.base.tups b xs q
  rw [upd_ne (no b _ z (fun _ _=>nofun))]
  exact z
 ·have z:=I.base.frzs b ob v q
  rw [upd_ne (fun w=>h0 ob v (by rw [←w];exact q))]
  exact z
 ·obtain⟨more,z⟩:=I.base.tbls b ps q
  exact⟨more,by rw [upd_ne (no b _ z (fun _ _=>nofun))];exact z⟩
 ·rw [upd_ne (nd _ I.free)]
  exact I.free
 ·rw [upd_ne (nd _ (I.freeC x c q))]
  exact I.freeC x c q
 ·obtain⟨h1,h2,h3⟩:=I.pin p hp
  exact⟨h1,by rw [upd_ne (nd _ h2)];exact h2,h3⟩
 ·have own:∀a b,H b=some (.own a)→upd H d u b=some (.own a):=fun a b z=>by rw [upd_ne (no b _ z (fun _ _=>nofun))];exact z
  have tup:∀b (xs:FxO),H b=some xs.ho→upd H d u b=some xs.ho:=fun b xs z=>by rw [upd_ne (no b _ z (by cases xs<;>exact(fun _ _=>nofun)))];exact z
  by_cases hb:b=d
  ·subst hb
   rw [upd_same] at q
   cases q
   exact(I.hok b _ e).2.stay (fun _ _ _ z=>z) (own b) tup
  ·rw [upd_ne hb] at q
   exact(I.hok b v q).stay (fun _ _ _ z=>z) (own b) tup
end
def thawD(H₀:Hp)(D:Ends):Ends where
 nx:=fun σ H=>∃d o u,H d=some (.frz o u)∧(∀o' u',H₀ d≠some (.frz o' u'))∧D.nx σ (upd H d u)
 rt:=fun v H=>∃d o u,H d=some (.frz o u)∧(∀o' u',H₀ d≠some (.frz o' u'))∧D.rt v (upd H d u)
 bk:=D.bk
 ct:=D.ct
theorem ps_thaw{X:Cx}{st:Stmt}{t:TS}(h:PS X st t):PS X st (fun D σ H=>t (thawD X.H₀ D) σ H):=by
 intro pins s σ H D I q
 refine thn (h pins s σ H _ I q) fun f s1 z=>?_
 cases f with
 |next =>
  obtain⟨σ',H',I',d,o,u,e,h0,q'⟩:=z
  exact⟨σ',_,I'.thaw e h0,q'⟩
 |ret v =>
  obtain⟨σ',x,H',I',r,d,o,u,e,h0,q'⟩:=z
  exact⟨σ',x,_,I'.thaw e h0,r,q'⟩
 |brk=>exact z
 |cont=>exact z
section
variable{X:Cx}
end
end L2
namespace L2
open PySem PySem.Spec PyProof.Rows
section
variable{X:Cx}{tg:Expr}
end
end L2
namespace L2
open PySem PySem.Spec PyProof.Rows
def Itk(d:Addr)(o:Obj)(kvs:List (Key × V)):It :=
 ⟨fun i H=>H d=some (.frz o (.dK kvs))∧i < kvs.length,fun i H x H'=>H'=H∧∃p,kvs[i]?=some p∧x=kV p.1,fun i H=>H d=some (.frz o (.dK kvs))∧kvs.length≤i⟩
theorem turn_keys{P:Program}{w:World}{K:PySem.W.Frag}{tg:Expr}{d it:Addr}{o:Obj}{kvs:List (Key × V)}{ys:List (Key × Value)}{ep:Nat}(rel:KV kvs ys)(hat:∀h:Heap,h.get? d=some o→h.DictAt (mixKind P w) d ys ep) :
  Turn P w K tg (Itk d o kvs) [it] it (fun i h=>h.IsKeyIter it d i ys.length ep) where
 mem:=by simp
 obj:=fun i h st b hb=>by
  obtain rfl:b=it:=by simpa using hb
  obtain⟨o,e,c,hd⟩:=st
  exact⟨o,e,fun v z=>by rw [hd] at z;cases z⟩
 keep:=fun i h h' st k=>by
  obtain⟨o,e,r⟩:=st
  exact⟨o,k it (by simp) _ e,r⟩
 item:=by
  intro X hP hw hK hc i pins s σ H E I hf st hg
  subst hP hw hK
  obtain⟨hd,hi⟩:=hg
  obtain⟨f0,f1,f2,f3,f4,f5⟩:=hf it (by simp)
  have ex:kvs[i]?=some kvs[i]:=List.getElem?_eq_getElem hi
  obtain⟨⟨k1,y⟩,hy,ek,ry⟩:=pair_get rel ex
  replace ek:kvs[i].1=k1:=ek
  refine wpAny_pyNext_dict_item st (hat _ (I.hok d _ hd).1) hy fun key h' hkey st' sb=>?_
  have I1:Inv X pins σ H { s with heap:=h' }:=I.turned (t':=s.toks) (fun b o hb e=>(sb.2 b hb).trans e) f0 f1 f3 f4 f5
  obtain⟨o',e,c,dt⟩:=id st'
  exact⟨key,rfl,go_of (s:={ s with heap:=h' }) e c dt (by decide) ⟨kV kvs[i].1,H,I1,by rw [ek];exact key_rel hkey,⟨rfl,_,ex,rfl⟩,st',fun b hb=>(hf b hb).1⟩⟩
 done:=by
  intro X hP hw hK hc i pins s σ H E I hf st hg
  subst hP hw hK
  obtain⟨hd,hi⟩:=hg
  obtain⟨f0,f1,f2,f3,f4,f5⟩:=hf it (by simp)
  have hl:kvs.length=ys.length:=rel.length
  exact wpAny_pyNext_dict_end (I.ok.hd hc) st (hat _ (I.hok d _ hd).1) (List.getElem?_eq_none (by omega)) fun h' eb=>⟨rfl,I.turned (t':=s.toks) (fun b o hb q=>eb b o hb q) f0 f1 f3 f4 f5⟩
 self:=fun _ _ _ _ _ st h=>wpAny_pyIter_keyiter st h
section
variable{X:Cx}{tg:Expr}
def iKeys(to:TE):TI:=fun σ H R=>to σ H fun x H1=>∃d kvs,x=.ref d∧H1 d=some (.dK kvs)∧∀o,R (Itk d o kvs) (upd H1 d (.frz o (.dK kvs)))
theorem pi_keys{o:Expr}{to:TE}(ho:PE X o to):PI X tg o (iKeys to):=by
 intro pins s σ H R I h
 refine thn (ho pins s σ H _ I h) fun v s1 ⟨x,H1,I1,r1,d,kvs,ex,hd,q⟩=>?_
 subst ex
 cases r1
 obtain⟨z,hs,ys,rel,dd⟩:=dk_of I1.hok hd
 obtain⟨ep,ob,en,e1,r1⟩:=dd.dictAt
 have hat:∀h:Heap,h.get? d=some ob→h.DictAt (mixKind X.prog X.w) d ys ep:=fun h e=>⟨ob,en,e,r1⟩
 refine wpAny_pyIter_dict hs (hat _ e1) ?_
 have hd2:(s1.heap.push { cls:=.type "dict_keyiterator",data:=.fields #[.ref d,.int 0 0,.int ys.length 0,.int ep 0] }).get? d=some ob:=Heap.get?_push_of_some _ e1
 have I2:=I1.kept (t':=s1.toks) (h':=s1.heap.push { cls:=.type "dict_keyiterator",data:=.fields #[.ref d,.int 0 0,.int ys.length 0,.int ep 0] }) fun b u e=>Heap.get?_push_of_some _ e
 have I3:=I2.write (x:=d) (e:=d) (o:=.frz ob (.dK kvs)) (t':=s1.toks) (h':=s1.heap.push { cls:=.type "dict_keyiterator",data:=.fields #[.ref d,.int 0 0,.int ys.length 0,.int ep 0] }) (by rw [hd];trivial) (.inl rfl) (fun _ _ _ e=>e) ⟨ob,hd2⟩
  ⟨hd2,z,hs,ys,rel,dd.at fun o e=>Heap.get?_push_of_some _ e⟩
 have hn:H1 s1.heap.objs.size=none:=I1.hok.fresh (Nat.le_refl _)
 refine⟨_,[s1.heap.objs.size],_,_,_,rfl,I3,turn_keys rel hat,⟨_,Heap.get?_push_size _ rfl,rfl,rfl⟩,fun b hb=>?_,q ob⟩
 obtain rfl:b=s1.heap.objs.size:=by simpa using hb
 refine I1.fpOk (Nat.le_refl _) ?_
 rw [upd_ne (fun e=>by rw [e,hd] at hn;cases hn)]
 exact hn
end
end L2
namespace L2
open PySem PySem.Spec PyProof.Rows
section
variable{X:Cx}
end
end L2
namespace L2
open PySem PySem.Spec PyProof.Rows
section
variable{X:Cx}{K:PySem.W.Frag}
end
end L2
namespace L2
open PySem PySem.Spec PyProof.Rows
end L2
namespace L2
open PySem PySem.Spec PyProof.Rows
def excInI(K:PySem.W.Frag)(C:Addr)(bmB:List Value)(newId:String):Bool:=match K.lookup C with|some ⟨.type "type",_,.cls cd,sl⟩=>(match cd.mro,sl.toList with|.ref C'::bm,[_,_,_,_,some (.builtin n),_]=>C'==C&&n==newId&&!cd.hasDel&&PySem.W.tailIn K bmB bm|_,_=>false)|_=>false
structure ExcI(h:Heap)(C:Addr)(bmB:List Value)(newId:String):Prop where
 obj:∃bm N nm q bs hdct sn sub ab col dd k0 k1 k2 k3 k5,h.get? C=some (excClassObj nm q C N bs bm hdct sn sub ab col dd k0 k1 k2 k3 k5 newId)∧OwnTail h bmB bm
section
variable{prog:Program}{w:World}{A:Around}{E:Value→Shared→Prop}{h:Heap}{g:Array GenState}{d:Drawn}{t:Nat}{os:OsState}{K:PySem.W.Frag}{C fI:Addr}{us:List Value}
end
section
variable{prog:Program}{w:World}{A:Around}{E:Value→Shared→Prop}{s:Shared}{env:Env}{K:PySem.W.Frag}{C fI:Addr}
end
end L2
namespace L2
open PySem PySem.Spec PyProof.Rows
section
variable{X:Cx}{pins:List (Addr × Obj)}{σ:St}{H:Hp}{s:Shared}{x:Addr}
end
section
variable{P:Program}{w:World}{K:PySem.W.Frag}{mg:Str→Option Value}{base:Heap}
structure MkX(K:PySem.W.Frag)(C fI:Addr):Prop where
 ex:excInI K C bmVE "ValueError.__new__"=true
 init:PySem.W.findIn K (.ref C) "__init__"=some (some (.ref fI))
 fn:PySem.W.typeIn K (.ref fI)=some (.type "function")
end
end L2
namespace L2
open PySem PySem.Spec PyProof.Rows Builtin Builtin.ObjectAttr
def refPass(l:List Value):Bool:=l.dropWhile (fun|.ref _=>true|_=>false)==bmVE
structure ExcSet(K:PySem.W.Frag)(C:Addr):Prop where
 sa:PySem.W.findIn K (.ref C) "__setattr__"=some (some (.builtin "object.__setattr__"))
 po:(PySem.W.clsIn K C).any (fun cd=>refPass cd.mro)=true
 hd:PySem.W.hasDictIn K C=true
 ob:PySem.W.mroIn K C (.type "object")=some true
section
variable{prog:Program}{w:World}{A:Around}{E:Value→Shared→Prop}{s:Shared}{K:PySem.W.Frag}{x C:Addr}{name:Str}{v:Value}
end
section
variable{X:Cx}{pins:List (Addr × Obj)}{σ:St}{H H0:Hp}{s s0:Shared}{dx:Addr}
end
section
variable{X:Cx}{o value:Expr}{f:Str}{pos pos':Pos}{ta tv:TE}
end
end L2
namespace L2
open PySem PySem.Spec PyProof.Rows Builtin Builtin.ObjectAttr
structure BaseI(K:PySem.W.Frag)(R:Addr):Prop where
 ga:PySem.W.specialIn K (.ref R) "__getattribute__"=some (some (.builtin "type.__getattribute__"))
 rd:PySem.W.readsIn K R (.type "type")=true
 fi:PySem.W.findCls K (.ref R) (.type "type") "__init__"=some (.val (.builtin "ValueError.__init__"))
section
variable{X:Cx}
end
section
variable{prog:Program}{w:World}{A:Around}{E:Value→Shared→Prop}{s:Shared}{K:PySem.W.Frag}{x D:Addr}{name:Str}{v:Value}
end
section
variable{X:Cx}{e:Expr}{f:Str}{pos:Pos}{ta:TE}
end
end L2
namespace L2
open PySem PySem.Spec PyProof.Rows
structure Shw(d:PyData)(n m:Nat):Prop where
 sh:d.showable=true
 nd:d.hasDict=false
 dp:d.depth≤m
 ln:d.shown.length≤n
structure Shws(ds:List PyData)(n m:Nat):Prop where
 sh:PyData.showableAll ds=true
 nd:PyData.hasDictAll ds=false
 dp:PyData.depthAll ds≤m
 ln:piled (PyData.shownAll ds)≤n
section
variable{X:Cx}{k:Nat}{pos:Pos}{e:Expr}{te:TE}
end
end L2
namespace L2
open PySem PySem.Spec PyProof.Rows
section
variable{α β:Type}
variable{P:Shared→Prop}
end
section
variable{X:Cx}{st:Stmt}{rest:List Stmt}{t u:TS}{pos:Pos}
end
section
variable{X:Cx}
end
end L2
local macro_rules
 |`(sortPriv% $n:ident)=>do
  if n.getId==`rn then return Lean.mkCIdent (Lean.mkPrivateNameCore `PySem.Builtin.Int.W0All `PySem.Builtin.readNumeral)
  if n.getId==`vl then return Lean.mkCIdent (Lean.mkPrivateNameCore `PySem.Builtin.Int.W0All `PySem.Builtin.Numeral.value)
  if n.getId==`nd then return Lean.mkCIdent (Lean.mkPrivateNameCore `PySem.Builtin.Int.W0All `PySem.Builtin.numeralDigits?)
  if n.getId==`bl then return Lean.mkCIdent (Lean.mkPrivateNameCore `PySem.Builtin.Int.W0All `PySem.Builtin.isBlank)
  Lean.Macro.throwUnsupported
namespace L2
open PySem
section
variable{prog:Program}{w:World}{A:Around}{E:Value→Shared→Prop}{s:Shared}
end
end L2
namespace L2
open PySem PySem.Spec PyProof.Rows
section
variable{X:Cx}{pos:Pos}{e:Expr}{es:List Expr}{te:TE}
abbrev TJE:=St→Hp→Str→(Str→Hp→Prop)→Prop
def PJE(X:Cx)(es:List Expr)(t:TJE):Prop :=
 ∀(pins:List (Addr × Obj)) (s:Shared) (σ:St) (H:Hp) (acc:Str) (Z:Str→Hp→Prop),acc.length+2000000*es.length≤sizeLine→Inv X pins σ H s→t σ H acc Z →
  Joins (model X.prog X.w) X.A X.xe (evalEach es X.env) acc (fun out s1=>out.length≤sizeLine∧∃H1,Inv X pins σ H1 s1∧Z out H1) s
theorem pje_nil:PJE X [] (fun _ H acc Z=>Z acc H):=fun _ _ _ H _ _ hz I h=>⟨Nat.le_trans (Nat.le_add_right _ _) hz,H,I,h⟩
theorem pje_cons{tj:TJE}(he:PE X e te)(hr:PJE X es tj):PJE X (e::es) (fun σ H acc Z=>te σ H fun v H1=>∃y:Str,v=.str y∧y.length≤2000000∧tj σ H1 (acc++y) Z):=by
 intro pins s σ H acc Z hz I h
 refine thn (he pins s σ H _ I h) fun u s1 ⟨v,H1,I1,r,y,hv,hy,q⟩=>?_
 subst hv
 obtain⟨t,rfl⟩:=r
 have e1:(acc++y).length=acc.length+y.length:=by
  show Array.size (acc.cps++y.cps)=_
  rw [Array.size_append]
  rfl
 have e2:(e::es).length=es.length+1:=rfl
 rw [e2] at hz
 exact⟨y,t,rfl,by omega,hr pins s1 σ H1 (acc++y) Z (by omega) I1 q⟩
theorem pe_fstrE{v1 v2:Expr}{rest:List Expr}{tj:TJE}(hj:PJE X (v1::v2::rest) tj)(hl:(v1::v2::rest).length≤8) :
  PE X (.JoinedStr (v1::v2::rest) pos) (fun σ H Q=>tj σ H Str.empty fun out H1=>Q (.str out) H1):=by
 intro pins s σ H Q I h
 have hz:Str.empty.length+2000000*(v1::v2::rest).length≤sizeLine:=by
  have e0:Str.empty.length=0:=rfl
  rw [sizeLine_eq,e0]
  rw [Nat.zero_add]
  exact Nat.le_trans (Nat.mul_le_mul_left _ hl) (Nat.le_of_ble_eq_true rfl)
 refine wpAny_JoinedStr ?_
 have j:=hj pins s σ H Str.empty _ hz I h
 exact pe_fstr.joins_mono _ _ (fun out s1 ⟨h1,H1,I1,q⟩=>⟨h1,.str out,H1,I1.tok _,⟨_,rfl⟩,q⟩) _ j
theorem pss_no{X:Cx}{ss:List Stmt}:PSs X ss (fun _ _ _=>False):=fun _ _ _ _ _ _ h=>h.elim
end
end L2
namespace L2
open PySem PySem.Spec PyProof.Rows
section
variable{prog:Program}{w:World}{A:Around}{R:Result→Shared→Prop}{I S:Addr}{fp wr:List Addr}{n:Nat}{P:Nat→Value→Prop}{St:Nat→Heap→Prop}{d:Value}
end
section
variable{X:Cx}{e:Expr}{es:List Expr}{kws:List Keyword}{t tk:TA}{p pos:Pos}
end
end L2
namespace L2
open PySem PySem.Spec PyProof.Rows
inductive EntOk (w:World):List DictEntry→List (Str × Int)→Prop
 |nil:EntOk w [] []
 |cons {h:Int} {s:Str} {n:Int} {t t':Tok} {es:List DictEntry} {ps:List (Str × Int)}:h=hashStr w s→EntOk w es ps→EntOk w (⟨h,.str s t,.int n t'⟩::es) ((s,n)::ps)
structure DKt(K:PySem.W.Frag)(w:World)(a:Addr)(ps:List (Str × Int)):Prop where
 ns:(a==sysModules)=false
 at_:∀(P:Program) (h:Heap),K.In h→∃vs:List (Key × Value),KV (ps.map fun p=>((Sum.inr p.1:Key),V.int p.2)) vs∧h.DictOf (mixKind P w) a vs
theorem ent_ok{P:Program}{w:World}{es:List DictEntry}{ps:List (Str × Int)}(h:EntOk w es ps):∃vs:List (Key × Value),KV (ps.map fun p=>((Sum.inr p.1:Key),V.int p.2)) vs∧Pairs (mixKind P w) es vs∧(∀e∈es,∃k:Key,(mixKind P w).is k e.key=true∧e.hash=(mixKind P w).hash k)∧vs.map (·.1)=ps.map fun p=>(Sum.inr p.1:Key):=by
 induction h with
 |nil=>exact⟨[],.nil,.nil,(fun e he=>by cases he),rfl⟩
 |@cons hh s n t t' es ps e _ ih =>
  obtain⟨vs,a,b,c,d⟩:=ih
  refine⟨(Sum.inr s,.int n t')::vs,.cons ⟨rfl,⟨t',rfl⟩⟩ a,.cons (mixKind_str P w s t) rfl b,fun e2 he=>?_,?_⟩
  ·rcases List.mem_cons.mp he with rfl|he
   ·exact⟨Sum.inr s,mixKind_str P w s t,e⟩
   ·exact c e2 he
  ·rw [List.map_cons,List.map_cons,d]
theorem dkt_of{K:PySem.W.Frag}{w:World}{a:Addr}{ps:List (Str × Int)}{es:Array DictEntry}{ep:Nat} (hl:K.lookup a=some ⟨.type "dict",none,.dict es ep,#[]⟩) (hs:(a==sysModules)=false) (he:EntOk w es.toList ps) (nd:(ps.map (·.1)).Nodup):DKt K w a ps:=by
 refine⟨hs,fun P h hK=>?_⟩
 obtain⟨vs,v1,v2,v3,v4⟩:=ent_ok (P:=P) he
 refine⟨vs,v1,_,es,ep,hK _ _ hl,⟨rfl,rfl,rfl⟩,rfl,fun e h2=>v3 e (Array.mem_toList_iff.mpr h2),v2,?_⟩
 rw [v4]
 have:(ps.map fun p=>(Sum.inr p.1:Key))=(ps.map (·.1)).map Sum.inr:=by rw [List.map_map];rfl
 rw [this]
 exact List.Pairwise.map _ (fun _ _ h z=>h (Sum.inr.inj z)) nd
def numAtS(ps:List (Str × Int))(s:Str):Option Int:=(ps.find? fun p=>decide (p.1=s)).map (·.2)
theorem valV_num(ps:List (Str × Int))(s:Str):valV (ps.map fun p=>((Sum.inr p.1:Key),V.int p.2)) (Sum.inr s)=(numAtS ps s).map V.int:=by
 induction ps with
 |nil=>rfl
 |cons p r ih =>
  unfold valV numAtS at ih ⊢
  rw [List.map_cons,List.find?_cons,List.find?_cons]
  by_cases e:p.1=s
  ·rw [decide_eq_true (show(Sum.inr p.1:Key)=Sum.inr s by rw [e]),decide_eq_true e]
   rfl
  ·rw [decide_eq_false (show ¬(Sum.inr p.1:Key)=Sum.inr s from fun z=>e (Sum.inr.inj z)),decide_eq_false e]
   exact ih
section
variable{X:Cx}{o i:Expr}{pos:Pos}{td ty:TE}
def tDGetK(K:PySem.W.Frag)(w:World)(td ty:TE):TE:=fun σ H Q=>td σ H fun x H1=>ty σ H1 fun y H2=>∃a ps s n,x=.ref a∧DKt K w a ps∧y=.str s∧numAtS ps s=some n∧Q (.int n) H2
theorem pe_dgetK(ho:PE X o td)(hi:PE X i ty)(hs:NoSl i):PE X (.Subscript o i pos) (tDGetK X.K X.w td ty):=by
 intro pins s σ H Q I h
 refine subD_of PySem.F.slot_dict_getitem.lookup hs (thn (ho pins s σ H _ I h) fun u s1 ⟨x,H1,I1,rx,q1⟩=>thn (hi pins s1 σ H1 _ I1 q1) fun iv s2 ⟨y,H2,I2,ry,a,ps,z,n,ex,g,ey,en,q2⟩=>?_)
 subst ex ey
 obtain rfl:u=Value.ref a:=rx
 obtain⟨vs,rel,dd⟩:=g.at_ X.prog s2.heap I2.kIn
 obtain⟨w',hw,rw'⟩:=RelO.some_of (v:=.int n) (o:=valueAt vs (Sum.inr z)) (by have:=rel.val (Sum.inr z);rw [valV_num,en] at this;exact this)
 exact⟨dd.typeIs,wpAny_getItem_of (kV_is (k:=Sum.inr z) ry) dd.mapOf hw ⟨.int n,H2,I2.tok _,rw',q2⟩⟩
end
end L2
namespace L2
open PySem PySem.Spec PyProof.Rows
section
variable{P:Program}{w:World}{K:PySem.W.Frag}{mg:Str→Option Value}{base:Heap}
end
end L2
namespace L2
open PySem PySem.Spec PyProof.Rows
section
variable{prog:Program}{w:World}{A:Around}{E:Value→Shared→Prop}{s:Shared}
end
end L2
namespace L2
open PySem PySem.Spec PyProof.Rows
section
variable{X:Cx}
end
end L2
namespace L2
open PySem PySem.Spec PyProof.Rows
section
variable{X:Cx}
end
end L2
namespace L2
open PySem PySem.Spec PyProof.Rows PySem.Calls
section
variable{prog:Program}{w:World}{K:Type}[DecidableEq K]{knd:HeapKind prog w K}{A:Around}{E:Value→Shared→Prop}{s:Shared}
end
section
variable{X:Cx}
end
end L2
namespace L2
open PySem PySem.Spec PyProof.Rows PySem.W
section
variable{prog:Program}{w:World}{A:Around}{E:Value→Shared→Prop}{s:Shared}
structure RawG(es:Array DictEntry)(lo:Addr)(h:Heap)(as:List Addr):Prop where
 rise:as.Pairwise (· < ·)
 up:∀a∈as,lo < a
 at':∀(j:Nat) (a:Addr),as[j]?=some a→∃en,es[j]?=some en∧h.get? a=some { cls:=.type "tuple",data:=.seq #[en.key,en.val] }
end
section
variable{prog:Program}{w:World}{A:Around}{s:Shared}{R:Result→Shared→Prop}{es:Array DictEntry}{ep:Nat}
end
section
variable{prog:Program}{w:World}{A:Around}{E:Value→Shared→Prop}{s:Shared}{r d:Addr}{es:Array DictEntry}{ep:Nat}
end
end L2
namespace L2
open PySem PySem.Spec PyProof.Rows
section
variable{X:Cx}
end
section
variable{prog:Program}{w:World}{A:Around}{E:Value→Shared→Prop}{s:Shared}
end
section
variable{X:Cx}{l:Expr}{tl:TE}{p p2 pos pos2:Pos}
end
end L2
namespace L2
open PySem PySem.Spec PyProof.Rows
section
variable{X:Cx}
end
end L2
namespace L2
open PySem PySem.Spec PyProof.Rows
section
variable{prog:Program}{w:World}{A:Around}{E:Value→Shared→Prop}{s:Shared}{a:Addr}{xs:Array Value}{k:Nat}{sl:Array (Option Value)}
end
section
variable{X:Cx}{pins:List (Addr × Obj)}{σ:St}
end
end L2
namespace L2
open PySem PySem.Spec PyProof.Rows
section
variable{prog:Program}{w:World}{A:Around}{E:Value→Shared→Prop}{s:Shared}{K:Type}[DecidableEq K]{knd:HeapKind prog w K}
end
section
variable{X:Cx}
end
end L2
namespace L2
open PySem PySem.Spec PyProof.Rows
section
variable{M:Model}{A:Around}{E:Value→Shared→Prop}{s:Shared}
end
section
variable{X:Cx}{pins:List (Addr × Obj)}{σ:St}{H H':Hp}{s s':Shared}{x C:Addr}{cls:Value}{d:Option Addr}
end
section
variable{X:Cx}
end
section
variable{P:Program}{w:World}{K:PySem.W.Frag}{mg:Str→Option Value}{base:Heap}{N:List Str}{qual:Str}{scope:Scope}{f:Addr}{cd:Value}{A:Around}{outer:List Env}{s:Shared}{H:Hp}{E:XK}
end
end L2
namespace L2
open PySem PySem.Spec PyProof.Rows
section
variable{X:Cx}
end
section
variable{X:Cx}{pins:List (Addr × Obj)}{σ:St}
end
end L2
namespace HT
open PySem PySem.Spec PyProof.Rows
section
variable{prog:Program}{w:World}{A:Around}{E:Value→Shared→Prop}{s:Shared}
end
end HT
namespace L2
open PySem PySem.Spec PyProof.Rows
section
variable{X:Cx}
theorem call_isiTup:CallR X (.builtin "isinstance") (fun xs H Q=>∃a ys,xs=[.ref a,.ty "tuple"]∧SqT X.K H a ys∧Q (.bl true) H):=by
 intro pins s σ H xs us Q I rv h
 obtain⟨a,ys,rfl,hq,q⟩:=h
 obtain⟨u,v,rfl,r1,r2⟩:=rv.two
 cases r2
 cases (show u=Value.ref a from r1)
 obtain⟨its,_,⟨o,h1,h2,_⟩,_⟩:=I.tuple hq
 exact PySem.W.kia_one (t:=.type "tuple") (b:=true) PySem.W.kitx_tuple I.kIn ⟨o,h1,h2⟩ rfl (fun z=>nomatch z) fun tk=>⟨.bl true,H,I.tok _,rfl,q⟩
theorem call_isiTA:CallR X (.builtin "isinstance") (fun xs H Q=>∃x,xs=[x,.ty "tuple"]∧((∃z,x=.str z∧Q (.bl false) H)∨(∃i,x=.int i∧Q (.bl false) H)∨∃a ys,x=.ref a∧SqT X.K H a ys∧Q (.bl true) H)):=by
 intro pins s σ H xs us Q I rv h
 obtain⟨x,rfl,h⟩:=h
 rcases h with ⟨z,rfl,q⟩|⟨i,rfl,q⟩|⟨a,ys,rfl,hq,q⟩
 ·obtain⟨u,v,rfl,r1,r2⟩:=rv.two
  cases r2
  exact isinst_ok (t:=.type "str") (b:=false) I r1 (.str z) rfl fun tk=>⟨.bl false,H,I.tok _,rfl,q⟩
 ·obtain⟨u,v,rfl,r1,r2⟩:=rv.two
  cases r2
  exact isinst_ok (t:=.type "int") (b:=false) I r1 (.int i) rfl fun tk=>⟨.bl false,H,I.tok _,rfl,q⟩
 ·exact call_isiTup pins s σ H _ us Q I rv ⟨a,ys,rfl,hq,q⟩
end
end L2
namespace L2
open PySem PySem.Spec PyProof.Rows
end L2
namespace L2
open PySem PySem.Spec PyProof.Rows
section
variable{X:Cx}{tg:Expr}
end
end L2
namespace HT
open PySem PySem.Spec PyProof.Rows
section
variable{prog:Program}{w:World}{K:Type}[DecidableEq K]{knd:KeyKind prog w K}{A:Around}{E:Value→Shared→Prop}{s:Shared}{r d:Addr}{kvs:List (K × Value)}{ep:Nat}
end
end HT
namespace L2
open PySem PySem.Spec PyProof.Rows
section
variable{X:Cx}
end
end L2
namespace HT
open PySem PySem.Spec PyProof.Rows
section
variable{prog:Program}{w:World}{A:Around}{E:Value→Shared→Prop}{s:Shared}
end
end HT
namespace L2
open PySem PySem.Spec PyProof.Rows
section
variable{X:Cx}
end
end L2
namespace L2
open PySem PySem.Spec PyProof.Rows
section
variable{X:Cx}
end
end L2
namespace L2
open PySem PySem.Spec PyProof.Rows
section
variable{P:Program}{w:World}
variable{K:PySem.W.Frag}{mg:Str→Option Value}{base:Heap}{N:List Str}{qual:Str}{scope:Scope}{f:Addr}{cd:Value}{A:Around}{outer:List Env}{s:Shared}{H:Hp}{E:XK}
end
end L2
namespace L2
open PySem PySem.Spec PyProof.Rows
section
variable{X:Cx}{tg:Expr}
end
end L2
namespace L2
open PySem PySem.Spec PyProof.Rows
section
variable{X:Cx}{pins:List (Addr × Obj)}{σ:St}{H:Hp}{s:Shared}{h':Heap}
theorem Inv.turnedL{t':Nat}{fp:List Addr}{p:Addr}{o:HO}(I:Inv X pins σ H s)(k:∀b ob,b∉fp→s.heap.get? b=some ob→h'.get? b=some ob)(hf:∀b∈fp,FpOk X pins H b)(hp:s.heap.objs.size≤p)
  (new:ObjOk X.prog X.w (upd H p o) h' p o):Inv X pins σ (upd H p o) { s with heap:=h',toks:=t' }:=by
 have hn:H p=none:=I.hok.fresh hp
 have nn:∀b u,H b=some u→b∉fp:=fun b u q z=>by rw [(hf b z).1] at q;cases q
 have lt:∀b ob,s.heap.get? b=some ob→b≠p:=fun b ob q z=>absurd (Nat.lt_of_lt_of_le (Heap.lt_size q) (by rw [z];exact hp)) (Nat.lt_irrefl _)
 refine I.step (g':=s.gens) (d':=s.drawn) (ch:=fp) (fun b hb=>?_) (fun b ob _ _ hc q _=>k b ob hc q) (fun b ob _ _ hc q _=>⟨ob.slots,k b ob hc q⟩) (fun b ob hc q n=>by rw [upd_ne (lt b ob q)];exact n)
  (fun b ob hc q=>⟨ob,k b ob hc q⟩) (fun b xs q=>by rw [upd_ne (ne_of_none q hn)];exact q) (fun b ob u q=>by rw [upd_ne (ne_of_none q hn)];exact q) (fun b ps q=>⟨#[],by rw [upd_ne (ne_of_none q hn),q];simp⟩) (fun m hm=>?_) (fun b u q=>?_) I.bare
 ·have fe:=hf b hb
  exact⟨fe.2.2.2.1,fe.2.1,fe.2.2.2.2.1,fe.2.2.2.2.2⟩
 ·obtain⟨ob,es,ep,q,r⟩:=hm
  exact⟨ob,es,ep,k _ ob (fun z=>(hf _ z).2.1 rfl) q,r⟩
 ·by_cases hb:b=p
  ·subst hb
   rw [upd_same] at q
   cases q
   exact new
  ·rw [upd_ne hb] at q
   refine(I.hok b u q).stay (fun c v hc z=>?_) (fun c z=>by rw [upd_ne (ne_of_none z hn)];exact z) fun c xs z=>by rw [upd_ne (ne_of_none z hn)];exact z
   rcases hc with hc|hc
   ·rw [hc] at z ⊢
    exact k b v (nn b u q) z
   ·exact k c v (nn c _ hc) z
theorem Inv.turnedR{t':Nat}{fp:List Addr}(I:Inv X pins σ H s)(k:∀b ob,b∉fp→s.heap.get? b=some ob→h'.get? b=some ob)(hf:∀b∈fp,FpOk X pins H b):Inv X pins σ H { s with heap:=h',toks:=t' }:=by
 have nn:∀b u,H b=some u→b∉fp:=fun b u q z=>by rw [(hf b z).1] at q;cases q
 refine I.step (g':=s.gens) (d':=s.drawn) (ch:=fp) (fun b hb=>?_) (fun b ob _ _ hc q _=>k b ob hc q) (fun b ob _ _ hc q _=>⟨ob.slots,k b ob hc q⟩) (fun b ob hc q n=>n)
  (fun b ob hc q=>⟨ob,k b ob hc q⟩) (fun b xs q=>q) (fun b ob u q=>q) (fun b ps q=>⟨#[],by rw [q];simp⟩) (fun m hm=>?_) (fun b u q=>?_) I.bare
 ·have fe:=hf b hb
  exact⟨fe.2.2.2.1,fe.2.1,fe.2.2.2.2.1,fe.2.2.2.2.2⟩
 ·obtain⟨ob,es,ep,q,r⟩:=hm
  exact⟨ob,es,ep,k _ ob (fun z=>(hf _ z).2.1 rfl) q,r⟩
 ·refine(I.hok b u q).stay (fun c v hc z=>?_) (fun c z=>z) fun c xs z=>z
  rcases hc with hc|hc
  ·rw [hc] at z ⊢
   exact k b v (nn b u q) z
  ·exact k c v (nn c _ hc) z
end
structure ZipFp(z TI TO i1 i2:Addr):Prop where
 TIz:TI≠z
 TOz:TO≠z
 i1z:i1≠z
 i2z:i2≠z
 TITO:TI≠TO
 TIi1:TI≠i1
 TIi2:TI≠i2
 TOi1:TO≠i1
 TOi2:TO≠i2
 i12:i1≠i2
section
variable{X:Cx}{es:List Expr}{k:Nat}{ps:Pos}
theorem bootZip:bootBuiltins "zip"=some (.type "zip"):=by decide +kernel
end
end L2
namespace L2
open PySem PySem.Spec PyProof.Rows
theorem among_snoc{p pos:Pos}{c cv:Value}(ls:List Value)(h:TriplesOk ls)(e:codeAmong p (ls++[rawInt pos.line,rawInt pos.col,c])=some cv) :
  codeAmong p ls=some cv∨(p.line=pos.line∧p.col=pos.col∧cv=c):=by
 fun_induction TriplesOk ls with
 |case1 =>
  simp only [List.nil_append,codeAmong,rawInt] at e
  split at e
  ·rename_i hc
   simp only [Bool.and_eq_true,beq_iff_eq] at hc
   cases e
   exact .inr ⟨by omega,by omega,rfl⟩
  ·cases e
 |case2 a t b u x rest ih =>
  simp only [List.cons_append,codeAmong] at e ⊢
  split at e
  ·rename_i hc;rw [if_pos hc];exact .inl e
  ·rename_i hc;rw [if_neg hc];exact ih h e
 |case3 ls h1 h2=>exact h.elim
theorem qualAt_same{p pos:Pos}(h1:p.line=pos.line)(h2:p.col=pos.col)(l:List Value):qualAt l p=qualAt l pos:=by
 fun_induction qualAt l p with
 |case1 p l t c t' q t'' r hc=>rw [qualAt,←h1,←h2,if_pos hc]
 |case2 p l t c t' q t'' r hc ih=>rw [qualAt,←h1,←h2,if_neg hc];exact ih h1 h2
 |case3 p l h=>rw [qualAt];exact h
section
variable{X:Cx}{pins:List (Addr × Obj)}{σ:St}{H:Hp}{s:Shared}{P c:Addr}{ps:Array Value}{pos:Pos}{q:Str}
theorem Inv.mgP(I:Inv X pins σ H s){o:HO}(hP:H P=some o):mainGlobals≠P:=fun z=>by
 obtain⟨ob,es,ep,e,_⟩:=I.mod.glob
 have:=(I.bs _ _ e).2
 rw [z,hP] at this;cases this
theorem Inv.bltAt(I:Inv X pins σ H s){o:HO}(hP:H P=some o):s.heap.BuiltinsAt X.mg P:=by
 obtain⟨bm,ob,b1,b2,b3,b4,b5,b6⟩:=I.mod.bmn
 refine⟨bm,ob,b1,b2,fun z=>?_,fun z=>?_,I.bk _ _ b3,b4,b5,b6⟩
 ·obtain⟨og,es,ep,e,d,_⟩:=I.mod.glob
  rw [z,e] at b3;cases b3;rw [d] at b6;cases b6
 ·have:=(I.bs _ _ b3).2
  rw [z,hP] at this;cases this
theorem Inv.hitC{h':Heap}{f:Addr}{fd:FuncData}{oc:Value}{tk:Nat}(I:Inv X pins σ H s)(hc:H c=some (.cod q))(k:∀b o,s.heap.get? b=some o→h'.get? b=some o)(hs:s.heap.objs.size≤h'.objs.size)(hf:f=h'.objs.size) :
  Inv X pins σ (upd (upd H c (.cod q)) f (.fnc fd)) { s with heap:=h'.push { cls:=oc,data:=.func fd },toks:=tk }:=by
 have e:upd H c (.cod q)=H:=by funext b;unfold upd;split<;>simp_all
 subst hf
 rw [e]
 exact I.laid (fun b u z=>Heap.get?_push_of_some _ (k b u z)) hs ⟨_,_,_,Heap.get?_push_size _ rfl⟩
theorem Inv.missC{h':Heap}{f c':Addr}{fd:FuncData}{oc:Value}{tk:Nat}{tb:Array Value}(I:Inv X pins σ H s)(hP:H P=some (.tbl ps))(hq:qualAt ps.toList pos=some q)(e:s.heap.get? P=some (PySem.W.tabObj tb))(tr:TriplesOk tb.toList)
  (al:∀(p:Pos) (q:Str),qualAt ps.toList p=some q→∀cv,codeAmong p tb.toList=some cv→∃c,cv=Value.ref c∧H c=some (.cod q))
  (hx:Heap.ExtBut P s.heap h') (hge:s.heap.objs.size≤c') (hlt:c' < h'.objs.size) (hrec:h'.CodeRec (.ref c') q) (htb:h'.get? P=some (PySem.W.tabObj (tb++#[rawInt pos.line,rawInt pos.col,.ref c']))) (hf:f=h'.objs.size) :
  Inv X pins σ (upd (upd H c' (.cod q)) f (.fnc fd)) { s with heap:=h'.push { cls:=oc,data:=.func fd },toks:=tk }:=by
 subst hf
 have lt:∀b u,H b=some u→b < s.heap.objs.size:=fun b u z=>Nat.lt_of_not_le fun y=>by rw [I.hok.fresh y] at z;cases z
 have new:∀b,b < s.heap.objs.size→upd (upd H c' (.cod q)) h'.objs.size (.fnc fd) b=H b:=fun b hb=>by
  rw [upd_ne (Nat.ne_of_lt (Nat.lt_trans (Nat.lt_of_lt_of_le hb hge) hlt)),upd_ne (Nat.ne_of_lt (Nat.lt_of_lt_of_le hb hge))]
 have kp:∀b o,b≠P→s.heap.get? b=some o→(h'.push { cls:=oc,data:=.func fd }).get? b=some o:=fun b o hb z=>Heap.get?_push_of_some _ (hx b o hb z)
 have nP:∀b,H b=none→b≠P:=fun b n z=>by rw [z,hP] at n;cases n
 refine I.step (g':=s.gens) (d':=s.drawn) (ch:=[]) (fun _ z=>nomatch z) (fun b ob _ _ _ z n=>kp b ob (nP b n) z) (fun b ob _ _ _ z n=>⟨ob.slots,kp b ob (nP b n) z⟩) (fun b ob _ z n=>by rw [new b (Heap.lt_size z)];exact n)
  (fun b ob _ z=>?_) (fun b xs z=>by rw [new b (lt _ _ z)];exact z) (fun b ob u z=>by rw [new b (lt _ _ z)];exact z) (fun b ps z=>⟨#[],by rw [new b (lt _ _ z),z];simp⟩) (fun m hm=>?_) (fun b u z=>?_) I.bare
 ·by_cases hb:b=P
  ·subst hb;exact⟨_,Heap.get?_push_of_some _ htb⟩
  ·exact⟨ob,kp b ob hb z⟩
 ·obtain⟨ob,es,ep,z,r⟩:=hm
  exact⟨ob,es,ep,kp _ ob (nP _ I.free) z,r⟩
 ·by_cases h1:b=h'.objs.size
  ·subst h1;rw [upd_same] at z;cases z
   exact⟨_,_,_,Heap.get?_push_size _ rfl⟩
  ·rw [upd_ne h1] at z
   by_cases h2:b=c'
   ·subst h2;rw [upd_same] at z;cases z
    obtain⟨c₂,oc',vs,t,e2,hoc,r⟩:=hrec
    cases e2
    exact⟨_,oc',vs,t,rfl,Heap.get?_push_of_some _ hoc,r⟩
   ·rw [upd_ne h2] at z
    by_cases h3:b=P
    ·subst h3
     rw [hP] at z;cases z
     have hl:(tb++#[rawInt pos.line,rawInt pos.col,Value.ref c']).toList=tb.toList++[rawInt pos.line,rawInt pos.col,.ref c']:=by simp
     refine⟨_,Heap.get?_push_of_some _ htb,by rw [hl];exact TriplesOk_snoc _ _ _ _ tr,fun p q' hq' cv hcv=>?_⟩
     rw [hl] at hcv
     rcases among_snoc _ tr hcv with hcv|⟨e1,e2,rfl⟩
     ·obtain⟨c,e1,e2⟩:=al p q' hq' cv hcv
      exact⟨c,e1,by rw [new c (lt _ _ e2)];exact e2⟩
     ·rw [qualAt_same e1 e2,hq] at hq'
      cases hq'
      exact⟨c',rfl,by rw [upd_ne (Nat.ne_of_lt hlt),upd_same]⟩
    ·refine(I.hok b u z).stay (fun a v ha y=>kp a v (fun w=>?_) y) (fun a y=>by rw [new a (lt _ _ y)];exact y) fun a xs y=>by rw [new a (lt _ _ y)];exact y
     subst w
     rcases ha with w|w
     ·exact h3 w.symm
     ·rw [hP] at w;cases w
def tLam(P:Addr)(pos:Pos)(q:Str)(mk:Addr→Value→FuncData):TE:=fun _ H Q=>(∃ps,H P=some (.tbl ps)∧qualAt ps.toList pos=some q) ∧
 ∀f c ctv,H f=none→f≠c→(H c=none∨H c=some (.cod q))→Q (.ref f) (upd (upd H c (.cod q)) f (.fnc (mk c ctv)))
theorem pe_lam{params:Arguments}{body:Expr}{scope:Scope}{clos:List (Str × Addr)}(hcode:X.env.code=.ref c)(C:PySem.W.CodeHd X.base c P) (hq:X.env.qual++"<lambda>"=q) (hdef:defaultsOf params X.env=([],[]):=by rfl) (hcl:closureFor scope X.env=pure clos:=by rfl) :
  PE X (.Lambda params body scope pos) (tLam P pos q fun c' ctv=>PySem.W.kla_fn "<lambda>" q params body scope clos ((X.mg "__name__").getD .none) (.ref c') ctv):=by
 intro pins s σ H Q I h
 obtain⟨⟨ps,hP,hqa⟩,h⟩:=h
 obtain⟨tb,e,tr,al⟩:=I.hok P _ hP
 refine PySem.W.kla_eval hdef ?_
 rw [hq]
 cases hh:codeAmong pos tb.toList with
 |some cv =>
  obtain⟨c',rfl,hc⟩:=al pos q hqa cv hh
  refine PySem.W.kla_makeFunctionHit (mg:=X.mg) hcl I.ok.glob (I.mod.glob.keeps I.bk) hcode (C.keeps I.bk) e tr hh (I.bltAt hP) fun ctv h' tk hk hsz=>?_
  have hn:H h'.objs.size=none:=I.hok.fresh hsz
  exact⟨.ref h'.objs.size,_,I.hitC hc hk hsz rfl,rfl,h _ c' ctv hn (fun z=>by rw [z,hc] at hn;cases hn) (.inr hc)⟩
 |none =>
  refine PySem.W.kla_makeFunction (mg:=X.mg) hcl I.ok.glob (I.mod.glob.keeps I.bk) hcode (C.keeps I.bk) e tr hh (I.mgP hP) (I.bltAt hP) fun c' ctv h' tk hx hge hlt hrec htb=>?_
  exact⟨.ref h'.objs.size,_,I.missC hP hqa e tr al hx hge hlt hrec htb rfl,rfl,h _ c' ctv (I.hok.fresh (Nat.le_trans hge (Nat.le_of_lt hlt))) (Nat.ne_of_gt hlt) (.inl (I.hok.fresh hge))⟩
end
end L2
namespace L2
open PySem PySem.Spec PyProof.Rows
def dropC(ads:List Addr)(H:Hp):Hp:=fun b=>if b∈ads then none else H b
def addC(ads:List Addr)(H H':Hp):Hp:=fun b=>if b∈ads then H b else H' b
theorem drop_in{ads:List Addr}{H:Hp}{b:Addr}(h:b∈ads):dropC ads H b=none:=if_pos h
theorem drop_no{ads:List Addr}{H:Hp}{b:Addr}(h:b∉ads):dropC ads H b=H b:=if_neg h
theorem add_in{ads:List Addr}{H H':Hp}{b:Addr}(h:b∈ads):addC ads H H' b=H b:=if_pos h
theorem add_no{ads:List Addr}{H H':Hp}{b:Addr}(h:b∉ads):addC ads H H' b=H' b:=if_neg h
abbrev Froz(H:Hp):List Addr→List V→Prop:=Paired fun c v=>∃o,H c=some (.frz o (.cel v))
def FrzAll(H:Hp)(ads:List Addr):Prop:=∀c∈ads,∃o v,H c=some (.frz o (.cel v))
theorem Froz.all{H:Hp}:∀{ads:List Addr} {cvs:List V},Froz H ads cvs→FrzAll H ads
 |_,_,.nil=>fun _ z=>nomatch z
 |_,_,.cons ⟨o,r⟩ t=>fun c hc=>by
  rcases List.mem_cons.mp hc with rfl|hc
  ·exact⟨o,_,r⟩
  ·exact Froz.all t c hc
theorem Froz.get{H:Hp}:∀{ads:List Addr} {cvs:List V} {i:Nat} {c:Addr},Froz H ads cvs→ads[i]?=some c→∃v o,cvs[i]?=some v∧H c=some (.frz o (.cel v))
 |_,_,_,_,.nil,e=>by simp at e
 |_,_,0,_,.cons ⟨o,r⟩ _,e=>by simp at e;subst e;exact⟨_,o,rfl,r⟩
 |_,_,i+1,c,.cons _ t,e=>by
  obtain⟨v,o,h1,h2⟩:=Froz.get (i:=i) (c:=c) t (by simpa using e)
  exact⟨v,o,by simpa using h1,h2⟩
theorem Froz.same{H H':Hp}(s:Same H H'):∀{ads:List Addr} {cvs:List V},Froz H ads cvs→Froz H' ads cvs
 |_,_,.nil=>.nil
 |_,_,.cons ⟨o,r⟩ t=>.cons ⟨o,s _ _ r⟩ (Froz.same s t)
theorem Same.dropC{H0 H:Hp}{ads:List Addr}(s:Same H0 H)(n:∀c∈ads,H0 c=none):Same H0 (dropC ads H):=fun b o e=>by
 rw [drop_no fun z=>by rw [n b z] at e;cases e]
 exact s b o e
theorem tup_drop{H:Hp}{ads:List Addr}(f:FrzAll H ads){b:Addr}{xs:List V}(e:H b=some (.tup xs)):dropC ads H b=some (.tup xs):=by
 rw [drop_no fun z=>by obtain⟨o,v,q⟩:=f b z;rw [e] at q;cases q]
 exact e
section
variable{P:Program}{w:World}{H H':Hp}{h h':Heap}{ads:List Addr}{fs:List Addr}
theorem HOk.drop(x:HOk P w H h)(f:FrzAll H ads):HOk P w (dropC ads H) h:=fun b u e=>by
 by_cases hb:b∈ads
 ·rw [drop_in hb] at e;cases e
 ·rw [drop_no hb] at e
  have no:∀a o,H a=some o→(∀ob v,o≠.frz ob (.cel v))→dropC ads H a=some o:=fun a o z n=>by
   rw [drop_no fun y=>by obtain⟨ob,v,q⟩:=f a y;rw [z] at q;exact n ob v (Option.some.inj q)]
   exact z
  exact(x b u e).stay (fun _ _ _ q=>q) (fun a z=>no a _ z fun _ _=>nofun) fun a xs z=>no a _ z (by cases xs<;>exact fun _ _=>nofun)
theorem HOk.add(x:HOk P w H h)(x':HOk P w H' h')(f:FrzAll H ads)(n:∀c∈ads,H' c=none)(k:∀c∈ads,∀o,h.get? c=some o→h'.get? c=some o):HOk P w (addC ads H H') h':=fun b u e=>by
 by_cases hb:b∈ads
 ·rw [add_in hb] at e
  obtain⟨o,v,q⟩:=f b hb
  rw [q] at e;cases e
  obtain⟨e1,u,r,ob,e2,d⟩:=x b _ q
  exact⟨k b hb _ e1,u,r,ob,k b hb _ e2,d⟩
 ·rw [add_no hb] at e
  have no:∀a o,H' a=some o→addC ads H H' a=some o:=fun a o z=>by
   rw [add_no fun y=>by rw [n a y] at z;cases z]
   exact z
  exact(x' b u e).stay (fun _ _ _ q=>q) (fun a z=>no a _ z) fun a xs z=>no a _ z
theorem Un.drop(x:HOk P w H h)(x':HOk P w H' h')(f:FrzAll H ads)(u:Un fs [] H H' h h'):Un fs [] (dropC ads H) (dropC ads H') h h':=by
 have f':FrzAll H' ads:=fun c hc=>let ⟨o,v,e⟩:=f c hc;⟨o,v,u.frzs _ _ _ e⟩
 have no:∀a o,H a=some o→(∀ob v,o≠.frz ob (.cel v))→a∉ads:=fun a o z n y=>by obtain⟨ob,v,q⟩:=f a y;rw [z] at q;exact n ob v (Option.some.inj q)
 have kp:∀b o,b∈ads→h.get? b=some o→h'.get? b=some o:=fun b o hb e=>by
  obtain⟨o1,v,q⟩:=f b hb
  obtain⟨e1,_⟩:=x b _ q
  obtain⟨e2,_⟩:=x' b _ (u.frzs _ _ _ q)
  rw [e] at e1;cases e1;exact e2
 refine⟨fun b o e n hb hx=>?_,fun b o e n hb hx=>?_,fun b o e n hx=>?_,u.there,fun b xs e=>?_,fun b o v e=>?_,fun b ps e=>?_⟩
 ·by_cases hc:b∈ads
  ·exact kp b o hc e
  ·rw [drop_no hc] at n;exact u.keep b o e n hb hx
 ·by_cases hc:b∈ads
  ·exact⟨o.slots,kp b o hc e⟩
  ·rw [drop_no hc] at n;exact u.slot b o e n hb hx
 ·by_cases hc:b∈ads
  ·exact drop_in hc
  ·rw [drop_no hc] at n ⊢;exact u.free b o e n hx
 ·by_cases hc:b∈ads
  ·rw [drop_in hc] at e;cases e
  ·rw [drop_no hc] at e ⊢;exact u.tups b xs e
 ·by_cases hc:b∈ads
  ·rw [drop_in hc] at e;cases e
  ·rw [drop_no hc] at e ⊢;exact u.frzs b o v e
 ·by_cases hc:b∈ads
  ·rw [drop_in hc] at e;cases e
  ·rw [drop_no hc] at e ⊢;exact u.tbls b ps e
theorem Un.adds(x:HOk P w H h)(f:FrzAll H ads)(nf:∀c∈ads,c∉fs)(u:Un fs [] (dropC ads H) H' h h') :
  Un fs [] H (addC ads H H') h h'∧(∀c∈ads,H' c=none)∧∀c∈ads,∀o,h.get? c=some o→h'.get? c=some o:=by
 have th:∀c∈ads,∃o,h.get? c=some o:=fun c hc=>let ⟨o,v,e⟩:=f c hc;⟨o,(x c _ e).1⟩
 refine⟨⟨fun b o e n hb hx=>?_,fun b o e n hb hx=>?_,fun b o e n hx=>?_,u.there,fun b xs e=>?_,fun b o v e=>?_,fun b ps e=>?_⟩,fun c hc=>let ⟨o,e⟩:=th c hc;u.free c o e (drop_in hc) (by simp),fun c hc o e=>u.keep c o e (drop_in hc) (nf c hc) (by simp)⟩
 ·exact u.keep b o e (by unfold dropC;split<;>first|rfl|exact n) hb hx
 ·exact u.slot b o e (by unfold dropC;split<;>first|rfl|exact n) hb hx
 ·by_cases hc:b∈ads
  ·rw [add_in hc];exact n
  ·rw [add_no hc];exact u.free b o e (by rw [drop_no hc];exact n) hx
 ·by_cases hc:b∈ads
  ·rw [add_in hc];exact e
  ·rw [add_no hc];exact u.tups b xs (by rw [drop_no hc];exact e)
 ·by_cases hc:b∈ads
  ·rw [add_in hc];exact e
  ·rw [add_no hc];exact u.frzs b o v (by rw [drop_no hc];exact e)
 ·by_cases hc:b∈ads
  ·exact⟨#[],by rw [add_in hc,e];simp⟩
  ·obtain⟨m,z⟩:=u.tbls b ps (by rw [drop_no hc];exact e)
   exact⟨m,by rw [add_no hc];exact z⟩
end
structure CXF(P:Program)(w:World)(CX:CXT):Prop where
 drop:∀(outer:List Env) (H:Hp) (ads:List Addr) (s:Shared) (E:XK) (e:Value) (s':Shared),HOk P w H s.heap→FrzAll H ads→CX outer H s (fun c d H'=>E c d (dropC ads H')) e s'→CX outer (dropC ads H) s E e s'
 add:∀(outer:List Env) (H:Hp) (ads:List Addr) (s:Shared) (E:XK) (e:Value) (s':Shared),HOk P w H s.heap→FrzAll H ads→(∀b∈frs outer,H b=none)→CX outer (dropC ads H) s (fun c d H'=>(∀a∈ads,H' a=none)→E c d (addC ads H H')) e s'→CX outer H s E e s'
theorem cxf1{P:Program}{w:World}:CXF P w (CX1 P w) where
 drop:=fun outer H ads s E e s' ok f h=>by
  obtain⟨x,cls,d,H',rfl,fl,hd,hE⟩:=h
  have f':FrzAll H' ads:=fun c hc=>let ⟨o,v,e⟩:=f c hc;⟨o,v,fl.un.frzs _ _ _ e⟩
  obtain⟨B,a0,g,c1,c2⟩:=fl.fl
  refine⟨x,cls,d,dropC ads H',rfl,⟨fl.os,fl.bare,Un.drop ok fl.hok f fl.un,fl.hok.drop f',⟨B,a0,g,fun b o e=>c1 b o ?_,c2⟩,?_⟩,hd,hE⟩
  ·by_cases hb:b∈ads
   ·rw [drop_in hb] at e;cases e
   ·rw [drop_no hb] at e;exact e
  ·unfold dropC;split
   ·rfl
   ·exact fl.free
 add:=fun outer H ads s E e s' ok f nf h=>by
  obtain⟨x,cls,d,H',rfl,fl,hd,hE⟩:=h
  obtain⟨B,a0,g,c1,c2⟩:=fl.fl
  have na:∀c∈ads,c∉frs outer:=fun c hc z=>by obtain⟨o,v,e⟩:=f c hc;rw [nf c z] at e;cases e
  obtain⟨u,n,k⟩:=Un.adds ok f na fl.un
  have inB:∀c∈ads,∃u,B.get? c=some u:=fun c hc=>by
   obtain⟨o,v,e⟩:=f c hc
   exact c2 c o (ok c _ e).1 (na c hc)
  refine⟨x,cls,d,addC ads H H',rfl,⟨fl.os,fl.bare,u,HOk.add ok fl.hok f n k,⟨B,a0,g,fun b o e=>?_,c2⟩,?_⟩,hd,hE n⟩
  ·by_cases hb:b∈ads
   ·exact inB b hb
   ·rw [add_no hb] at e;exact c1 b o e
  ·rw [add_no fun z=>by obtain⟨u,e⟩:=inB x z;rw [g.2.1] at e;cases e]
   exact fl.free
inductive CapsOk (X:Cx):List (Nat × Str × Addr)→Prop
 |nil:CapsOk X []
 |cons {i:Nat} {y:Str} {c:Addr} {l:List (Nat × Str × Addr)} (h1:X.N[i]?=some y) (h2:X.env.kindOf y=some .cell) (h3:X.env.cells.lookup y=some c) (h4:X.fn y=true) (r:CapsOk X l):CapsOk X ((i,y,c)::l)
theorem CapsOk.mem{X:Cx}:∀{l:List (Nat × Str × Addr)},CapsOk X l→∀p∈l,X.N[p.1]?=some p.2.1∧X.env.kindOf p.2.1=some .cell∧X.env.cells.lookup p.2.1=some p.2.2∧X.fn p.2.1=true
 |_,.nil=>fun _ z=>nomatch z
 |_,.cons h1 h2 h3 h4 r=>fun p hp=>by
  rcases List.mem_cons.mp hp with rfl|hp
  ·exact⟨h1,h2,h3,h4⟩
  ·exact r.mem p hp
theorem CapsOk.nodup{X:Cx}(ok:X.Ok):∀{l:List (Nat × Str × Addr)},CapsOk X l→(l.map (·.2.1)).Nodup→(l.map (·.2.2)).Nodup
 |_,.nil,_=>List.nodup_nil
 |_,.cons (y:=y) (c:=c) h1 h2 h3 _ r,nd=>by
  obtain⟨n1,n2⟩:=List.nodup_cons.mp nd
  refine List.nodup_cons.mpr ⟨fun z=>?_,r.nodup ok n2⟩
  obtain⟨p,hp,e⟩:=List.mem_map.mp z
  have h4:=(r.mem p hp).2.2.1
  have e':p.2.2=c:=e
  rw [e'] at h4
  have:p.2.1=y:=ok.inj _ _ _ h4 h3
  exact n1 (List.mem_map.mpr ⟨p,hp,this⟩)
theorem froz_mk{X:Cx}{pins:List (Addr × Obj)}{σ:St}{H:Hp}{s:Shared}(I:Inv X pins σ H s):∀{l:List (Nat × Str × Addr)} {cvs:List V},CapsOk X l→(l.map (·.2.2)).Nodup→Paired (fun p v=>σ[p.1]?=some (some v)) l cvs →
  ∃g:Addr→Option HO,Froz g (l.map (·.2.2)) cvs∧(∀c,c∉l.map (·.2.2)→g c=none)∧∀c o,g c=some o→∃ob v,o=.frz ob (.cel v)∧s.heap.get? c=some ob∧∃u,RelV v u∧s.heap.IsCell c (some u)
 |_,_,.nil,_,.nil=>⟨fun _=>none,.nil,fun _ _=>rfl,fun _ _ z=>nomatch z⟩
 |_,_,.cons (i:=i) (y:=y) (c:=c) h1 h2 h3 _ r,nd,.cons (b:=v) e t=>by
  obtain⟨n1,n2⟩:=List.nodup_cons.mp nd
  obtain⟨g,f1,f2,f3⟩:=froz_mk I r n2 t
  obtain⟨m,hn,hl⟩:=I.loc
  obtain⟨u,rv,lk⟩:=hl i y v h1 e (.inr (.inl h2))
  have cel:s.heap.IsCell c (some u):=by
   rcases lk with ⟨k,_⟩|⟨_,c',e1,e2⟩
   ·rw [h2] at k;cases k
   ·rw [h3] at e1;cases e1;exact e2
  obtain⟨ob,ho,hd⟩:=id cel
  refine⟨fun b=>if b=c then some (.frz ob (.cel v)) else g b,.cons ⟨ob,if_pos rfl⟩ ?_,fun b hb=>?_,fun b o z=>?_⟩
  ·have up:∀{as:List Addr} {vs:List V},c∉as→Froz g as vs→Froz (fun b=>if b=c then some (.frz ob (.cel v)) else g b) as vs:=by
    intro as
    induction as with
    |nil=>intro vs _ h;cases h;exact .nil
    |cons a as ih =>
     intro vs hn h
     cases h with
     |cons r t =>
      obtain⟨o,r⟩:=r
      exact .cons ⟨o,(if_neg fun z=>hn (by rw [←z];exact .head _)).trans r⟩ (ih (fun z=>hn (.tail _ z)) t)
   exact up n1 f1
  ·have:b≠c:=fun z=>hb (by rw [z];exact .head _)
   show(if b=c then _ else _)=_
   rw [if_neg this]
   exact f2 b fun z=>hb (.tail _ z)
  ·by_cases hb:b=c
   ·subst hb
    have z':=(if_pos rfl).symm.trans z
    cases z'
    exact⟨ob,v,rfl,ho,u,rv,cel⟩
   ·have z':=(if_neg hb).symm.trans z
    exact f3 b o z'
section
variable{X:Cx}{CX:CXT}{k:Nat}{f C:Addr}{fd:FuncData}{ps:List Str}{sp:Sp}{dvs:List V}{ds:List Value}{E:XK}{x m:Str}{p pos apos:Pos}{e o:Expr}{es:List Expr}{ta:TE}{t:TA}
theorem run_fnF{pins:List (Addr × Obj)}{σ:St}{H:Hp}{s:Shared}{Q:VK}{us:List Value}{vs cvs:List V}{l:List (Nat × Str × Addr)}(fx:CXF X.prog X.w CX)(F:FnOk X.prog X.w X.K X.mg X.base CX k f fd ps sp)(hr:Room k X.A)(hb:Binds X.K fd ps ds)(hd:Vals dvs ds)(hx:∀(e:Value) (s':Shared),CX X.stack H s E e s'→X.xe e s')
  (hl:CapsOk X l) (hnd:(l.map (·.2.1)).Nodup) (I:Inv X pins σ H s) (r:Vals vs us) (hc:Paired (fun p v=>σ[p.1]?=some (some v)) l cvs)
  (h:∀H2,dropC (l.map (·.2.2)) H2=H→Same H H2→(∀c∈l.map (·.2.2),H c=none)→Froz H2 (l.map (·.2.2)) cvs→sp (vs++dvs) H2 (fun v H'=>Q v (dropC (l.map (·.2.2)) H')) (fun c d H'=>E c d (dropC (l.map (·.2.2)) H'))):wpAny (model X.prog X.w) X.A (call (.ref f) us) (EP X pins σ Q) X.xe s:=by
 have nd:=hl.nodup I.ok hnd
 obtain⟨g,g1,g2,g3⟩:=froz_mk I hl nd hc
 have cn:∀c∈l.map (·.2.2),H c=none:=fun c hc=>by
  obtain⟨p,hp,rfl⟩:=List.mem_map.mp hc
  exact I.freeC _ _ (hl.mem p hp).2.2.1
 have hnF:∀c∈l.map (·.2.2),c∉frs X.stack:=fun c hc z=>by
  obtain⟨p,hp,rfl⟩:=List.mem_map.mp hc
  rcases List.mem_cons.mp (I.stkSub _ z) with y|y
  ·exact I.cne _ _ (hl.mem p hp).2.2.1 y
  ·obtain⟨_,of,hof,_⟩:=I.ok.funs.mem y
   exact Nat.lt_irrefl _ (Nat.lt_of_lt_of_le (Heap.lt_size hof) (I.ok.cab _ _ (hl.mem p hp).2.2.2 (hl.mem p hp).2.2.1))
 have hnB:∀c∈l.map (·.2.2),X.base.get? c=none:=fun c hc=>by
  obtain⟨p,hp,rfl⟩:=List.mem_map.mp hc
  exact Heap.get?_none_of_le (Nat.le_trans I.ok.bsz (I.ok.cab _ _ (hl.mem p hp).2.2.2 (hl.mem p hp).2.2.1))
 generalize hads:l.map (·.2.2)=ads at *
 have hH2:∃H2:Hp,dropC ads H2=H∧Same H H2∧Froz H2 ads cvs∧∀b o,H2 b=some o→(b∉ads∧H b=some o)∨(b∈ads∧g b=some o):=by
  refine⟨fun b=>if b∈ads then g b else H b,?_,fun b o e=>?_,?_,fun b o e=>?_⟩
  ·funext b
   unfold dropC
   by_cases hb:b∈ads
   ·rw [if_pos hb];exact(cn b hb).symm
   ·rw [if_neg hb];exact if_neg hb
  ·show(if b∈ads then g b else H b)=_
   rw [if_neg fun z=>by rw [cn b z] at e;cases e]
   exact e
  ·have up:∀{as:List Addr} {vs:List V},(∀a∈as,a∈ads)→Froz g as vs→Froz (fun b=>if b∈ads then g b else H b) as vs:=by
    intro as
    induction as with
    |nil=>intro vs _ h;cases h;exact .nil
    |cons a as ih =>
     intro vs hn h
     cases h with
     |cons r t =>
      obtain⟨o,r⟩:=r
      exact .cons ⟨o,(if_pos (hn _ (.head _))).trans r⟩ (ih (fun z hz=>hn z (.tail _ hz)) t)
   exact up (fun _ z=>z) g1
  ·by_cases hb:b∈ads
   ·exact .inr ⟨hb,(if_pos hb).symm.trans e⟩
   ·exact .inl ⟨hb,(if_neg hb).symm.trans e⟩
 obtain⟨H2,e2,sm,fz,cs⟩:=hH2
 have ok2:HOk X.prog X.w H2 s.heap:=fun b o e=>by
  rcases cs b o e with ⟨_,q⟩|⟨_,q⟩
  ·exact(I.hok b o q).stay (fun _ _ _ z=>z) (fun a z=>sm a _ z) fun a xs z=>sm a _ z
  ·obtain⟨ob,v,rfl,h1,u,h2,h3⟩:=g3 b o q
   exact⟨h1,u,h2,h3⟩
 have e0:=I.env0
 have e02:Env0 X.prog X.w X.K X.mg X.base X.A X.stack s H2:=⟨e0.frames,e0.mod,fun b o e=>⟨(e0.bs b o e).1,?_⟩,e0.bsz,e0.funs,fun b hb=>?_,ok2,e0.bare⟩
 ·have r2:Vals (vs++dvs) (us++ds):=r.append hd
  have hq:=h H2 e2 sm cn fz
  have hlen:(us++ds).length=ps.length:=by rw [←r2.length];exact F.len _ _ _ _ hq
  refine wpAny_call (codeAny_mono (F.run X.A X.stack s H2 ⟨us,[]⟩ (us++ds) (vs++dvs) _ _ hr e02 (hb s us I.kIn hlen) r2 hq) fun r s' hq=>?_)
  have fa:=fz.all
  cases r with
  |error e=>exact hx e s' (by rw [←e2];exact fx.drop _ _ _ _ _ _ _ ok2 fa hq)
  |ok fl =>
   cases fl with
   |ret u =>
    obtain⟨v,H',os,bare,un,hok,rv,q⟩:=hq
    have f':FrzAll H' ads:=fun c hc=>let ⟨o,v,e⟩:=fa c hc;⟨o,v,un.frzs _ _ _ e⟩
    exact I.after ⟨v,dropC ads H',os,bare,e2▸Un.drop ok2 hok fa un,hok.drop f',rv,q⟩
   |next=>exact False.elim hq
   |brk=>exact False.elim hq
   |cont=>exact False.elim hq
 ·cases q:H2 b with
  |none=>rfl
  |some u =>
   rcases cs b u q with ⟨_,z⟩|⟨hb,z⟩
   ·rw [(e0.bs b o e).2] at z;cases z
   ·rw [hnB b hb] at e;cases e
 ·cases q:H2 b with
  |none=>rfl
  |some u =>
   rcases cs b u q with ⟨_,z⟩|⟨hc,z⟩
   ·rw [e0.frf b hb] at z;cases z
   ·exact absurd hb (hnF b hc)
def tCallF(sp:Sp)(dvs:List V)(E:XK)(l:List (Nat × Str × Addr))(t:TA):TE:=fun σ H Q=>t σ H fun vs H1=>∃cvs,Paired (fun p v=>σ[p.1]?=some (some v)) l cvs ∧
 ∀H2,dropC (l.map (·.2.2)) H2=H1→Same H1 H2→(∀c∈l.map (·.2.2),H1 c=none)→Froz H2 (l.map (·.2.2)) cvs→sp (vs++dvs) H2 (fun v H'=>Q v (dropC (l.map (·.2.2)) H')) (fun c d H'=>E c d (dropC (l.map (·.2.2)) H'))
theorem pe_callFE{l:List (Nat × Str × Addr)}{E:St→XK}(fx:CXF X.prog X.w CX)(F:FnOk X.prog X.w X.K X.mg X.base CX k f fd ps sp)(hr:Room k X.A)(hg:Gl X x)(hm:X.mg x=some (.ref f))(hk:PySem.W.keepIn X.K (.ref f)=true)(hb:Binds X.K fd ps ds)(hd:Vals dvs ds)
  (hx:∀(pins:List (Addr × Obj)) (σ:St) (H:Hp) (s:Shared) (e:Value) (s':Shared),Inv X pins σ H s→CX X.stack H s (E σ) e s'→X.xe e s')
  (hl:CapsOk X l) (hnd:(l.map (·.2.1)).Nodup) (ha:PA X (e::es) t) (hdb:(x==("__debug__":Str))=false:=by decide) (he:starEach (e::es) X.env=(false,eval e X.env)::starEach es X.env:=by rfl) (hpl:(backTo pos (starEach es X.env)).any (·.1)=false:=by rfl) :
  PE X (.Call (.Name x p) (e::es) [] pos) (fun σ H Q=>tCallF sp dvs (E σ) l t σ H Q):=by
 intro pins s σ H Q I h
 refine wpAny_Call_Name_kw (ld_glob I hg hm ?_ hdb)
 refine PySem.W.callWith_K (h₀:=X.base) I.ok.mod.kin hk (thn (ha pos pins s σ H _ I h) fun us s1 ⟨vs,H1,I1,r,q⟩=>⟨I1.kIn,?_⟩) he hpl
 obtain⟨cvs,hc,q⟩:=q
 exact run_fnF fx F hr hb hd (fun e s'=>hx pins σ H1 s1 e s' I1) hl hnd I1 r hc q
def tCallV(X:Cx)(CX:CXT)(E:XK)(i:Nat)(t:TA):TE:=fun σ H Q=>∃f fd,σ[i]?=some (some (.ref f))∧H f=some (.fnc fd)∧t σ H fun vs H1=>∃fd ps sp k,H1 f=some (.fnc fd)∧FnOk X.prog X.w X.K X.mg X.base CX k f fd ps sp∧Room k X.A∧Binds X.K fd ps []∧sp vs H1 Q E
theorem Inv.fnAt{pins:List (Addr × Obj)}{σ:St}{H:Hp}{s:Shared}(I:Inv X pins σ H s)(h:H f=some (.fnc fd)):PySem.W.FnAt f s.heap:=let ⟨oc,od,sl,e⟩:=I.hok f _ h;⟨oc,od,fd,sl,e⟩
theorem pe_callV{i:Nat}(hN:PE X (.Name x p) (tVar i))(hx:Passes CX X E)(ha:PA X (e::es) t)(he:starEach (e::es) X.env=(false,eval e X.env)::starEach es X.env:=by rfl)(hpl:(backTo pos (starEach es X.env)).any (·.1)=false:=by rfl) :
  PE X (.Call (.Name x p) (e::es) [] pos) (tCallV X CX E i t):=by
 intro pins s σ H Q I h
 obtain⟨f,fd,hi,hf,h⟩:=h
 refine wpAny_Call_Name_kw (thn (hN pins s σ H (fun v H'=>v=.ref f∧H'=H) I ⟨_,hi,rfl,rfl⟩) fun u s1 ⟨v,H1,I1,rv,e1,e2⟩=>?_)
 subst e1;subst e2
 obtain rfl:u=Value.ref f:=rv
 refine PySem.W.callWith_F (I1.fnAt hf) (thn (ha pos pins s1 σ H1 _ I1 h) fun us s2 ⟨vs,H2,I2,r,q⟩=>?_) he hpl
 obtain⟨fd,ps,sp,k,hf2,F,hr,hb,q⟩:=q
 exact⟨I2.fnAt hf2,run_fn (dvs:=[]) F hr hb .nil hx I2 r (by rw [List.append_nil];exact q)⟩
end
end L2
namespace L2
open PySem PySem.Spec PyProof.Rows
structure CloScope(ps caps:List Str)(sc:Scope):Prop where
 kind:sc.kind=.function
 co:sc.isCoroutine=false
 gen:sc.isGenerator=false
 nd:(ps++caps).Nodup
 par:∀x∈ps,sc.names.lookup x=some .local
 cap:∀x∈caps,sc.names.lookup x=some .free
 nocell:∀y∈sc.names,y.2≠.cell
 free:∀y∈sc.names,y.2=.free→y.1∈caps
def cxClo(CX:CXT)(P:Program)(w:World)(K:PySem.W.Frag)(mg:Str→Option Value)(base:Heap)(N:List Str)(qual:Str)(scope:Scope)(f:Addr)(cd:Value)(cl:List (Str × Addr))(A:Around)(outer:List Env)(s:Shared)(H:Hp)(E:XK):Cx where
 prog:=P
 w:=w
 K:=K
 mg:=mg
 base:=base
 A:=A.deeper (PySem.W.envX qual scope s.heap.objs.size f cd cl)
 N:=N
 s₀:=s
 H₀:=H
 env:=PySem.W.envX qual scope s.heap.objs.size f cd cl
 outer:=outer
 stack:=PySem.W.envX qual scope s.heap.objs.size f cd cl::outer
 ex:=[]
 calm:=true
 fn:=fun _=>false
 pn:=[]
 xe:=fun e s'=>wpAny (model P w) (A.deeper (PySem.W.envX qual scope s.heap.objs.size f cd cl)) (leaving (PySem.W.envX qual scope s.heap.objs.size f cd cl) e) (fun _ s''=>CX outer H s E e s'') (fun e' s''=>CX outer H s E e' s'') s'
theorem zip_lookup{y:Str}{c:Addr}:∀{caps:List Str} {ads:List Addr},(caps.zip ads).lookup y=some c→∃i:Nat,caps[i]?=some y∧ads[i]?=some c
 |[],_,h=>by cases h
 |_::_,[],h=>by cases h
 |a::caps,b::ads,h=>by
  rw [List.zip_cons_cons,List.lookup_cons] at h
  cases q:y==a with
  |true=>rw [q] at h;cases h;exact⟨0,by rw [eq_of_beq q];rfl,rfl⟩
  |false=>rw [q] at h;obtain⟨i,h1,h2⟩:=zip_lookup h;exact⟨i+1,h1,h2⟩
theorem lookup_zip{y:Str}:∀{caps:List Str} {ads:List Addr} {i:Nat},caps.length=ads.length→caps.Nodup→caps[i]?=some y→∃c,(caps.zip ads).lookup y=some c∧ads[i]?=some c
 |[],_,_,_,_,h=>by simp at h
 |_::_,[],_,l,_,_=>by simp at l
 |a::caps,b::ads,0,_,_,h=>by
  simp at h;subst h
  exact⟨b,by rw [List.zip_cons_cons,List.lookup_cons];simp,rfl⟩
 |a::caps,b::ads,i+1,l,nd,h=>by
  obtain⟨n1,n2⟩:=List.nodup_cons.mp nd
  have h':caps[i]?=some y:=by simpa using h
  obtain⟨c,h1,h2⟩:=lookup_zip (i:=i) (ads:=ads) (by simpa using l) n2 h'
  refine⟨c,?_,h2⟩
  rw [List.zip_cons_cons,List.lookup_cons]
  have:(y==a)=false:=beq_eq_false_iff_ne.mpr fun z=>n1 (by rw [←z];exact List.mem_of_getElem? h')
  rw [this];exact h1
theorem rev_lookup{y:Str}{u:Value}:∀{ps:List Str} {us:List Value} {i:Nat},ps.Nodup→ps[i]?=some y→us[i]?=some u→(ps.zip us).reverse.lookup y=some u
 |[],_,_,_,h,_=>by simp at h
 |_::_,[],_,_,_,h=>by simp at h
 |a::ps,b::us,i,nd,h1,h2=>by
  obtain⟨n1,n2⟩:=List.nodup_cons.mp nd
  rw [List.zip_cons_cons,List.reverse_cons,List.lookup_append]
  cases i with
  |zero =>
   simp at h1 h2;subst h1;subst h2
   have:(ps.zip us).reverse.lookup a=none:=List.lookup_eq_none_iff.mpr fun p hp=>by
    have:=(List.of_mem_zip (List.mem_reverse.mp hp)).1
    have q:a≠p.1:=fun z=>n1 (by rw [z];exact this)
    simpa using q
   rw [this];simp
  |succ i=>rw [rev_lookup (i:=i) n2 (by simpa using h1) (by simpa using h2)];rfl
theorem Froz.len{H:Hp}{ads:List Addr}{cvs:List V}(f:Froz H ads cvs):ads.length=cvs.length:=Paired.length f
theorem inv_clo{CX:CXT}{P:Program}{w:World}{K:PySem.W.Frag}{mg:Str→Option Value}{base:Heap}{ps caps:List Str}{qual:Str}{scope:Scope}{f:Addr}{cd:Value}{ads:List Addr}{cvs:List V}{A:Around}{outer:List Env}{s:Shared}{h₁:Heap}{tk:Nat}{H:Hp}{E:XK}{us:List Value}{vs:List V}
  (S:CloScope ps caps scope) (hd:A.handled=none) (e0:Env0 P w K mg base A outer s H) (hl:vs.length=ps.length) (r:Vals vs us) (fz:Froz H ads cvs) (hc:caps.length=ads.length) (nd:ads.Nodup)
  (hns:h₁.Ns s.heap.objs.size (fun x=>(ps.zip us).reverse.lookup x)) (hk:∀b o,s.heap.get? b=some o→h₁.get? b=some o) :
  Inv (cxClo CX P w K mg base (ps++caps) qual scope f cd (caps.zip ads) A outer s (dropC ads H) E) [] (start (ps++caps) (vs++cvs)) (dropC ads H) { s with heap:=h₁,toks:=tk }:=by
 have noA:∀b:Addr,b∉(cxClo CX P w K mg base (ps++caps) qual scope f cd (caps.zip ads) A outer s (dropC ads H) E).ex:=fun b z=>absurd (show b∈([]:List Addr) from z) (by simp)
 have ndp:ps.Nodup:=S.nd.sublist (List.sublist_append_left _ _)
 have ndc:caps.Nodup:=S.nd.sublist (List.sublist_append_right _ _)
 have fa:=fz.all
 have dn:∀b,H b=none→dropC ads H b=none:=fun b n=>by unfold dropC;split<;>first|rfl|exact n
 have cin:∀y c,(caps.zip ads).lookup y=some c→c∈ads:=fun y c h=>let ⟨_,_,h2⟩:=zip_lookup h;List.mem_of_getElem? h2
 have cel:∀c∈ads,∀o v,H c=some (.frz o (.cel v))→∃u,RelV v u∧h₁.IsCell c (some u):=fun c _ o v e=>by
  obtain⟨_,u,rv,ic⟩:=e0.hok c _ e
  exact⟨u,rv,ic.keeps hk⟩
 refine⟨⟨e0.mod,S.kind,rfl,rfl,Nat.le_refl _,fun y z c h1 h2=>?_,fun y hy=>?_,(fun y c h _=>absurd (show false=true from h) Bool.false_ne_true),fun _=>hd,Around.frames_deeper e0.frames,.inr ⟨rfl,rfl⟩,fun b z=>absurd z (noA b),fun b o e=>⟨(e0.bs b o e).1,dn b (e0.bs b o e).2⟩,e0.bsz,fun b _ _=>noA b,fun b z=>absurd z (noA b),e0.funs,fun b hb=>dn b (e0.frf b hb)⟩,
  rfl,e0.bare,Un.kept hk,⟨_,hns,fun i y v h1 h2 h3=>?_⟩,fun y c h=>?_,dn _ (e0.hok.fresh (Nat.le_refl _)),fun y c h=>drop_in (cin y c h),fun p hp=>absurd (show p∈([]:List (Addr × Obj)) from hp) (by simp),(HOk.drop e0.hok fa).kept hk,?_⟩
 ·obtain⟨i,a1,a2⟩:=zip_lookup h1
  obtain⟨j,b1,b2⟩:=zip_lookup h2
  obtain⟨i1,i2⟩:=List.getElem?_eq_some_iff.mp a2
  obtain⟨j1,j2⟩:=List.getElem?_eq_some_iff.mp b2
  have:i=j:=(List.getElem_inj nd).mp (i2.trans j2.symm)
  subst this
  rw [a1] at b1;exact Option.some.inj b1
 ·have hy:scope.names.lookup y=some .cell∨scope.names.lookup y=some .free:=hy
  rcases hy with hy|hy
  ·exact absurd rfl (S.nocell _ (PySem.mem_of_lookup hy))
  ·have:=S.free _ (PySem.mem_of_lookup hy) rfl
   obtain⟨i,hi⟩:=List.getElem?_of_mem this
   obtain⟨c,h1,_⟩:=lookup_zip hc ndc hi
   exact⟨c,h1⟩
 ·unfold start at h2
  have hlc:=fz.len
  have ei:(vs++cvs)[i]?=some v:=by
   by_cases hi:i < (vs++cvs).length
   ·rw [List.getElem?_append_left (by simpa using hi),List.getElem?_map] at h2
    cases e:(vs++cvs)[i]? with
    |none=>rw [e] at h2;cases h2
    |some a=>rw [e] at h2;cases h2;rfl
   ·rw [List.getElem?_append_right (by simpa using hi),List.getElem?_replicate] at h2
    split at h2<;>cases h2
  by_cases hi:i < ps.length
  ·have hy:ps[i]?=some y:=by rw [←h1];exact(List.getElem?_append_left hi).symm
   rw [List.getElem?_append_left (by omega)] at ei
   obtain⟨u,hu,rv⟩:=r.get ei
   exact⟨u,rv,.inl ⟨S.par y (List.mem_of_getElem? hy),rev_lookup ndp hy hu⟩⟩
  ·have hy:caps[i - ps.length]?=some y:=by rw [←h1];exact(List.getElem?_append_right (by omega)).symm
   rw [List.getElem?_append_right (by omega),hl] at ei
   obtain⟨c,e1,e2⟩:=lookup_zip hc ndc hy
   obtain⟨v',o,e3,e4⟩:=fz.get e2
   rw [ei] at e3;cases e3
   obtain⟨u,rv,ic⟩:=cel c (List.mem_of_getElem? e2) o v e4
   exact⟨u,rv,.inr ⟨.inr (S.cap y (List.mem_of_getElem? hy)),c,e1,ic⟩⟩
 ·obtain⟨o,v,e⟩:=fa c (cin y c h)
  obtain⟨u,_,ic⟩:=cel c (cin y c h) o v e
  exact⟨_,ic⟩
 ·have:=fz.len
  unfold start
  show _=(ps++caps).length
  rw [List.length_append,List.length_map,List.length_replicate,List.length_append,List.length_append]
  omega
def spClo(f:Addr)(fd:FuncData)(c:Addr)(q:Str)(ads:List Addr)(cvs:List V)(n:Nat)(B:Sp):Sp:=fun vs H Q E=>vs.length=n∧H f=some (.fnc fd)∧H c=some (.cod q)∧Froz H ads cvs ∧
 B vs (dropC ads H) (fun v H'=>(∀a∈ads,H' a=none)→Q v (addC ads H H')) (fun k d H'=>(∀a∈ads,H' a=none)→E k d (addC ads H H'))
section
variable{CX:CXT}{P:Program}{w:World}{K:PySem.W.Frag}{mg:Str→Option Value}{base:Heap}{k:Nat}{f c:Addr}{name qual:Str}{params:Arguments}{scope:Scope}{ps caps:List Str}{ads:List Addr}{cvs:List V}{B:Sp}
theorem fn_lam{body:Expr}{pm ctv:Value}(fx:CXF P w CX)(S:CloScope ps caps scope)(hc:caps.length=ads.length)(nd:ads.Nodup)
  (hbody:∀(A:Around) (outer:List Env) (s:Shared) (H:Hp) (vs:List V) (Q:VK) (E:XK),Room k (A.deeper (PySem.W.envX qual scope s.heap.objs.size f (.ref c) (caps.zip ads)))→B vs H Q E→vs.length=ps.length →
   ∃t,PE (cxClo CX P w K mg base (ps++caps) qual scope f (.ref c) (caps.zip ads) A outer s H E) body t∧t (start (ps++caps) (vs++cvs)) H Q) :
  FnOk P w K mg base CX (k+1) f (PySem.W.kla_fn name qual params body scope (caps.zip ads) pm (.ref c) ctv) ps (spClo f (PySem.W.kla_fn name qual params body scope (caps.zip ads) pm (.ref c) ctv) c qual ads cvs ps.length B):=by
 refine⟨fun _ _ _ _ h=>h.1,fun A outer s H args us vs Q E hr e0 hb r hsp=>?_⟩
 obtain⟨hl,hf,hcd,fz,hB⟩:=hsp
 obtain⟨oc,od,sl,e⟩:=e0.hok f _ hf
 have lim:s.heap.NoLimit:=e0.mod.nolimit.keeps fun b o e=>(e0.bs b o e).1
 have hloc:∀y∈ps.zip us,scope.names.lookup y.1=some .local:=fun⟨n,v⟩ hy=>S.par n (List.of_mem_zip hy).1
 refine PySem.W.kla_callFunE hr.depth e rfl S.co S.gen rfl (e0.hok c _ hcd) (hb _ _ _ _ ?_)
 refine wpAny_newFunctionEnv S.nocell hloc (fun h₁ hns hsb=>⟨lim.fresh _ hsb,?_⟩) S.kind
 have hk:∀b o,s.heap.get? b=some o→h₁.get? b=some o:=fun b o e=>hsb.extBut b o (Nat.ne_of_lt (Heap.lt_size e)) (Heap.get?_push_of_some _ e)
 show codeAny _ _ (.expr body (PySem.W.envX qual scope s.heap.objs.size f (.ref c) (caps.zip ads))) _ _
 obtain⟨t,ht,hq⟩:=hbody A outer s (dropC ads H) vs _ _ (hr.deeper _) hB hl
 have I:=inv_clo (CX:=CX) (qual:=qual) (f:=f) (cd:=.ref c) (tk:=s.toks+(ps.zip us).length) (E:=fun k d H'=>(∀a∈ads,H' a=none)→E k d (addC ads H H')) S hr.hd e0 hl r fz hc nd hns hk
 have fa:=fz.all
 have na:∀c∈ads,c∉frs outer:=fun c hc z=>by obtain⟨o,v,e⟩:=fa c hc;rw [e0.frf c z] at e;cases e
 refine PySem.W.kla_codeExpr (wpAny_mono (ht [] _ _ _ _ I hq) (fun u s' hs=>?_) fun e s' hs=>?_)
 ·obtain⟨v,H',J,rv,q⟩:=hs
  obtain⟨un,n,kk⟩:=Un.adds e0.hok fa na J.base
  exact⟨v,addC ads H H',J.os,J.bare,un,HOk.add e0.hok J.hok fa n kk,rv,q n⟩
 ·exact wpAny_mono hs (fun _ s'' z=>fx.add _ _ _ _ _ _ _ e0.hok fa e0.frf z) fun _ s'' z=>fx.add _ _ _ _ _ _ _ e0.hok fa e0.frf z
end
theorem passC{P:Program}{w:World}{K:PySem.W.Frag}{mg:Str→Option Value}{base:Heap}{N:List Str}{qual:Str}{scope:Scope}{f:Addr}{cd:Value}{cl:List (Str × Addr)}{A:Around}{outer:List Env}{s:Shared}{H:Hp}{E:XK} :
  Passes (CX1 P w) (cxClo (CX1 P w) P w K mg base N qual scope f cd cl A outer s H E) E:=fun pins σ H1 s1 e s' I h=>by
 obtain⟨x,cls,d,H',rfl,fl,hd,hE⟩:=h
 exact Fly.leave I rfl rfl rfl fl hd fun s'' g gd=>⟨x,cls,d,H',rfl,g,gd,hE⟩
end L2
namespace L2
open PySem PySem.Spec PyProof.Rows
structure FunT(K:PySem.W.Frag)(x qual:Str)(st:Stmt)(f:Addr)(fd:FuncData)(c P:Addr):Prop where
 ex:∃(oc:Value) (od:Option Addr) (kV doc pm:Value) (an:Option Addr) (ct:Value) (osl:Array (Option Value)),
  fd=PySem.W.fnOf x qual (defArgs st) (defBody st) (defScope st) .none kV doc pm an (.ref c) ct∧K.lookup f=some ⟨oc,od,.func fd,osl⟩∧PySem.W.codeIn K (.ref c) qual=true
 kp:PySem.W.keepIn K (.ref f)=true
 hd:PySem.W.codeHdIn K c P=true
section
variable{Pr:Program}{w:World}{K:PySem.W.Frag}{mg:Str→Option Value}{base:Heap}{x qual:Str}{st:Stmt}{f c P:Addr}{fd:FuncData}{N ps:List Str}{k:Nat}{sp:Sp}
theorem FunT.okG{CX:CXT}(F:FunT K x qual st f fd c P)(S:FnScope N ps (defScope st))(len:∀vs H Q E,sp vs H Q E→vs.length=ps.length)
  (hbody:∀(A:Around) (outer:List Env) (s:Shared) (H:Hp) (vs:List V) (Q:VK) (E:XK),Room k (A.deeper (envOfC qual (defScope st) s.heap.objs.size f (.ref c)))→sp vs H Q E →
   ∃t,PSs (cxOf CX Pr w K mg base N qual (defScope st) f (.ref c) A outer s H E) (defBody st) t∧t { nx:=fun _ H'=>Q .non H',rt:=Q } (start N vs) H):FnOk Pr w K mg base CX (k+1) f fd ps sp:=by
 obtain⟨oc,od,kV,doc,pm,an,ct,osl,rfl,lk,hcd⟩:=F.ex
 exact fn_of lk hcd S len hbody
theorem FunT.ok(F:FunT K x qual st f fd c P)(S:FnScope N ps (defScope st))(len:∀vs H Q E,sp vs H Q E→vs.length=ps.length)
  (hbody:∀(A:Around) (outer:List Env) (s:Shared) (H:Hp) (vs:List V) (Q:VK) (E:XK),Room k (A.deeper (envOfC qual (defScope st) s.heap.objs.size f (.ref c)))→sp vs H Q E →
   ∃t,PSs (cxOf CX0 Pr w K mg base N qual (defScope st) f (.ref c) A outer s H E).nox (defBody st) t∧t { nx:=fun _ H'=>Q .non H',rt:=Q } (start N vs) H):FnOk Pr w K mg base CX0 (k+1) f fd ps sp :=
 F.okG S len fun A outer s H vs Q E hr h=>let ⟨t,h1,h2⟩:=hbody A outer s H vs Q E hr h;⟨t,h1.nox,h2⟩
theorem FunT.code(F:FunT K x qual st f fd c P)(X:K.In base):PySem.W.CodeHd base c P:=PySem.W.codeHd_of_K X F.hd
theorem funt_mk{oc:Value}{od an:Option Addr}{osl:Array (Option Value)}{kV doc pm ct:Value}(l:K.lookup f=some ⟨oc,od,.func (PySem.W.fnOf x qual (defArgs st) (defBody st) (defScope st) .none kV doc pm an (.ref c) ct),osl⟩)
  (cd:PySem.W.codeIn K (.ref c) qual=true) (k:PySem.W.keepIn K (.ref f)=true) (h:PySem.W.codeHdIn K c P=true):FunT K x qual st f (PySem.W.fnOf x qual (defArgs st) (defBody st) (defScope st) .none kV doc pm an (.ref c) ct) c P:=⟨⟨oc,od,kV,doc,pm,an,ct,osl,rfl,l,cd⟩,k,h⟩
end
theorem tab_lookup:∀{tabs:List (Addr × Array Value)} {q:Addr × Array Value},(tabs.map (·.1)).Nodup→q∈tabs→tabs.lookup q.1=some q.2
 |[],_,_,h=>nomatch h
 |p::r,q,nd,h=>by
  obtain⟨n1,n2⟩:=List.nodup_cons.mp nd
  rw [show(p::r).lookup q.1=_ from List.lookup_cons]
  rcases List.mem_cons.mp h with rfl|hq
  ·rw [beq_self_eq_true]
  ·have:(q.1==p.1)=false:=beq_eq_false_iff_ne.mpr fun z=>n1 (List.mem_map.mpr ⟨q,hq,z⟩)
   rw [this];exact tab_lookup n2 hq
theorem tab_mem{b:Addr}{ps:Array Value}:∀{tabs:List (Addr × Array Value)},tabs.lookup b=some ps→(b,ps)∈tabs
 |[],h=>nomatch h
 |p::r,h=>by
  rw [show(p::r).lookup b=_ from List.lookup_cons] at h
  cases q:b==p.1 with
  |true=>rw [q] at h;cases h;rw [eq_of_beq q];exact .head _
  |false=>rw [q] at h;exact .tail _ (tab_mem h)
theorem law_callT{P:Program}{w:World}{K:PySem.W.Frag}{mg mb:Str→Option Value}{CX:CXT}{k:Nat}{fa a:Addr}{fd:FuncData}{x:Str}{sp:Sp}{s₁:Shared}{vs:List Value}{ns:List Int}{tabs:List (Addr × Array Value)}
  (KX:K.In s₁.heap) (hns:s₁.heap.Ns mainGlobals mg) (hb:s₁.heap.Ns builtinsNs mb) (hbb:∀x:Str,x≠"__name__"→mb x=bootBuiltins x) (hlim:s₁.heap.NoLimit) (hbm:∃bm ob,mg "__builtins__"=some (.ref bm)∧bm≠builtinsNs∧s₁.heap.get? bm=some ob∧ob.cls=.type "module"∧ob.dict=some builtinsNs∧ob.data=.plain) (hg:s₁.gens=#[])
  (ha:s₁.heap.get? a=some { cls:=.type "list",data:=.seq vs.toArray }) (hi:IntsAre vs ns) (hl:ns.length≤sizeLine) (hr:Room k callerA)
  (hT:∀q∈tabs,s₁.heap.get? q.1=some (PySem.W.tabObj #[])∧isCodeTable s₁.heap q.1) (hnd:(tabs.map (·.1)).Nodup) (hNT:PySem.W.noTabs K=true)
  (F:∀base:Heap,K.In base→base.Ns mainGlobals mg→FnOk P w K mg base CX k fa fd [x] sp) (hbind:∀(s:Shared) (u:Value),BindsTo s fd ⟨[u],[]⟩ [(x,u)])
  (hsp:∀H:Hp,(∀q∈tabs,H q.1=some (.tbl q.2))→SqL K H a (ns.map V.int)→sp [.ref a] H (fun v _=>v=.bl true) fun _ _ _=>False)
  (hCX:∀H e s',CX [] H s₁ (fun _ _ _=>False) e s'→False) :
  codeAny (model P w) callerA (.call (.ref fa) ⟨[.ref a],[]⟩) (fun r s'=>r=.ok (.ret (.bool true))∧OldK s₁.heap s'.heap∧s'.os=s₁.os∧AllBare s'.gens) s₁:=by
 have rv:=vals_ints hi
 have lenV:=hi.length
 have core:∀H:Hp,(∀q∈tabs,H q.1=some (.tbl q.2))→SqL K H a (ns.map V.int)→HOk P w H s₁.heap→(∀b u,H b=some u→(b=a∧K.lookup a=none∧∃o xs,u=.frz o (.lst xs))∨∃ps,(b,ps)∈tabs∧u=.tbl ps) →
   codeAny (model P w) callerA (.call (.ref fa) ⟨[.ref a],[]⟩) (fun r s'=>r=.ok (.ret (.bool true))∧OldK s₁.heap s'.heap∧s'.os=s₁.os∧AllBare s'.gens) s₁:=by
  intro H hO hS hok hA
  have base_of:∀{b:Addr} {o:Obj},s₁.heap.get? b=some o→H b=none→(hidT s₁.heap H).get? b=some o:=fun e n=>hidT_get e n
  have no:∀{b:Addr} {o:Obj},s₁.heap.get? b=some o→(∀its n,o.data≠.seq its n)→(∀vs,o.data≠.fields vs)→H b=none:=fun {b o} e d1 d2=>by
   cases q:H b with
   |none=>rfl
   |some u =>
    rcases hA b u q with ⟨rfl,_⟩|⟨ps,hp,_⟩
    ·rw [ha] at e;cases e
     exact absurd rfl (d1 _ _)
    ·rw [(hT _ hp).1] at e;cases e
     exact absurd rfl (d2 _)
  have nsK:∀{b:Addr} {m:Str→Option Value},s₁.heap.Ns b m→(hidT s₁.heap H).Ns b m:=fun {b m} ⟨o,es,ep,e,d,r⟩=>⟨o,es,ep,base_of e (no e (fun _ _ z=>by rw [d] at z;cases z) (fun _ z=>by rw [d] at z;cases z)),d,r⟩
  have hKb:K.In (hidT s₁.heap H):=fun b o e=>base_of (KX b o e) (by
   cases q:H b with
   |none=>rfl
   |some u =>
    rcases hA b u q with ⟨rfl,z,_⟩|⟨ps,hp,_⟩
    ·rw [z] at e;cases e
    ·have e1:=KX b o e
     rw [(hT _ hp).1] at e1;cases e1
     exact absurd (show false=true from List.all_eq_true.mp hNT _ (PySem.W.mem_of_lookupK e)) Bool.false_ne_true)
  have hM:Mod K mg (hidT s₁.heap H):=⟨hKb,nsK hns,⟨mb,nsK hb,hbb⟩,let ⟨mc,h1,h2⟩:=hlim;⟨mc,nsK h1,h2⟩,let ⟨bm,ob,b1,b2,b3,b4,b5,b6⟩:=hbm;⟨bm,ob,b1,b2,base_of b3 (no b3 (fun _ _ z=>by rw [b6] at z;cases z) (fun _ z=>by rw [b6] at z;cases z)),b4,b5,b6⟩⟩
  have e0:Env0 P w K mg (hidT s₁.heap H) callerA [] s₁ H:=⟨rfl,hM,fun b o e=>of_hidT e,Nat.le_of_eq (hidT_size _ _),trivial,fun b hb=>absurd (show b∈([]:List Addr) from hb) (by simp),hok,.of_eq hg⟩
  refine codeAny_mono ((F _ hKb (nsK hns)).run callerA [] s₁ H ⟨[.ref a],[]⟩ [.ref a] [.ref a] _ _ hr e0 (hbind s₁ (.ref a)) (.cons rfl .nil) (hsp H hO hS)) fun r s' h=>?_
  cases r with
  |error e=>exact(hCX H e s' h).elim
  |ok fl =>
   cases fl with
   |next=>exact False.elim h
   |brk=>exact False.elim h
   |cont=>exact False.elim h
   |ret u =>
    obtain⟨v,H',os,bare,un,hok',r',q⟩:=h
    have q':v=.bl true:=q
    subst q'
    obtain rfl:u=Value.bool true:=r'
    have fin:∀b o,s₁.heap.get? b=some o→(s'.heap.get? b=some o)∨(isCodeTable s₁.heap b∧o=PySem.W.tabObj #[]∧∃tb,s'.heap.get? b=some (PySem.W.tabObj tb)):=fun b o e=>by
     cases q:H b with
     |none=>exact .inl (un.keep b o e q (by intro z;exact absurd (show b∈([]:List Addr) from z) (by simp)) (by simp))
     |some u =>
      rcases hA b u q with ⟨rfl,_,ob,xs,rfl⟩|⟨ps,hp,rfl⟩
      ·have z2:=un.frzs b ob _ q
       obtain⟨e1,_⟩:=hok b _ q
       obtain⟨e2,_⟩:=hok' b _ z2
       rw [e] at e1;cases e1
       exact .inl e2
      ·obtain⟨more,z⟩:=un.tbls b ps q
       obtain⟨tb,e2,_⟩:=hok' b _ z
       have e3:=(hT _ hp).1
       rw [e] at e3;cases e3
       exact .inr ⟨(hT _ hp).2,rfl,tb,e2⟩
    refine⟨rfl,⟨fun b o e=>?_,fun b o e=>?_⟩,os,bare⟩
    ·rcases fin b o e with z|⟨z,rfl,tb,z2⟩
     ·exact .inl z
     ·exact .inr (.inl ⟨z,rfl,#[],tb,rfl,by rw [Array.empty_append];exact z2⟩)
    ·rcases fin b o e with z|⟨z,rfl,tb,z2⟩
     ·exact⟨_,z⟩
     ·exact⟨_,z2⟩
 have lk:∀q∈tabs,tabs.lookup q.1=some q.2:=fun q hq=>tab_lookup hnd hq
 have lm:∀b ps,tabs.lookup b=some ps→(b,ps)∈tabs:=fun b ps h=>tab_mem h
 have na:∀q∈tabs,q.1≠a:=fun q hq z=>by
  have e:=(hT q hq).1
  rw [z,ha] at e;cases e
 have tok:∀{H:Hp} {b:Addr} {ps:Array Value},(b,ps)∈tabs→ObjOk P w H s₁.heap b (.tbl ps):=fun {H b ps} hp=>⟨#[],(hT _ hp).1,trivial,fun _ _ _ _ z=>nomatch z⟩
 cases hk:K.lookup a with
 |some o =>
  have e:=KX a o hk
  rw [ha] at e
  cases e
  refine core (fun b=>(tabs.lookup b).map .tbl) (fun q hq=>by rw [lk q hq];rfl) (.inr ⟨_,vs.toArray,_,hk,rfl,rfl,rfl,by rw [List.size_toArray,lenV];exact hl,by simpa using rv⟩) (fun b u z=>?_) (fun b u z=>?_)
  ·obtain⟨ps,h1,rfl⟩:=Option.map_eq_some_iff.mp z
   exact tok (lm b ps h1)
  ·obtain⟨ps,h1,rfl⟩:=Option.map_eq_some_iff.mp z
   exact .inr ⟨ps,lm b ps h1,rfl⟩
 |none =>
  refine core (fun b=>if b=a then some (.frz { cls:=.type "list",data:=.seq vs.toArray } (.lst (ns.map V.int))) else (tabs.lookup b).map .tbl) (fun q hq=>(if_neg (na q hq)).trans (by rw [lk q hq];rfl)) (.inl (.inr ⟨{ cls:=.type "list",data:=.seq vs.toArray },if_pos rfl⟩)) (fun b u z=>?_) (fun b u z=>?_)
  ·by_cases hb:b=a
   ·have z':=(if_pos hb).symm.trans z
    cases z'
    subst hb
    exact⟨ha,by rw [List.length_map];exact hl,vs,_,rv,ha⟩
   ·have z':=(if_neg hb).symm.trans z
    obtain⟨ps,h1,rfl⟩:=Option.map_eq_some_iff.mp z'
    exact tok (lm b ps h1)
  ·by_cases hb:b=a
   ·have z':=(if_pos hb).symm.trans z
    cases z'
    exact .inl ⟨hb,hk,_,_,rfl⟩
   ·have z':=(if_neg hb).symm.trans z
    obtain⟨ps,h1,rfl⟩:=Option.map_eq_some_iff.mp z'
    exact .inr ⟨ps,lm b ps h1,rfl⟩
def TabsOf(q:Program)(K:PySem.W.Frag)(tabs:List (Addr × Array Value)):Prop:=∀t∈tabs,∃(x:Str) (c:Addr) (d:DefRec),PySem.W.tabIn K x=some (c,t.1)∧(recsOf q).find? (fun e=>e.name==x)=some d
theorem walk_ofT{l:PySem.W.OpenLaw}{n k:Nat}{q:Program}{loose:List Str}{XP:(Str→Option Value)→Heap→Prop}{YP:World→Heap→Prop}{d:DefRec}{K:Params→PySem.W.Frag}{CX:World→CXT}{x:Str}
  (hn:l.most=some n) (hn2:n≤sizeLine) (hdf:d.params.defaults=[]) (hr:Room k callerA)
  (hY:∀(w:World) (h:Heap),YP w h→(K w.params).In h)
  (F:∀(w:World) (mg:Str→Option Value) (fa:Addr) (h:Heap),(K w.params).In h→h.Ns mainGlobals mg→mg d.name=some (.ref fa) →
   ∃(fd:FuncData) (tabs:List (Addr × Array Value)) (sp:Sp),(∀(s:Shared) (u:Value),BindsTo s fd ⟨[u],[]⟩ [(x,u)])∧TabsOf q (K w.params) tabs∧(tabs.map (·.1)).Nodup∧PySem.W.noTabs (K w.params)=true ∧
    (∀base:Heap,(K w.params).In base→base.Ns mainGlobals mg→FnOk l.prog w (K w.params) mg base (CX w) k fa fd [x] sp) ∧
    ∀(H:Hp) (a:Addr) (ns:List Int),ns.length≤n→(∀t∈tabs,H t.1=some (.tbl t.2))→SqL (K w.params) H a (ns.map V.int)→sp [.ref a] H (fun v _=>v=.bl true) fun _ _ _=>False)
  (hCX:∀(w:World) (H:Hp) (s:Shared) (e:Value) (s':Shared),CX w [] H s (fun _ _ _=>False) e s'→False) :
  PySem.W.WalkO q loose XP YP l.row.toRowW d [] (fun f vs=>PySem.call f vs):=by
 refine Att.attach_call hn hdf fun w s₀ s₁ mg mb fa o pm cd doc a vs ns G Y ho hd hcd hmg hobj hints hlen hg=>?_
 have KX:=hY w _ Y
 obtain⟨fd,tabs,sp,hb,hT,hnd,hNT,hF,hsp⟩:=F w mg fa _ KX G.T.g hmg
 exact law_callT KX G.T.g G.T.b G.T.builtins G.T.nolimit G.T.bmain hg hobj hints (Nat.le_trans hlen hn2) hr (fun t ht=>by
  obtain⟨x,c,d,h1,h2⟩:=hT t ht
  obtain⟨z1,z2⟩:=PySem.W.tab_of G.T KX h2 h1
  exact⟨z2,(z1.tab z2).isCodeTable⟩) hnd hNT hF hb (fun H hO hS=>hsp H a ns hlen hO hS) fun H e s'=>hCX w H s₁ e s'
end L2
namespace L2
open PySem PySem.Spec PyProof.Rows
def SI(b:Bool)(h:Heap)(j l:Addr)(n:Nat):Prop:=match b with
 |true=>h.IsListIter j l n
 |false=>h.IsTupleIter j l n
def SQ(b:Bool)(h:Heap)(l:Addr)(its:Array Value):Prop:=match b with
 |true=>h.IsList l its
 |false=>h.IsTuple l its
theorem SI.get{b:Bool}{h:Heap}{j l:Addr}{n:Nat}(x:SI b h j l n):∃o vs,h.get? j=some o∧o.data=.fields vs:=by
 cases b with
 |true=>obtain⟨o,e,_,d⟩:=x;exact⟨o,_,e,d⟩
 |false=>obtain⟨o,e,_,d⟩:=x;exact⟨o,_,e,d⟩
theorem SI.up{b:Bool}{h h':Heap}{j l:Addr}{n:Nat}(x:SI b h j l n)(k:∀o,h.get? j=some o→h'.get? j=some o):SI b h' j l n:=by
 cases b with
 |true=>obtain⟨o,e,r⟩:=x;exact⟨o,k o e,r⟩
 |false=>obtain⟨o,e,r⟩:=x;exact⟨o,k o e,r⟩
theorem SQ.up{b:Bool}{h h':Heap}{l:Addr}{its:Array Value}(x:SQ b h l its)(k:∀o,h.get? l=some o→h'.get? l=some o):SQ b h' l its:=by
 cases b with
 |true=>obtain⟨o,e,r⟩:=x;exact⟨o,k o e,r⟩
 |false=>obtain⟨o,e,r⟩:=x;exact⟨o,k o e,r⟩
section
variable{P:Program}{w:World}{A:Around}{E:Value→Shared→Prop}{s:Shared}{b c:Bool}{z TI TO i1 i2 l1 l2 j l:Addr}{n n2:Nat}{its jts:Array Value}{x y p q:Value}
theorem si_item{Q:Value→Shared→Prop}(h1:SI b s.heap j l n)(h2:SQ b s.heap l its)(e:its[n]?=some x)(g:∀h',SI b h' j l (n+1)→Heap.SameBut j s.heap h'→Q x { s with heap:=h' }):wpAny (model P w) A (Builtin.SmallTypes.nextOf (.ref j)) Q E s:=by
 cases b with
 |true=>exact wpAny_nextOf_list_item h1 h2 e g
 |false=>exact nextT_item h1 h2 e g
theorem si_end{Q:Value→Shared→Prop}(hh:A.handled=none)(h1:SI b s.heap j l n)(h2:SQ b s.heap l its)(e:its[n]?=none) (g:∀h' u,Heap.ExtBut j s.heap h'→(∃o,h'.get? u=some o∧o.cls=.type "StopIteration")→E (.ref u) { s with heap:=h' }):wpAny (model P w) A (Builtin.SmallTypes.nextOf (.ref j)) Q E s:=by
 cases b with
 |true=>exact wpAny_nextOf_list_end hh h1 h2 e g
 |false=>exact nextT_end hh h1 h2 e g
theorem zn_item{Q:Value→Shared→Prop}(D:ZipApart z TI TO i1 i2 l1 l2)(Z:IsZip s.heap z TI TO .none)(T1:IsPair s.heap TI (.ref i1) (.ref i2))(T2:IsPair s.heap TO p q)(h1:SI b s.heap i1 l1 n)(h2:SI c s.heap i2 l2 n2)(g1:SQ b s.heap l1 its)(g2:SQ c s.heap l2 jts)(ex:its[n]?=some x)(ey:jts[n2]?=some y)
  (k:∀h',IsZip h' z TI TO (rawInt s.heap.objs.size)→IsPair h' TO x y→SI b h' i1 l1 (n+1)→SI c h' i2 l2 (n2+1)→IsPair h' s.heap.objs.size x y →
   (∀d o,d≠z→d≠TO→d≠i1→d≠i2→s.heap.get? d=some o→h'.get? d=some o)→Q (.ref s.heap.objs.size) { s with heap:=h' }) :
  wpAny (model P w) A (Builtin.«zip.__next__» ⟨[.ref z],[]⟩) (fun fin s'=>∃v,fin=.done (.ret v)∧Q v s') E s:=by
 show wpAny (model P w) A (field (.ref z) 2 >>= _) _ _ s
 refine wpAny_bind (wpAny_field Z rfl (x:=.bool false) rfl ?_);show wpAny (model P w) A (field (.ref z) 3 >>= _) _ _ s
 refine wpAny_bind (wpAny_field Z rfl (x:=.ref TI) rfl (wpAny_bind (wpAny_seqItems T1 rfl ?_)));show wpAny (model P w) A (Builtin.SmallTypes.ownedTupleIsFree (.ref z) >>= _) _ _ s
 refine wpAny_bind ?_;unfold Builtin.SmallTypes.ownedTupleIsFree
 refine wpAny_bind (wpAny_field Z rfl (x:=.none) rfl (wpAny_pure ?_));simp only [if_true]
 refine wpAny_bind (wpAny_rule (wpAny_bind (wpAny_field Z rfl (x:=.ref TO) rfl (wpAny_bind (wpAny_setField_rec Z (by simp) fun a1 Z1 b1=>?_)))))
 replace Z1:IsZip a1 z TI TO .ellipsis:=Z1
 refine wpAny_bind ?_;simp only [List.zipIdx_cons,List.zipIdx_nil,List.forIn_cons,List.forIn_nil]
 refine wpAny_bind (wpAny_bind (wpAny_onRaise ?_));show wpAny (model P w) A (Builtin.SmallTypes.nextOf (.ref i1) >>= _) _ _ _
 refine wpAny_bind (si_item (h1.up fun o e=>b1.extBut _ _ D.i1z e) (g1.up fun o e=>b1.extBut _ _ D.l1z e) ex fun a2 s1 b2=>wpAny_pure ?_)
 have T3:IsPair a2 TO p q:=b2.extBut _ _ D.TOi1 (b1.extBut _ _ D.TOz T2)
 refine wpAny_bind (wpAny_seqItems T3 rfl (wpAny_bind (wpAny_updateSeq_pair T3 fun a3 T4 b3=>?_)))
 replace T4:IsPair a3 TO x q:=T4
 refine wpAny_bind (wpAny_letGo (wpAny_pure (wpAny_bind (wpAny_bind (wpAny_onRaise ?_)))));show wpAny (model P w) A (Builtin.SmallTypes.nextOf (.ref i2) >>= _) _ _ _
 refine wpAny_bind (si_item (h2.up fun o e=>b3.extBut _ _ D.TOi2.symm (b2.extBut _ _ D.i12.symm (b1.extBut _ _ D.i2z e))) (g2.up fun o e=>b3.extBut _ _ D.l2TO (b2.extBut _ _ D.l2i1 (b1.extBut _ _ D.l2z e))) ey fun a4 s2 b4=>wpAny_pure ?_)
 have T5:IsPair a4 TO x q:=b4.extBut _ _ D.TOi2 T4
 refine wpAny_bind (wpAny_seqItems T5 rfl (wpAny_bind (wpAny_updateSeq_pair T5 fun a5 T6 b5=>?_)))
 replace T6:IsPair a5 TO x y:=T6
 refine wpAny_bind (wpAny_letGo (wpAny_pure (wpAny_pure (wpAny_bind (wpAny_seqItems T6 rfl (wpAny_bind (wpAny_newTuple ?_)))))))
 have hz:a5.objs.size=s.heap.objs.size:=b5.1.trans (b4.1.trans (b3.1.trans (b2.1.trans b1.1)))
 have Z5:IsZip a5 z TI TO .ellipsis:=b5.extBut _ _ D.TOz.symm (b4.extBut _ _ D.i2z.symm (b3.extBut _ _ D.TOz.symm (b2.extBut _ _ D.i1z.symm Z1)))
 have k5:∀d o,d≠z→d≠TO→d≠i1→d≠i2→s.heap.get? d=some o→a5.get? d=some o:=fun d o c1 c2 c3 c4 e=>b5.extBut _ _ c2 (b4.extBut _ _ c4 (b3.extBut _ _ c2 (b2.extBut _ _ c3 (b1.extBut _ _ c1 e))))
 have s1':SI b a5 i1 l1 (n+1):=s1.up fun o e=>b5.extBut _ _ D.TOi1.symm (b4.extBut _ _ D.i12 (b3.extBut _ _ D.TOi1.symm e))
 have s2':SI c a5 i2 l2 (n2+1):=s2.up fun o e=>b5.extBut _ _ D.TOi2.symm e
 have zl:z < a5.objs.size:=Heap.lt_size Z5
 show wpAny (model P w) A (Builtin.SmallTypes.ownedTupleHandOut (.ref z) (.ref a5.objs.size) >>= _) _ _ _
 refine wpAny_bind ?_;unfold Builtin.SmallTypes.ownedTupleHandOut
 have Z6:IsZip (a5.push { cls:=.type "tuple",data:=.seq #[x,y] }) z TI TO .ellipsis:=Heap.get?_push_of_some _ Z5
 refine wpAny_bind (wpAny_setField_rec Z6 (by simp) fun a7 Z7 b7=>?_)
 replace Z7:IsZip a7 z TI TO (rawInt a5.objs.size):=Z7
 refine wpAny_setField_rec Z7 (by simp) fun a8 Z8 b8=>?_
 replace Z8:IsZip a8 z TI TO (rawInt a5.objs.size):=Z8
 have up:∀d o,d≠z→a5.get? d=some o→a8.get? d=some o:=fun d o c1 e=>b8.extBut _ _ c1 (b7.extBut _ _ c1 (Heap.get?_push_of_some _ e))
 have T8:IsPair a8 a5.objs.size x y:=b8.extBut _ _ (Nat.ne_of_gt zl) (b7.extBut _ _ (Nat.ne_of_gt zl) (Heap.get?_push_size _ rfl))
 rw [hz] at Z8 T8
 refine wpAny_pure ⟨_,rfl,?_⟩;show Q (.ref a5.objs.size) _
 rw [hz]
 exact k a8 Z8 (up _ _ D.TOz T6) (s1'.up fun o e=>up _ o D.i1z e) (s2'.up fun o e=>up _ o D.i2z e) T8 fun d o c1 c2 c3 c4 e=>up d o c1 (k5 d o c1 c2 c3 c4 e)
theorem zn_end{Q:Fin→Shared→Prop}(hh:A.handled=none)(D:ZipApart z TI TO i1 i2 l1 l2)(Z:IsZip s.heap z TI TO .none)(T1:IsPair s.heap TI (.ref i1) (.ref i2))(T2:IsPair s.heap TO p q)(h1:SI b s.heap i1 l1 n)(h2:SI c s.heap i2 l2 n2)(g1:SQ b s.heap l1 its)(g2:SQ c s.heap l2 jts)(en:its[n]?=none∨jts[n2]?=none)
  (k:∀h' u,(∀d o,d≠z→d≠TO→d≠i1→d≠i2→s.heap.get? d=some o→h'.get? d=some o)→(∃o,h'.get? u=some o∧o.cls=.type "StopIteration")→E (.ref u) { s with heap:=h' }) :
  wpAny (model P w) A (Builtin.«zip.__next__» ⟨[.ref z],[]⟩) Q E s:=by
 show wpAny (model P w) A (field (.ref z) 2 >>= _) _ _ s
 refine wpAny_bind (wpAny_field Z rfl (x:=.bool false) rfl ?_);show wpAny (model P w) A (field (.ref z) 3 >>= _) _ _ s
 refine wpAny_bind (wpAny_field Z rfl (x:=.ref TI) rfl (wpAny_bind (wpAny_seqItems T1 rfl ?_)));show wpAny (model P w) A (Builtin.SmallTypes.ownedTupleIsFree (.ref z) >>= _) _ _ s
 refine wpAny_bind ?_;unfold Builtin.SmallTypes.ownedTupleIsFree
 refine wpAny_bind (wpAny_field Z rfl (x:=.none) rfl (wpAny_pure ?_));simp only [if_true]
 refine wpAny_bind (wpAny_rule (wpAny_bind (wpAny_field Z rfl (x:=.ref TO) rfl (wpAny_bind (wpAny_setField_rec Z (by simp) fun a1 Z1 b1=>?_)))))
 replace Z1:IsZip a1 z TI TO .ellipsis:=Z1
 refine wpAny_bind ?_;simp only [List.zipIdx_cons,List.zipIdx_nil,List.forIn_cons,List.forIn_nil]
 refine wpAny_bind (wpAny_bind (wpAny_onRaise ?_));show wpAny (model P w) A (Builtin.SmallTypes.nextOf (.ref i1) >>= _) _ _ _
 cases ex:its[n]? with
 |none =>
  refine wpAny_bind (si_end hh (h1.up fun o e=>b1.extBut _ _ D.i1z e) (g1.up fun o e=>b1.extBut _ _ D.l1z e) ex fun a2 u b2 he=>?_)
  obtain⟨oe,e1,e2⟩:=he
  have Z2:IsZip a2 z TI TO .ellipsis:=b2 _ _ D.i1z.symm Z1
  have uz:u≠z:=fun t=>by subst t;rw [Z2] at e1;cases e1;simp at e2
  exact wpAny_setField_rec Z2 (by simp) fun a3 _ b3=>k a3 u (fun d o c1 _ c3 _ t=>b3.extBut _ _ c1 (b2 _ _ c3 (b1.extBut _ _ c1 t))) ⟨oe,b3.extBut _ _ uz e1,e2⟩
 |some x =>
  have ey:jts[n2]?=none:=by rcases en with t|t;rw [ex] at t;cases t;exact t
  refine wpAny_bind (si_item (h1.up fun o e=>b1.extBut _ _ D.i1z e) (g1.up fun o e=>b1.extBut _ _ D.l1z e) ex fun a2 s1 b2=>wpAny_pure ?_)
  have T3:IsPair a2 TO p q:=b2.extBut _ _ D.TOi1 (b1.extBut _ _ D.TOz T2)
  refine wpAny_bind (wpAny_seqItems T3 rfl (wpAny_bind (wpAny_updateSeq_pair T3 fun a3 T4 b3=>?_)))
  refine wpAny_bind (wpAny_letGo (wpAny_pure (wpAny_bind (wpAny_bind (wpAny_onRaise ?_)))));show wpAny (model P w) A (Builtin.SmallTypes.nextOf (.ref i2) >>= _) _ _ _
  refine wpAny_bind (si_end hh (h2.up fun o e=>b3.extBut _ _ D.TOi2.symm (b2.extBut _ _ D.i12.symm (b1.extBut _ _ D.i2z e))) (g2.up fun o e=>b3.extBut _ _ D.l2TO (b2.extBut _ _ D.l2i1 (b1.extBut _ _ D.l2z e))) ey fun a4 u b4 he=>?_)
  obtain⟨oe,e1,e2⟩:=he
  have Z4:IsZip a4 z TI TO .ellipsis:=b4 _ _ D.i2z.symm (b3.extBut _ _ D.TOz.symm (b2.extBut _ _ D.i1z.symm Z1))
  have uz:u≠z:=fun t=>by subst t;rw [Z4] at e1;cases e1;simp at e2
  exact wpAny_setField_rec Z4 (by simp) fun a5 _ b5=>k a5 u (fun d o c1 c2 c3 c4 t=>b5.extBut _ _ c1 (b4 _ _ c4 (b3.extBut _ _ c2 (b2.extBut _ _ c3 (b1.extBut _ _ c1 t))))) ⟨oe,b5.extBut _ _ uz e1,e2⟩
end
section
variable{P:Program}{w:World}{A:Around}{E:Value→Shared→Prop}{s:Shared}{b c:Bool}{z TI TO i1 i2 l1 l2:Addr}{n:Nat}{its jts:Array Value}{x y p q:Value}
theorem zn_next{Q:Option Value→Shared→Prop}(D:ZipApart z TI TO i1 i2 l1 l2)(Z:IsZip s.heap z TI TO .none)(T1:IsPair s.heap TI (.ref i1) (.ref i2))(T2:IsPair s.heap TO p q)(h1:SI b s.heap i1 l1 n)(h2:SI c s.heap i2 l2 n)(g1:SQ b s.heap l1 its)(g2:SQ c s.heap l2 jts)(ex:its[n]?=some x)(ey:jts[n]?=some y)
  (k:∀h',IsZip h' z TI TO (rawInt s.heap.objs.size)→IsPair h' TO x y→SI b h' i1 l1 (n+1)→SI c h' i2 l2 (n+1)→IsPair h' s.heap.objs.size x y →
   (∀d o,d≠z→d≠TO→d≠i1→d≠i2→s.heap.get? d=some o→h'.get? d=some o)→Q (some (.ref s.heap.objs.size)) { s with heap:=h' }):wpAny (model P w) A (pyNext (.ref z)) Q E s:=by
 have hT:s.TypeIs (.ref z) "zip":=⟨_,Z,rfl⟩
 unfold pyNext
 exact wpAny_bind (wpAny_attempt (wpAny_callSpecial?_slot (name:=Str.ofString "__next__") hT F.slot_zip_next (wpAny_call_entry F.slot_zip_next hT F.entry_zip_next (zn_item D Z T1 T2 h1 h2 g1 g2 ex ey fun h' a1 a2 a3 a4 a5 a6=>wpAny_pure (k h' a1 a2 a3 a4 a5 a6)) (F.args_zip_next_1 _))))
theorem zn_stop{Q:Option Value→Shared→Prop}(hh:A.handled=none)(D:ZipApart z TI TO i1 i2 l1 l2)(Z:IsZip s.heap z TI TO .none)(T1:IsPair s.heap TI (.ref i1) (.ref i2))(T2:IsPair s.heap TO p q)(h1:SI b s.heap i1 l1 n)(h2:SI c s.heap i2 l2 n)(g1:SQ b s.heap l1 its)(g2:SQ c s.heap l2 jts)(en:its[n]?=none∨jts[n]?=none)
  (k:∀h',(∀d o,d≠z→d≠TO→d≠i1→d≠i2→s.heap.get? d=some o→h'.get? d=some o)→Q none { s with heap:=h' }):wpAny (model P w) A (pyNext (.ref z)) Q E s:=by
 have hT:s.TypeIs (.ref z) "zip":=⟨_,Z,rfl⟩
 unfold pyNext
 refine wpAny_bind (wpAny_attempt (wpAny_callSpecial?_slot (name:=Str.ofString "__next__") hT F.slot_zip_next (wpAny_call_entry F.slot_zip_next hT F.entry_zip_next (zn_end hh D Z T1 T2 h1 h2 g1 g2 en fun h' u hk he=>?_) (F.args_zip_next_1 _))))
 obtain⟨o,ho,hc⟩:=he
 exact wpAny_bind (wpAny_isInstance (T:="StopIteration") (b:=true) ⟨o,ho,hc⟩ isSubtype_stop (wpAny_pure (k _ hk)))
end
def iob(b:Bool)(l:Addr):Obj:={ cls:=.type (match b with|true=>"list_iterator"|false=>"tuple_iterator"),data:=.fields #[.ref l,.int 0 0] }
def zh2(b c:Bool)(h:Heap)(l1 l2:Addr):Heap:=(h.push (iob b l1)).push (iob c l2)
def zh4(b c:Bool)(h:Heap)(l1 l2:Addr):Heap:=((zh2 b c h l1 l2).push { cls:=.type "tuple",data:=.seq #[.ref h.objs.size,.ref (h.push (iob b l1)).objs.size] }).push { cls:=.type "tuple",data:=.seq #[.none,.none] }
def zh5(b c:Bool)(h:Heap)(l1 l2:Addr):Heap:=(zh4 b c h l1 l2).push { cls:=.type "zip",data:=.fields #[.none,.bool false,.bool false,.ref (zh2 b c h l1 l2).objs.size,.ref ((zh2 b c h l1 l2).push { cls:=.type "tuple",data:=.seq #[.ref h.objs.size,.ref (h.push (iob b l1)).objs.size] }).objs.size] }
theorem si_iter{P:Program}{w:World}{A:Around}{E:Value→Shared→Prop}{s:Shared}{b:Bool}{l:Addr}{its:Array Value}{Q:Value→Shared→Prop}(h:SQ b s.heap l its)(k:Q (.ref s.heap.objs.size) { s with heap:=s.heap.push (iob b l) }):wpAny (model P w) A (pyIter (.ref l)) Q E s:=by
 cases b with
 |true=>exact wpAny_pyIter_list h k
 |false=>exact wpAny_pyIter_tuple h k
set_option maxHeartbeats 4000000 in
theorem zn_new(b c:Bool)(l1 l2:Addr)(its jts:Array Value):Meets (Builtin.«zip.__new__» ⟨[.type "zip",.ref l1,.ref l2],[]⟩) (fun _ R s=>SQ b s.heap l1 its∧SQ c s.heap l2 jts∧R (.ok (.ret (.ref (zh4 b c s.heap l1 l2).objs.size))) { s with heap:=zh5 b c s.heap l1 l2 }) :=
 .of_wp fun P w A R s h=>by
  obtain⟨hp,g,d,tk,os⟩:=s
  obtain⟨h1,h2,h⟩:=h
  have hsub:=sub_zip
  have k1:SQ b (Shared.heap ⟨hp,g,d,tk,os⟩) l1 its:=h1
  have k2:SQ c (Shared.heap ⟨hp.push (iob b l1),g,d,tk,os⟩) l2 jts:=h2.up fun o e=>Heap.get?_push_of_some _ e
  wp_walk using si_iter k1,si_iter k2
  exact⟨_,rfl,h⟩
theorem iob_si(b:Bool){h:Heap}{j l:Addr}(e:h.get? j=some (iob b l)):SI b h j l 0:=by
 cases b with
 |true=>exact⟨_,e,rfl,rfl⟩
 |false=>exact⟨_,e,rfl,rfl⟩
theorem call_zip{P:Program}{w:World}{A:Around}{E:Value→Shared→Prop}{s:Shared}{b c:Bool}{l1 l2:Addr}{its jts:Array Value}{Q:Value→Shared→Prop}(g1:SQ b s.heap l1 its)(g2:SQ c s.heap l2 jts)
  (k:∀h',IsZip h' (s.heap.objs.size+4) (s.heap.objs.size+2) (s.heap.objs.size+3) .none→IsPair h' (s.heap.objs.size+2) (.ref s.heap.objs.size) (.ref (s.heap.objs.size+1))→IsPair h' (s.heap.objs.size+3) .none .none →
   SI b h' s.heap.objs.size l1 0→SI c h' (s.heap.objs.size+1) l2 0→(∀d o,s.heap.get? d=some o→h'.get? d=some o)→Q (.ref (s.heap.objs.size+4)) { s with heap:=h' }) :
  wpAny (model P w) A (call (.type "zip") [.ref l1,.ref l2]) Q E s:=by
 refine callType_new F.called_zip (by decide) (F.typeCall_zip_2 _ _) (F.newCall_zip_2 _ _) (fun o=>F.args_object_init_3 o _ _) F.entry_zip_new (zn_new b c l1 l2 its jts) ⟨g1,g2,?_⟩
 have z1:(s.heap.push (iob b l1)).objs.size=s.heap.objs.size+1:=Heap.size_push ..
 have z2:(zh2 b c s.heap l1 l2).objs.size=s.heap.objs.size+2:=by unfold zh2;rw [Heap.size_push,z1]
 have z3:((zh2 b c s.heap l1 l2).push { cls:=.type "tuple",data:=.seq #[.ref s.heap.objs.size,.ref (s.heap.push (iob b l1)).objs.size] }).objs.size=s.heap.objs.size+3:=by rw [Heap.size_push,z2]
 have z4:(zh4 b c s.heap l1 l2).objs.size=s.heap.objs.size+4:=by unfold zh4;rw [Heap.size_push,z3]
 have u5:∀d o,(zh4 b c s.heap l1 l2).get? d=some o→(zh5 b c s.heap l1 l2).get? d=some o:=fun d o e=>by unfold zh5;exact Heap.get?_push_of_some _ e
 have u3:∀d o,(zh2 b c s.heap l1 l2).get? d=some o→(zh4 b c s.heap l1 l2).get? d=some o:=fun d o e=>by unfold zh4;exact Heap.get?_push_of_some _ (Heap.get?_push_of_some _ e)
 have e5:(zh5 b c s.heap l1 l2).get? (zh4 b c s.heap l1 l2).objs.size=some { cls:=.type "zip",data:=.fields #[.none,.bool false,.bool false,.ref (zh2 b c s.heap l1 l2).objs.size,.ref ((zh2 b c s.heap l1 l2).push { cls:=.type "tuple",data:=.seq #[.ref s.heap.objs.size,.ref (s.heap.push (iob b l1)).objs.size] }).objs.size] }:=by unfold zh5;exact Heap.get?_push_size _ rfl
 have e4:(zh5 b c s.heap l1 l2).get? ((zh2 b c s.heap l1 l2).push { cls:=.type "tuple",data:=.seq #[.ref s.heap.objs.size,.ref (s.heap.push (iob b l1)).objs.size] }).objs.size=some { cls:=.type "tuple",data:=.seq #[.none,.none] }:=u5 _ _ (by unfold zh4;exact Heap.get?_push_size _ rfl)
 have e3:(zh5 b c s.heap l1 l2).get? (zh2 b c s.heap l1 l2).objs.size=some { cls:=.type "tuple",data:=.seq #[.ref s.heap.objs.size,.ref (s.heap.push (iob b l1)).objs.size] }:=u5 _ _ (by unfold zh4;exact Heap.get?_push_of_some _ (Heap.get?_push_size _ rfl))
 have e2:(zh5 b c s.heap l1 l2).get? (s.heap.push (iob b l1)).objs.size=some (iob c l2):=u5 _ _ (u3 _ _ (by unfold zh2;exact Heap.get?_push_size _ rfl))
 have e1:(zh5 b c s.heap l1 l2).get? s.heap.objs.size=some (iob b l1):=u5 _ _ (u3 _ _ (by unfold zh2;exact Heap.get?_push_of_some _ (Heap.get?_push_size _ rfl)))
 rw [z2,z3,z4] at e5
 rw [z1,z2] at e3
 rw [z3] at e4
 rw [z1] at e2
 show _∧_
 rw [z4]
 exact⟨⟨_,e5,rfl⟩,k _ e5 e3 e4 (iob_si b e1) (iob_si c e2) fun d o e=>u5 _ _ (u3 _ _ (by unfold zh2;exact Heap.get?_push_of_some _ (Heap.get?_push_of_some _ e)))⟩
def sho(b:Bool)(xs:List V):HO:=match b with
 |true=>.lst xs
 |false=>.tup xs
theorem sho_inj{b:Bool}{xs ys:List V}(h:sho b xs=sho b ys):xs=ys:=by
 cases b<;>(cases h;rfl)
theorem Inv.sho{X:Cx}{pins:List (Addr × Obj)}{σ:St}{H:Hp}{s:Shared}{b:Bool}{l:Addr}{xs:List V}(I:Inv X pins σ H s)(h:H l=some (L2.sho b xs)):∃its:List Value,Vals xs its∧SQ b s.heap l its.toArray:=by
 cases b with
 |true=>obtain⟨its,r,p,_⟩:=I.list (SqL.of h);exact⟨its,r,p.isList⟩
 |false=>obtain⟨its,r,p,_⟩:=I.tuple (SqT.of h);exact⟨its,r,(show s.heap.IsTuple l its.toArray from p)⟩
def Itq(b c:Bool)(l1 l2:Addr):It :=
  ⟨fun i H=>∃xs ys x y,H l1=some (sho b xs)∧H l2=some (sho c ys)∧xs[i]?=some x∧ys[i]?=some y,
   fun i H v H'=>∃p x y,H p=none∧v=.ref p∧H'=upd H p (.tup [x,y])∧(∀xs,H l1=some (sho b xs)→xs[i]?=some x)∧∀ys,H l2=some (sho c ys)→ys[i]?=some y,
   fun i H=>∃xs ys,H l1=some (sho b xs)∧H l2=some (sho c ys)∧(xs.length≤i∨ys.length≤i)⟩
theorem turn_zipQ{P:Program}{w:World}{K:PySem.W.Frag}{es:List Expr}{k:Nat}{pos:Pos}(b c:Bool)(l1 l2 z TI TO i1 i2:Addr)(D:ZipFp z TI TO i1 i2) :
  Turn P w K (.Tuple es k pos) (Itq b c l1 l2) [z,TI,TO,i1,i2] z (fun i h=>IsZip h z TI TO .none∧IsPair h TI (.ref i1) (.ref i2)∧(∃u v,IsPair h TO u v)∧SI b h i1 l1 i∧SI c h i2 l2 i) where
 mem:=by simp
 obj:=fun i h st d hd=>by
  obtain⟨Z,T1,⟨u,v,T2⟩,h1,h2⟩:=st
  obtain⟨o1,v1,e1,d1⟩:=h1.get
  obtain⟨o2,v2,e2,d2⟩:=h2.get
  simp only [List.mem_cons,List.not_mem_nil,or_false] at hd
  rcases hd with rfl|rfl|rfl|rfl|rfl
  ·exact⟨_,Z,fun v z=>by cases z⟩
  ·exact⟨_,T1,fun v z=>by cases z⟩
  ·exact⟨_,T2,fun v z=>by cases z⟩
  ·exact⟨o1,e1,fun v z=>by rw [d1] at z;cases z⟩
  ·exact⟨o2,e2,fun v z=>by rw [d2] at z;cases z⟩
 keep:=fun i h h' st k=>by
  obtain⟨Z,T1,⟨u,v,T2⟩,h1,h2⟩:=st
  exact⟨k z (by simp) _ Z,k TI (by simp) _ T1,⟨u,v,k TO (by simp) _ T2⟩,h1.up fun o e=>k i1 (by simp) o e,h2.up fun o e=>k i2 (by simp) o e⟩
 item:=by
  intro X hP hw hK hc i pins s σ H E I hf st hg
  subst hP hw hK
  obtain⟨Z,T1,⟨a,a',T2⟩,h1,h2⟩:=st
  obtain⟨xs,ys,x,y,q1,q2,hx,hy⟩:=hg
  obtain⟨its,rv,p1⟩:=I.sho q1
  obtain⟨jts,rw',p2⟩:=I.sho q2
  obtain⟨u,hu,ru⟩:=rv.get hx
  obtain⟨v,hv,rv2⟩:=rw'.get hy
  have ne:∀d∈[z,TI,TO,i1,i2],l1≠d∧l2≠d:=fun d hd=>⟨fun t=>(by rw [t,(hf d hd).1] at q1;cases q1),fun t=>(by rw [t,(hf d hd).1] at q2;cases q2)⟩
  have lt:∀d∈[z,TI,TO,i1,i2],d < s.heap.objs.size:=fun d hd=>by
   obtain⟨o1,_,e1,_⟩:=h1.get
   obtain⟨o2,_,e2,_⟩:=h2.get
   simp only [List.mem_cons,List.not_mem_nil,or_false] at hd
   rcases hd with rfl|rfl|rfl|rfl|rfl
   ·exact Heap.lt_size Z
   ·exact Heap.lt_size T1
   ·exact Heap.lt_size T2
   ·exact Heap.lt_size e1
   ·exact Heap.lt_size e2
  have DD:ZipApart z TI TO i1 i2 l1 l2:=⟨D.TIz,D.TOz,D.i1z,D.i2z,D.TITO,D.TIi1,D.TIi2,D.TOi1,D.TOi2,D.i12,(ne z (by simp)).1,(ne TO (by simp)).1,(ne i1 (by simp)).1,(ne i2 (by simp)).1,(ne z (by simp)).2,(ne TO (by simp)).2,(ne i1 (by simp)).2,(ne i2 (by simp)).2⟩
  refine zn_next DD Z T1 T2 h1 h2 p1 p2 (x:=u) (y:=v) (by simpa using hu) (by simpa using hv) fun h3 z3 o3 j1 j2 t3 k3=>⟨_,rfl,wpAny_letOwnedTupleGo_zip z3 fun h4 z4 b4=>?_⟩
  have t4:h4.get? s.heap.objs.size=some { cls:=.type "tuple",data:=.seq #[u,v] }:=(b4.2 _ (Nat.ne_of_gt (lt z (by simp)))).trans t3
  have hn:H s.heap.objs.size=none:=I.hok.fresh (Nat.le_refl _)
  have I4:Inv X pins σ (upd H s.heap.objs.size (.tup [x,y])) { s with heap:=h4,toks:=s.toks }:=I.turnedL (fp:=[z,TI,TO,i1,i2]) (fun d ob hd t=>by
    simp only [List.mem_cons,List.not_mem_nil,or_false,not_or] at hd
    exact(b4.2 d hd.1).trans (k3 d ob hd.1 hd.2.2.1 hd.2.2.2.1 hd.2.2.2.2 t)) hf (Nat.le_refl _) ⟨by show 2≤sizeLine;decide,[u,v],.cons ru (.cons rv2 .nil),_,t4,rfl,_,rfl⟩
  refine⟨.ref s.heap.objs.size,_,I4,rfl,⟨_,x,y,hn,rfl,rfl,fun xs' h'=>by rw [q1] at h';rw [←sho_inj (Option.some.inj h')];exact hx,fun ys' h'=>by rw [q2] at h';rw [←sho_inj (Option.some.inj h')];exact hy⟩,
   ⟨z4,(b4.2 TI D.TIz).trans (k3 TI _ D.TIz D.TITO D.TIi1 D.TIi2 T1),⟨u,v,(b4.2 TO D.TOz).trans o3⟩,j1.up fun o e=>(b4.2 i1 D.i1z).trans e,j2.up fun o e=>(b4.2 i2 D.i2z).trans e⟩,fun d hd=>?_⟩
  rw [upd_ne (Nat.ne_of_lt (lt d hd))]
  exact(hf d hd).1
 done:=by
  intro X hP hw hK hc i pins s σ H E I hf st hg
  subst hP hw hK
  obtain⟨Z,T1,⟨a,a',T2⟩,h1,h2⟩:=st
  obtain⟨xs,ys,q1,q2,hl⟩:=hg
  obtain⟨its,rv,p1⟩:=I.sho q1
  obtain⟨jts,rw',p2⟩:=I.sho q2
  have e1:=rv.length
  have e2:=rw'.length
  have ne:∀d∈[z,TI,TO,i1,i2],l1≠d∧l2≠d:=fun d hd=>⟨fun t=>(by rw [t,(hf d hd).1] at q1;cases q1),fun t=>(by rw [t,(hf d hd).1] at q2;cases q2)⟩
  have DD:ZipApart z TI TO i1 i2 l1 l2:=⟨D.TIz,D.TOz,D.i1z,D.i2z,D.TITO,D.TIi1,D.TIi2,D.TOi1,D.TOi2,D.i12,(ne z (by simp)).1,(ne TO (by simp)).1,(ne i1 (by simp)).1,(ne i2 (by simp)).1,(ne z (by simp)).2,(ne TO (by simp)).2,(ne i1 (by simp)).2,(ne i2 (by simp)).2⟩
  refine zn_stop (I.ok.hd hc) DD Z T1 T2 h1 h2 p1 p2 ?_ fun h' k'=>⟨rfl,I.turnedR (t':=s.toks) (fp:=[z,TI,TO,i1,i2]) (fun d ob hd t=>by
    simp only [List.mem_cons,List.not_mem_nil,or_false,not_or] at hd
    exact k' d ob hd.1 hd.2.2.1 hd.2.2.2.1 hd.2.2.2.2 t) hf⟩
  rcases hl with hl|hl
  ·exact .inl (by simp;omega)
  ·exact .inr (by simp;omega)
 self:=fun _ _ _ _ _ st h=>wpAny_pyIter_zip st.1 h
section
variable{X:Cx}{es:List Expr}{k:Nat}{ps:Pos}
def iZipQ(b c:Bool)(ta:TA):TI:=fun σ H R=>ta σ H fun vs H1=>∃l1 l2 xs ys,vs=[.ref l1,.ref l2]∧H1 l1=some (sho b xs)∧H1 l2=some (sho c ys)∧R (Itq b c l1 l2) H1
theorem pi_zipQ(b c:Bool){l m:Expr}{ta:TA}{p pos:Pos} (hg:Gl X "zip") (hm:X.mg "zip"=none) (ha:PA X [l,m] ta) (hs:starEach [l,m] X.env=(false,eval l X.env)::starEach [m] X.env:=by rfl) (hpl:(backTo pos (starEach [m] X.env)).any (·.1)=false:=by rfl) :
  PI X (.Tuple es k ps) (.Call (.Name "zip" p) [l,m] [] pos) (iZipQ b c ta):=by
 intro pins s σ H R I h
 refine Call_ (ld_blt I hg hm bootZip (PyProof.Rows.callWith_type1 (thn (ha pos pins s σ H _ I h) fun us s1 ⟨vs,H1,I1,r1,q1⟩=>?_) hs hpl))
 obtain⟨l1,l2,xs,ys,e,q1,q2,q⟩:=q1
 subst e
 cases r1 with
 |cons ra rb =>
  cases rb with
  |cons rb rc =>
   cases rc
   cases ra
   cases rb
   obtain⟨its,rv,p1⟩:=I1.sho q1
   obtain⟨jts,rw',p2⟩:=I1.sho q2
   refine call_zip p1 p2 fun h' Z T1 T2 h1 h2 kk=>?_
   have n:∀a b:Nat,a≠b→s1.heap.objs.size+a≠s1.heap.objs.size+b:=fun a b h e=>h (Nat.add_left_cancel e)
   refine wpAny_pyIter_zip (s:={ s1 with heap:=h' }) Z ⟨s1.heap.objs.size+4,[s1.heap.objs.size+4,s1.heap.objs.size+2,s1.heap.objs.size+3,s1.heap.objs.size,s1.heap.objs.size+1],_,_,H1,rfl,I1.kept (t':=s1.toks) kk,
    turn_zipQ b c l1 l2 _ _ _ _ _ ⟨n 2 4 (by decide),n 3 4 (by decide),n 0 4 (by decide),n 1 4 (by decide),n 2 3 (by decide),n 2 0 (by decide),n 2 1 (by decide),n 3 0 (by decide),n 3 1 (by decide),n 0 1 (by decide)⟩,⟨Z,T1,⟨_,_,T2⟩,h1,h2⟩,fun d hd=>?_,q⟩
   have hd':s1.heap.objs.size≤d:=by
    simp only [List.mem_cons,List.not_mem_nil,or_false] at hd
    rcases hd with rfl|rfl|rfl|rfl|rfl<;>first|exact Nat.le_add_right _ _|exact Nat.le_refl _
   exact I1.fpOk hd' (I1.hok.fresh hd')
end
end L2
namespace L2
open PySem PySem.Spec PyProof.Rows
end L2
namespace L2
open PySem PySem.Spec PyProof.Rows
def plainE:V→Bool
 |.ref _=>true
 |.int _=>true
 |.str _=>true
 |_=>false
def rSameE(neg:Bool):R2:=fun x y H Q=>∃a b kvs,x=.ref a∧y=.ref b∧H a=some (.dK kvs)∧H b=some (.dK kvs)∧(∀p∈kvs,plainE p.2=true)∧Q (.bl (!neg)) H
theorem eqAt_rel{A:Around}{s:Shared}{v:V}{a b:Value}(h:plainE v=true)(ha:RelV v a)(hb:RelV v b):SeqAt.EqAt A s a b true:=by
 cases v with
 |ref c=>cases ha;cases hb;exact SeqAt.EqAt.same _
 |int i =>
  obtain⟨t,rfl⟩:=ha
  obtain⟨u,rfl⟩:=hb
  have:=SeqAt.EqAt.int_int (A:=A) (s:=s) i t i u
  rw [beq_self_eq_true] at this
  exact this
 |str i =>
  obtain⟨t,rfl⟩:=ha
  obtain⟨u,rfl⟩:=hb
  have:=SeqAt.EqAt.str_str (A:=A) (s:=s) i t i u
  rw [beq_self_eq_true] at this
  exact this
 |_=>cases h
theorem keqE{A:Around}{s:Shared}{kvs:List (Key × V)}{us:List (Key × Value)}(r1:KV kvs us)(hr:∀p∈kvs,plainE p.2=true)(hn:(kvs.map (·.1)).Nodup):∀{l:List (Key × V)} {m:List (Key × Value)},KV l m→(∀p∈l,p∈kvs)→PySem.W.KeqHits A s us m true:=by
 intro l m p
 unfold KV at p
 induction p with
 |nil=>intro _;exact .nil
 |@cons a b as bs h t ih =>
  intro hm
  have ha:=hm a List.mem_cons_self
  have hx:=r1.val a.1
  rw [valV_nodup hn a ha] at hx
  obtain⟨b1,b2⟩:=b
  obtain⟨f1,f2⟩:=h
  have f1':a.1=b1:=f1
  rw [f1'] at hx
  obtain⟨y,hy,ry⟩:=RelO.some_of (v:=a.2) (o:=valueAt us b1) hx
  exact PySem.W.KeqHits.hit (e:=true) (b:=true) hy (eqAt_rel (hr a ha) f2 ry) (ih fun p hp=>hm p (List.mem_cons_of_mem _ hp))
section
variable{X:Cx}
theorem op_neE(hu:X.A.units+1 < cLine):OpR X (compareOp .NotEq) (rSameE true):=by
 intro pins s σ H x y v u Q I rx ry h
 obtain⟨a,b,kvs,rfl,rfl,ha,hb,hr,q⟩:=h
 cases rx
 cases ry
 obtain⟨za,ka,va,ra,da⟩:=dk_of I.hok ha
 obtain⟨zb,kb,vb,rb,db⟩:=dk_of I.hok hb
 refine PySem.W.keq_ne ka kb da db (by omega) (fun _=>keqE (kvs:=kvs) rb hr (dK_nodup I ha) ra fun p hp=>hp) ?_
 rw [←ra.length,←rb.length,beq_self_eq_true]
 exact⟨.bl _,H,I,rfl,q⟩
end
end L2
namespace L2
open PySem PySem.Spec PyProof.Rows
section
variable{P:Program}{w:World}{A:Around}{E:Value→Shared→Prop}{s:Shared}{b c:Bool}{z TI TO i1 i2 l1 l2 j l:Addr}{n:Nat}{its jts:Array Value}{x y p q:Value}
end
section
variable{X:Cx}{pins:List (Addr × Obj)}{σ:St}
end
section
variable{X:Cx}{l m:Expr}{ta:TA}{p p2 pos pos2:Pos}
end
end L2
namespace L2
open PySem PySem.Spec PyProof.Rows
theorem for_zipQ{b c:Bool}{l1 l2:Addr}{xs ys:List V}{g:TG}{tb:TS}{D:Ends}{σ:St}{H:Hp}(Pv:Nat→St→Hp→Prop)(h0:Pv 0 σ H)(hlen:xs.length=ys.length)(hl:∀i σ H,i≤xs.length→Pv i σ H→H l1=some (sho b xs)∧H l2=some (sho c ys))
  (hs:∀i x y p σ H,xs[i]?=some x→ys[i]?=some y→H p=none→Pv i σ H→g (.ref p) σ (upd H p (.tup [x,y])) fun σ2 H2=>tb { D with nx:=Pv (i+1),ct:=Pv (i+1),bk:=D.nx } σ2 H2) (hd:∀σ H,Pv xs.length σ H→D.nx σ H) :
  ∃W:Nat→Nat→St→Hp→Prop,(∃m,W 0 m σ H)∧∀i m σ H,W i m σ H →
   ((Itq b c l1 l2).stop i H∧D.nx σ H)∨((Itq b c l1 l2).go i H∧∃N:St→Hp→Prop,(∀σ' H',N σ' H'→∃m',m' < m∧W (i+1) m' σ' H')∧∀x H',(Itq b c l1 l2).yld i H x H'→g x σ H' fun σ2 H2=>tb { D with nx:=N,ct:=N,bk:=D.nx } σ2 H2):=by
 refine⟨fun i m σ H=>m=xs.length - i∧i≤xs.length∧Pv i σ H,⟨xs.length,by simp,Nat.zero_le _,h0⟩,?_⟩
 rintro i m σ H ⟨rfl,hi,p⟩
 obtain⟨q1,q2⟩:=hl i σ H hi p
 by_cases hlt:i < xs.length
 ·have ex:xs[i]?=some xs[i]:=List.getElem?_eq_getElem hlt
  have ey:ys[i]?=some (ys[i]'(by omega)):=List.getElem?_eq_getElem (by omega)
  refine .inr ⟨⟨xs,ys,_,_,q1,q2,ex,ey⟩,Pv (i+1),fun σ' H' p'=>⟨xs.length - (i+1),by omega,rfl,hlt,p'⟩,fun x H' y=>?_⟩
  obtain⟨a,u,v,ha,rfl,rfl,h1,h2⟩:=y
  exact hs i u v a σ H (h1 xs q1) (h2 ys q2) ha p
 ·obtain rfl:i=xs.length:=by omega
  exact .inl ⟨⟨xs,ys,q1,q2,.inl (Nat.le_refl _)⟩,hd σ H p⟩
end L2
namespace L2
open PySem PySem.Spec PyProof.Rows
theorem readsAll_at{h:Heap}:∀{vs:List Value} {ds:List PyData} {as:List Addr} {j:Nat} {v:Value},ReadsAll h vs ds as→vs[j]?=some v→∃d bs,ds[j]?=some d∧Reads h v d bs
 |_,_,_,_,_,.nil,e=>by simp at e
 |_,_,_,0,_,.cons r _,e=>by
  obtain rfl:=Option.some.inj e
  exact⟨_,_,rfl,r⟩
 |_,_,_,j+1,_,.cons _ t,e=>readsAll_at (j:=j) t e
theorem readsAll_len{h:Heap}:∀{vs:List Value} {ds:List PyData} {as:List Addr},ReadsAll h vs ds as→vs.length=ds.length
 |_,_,_,.nil=>rfl
 |_,_,_,.cons _ t=>congrArg (·+1) (readsAll_len t)
def rIndexD(K:PySem.W.Frag):V→List V→Hp→VK→Prop:=fun x vs H Q=>∃(a:Addr) (y:V) (ys:List V) (ds:List PyData) (d:PyData) (i:Nat),x=.ref a∧vs=[y]∧SqL K H a ys∧ys.length≤1000∧Dats K H ys ds∧Dat K H y d∧PyData.canLayAll0 ds=true∧d.canLay0=true∧d.depth≤60 ∧
 (∃e,ds[i]?=some e∧PyData.eqv e d=true)∧(∀j e,j < i→ds[j]?=some e→PyData.eqv e d=false)∧Q (.int i) H
theorem mt_indexD{X:Cx}(hu:X.A.units+64 < cLine):MtR X "list.index" (rIndexD X.K):=by
 intro pins s σ H x xs v us Q I rx rv h
 obtain⟨a,y,ys,ds,d,i,rfl,rfl,hq,hys,hds,hd,hl,hl2,hdp,⟨e,hi,he⟩,hno,q⟩:=h
 cases rx
 obtain⟨u,rfl,ru⟩:=rv.one
 obtain⟨its,r,pl,_⟩:=I.list hq
 obtain⟨as,ra⟩:=Dats.reads I hds r
 obtain⟨bs,rb⟩:=Dat.reads I hd ru
 have hlen:its.length=ys.length:=r.length.symm
 have hlen2:=readsAll_len ra
 obtain⟨⟨cls,dd,data,sl⟩,ho,hc,n,hdat⟩:=pl.isList
 simp only at hc hdat
 subst hc hdat
 have at_:∀j (h:j < its.length),∃d' bs,ds[j]?=some d'∧Reads s.heap its[j] d' bs:=fun j h=>readsAll_at ra (List.getElem?_eq_getElem h)
 have hj:i < its.length:=by
  have:=(List.getElem?_eq_some_iff.mp hi).1
  omega
 refine call_meets PySem.F.slot_list_index ⟨_,ho,rfl⟩ PySem.F.entry_list_index (PySem.F.args_list_index_2 _ _)
  (SeqAt.list_indexAt a its.toArray n dd sl u (eqAtD s.heap d) i (by simpa using hj) (by omega) ?_ ?_) ⟨ho,fun y hy=>?_,⟨.int i,H,I.tok _,⟨_,rfl⟩,q⟩⟩
 ·obtain⟨d',cs,h1,h2⟩:=at_ i hj
  rw [hi] at h1;cases h1
  show eqAtD s.heap d its[i]=true
  rw [eqAtD_of (canLayAll_mem hl (List.mem_of_getElem? hi)) h2]
  exact he
 ·intro j hjs hlt
  obtain⟨d',cs,h1,h2⟩:=at_ j (by simpa using hjs)
  show eqAtD s.heap d its[j]=false
  rw [eqAtD_of (canLayAll_mem hl (List.mem_of_getElem? h1)) h2]
  exact hno j d' hlt h1
 ·obtain⟨e',he',cs,re⟩:=readsAll_get ra y (by simpa using hy)
  have hle:=canLayAll_mem hl he'
  rw [eqAtD_of hle re]
  refine SeqAt.eqAt_reads e' d X.A.in1 s y u cs bs re rb hle hl2 ?_
  have h1:min e'.depth d.depth≤d.depth:=Nat.min_le_right _ _
  have h2:X.A.in1.units≤X.A.units+1:=by first|exact Nat.le_refl _|(show X.A.units+1≤X.A.units+1;exact Nat.le_refl _)|(show X.A.units≤X.A.units+1;exact Nat.le_succ _)
  omega
end L2
namespace K52
open PySem L2 Kk
def top(i:Nat):Stmt:=PySem.Challenge.pw_sealhouse_k52_whole_expressions_by_kind.main.body.getD i (.Pass ⟨0,0,0,0⟩)
abbrev sWithin:Stmt:=top 8
abbrev sWords:Stmt:=top 10
abbrev sBounded:Stmt:=top 11
abbrev sKin:Stmt:=top 13
abbrev sVarK:Stmt:=top 14
abbrev sAnsK:Stmt:=top 15
abbrev sKbf:Stmt:=top 16
abbrev sDem:Stmt:=top 17
abbrev sCell:Stmt:=top 19
abbrev sFeed:Stmt:=top 20
abbrev sTake:Stmt:=top 21
abbrev sWord:Stmt:=top 22
abbrev sSize:Stmt:=top 23
abbrev sSame:Stmt:=top 24
abbrev sTold:Stmt:=top 25
abbrev sDesk:Stmt:=top 26
abbrev sLeaf:Stmt:=top 27
abbrev sAny:Stmt:=top 28
abbrev sCallL:Stmt:=top 29
abbrev sReck:Stmt:=top 30
abbrev sLet:Stmt:=top 31
abbrev sOf:Stmt:=top 32
abbrev sPass:Stmt:=top 33
abbrev sRound:Stmt:=top 34
abbrev sOther:Stmt:=top 35
abbrev sSpoilt:Stmt:=top 36
abbrev sLaw:Stmt:=top 37
theorem small{n:Nat}(h:n≤1000):n≤sizeLine:=Nat.le_of_lt (small1000 h)
theorem same_new{H:Hp}{p:Addr}(h:H p=none)(o:HO):Same H (upd H p o):=fun b u q=>by rw [upd_ne (ne_of_none q h)];exact q
def sumW(ks:List Kd):Nat:=(ks.map Kd.words).sum
theorem words_pos(k:Kd):0 < k.words:=by
 have:=words_leaves k
 have:=leaves_pos k
 omega
theorem sumW_app(a b:List Kd):sumW (a++b)=sumW a+sumW b:=by
 unfold sumW
 rw [List.map_append,List.sum_append]
theorem sumW_one(k:Kd):sumW [k]=k.words:=Nat.add_zero _
theorem len_sumW:∀ks:List Kd,ks.length≤sumW ks
 |[]=>Nat.le_refl _
 |k::ks=>by
  have h1:=len_sumW ks
  have h2:=words_pos k
  show ks.length+1≤k.words+sumW ks
  omega
theorem snoc{K:PySem.W.Frag}{H:Hp}:∀{us:List V} {v:V} {ks:List Kd},KdsAt K H (us++[v]) ks→∃ls k,ks=ls++[k]∧KdsAt K H us ls∧KdAt K H v k
 |[],v,_,.cons a .nil=>⟨[],_,rfl,.nil,a⟩
 |u::us,v,_,.cons a b=>by
  obtain⟨ls,k,rfl,h1,h2⟩:=snoc (us:=us) b
  exact⟨_::ls,k,rfl,.cons a h1,h2⟩
theorem snoc_get{us:List V}{v:V}:(us++[v])[(us++[v]).length - 1]?=some v:=by simp
theorem one{K:PySem.W.Frag}{H:Hp}{v:V}{k:Kd}(h:KdAt K H v k):KdsAt K H [v] [k]:=.cons h .nil
def spWords(K:PySem.W.Frag):Sp:=fun vs H Q _=>∃(x:V) (k:Kd),vs=[x]∧KdAt K H x k∧k.words≤900∧∀H',Same H H'→Q (.int k.words) H'
section
variable{P:Program}{w:World}{K:PySem.W.Frag}{mg:Str→Option Value}{base:Heap}
theorem scWords:FnScope ["kind","words","left","here"] ["kind"] (defScope sWords):=⟨rfl,rfl,rfl,by decide +kernel,rfl,by decide +kernel,by decide +kernel⟩
theorem ok_words{f:Addr}{fd:FuncData} (F:Fun K "words_in" "words_in" sWords f fd) (ml:mg "len"=none):FnOk P w K mg base CX0 1 f fd ["kind"] (spWords K):=by
 refine F.ok scWords (fun vs H Q E h=>?_) (fun cdv A outer s H vs Q E hr h=>?_)
 ·obtain⟨x,k,rfl,_⟩:=h
  rfl
 obtain⟨x,k,rfl,hk,h9,q⟩:=h
 refine⟨_,pss_cons (ps_set (i:=1) scWords.nd rfl (Or.inl rfl) pe_int)
  (pss_cons (ps_set (i:=2) scWords.nd rfl (Or.inl rfl) (pe_lst (pa_cons (pv 0) pa_nil)))
  (pss_cons (ps_while PassesOwn.never (pt_cmpR op_gt (pe_callB call_len_seq rfl ml PySem.boot_len (pa_cons (pv 2) pa_nil)) pe_int (nomark _))
   (pss_cons (ps_set (i:=3) scWords.nd rfl (Or.inl rfl) (pe_bm0 PySem.F.plainAttrs_list PySem.F.slot_list_pop PySem.F.type_list_pop mt_pop (pv 2)))
   (pss_cons (ps_aug (i:=1) scWords.nd rfl (Or.inl rfl) pe_int ip_add)
   (pss_one (ps_if (pt_cmpR op_eq (pe_ix ix_tup (pv 3) pe_int (fun _ _=>rfl)) pe_str (nomark _))
    (pss_cons (ps_expr (pe_bm PySem.F.plainAttrs_list PySem.F.slot_list_append PySem.F.type_list_append mt_append (pv 2) (pa_cons (pe_ix ix_tup (pv 3) pe_int (fun _ _=>rfl)) pa_nil)))
    (pss_one (ps_expr (pe_bm PySem.F.plainAttrs_list PySem.F.slot_list_append PySem.F.type_list_append mt_append (pv 2) (pa_cons (pe_ix ix_tup (pv 3) pe_int (fun _ _=>rfl)) pa_nil))))) pss_nil)))))
  (pss_one (ps_ret (pv 1))))),?_⟩
 refine⟨_,rfl,(by show 1≤sizeLine;decide),fun l hl=>?_⟩
 have sL:∀o,Same H (upd H l o):=same_new hl
 refine while_by (fun σ H2=>∃(vs:List V) (ks:List Kd) (n:Nat) (h:Option V),σ=[some x,some (.int n),some (.ref l),h]∧H2=upd H l (.lst vs)∧KdsAt K H vs ks∧n+sumW ks=k.words)
  (fun σ _=>match σ with|[_,some (.int n),_,_]=>k.words - n.toNat|_=>0) ⟨[x],[k],0,none,rfl,rfl,one hk,by rw [sumW_one];omega⟩ ?_ ?_
 ·rintro σ H2 ⟨vs,ks,n,h,rfl,rfl,hv,hn⟩
  refine⟨_,rfl,l,_,rfl,.inl (SqL.of upd_same),_,_,rfl,rfl,_,rfl,?_⟩
  refine ite2 (fun c=>?_) (fun c=>?_)
  ·have c':(0:Int) < (vs.length:Int):=of_decide_eq_true c
   have hne:vs≠[]:=fun e=>by rw [e] at c';exact absurd c' (by decide)
   obtain⟨us,v,rfl⟩:∃us v,vs=us++[v]:=⟨_,_,(List.dropLast_concat_getLast hne).symm⟩
   obtain⟨ls,j,rfl,hu,hj⟩:=snoc hv
   rw [sumW_app,sumW_one] at hn
   have hjp:=words_pos j
   refine⟨_,rfl,?_,l,_,v,rfl,rfl,upd_same,snoc_get,?_⟩
   ·exact .inl ⟨rfl,_,SqL.of upd_same⟩
   rw [upd_upd,List.dropLast_concat]
   have hl2:=len_sumW ls
   have hul:=hu.length
   refine⟨_,rfl,_,_,rfl,rfl,?_⟩
   have e1:((n:Int)+1)=((n+1:Nat):Int):=by omega
   cases hj with
   |@num p m t =>
    refine⟨_,rfl,_,_,_,_,rfl,rfl,(sL _).tup t,(show atI [V.str "num",.int m] 0=some (.str "num") from rfl),rfl,_,rfl,ite2 (fun c=>absurd c (by decide +kernel)) (fun _=>?_)⟩
    have hw:(Kd.num m).words=1:=rfl
    rw [hw] at hn
    refine⟨⟨us,ls,n+1,_,by rw [←e1]<;>rfl,rfl,hu,by omega⟩,?_⟩
    show k.words - ((n:Int)+1).toNat < k.words - (n:Int).toNat
    omega
   |@name p q t h =>
    refine⟨_,rfl,_,_,_,_,rfl,rfl,(sL _).tup h,(show atI [V.str "name",.str q,.str t] 0=some (.str "name") from rfl),rfl,_,rfl,ite2 (fun c=>absurd c (by decide +kernel)) (fun _=>?_)⟩
    have hw:(Kd.name q t).words=1:=rfl
    rw [hw] at hn
    refine⟨⟨us,ls,n+1,_,by rw [←e1]<;>rfl,rfl,hu,by omega⟩,?_⟩
    show k.words - ((n:Int)+1).toNat < k.words - (n:Int).toNat
    omega
   |@pair p y z a b t ha hb =>
    have hw:(Kd.pair a b).words=1+a.words+b.words:=rfl
    rw [hw] at hn hjp
    have h1:=words_pos a
    have h2:=words_pos b
    refine⟨_,rfl,_,_,_,_,rfl,rfl,(sL _).tup t,(show atI [V.str "pair",y,z] 0=some (.str "pair") from rfl),rfl,_,rfl,ite2 (fun _=>?_) (fun c=>absurd (by decide +kernel) c)⟩
    refine⟨_,rfl,.inl ⟨rfl,_,SqL.of upd_same⟩,_,rfl,_,_,_,_,rfl,rfl,(sL _).tup t,(show atI [V.str "pair",y,z] 1=some y from rfl),l,_,_,rfl,rfl,upd_same,Nat.lt_of_lt_of_le (Nat.lt_succ_self _) (small (by omega)),?_⟩
    rw [upd_upd]
    refine⟨_,rfl,.inl ⟨rfl,_,SqL.of upd_same⟩,_,rfl,_,_,_,_,rfl,rfl,(sL _).tup t,(show atI [V.str "pair",y,z] 2=some z from rfl),l,_,_,rfl,rfl,upd_same,Nat.lt_of_lt_of_le (Nat.lt_succ_self _) (small (by rw [List.length_append];show us.length+1+1≤1000;omega)),?_⟩
    rw [upd_upd]
    refine⟨⟨us++[y]++[z],ls++[a]++[b],n+1,_,by rw [←e1]<;>rfl,rfl,(hu.append (one ha)).append (one hb),by rw [sumW_app,sumW_app,sumW_one,sumW_one];omega⟩,?_⟩
    show k.words - ((n:Int)+1).toNat < k.words - (n:Int).toNat
    omega
  ·have c':¬(0:Int) < (vs.length:Int):=of_decide_eq_false (Bool.eq_false_iff.mpr c)
   have hv0:vs=[]:=List.length_eq_zero_iff.mp (by omega)
   subst hv0
   cases hv
   have e:n=k.words:=hn
   subst e
   exact⟨_,rfl,q _ (sL _)⟩
 ·rintro σ H2 Q1 Q2 hq ⟨v,e1,a,xs,e2,hs,i,j,e3,e4,b,e5,h⟩
  exact⟨v,e1,a,xs,e2,hs,i,j,e3,e4,b,e5,hq _ _ h⟩
end
theorem sok_iff(z:Str):PyData.strOk z=true↔∀c∈z.cps.toList,c < 0x110000:=by
 unfold PyData.strOk
 rw [Array.all_eq_true_iff_forall_mem]
 simp
theorem sok_app{a b:Str}(ha:PyData.strOk a=true)(hb:PyData.strOk b=true):PyData.strOk (a++b)=true:=by
 rw [sok_iff] at *
 intro c hc
 have hc':c∈(a.cps++b.cps).toList:=hc
 rw [Array.toList_append] at hc'
 rcases List.mem_append.mp hc' with h|h
 ·exact ha c h
 ·exact hb c h
theorem sok_rep{x:Str}(h:PyData.strOk x=true):∀(n:Nat) (acc:Array Nat),(∀c∈acc.toList,c < 0x110000)→∀c∈((List.replicate n x.cps).foldl (·++·) acc).toList,c < 0x110000
 |0,acc,ha=>ha
 |n+1,acc,ha=>by
  rw [List.replicate_succ,List.foldl_cons]
  refine sok_rep h n _ fun c hc=>?_
  rw [Array.toList_append] at hc
  rcases List.mem_append.mp hc with q|q
  ·exact ha c q
  ·exact(sok_iff x).mp h c q
theorem sok_mul{x:Str}(h:PyData.strOk x=true)(n:Int):PyData.strOk (Txt.mul x n)=true:=by
 unfold Txt.mul
 split
 ·decide +kernel
 ·split
  ·exact h
  ·rw [sok_iff]
   exact sok_rep h _ _ (fun c hc=>by simp at hc)
theorem len_app(a b:Str):(a++b).length=a.length+b.length:=by
 show Array.size (a.cps++b.cps)=_
 rw [Array.size_append]<;>rfl
theorem at_int{ns:List Int}{i:Int}(h0:0≤i)(h1:i < ns.length):∃v:Int,atI (ns.map V.int) i=some (.int v):=by
 have hk:i.toNat < List.length ns:=by omega
 have e:i=((i.toNat:Nat):Int):=by omega
 have q:atI (ns.map V.int) ((i.toNat:Nat):Int)=some (.int ns[i.toNat]):=atI_nat (by simp [hk])
 rw [←e] at q
 exact⟨_,q⟩
theorem sput{H H2:Hp}{a:Addr}{o:HO}(e:Same H H2)(h:H a=none):Same H (upd H2 a o):=fun b u q=>by rw [upd_ne (ne_of_none q h)];exact e b u q
theorem sqt_upd{K:PySem.W.Frag}{H:Hp}{l a:Addr}{ys xs:List V}{o:HO}(h:H l=some (.lst ys))(t:SqT K H a xs):SqT K (upd H l o) a xs:=by
 rcases t with (t|⟨o',t⟩)|t
 ·exact .inl (.inl (by rw [upd_ne (fun e=>by rw [e,h] at t;cases t)];exact t))
 ·exact .inl (.inr ⟨o',by rw [upd_ne (fun e=>by rw [e,h] at t;cases t)];exact t⟩)
 ·exact .inr t
theorem kd_keep{K:PySem.W.Frag}{H H':Hp}(e:∀a xs,SqT K H a xs→SqT K H' a xs):∀{x:V} {k:Kd},KdAt K H x k→KdAt K H' x k
 |_,_,.num h=>.num (e _ _ h)
 |_,_,.name h=>.name (e _ _ h)
 |_,_,.pair h a b=>.pair (e _ _ h) (kd_keep e a) (kd_keep e b)
theorem sql_same{K:PySem.W.Frag}{H H':Hp}{a:Addr}{xs:List V}(e:Same H H')(h:SqL K H a xs):SqL K H' a xs:=by
 rcases h with (h|⟨o,h⟩)|h
 ·exact .inl (.inl (e _ _ h))
 ·exact .inl (.inr ⟨o,e _ _ h⟩)
 ·exact .inr h
theorem call_isi{X:Cx}:CallR X (.builtin "isinstance") (fun xs H Q=>∃x T t b,xs=[x,.ty T]∧TyOf X.K H x t∧PySem.W.kitOne X.K t (.type T)=some b∧Q (.bl b) H):=by
 intro pins s σ H xs us Q I rv h
 obtain⟨x,T,t,b,rfl,ty,e,q⟩:=h
 obtain⟨u,v,rfl,r1,r2⟩:=rv.two
 cases r2
 exact isinst_ok I r1 ty e fun tk=>⟨.bl b,H,I.tok _,rfl,q⟩
theorem kit_ii(K:PySem.W.Frag):PySem.W.kitOne K (.type "int") (.type "int")=some true:=rfl
theorem kit_ib(K:PySem.W.Frag):PySem.W.kitOne K (.type "int") (.type "bool")=some false:=rfl
theorem bootInt:bootBuiltins "int"=some (.type "int"):=by decide +kernel
theorem bootTuple:bootBuiltins "tuple"=some (.type "tuple"):=by decide +kernel
def Kd.depth:Kd→Nat
 |.num _=>1
 |.name _ _=>1
 |.pair a b=>1+max (Kd.depth a) (Kd.depth b)
def smW(z:Str):Prop:=PyData.strOk z=true∧z.length≤14
def Kd.ok:Kd→Prop
 |.num _=>True
 |.name q t=>smW q∧smW t
 |.pair a b=>Kd.ok a∧Kd.ok b
def Kd.dat:Kd→PyData
 |.num n=>.tuple [.str "num",.int n]
 |.name q t=>.tuple [.str "name",.str q,.str t]
 |.pair a b=>.tuple [.str "pair",Kd.dat a,Kd.dat b]
theorem kd_dat{K:PySem.W.Frag}{H:Hp}:∀{x:V} {k:Kd},KdAt K H x k→Dat K H x (Kd.dat k)
 |_,_,.num t=>.tup t (.cons (.str _) (.cons (.int _) .nil))
 |_,_,.name t=>.tup t (.cons (.str _) (.cons (.str _) (.cons (.str _) .nil)))
 |_,_,.pair t a b=>.tup t (.cons (.str _) (.cons (kd_dat a) (.cons (kd_dat b) .nil)))
theorem eqv_tup(xs ys:List PyData):PyData.eqv (.tuple xs) (.tuple ys)=PyData.eqvAll xs ys:=by simp [PyData.eqv]
theorem eqv_lst(xs ys:List PyData):PyData.eqv (.list xs) (.list ys)=PyData.eqvAll xs ys:=by simp [PyData.eqv]
theorem eqvA_cons(x y:PyData)(xs ys:List PyData):PyData.eqvAll (x::xs) (y::ys)=(PyData.eqv x y&&PyData.eqvAll xs ys):=by simp [PyData.eqvAll]
theorem eqvA_nil:PyData.eqvAll [] []=true:=by simp [PyData.eqvAll]
theorem eqv_str(x y:Str):PyData.eqv (.str x) (.str y)=decide (x=y):=by
 rw [show PyData.eqv (.str x) (.str y)=(x==y) by simp [PyData.eqv]]
 rfl
theorem eqv_int(x y:Int):PyData.eqv (.int x) (.int y)=decide (x=y):=by
 rw [show PyData.eqv (.int x) (.int y)=(x==y) by simp [PyData.eqv]]
 rfl
theorem eqv_dat(a:Kd):∀b:Kd,PyData.eqv (Kd.dat a) (Kd.dat b)=decide (a=b):=by
 induction a with
 |num n =>
  intro b
  cases b with
  |num m =>
   show PyData.eqv (.tuple [.str "num",.int n]) (.tuple [.str "num",.int m])=_
   rw [eqv_tup,eqvA_cons,eqvA_cons,eqvA_nil,eqv_str,eqv_int]
   simp
  |name q t =>
   show PyData.eqv (.tuple (.str "num"::_)) (.tuple (.str "name"::_))=_
   rw [eqv_tup,eqvA_cons,eqv_str,decide_eq_false (by decide +kernel),decide_eq_false (by intro e;cases e)]
   rfl
  |pair c d =>
   show PyData.eqv (.tuple (.str "num"::_)) (.tuple (.str "pair"::_))=_
   rw [eqv_tup,eqvA_cons,eqv_str,decide_eq_false (by decide +kernel),decide_eq_false (by intro e;cases e)]
   rfl
 |name q t =>
  intro b
  cases b with
  |num m =>
   show PyData.eqv (.tuple (.str "name"::_)) (.tuple (.str "num"::_))=_
   rw [eqv_tup,eqvA_cons,eqv_str,decide_eq_false (by decide +kernel),decide_eq_false (by intro e;cases e)]
   rfl
  |name q' t' =>
   show PyData.eqv (.tuple [.str "name",.str q,.str t]) (.tuple [.str "name",.str q',.str t'])=_
   rw [eqv_tup,eqvA_cons,eqvA_cons,eqvA_cons,eqvA_nil,eqv_str,eqv_str,eqv_str]
   simp
  |pair c d =>
   show PyData.eqv (.tuple (.str "name"::_)) (.tuple (.str "pair"::_))=_
   rw [eqv_tup,eqvA_cons,eqv_str,decide_eq_false (by decide +kernel),decide_eq_false (by intro e;cases e)]
   rfl
 |pair a1 a2 h1 h2 =>
  intro b
  cases b with
  |num m =>
   show PyData.eqv (.tuple (.str "pair"::_)) (.tuple (.str "num"::_))=_
   rw [eqv_tup,eqvA_cons,eqv_str,decide_eq_false (by decide +kernel),decide_eq_false (by intro e;cases e)]
   rfl
  |name q' t' =>
   show PyData.eqv (.tuple (.str "pair"::_)) (.tuple (.str "name"::_))=_
   rw [eqv_tup,eqvA_cons,eqv_str,decide_eq_false (by decide +kernel),decide_eq_false (by intro e;cases e)]
   rfl
  |pair c d =>
   show PyData.eqv (.tuple [.str "pair",Kd.dat a1,Kd.dat a2]) (.tuple [.str "pair",Kd.dat c,Kd.dat d])=_
   rw [eqv_tup,eqvA_cons,eqvA_cons,eqvA_cons,eqvA_nil,eqv_str,h1,h2]
   simp
theorem lay_kd:∀{k:Kd},Kd.ok k→PyData.canLay0 (Kd.dat k)=true
 |.num n,_=>by
  have h:PyData.strOk "num"=true:=by decide +kernel
  simp [Kd.dat,PyData.canLay0,PyData.canLayAll0,h]
 |.name q t,⟨h1,h2⟩=>by
  have h:PyData.strOk "name"=true:=by decide +kernel
  simp [Kd.dat,PyData.canLay0,PyData.canLayAll0,h,h1.1,h2.1]
 |.pair a b,⟨h1,h2⟩=>by
  have h:PyData.strOk "pair"=true:=by decide +kernel
  simp [Kd.dat,PyData.canLay0,PyData.canLayAll0,h,lay_kd h1,lay_kd h2]
theorem deep_kd:∀k:Kd,PyData.depth (Kd.dat k)≤Kd.depth k
 |.num n=>by simp [Kd.dat,PyData.depth,PyData.depthAll,Kd.depth]
 |.name q t=>by simp [Kd.dat,PyData.depth,PyData.depthAll,Kd.depth]
 |.pair a b=>by
  have h1:=deep_kd a
  have h2:=deep_kd b
  simp only [Kd.dat,PyData.depth,PyData.depthAll,Kd.depth]
  omega
theorem kd_shaped{k:Kd}(h:Kd.ok k)(hd:Kd.depth k≤60):SeqAt.shaped (Kd.dat k)=true:=by
 have h1:=lay_kd h
 have h2:=deep_kd k
 unfold SeqAt.shaped
 rw [h1,decide_eq_true (show PyData.depth (Kd.dat k)≤64 by omega)]
 rfl
theorem depth_words:∀k:Kd,Kd.depth k≤k.words
 |.num n=>Nat.le_refl _
 |.name q t=>Nat.le_refl _
 |.pair a b=>by
  have h1:=depth_words a
  have h2:=depth_words b
  simp only [Kd.depth,Kd.words]
  omega
section
variable{P:Program}{w:World}{K:PySem.W.Frag}{mg:Str→Option Value}{base:Heap}
def spBounded(K:PySem.W.Frag)(CT:Addr):Sp:=fun vs H Q E=>∃(x:V) (k:Kd) (m:Int),vs=[x,.int m]∧KdAt K H x k∧k.words≤900∧0≤m∧m≤1000000 ∧
 ∀H',Same H H'→if (k.words:Int) > m then E (.ref CT) none H' else Q x H'
theorem scBounded:FnScope ["kind","most","words"] ["kind","most"] (defScope sBounded):=⟨rfl,rfl,rfl,by decide +kernel,rfl,by decide +kernel,by decide +kernel⟩
theorem log_small{i:Int}(h0:0≤i)(h1:i≤1000000):i.natAbs.log2 < 1920:=by
 by_cases hz:i.natAbs=0
 ·rw [hz];decide
 ·refine(Nat.log2_lt hz).mpr (Nat.lt_of_le_of_lt (m:=1000000) (by omega) ?_)
  exact Nat.lt_of_lt_of_le (show 1000000 < 2 ^ 20 by decide) (Nat.pow_le_pow_right (by decide) (by decide))
theorem txt_small{i:Int}(h0:0≤i)(h1:i≤1000000):(Str.ofString (toString i)).length≤2000000:=by
 have:=PyProof.Rows.toString_length_le h0 (k:=7) (by decide) (Int.lt_of_le_of_lt h1 (by decide))
 omega
theorem ok_bounded{f fw CT:Addr}{fd fdw:FuncData} (F:Fun K "bounded" "bounded" sBounded f fd) (GW:FnOk P w K mg base CX0 1 fw fdw ["kind"] (spWords K)) (bW:Binds K fdw ["kind"] []) (kW:PySem.W.keepIn K (.ref fw)=true) (mW:mg "words_in"=some (.ref fw))
  (mT:mg "TooBig"=some (.ref CT)) (xT:PySem.W.excIn K CT bmVE "ValueError.__new__"=true):FnOk P w K mg base (CX1 P w) 2 f fd ["kind","most"] (spBounded K CT):=by
 refine F.okX scBounded (fun vs H Q E h=>?_) (fun cdv A outer s H vs Q E hr h=>?_)
 ·obtain⟨x,k,m,rfl,_⟩:=h
  rfl
 obtain⟨x,k,m,rfl,hk,h9,m0,m1,q⟩:=h
 refine⟨_,pss_cons (ps_set (i:=2) scBounded.nd rfl (Or.inl rfl) (pe_call GW hr rfl mW kW bW .nil pass0 (pa_cons (pv 0) pa_nil)))
  (pss_cons (ps_if (pt_cmpR op_gt (pv 2) (pv 1) (nomark _))
   (pss_one (ps_raise1 rfl mT xT (pa_cons (pe_fstr (pj_cons pe_str (pj_cons (pe_fv (pv 2)) (pj_cons pe_str (pj_cons (pe_fv (pv 1)) (pj_cons pe_str pj_nil))))) (by decide)) pa_nil))) pss_nil)
  (pss_one (ps_ret (pv 0)))),?_⟩
 refine⟨_,rfl,x,k,rfl,hk,h9,fun H1 s1=>?_⟩
 have q1:=q H1 s1
 refine⟨_,rfl,_,rfl,_,_,rfl,rfl,_,rfl,?_⟩
 refine ite2 (fun c=>?_) (fun c=>?_)
 ·have c':(k.words:Int) > m:=of_decide_eq_true c
  rw [if_pos c'] at q1
  have l9:(0:Int)≤(k.words:Int)∧(k.words:Int)≤1000000:=⟨by omega,by omega⟩
  refine⟨_,rfl,by decide +kernel,_,rfl,.inr ⟨_,rfl,log_small l9.1 l9.2,_,rfl,txt_small l9.1 l9.2,_,rfl,by decide +kernel,_,rfl,.inr ⟨_,rfl,log_small m0 m1,_,rfl,txt_small m0 m1,_,rfl,by decide +kernel,fun z hz=>⟨(by show 1≤sizeLine;decide),q1⟩⟩⟩⟩
 ·have c':¬(k.words:Int) > m:=fun z=>c (decide_eq_true z)
  rw [if_neg c'] at q1
  exact⟨_,rfl,q1⟩
end
end K52
namespace K52
open PySem L2 Kk
inductive Fm where
 |lit (v n:Int)
 |op (o:Str) (n:Int)
 |test (o:Str)
 |as_ (n:Int)
 |if_
 |two
 |fst
 |snd
def Fm.vals:Fm→List V
 |.lit v n=>[.str "lit",.int v,.int n]
 |.op o n=>[.str "op",.str o,.int n]
 |.test o=>[.str "test",.str o]
 |.as_ n=>[.str "as",.int n]
 |.if_=>[.str "if"]
 |.two=>[.str "two"]
 |.fst=>[.str "first"]
 |.snd=>[.str "second"]
inductive Ex where
 |var (s:Str)
 |let_ (x:Str) (a b:Ex)
 |nd (f:Fm) (es:List Ex)
 |call (q t:Str) (es:List Ex)
mutual
def Ex.ht:Ex→Nat
 |.var _=>1
 |.let_ _ a b=>1+max a.ht b.ht
 |.nd _ es=>1+max es.length (hts es)
 |.call _ _ es=>1+max es.length (hts es)
def hts:List Ex→Nat
 |[]=>0
 |e::es=>max e.ht (hts es)
end
theorem hts_mem:∀{es:List Ex} {e:Ex},e∈es→e.ht≤hts es
 |a::as,e,h=>by
  show _≤max a.ht (hts as)
  rcases List.mem_cons.mp h with rfl|z
  ·omega
  ·have:=hts_mem z;omega
inductive R (α:Type) where
 |ok (a:α)
 |no (c:Nat)
def Kd.isNum:Kd→Bool
 |.num _=>true
 |_=>false
def fmK(mo:Int):Fm→List Kd→R Kd
 |.lit _ n,[]=>.ok (.num n)
 |.op _ n,ks=>if ks=[.num n,.num n] then .ok (.num n) else .no 2
 |.test _,[a,b]=>if Kd.isNum a=true∧a=b then .ok (.num 2) else .no 2
 |.as_ n,[a]=>if Kd.isNum a=true then .ok (.num n) else .no 2
 |.if_,[a,b,c]=>if a=.num 2 then (if b=c then .ok b else .no 2) else .no 2
 |.two,[a,b]=>if ((Kd.pair a b).words:Int) > mo then .no 3 else if (Kd.pair a b).words≤120 then .ok (.pair a b) else .no 9
 |.fst,[.pair a _]=>.ok a
 |.fst,[_]=>.no 2
 |.snd,[.pair _ b]=>.ok b
 |.snd,[_]=>.no 2
 |_,_=>.no 9
abbrev Orc:=Str→Str→Option (List Kd × Kd)
def ansK(t:Option (List Kd × Kd))(ks:List Kd):R Kd:=match t with
 |none=>.no 0
 |some (us,k)=>if us.length=ks.length then (if us=ks then .ok k else .no 2) else .no 1
mutual
def kin(mo:Int)(C:Orc)(ρ:Str→Option Kd):Ex→R Kd
 |.var s=>match ρ s with
  |some k=>.ok k
  |none=>.no 0
 |.let_ x a b=>match kin mo C ρ a with
  |.ok k=>kin mo C (fun y=>if y=x then some k else ρ y) b
  |.no c=>.no c
 |.nd f es=>match kins mo C ρ es with
  |.ok ks=>fmK mo f ks
  |.no c=>.no c
 |.call q t es=>match kins mo C ρ es with
  |.ok ks=>ansK (C q t) ks
  |.no c=>.no c
def kins(mo:Int)(C:Orc)(ρ:Str→Option Kd):List Ex→R (List Kd)
 |[]=>.ok []
 |e::es=>match kin mo C ρ e with
  |.no c=>.no c
  |.ok k=>match kins mo C ρ es with
   |.ok ks=>.ok (k::ks)
   |.no c=>.no c
end
theorem kins_snoc{mo:Int}{C:Orc}{ρ:Str→Option Kd}{e:Ex}{k:Kd}(he:kin mo C ρ e=.ok k):∀{es:List Ex} {ks:List Kd},kins mo C ρ es=.ok ks→kins mo C ρ (es++[e])=.ok (ks++[k])
 |[],ks,h=>by
  rw [kins] at h
  cases h
  show kins mo C ρ [e]=_
  rw [kins,he,kins]
  rfl
 |a::es,ks,h=>by
  rw [kins] at h
  show kins mo C ρ (a::(es++[e]))=_
  rw [kins]
  cases h1:kin mo C ρ a with
  |no c=>rw [h1] at h;cases h
  |ok k1 =>
   rw [h1] at h
   cases h2:kins mo C ρ es with
   |no c=>rw [h2] at h;cases h
   |ok k2 =>
    rw [h2] at h
    cases h
    rw [kins_snoc he h2]
    rfl
theorem kins_stop{mo:Int}{C:Orc}{ρ:Str→Option Kd}{e:Ex}{c:Nat}{r:List Ex}(he:kin mo C ρ e=.no c):∀{es:List Ex} {ks:List Kd},kins mo C ρ es=.ok ks→kins mo C ρ (es++e::r)=.no c
 |[],ks,h=>by
  show kins mo C ρ (e::r)=_
  rw [kins,he]
 |a::es,ks,h=>by
  rw [kins] at h
  show kins mo C ρ (a::(es++e::r))=_
  rw [kins]
  cases h1:kin mo C ρ a with
  |no c=>rw [h1] at h;cases h
  |ok k1 =>
   rw [h1] at h
   cases h2:kins mo C ρ es with
   |no c=>rw [h2] at h;cases h
   |ok k2=>rw [kins_stop he h2]
theorem kins_len{mo:Int}{C:Orc}{ρ:Str→Option Kd}:∀{es:List Ex} {ks:List Kd},kins mo C ρ es=.ok ks→ks.length=es.length
 |[],ks,h=>by rw [kins] at h;cases h;rfl
 |a::es,ks,h=>by
  rw [kins] at h
  cases h1:kin mo C ρ a with
  |no c=>rw [h1] at h;cases h
  |ok k1 =>
   rw [h1] at h
   cases h2:kins mo C ρ es with
   |no c=>rw [h2] at h;cases h
   |ok k2=>rw [h2] at h;cases h;exact congrArg (·+1) (kins_len h2)
def Kd.sm(k:Kd):Prop:=Kd.ok k∧k.words≤120
def KAt(K:PySem.W.Frag)(H:Hp)(x:V)(k:Kd):Prop:=KdAt K H x k∧Kd.sm k
theorem KAt.same{K:PySem.W.Frag}{H H':Hp}(s:Same H H'){x:V}{k:Kd}(h:KAt K H x k):KAt K H' x k:=⟨h.1.same s,h.2⟩
abbrev KsAt(K:PySem.W.Frag)(H:Hp):List V→List Kd→Prop:=Paired (KAt K H)
theorem KsAt.same{K:PySem.W.Frag}{H H':Hp}(s:Same H H'){xs:List V}{ks:List Kd}(h:KsAt K H xs ks):KsAt K H' xs ks:=Paired.mapP h fun _ _ z=>z.same s
theorem depth_half:∀k:Kd,2*Kd.depth k≤k.words+1
 |.num _=>Nat.le_refl _
 |.name _ _=>Nat.le_refl _
 |.pair a b=>by
  have h1:=depth_half a
  have h2:=depth_half b
  have p1:=words_pos a
  have p2:=words_pos b
  show 2*(1+max (Kd.depth a) (Kd.depth b))≤1+a.words+b.words+1
  omega
theorem sm_shaped{k:Kd}(h:Kd.sm k):SeqAt.shaped (Kd.dat k)=true:=by
 have h1:=depth_half k
 have h2:=h.2
 exact kd_shaped h.1 (by omega)
mutual
inductive ExAt (H:Hp):V→Ex→Prop
 |var {p:Addr} {s:Str}:H p=some (.tup [.str "var",.str s])→s.length≤9000→ExAt H (.ref p) (.var s)
 |let_ {p:Addr} {s:Str} {x y:V} {a b:Ex}:H p=some (.tup [.str "let",.str s,x,y])→ExAt H x a→ExAt H y b→ExAt H (.ref p) (.let_ s a b)
 |nd {p:Addr} {f:Fm} {xs:List V} {es:List Ex}:H p=some (.tup (f.vals++xs))→ExsAt H xs es→((∃v n,f=.lit v n)→xs=[])→ExAt H (.ref p) (.nd f es)
 |call {p p2:Addr} {q t:Str} {xs:List V} {es:List Ex}:H p=some (.tup [.str "call",.str q,.str t,.ref p2])→H p2=some (.tup xs)→ExsAt H xs es→t.length≤9000→ExAt H (.ref p) (.call q t es)
inductive ExsAt (H:Hp):List V→List Ex→Prop
 |nil:ExsAt H [] []
 |cons {x:V} {e:Ex} {xs:List V} {es:List Ex}:ExAt H x e→ExsAt H xs es→ExsAt H (x::xs) (e::es)
end
mutual
theorem ExAt.same{H H':Hp}(s:Same H H'):∀{x:V} {e:Ex},ExAt H x e→ExAt H' x e
 |_,_,.var h l=>.var (s _ _ h) l
 |_,_,.let_ h a b=>.let_ (s _ _ h) (ExAt.same s a) (ExAt.same s b)
 |_,_,.nd h r l=>.nd (s _ _ h) (ExsAt.same s r) l
 |_,_,.call h h2 r l=>.call (s _ _ h) (s _ _ h2) (ExsAt.same s r) l
theorem ExsAt.same{H H':Hp}(s:Same H H'):∀{xs:List V} {es:List Ex},ExsAt H xs es→ExsAt H' xs es
 |_,_,.nil=>.nil
 |_,_,.cons a r=>.cons (ExAt.same s a) (ExsAt.same s r)
end
theorem ExsAt.get{H:Hp}:∀{xs:List V} {es:List Ex} {i:Nat} {x:V},ExsAt H xs es→xs[i]?=some x→∃e,es[i]?=some e∧ExAt H x e
 |_,_,_,_,.nil,h=>by simp at h
 |_,_,0,_,.cons a _,h=>by simp at h;subst h;exact⟨_,rfl,a⟩
 |_,_,i+1,x,.cons _ r,h=>by
  obtain⟨e,h1,h2⟩:=ExsAt.get (i:=i) (x:=x) r (by simpa using h)
  exact⟨e,by simpa using h1,h2⟩
theorem ExsAt.length{H:Hp}:∀{xs:List V} {es:List Ex},ExsAt H xs es→xs.length=es.length
 |_,_,.nil=>rfl
 |_,_,.cons _ r=>congrArg (·+1) r.length
def EnvAt(K:PySem.W.Frag)(H:Hp)(d:Addr)(ρ:Str→Option Kd)(m:Nat):Prop:=∃kvs,H d=some (.dK kvs)∧kvs.length≤m∧∀s,(ρ s=none∧valV kvs (.inr s)=none)∨∃k u,ρ s=some k∧valV kvs (.inr s)=some u∧KAt K H u k
theorem EnvAt.same{K:PySem.W.Frag}{H H':Hp}{d:Addr}{ρ:Str→Option Kd}{m:Nat}(h:EnvAt K H d ρ m)(s:Same H H'):EnvAt K H' d ρ m:=by
 obtain⟨kvs,h1,h2,h3⟩:=h
 refine⟨kvs,s _ _ h1,h2,fun x=>?_⟩
 rcases h3 x with h|⟨k,u,e1,e2,e3⟩
 ·exact .inl h
 ·exact .inr ⟨k,u,e1,e2,e3.same s⟩
def Out(K:PySem.W.Frag)(cl:Nat→Addr)(r:R Kd)(H:Hp)(Q:VK)(E:XK):Prop:=match r with
 |.ok k=>∀H' u,Same H H'→KAt K H' u k→Q u H'
 |.no c=>c < 4∧∀H',Same H H'→E (.ref (cl c)) none H'
theorem Out.same{K:PySem.W.Frag}{cl:Nat→Addr}{r:R Kd}{H H1:Hp}{Q:VK}{E:XK}(h:Out K cl r H Q E)(s:Same H H1):Out K cl r H1 Q E:=by
 cases r with
 |ok k=>exact fun H' u s' hu=>h H' u (s.trans s') hu
 |no c=>exact⟨h.1,fun H' s'=>h.2 H' (s.trans s')⟩
abbrev ahs:List (Str × Int):=[("op",3),("test",2),("as",2),("let",2),("if",1),("two",1),("first",1),("second",1)]
abbrev lvV:List V:=[.str "lit",.str "var"]
theorem flat_lv:lvV.all flatV=true:=by decide +kernel
theorem fm_head(f:Fm):∃(z:Str) (r:List V),f.vals=.str z::r∧z≠"call"∧z≠"var"∧z≠"let"∧((z="two"∧f=.two)∨(z≠"two"∧f≠.two))∧((inV (.str z) lvV=true∧∃v n,f=.lit v n)∨(inV (.str z) lvV=false∧numAtS ahs z=some ((r.length+1:Nat):Int))):=by
 cases f with
 |lit v n=>exact⟨_,_,rfl,by decide +kernel,by decide +kernel,by decide +kernel,.inr ⟨by decide +kernel,nofun⟩,.inl ⟨by decide +kernel,v,n,rfl⟩⟩
 |op o n=>exact⟨_,_,rfl,by decide +kernel,by decide +kernel,by decide +kernel,.inr ⟨by decide +kernel,nofun⟩,.inr ⟨by decide +kernel,rfl⟩⟩
 |test o=>exact⟨_,_,rfl,by decide +kernel,by decide +kernel,by decide +kernel,.inr ⟨by decide +kernel,nofun⟩,.inr ⟨by decide +kernel,rfl⟩⟩
 |as_ n=>exact⟨_,_,rfl,by decide +kernel,by decide +kernel,by decide +kernel,.inr ⟨by decide +kernel,nofun⟩,.inr ⟨by decide +kernel,rfl⟩⟩
 |if_=>exact⟨_,_,rfl,by decide +kernel,by decide +kernel,by decide +kernel,.inr ⟨by decide +kernel,nofun⟩,.inr ⟨by decide +kernel,by decide +kernel⟩⟩
 |two=>exact⟨_,_,rfl,by decide +kernel,by decide +kernel,by decide +kernel,.inl ⟨rfl,rfl⟩,.inr ⟨by decide +kernel,by decide +kernel⟩⟩
 |fst=>exact⟨_,_,rfl,by decide +kernel,by decide +kernel,by decide +kernel,.inr ⟨by decide +kernel,nofun⟩,.inr ⟨by decide +kernel,by decide +kernel⟩⟩
 |snd=>exact⟨_,_,rfl,by decide +kernel,by decide +kernel,by decide +kernel,.inr ⟨by decide +kernel,nofun⟩,.inr ⟨by decide +kernel,by decide +kernel⟩⟩
theorem str_no{a b:Str}(h:a≠b):¬decide (V.str a=V.str b)=true:=fun z=>h (V.str.inj (of_decide_eq_true z))
theorem str_yes{a:Str}:decide (V.str a=V.str a)=true:=decide_eq_true rfl
theorem no_s{a b:Str}{A B:Prop}(h:a≠b)(hb:B):if decide (V.str a=V.str b)=true then A else B:=by rw [if_neg (str_no h)];exact hb
theorem yes_s{a:Str}{A B:Prop}(h:A):if decide (V.str a=V.str a)=true then A else B:=by rw [if_pos str_yes];exact h
theorem at0{x:V}{xs:List V}:atI (x::xs) 0=some x:=(atI_nat (j:=0) rfl:atI (x::xs) ((0:Nat):Int)=_)
theorem at1{x y:V}{xs:List V}:atI (x::y::xs) 1=some y:=(atI_nat (j:=1) rfl:atI (x::y::xs) ((1:Nat):Int)=_)
theorem at2{x y z:V}{xs:List V}:atI (x::y::z::xs) 2=some z:=(atI_nat (j:=2) rfl:atI (x::y::z::xs) ((2:Nat):Int)=_)
theorem at3{x y z u:V}{xs:List V}:atI (x::y::z::u::xs) 3=some u:=(atI_nat (j:=3) rfl:atI (x::y::z::u::xs) ((3:Nat):Int)=_)
theorem cut_from(xs:List V)(k:Nat):cutV xs (some (k:Int)) none=xs.drop k:=by
 unfold cutV
 rw [HT.sIx_nat,HT.sIx_none]
 by_cases h:k≤xs.length
 ·rw [Nat.min_eq_left h,List.take_of_length_le (by rw [List.length_drop];omega)]
 ·rw [Nat.min_eq_right (by omega),List.drop_length,List.drop_eq_nil_of_le (by omega),List.take_nil]
theorem not_whole{n k:Nat}(h:1≤k)(hn:1≤n):¬(HT.sIx n 0 (some (k:Int))=0∧HT.sIx n n none=n):=fun z=>by
 have:=z.1
 rw [HT.sIx_nat] at this
 omega
def spWithin:Sp:=fun vs H Q _=>∃(x:V) (xs:List V),vs=[x]∧((∃(p:Addr) (f:Fm),x=.ref p∧H p=some (.tup (f.vals++xs))∧((∃v n,f=.lit v n)→xs=[]))∨∃(p p2:Addr) (q t:Str),x=.ref p∧H p=some (.tup [.str "call",.str q,.str t,.ref p2])∧H p2=some (.tup xs))∧∀H' (r:Addr),Same H H'→H' r=some (.tup xs)→Q (.ref r) H'
section
variable{P:Program}{w:World}{K:PySem.W.Frag}{mg:Str→Option Value}{base:Heap}
theorem scWithin:FnScope ["expression","form"] ["expression"] (defScope sWithin):=⟨rfl,rfl,rfl,by decide +kernel,rfl,by decide +kernel,by decide +kernel⟩
theorem ok_within{f pA:Addr}{fd:FuncData} (F:Fun K "within" "within" sWithin f fd) (mA:mg "AHEAD"=some (.ref pA)) (hA:DKt K w pA ahs):FnOk P w K mg base CX0 1 f fd ["expression"] spWithin:=by
 refine F.ok scWithin (fun vs H Q E h=>?_) (fun cdv A outer s H vs Q E hr h=>?_)
 ·obtain⟨x,xs,rfl,_⟩:=h
  rfl
 obtain⟨x,xs,rfl,hx,q⟩:=h
 refine⟨_,pss_cons (ps_set (i:=1) scWithin.nd rfl (Or.inl rfl) (pe_ix ix_tup (pv 0) pe_int (fun _ _=>rfl)))
  (pss_cons (ps_if (pt_cmpR op_in_seq (pv 1) (pe_tup (pa_cons pe_str (pa_cons pe_str pa_nil))) (by with_unfolding_all rfl)) (pss_one (ps_ret (pe_tup pa_nil))) pss_nil)
  (pss_cons (ps_if (pt_cmpR op_eq (pv 1) pe_str (nomark _)) (pss_one (ps_ret (pe_ix ix_tup (pv 0) pe_int (fun _ _=>rfl)))) pss_nil)
  (pss_one (ps_ret (pe_slice sl_tup (pv 0) (po_some (pe_dgetK (pe_glob rfl mA (v:=.ref pA) rfl) (pv 1) (fun _ _=>rfl))) po_none))))),?_⟩
 rcases hx with ⟨p,fm,rfl,hp,hlit⟩|⟨p,p2,a,t,rfl,hp,hp2⟩
 ·obtain⟨z,r,e1,e3,_,_,_,e4⟩:=fm_head fm
  rw [e1] at hp
  refine⟨_,rfl,p,_,_,.str z,rfl,rfl,SqT.of hp,?_,_,rfl,(by show 2≤sizeLine;decide),fun p3 hp3=>?_⟩
  ·exact(atI_nat (j:=0) rfl:atI (V.str z::(r++xs)) ((0:Nat):Int)=_)
  have s3:=same_new hp3 (.tup lvV)
  rcases e4 with ⟨e4,e5⟩|⟨e4,e5⟩
  ·refine⟨p3,lvV,rfl,.inr (SqT.of upd_same),rfl,flat_lv,_,rfl,ite2 (fun c=>?_) (fun c=>absurd e4 c)⟩
   cases hlit e5
   exact⟨(by show 0≤sizeLine;decide),fun p5 hp5=>q _ p5 (s3.trans (same_new hp5 _)) upd_same⟩
  ·refine⟨p3,lvV,rfl,.inr (SqT.of upd_same),rfl,flat_lv,_,rfl,ite2 (fun c=>absurd c (by rw [e4];decide)) (fun _=>?_)⟩
   refine⟨_,rfl,rfl,_,rfl,ite2 (fun c=>absurd c (str_no e3)) (fun _=>?_)⟩
   refine⟨_,rfl,_,rfl,pA,ahs,z,_,rfl,hA,rfl,e5,_,rfl,p,_,rfl,SqT.of (s3 _ _ hp),not_whole (by omega) (by simp),fun p5 hp5=>?_⟩
   have e6:cutV (V.str z::r++xs) (some ((r.length+1:Nat):Int)) none=xs:=by
    rw [cut_from]
    simp
   have h5:∀Hq:Hp,(upd Hq p5 (.tup (cutV (V.str z::r++xs) (some ((r.length+1:Nat):Int)) none))) p5=some (.tup xs):=fun Hq=>by rw [upd_same,e6]
   exact q _ p5 (s3.trans (same_new hp5 _)) (h5 _)
 ·refine⟨_,rfl,p,_,_,.str "call",rfl,rfl,SqT.of hp,rfl,_,rfl,(by show 2≤sizeLine;decide),fun p3 hp3=>?_⟩
  have s3:=same_new hp3 (.tup lvV)
  refine⟨p3,lvV,rfl,.inr (SqT.of upd_same),rfl,flat_lv,_,rfl,ite2 (fun c=>absurd c (by decide +kernel)) (fun _=>?_)⟩
  refine⟨_,rfl,rfl,_,rfl,ite2 (fun _=>?_) (fun c=>absurd (by decide +kernel) c)⟩
  exact⟨_,rfl,p,_,_,.ref p2,rfl,rfl,SqT.of (s3 _ _ hp),rfl,q _ _ s3 (s3 _ _ hp2)⟩
end
end K52
namespace K52
open PySem L2 Kk
def ToldAt(K:PySem.W.Frag)(H:Hp)(u:V)(us:List Kd)(k:Kd):Prop:=∃p tk vs x,u=.ref p∧H p=some (.tup [.ref tk,x])∧H tk=some (.tup vs)∧KsAt K H vs us∧KAt K H x k∧us.length≤100
theorem ToldAt.same{K:PySem.W.Frag}{H H':Hp}(s:Same H H'){u:V}{us:List Kd}{k:Kd}(h:ToldAt K H u us k):ToldAt K H' u us k:=by
 obtain⟨p,tk,vs,x,e,h1,h2,h3,h4,h5⟩:=h
 exact⟨p,tk,vs,x,e,s _ _ h1,s _ _ h2,h3.same s,h4.same s,h5⟩
def spDem(C:Addr):Sp:=fun vs H Q E=>∃(b:Bool) (z:Str),vs=[.bl b,.str z]∧z.length≤10000∧if b=true then Q .non H else E (.ref C) none H
def spVarK(K:PySem.W.Frag)(cl:Nat→Addr):Sp:=fun vs H Q E=>∃(s:Str) (d:Addr) (ρ:Str→Option Kd) (m:Nat),vs=[.str s,.ref d]∧EnvAt K H d ρ m∧s.length≤9000∧Out K cl (match ρ s with|some k=>.ok k|none=>.no 0) H Q E
def spAnsK(K:PySem.W.Frag)(cl:Nat→Addr):Sp:=fun vs H Q E=>∃(z:Str) (u:V) (l:Addr) (us ks:List Kd) (k:Kd) (xs:List V),vs=[.str z,u,.ref l]∧z.length≤9000∧ToldAt K H u us k∧H l=some (.lst xs)∧KsAt K H xs ks∧ks.length≤600∧Out K cl (ansK (some (us,k)) ks) H Q E
def spKbf(K:PySem.W.Frag)(cl:Nat→Addr):Sp:=fun vs H Q E=>∃(p l:Addr) (f:Fm) (xs us:List V) (ks:List Kd),vs=[.ref p,.ref l]∧H p=some (.tup (f.vals++xs))∧H l=some (.lst us)∧KsAt K H us ks∧ks.length≤600∧f≠.two∧Out K cl (fmK 0 f ks) H Q E
theorem kat_get{K:PySem.W.Frag}{H:Hp}{xs:List V}{ks:List Kd}{i:Nat}{x:V}(h:KsAt K H xs ks)(hx:xs[i]?=some x):∃k,ks[i]?=some k∧KAt K H x k:=pair_get h hx
theorem ks_dats{K:PySem.W.Frag}{H:Hp}:∀{xs:List V} {ks:List Kd},KsAt K H xs ks→Dats K H xs (ks.map Kd.dat)
 |_,_,.nil=>.nil
 |_,_,.cons a r=>.cons (kd_dat a.1) (ks_dats r)
theorem eqv_dats:∀(a b:List Kd),PyData.eqvAll (a.map Kd.dat) (b.map Kd.dat)=decide (a=b)
 |[],[]=>by rw [List.map_nil,eqvA_nil];rfl
 |[],y::ys=>by simp [PyData.eqvAll]
 |x::xs,[]=>by simp [PyData.eqvAll]
 |x::xs,y::ys=>by
  rw [List.map_cons,List.map_cons,eqvA_cons,eqv_dat,eqv_dats xs ys]
  simp
theorem shaped_lst{ks:List Kd}(h:∀k∈ks,Kd.sm k):SeqAt.shaped (.list (ks.map Kd.dat))=true:=by
 have h1:∀l:List Kd,(∀k∈l,Kd.sm k)→PyData.canLayAll0 (l.map Kd.dat)=true∧PyData.depthAll (l.map Kd.dat)≤60:=by
  intro l
  induction l with
  |nil=>intro _;exact⟨by simp [PyData.canLayAll0],by simp [PyData.depthAll]⟩
  |cons a l ih =>
   intro h
   obtain⟨i1,i2⟩:=ih fun k hk=>h k (.tail _ hk)
   have ha:=h a (.head _)
   have d1:=deep_kd a
   have d2:=depth_half a
   have d3:=ha.2
   refine⟨by simp [PyData.canLayAll0,lay_kd ha.1,i1],?_⟩
   simp only [List.map_cons,PyData.depthAll]
   omega
 obtain⟨a,b⟩:=h1 ks h
 unfold SeqAt.shaped
 rw [Bool.and_eq_true]
 refine⟨by simp [PyData.canLay0,a],decide_eq_true ?_⟩
 simp only [PyData.depth]
 omega
theorem ks_sm{K:PySem.W.Frag}{H:Hp}:∀{xs:List V} {ks:List Kd},KsAt K H xs ks→∀k∈ks,Kd.sm k
 |_,_,.cons a r,k,h=>by
  rcases List.mem_cons.mp h with rfl|h
  ·exact a.2
  ·exact ks_sm r k h
theorem num_sm(n:Int):Kd.sm (.num n):=⟨trivial,by show 1≤120;decide⟩
theorem num_at{K:PySem.W.Frag}{H:Hp}{p:Addr}{n:Int} (h:H p=some (.tup [.str "num",.int n])):KAt K H (.ref p) (.num n):=⟨.num (SqT.of h),num_sm n⟩
def Kd.hd:Kd→Str
 |.num _=>"num"
 |.name _ _=>"name"
 |.pair _ _=>"pair"
theorem kd_tup{K:PySem.W.Frag}{H:Hp}{x:V}{k:Kd}(h:KdAt K H x k):∃p xs,x=.ref p∧SqT K H p (.str (Kd.hd k)::xs):=by
 cases h with
 |num t=>exact⟨_,_,rfl,t⟩
 |name t=>exact⟨_,_,rfl,t⟩
 |pair t _ _=>exact⟨_,_,rfl,t⟩
theorem hd_num(k:Kd):decide (V.str (Kd.hd k)=V.str "num")=Kd.isNum k:=by
 cases k with
 |num _=>exact(by decide +kernel:decide (V.str "num"=V.str "num")=true)
 |name _ _=>exact(by decide +kernel:decide (V.str "name"=V.str "num")=false)
 |pair _ _=>exact(by decide +kernel:decide (V.str "pair"=V.str "num")=false)
def Kd.isPair:Kd→Bool
 |.pair _ _=>true
 |_=>false
theorem hd_pair(k:Kd):decide (V.str (Kd.hd k)=V.str "pair")=Kd.isPair k:=by
 cases k with
 |num _=>exact(by decide +kernel:decide (V.str "num"=V.str "pair")=false)
 |name _ _=>exact(by decide +kernel:decide (V.str "name"=V.str "pair")=false)
 |pair _ _=>exact(by decide +kernel:decide (V.str "pair"=V.str "pair")=true)
theorem hu64_of{A:Around}{k:Nat}(hr:Room k A):A.units+64 < cLine:=by have:=hr.un;omega
theorem le_arg{z:Str}(h:z.length≤9000):(Str.ofString ""++Str.ofString "an argument of "++z).length≤10000:=by
 rw [len_app,len_app]
 have:(Str.ofString "").length+(Str.ofString "an argument of ").length≤100:=by decide +kernel
 omega
section
variable{P:Program}{w:World}{K:PySem.W.Frag}{mg:Str→Option Value}{base:Heap}{cl:Nat→Addr}
theorem scDem:FnScope ["does","what"] ["does","what"] (defScope sDem):=⟨rfl,rfl,rfl,by decide +kernel,rfl,by decide +kernel,by decide +kernel⟩
theorem ok_dem{f C:Addr}{fd:FuncData} (F:Fun K "demand" "demand" sDem f fd) (mW:mg "WrongKind"=some (.ref C)) (xW:PySem.W.excIn K C bmVE "ValueError.__new__"=true):FnOk P w K mg base (CX1 P w) 1 f fd ["does","what"] (spDem C):=by
 refine F.okX (k:=0) scDem (fun vs H Q E h=>?_) (fun cdv A outer s H vs Q E hr h=>?_)
 ·obtain⟨_,_,rfl,_⟩:=h
  rfl
 obtain⟨b,z,rfl,hz,q⟩:=h
 refine⟨_,pss_one (ps_if (pt_not (L2.pt_val (pv 0))) (pss_one (ps_raise1 rfl mW xW (pa_cons (pe_fstr (pj_cons (pe_fv (pv 1)) (pj_cons pe_str pj_nil)) (by decide)) pa_nil))) pss_nil),?_⟩
 refine⟨_,rfl,b,rfl,?_⟩
 cases b with
 |true=>exact iteF q
 |false=>exact iteT ⟨_,rfl,.inl ⟨z,rfl,Nat.le_trans hz (by decide),_,rfl,by omega,_,rfl,by decide +kernel,fun z hz=>⟨(by show 1≤sizeLine;decide),q⟩⟩⟩
theorem scVarK:FnScope ["word","variables"] ["word","variables"] (defScope sVarK):=⟨rfl,rfl,rfl,by decide +kernel,rfl,by decide +kernel,by decide +kernel⟩
theorem ok_varK{f:Addr}{fd:FuncData} (F:Fun K "variable_kind" "variable_kind" sVarK f fd) (mN:mg "NoName"=some (.ref (cl 0))) (xN:PySem.W.excIn K (cl 0) bmVE "ValueError.__new__"=true):FnOk P w K mg base (CX1 P w) 1 f fd ["word","variables"] (spVarK K cl):=by
 refine F.okX (k:=0) scVarK (fun vs H Q E h=>?_) (fun cdv A outer s H vs Q E hr h=>?_)
 ·obtain⟨_,_,_,_,rfl,_⟩:=h
  rfl
 obtain⟨z,d,ρ,m,rfl,⟨kvs,hd,hm,hv⟩,hz,q⟩:=h
 have hu:=hu_of hr
 refine⟨_,pss_cons (ps_if (pt_cmp (pc_dnotin hu (pv 0) (pv 1))) (pss_one (ps_raise1 rfl mN xN (pa_cons (pe_fstr (pj_cons pe_str (pj_cons (pe_fv (pv 0)) pj_nil)) (by decide)) pa_nil))) pss_nil) (pss_one (ps_ret (pe_dget hu (pv 1) (pv 0) (fun _ _=>rfl)))),?_⟩
 have g:=DGet.k (k:=Sum.inr z) hd
 rcases hv z with ⟨e1,e2⟩|⟨k,u,e1,e2,e3⟩
 ·rw [e2] at g
  rw [e1] at q
  refine⟨_,rfl,_,rfl,d,none,rfl,g,_,rfl,iteT ?_⟩
  exact⟨_,rfl,by decide +kernel,_,rfl,.inl ⟨z,rfl,Nat.le_trans hz (by decide),_,rfl,by omega,fun z hz=>⟨(by show 1≤sizeLine;decide),q.2 _ (Same.refl _)⟩⟩⟩
 ·rw [e2] at g
  rw [e1] at q
  refine⟨_,rfl,_,rfl,d,some u,rfl,g,_,rfl,iteF ?_⟩
  exact⟨_,rfl,_,rfl,d,u,rfl,g,q _ _ (Same.refl _) e3⟩
abbrev ansN:List Str:=["word","told","kinds","due","found"]
theorem scAnsK:FnScope ansN ["word","told","kinds"] (defScope sAnsK):=⟨rfl,rfl,rfl,by decide +kernel,rfl,by decide +kernel,by decide +kernel⟩
set_option maxHeartbeats 0 in
theorem ok_ansK{f fm:Addr}{fd fdm:FuncData} (F:Fun K "answer_kind" "answer_kind" sAnsK f fd) (mC:mg "NoCount"=some (.ref (cl 1))) (xC:PySem.W.excIn K (cl 1) bmVE "ValueError.__new__"=true) (ml:mg "len"=none) (mz:mg "zip"=none)
  (GD:FnOk P w K mg base (CX1 P w) 1 fm fdm ["does","what"] (spDem (cl 2))) (bD:Binds K fdm ["does","what"] []) (kD:PySem.W.keepIn K (.ref fm)=true) (mD:mg "demand"=some (.ref fm)):FnOk P w K mg base (CX1 P w) 2 f fd ["word","told","kinds"] (spAnsK K cl):=by
 refine F.okX (k:=1) scAnsK (fun vs H Q E h=>?_) (fun cdv A outer s H vs Q E hr h=>?_)
 ·obtain⟨_,_,_,_,_,_,_,rfl,_⟩:=h
  rfl
 obtain⟨z,u,l,us,ks,k,xs,rfl,hz,⟨p,tk,vs,x,rfl,hp,htk,hvs,hx,hul⟩,hl,hks,hkl,q⟩:=h
 have hu64:=hu64_of hr
 have l1:=hvs.length
 have l2:=hks.length
 refine⟨_,pss_cons (ps_if (pt_cmpR op_ne (pe_callB call_len_seq rfl ml PySem.boot_len (pa_cons (pe_ix ix_tup (pv 1) pe_int (fun _ _=>rfl)) pa_nil)) (pe_callB call_len_seq rfl ml PySem.boot_len (pa_cons (pv 2) pa_nil)) (nomark _))
   (pss_cons (ps_set (i:=3) scAnsK.nd rfl (Or.inl rfl) (pe_callB call_len_seq rfl ml PySem.boot_len (pa_cons (pe_ix ix_tup (pv 1) pe_int (fun _ _=>rfl)) pa_nil)))
   (pss_cons (ps_set (i:=4) scAnsK.nd rfl (Or.inl rfl) (pe_callB call_len_seq rfl ml PySem.boot_len (pa_cons (pv 2) pa_nil)))
   (pss_one (ps_raise1 rfl mC xC (pa_cons (pe_fstr (pj_cons (pe_fv (pv 0)) (pj_cons pe_str (pj_cons (pe_fv (pv 3)) (pj_cons pe_str (pj_cons (pe_fv (pv 4)) pj_nil))))) (by decide)) pa_nil))))) pss_nil)
  (pss_cons (ps_for PassesOwn.leaving rfl (pi_zipQ false true rfl mz (pa_cons (pe_ix ix_tup (pv 1) pe_int (fun _ _=>rfl)) (pa_cons (pv 2) pa_nil))) (pg_tup rfl (pgs_cons (pg_name (i:=3) scAnsK.nd rfl (Or.inl rfl)) (pgs_cons (pg_name (i:=4) scAnsK.nd rfl (Or.inl rfl)) pgs_nil)))
   (pss_one (ps_expr (pe_call GD hr rfl mD kD bD .nil pass1 (pa_cons (pe_cmpR (op_eqD hu64) (pv 3) (pv 4) (nomark _)) (pa_cons (pe_fstrE (pje_cons pe_str (pje_cons (pe_fv (pv 0)) pje_nil)) (by decide)) pa_nil))))))
  (pss_one (ps_ret (pe_ix ix_tup (pv 1) pe_int (fun _ _=>rfl))))),?_⟩
 refine⟨_,rfl,p,_,_,_,rfl,rfl,SqT.of hp,at0,tk,_,rfl,.inr (SqT.of htk),_,rfl,l,_,rfl,.inl (SqL.of hl),rfl,_,rfl,ite2 (fun c=>?_) (fun c=>?_)⟩
 ·have c':us.length≠ks.length:=fun e=>by
   have:(!decide (V.int (vs.length:Int)=V.int (xs.length:Int)))=true:=c
   rw [l1,l2,e] at this
   simp at this
  have q':Out K cl (R.no 1) H Q E:=by
   have q2:Out K cl (if us.length=ks.length then (if us=ks then .ok k else .no 2) else .no 1) H Q E:=q
   rw [if_neg c'] at q2
   exact q2
  refine⟨_,rfl,p,_,_,_,rfl,rfl,SqT.of hp,at0,tk,_,rfl,.inr (SqT.of htk),?_⟩
  refine⟨_,rfl,l,_,rfl,.inl (SqL.of hl),?_⟩
  have b1:(0:Int)≤(vs.length:Int)∧(vs.length:Int)≤1000000:=⟨by omega,by omega⟩
  have b2:(0:Int)≤(xs.length:Int)∧(xs.length:Int)≤1000000:=⟨by omega,by omega⟩
  exact⟨_,rfl,.inl ⟨z,rfl,Nat.le_trans hz (by decide),_,rfl,by omega,_,rfl,by decide +kernel,_,rfl,.inr ⟨_,rfl,log_small b1.1 b1.2,_,rfl,txt_small b1.1 b1.2,_,rfl,by decide +kernel,_,rfl,.inr ⟨_,rfl,log_small b2.1 b2.2,_,rfl,txt_small b2.1 b2.2,fun z hz=>⟨(by show 1≤sizeLine;decide),q'.2 _ (Same.refl _)⟩⟩⟩⟩⟩
 ·have c':us.length=ks.length:=by
   by_cases e:us.length=ks.length
   ·exact e
   ·exfalso
    apply c
    show(!decide (V.int (vs.length:Int)=V.int (xs.length:Int)))=true
    rw [l1,l2,decide_eq_false (fun z=>e (by have:=V.int.inj z;omega))]
    rfl
  have q':Out K cl (if us=ks then .ok k else .no 2) H Q E:=by
   have q2:Out K cl (if us.length=ks.length then (if us=ks then .ok k else .no 2) else .no 1) H Q E:=q
   rw [if_pos c'] at q2
   exact q2
  refine⟨_,rfl,p,_,_,_,rfl,rfl,SqT.of hp,at0,_,rfl,tk,l,vs,xs,rfl,htk,hl,for_zipQ (b:=false) (c:=true) (xs:=vs) (ys:=xs) (fun i σ H3=>∃v3 v4,σ=[some (.str z),some (.ref p),some (.ref l),v3,v4]∧Same H H3∧us.take i=ks.take i) ?_ (by omega) ?_ ?_ ?_⟩
  ·exact⟨none,none,rfl,Same.refl _,rfl⟩
  ·rintro i σ H3 _ ⟨_,_,_,s3,_⟩
   exact⟨s3 _ _ htk,s3 _ _ hl⟩
  ·rintro i a b t σ H3 ha hb ht ⟨v3,v4,rfl,s3,he⟩
   obtain⟨ka,hka,hA⟩:=kat_get hvs ha
   obtain⟨kb,hkb,hB⟩:=kat_get hks hb
   have s4:=s3.trans (same_new ht (.tup [a,b]))
   refine⟨t,_,rfl,SqT.of upd_same,rfl,_,_,rfl,_,_,rfl,rfl,?_⟩
   refine⟨_,rfl,_,rfl,_,_,kd_dat (hA.same s4).1,kd_dat (hB.same s4).1,sm_shaped hA.2,sm_shaped hB.2,_,rfl,by decide +kernel,_,rfl,.inl ⟨z,rfl,Nat.le_trans hz (by decide),_,rfl,by omega,_,_,rfl,le_arg hz,?_⟩⟩
   show if PyData.eqv (Kd.dat ka) (Kd.dat kb)=true then _ else _
   rw [eqv_dat]
   by_cases e:ka=kb
   ·rw [decide_eq_true e]
    refine iteT ⟨_,_,rfl,s4,?_⟩
    rw [List.take_add_one,List.take_add_one,hka,hkb,he,e]
   ·rw [decide_eq_false e]
    have ne:us≠ks:=fun z=>by rw [z] at hka;rw [hka] at hkb;exact e (Option.some.inj hkb)
    rw [if_neg ne] at q'
    exact iteF (q'.2 _ s4)
  ·rintro σ H3 ⟨v3,v4,rfl,s3,he⟩
   rw [List.take_of_length_le (by omega),List.take_of_length_le (by omega)] at he
   rw [if_pos he] at q'
   exact⟨_,rfl,p,_,_,_,rfl,rfl,SqT.of (s3 _ _ hp),at1,q' _ _ s3 (hx.same s3)⟩
end
end K52
namespace K52
open PySem L2 Kk
theorem ks_two{K:PySem.W.Frag}{H:Hp}{us:List V}{a b:Kd}(h:KsAt K H us [a,b]):∃x y,us=[x,y]∧KAt K H x a∧KAt K H y b:=by
 cases h with
 |cons r t =>
  cases t with
  |cons r2 t2=>cases t2;exact⟨_,_,rfl,r,r2⟩
theorem ks_one{K:PySem.W.Frag}{H:Hp}{us:List V}{a:Kd}(h:KsAt K H us [a]):∃x,us=[x]∧KAt K H x a:=by
 cases h with
 |cons r t=>cases t;exact⟨_,rfl,r⟩
theorem ks_three{K:PySem.W.Frag}{H:Hp}{us:List V}{a b c:Kd}(h:KsAt K H us [a,b,c]):∃x y z,us=[x,y,z]∧KAt K H x a∧KAt K H y b∧KAt K H z c:=by
 cases h with
 |cons r t =>
  obtain⟨y,z,rfl,h2,h3⟩:=ks_two t
  exact⟨_,_,_,rfl,r,h2,h3⟩
section
variable{P:Program}{w:World}{K:PySem.W.Frag}{mg:Str→Option Value}{base:Heap}{cl:Nat→Addr}
abbrev kbN:List Str:=["expression","kinds","form","due"]
theorem scKbf:FnScope kbN ["expression","kinds"] (defScope sKbf):=⟨rfl,rfl,rfl,by decide +kernel,rfl,by decide +kernel,by decide +kernel⟩
set_option maxHeartbeats 0 in
theorem ok_kbf{f fm:Addr}{fd fdm:FuncData} (F:Fun K "kind_by_form" "kind_by_form" sKbf f fd)
  (GD:FnOk P w K mg base (CX1 P w) 1 fm fdm ["does","what"] (spDem (cl 2))) (bD:Binds K fdm ["does","what"] []) (kD:PySem.W.keepIn K (.ref fm)=true) (mD:mg "demand"=some (.ref fm)):FnOk P w K mg base (CX1 P w) 2 f fd ["expression","kinds"] (spKbf K cl):=by
 refine F.okX (k:=1) scKbf (fun vs H Q E h=>?_) (fun cdv A outer s H vs Q E hr h=>?_)
 ·obtain⟨_,_,_,_,_,_,rfl,_⟩:=h
  rfl
 obtain⟨p,l,fm',xs,us,ks,rfl,hp,hl,hus,hkl,h2,q⟩:=h
 have hu64:=hr.units
 refine⟨_,pss_cons (ps_set (i:=2) scKbf.nd rfl (Or.inl rfl) (pe_ix ix_tup (pv 0) pe_int (fun _ _=>rfl)))
  (pss_cons (ps_if (pt_cmpR op_eq (pv 2) pe_str (nomark _)) (pss_one (ps_ret (pe_tup (pa_cons pe_str (pa_cons (pe_ix ix_tup (pv 0) pe_int (fun _ _=>rfl)) pa_nil))))) pss_nil)
  (pss_cons (ps_if (pt_cmpR op_eq (pv 2) pe_str (nomark _))
   (pss_cons (ps_set (i:=3) scKbf.nd rfl (Or.inl rfl) (pe_tup (pa_cons pe_str (pa_cons (pe_ix ix_tup (pv 0) pe_int (fun _ _=>rfl)) pa_nil))))
   (pss_cons (ps_expr (pe_call GD hr rfl mD kD bD .nil pass1 (pa_cons (pe_cmpR (op_eqD hu64) (pv 1) (pe_lst (pa_cons (pv 3) (pa_cons (pv 3) pa_nil))) (nomark _)) (pa_cons pe_str pa_nil))))
   (pss_one (ps_ret (pv 3))))) pss_nil)
  (pss_cons (ps_if (pt_cmpR op_eq (pv 2) pe_str (nomark _))
   (pss_cons (ps_expr (pe_call GD hr rfl mD kD bD .nil pass1 (pa_cons (pe_and (pe_cmpR op_eq (pe_ix ix_tup (pe_ix ix_list (pv 1) pe_int (fun _ _=>rfl)) pe_int (fun _ _=>rfl)) pe_str (nomark _)) (pe_one (pe_cmpR (op_eqD hu64) (pe_ix ix_list (pv 1) pe_int (fun _ _=>rfl)) (pe_ix ix_list (pv 1) pe_int (fun _ _=>rfl)) (nomark _)))) (pa_cons pe_str pa_nil))))
   (pss_one (ps_ret (pe_tup (pa_cons pe_str (pa_cons pe_int pa_nil)))))) pss_nil)
  (pss_cons (ps_if (pt_cmpR op_eq (pv 2) pe_str (nomark _))
   (pss_cons (ps_expr (pe_call GD hr rfl mD kD bD .nil pass1 (pa_cons (pe_cmpR op_eq (pe_ix ix_tup (pe_ix ix_list (pv 1) pe_int (fun _ _=>rfl)) pe_int (fun _ _=>rfl)) pe_str (nomark _)) (pa_cons pe_str pa_nil))))
   (pss_one (ps_ret (pe_tup (pa_cons pe_str (pa_cons (pe_ix ix_tup (pv 0) pe_int (fun _ _=>rfl)) pa_nil)))))) pss_nil)
  (pss_cons (ps_if (pt_cmpR op_eq (pv 2) pe_str (nomark _))
   (pss_cons (ps_expr (pe_call GD hr rfl mD kD bD .nil pass1 (pa_cons (pe_cmpR (op_eqD hu64) (pe_ix ix_list (pv 1) pe_int (fun _ _=>rfl)) (pe_tup (pa_cons pe_str (pa_cons pe_int pa_nil))) (nomark _)) (pa_cons pe_str pa_nil))))
   (pss_cons (ps_expr (pe_call GD hr rfl mD kD bD .nil pass1 (pa_cons (pe_cmpR (op_eqD hu64) (pe_ix ix_list (pv 1) pe_int (fun _ _=>rfl)) (pe_ix ix_list (pv 1) pe_int (fun _ _=>rfl)) (nomark _)) (pa_cons pe_str pa_nil))))
   (pss_one (ps_ret (pe_ix ix_list (pv 1) pe_int (fun _ _=>rfl)))))) pss_nil)
  (pss_cons (ps_expr (pe_call GD hr rfl mD kD bD .nil pass1 (pa_cons (pe_cmpR op_eq (pe_ix ix_tup (pe_ix ix_list (pv 1) pe_int (fun _ _=>rfl)) pe_int (fun _ _=>rfl)) pe_str (nomark _)) (pa_cons (pe_fstrE (pje_cons pe_str (pje_cons (pe_fv (pv 2)) (pje_cons pe_str pje_nil))) (by decide)) pa_nil))))
  (pss_one (ps_ret (pe_ifExp (pt_cmpR op_eq (pv 2) pe_str (nomark _)) (pe_ix ix_tup (pe_ix ix_list (pv 1) pe_int (fun _ _=>rfl)) pe_int (fun _ _=>rfl)) (pe_ix ix_tup (pe_ix ix_list (pv 1) pe_int (fun _ _=>rfl)) pe_int (fun _ _=>rfl))))))))))),?_⟩
 have z17:(Str.ofString "a side of what is compared").length≤10000:=by decide +kernel
 cases fm' with
 |two=>exact absurd rfl h2
 |lit v n =>
  match ks,q with
  |[],q =>
   replace q:Out K cl (.ok (.num n)) H Q E:=q
   refine⟨_,rfl,p,_,_,_,rfl,rfl,SqT.of hp,at0,?_⟩
   refine⟨_,rfl,rfl,_,rfl,yes_s ⟨_,rfl,p,_,_,_,rfl,rfl,SqT.of hp,at2,(by show 2≤sizeLine;decide),fun t ht=>?_⟩⟩
   exact q _ _ (same_new ht _) (num_at upd_same)
  |_::_,q=>exact absurd (show 9 < 4 from q.1) (by decide)
 |op o n =>
  refine⟨_,rfl,p,_,_,_,rfl,rfl,SqT.of hp,at0,?_⟩
  refine⟨_,rfl,rfl,_,rfl,no_s (by decide +kernel) ?_⟩
  refine⟨_,rfl,rfl,_,rfl,yes_s ⟨_,rfl,p,_,_,_,rfl,rfl,SqT.of hp,at2,(by show 2≤sizeLine;decide),fun t ht=>?_⟩⟩
  have s1:=same_new ht (.tup [.str "num",.int n])
  refine⟨_,rfl,_,rfl,_,rfl,(by show 2≤sizeLine;decide),fun l2 hl2=>?_⟩
  have s2:=s1.trans (same_new hl2 (.lst [.ref t,.ref t]))
  have hn:KAt K (upd (upd H t (.tup [.str "num",.int n])) l2 (.lst [.ref t,.ref t])) (.ref t) (.num n):=(num_at upd_same).same (same_new hl2 _)
  refine⟨_,_,.lst (SqL.of (s2 _ _ hl)) (ks_dats (hus.same s2)),.lst (SqL.of upd_same) (ks_dats (ks:=[.num n,.num n]) (.cons hn (.cons hn .nil))),shaped_lst (ks_sm hus),shaped_lst (ks:=[.num n,.num n]) (fun k hk=>by simp at hk;rw [hk];exact num_sm n),_,_,rfl,by decide +kernel,?_⟩
  show if PyData.eqv (.list (ks.map Kd.dat)) (.list ([Kd.num n,.num n].map Kd.dat))=true then _ else _
  rw [eqv_lst,eqv_dats]
  replace q:Out K cl (if ks=[.num n,.num n] then .ok (.num n) else .no 2) H Q E:=q
  by_cases e:ks=[.num n,.num n]
  ·rw [if_pos e] at q
   rw [decide_eq_true e]
   exact iteT ⟨_,rfl,q _ _ s2 hn⟩
  ·rw [if_neg e] at q
   rw [decide_eq_false e]
   exact iteF (q.2 _ s2)
 |test o =>
  match ks,q with
  |[a,b],q =>
   obtain⟨x,y,rfl,hx,hy⟩:=ks_two hus
   obtain⟨px,xx,rfl,tx⟩:=kd_tup hx.1
   replace q:Out K cl (if Kd.isNum a=true∧a=b then .ok (.num 2) else .no 2) H Q E:=q
   refine⟨_,rfl,p,_,_,_,rfl,rfl,SqT.of hp,at0,?_⟩
   refine⟨_,rfl,rfl,_,rfl,no_s (by decide +kernel) ?_⟩
   refine⟨_,rfl,rfl,_,rfl,no_s (by decide +kernel) ?_⟩
   refine⟨_,rfl,rfl,_,rfl,yes_s ?_⟩
   refine⟨_,rfl,l,_,_,_,rfl,rfl,SqL.of hl,at0,px,_,_,_,rfl,rfl,tx,at0,rfl,_,rfl,?_⟩
   rw [hd_num]
   by_cases e:Kd.isNum a=true
   ·rw [e]
    refine iteT ⟨_,rfl,l,_,_,_,rfl,rfl,SqL.of hl,at0,_,rfl,l,_,_,_,rfl,rfl,SqL.of hl,at1,_,_,kd_dat hx.1,kd_dat hy.1,sm_shaped hx.2,sm_shaped hy.2,_,_,rfl,z17,?_⟩
    show if PyData.eqv (Kd.dat a) (Kd.dat b)=true then _ else _
    rw [eqv_dat]
    by_cases e2:a=b
    ·rw [if_pos ⟨e,e2⟩] at q
     rw [decide_eq_true e2]
     exact iteT ⟨(by show 2≤sizeLine;decide),fun t ht=>q _ _ (same_new ht _) (num_at upd_same)⟩
    ·rw [if_neg fun z=>e2 z.2] at q
     rw [decide_eq_false e2]
     exact iteF (q.2 _ (Same.refl _))
   ·rw [if_neg fun z=>e z.1] at q
    rw [Bool.eq_false_iff.mpr e]
    exact iteF ⟨_,_,rfl,z17,iteF (q.2 _ (Same.refl _))⟩
  |[],q=>exact absurd (show 9 < 4 from q.1) (by decide)
  |[_],q=>exact absurd (show 9 < 4 from q.1) (by decide)
  |_::_::_::_,q=>exact absurd (show 9 < 4 from q.1) (by decide)
 |as_ n =>
  match ks,q with
  |[a],q =>
   obtain⟨x,rfl,hx⟩:=ks_one hus
   obtain⟨px,xx,rfl,tx⟩:=kd_tup hx.1
   replace q:Out K cl (if Kd.isNum a=true then .ok (.num n) else .no 2) H Q E:=q
   refine⟨_,rfl,p,_,_,_,rfl,rfl,SqT.of hp,at0,?_⟩
   refine⟨_,rfl,rfl,_,rfl,no_s (by decide +kernel) ?_⟩
   refine⟨_,rfl,rfl,_,rfl,no_s (by decide +kernel) ?_⟩
   refine⟨_,rfl,rfl,_,rfl,no_s (by decide +kernel) ?_⟩
   refine⟨_,rfl,rfl,_,rfl,yes_s ?_⟩
   refine⟨_,rfl,l,_,_,_,rfl,rfl,SqL.of hl,at0,px,_,_,_,rfl,rfl,tx,at0,rfl,_,_,rfl,by decide +kernel,?_⟩
   rw [hd_num]
   by_cases e:Kd.isNum a=true
   ·rw [if_pos e] at q
    rw [e]
    exact iteT ⟨_,rfl,p,_,_,_,rfl,rfl,SqT.of hp,at1,(by show 2≤sizeLine;decide),fun t ht=>q _ _ (same_new ht _) (num_at upd_same)⟩
   ·rw [if_neg e] at q
    rw [Bool.eq_false_iff.mpr e]
    exact iteF (q.2 _ (Same.refl _))
  |[],q=>exact absurd (show 9 < 4 from q.1) (by decide)
  |_::_::_,q=>exact absurd (show 9 < 4 from q.1) (by decide)
 |if_ =>
  match ks,q with
  |[a,b,c],q =>
   obtain⟨x,y,z,rfl,hx,hy,hz⟩:=ks_three hus
   replace q:Out K cl (if a=.num 2 then (if b=c then .ok b else .no 2) else .no 2) H Q E:=q
   refine⟨_,rfl,p,_,_,_,rfl,rfl,SqT.of hp,at0,?_⟩
   refine⟨_,rfl,rfl,_,rfl,no_s (by decide +kernel) ?_⟩
   refine⟨_,rfl,rfl,_,rfl,no_s (by decide +kernel) ?_⟩
   refine⟨_,rfl,rfl,_,rfl,no_s (by decide +kernel) ?_⟩
   refine⟨_,rfl,rfl,_,rfl,no_s (by decide +kernel) ?_⟩
   refine⟨_,rfl,rfl,_,rfl,yes_s ?_⟩
   refine⟨_,rfl,l,_,_,_,rfl,rfl,SqL.of hl,at0,(by show 2≤sizeLine;decide),fun t ht=>?_⟩
   have s1:=same_new ht (.tup [.str "num",.int 2])
   refine⟨_,_,kd_dat (hx.same s1).1,kd_dat (num_at (K:=K) (n:=2) upd_same).1,sm_shaped hx.2,sm_shaped (num_sm 2),_,_,rfl,by decide +kernel,?_⟩
   show if PyData.eqv (Kd.dat a) (Kd.dat (.num 2))=true then _ else _
   rw [eqv_dat]
   by_cases e:a=.num 2
   ·rw [if_pos e] at q
    rw [decide_eq_true e]
    refine iteT ⟨_,rfl,l,_,_,_,rfl,rfl,SqL.of (s1 _ _ hl),at1,_,rfl,l,_,_,_,rfl,rfl,SqL.of (s1 _ _ hl),at2,_,_,kd_dat (hy.same s1).1,kd_dat (hz.same s1).1,sm_shaped hy.2,sm_shaped hz.2,_,_,rfl,by decide +kernel,?_⟩
    show if PyData.eqv (Kd.dat b) (Kd.dat c)=true then _ else _
    rw [eqv_dat]
    by_cases e2:b=c
    ·rw [if_pos e2] at q
     rw [decide_eq_true e2]
     exact iteT ⟨_,rfl,l,_,_,_,rfl,rfl,SqL.of (s1 _ _ hl),at1,q _ _ s1 (hy.same s1)⟩
    ·rw [if_neg e2] at q
     rw [decide_eq_false e2]
     exact iteF (q.2 _ s1)
   ·rw [if_neg e] at q
    rw [decide_eq_false e]
    exact iteF (q.2 _ s1)
  |[],q=>exact absurd (show 9 < 4 from q.1) (by decide)
  |[_],q=>exact absurd (show 9 < 4 from q.1) (by decide)
  |[_,_],q=>exact absurd (show 9 < 4 from q.1) (by decide)
  |_::_::_::_::_,q=>exact absurd (show 9 < 4 from q.1) (by decide)
 |fst =>
  match ks,q with
  |[a],q =>
   obtain⟨x,rfl,hx⟩:=ks_one hus
   obtain⟨px,xx,rfl,tx⟩:=kd_tup hx.1
   refine⟨_,rfl,p,_,_,_,rfl,rfl,SqT.of hp,at0,?_⟩
   refine⟨_,rfl,rfl,_,rfl,no_s (by decide +kernel) ?_⟩
   refine⟨_,rfl,rfl,_,rfl,no_s (by decide +kernel) ?_⟩
   refine⟨_,rfl,rfl,_,rfl,no_s (by decide +kernel) ?_⟩
   refine⟨_,rfl,rfl,_,rfl,no_s (by decide +kernel) ?_⟩
   refine⟨_,rfl,rfl,_,rfl,no_s (by decide +kernel) ?_⟩
   refine⟨_,rfl,l,_,_,_,rfl,rfl,SqL.of hl,at0,px,_,_,_,rfl,rfl,tx,at0,rfl,_,rfl,by decide +kernel,_,rfl,.inl ⟨_,rfl,by decide +kernel,_,rfl,by decide +kernel,_,rfl,by decide +kernel,_,_,rfl,by decide +kernel,?_⟩⟩
   rw [hd_pair]
   cases a with
   |pair ka kb =>
    cases hx.1 with
    |pair t h3 h4 =>
     replace q:Out K cl (.ok ka) H Q E:=q
     refine iteT ⟨_,rfl,rfl,_,rfl,yes_s ⟨_,rfl,l,_,_,_,rfl,rfl,SqL.of hl,at0,px,_,_,_,rfl,rfl,t,at1,?_⟩⟩
     exact q _ _ (Same.refl _) ⟨h3,hx.2.1.1,by have:=hx.2.2;have e:(Kd.pair ka kb).words=1+ka.words+kb.words:=rfl;omega⟩
   |num n=>exact iteF ((show Out K cl (R.no 2) H Q E from q).2 _ (Same.refl _))
   |name a b=>exact iteF ((show Out K cl (R.no 2) H Q E from q).2 _ (Same.refl _))
  |[],q=>exact absurd (show 9 < 4 from q.1) (by decide)
  |a::_::_,q=>cases a<;>exact absurd (show 9 < 4 from And.left q) (by decide)
 |snd =>
  match ks,q with
  |[a],q =>
   obtain⟨x,rfl,hx⟩:=ks_one hus
   obtain⟨px,xx,rfl,tx⟩:=kd_tup hx.1
   refine⟨_,rfl,p,_,_,_,rfl,rfl,SqT.of hp,at0,?_⟩
   refine⟨_,rfl,rfl,_,rfl,no_s (by decide +kernel) ?_⟩
   refine⟨_,rfl,rfl,_,rfl,no_s (by decide +kernel) ?_⟩
   refine⟨_,rfl,rfl,_,rfl,no_s (by decide +kernel) ?_⟩
   refine⟨_,rfl,rfl,_,rfl,no_s (by decide +kernel) ?_⟩
   refine⟨_,rfl,rfl,_,rfl,no_s (by decide +kernel) ?_⟩
   refine⟨_,rfl,l,_,_,_,rfl,rfl,SqL.of hl,at0,px,_,_,_,rfl,rfl,tx,at0,rfl,_,rfl,by decide +kernel,_,rfl,.inl ⟨_,rfl,by decide +kernel,_,rfl,by decide +kernel,_,rfl,by decide +kernel,_,_,rfl,by decide +kernel,?_⟩⟩
   rw [hd_pair]
   cases a with
   |pair ka kb =>
    cases hx.1 with
    |pair t h3 h4 =>
     replace q:Out K cl (.ok kb) H Q E:=q
     refine iteT ⟨_,rfl,rfl,_,rfl,no_s (by decide +kernel) ⟨_,rfl,l,_,_,_,rfl,rfl,SqL.of hl,at0,px,_,_,_,rfl,rfl,t,at2,?_⟩⟩
     exact q _ _ (Same.refl _) ⟨h4,hx.2.1.2,by have:=hx.2.2;have e:(Kd.pair ka kb).words=1+ka.words+kb.words:=rfl;omega⟩
   |num n=>exact iteF ((show Out K cl (R.no 2) H Q E from q).2 _ (Same.refl _))
   |name a b=>exact iteF ((show Out K cl (R.no 2) H Q E from q).2 _ (Same.refl _))
  |[],q=>exact absurd (show 9 < 4 from q.1) (by decide)
  |a::_::_,q=>cases a<;>exact absurd (show 9 < 4 from And.left q) (by decide)
end
end K52
namespace K52
open PySem L2 Kk
def ClosOk(P:Program)(w:World)(K:PySem.W.Frag)(mg:Str→Option Value)(base:Heap)(k:Nat)(f:Addr)(q t:Str)(H:Hp)(Q:VK)(E:XK):Prop :=
 ∃fd ps sp,H f=some (.fnc fd)∧FnOk P w K mg base (CX1 P w) k f fd ps sp∧Binds K fd ps []∧sp [.str q,.str t] H Q E
def OrcOk(P:Program)(w:World)(K:PySem.W.Frag)(mg:Str→Option Value)(base:Heap)(cl:Nat→Addr)(k:Nat)(f:Addr)(H:Hp)(C:Orc):Prop :=
 ∀q t H1,Same H H1→∀(Q:VK) (E:XK),((C q t=none∧∀H2,Same H1 H2→E (.ref (cl 0)) none H2)∨∃us kd,C q t=some (us,kd)∧∀H2 u,Same H1 H2→ToldAt K H2 u us kd→Q u H2)→ClosOk P w K mg base k f q t H1 Q E
theorem OrcOk.same{P:Program}{w:World}{K:PySem.W.Frag}{mg:Str→Option Value}{base:Heap}{cl:Nat→Addr}{k:Nat}{f:Addr}{H H':Hp}{C:Orc}(h:OrcOk P w K mg base cl k f H C)(s:Same H H'):OrcOk P w K mg base cl k f H' C :=
 fun q t H1 s1=>h q t H1 (s.trans s1)
def spKin(P:Program)(w:World)(K:PySem.W.Frag)(mg:Str→Option Value)(base:Heap)(cl:Nat→Addr)(k n:Nat):Sp:=fun vs H Q E=>∃(x:V) (d f:Addr) (mo:Int) (e:Ex) (ρ:Str→Option Kd) (m:Nat) (fd:FuncData) (C:Orc),vs=[x,.ref d,.ref f,.int mo]∧ExAt H x e∧e.ht≤n∧EnvAt K H d ρ m∧m+n≤500∧0≤mo∧mo≤10000∧H f=some (.fnc fd)∧OrcOk P w K mg base cl k f H C∧Out K cl (kin mo C ρ e) H Q E
theorem kat_upd{K:PySem.W.Frag}{H:Hp}{l:Addr}{us us':List V}(hl:H l=some (.lst us)){x:V}{k:Kd}(h:KAt K H x k):KAt K (upd H l (.lst us')) x k:=⟨kd_keep (fun _ _ t=>sqt_upd hl t) h.1,h.2⟩
theorem ks_snoc{K:PySem.W.Frag}{H:Hp}{x:V}{k:Kd}(h:KAt K H x k):∀{xs:List V} {ks:List Kd},KsAt K H xs ks→KsAt K H (xs++[x]) (ks++[k])
 |_,_,.nil=>.cons h .nil
 |_,_,.cons a r=>.cons a (ks_snoc h r)
theorem take_snoc{α:Type}{l:List α}{i:Nat}{x:α}(h:l[i]?=some x):l.take i++[x]=l.take (i+1):=by
 rw [List.take_add_one,h];rfl
theorem take_split{α:Type}{l:List α}{i:Nat}{x:α}(h:l[i]?=some x):∃r,l=l.take i++x::r:=by
 obtain⟨h1,h2⟩:=List.getElem?_eq_some_iff.mp h
 refine⟨l.drop (i+1),?_⟩
 rw [←h2,←List.drop_eq_getElem_cons h1,List.take_append_drop]
theorem fmK_mo{a b:Int}{fm:Fm}(h:fm≠.two)(ks:List Kd):fmK a fm ks=fmK b fm ks:=by
 unfold fmK
 split<;>first|rfl|exact absurd rfl h
theorem bootDict:bootBuiltins "dict"=some (.type "dict"):=by decide +kernel
section
variable{P:Program}{w:World}{K:PySem.W.Frag}{mg:Str→Option Value}{base:Heap}{cl:Nat→Addr}
abbrev kiN:List Str:=["expression","variables","called","most","form","inner","kinds","each"]
abbrev kiP:List Str:=["expression","variables","called","most"]
theorem scKin:FnScope kiN kiP (defScope sKin):=⟨rfl,rfl,rfl,by decide +kernel,rfl,by decide +kernel,by decide +kernel⟩
set_option maxHeartbeats 0 in
theorem ok_kin{f fv fw fa fb ff:Addr}{dV:Value}{fd fdv fdw fda fdb fdf:FuncData}{k:Nat} (F:FunD K "kind_in" "kind_in" sKin dV f fd) (bS:Binds K fd kiP []) (mS:mg "kind_in"=some (.ref f)) (md:mg "dict"=none)
    (GV:FnOk P w K mg base (CX1 P w) 1 fv fdv ["word","variables"] (spVarK K cl)) (bV:Binds K fdv ["word","variables"] []) (kV:PySem.W.keepIn K (.ref fv)=true) (mV:mg "variable_kind"=some (.ref fv))
    (GW:FnOk P w K mg base CX0 1 fw fdw ["expression"] spWithin) (bW:Binds K fdw ["expression"] []) (kW:PySem.W.keepIn K (.ref fw)=true) (mW:mg "within"=some (.ref fw))
    (GA:FnOk P w K mg base (CX1 P w) 2 fa fda ["word","told","kinds"] (spAnsK K cl)) (bA:Binds K fda ["word","told","kinds"] []) (kA:PySem.W.keepIn K (.ref fa)=true) (mA:mg "answer_kind"=some (.ref fa))
    (GB:FnOk P w K mg base (CX1 P w) 2 fb fdb ["kind","most"] (spBounded K (cl 3))) (bB:Binds K fdb ["kind","most"] []) (kB:PySem.W.keepIn K (.ref fb)=true) (mB:mg "bounded"=some (.ref fb))
    (GF:FnOk P w K mg base (CX1 P w) 2 ff fdf ["expression","kinds"] (spKbf K cl)) (bF:Binds K fdf ["expression","kinds"] []) (kF:PySem.W.keepIn K (.ref ff)=true) (mF:mg "kind_by_form"=some (.ref ff)) :
    ∀n,FnOk P w K mg base (CX1 P w) (k+3+n) f fd kiP (spKin P w K mg base cl k n):=by
  intro n
  induction n with
  | zero =>
    refine⟨fun vs H Q E h=>?_,fun A outer s H args us vs Q E _ _ _ _ h=>?_⟩
    · obtain⟨_,_,_,_,_,_,_,_,_,rfl,_⟩:=h
      rfl
    · obtain⟨_,_,_,_,e,_,_,_,_,_,_,h0,_⟩:=h
      cases e<;>simp [Ex.ht] at h0
  | succ n ih =>
  refine F.okX (k:=k+3+n) scKin (fun vs H Q E h=>?_) (fun cdv A outer s H vs Q E hr h=>?_)
  · obtain⟨_,_,_,_,_,_,_,_,_,rfl,_⟩:=h
    rfl
  obtain⟨x,d,g,mo,e,ρ,m,fdc,C,rfl,hx,hn,hd,hm,mo0,mo1,hg,hC,hq⟩:=h
  have hu:=hu_of hr
  have hr1:Room 1 _:=hr.mono (by omega)
  have hr2:Room 2 _:=hr.mono (by omega)
  have hrk:Room k _:=hr.mono (by omega)
  have kS:=F.kp
  obtain⟨t3,d3,k3⟩:∃t,PSs (cxOf (CX1 P w) P w K mg base kiN "kind_in" (defScope sKin) f cdv A outer s H E) (List.drop 3 (defBody sKin)) t ∧
      ∀(p:Addr) (z:Str) (xs:List V) (es:List Ex),x=.ref p→ExsAt H xs es→(∀e∈es,e.ht≤n)→es.length≤n →
        ((∃(fm:Fm) (r:List V),fm.vals=.str z::r∧z≠"call"∧((z="two"∧fm=.two)∨(z≠"two"∧fm≠.two))∧H p=some (.tup (fm.vals++xs))∧((∃v n,fm=.lit v n)→xs=[])∧Out K cl (kin mo C ρ (.nd fm es)) H Q E) ∨
         ∃(p2:Addr) (q t:Str),z="call"∧H p=some (.tup [.str "call",.str q,.str t,.ref p2])∧H p2=some (.tup xs)∧t.length≤9000∧Out K cl (kin mo C ρ (.call q t es)) H Q E) →
        t { nx:=fun _ H'=>Q .non H',rt:=Q } [some x,some (.ref d),some (.ref g),some (.int mo),some (.str z),none,none,none] H:=by
    refine⟨_,pss_cons (ps_set (i:=6) scKin.nd rfl (Or.inl rfl) (pe_lst pa_nil))
      (pss_cons (ps_for PassesOwn.leaving rfl (pi_tup (pe_call GW hr1 rfl mW kW bW .nil pass0 (pa_cons (pv 0) pa_nil))) (pg_name (i:=7) scKin.nd rfl (Or.inl rfl))
        (pss_one (ps_expr (pe_bm PySem.F.plainAttrs_list PySem.F.slot_list_append PySem.F.type_list_append mt_append (pv 6) (pa_cons (pe_call ih hr rfl mS kS bS .nil pass1 (pa_cons (pv 7) (pa_cons (pv 1) (pa_cons (pv 2) (pa_cons (pv 3) pa_nil))))) pa_nil)))))
      (pss_cons (ps_if (pt_cmpR op_eq (pv 4) pe_str (nomark _)) (pss_one (ps_ret (pe_call GA hr2 rfl mA kA bA .nil pass1 (pa_cons (pe_ix ix_tup (pv 0) pe_int (fun _ _=>rfl)) (pa_cons (pe_callV (pv 2) pass1 (pa_cons (pe_ix ix_tup (pv 0) pe_int (fun _ _=>rfl)) (pa_cons (pe_ix ix_tup (pv 0) pe_int (fun _ _=>rfl)) pa_nil))) (pa_cons (pv 6) pa_nil)))))) pss_nil)
      (pss_cons (ps_if (pt_cmpR op_eq (pv 4) pe_str (nomark _)) (pss_one (ps_ret (pe_call GB hr2 rfl mB kB bB .nil pass1 (pa_cons (pe_tup (pa_cons pe_str (pa_cons (pe_ix ix_list (pv 6) pe_int (fun _ _=>rfl)) (pa_cons (pe_ix ix_list (pv 6) pe_int (fun _ _=>rfl)) pa_nil)))) (pa_cons (pv 3) pa_nil))))) pss_nil)
      (pss_one (ps_ret (pe_call GF hr2 rfl mF kF bF .nil pass1 (pa_cons (pv 0) (pa_cons (pv 6) pa_nil)))))))),?_⟩
    intro p z xs es ex hxs hes hel hcase
    subst ex
    refine⟨(by show 0≤sizeLine;decide),fun l hl=>?_⟩
    have s1:=same_new hl (.lst [])
    have stop:∀{c:Nat},kins mo C ρ es=.no c→c < 4∧∀H',Same H H'→E (.ref (cl c)) none H':=fun {c} hc=>by
      rcases hcase with ⟨fm,r,_,_,_,_,_,ho⟩|⟨p2,q,t,_,_,_,_,ho⟩
      · rw [kin,hc] at ho;exact ho
      · rw [kin,hc] at ho;exact ho
    refine⟨_,rfl,.ref p,xs,rfl,?_,fun H2 r s2 hr2'=>⟨r,rfl,⟨xs,SqT.of hr2'⟩,for_tup (xs:=xs) (fun i σ H3=>∃v7 us ks,σ=[some (.ref p),some (.ref d),some (.ref g),some (.int mo),some (.str z),none,some (.ref l),v7]∧Same H H3∧H3 r=some (.tup xs)∧H3 l=some (.lst us)∧us.length=i∧KsAt K H3 us ks∧kins mo C ρ (es.take i)=.ok ks) ?_ ?_ ?_ ?_⟩⟩
    · rcases hcase with ⟨fm,r,e1,e2,e3,e4,e5,_⟩|⟨p2,q,t,rfl,e2,e3,_⟩
      · exact .inl ⟨p,fm,rfl,s1 _ _ e4,e5⟩
      · exact .inr ⟨p,p2,q,t,rfl,s1 _ _ e2,s1 _ _ e3⟩
    · exact⟨none,[],[],rfl,s1.trans s2,hr2',s2 _ _ upd_same,rfl,.nil,by rw [List.take_zero,kins]⟩
    · rintro i σ H3 hi ⟨v7,us,ks,rfl,_,h4,_⟩
      exact SqT.of h4
    · rintro i y σ H3 hy ⟨v7,us,ks,rfl,s3,h3,hl3,hl4,hus,hks⟩
      obtain⟨e,he,hye⟩:=hxs.get hy
      refine⟨_,rfl,.inl ⟨rfl,_,SqL.of hl3⟩,_,rfl,_,rfl,_,rfl,_,rfl,y,d,g,mo,e,ρ,m,fdc,C,rfl,hye.same s3,hes e (List.mem_of_getElem? he),hd.same s3,by omega,mo0,mo1,s3 _ _ hg,hC.same s3,?_⟩
      cases hk:kin mo C ρ e with
      | no c =>
        obtain⟨r',hr'⟩:=take_split he
        have:=stop (c:=c) (by rw [hr'];exact kins_stop hk hks)
        exact⟨this.1,fun H' s'=>this.2 H' (s3.trans s')⟩
      | ok kd =>
        intro H4 u s4 hu4
        have hl5:=s4 _ _ hl3
        refine⟨l,_,_,rfl,rfl,hl5,?_,_,us++[u],ks++[kd],rfl,?_,?_,upd_same,by simp [hl4],?_,?_⟩
        · have h8:=(List.getElem?_eq_some_iff.mp hy).1
          have h9:=hxs.length
          exact small1000 (by omega)
        · exact sput (s3.trans s4) hl
        · rw [upd_ne (ne_of (s4 _ _ h3) hl5 (by intro z;cases z))];exact s4 _ _ h3
        · exact ks_snoc (kat_upd hl5 hu4) (Paired.mapP (hus.same s4) fun _ _ z=>kat_upd hl5 z)
        · rw [←take_snoc he]
          exact kins_snoc hk hks
    · rintro σ H3 ⟨v7,us,ks,rfl,s3,h3,hl3,hl4,hus,hks⟩
      have hxl:=hxs.length
      rw [List.take_of_length_le (by omega)] at hks
      have hkl:=kins_len hks
      rcases hcase with ⟨fm,r,e1,e2,e3,e4,_,ho⟩|⟨p2,q,t,rfl,e2,e3,htl,ho⟩
      · refine⟨_,rfl,rfl,_,rfl,no_s e2 ?_⟩
        rw [kin,hks] at ho
        replace ho:Out K cl (fmK mo fm ks) H Q E:=ho
        rcases e3 with ⟨rfl,rfl⟩|⟨e3,e3'⟩
        · refine⟨_,rfl,rfl,_,rfl,yes_s ?_⟩
          match ks,ho,hus with
          | [a,b],ho,hus =>
            obtain⟨xa,xb,rfl,ha,hb⟩:=ks_two hus
            refine⟨_,rfl,l,_,_,_,rfl,rfl,SqL.of hl3,at0,_,rfl,l,_,_,_,rfl,rfl,SqL.of hl3,at1,(by show 3≤sizeLine;decide),fun t ht=>?_⟩
            have s4:=same_new ht (.tup [.str "pair",xa,xb])
            have hp:KdAt K (upd H3 t (.tup [.str "pair",xa,xb])) (.ref t) (.pair a b):=.pair (SqT.of upd_same) (ha.same s4).1 (hb.same s4).1
            have w1:=ha.2.2
            have w2:=hb.2.2
            have w3:(Kd.pair a b).words=1+a.words+b.words:=rfl
            replace ho:Out K cl (if ((Kd.pair a b).words:Int) > mo then .no 3 else if (Kd.pair a b).words≤120 then .ok (.pair a b) else .no 9) H Q E:=ho
            refine⟨_,rfl,.ref t,.pair a b,mo,rfl,hp,by omega,mo0,by omega,fun H' s'=>?_⟩
            by_cases c:((Kd.pair a b).words:Int) > mo
            · rw [if_pos c] at ho ⊢
              exact ho.2 _ (s3.trans (s4.trans s'))
            · rw [if_neg c] at ho ⊢
              by_cases c2:(Kd.pair a b).words≤120
              · rw [if_pos c2] at ho
                exact ho _ _ (s3.trans (s4.trans s')) ⟨hp.same s',⟨ha.2.1,hb.2.1⟩,c2⟩
              · rw [if_neg c2] at ho
                exact absurd ho.1 (by decide)
          | [],ho,_=>exact absurd (show 9 < 4 from And.left ho) (by decide)
          | [_],ho,_=>exact absurd (show 9 < 4 from And.left ho) (by decide)
          | _::_::_::_,ho,_=>exact absurd (show 9 < 4 from And.left ho) (by decide)
        · refine⟨_,rfl,rfl,_,rfl,no_s e3 ?_⟩
          have ef:fmK mo fm ks=fmK 0 fm ks:=fmK_mo e3' ks
          rw [ef] at ho
          exact⟨_,rfl,_,rfl,p,l,fm,xs,us,ks,rfl,s3 _ _ e4,hl3,hus,by omega,e3',ho.same s3⟩
      · refine⟨_,rfl,rfl,_,rfl,yes_s ?_⟩
        rw [kin,hks] at ho
        replace ho:Out K cl (ansK (C q t) ks) H Q E:=ho
        have hcl:∀Q':VK,(∀us' kd,C q t=some (us',kd)→∀H2 u,Same H3 H2→ToldAt K H2 u us' kd→Q' u H2)→∃fd ps sp kk,H3 g=some (.fnc fd)∧FnOk P w K mg base (CX1 P w) kk g fd ps sp∧Room kk (A.deeper (PyProof.Rows.envOfC "kind_in" (defScope sKin) s.heap.objs.size f cdv))∧Binds K fd ps []∧sp [.str q,.str t] H3 Q' E:=fun Q' hQ'=>by
          obtain⟨fd',ps',sp',c1,c2,c3,c4⟩:=hC q t H3 s3 Q' E (by
            cases hct:C q t with
            | none =>
              rw [hct] at ho
              exact .inl ⟨rfl,fun H2 s4=>(show Out K cl (R.no 0) H Q E from ho).2 _ (s3.trans s4)⟩
            | some r=>exact .inr ⟨r.1,r.2,rfl,fun H2 u s4 ht=>hQ' _ _ hct H2 u s4 ht⟩)
          exact⟨fd',ps',sp',k,c1,c2,hrk,c3,c4⟩
        refine⟨_,rfl,p,_,_,_,rfl,rfl,SqT.of (s3 _ _ e2),at2,g,fdc,rfl,s3 _ _ hg,_,rfl,p,_,_,_,rfl,rfl,SqT.of (s3 _ _ e2),at1,_,rfl,p,_,_,_,rfl,rfl,SqT.of (s3 _ _ e2),at2,hcl _ fun us' kd hct H2 u s4 ht=>?_⟩
        rw [hct] at ho
        exact⟨_,rfl,t,u,l,us',ks,kd,us,rfl,htl,ht,s4 _ _ hl3,hus.same s4,by omega,ho.same (s3.trans s4)⟩
  refine⟨_,pss_cons (ps_set (i:=4) scKin.nd rfl (Or.inl rfl) (pe_ix ix_tup (pv 0) pe_int (fun _ _=>rfl)))
    (pss_cons (ps_if (pt_cmpR op_eq (pv 4) pe_str (nomark _)) (pss_one (ps_ret (pe_call GV hr1 rfl mV kV bV .nil pass1 (pa_cons (pe_ix ix_tup (pv 0) pe_int (fun _ _=>rfl)) (pa_cons (pv 1) pa_nil))))) pss_nil)
    (pss_cons (ps_if (pt_cmpR op_eq (pv 4) pe_str (nomark _)) (pss_cons (ps_set (i:=5) scKin.nd rfl (Or.inl rfl) (pe_callTy call_dict_dK rfl md bootDict (pa_cons (pv 1) pa_nil)))
      (pss_cons (ps_dput hu (pv 5) (pe_ix ix_tup (pv 0) pe_int (fun _ _=>rfl)) (pe_call ih hr rfl mS kS bS .nil pass1 (pa_cons (pe_ix ix_tup (pv 0) pe_int (fun _ _=>rfl)) (pa_cons (pv 1) (pa_cons (pv 2) (pa_cons (pv 3) pa_nil))))) rfl)
      (pss_one (ps_ret (pe_call ih hr rfl mS kS bS .nil pass1 (pa_cons (pe_ix ix_tup (pv 0) pe_int (fun _ _=>rfl)) (pa_cons (pv 5) (pa_cons (pv 2) (pa_cons (pv 3) pa_nil))))))))) pss_nil) d3)),?_⟩
  cases hx with
  | @var p y hp hy =>
    refine⟨_,rfl,p,_,_,_,rfl,rfl,SqT.of hp,at0,?_⟩
    rw [kin] at hq
    exact⟨_,rfl,rfl,_,rfl,yes_s ⟨_,rfl,p,_,_,_,rfl,rfl,SqT.of hp,at1,_,rfl,y,d,ρ,m,rfl,hd,hy,hq⟩⟩
  | @let_ p y a1 a2 b1 b2 hp h1 h2 =>
    simp only [Ex.ht] at hn
    rw [kin] at hq
    obtain⟨kvs,hk1,hk2,hk3⟩:=id hd
    refine⟨_,rfl,p,_,_,_,rfl,rfl,SqT.of hp,at0,?_⟩
    refine⟨_,rfl,rfl,_,rfl,no_s (by decide +kernel) ?_⟩
    refine⟨_,rfl,rfl,_,rfl,yes_s ⟨_,rfl,d,kvs,rfl,hk1,fun i hi=>?_⟩⟩
    have s1:=same_new hi (.dK kvs)
    refine⟨_,rfl,p,_,_,_,rfl,rfl,SqT.of (s1 _ _ hp),at2,_,rfl,_,rfl,_,rfl,a1,d,g,mo,b1,ρ,m,fdc,C,rfl,h1.same s1,by omega,hd.same s1,by omega,mo0,mo1,s1 _ _ hg,hC.same s1,?_⟩
    cases hc:kin mo C ρ b1 with
    | no c =>
      rw [hc] at hq
      exact⟨hq.1,fun H' s'=>hq.2 H' (s1.trans s')⟩
    | ok kd =>
      rw [hc] at hq
      intro H2 u s2 hu2
      have s12:=s1.trans s2
      have hi2:=s2 _ _ (upd_same (H:=H) (a:=i) (o:=.dK kvs))
      refine⟨_,rfl,_,rfl,p,_,_,_,rfl,rfl,SqT.of (s12 _ _ hp),at1,i,_,rfl,DPut.k (k:=Sum.inr y) hi2 (small1000 (by omega)),?_⟩
      have s3:Same H (upd H2 i (.dK (putK kvs (Sum.inr y) u))):=sput s12 hi
      refine⟨_,rfl,p,_,_,_,rfl,rfl,SqT.of (s3 _ _ hp),at3,_,rfl,_,rfl,_,rfl,a2,i,g,mo,b2,(fun z=>if z=y then some kd else ρ z),m+1,fdc,C,rfl,h2.same s3,by omega,?_,by omega,mo0,mo1,s3 _ _ hg,hC.same s3,hq.same s3⟩
      refine⟨_,upd_same,Nat.le_trans (length_putK ..) (by omega),fun z=>?_⟩
      rw [valV_put]
      by_cases ez:z=y
      · subst ez
        refine .inr ⟨kd,u,if_pos rfl,if_pos rfl,⟨kd_keep (fun a xs t=>?_) hu2.1,hu2.2⟩⟩
        rcases t with (t|⟨o,t⟩)|t
        · exact .inl (.inl (by rw [upd_ne (ne_of t hi2 (by intro z;cases z))];exact t))
        · exact .inl (.inr ⟨o,by rw [upd_ne (ne_of t hi2 (by intro z;cases z))];exact t⟩)
        · exact .inr t
      · rw [if_neg fun h=>ez (Sum.inr.inj h)]
        rcases hk3 z with ⟨e1,e2⟩|⟨k',u',e1,e2,e3⟩
        · exact .inl ⟨(if_neg ez).trans e1,e2⟩
        · exact .inr ⟨k',u',(if_neg ez).trans e1,e2,e3.same s3⟩
  | @nd p fm xs es hp hxs hlit =>
    simp only [Ex.ht] at hn
    obtain⟨z,r,e1,z1,z2,z3,z4,_⟩:=fm_head fm
    have hp':=hp
    rw [e1] at hp'
    refine⟨_,rfl,p,_,_,.str z,rfl,rfl,SqT.of hp',at0,?_⟩
    refine⟨_,rfl,rfl,_,rfl,no_s z2 ?_⟩
    refine⟨_,rfl,rfl,_,rfl,no_s z3 ?_⟩
    exact k3 p z xs es rfl hxs (fun e he=>by have:=hts_mem he;omega) (by omega) (.inl ⟨fm,r,e1,z1,z4,hp,hlit,hq⟩)
  | @call p p2 q t xs es hp hp2 hxs htl =>
    simp only [Ex.ht] at hn
    refine⟨_,rfl,p,_,_,_,rfl,rfl,SqT.of hp,at0,?_⟩
    refine⟨_,rfl,rfl,_,rfl,no_s (by decide +kernel) ?_⟩
    refine⟨_,rfl,rfl,_,rfl,no_s (by decide +kernel) ?_⟩
    exact k3 p "call" xs es rfl hxs (fun e he=>by have:=hts_mem he;omega) (by omega) (.inr ⟨p2,q,t,rfl,hp,hp2,htl,hq⟩)
end
end K52
namespace K52
open PySem L2 Kk
def cellOf(ns:List Int)(k:Int):Int :=
 if k < (ns.length:Int) then (match atI (ns.map V.int) k with|some (.int v)=>v|_=>0)
 else if 0 < (ns.length:Int) then (match atI (ns.map V.int) (k*7%(ns.length:Int)) with|some (.int v)=>((v*48271+k*7919)%2147483647)*((v*48271+k*7919)%2147483647)%2147483629|_=>0)
 else (k*7919+5)*(k*7919+5)%2147483629
def spCell(K:PySem.W.Frag):Sp:=fun vs H Q _=>∃(a:Addr) (ns:List Int) (k:Int),vs=[.ref a,.int k]∧SqL K H a (ns.map V.int)∧ns.length≤63∧0≤k∧k≤1000∧Q (.int (cellOf ns k)) H
abbrev letters:Str:=Str.ofString "abcdefghijklmnopqrstuvwxyz"
def lt(i:Int):Nat:=letters.cps.toList.getD (i%26).toNat 0
theorem l26:letters.cps.toList.length=26:=by decide +kernel
theorem lz:letters.length≤sizeLine:=by decide +kernel
theorem mod26(i:Int):0≤i%26∧i%26 < 26:=⟨Int.emod_nonneg _ (by decide),Int.emod_lt_of_pos _ (by decide)⟩
theorem get_at{α:Type}{xs:List α}{i:Int}{d:α}(h0:0≤i)(h1:i < xs.length):atI xs i=some (xs.getD i.toNat d):=by
 have hk:i.toNat < xs.length:=by omega
 have e:i=((i.toNat:Nat):Int):=by omega
 have q:atI xs ((i.toNat:Nat):Int)=some (xs.getD i.toNat d):=atI_nat (by rw [List.getD_eq_getElem?_getD,List.getElem?_eq_getElem hk]<;>rfl)
 rw [←e] at q
 exact q
theorem at_lt(i:Int):atI letters.cps.toList (i%26)=some (lt i):=get_at (mod26 i).1 (by rw [l26];exact(mod26 i).2)
theorem lt_fin:∀a < 26,∀b < 26,letters.cps.toList.getD a 0=letters.cps.toList.getD b 0→a=b:=by decide +kernel
theorem lt_small:∀a < 26,letters.cps.toList.getD a 0 < 0x110000:=by decide +kernel
theorem lt_inj{i j:Int}(h:lt i=lt j):i%26=j%26:=by
 have h1:=mod26 i
 have h2:=mod26 j
 have:=lt_fin (i%26).toNat (by omega) (j%26).toNat (by omega) h
 omega
theorem lt_ok(i:Int):lt i < 0x110000:=by
 have h1:=mod26 i
 exact lt_small (i%26).toNat (by omega)
abbrev szs:List Int:=[0,2,3,5,8,11]
def szOf(c:Int):Int:=szs.getD (c / 26%6).toNat 0
theorem sz_fin:∀a < 6,0≤szs.getD a 0∧szs.getD a 0≤11:=by decide +kernel
theorem mod6(i:Int):0≤i%6∧i%6 < 6:=⟨Int.emod_nonneg _ (by decide),Int.emod_lt_of_pos _ (by decide)⟩
theorem sz_le(c:Int):0≤szOf c∧szOf c≤11:=sz_fin _ (by have:=mod6 (c / 26);omega)
theorem at_sz(c:Int):atI (szs.map V.int) (c / 26%6)=some (.int (szOf c)):=by
 have h1:=mod6 (c / 26)
 rw [get_at (xs:=szs.map V.int) (d:=.int 0) h1.1 h1.2]
 unfold szOf
 rw [List.getD_eq_getElem?_getD,List.getD_eq_getElem?_getD,List.getElem?_map,List.getElem?_eq_getElem (show(c / 26%6).toNat < szs.length by show _ < 6;omega)]
 rfl
def atOf(c:Int):Int:=c / 156%(szOf c+1)
theorem at_le(c:Int):0≤atOf c∧atOf c≤szOf c:=by
 have:=sz_le c
 have h1:=Int.emod_nonneg (c / 156) (show szOf c+1≠0 by omega)
 have h2:=Int.emod_lt_of_pos (c / 156) (show 0 < szOf c+1 by omega)
 unfold atOf
 omega
def sg1(i:Int):Str:=⟨#[lt i]⟩
def wd(c m:Int):Str:=Txt.mul (sg1 c) (atOf c)++sg1 m++Txt.mul (sg1 c) (szOf c - atOf c)
abbrev cps(x:Str):List Nat:=x.cps.toList
theorem cps_app(a b:Str):cps (a++b)=cps a++cps b:=by
 show(a.cps++b.cps).toList=_
 rw [Array.toList_append]
theorem wd_ne{c:Int}{i j:Int}(hi:0≤i∧i < 26)(hj:0≤j∧j < 26)(h:wd c i=wd c j):i=j:=by
 have h0:=congrArg cps h
 unfold wd at h0
 rw [cps_app,cps_app,cps_app,cps_app] at h0
 have h1:=List.append_cancel_left (List.append_cancel_right h0)
 have h2:=lt_inj (List.cons.inj h1).1
 omega
theorem sok_sg(i:Int):PyData.strOk (sg1 i)=true:=by
 rw [sok_iff]
 intro d hd
 have:d=lt i:=by simpa [sg1] using hd
 rw [this]
 exact lt_ok i
theorem len_mul1(i:Int){n:Int}(h0:0≤n)(h1:n≤11):((Txt.mul (sg1 i) n).length:Int)≤n:=by
 have e:=PyProof.Rows.len_mul (sg1 i) n
 rw [if_neg (by rw [decide_eq_true_iff];omega)] at e
 have e1:((Str.length (sg1 i):Nat):Int)=1:=rfl
 rw [e1] at e
 omega
theorem wd_sm(c m:Int):smW (wd c m):=by
 have h1:=sz_le c
 have h2:=at_le c
 have l1:=len_mul1 c (n:=atOf c) (by omega) (by omega)
 have l2:=len_mul1 c (n:=szOf c - atOf c) (by omega) (by omega)
 have l3:(sg1 m).length=1:=rfl
 refine⟨sok_app (sok_app (sok_mul (sok_sg c) _) (sok_sg m)) (sok_mul (sok_sg c) _),?_⟩
 unfold wd
 rw [len_app,len_app]
 omega
def spWord:Sp:=fun vs H Q _=>∃c m:Int,vs=[.int c,.int m]∧∀H',Same H H'→Q (.str (wd c m)) H'
section
variable{P:Program}{w:World}{K:PySem.W.Frag}{mg:Str→Option Value}{base:Heap}
theorem scCell:FnScope ["_law_script","_law_k","_law_number"] ["_law_script","_law_k"] (defScope sCell):=⟨rfl,rfl,rfl,by decide +kernel,rfl,by decide +kernel,by decide +kernel⟩
theorem ok_cell{f:Addr}{fd:FuncData} (F:Fun K "_law_cell" "_law_cell" sCell f fd) (ml:mg "len"=none):FnOk P w K mg base CX0 1 f fd ["_law_script","_law_k"] (spCell K):=by
 refine F.ok scCell (fun vs H Q E h=>?_) (fun cdv A outer s H vs Q E hr h=>?_)
 ·obtain⟨a,ns,k,rfl,_⟩:=h
  rfl
 obtain⟨a,ns,k,rfl,hS,h63,h0,h1,q⟩:=h
 refine⟨_,@pss_cons _ _ _ _ _ (ps_if (pt_cmpR op_lt (pv 1) (pe_callB call_len_seq rfl ml PySem.boot_len (@pa_cons _ _ _ _ _ (pv 0) pa_nil rfl)) (nomark _)) (@pss_one _ _ _ (@ps_ret _ _ _ _ (pe_ix ix_list (pv 0) (pv 1) (fun _ _=>rfl)))) pss_nil) (@pss_cons _ _ _ _ _ (ps_set (i:=2) scCell.nd rfl (Or.inl rfl) (pe_op op_add (pe_op op_mul (pv 1) pe_int) pe_int)) (@pss_cons _ _ _ _ _ (ps_if (pt_cmpR op_gt (pe_callB call_len_seq rfl ml PySem.boot_len (@pa_cons _ _ _ _ _ (pv 0) pa_nil rfl)) pe_int (nomark _)) (@pss_one _ _ _ (ps_set (i:=2) scCell.nd rfl (Or.inl rfl) (pe_op op_mod (pe_op op_add (pe_op op_mul (pe_ix ix_list (pv 0) (pe_op op_mod (pe_op op_mul (pv 1) pe_int) (pe_callB call_len_seq rfl ml PySem.boot_len (@pa_cons _ _ _ _ _ (pv 0) pa_nil rfl))) (fun _ _=>rfl)) pe_int) (pe_op op_mul (pv 1) pe_int)) pe_int))) pss_nil) (@pss_one _ _ _ (@ps_ret _ _ _ _ (pe_op op_mod (pe_op op_mul (pv 2) (pv 2)) pe_int))))),?_⟩
 have hl:(ns.map V.int).length=ns.length:=List.length_map _
 unfold cellOf at q
 refine⟨_,rfl,_,rfl,a,_,rfl,.inl hS,_,_,rfl,rfl,_,rfl,?_⟩
 refine ite2 (fun c=>?_) (fun c=>?_)
 ·have c':k < (((ns.map V.int).length:Nat):Int):=of_decide_eq_true c
  rw [hl] at c'
  obtain⟨v,hv⟩:=at_int (ns:=ns) h0 c'
  rw [if_pos c',hv] at q
  exact⟨_,rfl,_,rfl,a,_,_,_,rfl,rfl,hS,hv,q⟩
 ·have c':¬k < (((ns.map V.int).length:Nat):Int):=of_decide_eq_false (Bool.eq_false_iff.mpr c)
  rw [hl] at c'
  rw [if_neg c'] at q
  refine⟨_,rfl,_,_,rfl,rfl,.inr ⟨by omega,by omega⟩,_,_,rfl,rfl,?_⟩
  refine⟨_,rfl,a,_,rfl,.inl hS,_,_,rfl,rfl,_,rfl,?_⟩
  refine ite2 (fun d=>?_) (fun d=>?_)
  ·have d':0 < (((ns.map V.int).length:Nat):Int):=of_decide_eq_true d
   rw [hl] at d'
   obtain⟨v,hv⟩:=at_int (ns:=ns) (i:=k*7%(((ns.map V.int).length:Nat):Int)) (by rw [hl];exact Int.emod_nonneg _ (by omega)) (by rw [hl];exact Int.emod_lt_of_pos _ d')
   have hv':=hv
   rw [hl] at hv'
   rw [if_pos d',hv'] at q
   refine⟨_,rfl,_,rfl,_,_,rfl,rfl,.inr ⟨by omega,by omega⟩,_,rfl,a,_,rfl,.inl hS,_,_,rfl,rfl,(by rw [hl];exact d'),a,_,_,_,rfl,rfl,hS,hv,?_⟩
   refine⟨_,_,rfl,rfl,.inr ⟨by omega,by omega⟩,_,rfl,_,_,rfl,rfl,.inr ⟨by omega,by omega⟩,_,_,rfl,rfl,_,_,rfl,rfl,(by show(0:Int) < 2147483647;decide),?_⟩
   have g0:=Int.emod_nonneg (v*48271+k*7919) (show(2147483647:Int)≠0 by decide)
   have g1:=Int.emod_lt_of_pos (v*48271+k*7919) (show(0:Int) < 2147483647 by decide)
   refine⟨_,rfl,_,rfl,_,_,rfl,rfl,?_,_,_,rfl,rfl,(by show(0:Int) < 2147483629;decide),q⟩
   exact Or.inl ⟨Int.lt_of_lt_of_le (by decide) g0,Int.lt_trans g1 (by decide)⟩
  ·have d':¬0 < (((ns.map V.int).length:Nat):Int):=of_decide_eq_false (Bool.eq_false_iff.mpr d)
   rw [hl] at d'
   rw [if_neg d'] at q
   exact⟨_,rfl,_,rfl,_,_,rfl,rfl,.inl ⟨by omega,by omega⟩,_,_,rfl,rfl,(by show(0:Int) < 2147483629;decide),q⟩
theorem scWord:FnScope ["_law_cell_here","_law_mark","_law_letters","_law_size_here","_law_at","_law_sign"] ["_law_cell_here","_law_mark"] (defScope sWord):=⟨rfl,rfl,rfl,by decide +kernel,rfl,by decide +kernel,by decide +kernel⟩
theorem ok_word{f:Addr}{fd:FuncData} (F:Fun K "_law_word" "_law_word" sWord f fd):FnOk P w K mg base CX0 1 f fd ["_law_cell_here","_law_mark"] spWord:=by
 refine F.ok scWord (fun vs H Q E h=>?_) (fun cdv A outer s H vs Q E hr h=>?_)
 ·obtain⟨_,_,rfl,_⟩:=h
  rfl
 obtain⟨c,m,rfl,q⟩:=h
 refine⟨_,@pss_cons _ _ _ _ _ (ps_set (i:=2) scWord.nd rfl (Or.inl rfl) pe_str) (@pss_cons _ _ _ _ _ (ps_set (i:=3) scWord.nd rfl (Or.inl rfl) (pe_ix ix_list (pe_lst (@pa_cons _ _ _ _ _ pe_int (@pa_cons _ _ _ _ _ pe_int (@pa_cons _ _ _ _ _ pe_int (@pa_cons _ _ _ _ _ pe_int (@pa_cons _ _ _ _ _ pe_int (@pa_cons _ _ _ _ _ pe_int pa_nil rfl) rfl) rfl) rfl) rfl) rfl)) (pe_op op_mod (pe_op op_fdiv (pv 0) pe_int) pe_int) (fun _ _=>rfl))) (@pss_cons _ _ _ _ _ (ps_set (i:=4) scWord.nd rfl (Or.inl rfl) (pe_op op_mod (pe_op op_fdiv (pv 0) pe_int) (pe_op op_add (pv 3) pe_int))) (@pss_cons _ _ _ _ _ (ps_set (i:=5) scWord.nd rfl (Or.inl rfl) (pe_ix ix_str (pv 2) (pe_op op_mod (pv 0) pe_int) (fun _ _=>rfl))) (@pss_one _ _ _ (@ps_ret _ _ _ _ (pe_op op_add_str (pe_op op_add_str (pe_op op_mulS (pv 5) (pv 4)) (pe_ix ix_str (pv 2) (pe_op op_mod (pv 1) pe_int) (fun _ _=>rfl))) (pe_op op_mulS (pv 5) (pe_op op_sub (pv 3) (pv 4))))))))),?_⟩
 have z1:=sz_le c
 have z2:=at_le c
 have l1:=len_mul1 c (n:=atOf c) (by omega) (by omega)
 have l2:=len_mul1 c (n:=szOf c - atOf c) (by omega) (by omega)
 have l3:(sg1 m).length=1:=rfl
 refine⟨(by show 6≤sizeLine;decide),fun l hl=>?_⟩
 have sL:=same_new hl (.lst (szs.map V.int))
 refine⟨_,rfl,_,_,rfl,rfl,⟨by decide,by decide⟩,_,_,rfl,rfl,(by show(0:Int) < 6;decide),l,_,_,_,rfl,rfl,SqL.of upd_same,at_sz c,?_⟩
 refine⟨_,rfl,_,_,rfl,rfl,⟨by decide,by decide⟩,_,rfl,_,_,rfl,rfl,_,_,rfl,rfl,(by show(0:Int) < szOf c+1;omega),?_⟩
 refine⟨_,rfl,_,rfl,_,_,rfl,rfl,(by show(0:Int) < 26;decide),_,_,_,rfl,rfl,lz,at_lt c,?_⟩
 refine⟨_,rfl,_,rfl,_,_,rfl,rfl,mulOk_small (by show 0≤atOf c;omega) (by show atOf c≤1000;omega) (by show 1≤1000;decide),?_⟩
 refine⟨_,rfl,_,rfl,_,_,rfl,rfl,(by show(0:Int) < 26;decide),_,_,_,rfl,rfl,lz,at_lt m,?_⟩
 refine⟨_,_,rfl,rfl,small (by show(Txt.mul (sg1 c) (atOf c)).length+(sg1 m).length≤1000;omega),?_⟩
 refine⟨_,rfl,_,rfl,_,rfl,_,_,rfl,rfl,_,_,rfl,rfl,mulOk_small (by show 0≤szOf c - atOf c;omega) (by show szOf c - atOf c≤1000;omega) (by show 1≤1000;decide),?_⟩
 refine⟨_,_,rfl,rfl,small (by show(Txt.mul (sg1 c) (atOf c)++sg1 m).length+(Txt.mul (sg1 c) (szOf c - atOf c)).length≤1000;rw [len_app];omega),?_⟩
 exact q _ sL
end
end K52
namespace K52
open PySem L2 Kk
def AlD:Nat→PyData→Prop
 |0,_=>False
 |_+1,.int _=>True
 |_+1,.str _=>True
 |n+1,.tuple ds=>ds.length≤100∧∀d∈ds,AlD n d
 |_+1,_=>False
theorem dats_get{K:PySem.W.Frag}{H:Hp}:∀{xs:List V} {ds:List PyData} {i:Nat} {x:V} {d:PyData},Dats K H xs ds→xs[i]?=some x→ds[i]?=some d→Dat K H x d
 |_,_,_,_,_,.nil,e,_=>by simp at e
 |_,_,0,_,_,.cons a _,e,f=>by
  obtain rfl:=Option.some.inj e
  obtain rfl:=Option.some.inj f
  exact a
 |_,_,i+1,_,_,.cons _ b,e,f=>dats_get (i:=i) b e f
theorem dats_len{K:PySem.W.Frag}{H:Hp}:∀{xs:List V} {ds:List PyData},Dats K H xs ds→xs.length=ds.length
 |_,_,.nil=>rfl
 |_,_,.cons _ b=>congrArg (·+1) (dats_len b)
theorem ald_kd:∀(k:Kd) (n:Nat),Kd.depth k≤n→AlD (n+1) (Kd.dat k)
 |.num _,n,h=>by
  match n,h with
  |n+1,_=>exact⟨by show 2≤100;decide,fun d hd=>by simp at hd;rcases hd with rfl|rfl<;>trivial⟩
  |0,h=>simp [Kd.depth] at h
 |.name _ _,n,h=>by
  match n,h with
  |n+1,_=>exact⟨by show 3≤100;decide,fun d hd=>by simp at hd;rcases hd with rfl|rfl|rfl<;>trivial⟩
  |0,h=>simp [Kd.depth] at h
 |.pair a b,n,h=>by
  match n,h with
  |n+1,h =>
   simp only [Kd.depth] at h
   have h1:=ald_kd a n (by omega)
   have h2:=ald_kd b n (by omega)
   exact⟨by show 3≤100;decide,fun d hd=>by simp at hd;rcases hd with rfl|rfl|rfl<;>first|trivial|assumption⟩
  |0,h=>simp [Kd.depth] at h
def spSame(K:PySem.W.Frag)(n:Nat):Sp:=fun vs H Q _=>∃(x y:V) (d:PyData),vs=[x,y]∧Dat K H x d∧Dat K H y d∧AlD n d∧Q (.bl true) H
theorem kit_ss(K:PySem.W.Frag):PySem.W.kitOne K (.type "str") (.type "str")=some true:=rfl
theorem kit_is(K:PySem.W.Frag):PySem.W.kitOne K (.type "int") (.type "str")=some false:=rfl
theorem bootBoolT:bootBuiltins "bool"=some (.type "bool"):=by decide +kernel
theorem bootStr:bootBuiltins "str"=some (.type "str"):=by decide +kernel
theorem sm_nil:smW "":=⟨by decide +kernel,by decide +kernel⟩
def spTold(C:Addr):Sp:=fun vs H Q E=>∃(d:Addr) (q t:Str) (kvs:List (List Key × V)),vs=[.ref d,.str q,.str t]∧H d=some (.dT kvs)∧∀H',Same H H'→match valV kvs [.inr q,.inr t] with
 |none=>E (.ref C) none H'
 |some u=>Q u H'
section
variable{P:Program}{w:World}{K:PySem.W.Frag}{mg:Str→Option Value}{base:Heap}
theorem scSame:FnScope ["_law_found","_law_due","_law_k"] ["_law_found","_law_due"] (defScope sSame):=⟨rfl,rfl,rfl,by decide +kernel,rfl,by decide +kernel,by decide +kernel⟩
set_option maxHeartbeats 0 in
theorem ok_same{f:Addr}{fd:FuncData} (F:Fun K "_law_same" "_law_same" sSame f fd) (bA:Binds K fd ["_law_found","_law_due"] []) (kA:PySem.W.keepIn K (.ref f)=true) (mA:mg "_law_same"=some (.ref f))
  (mis:mg "isinstance"=none) (ms:mg "str"=none) (mt:mg "tuple"=none) (mI:mg "int"=none) (mb:mg "bool"=none) (ml:mg "len"=none) (mr:mg "range"=none) :
  ∀n,FnOk P w K mg base CX0 n f fd ["_law_found","_law_due"] (spSame K n)
 |0=>⟨fun vs H Q E h=>by obtain⟨x,y,d,rfl,_⟩:=h;rfl,fun A outer s H args us vs Q E _ _ _ _ h=>by
   obtain⟨x,y,d,_,_,_,h,_⟩:=h
   exact h.elim⟩
 |n+1=>by
  have GA:=ok_same F bA kA mA mis ms mt mI mb ml mr n
  refine F.ok scSame (fun vs H Q E h=>?_) (fun cdv A outer s H vs Q E hrA h=>?_)
  ·obtain⟨x,y,d,rfl,_⟩:=h
   rfl
  obtain⟨x,y,d,rfl,hx,hy,hal,q⟩:=h
  refine⟨_,@pss_cons _ _ _ _ _ (ps_if (L2.pt_val (pe_callB call_isiTA rfl mis bootIsi (@pa_cons _ _ _ _ _ (pv 1) (@pa_cons _ _ _ _ _ (pe_bltn rfl mt bootTuple (v:=.ty "tuple") rfl) pa_nil rfl) rfl))) (@pss_cons _ _ _ _ _ (ps_if (PW.pt (pw_or (pt_not (L2.pt_val (pe_callB call_isiTA rfl mis bootIsi (@pa_cons _ _ _ _ _ (pv 0) (@pa_cons _ _ _ _ _ (pe_bltn rfl mt bootTuple (v:=.ty "tuple") rfl) pa_nil rfl) rfl)))) (pw_or1 (pt_cmpR op_ne (pe_callB call_len_seq rfl ml PySem.boot_len (@pa_cons _ _ _ _ _ (pv 0) pa_nil rfl)) (pe_callB call_len_seq rfl ml PySem.boot_len (@pa_cons _ _ _ _ _ (pv 1) pa_nil rfl)) (nomark _))))) (@pss_one _ _ _ (@ps_ret _ _ _ _ pe_bl)) pss_nil) (@pss_cons _ _ _ _ _ (ps_for PassesOwn.never rfl (pi_range1 rfl mr (@pa_cons _ _ _ _ _ (pe_callB call_len_seq rfl ml PySem.boot_len (@pa_cons _ _ _ _ _ (pv 1) pa_nil rfl)) pa_nil rfl)) (pg_name (i:=2) scSame.nd rfl (Or.inl rfl)) (@pss_one _ _ _ (ps_if (pt_not (L2.pt_val (pe_call GA hrA rfl mA kA bA .nil pass0 (@pa_cons _ _ _ _ _ (pe_ix ix_tup (pv 0) (pv 2) (fun _ _=>rfl)) (@pa_cons _ _ _ _ _ (pe_ix ix_tup (pv 1) (pv 2) (fun _ _=>rfl)) pa_nil rfl) rfl)))) (@pss_one _ _ _ (@ps_ret _ _ _ _ pe_bl)) pss_nil))) (@pss_one _ _ _ (@ps_ret _ _ _ _ pe_bl)))) pss_nil) (@pss_cons _ _ _ _ _ (ps_if (L2.pt_val (pe_callB call_isi rfl mis bootIsi (@pa_cons _ _ _ _ _ (pv 1) (@pa_cons _ _ _ _ _ (pe_bltn rfl ms bootStr (v:=.ty "str") rfl) pa_nil rfl) rfl))) (@pss_one _ _ _ (@ps_ret _ _ _ _ (pe_and (pe_callB call_isi rfl mis bootIsi (@pa_cons _ _ _ _ _ (pv 0) (@pa_cons _ _ _ _ _ (pe_bltn rfl ms bootStr (v:=.ty "str") rfl) pa_nil rfl) rfl)) (pe_one (pe_cmpR op_eq (pv 0) (pv 1) (nomark _)))))) pss_nil) (@pss_one _ _ _ (@ps_ret _ _ _ _ (pe_and (pe_callB call_isi rfl mis bootIsi (@pa_cons _ _ _ _ _ (pv 0) (@pa_cons _ _ _ _ _ (pe_bltn rfl mI bootInt (v:=.ty "int") rfl) pa_nil rfl) rfl)) (pe_and (pe_not (pe_callB call_isi rfl mis bootIsi (@pa_cons _ _ _ _ _ (pv 0) (@pa_cons _ _ _ _ _ (pe_bltn rfl mb bootBoolT (v:=.ty "bool") rfl) pa_nil rfl) rfl))) (pe_one (pe_cmpR op_eq (pv 0) (pv 1) (nomark _)))))))),?_⟩
  cases hy with
  |bl b=>exact hal.elim
  |lst _ _=>exact hal.elim
  |non=>exact hal.elim
  |str s0 =>
   cases hx
   refine⟨_,rfl,.str s0,rfl,.inl ⟨s0,rfl,false,rfl,iteF ?_⟩⟩
   refine⟨_,rfl,.str s0,"str",_,true,rfl,.str s0,kit_ss K,true,rfl,iteT ?_⟩
   refine⟨_,rfl,.str s0,"str",_,true,rfl,.str s0,kit_ss K,true,rfl,iteT ⟨_,rfl,_,rfl,rfl,?_⟩⟩
   show Q (.bl (decide (V.str s0=V.str s0))) H
   rw [decide_eq_true rfl]
   exact q
  |int i0 =>
   cases hx
   refine⟨_,rfl,.int i0,rfl,.inr (.inl ⟨i0,rfl,false,rfl,iteF ?_⟩)⟩
   refine⟨_,rfl,.int i0,"str",_,false,rfl,.int i0,kit_is K,false,rfl,iteF ?_⟩
   refine⟨_,rfl,.int i0,"int",_,true,rfl,.int i0,kit_ii K,true,rfl,iteT ?_⟩
   refine⟨_,rfl,.int i0,"bool",_,false,rfl,.int i0,kit_ib K,false,rfl,true,rfl,iteT ⟨_,rfl,_,rfl,rfl,?_⟩⟩
   show Q (.bl (decide (V.int i0=V.int i0))) H
   rw [decide_eq_true rfl]
   exact q
  |@tup b ys ds hb hys =>
   obtain⟨a,xs,rfl,ha,hxs⟩:∃a xs,x=.ref a∧SqT K H a xs∧Dats K H xs ds:=by
    cases hx with
    |tup h1 h2=>exact⟨_,_,rfl,h1,h2⟩
   obtain⟨h10,hall⟩:=hal
   have hxl:=dats_len hxs
   have hyl:=dats_len hys
   have hl:xs.length=ys.length:=by omega
   refine⟨_,rfl,.ref b,rfl,.inr (.inr ⟨b,_,rfl,hb,true,rfl,iteT ?_⟩)⟩
   refine⟨_,rfl,.ref a,rfl,.inr (.inr ⟨a,_,rfl,ha,true,rfl,iteF ⟨_,rfl,a,_,rfl,.inr ha,_,rfl,b,_,rfl,.inr hb,rfl,_,rfl,ite2 (fun c=>?_) (fun _=>?_)⟩⟩)⟩
   ·have c':(!decide (V.int (xs.length:Int)=V.int (ys.length:Int)))=true:=c
    rw [hl,decide_eq_true rfl] at c'
    exact absurd c' (by decide)
   refine⟨_,rfl,b,_,rfl,.inr hb,_,rfl,by omega,by omega,?_⟩
   refine for_range (n:=((ys.length:Nat):Int).toNat) (fun i σ H2=>H2=H∧∃v,σ=[some (.ref a),some (.ref b),v]) ⟨rfl,none,rfl⟩ ?_ ?_
   ·rintro i σ H2 hi ⟨rfl,v,rfl⟩
    have hi':i < ys.length:=by omega
    have e0:(0:Int)+(i:Int)=(i:Int):=by omega
    rw [e0]
    have gx:xs[i]?=some xs[i]:=List.getElem?_eq_getElem (by omega)
    have gy:ys[i]?=some ys[i]:=List.getElem?_eq_getElem (by omega)
    have gd:ds[i]?=some ds[i]:=List.getElem?_eq_getElem (by omega)
    refine⟨_,rfl,_,rfl,a,_,_,_,rfl,rfl,ha,atI_nat gx,?_⟩
    refine⟨_,rfl,_,rfl,b,_,_,_,rfl,rfl,hb,atI_nat gy,?_⟩
    exact⟨_,_,ds[i],rfl,dats_get hxs gx gd,dats_get hys gy gd,hall _ (List.getElem_mem _),true,rfl,iteF ⟨rfl,_,rfl⟩⟩
   ·rintro σ H2 ⟨rfl,v,rfl⟩
    exact q
theorem scTold:FnScope ["_law_table","_law_q","_law_f"] ["_law_table","_law_q","_law_f"] (defScope sTold):=⟨rfl,rfl,rfl,by decide +kernel,rfl,by decide +kernel,by decide +kernel⟩
theorem ok_told{f C:Addr}{fd:FuncData} (F:Fun K "_law_told" "_law_told" sTold f fd) (mN:mg "NoName"=some (.ref C)) (xN:PySem.W.excIn K C bmVE "ValueError.__new__"=true):FnOk P w K mg base (CX1 P w) 1 f fd ["_law_table","_law_q","_law_f"] (spTold C):=by
 refine F.okX (k:=0) scTold (fun vs H Q E h=>?_) (fun cdv A outer s H vs Q E hr h=>?_)
 ·obtain⟨_,_,_,_,rfl,_⟩:=h
  rfl
 obtain⟨d,q,t,kvs,rfl,hd,hq⟩:=h
 have hu:=hu_of hr
 refine⟨_,@pss_cons _ _ _ _ _ (ps_if (pt_cmp (pc_dnotin hu (@pe_tup _ _ _ _ _ (@pa_cons _ _ _ _ _ (pv 1) (@pa_cons _ _ _ _ _ (pv 2) pa_nil rfl) rfl)) (pv 0))) (@pss_one _ _ _ (ps_raise1 rfl mN xN (@pa_cons _ _ _ _ _ pe_str pa_nil rfl))) pss_nil) (@pss_one _ _ _ (@ps_ret _ _ _ _ (pe_dget hu (pv 0) (@pe_tup _ _ _ _ _ (@pa_cons _ _ _ _ _ (pv 1) (@pa_cons _ _ _ _ _ (pv 2) pa_nil rfl) rfl)) (fun _ _=>rfl)))),?_⟩
 refine⟨_,rfl,_,rfl,(by show 2≤sizeLine;decide),fun p hp=>?_⟩
 have s1:=same_new hp (.tup [.str q,.str t])
 have g:=DGet.t (k:=[Sum.inr q,Sum.inr t]) (s1 _ _ hd) (upd_same (a:=p))
 cases e:valV kvs [Sum.inr q,Sum.inr t] with
 |none =>
  rw [e] at g
  have h1:=hq _ s1
  rw [e] at h1
  exact⟨_,rfl,d,none,rfl,g,_,rfl,iteT ⟨(by show 1≤sizeLine;decide),h1⟩⟩
 |some u =>
  rw [e] at g
  refine⟨_,rfl,d,some u,rfl,g,_,rfl,iteF ?_⟩
  refine⟨_,rfl,_,rfl,_,rfl,(by show 2≤sizeLine;decide),fun p2 hp2=>?_⟩
  have s2:=s1.trans (same_new hp2 (.tup [.str q,.str t]))
  have g2:=DGet.t (k:=[Sum.inr q,Sum.inr t]) (s2 _ _ hd) (upd_same (a:=p2))
  rw [e] at g2
  have h1:=hq _ s2
  rw [e] at h1
  exact⟨d,u,rfl,g2,h1⟩
end
end K52
namespace L2
open PySem PySem.Spec PyProof.Rows
theorem op_fdivM{X:Cx}:OpR X (binaryOp .FloorDiv) (rI (fun _ j=>0 < j∧j≤10 ^ 18) fun i j=>.int (i / j)):=opI fun i j _ _ _ _ _ hc q=>by
 have h1:(0:Int) < j:=hc.1
 have h2:j≤10 ^ 18:=hc.2
 refine floordiv_int (by omega) (by rw [Int.fdiv_eq_ediv_of_nonneg i (by omega)];exact q) (.inl (PyProof.noPylong_of_log2 ?_))
 have h64:j.natAbs.log2 < 64:=(Nat.log2_lt (by omega)).mpr (by
  have:j.natAbs≤10 ^ 18:=by omega
  exact Nat.lt_of_le_of_lt this (by decide))
 omega
end L2
namespace K52
open PySem L2 Kk
theorem new_at{H:Hp}{p:Addr}(h:H p=none)(o:HO):upd H p o p=some o:=upd_same
def zo(H:Hp)(S:List Addr):Hp:=fun b=>if b∈S then none else H b
theorem zo_ne{H:Hp}{S:List Addr}{b:Addr}(h:b∉S):zo H S b=H b:=if_neg h
theorem zo_at{H:Hp}{S:List Addr}{b:Addr}(h:b∈S):zo H S b=none:=if_pos h
theorem zo_same{H:Hp}{S:List Addr}:Same (zo H S) H:=fun b u q=>by
 by_cases e:b∈S
 ·rw [zo_at e] at q;cases q
 ·rw [zo_ne e] at q;exact q
theorem zo_mono{H H':Hp}{S:List Addr}(s:Same H H'):Same (zo H S) (zo H' S):=fun b u q=>by
 by_cases e:b∈S
 ·rw [zo_at e] at q;cases q
 ·rw [zo_ne e] at q ⊢;exact s _ _ q
theorem zo_upd{H:Hp}{S:List Addr}{a:Addr}{o:HO}(h:a∈S):zo (upd H a o) S=zo H S:=by
 funext b
 by_cases e:b∈S
 ·rw [zo_at e,zo_at e]
 ·rw [zo_ne e,zo_ne e,upd_ne (fun z:b=a=>e (by rw [z];exact h))]
theorem zo_sub{H H':Hp}{S T:List Addr}(h:∀b∈S,b∈T)(s:Same (zo H S) (zo H' S)):Same (zo H T) (zo H' T):=fun b u q=>by
 by_cases e:b∈T
 ·rw [zo_at e] at q;cases q
 ·have e':b∉S:=fun z=>e (h b z)
  rw [zo_ne e] at q ⊢
  have:=s b u (by rw [zo_ne e'];exact q)
  rw [zo_ne e'] at this
  exact this
theorem zo_of{H H':Hp}{S:List Addr}(s:Same H H')(h:∀b∈S,H b=none):Same H (zo H' S):=fun b u q=>by
 rw [zo_ne (fun z=>by rw [h b z] at q;cases q)]
 exact s _ _ q
theorem ex_cons{α:Type}:∀{xs:List α},xs≠[]→∃a r,xs=a::r
 |[],h=>absurd rfl h
 |a::r,_=>⟨a,r,rfl⟩
theorem ix0{n:Nat}:ixN (n+1) 0=some 0:=by
 unfold ixN
 rw [if_pos (Int.le_refl 0),if_pos (by omega)]
 rfl
theorem sq0{n:Nat}:seqIndex? 0 (n+1)=some 0:=(ixN_seq ix0).1
def forB:Stmt→List Stmt
 |.For _ _ b _ _=>b
 |_=>[]
def ifT:Stmt→List Stmt
 |.If _ b _ _=>b
 |_=>[]
abbrev dS:Stmt:=.Pass ⟨0,0,0,0⟩
theorem at_get{α:Type}{xs:List α}{i:Int}(h0:0≤i)(h1:i < xs.length):∃x,xs[i.toNat]?=some x∧atI xs i=some x:=by
 have hk:i.toNat < xs.length:=by omega
 have e:i=((i.toNat:Nat):Int):=by omega
 have q:atI xs ((i.toNat:Nat):Int)=some xs[i.toNat]:=atI_nat (by simp)
 rw [←e] at q
 exact⟨_,List.getElem?_eq_getElem hk,q⟩
def FdAt(H:Hp)(lf:Addr):Prop:=∃ns:List Int,ns≠[]∧ns.length≤62∧H lf=some (.lst (ns.map V.int))
def spTake:Sp:=fun vs H Q _=>∃(lf:Addr) (m:Int),vs=[.ref lf,.int m]∧FdAt H lf∧0 < m∧m≤10 ^ 18∧∀H' r,FdAt H' lf→Same (zo H [lf]) (zo H' [lf])→0≤r→r < m→Q (.int r) H'
def spSize:Sp:=fun vs H Q _=>∃(lf:Addr),vs=[.ref lf]∧FdAt H lf∧∀H' n,FdAt H' lf→Same (zo H [lf]) (zo H' [lf])→0 < n→n≤10 ^ 18→Q (.int n) H'
def spFeed(K:PySem.W.Frag):Sp:=fun vs H Q _=>∃(a:Addr) (ns:List Int),vs=[.ref a]∧SqL K H a (ns.map V.int)∧ns.length≤63∧∀H' lf,Same H H'→H lf=none→FdAt H' lf→Q (.ref lf) H'
theorem fd_new{H:Hp}{lf p:Addr}{o:HO}(h:FdAt H lf)(hp:H p=none):FdAt (upd H p o) lf∧Same (zo H [lf]) (zo (upd H p o) [lf]):=by
 obtain⟨ns,h1,h2,h3⟩:=h
 exact⟨⟨ns,h1,h2,same_new hp o _ _ h3⟩,zo_mono (same_new hp o)⟩
theorem cut_cells{ns:List Int}(h:ns.length≤63):∃ms:List Int,ms.length≤62∧cutV (ns.map V.int) (some 1) (some 63)=ms.map V.int:=by
 refine⟨(ns.drop (HT.sIx ns.length 0 (some 1))).take (HT.sIx ns.length ns.length (some 63) - HT.sIx ns.length 0 (some 1)),?_,?_⟩
 ·rw [show HT.sIx ns.length 0 (some 1)=min 1 ns.length from HT.sIx_nat _ _ 1,show HT.sIx ns.length ns.length (some 63)=min 63 ns.length from HT.sIx_nat _ _ 63,List.length_take,List.length_drop]
  omega
 ·unfold cutV
  rw [List.length_map,List.map_take,List.map_drop]
section
variable{P:Program}{w:World}{K:PySem.W.Frag}{mg:Str→Option Value}{base:Heap}
theorem scTake:FnScope ["_law_feed_here","_law_many","_law_digit"] ["_law_feed_here","_law_many"] (defScope sTake):=⟨rfl,rfl,rfl,by decide +kernel,rfl,by decide +kernel,by decide +kernel⟩
set_option maxHeartbeats 0 in
theorem ok_take{f:Addr}{fd:FuncData} (F:Fun K "_law_take" "_law_take" sTake f fd) (ml:mg "len"=none):FnOk P w K mg base CX0 1 f fd ["_law_feed_here","_law_many"] spTake:=by
 refine F.ok scTake (fun vs H Q E h=>?_) (fun cdv A outer s H vs Q E hr h=>?_)
 ·obtain⟨_,_,rfl,_⟩:=h
  rfl
 obtain⟨lf,m,rfl,⟨ns,hne,h62,hf⟩,hm,hm2,q⟩:=h
 obtain⟨t1,d1,k1⟩:∃t,PSs (cxOf CX0 P w K mg base ["_law_feed_here","_law_many","_law_digit"] "_law_take" (defScope sTake) f cdv A outer s H E).nox (List.drop 1 (defBody sTake)) t ∧
   ∀(H1:Hp) (ns1:List Int),Same (zo H [lf]) (zo H1 [lf])→ns1≠[]→ns1.length≤62→H1 lf=some (.lst (ns1.map V.int))→t { nx:=fun _ H'=>Q .non H',rt:=Q } [some (.ref lf),some (.int m),none] H1:=by
  refine⟨_,@pss_cons _ _ _ _ _ (ps_set (i:=2) scTake.nd rfl (Or.inl rfl) (pe_op op_mod (pe_ix ix_list (pv 0) pe_int (fun _ _=>rfl)) (pv 1))) (@pss_cons _ _ _ _ _ (ps_asg (pe_op op_fdivM (pe_ix ix_list (pv 0) pe_int (fun _ _=>rfl)) (pv 1)) (pg_sub (pv 0) pe_int set_list)) (@pss_one _ _ _ (@ps_ret _ _ _ _ (pv 2)))),?_⟩
  intro H1 ns1 s1 hne hl h1
  obtain⟨n0,r,rfl⟩:=ex_cons hne
  refine⟨_,rfl,lf,_,_,_,rfl,rfl,SqL.of h1,at0,_,rfl,_,_,rfl,rfl,hm,?_⟩
  refine⟨_,rfl,lf,_,_,_,rfl,rfl,SqL.of h1,at0,_,rfl,_,_,rfl,rfl,⟨hm,hm2⟩,?_⟩
  refine⟨_,rfl,lf,_,0,0,rfl,rfl,h1,ix0,?_⟩
  refine⟨_,rfl,q _ _ ⟨(n0 / m)::r,nofun,hl,upd_same⟩ ?_ (Int.emod_nonneg _ (by omega)) (Int.emod_lt_of_pos _ hm)⟩
  rw [zo_upd (by simp)]
  exact s1
 refine⟨_,@pss_cons _ _ _ _ _ (ps_if (PW.pt (pw_and (pt_cmpR op_gt (pe_callB call_len_seq rfl ml PySem.boot_len (@pa_cons _ _ _ _ _ (pv 0) pa_nil rfl)) pe_int (nomark _)) (pw_and1 (pt_cmpR (op_in_seq) (pe_ix ix_list (pv 0) pe_int (fun _ _=>rfl)) (pe_lst (@pa_cons _ _ _ _ _ pe_int (@pa_cons _ _ _ _ _ (pe_un un_neg pe_int) pa_nil rfl) rfl)) (by with_unfolding_all rfl))))) (@pss_one _ _ _ (ps_expr (pe_bm PySem.F.plainAttrs_list PySem.F.slot_list_pop PySem.F.type_list_pop mt_popAt (pv 0) (@pa_cons _ _ _ _ _ pe_int pa_nil rfl)))) pss_nil) d1,?_⟩
 have K1:=k1 H ns (Same.refl _) hne h62 hf
 have hl:(ns.map V.int).length=ns.length:=List.length_map _
 refine⟨_,rfl,lf,_,rfl,.inl (SqL.of hf),_,_,rfl,rfl,_,rfl,ite2 (fun c=>?_) (fun _=>iteF (A:=True) K1)⟩
 have c':(1:Int) < (((ns.map V.int).length:Nat):Int):=of_decide_eq_true c
 rw [hl] at c'
 obtain⟨n0,r,rfl⟩:=ex_cons hne
 have hr0:r≠[]:=fun e=>by subst e;simp at c'
 refine⟨_,rfl,lf,_,_,_,rfl,rfl,SqL.of hf,at0,?_⟩
 refine⟨_,rfl,(by show 2≤sizeLine;decide),fun p hp=>?_⟩
 have sp:=same_new hp (.lst [.int 0,.int (-1)])
 have zp:Same (zo H [lf]) (zo (upd H p (.lst [.int 0,.int (-1)])) [lf]):=zo_mono sp
 refine⟨p,_,rfl,.inl (SqL.of upd_same),rfl,rfl,_,rfl,ite2 (fun _=>?_) (fun _=>k1 _ _ zp hne h62 (sp _ _ hf))⟩
 refine⟨_,rfl,.inl ⟨rfl,_,SqL.of (sp _ _ hf)⟩,lf,_,0,0,_,rfl,rfl,sp _ _ hf,by decide,by decide,sq0,rfl,?_⟩
 refine k1 _ r ?_ hr0 (by have:r.length+1≤62:=h62;omega) upd_same
 rw [zo_upd (by simp)]
 exact zp
theorem scSize:FnScope ["_law_feed_here","_law_form"] ["_law_feed_here"] (defScope sSize):=⟨rfl,rfl,rfl,by decide +kernel,rfl,by decide +kernel,by decide +kernel⟩
set_option maxHeartbeats 0 in
theorem ok_size{f fT:Addr}{fd fdT:FuncData} (F:Fun K "_law_size" "_law_size" sSize f fd) (GT:FnOk P w K mg base CX0 1 fT fdT ["_law_feed_here","_law_many"] spTake) (bT:Binds K fdT ["_law_feed_here","_law_many"] []) (kT:PySem.W.keepIn K (.ref fT)=true) (mT:mg "_law_take"=some (.ref fT)):FnOk P w K mg base CX0 2 f fd ["_law_feed_here"] spSize:=by
 refine F.ok (k:=1) scSize (fun vs H Q E h=>?_) (fun cdv A outer s H vs Q E hrT h=>?_)
 ·obtain⟨_,rfl,_⟩:=h
  rfl
 obtain⟨lf,rfl,hf,q⟩:=h
 refine⟨_,@pss_cons _ _ _ _ _ (ps_set (i:=1) scSize.nd rfl (Or.inl rfl) (pe_call GT hrT rfl mT kT bT .nil pass0 (@pa_cons _ _ _ _ _ (pv 0) (@pa_cons _ _ _ _ _ pe_int pa_nil rfl) rfl))) (@pss_cons _ _ _ _ _ (ps_if (pt_cmpR op_lt (pv 1) pe_int (nomark _)) (@pss_one _ _ _ (@ps_ret _ _ _ _ (pe_ix ix_list (pe_lst (@pa_cons _ _ _ _ _ pe_int (@pa_cons _ _ _ _ _ (pe_op op_add pe_int (pe_call GT hrT rfl mT kT bT .nil pass0 (@pa_cons _ _ _ _ _ (pv 0) (@pa_cons _ _ _ _ _ pe_int pa_nil rfl) rfl))) pa_nil rfl) rfl)) (pv 1) (fun _ _=>rfl)))) pss_nil) (@pss_one _ _ _ (@ps_ret _ _ _ _ (pe_ix ix_list (pe_lst (@pa_cons _ _ _ _ _ (pe_op op_add pe_int (pe_call GT hrT rfl mT kT bT .nil pass0 (@pa_cons _ _ _ _ _ (pv 0) (@pa_cons _ _ _ _ _ (pe_op op_pow pe_int pe_int) pa_nil rfl) rfl))) (@pa_cons _ _ _ _ _ (pe_op op_pow pe_int pe_int) pa_nil rfl) rfl)) (pe_op op_sub (pv 1) pe_int) (fun _ _=>rfl))))),?_⟩
 have e18:(10:Int) ^ (18:Int).toNat=10 ^ 18:=rfl
 have p18:(0:Int) < 10 ^ 18:=by decide
 refine⟨_,rfl,lf,4,rfl,hf,by decide,by decide,fun H1 fm f1 s1 f0 f4=>?_⟩
 refine⟨_,rfl,_,_,rfl,rfl,_,rfl,ite2 (fun c=>?_) (fun c=>?_)⟩
 ·have c':fm < 2:=of_decide_eq_true c
  refine⟨_,rfl,lf,7,rfl,f1,by decide,by decide,fun H2 r f2 s2 r0 r7=>⟨_,_,rfl,rfl,(by show 2≤sizeLine;decide),fun p hp=>?_⟩⟩
  obtain⟨f3,s3⟩:=fd_new (o:=.lst [.int 2,.int (1+r)]) f2 hp
  have:fm=0∨fm=1:=by omega
  rcases this with rfl|rfl
  ·exact⟨_,rfl,p,_,_,_,rfl,rfl,SqL.of upd_same,at0,q _ _ f3 (s1.trans (s2.trans s3)) (by decide) (by decide)⟩
  ·exact⟨_,rfl,p,_,_,_,rfl,rfl,SqL.of upd_same,at1,q _ _ f3 (s1.trans (s2.trans s3)) (by omega) (by omega)⟩
 ·have c':¬fm < 2:=of_decide_eq_false (Bool.eq_false_iff.mpr c)
  refine⟨_,rfl,_,_,rfl,rfl,⟨by decide,by decide,by decide⟩,lf,10 ^ 18,rfl,f1,p18,by decide,fun H2 r f2 s2 r0 r7=>⟨_,_,rfl,rfl,_,_,rfl,rfl,⟨by decide,by decide,by decide⟩,(by show 2≤sizeLine;decide),fun p hp=>?_⟩⟩
  obtain⟨f3,s3⟩:=fd_new (o:=.lst [.int (1+r),.int (10 ^ 18)]) f2 hp
  have:fm=2∨fm=3:=by omega
  rcases this with rfl|rfl
  ·exact⟨_,rfl,_,_,rfl,rfl,p,_,_,_,rfl,rfl,SqL.of upd_same,at0,q _ _ f3 (s1.trans (s2.trans s3)) (by omega) (by omega)⟩
  ·exact⟨_,rfl,_,_,rfl,rfl,p,_,_,_,rfl,rfl,SqL.of upd_same,at1,q _ _ f3 (s1.trans (s2.trans s3)) (by decide) (by decide)⟩
theorem scFeed:FnScope ["_law_script","_law_cells","_law_n","_law_mixed","_law_j","_law_cell_here"] ["_law_script"] (defScope sFeed):=⟨rfl,rfl,rfl,by decide +kernel,rfl,by decide +kernel,by decide +kernel⟩
theorem bootListT:bootBuiltins "list"=some (.type "list"):=by decide +kernel
set_option maxHeartbeats 0 in
theorem ok_feed{f fC:Addr}{fd fdC:FuncData} (F:Fun K "_law_feed" "_law_feed" sFeed f fd) (ml:mg "len"=none) (mr:mg "range"=none) (mli:mg "list"=none) (GC:FnOk P w K mg base CX0 1 fC fdC ["_law_script","_law_k"] (spCell K)) (bC:Binds K fdC ["_law_script","_law_k"] []) (kC:PySem.W.keepIn K (.ref fC)=true) (mC:mg "_law_cell"=some (.ref fC)):FnOk P w K mg base CX0 2 f fd ["_law_script"] (spFeed K):=by
 refine F.ok (k:=1) scFeed (fun vs H Q E h=>?_) (fun cdv A outer s H vs Q E hr1 h=>?_)
 ·obtain⟨_,_,rfl,_⟩:=h
  rfl
 obtain⟨a,ns,rfl,hS,h63,q⟩:=h
 obtain⟨tF,dF,kF⟩:∃t,PSs (cxOf CX0 P w K mg base ["_law_script","_law_cells","_law_n","_law_mixed","_law_j","_law_cell_here"] "_law_feed" (defScope sFeed) f cdv A outer s H E).nox (List.drop 2 (forB ((defBody sFeed).getD 4 dS))) t ∧
   ∀(D:Ends) (H3:Hp) (lc l:Addr) (n c i:Int) (zs:List Int),0≤n→n < 2147483647→H3 l=some (.lst (zs.map V.int))→zs.length≤100 →
    (∀(n' v:Int),0≤n'→n' < 2147483647→D.nx [some (.ref a),some (.ref lc),some (.int n'),some (.ref l),some (.int i),some (.int c)] (upd H3 l (.lst ((zs++[v]).map V.int)))) →
    t D [some (.ref a),some (.ref lc),some (.int n),some (.ref l),some (.int i),some (.int c)] H3:=by
  refine⟨_,@pss_cons _ _ _ _ _ (ps_set (i:=2) scFeed.nd rfl (Or.inl rfl) (pe_op op_mod (pe_op op_add (pe_op op_add (pe_op op_add (pe_op op_mul (pv 2) (pv 2)) (pe_op op_mul pe_int (pv 2))) (pv 5)) (pv 4)) pe_int)) (@pss_one _ _ _ (ps_expr (pe_bm PySem.F.plainAttrs_list PySem.F.slot_list_append PySem.F.type_list_append mt_append (pv 3) (@pa_cons _ _ _ _ _ (pe_op op_mod (pe_op op_mul (pv 2) pe_int) pe_int) pa_nil rfl)))),?_⟩
  intro D H3 lc l n c i zs n0 n1 hl hz hD
  have m0:=Int.emod_nonneg (n*n+48271*n+c+i) (show(2147483647:Int)≠0 by decide)
  have m1:=Int.emod_lt_of_pos (n*n+48271*n+c+i) (show(0:Int) < 2147483647 by decide)
  refine⟨_,rfl,_,rfl,_,_,rfl,rfl,.inl ⟨by omega,by omega⟩,_,rfl,_,_,rfl,rfl,.inl ⟨by decide,by decide⟩,_,_,rfl,rfl,_,rfl,_,_,rfl,rfl,_,rfl,_,_,rfl,rfl,_,_,rfl,rfl,(by show(0:Int) < 2147483647;decide),?_⟩
  refine⟨_,rfl,.inl ⟨rfl,_,SqL.of hl⟩,_,rfl,_,_,rfl,rfl,.inr ⟨by decide,by decide⟩,_,_,rfl,rfl,(by show(0:Int) < 2147483629;decide),l,_,_,rfl,rfl,hl,small1000 (by rw [List.length_map];omega),?_⟩
  have:=hD _ ((n*n+48271*n+c+i)%2147483647*48271%2147483629) m0 m1
  rw [List.map_append] at this
  exact this
 obtain⟨t0,d0,k0⟩:∃t,PSs (cxOf CX0 P w K mg base ["_law_script","_law_cells","_law_n","_law_mixed","_law_j","_law_cell_here"] "_law_feed" (defScope sFeed) f cdv A outer s H E).nox (forB ((defBody sFeed).getD 4 dS)) t ∧
   ∀(D:Ends) (H3:Hp) (lc l:Addr) (n i:Int) (zs ms:List Int) (v5:Option V),0≤n→n < 2147483647→H3 l=some (.lst (zs.map V.int))→zs.length≤100→H3 lc=some (.lst (ms.map V.int))→ms.length≤62 →
    (∀(n' c v:Int),0≤n'→n' < 2147483647→D.nx [some (.ref a),some (.ref lc),some (.int n'),some (.ref l),some (.int i),some (.int c)] (upd H3 l (.lst ((zs++[v]).map V.int)))) →
    t D [some (.ref a),some (.ref lc),some (.int n),some (.ref l),some (.int i),v5] H3:=by
  refine⟨_,@pss_cons _ _ _ _ _ (ps_set (i:=5) scFeed.nd rfl (Or.inl rfl) (pv 4)) (@pss_cons _ _ _ _ _ (ps_if (pt_cmpR op_gt (pe_callB call_len_seq rfl ml PySem.boot_len (@pa_cons _ _ _ _ _ (pv 1) pa_nil rfl)) pe_int (nomark _)) (@pss_one _ _ _ (ps_set (i:=5) scFeed.nd rfl (Or.inl rfl) (pe_ix ix_list (pv 1) (pe_op op_mod (pv 4) (pe_callB call_len_seq rfl ml PySem.boot_len (@pa_cons _ _ _ _ _ (pv 1) pa_nil rfl))) (fun _ _=>rfl)))) pss_nil) dF),?_⟩
  intro D H3 lc l n i zs ms v5 n0 n1 hl hz hc hm hD
  refine⟨_,rfl,_,rfl,lc,_,rfl,.inl (SqL.of hc),_,_,rfl,rfl,_,rfl,ite2 (fun c=>?_) (fun _=>kF D H3 lc l n i i zs n0 n1 hl hz fun n' v=>hD n' i v)⟩
  have c':(0:Int) < (((ms.map V.int).length:Nat):Int):=of_decide_eq_true c
  have g0:=Int.emod_nonneg i (show(((ms.map V.int).length:Nat):Int)≠0 by omega)
  have g1:=Int.emod_lt_of_pos i c'
  obtain⟨x,hx,hxa⟩:=at_get g0 g1
  obtain⟨v,rfl⟩:∃v:Int,x=.int v:=by
   obtain⟨v,_,e⟩:=List.mem_map.mp (List.mem_of_getElem? hx)
   exact⟨v,e.symm⟩
  refine⟨_,rfl,_,rfl,_,rfl,lc,_,rfl,.inl (SqL.of hc),_,_,rfl,rfl,c',lc,_,_,_,rfl,rfl,SqL.of hc,hxa,?_⟩
  exact kF D H3 lc l n v i zs n0 n1 hl hz fun n' w=>hD n' v w
 obtain⟨t2,d2,k2⟩:∃t,PSs (cxOf CX0 P w K mg base ["_law_script","_law_cells","_law_n","_law_mixed","_law_j","_law_cell_here"] "_law_feed" (defScope sFeed) f cdv A outer s H E).nox (List.drop 2 (defBody sFeed)) t ∧
   ∀(H1:Hp) (lc:Addr) (ms:List Int),Same H H1→H1 lc=some (.lst (ms.map V.int))→ms.length≤62→t { nx:=fun _ H'=>Q .non H',rt:=Q } [some (.ref a),some (.ref lc),none,none,none,none] H1:=by
  refine⟨_,@pss_cons _ _ _ _ _ (ps_set (i:=2) scFeed.nd rfl (Or.inl rfl) pe_int) (@pss_cons _ _ _ _ _ (ps_set (i:=3) scFeed.nd rfl (Or.inl rfl) (pe_lst pa_nil)) (@pss_cons _ _ _ _ _ (ps_for PassesOwn.never rfl (pi_range1 rfl mr (@pa_cons _ _ _ _ _ pe_int pa_nil rfl)) (pg_name (i:=4) scFeed.nd rfl (Or.inl rfl)) d0) (@pss_one _ _ _ (@ps_ret _ _ _ _ (pv 3))))),?_⟩
  intro H1 lc ms s1 hc hm
  refine⟨(by show 0≤sizeLine;decide),fun l hl=>?_⟩
  have s2:=same_new hl (.lst [])
  refine⟨_,rfl,by omega,by omega,for_range (n:=60) (fun i σ H3=>∃(n:Int) (zs:List Int) (v4 v5:Option V),σ=[some (.ref a),some (.ref lc),some (.int n),some (.ref l),v4,v5]∧0≤n∧n < 2147483647∧zs.length=i∧Same H1 H3∧H3 l=some (.lst (zs.map V.int))) ⟨48271,[],none,none,rfl,by decide,by decide,rfl,s2,new_at hl _⟩ ?_ ?_⟩
  ·rintro i σ H3 hi ⟨n,zs,v4,v5,rfl,n0,n1,hzl,s3,h3⟩
   have e0:(0:Int)+(i:Int)=(i:Int):=by omega
   rw [e0]
   exact k0 _ H3 lc l n i zs ms v5 n0 n1 h3 (by omega) (s3 _ _ hc) hm fun n' c v a0 a1=>⟨n',zs++[v],_,_,rfl,a0,a1,by rw [List.length_append,hzl];rfl,sput s3 hl,upd_same⟩
  ·rintro σ H3 ⟨n,zs,v4,v5,rfl,n0,n1,hzl,s3,h3⟩
   refine⟨_,rfl,q _ _ (s1.trans s3) (s1.free hl) ⟨zs,fun e=>by rw [e] at hzl;exact absurd hzl (by decide),by omega,h3⟩⟩
 refine⟨_,@pss_cons _ _ _ _ _ (ps_set (i:=1) scFeed.nd rfl (Or.inl rfl) (pe_slice sl_list (pv 0) (po_some pe_int) (po_some pe_int))) (@pss_cons _ _ _ _ _ (ps_if (PW.pt (pw_and (pt_cmpR op_eq (pe_op op_mod (pe_call GC hr1 rfl mC kC bC .nil pass0 (@pa_cons _ _ _ _ _ (pv 0) (@pa_cons _ _ _ _ _ pe_int pa_nil rfl) rfl)) pe_int) pe_int (nomark _)) (pw_and1 (pt_cmpR op_gt (pe_callB call_len_seq rfl ml PySem.boot_len (@pa_cons _ _ _ _ _ (pv 1) pa_nil rfl)) pe_int (nomark _))))) (@pss_one _ _ _ (@ps_ret _ _ _ _ (pe_callTy call_list_of rfl mli bootListT (@pa_cons _ _ _ _ _ (pv 1) pa_nil rfl)))) pss_nil) d2),?_⟩
 obtain⟨ms,hm,ec⟩:=cut_cells h63
 refine⟨_,rfl,_,rfl,_,rfl,a,_,rfl,hS,fun lc hlc=>?_⟩
 rw [ec]
 have s1:=same_new hlc (.lst (ms.map V.int))
 have h1:=new_at hlc (.lst (ms.map V.int))
 have K2:=k2 _ lc ms s1 h1 hm
 refine⟨_,rfl,a,ns,0,rfl,sql_same s1 hS,h63,by decide,by decide,_,_,rfl,rfl,(by show(0:Int) < 2;decide),rfl,_,rfl,ite2 (fun _=>?_) (fun _=>iteF (A:=True) K2)⟩
 refine⟨_,rfl,lc,_,rfl,.inl (SqL.of h1),_,_,rfl,rfl,_,rfl,ite2 (fun c=>?_) (fun _=>K2)⟩
 have c':(0:Int) < (((ms.map V.int).length:Nat):Int):=of_decide_eq_true c
 refine⟨_,rfl,lc,_,rfl,.inl (SqL.of h1),fun l hl=>?_⟩
 refine q _ l (s1.trans (same_new hl _)) (s1.free hl) ⟨ms,fun e=>?_,hm,upd_same⟩
 subst e
 simp at c'
end
end K52
namespace L2
open PySem
theorem comp_fr{m:Nat}{n:Nat}{κ:List Nat}{g:TG}{tc:TT}{te:TE}{σ:St}{H:Hp}{Q:VK}(hz:m≤1000)(R:Nat→List V→Hp→Prop)(h0:R 0 [] H)(hlen:∀i ys H2,R i ys H2→ys.length≤i)
  (hs:∀i ys H2 (N:List V→Hp→Prop),(∀ys' H',R (i+1) ys' H'→N ys' H')→i < m→R i ys H2→g (.int i) (blkSt n κ σ) H2 fun σ4 H4=>σ4.drop n=(blkSt n κ σ).drop n∧tc σ4 H4 fun b H5=>if b=true then te σ4 H5 fun v H6=>N (ys++[v]) H6 else N ys H5)
  (hQ:∀ys H2 D,R m ys H2→H2 D=none→Q (.ref D) (upd H2 D (.lst ys))):CompRun n κ g tc te σ (Itr 0 m) H Q:=by
 refine comp_by (J:=Itr 0 m) (xs:=rangeV 0 m) R h0 (by rw [rangeV_len];exact Nat.le_of_lt (small1000 hz)) hlen ?_ ?_ ?_ ?_ ?_
 ·rintro i u ys H3 hu _
  exact itr_go hu
 ·rintro i ys u H3 H' hn _ hy
  rw [rangeV_len] at hn
  exact itr_yld' hn hy
 ·rintro ys H3 _
  rw [rangeV_len]
  exact Nat.le_refl _
 ·rintro i u ys H3 N hN hu h
  obtain⟨hi,rfl⟩:=rangeV_get.mp hu
  rw [Int.zero_add]
  exact hs i ys H3 N hN hi h
 ·rintro ys H3 D h hD
  rw [rangeV_len] at h
  exact hQ ys H3 D h hD
theorem comp_fT{K:PySem.W.Frag}{p:Addr}{xs:List V}{n:Nat}{κ:List Nat}{g:TG}{tc:TT}{te:TE}{σ:St}{H:Hp}{Q:VK}(hx:xs.length≤1000)(R:Nat→List V→Hp→Prop)(h0:R 0 [] H)(hp:∀i ys H2,R i ys H2→SqT K H2 p xs)(hlen:∀i ys H2,R i ys H2→ys.length≤i)
  (hs:∀i u ys H2 (N:List V→Hp→Prop),(∀ys' H',R (i+1) ys' H'→N ys' H')→xs[i]?=some u→R i ys H2→g u (blkSt n κ σ) H2 fun σ4 H4=>σ4.drop n=(blkSt n κ σ).drop n∧tc σ4 H4 fun b H5=>if b=true then te σ4 H5 fun v H6=>N (ys++[v]) H6 else N ys H5)
  (hQ:∀ys H2 D,R xs.length ys H2→H2 D=none→Q (.ref D) (upd H2 D (.lst ys))):CompRun n κ g tc te σ (Itt K p) H Q:=by
 refine comp_by (J:=Itt K p) (xs:=xs) R h0 (Nat.le_of_lt (small1000 hx)) hlen ?_ ?_ ?_ ?_ ?_
 ·rintro i u ys H3 hu h
  exact⟨_,_,hp _ _ _ h,hu⟩
 ·rintro i ys u H3 H' hn h hy
  exact⟨hy.1,hy.2 _ (hp _ _ _ h)⟩
 ·rintro ys H3 h
  exact⟨_,hp _ _ _ h,Nat.le_refl _⟩
 ·rintro i u ys H3 N hN hu h
  exact hs i u ys H3 N hN hu h
 ·rintro ys H3 D h hD
  exact hQ ys H3 D h hD
end L2
namespace K52
open PySem L2 Kk
theorem wd_no(c:Int){i j:Int}(hi:0≤i∧i < 26)(hj:0≤j∧j < 26)(h:i≠j):¬wd c i=wd c j:=fun z=>h (wd_ne hi hj z)
theorem kin_var{mo:Int}{C:Orc}{ρ:Str→Option Kd}{s:Str}{k:Kd}(h:ρ s=some k):kin mo C ρ (.var s)=.ok k:=by rw [kin,h]
theorem kin_nov{mo:Int}{C:Orc}{ρ:Str→Option Kd}{s:Str}(h:ρ s=none):kin mo C ρ (.var s)=.no 0:=by rw [kin,h]
theorem kins_cons{mo:Int}{C:Orc}{ρ:Str→Option Kd}{e:Ex}{es:List Ex}{k:Kd}{ks:List Kd}(h:kin mo C ρ e=.ok k)(h2:kins mo C ρ es=.ok ks):kins mo C ρ (e::es)=.ok (k::ks):=by rw [kins,h,h2]
theorem kins_nil{mo:Int}{C:Orc}{ρ:Str→Option Kd}:kins mo C ρ []=.ok []:=by rw [kins]
theorem kin_nd{mo:Int}{C:Orc}{ρ:Str→Option Kd}{f:Fm}{es:List Ex}{ks:List Kd}(h:kins mo C ρ es=.ok ks):kin mo C ρ (.nd f es)=fmK mo f ks:=by rw [kin,h]
theorem kin_call{mo:Int}{C:Orc}{ρ:Str→Option Kd}{q t:Str}{es:List Ex}{ks:List Kd}(h:kins mo C ρ es=.ok ks):kin mo C ρ (.call q t es)=ansK (C q t) ks:=by rw [kin,h]
theorem wd9(c i:Int):(wd c i).length≤9000:=Nat.le_trans (wd_sm c i).2 (by decide)
theorem not_lit{f:Fm}{xs:List V}(h:∀v n,f≠.lit v n):(∃v n,f=.lit v n)→xs=[]:=fun⟨v,n,e⟩=>absurd e (h v n)
theorem at_s{s:Str}{r:Int}{n:Nat}(e:s.cps.toList.length=n)(h0:0≤r)(h1:r < n):∃g,atI s.cps.toList r=some g:=⟨_,get_at (d:=0) h0 (by rw [e];exact h1)⟩
def wl(c:Int):List V:=(List.range 26).map fun(k:Nat)=>V.str (wd c (k:Int))
theorem wl_at(c:Int){r:Int}(h0:0≤r)(h1:r < 26):atI (wl c) r=some (.str (wd c r)):=by
 have e:r=((r.toNat:Nat):Int):=by omega
 have q:atI (wl c) ((r.toNat:Nat):Int)=some (.str (wd c ((r.toNat:Nat):Int))):=atI_nat (by
  unfold wl
  rw [List.getElem?_map,List.getElem?_range (by omega)]
  rfl)
 rw [←e] at q
 exact q
theorem wd_nil(c i:Int):wd c i≠"":=fun e=>by
 have:=congrArg Str.length e
 unfold wd at this
 rw [len_app,len_app] at this
 have e1:(sg1 i).length=1:=rfl
 have e2:("":Str).length=0:=rfl
 omega
def Pin(p:Nat→Kd)(k:Kd):Prop:=∃i,i < 5∧k=p i
structure Pool(c:Int)(p:Nat→Kd):Prop where
 num:∃n:Int,p 0=.num n∧0 < n∧n≤10 ^ 18
 two:p 1=.num 2
 hid:p 2=.name (wd c 8) (wd c 7)
 pr:∃a b,p 3=.pair a b∧(∃i,i < 5∧i≠3∧a=p i)∧∃i,i < 5∧i≠3∧b=p i
 own:∃j:Int,0≤j∧j < 26∧p 4=.name "" (wd c j)
def putC(C:Orc)(q t:Str)(v:List Kd × Kd):Orc:=fun q' t'=>if q'=q∧t'=t then some v else C q' t'
def TabAt(K:PySem.W.Frag)(W:Hp)(kvs:List (List Key × V))(C:Orc):Prop:=∀q t,(C q t=none∧valV kvs [Sum.inr q,Sum.inr t]=none)∨∃us k u,C q t=some (us,k)∧valV kvs [Sum.inr q,Sum.inr t]=some u∧ToldAt K W u us k
theorem TabAt.same{K:PySem.W.Frag}{H H':Hp}(s:Same H H'){kvs:List (List Key × V)}{C:Orc}(h:TabAt K H kvs C):TabAt K H' kvs C:=fun q t=>by
 rcases h q t with z|⟨us,k,u,e1,e2,e3⟩
 ·exact .inl z
 ·exact .inr ⟨us,k,u,e1,e2,e3.same s⟩
theorem TabAt.put{K:PySem.W.Frag}{H:Hp}{kvs:List (List Key × V)}{C:Orc}(h:TabAt K H kvs C){q t:Str}{u:V}{us:List Kd}{k:Kd}(hu:ToldAt K H u us k):TabAt K H (putK kvs [Sum.inr q,Sum.inr t] u) (putC C q t (us,k)):=fun q' t'=>by
 unfold putC
 rw [valV_put]
 by_cases ez:q'=q∧t'=t
 ·obtain⟨rfl,rfl⟩:=ez
  rw [if_pos ⟨rfl,rfl⟩,if_pos rfl]
  exact .inr ⟨us,k,u,rfl,rfl,hu⟩
 ·rw [if_neg ez,if_neg (fun h=>ez (by
   have h1:=(List.cons.inj h)
   exact⟨Sum.inr.inj h1.1,Sum.inr.inj (List.cons.inj h1.2).1⟩))]
  exact h q' t'
structure TbI(c:Int)(p:Nat→Kd)(i:Nat)(C:Orc):Prop where
 own:∀k:Nat,k < i→∃ks,C "" (wd c (9+(k:Int)))=some (ks,p k)∧ks.length≤4∧∀x∈ks,Pin p x
 bare:∀k:Nat,k < i→C (wd c 8) (wd c (14+(k:Int)))=some ([],p k)
 one:∀k:Nat,k < i→C (wd c 8) (wd c (19+(k:Int)))=some ([p k],p ((k+3)%5))
 no:∀q t,C q t≠none→∃k:Nat,k < i∧((q=""∧t=wd c (9+(k:Int)))∨(q=wd c 8∧t=wd c (14+(k:Int)))∨(q=wd c 8∧t=wd c (19+(k:Int))))
theorem TbI.step{c:Int}{p:Nat→Kd}{i:Nat}{C:Orc}(h:TbI c p i C)(hi:i < 5){ks:List Kd}(h4:ks.length≤4)(hk:∀x∈ks,Pin p x) :
  TbI c p (i+1) (putC (putC (putC C "" (wd c (9+(i:Int))) (ks,p i)) (wd c 8) (wd c (14+(i:Int))) ([],p i)) (wd c 8) (wd c (19+(i:Int))) ([p i],p ((i+3)%5))):=by
 have n8:¬("":Str)=wd c 8:=fun e=>wd_nil c 8 e.symm
 refine⟨fun k hk'=>?_,fun k hk'=>?_,fun k hk'=>?_,fun q t hq=>?_⟩
 ·unfold putC
  rw [if_neg (fun z=>n8 z.1),if_neg (fun z=>n8 z.1)]
  by_cases e:k=i
  ·subst e
   rw [if_pos ⟨rfl,rfl⟩]
   exact⟨ks,rfl,h4,hk⟩
  ·rw [if_neg (fun z=>e (by have:=wd_ne (c:=c) (i:=9+(k:Int)) (j:=9+(i:Int)) (by omega) (by omega) z.2;omega))]
   exact h.own k (by omega)
 ·unfold putC
  rw [if_neg (fun z=>absurd z.2 (wd_no c (by omega) (by omega) (by omega)))]
  by_cases e:k=i
  ·subst e
   rw [if_pos ⟨rfl,rfl⟩]
  ·rw [if_neg (fun z=>absurd z.2 (wd_no c (by omega) (by omega) (by omega))),if_neg (fun z=>n8 z.1.symm)]
   exact h.bare k (by omega)
 ·unfold putC
  by_cases e:k=i
  ·subst e
   rw [if_pos ⟨rfl,rfl⟩]
  ·rw [if_neg (fun z=>absurd z.2 (wd_no c (by omega) (by omega) (by omega))),if_neg (fun z=>absurd z.2 (wd_no c (by omega) (by omega) (by omega))),if_neg (fun z=>n8 z.1.symm)]
   exact h.one k (by omega)
 ·unfold putC at hq
  by_cases e1:q=wd c 8∧t=wd c (19+(i:Int))
  ·exact⟨i,by omega,.inr (.inr e1)⟩
  ·rw [if_neg e1] at hq
   by_cases e2:q=wd c 8∧t=wd c (14+(i:Int))
   ·exact⟨i,by omega,.inr (.inl e2)⟩
   ·rw [if_neg e2] at hq
    by_cases e3:q=""∧t=wd c (9+(i:Int))
    ·exact⟨i,by omega,.inl e3⟩
    ·rw [if_neg e3] at hq
     obtain⟨k,hk,z⟩:=h.no q t hq
     exact⟨k,by omega,z⟩
def PlAt(K:PySem.W.Frag)(W:Hp)(lp:Addr)(p:Nat→Kd):Prop:=∃x:Nat→V,W lp=some (.lst [x 0,x 1,x 2,x 3,x 4])∧∀i,i < 5→KAt K W (x i) (p i)
theorem PlAt.same{K:PySem.W.Frag}{H H':Hp}(s:Same H H'){lp:Addr}{p:Nat→Kd}(h:PlAt K H lp p):PlAt K H' lp p:=by
 obtain⟨x,h1,h2⟩:=h
 exact⟨x,s _ _ h1,fun i hi=>(h2 i hi).same s⟩
theorem at5{x:Nat→V}{r:Int}(h0:0≤r)(h1:r < 5):atI [x 0,x 1,x 2,x 3,x 4] r=some (x r.toNat):=by
 have:r=0∨r=1∨r=2∨r=3∨r=4:=by omega
 rcases this with rfl|rfl|rfl|rfl|rfl<;>rfl
theorem at5m{x:Nat→V}{k:Nat}(h1:k < 5):atI [x 0,x 1,x 2,x 3,x 4] ((k:Int) - 2)=some (x ((k+3)%5)):=by
 have:k=0∨k=1∨k=2∨k=3∨k=4:=by omega
 rcases this with rfl|rfl|rfl|rfl|rfl<;>rfl
theorem at5n{x:Nat→V}{k:Nat}(h1:k < 5):atI [x 0,x 1,x 2,x 3,x 4] (k:Int)=some (x k):=by
 have:k=0∨k=1∨k=2∨k=3∨k=4:=by omega
 rcases this with rfl|rfl|rfl|rfl|rfl<;>rfl
theorem pair_app{α β:Type}{R:α→β→Prop}:∀{xs:List α} {ys:List β} {xs2:List α} {ys2:List β},Paired R xs ys→Paired R xs2 ys2→Paired R (xs++xs2) (ys++ys2)
 |_,_,_,_,.nil,h=>h
 |_,_,_,_,.cons a r,h=>.cons a (pair_app r h)
theorem fd_upd{H:Hp}{lf b:Addr}{o:HO}(h:FdAt H lf)(n:lf≠b):FdAt (upd H b o) lf:=by
 obtain⟨ns,h1,h2,h3⟩:=h
 exact⟨ns,h1,h2,by rw [upd_ne n];exact h3⟩
structure DeskAt(K:PySem.W.Frag)(W:Hp)(ad lf lm lw lp lt:Addr)(c:Int)(p:Nat→Kd)(C:Orc):Prop where
 tup:W ad=some (.tup [.ref lf,.ref lp,.ref lw,.ref lt,.ref lm])
 words:W lw=some (.lst (wl c))
 pool:PlAt K W lp p
 tab:∃kvs,W lt=some (.dT kvs)∧TabAt K W kvs C
 pl:Pool c p
 tb:TbI c p 5 C
theorem DeskAt.same{K:PySem.W.Frag}{H H':Hp}(s:Same H H'){ad lf lm lw lp lt:Addr}{c:Int}{p:Nat→Kd}{C:Orc}(h:DeskAt K H ad lf lm lw lp lt c p C):DeskAt K H' ad lf lm lw lp lt c p C :=
 ⟨s _ _ h.tup,s _ _ h.words,h.pool.same s,let ⟨kvs,a,b⟩:=h.tab;⟨kvs,s _ _ a,b.same s⟩,h.pl,h.tb⟩
theorem keep1{H H':Hp}{lf b:Addr}{o:HO}(s:Same (zo H [lf]) (zo H' [lf]))(hb:b≠lf)(h:H b=some o):H' b=some o:=by
 have n:b∉[lf]:=by simpa using hb
 have:=s b o (by rw [zo_ne n];exact h)
 rw [zo_ne n] at this
 exact this
theorem zo_nw{H:Hp}{S:List Addr}{p:Addr}{o:HO}(hp:H p=none)(hS:∀b∈S,H b≠none):zo (upd H p o) S p=some o:=by
 rw [zo_ne (fun z=>hS p z hp)]
 exact upd_same
theorem fd_some{H:Hp}{lf:Addr}(h:FdAt H lf):H lf≠none:=by
 obtain⟨_,_,_,e⟩:=h
 rw [e]
 nofun
def TSt(K:PySem.W.Frag)(W:Hp)(lf td:Addr)(H:Hp)(kvs:List (List Key × V))(C:Orc):Prop:=FdAt H lf∧Same W (zo H [lf,td])∧H td=some (.dT kvs)∧TabAt K (zo H [lf,td]) kvs C
theorem TSt.nw{K:PySem.W.Frag}{W H:Hp}{lf td p:Addr}{kvs:List (List Key × V)}{C:Orc}(h:TSt K W lf td H kvs C)(hp:H p=none)(o:HO):TSt K W lf td (upd H p o) kvs C∧Same (zo H [lf,td]) (zo (upd H p o) [lf,td])∧zo (upd H p o) [lf,td] p=some o:=by
 obtain⟨f,s,t,tb⟩:=h
 have n:=zo_mono (S:=[lf,td]) (same_new hp o)
 refine⟨⟨(fd_new f hp).1,s.trans n,same_new hp o _ _ t,tb.same n⟩,n,zo_nw hp fun b hb=>?_⟩
 rcases List.mem_cons.mp hb with rfl|hb
 ·exact fd_some f
 ·obtain rfl:b=td:=by simpa using hb
  rw [t]
  nofun
theorem TSt.put{K:PySem.W.Frag}{W H:Hp}{lf td:Addr}{kvs:List (List Key × V)}{C:Orc}(h:TSt K W lf td H kvs C)(hne:lf≠td){q t:Str}{u:V}{us:List Kd}{k:Kd}(hu:ToldAt K (zo H [lf,td]) u us k):TSt K W lf td (upd H td (.dT (putK kvs [Sum.inr q,Sum.inr t] u))) (putK kvs [Sum.inr q,Sum.inr t] u) (putC C q t (us,k))∧Same (zo H [lf,td]) (zo (upd H td (.dT (putK kvs [Sum.inr q,Sum.inr t] u))) [lf,td]):=by
 obtain⟨f,s,td7,tb⟩:=h
 have e:zo (upd H td (.dT (putK kvs [Sum.inr q,Sum.inr t] u))) [lf,td]=zo H [lf,td]:=zo_upd (by simp)
 exact⟨⟨fd_upd f hne,by rw [e];exact s,upd_same,by rw [e];exact tb.put hu⟩,by rw [e];exact Same.refl _⟩
theorem fd_nw{H:Hp}{lf p:Addr}(h:FdAt H lf)(hp:H p=none)(o:HO):FdAt (upd H p o) lf∧Same (zo H [lf]) (zo (upd H p o) [lf])∧zo (upd H p o) [lf] p=some o :=
 ⟨(fd_new h hp).1,zo_mono (same_new hp o),zo_nw hp fun b hb=>by
  obtain rfl:b=lf:=by simpa using hb
  exact fd_some h⟩
theorem zo_add{H H':Hp}{a d:Addr}(s:Same H H')(hd:H d=none):Same (zo H [a]) (zo H' [a,d]):=fun b u q=>by
 by_cases e:b∈[a]
 ·rw [zo_at e] at q;cases q
 ·rw [zo_ne e] at q
  rw [zo_ne]
  ·exact s _ _ q
  ·intro z
   rcases List.mem_cons.mp z with z|z
   ·exact e (by simpa using z)
   ·obtain rfl:b=d:=by simpa using z
    rw [hd] at q;cases q
theorem zo_swap{H H':Hp}{a d e:Addr}(s:Same H H')(he:H e=none):Same (zo H [a,d]) (zo H' [a,e]):=fun b u q=>by
 by_cases z:b∈[a,d]
 ·rw [zo_at z] at q;cases q
 ·rw [zo_ne z] at q
  rw [zo_ne]
  ·exact s _ _ q
  ·intro y
   rcases List.mem_cons.mp y with y|y
   ·exact z (by rw [y];exact .head _)
   ·obtain rfl:b=e:=by simpa using y
    rw [he] at q;cases q
def smk(c n j:Int):Nat→Kd
 |0=>.num n
 |1=>.num 2
 |2=>.name (wd c 8) (wd c 7)
 |_=>.name "" (wd c j)
def pOf(c n j:Int)(a b:Nat):Nat→Kd
 |0=>.num n
 |1=>.num 2
 |2=>.name (wd c 8) (wd c 7)
 |3=>.pair (smk c n j a) (smk c n j b)
 |_=>.name "" (wd c j)
theorem pool_of{c n j:Int}{a b:Nat}(h0:0 < n)(h1:n≤10 ^ 18)(j0:0≤j)(j1:j < 26):Pool c (pOf c n j a b):=by
 have key:∀a,∃i,i < 5∧i≠3∧smk c n j a=pOf c n j a b i:=fun a=>by
  match a with
  |0=>exact⟨0,by decide,by decide,rfl⟩
  |1=>exact⟨1,by decide,by decide,rfl⟩
  |2=>exact⟨2,by decide,by decide,rfl⟩
  |_+3=>exact⟨4,by decide,by decide,rfl⟩
 have key2:∀d,∃i,i < 5∧i≠3∧smk c n j d=pOf c n j a b i:=fun d=>by
  match d with
  |0=>exact⟨0,by decide,by decide,rfl⟩
  |1=>exact⟨1,by decide,by decide,rfl⟩
  |2=>exact⟨2,by decide,by decide,rfl⟩
  |_+3=>exact⟨4,by decide,by decide,rfl⟩
 exact⟨⟨n,rfl,h0,h1⟩,rfl,rfl,⟨_,_,rfl,key2 a,key2 b⟩,⟨j,j0,j1,rfl⟩⟩
theorem name_at{K:PySem.W.Frag}{H:Hp}{p:Addr}{q t:Str} (h:H p=some (.tup [.str "name",.str q,.str t])) (hq:smW q) (ht:smW t):KAt K H (.ref p) (.name q t):=⟨.name (SqT.of h),⟨hq,ht⟩,by show 1≤120;decide⟩
theorem pair_at{K:PySem.W.Frag}{H:Hp}{p:Addr}{x y:V}{a b:Kd} (h:H p=some (.tup [.str "pair",x,y])) (ha:KAt K H x a) (hb:KAt K H y b) (hd:(Kd.pair a b).words≤120):KAt K H (.ref p) (.pair a b):=⟨.pair (SqT.of h) ha.1 hb.1,⟨ha.2.1,hb.2.1⟩,hd⟩
theorem s_words{c n j:Int}(a:Nat):(smk c n j a).words=1:=by
 match a with
 |0=>rfl
 |1=>rfl
 |2=>rfl
 |_+3=>rfl
theorem at4{x:Nat→V}{r:Int}(h0:0≤r)(h1:r < 4):atI [x 0,x 1,x 2,x 3] r=some (x r.toNat):=by
 have:r=0∨r=1∨r=2∨r=3:=by omega
 rcases this with rfl|rfl|rfl|rfl<;>rfl
def spDesk(K:PySem.W.Frag):Sp:=fun vs H Q _=>∃(a lf:Addr) (ns:List Int),vs=[.ref a,.ref lf]∧SqL K (zo H [lf]) a (ns.map V.int)∧ns.length≤63∧FdAt H lf ∧
 ∀H' ad lm lw lp lt c p C,FdAt H' lf→Same (zo H [lf]) (zo H' [lf,lm])→H' lm=some (.lst [.int 30])→lf≠lm→DeskAt K (zo H' [lf,lm]) ad lf lm lw lp lt c p C→Q (.ref ad) H'
section
variable{P:Program}{w:World}{K:PySem.W.Frag}{mg:Str→Option Value}{base:Heap}
theorem scDesk:FnScope ["_law_script","_law_feed_here","_law_words","_law_hid","_law_own","_law_some","_law_pair","_law_pool","_law_table","_law_k","_law_kinds"] ["_law_script","_law_feed_here"] (defScope sDesk):=⟨rfl,rfl,rfl,by decide +kernel,rfl,by decide +kernel,by decide +kernel⟩
set_option maxHeartbeats 0 in
theorem ok_desk{f fC fW fT fZ:Addr}{fd fdC fdW fdT fdZ:FuncData} (F:Fun K "_law_desk" "_law_desk" sDesk f fd) (mr:mg "range"=none) (mt:mg "tuple"=none)
  (GC:FnOk P w K mg base CX0 1 fC fdC ["_law_script","_law_k"] (spCell K)) (bC:Binds K fdC ["_law_script","_law_k"] []) (kC:PySem.W.keepIn K (.ref fC)=true) (mC:mg "_law_cell"=some (.ref fC))
  (GW:FnOk P w K mg base CX0 1 fW fdW ["_law_cell_here","_law_mark"] spWord) (bW:Binds K fdW ["_law_cell_here","_law_mark"] []) (kW:PySem.W.keepIn K (.ref fW)=true) (mW:mg "_law_word"=some (.ref fW))
  (GT:FnOk P w K mg base CX0 1 fT fdT ["_law_feed_here","_law_many"] spTake) (bT:Binds K fdT ["_law_feed_here","_law_many"] []) (kT:PySem.W.keepIn K (.ref fT)=true) (mT:mg "_law_take"=some (.ref fT))
  (GZ:FnOk P w K mg base CX0 2 fZ fdZ ["_law_feed_here"] spSize) (bZ:Binds K fdZ ["_law_feed_here"] []) (kZ:PySem.W.keepIn K (.ref fZ)=true) (mZ:mg "_law_size"=some (.ref fZ)):FnOk P w K mg base CX0 3 f fd ["_law_script","_law_feed_here"] (spDesk K):=by
 refine F.ok (k:=2) scDesk (fun vs H Q E h=>?_) (fun cdv A outer s H vs Q E hrZ h=>?_)
 ·obtain⟨_,_,_,rfl,_⟩:=h
  rfl
 obtain⟨a,lf,ns,rfl,hS,h63,hf,q⟩:=h
 have hr1:Room 1 _:=hrZ.mono (by decide)
 have hrT:Room 1 _:=hr1
 have hu:=hu_of hrZ
 obtain⟨tL,dL,kL⟩:∃t,PSs (cxOf CX0 P w K mg base ["_law_script","_law_feed_here","_law_words","_law_hid","_law_own","_law_some","_law_pair","_law_pool","_law_table","_law_k","_law_kinds"] "_law_desk" (defScope sDesk) f cdv A outer s H E).nox (forB ((defBody sDesk).getD 7 dS)) t ∧
   ∀(D:Ends) (H3:Hp) (lw lp td:Addr) (c:Int) (p:Nat→Kd) (kvs:List (List Key × V)) (C:Orc) (i:Nat) (v3 v4 v5 v6 v10:Option V),i < 5→FdAt H3 lf→lf≠td→zo H3 [lf,td] lw=some (.lst (wl c))→PlAt K (zo H3 [lf,td]) lp p→H3 td=some (.dT kvs)→kvs.length≤3*i→TabAt K (zo H3 [lf,td]) kvs C→TbI c p i C →
    (∀H4 kvs' C' v10',FdAt H4 lf→Same (zo H3 [lf,td]) (zo H4 [lf,td])→H4 td=some (.dT kvs')→kvs'.length≤3*(i+1)→TabAt K (zo H4 [lf,td]) kvs' C'→TbI c p (i+1) C'→D.nx [some (.ref a),some (.ref lf),some (.ref lw),v3,v4,v5,v6,some (.ref lp),some (.ref td),some (.int (i:Int)),v10'] H4) →
    t D [some (.ref a),some (.ref lf),some (.ref lw),v3,v4,v5,v6,some (.ref lp),some (.ref td),some (.int (i:Int)),v10] H3:=by
  refine⟨_,@pss_cons _ _ _ _ _ (ps_comp (i0:=10) scDesk.nd rfl (Or.inl rfl) (own:=["_law_j"]) (caps:=["_law_pool","_law_feed_here"]) (κ:=[7,1]) rfl ⟨rfl,by decide +kernel,by decide +kernel,rfl,rfl,(fun y hy=>by simp only [List.mem_cons,List.not_mem_nil,or_false] at hy;rcases hy with rfl|rfl<;>rfl),(fun y hy=>by simp only [List.mem_cons,List.not_mem_nil,or_false] at hy;rcases hy with rfl|rfl<;>exact⟨.inl rfl,rfl,.inl rfl⟩)⟩ rfl (pi_range1 rfl mr (@pa_cons _ _ _ _ _ (pe_call GT hrT rfl mT kT bT .nil pass0 (@pa_cons _ _ _ _ _ (pv 1) (@pa_cons _ _ _ _ _ pe_int pa_nil rfl) rfl)) pa_nil rfl)) (fun _ _ _ _=>(pg_name (i:=0) (show(["_law_j","_law_pool","_law_feed_here"]:List Str).Nodup from by decide +kernel) rfl (Or.inl rfl))) (fun _ _ _ _=>(pe_ix (r:=rIxL K) ix_list (pv 1) (pe_call GT hrT rfl mT kT bT .nil pass0 (@pa_cons _ _ _ _ _ (pv 2) (@pa_cons _ _ _ _ _ pe_int pa_nil rfl) rfl)) (fun _ _=>rfl)))) (@pss_cons _ _ _ _ _ (ps_dput hu (pv 8) (@pe_tup _ _ _ _ _ (@pa_cons _ _ _ _ _ pe_str (@pa_cons _ _ _ _ _ (pe_ix ix_list (pv 2) (pe_op op_add pe_int (pv 9)) (fun _ _=>rfl)) pa_nil rfl) rfl)) (@pe_tup _ _ _ _ _ (@pa_cons _ _ _ _ _ (pe_callTy call_tuple_of rfl mt bootTuple (@pa_cons _ _ _ _ _ (pv 10) pa_nil rfl)) (@pa_cons _ _ _ _ _ (pe_ix ix_list (pv 7) (pv 9) (fun _ _=>rfl)) pa_nil rfl) rfl)) rfl) (@pss_cons _ _ _ _ _ (ps_dput hu (pv 8) (@pe_tup _ _ _ _ _ (@pa_cons _ _ _ _ _ (pe_ix ix_list (pv 2) pe_int (fun _ _=>rfl)) (@pa_cons _ _ _ _ _ (pe_ix ix_list (pv 2) (pe_op op_add pe_int (pv 9)) (fun _ _=>rfl)) pa_nil rfl) rfl)) (@pe_tup _ _ _ _ _ (@pa_cons _ _ _ _ _ (@pe_tup _ _ _ _ _ pa_nil) (@pa_cons _ _ _ _ _ (pe_ix ix_list (pv 7) (pv 9) (fun _ _=>rfl)) pa_nil rfl) rfl)) rfl) (@pss_one _ _ _ (ps_dput hu (pv 8) (@pe_tup _ _ _ _ _ (@pa_cons _ _ _ _ _ (pe_ix ix_list (pv 2) pe_int (fun _ _=>rfl)) (@pa_cons _ _ _ _ _ (pe_ix ix_list (pv 2) (pe_op op_add pe_int (pv 9)) (fun _ _=>rfl)) pa_nil rfl) rfl)) (@pe_tup _ _ _ _ _ (@pa_cons _ _ _ _ _ (@pe_tup _ _ _ _ _ (@pa_cons _ _ _ _ _ (pe_ix ix_list (pv 7) (pv 9) (fun _ _=>rfl)) pa_nil rfl)) (@pa_cons _ _ _ _ _ (pe_ix ix_list (pv 7) (pe_op op_sub (pv 9) pe_int) (fun _ _=>rfl)) pa_nil rfl) rfl)) rfl)))),?_⟩
  intro D H3 lw lp td c p kvs C i v3 v4 v5 v6 v10 hi hf3 hne hw hpl htd hkl htab htb hD
  obtain⟨x,hlp,hx⟩:=hpl
  have nS:∀{H:Hp} {kv:List (List Key × V)},FdAt H lf→H td=some (.dT kv)→∀b∈[lf,td],H b≠none:=fun {H kv} f t b hb=>by
   rcases List.mem_cons.mp hb with rfl|hb
   ·exact fd_some f
   ·obtain rfl:b=td:=by simpa using hb
    rw [t]
    nofun
  have sub1:∀b∈[lf],b∈[lf,td]:=fun b hb=>by
   obtain rfl:b=lf:=by simpa using hb
   exact .head _
  refine⟨_,rfl,lf,5,rfl,hf3,by decide,by decide,fun H4 r f4 s4 r0 r5=>?_⟩
  refine⟨_,rfl,by omega,by omega,comp_fr (m:=r.toNat) (by omega) (fun j ys H5=>FdAt H5 lf∧Same (zo H3 [lf,td]) (zo H5 [lf,td])∧H5 td=some (.dT kvs)∧ys.length=j∧∃ks,KsAt K (zo H3 [lf,td]) ys ks∧∀k∈ks,Pin p k) ⟨f4,zo_sub sub1 s4,keep1 s4 (Ne.symm hne) htd,rfl,[],.nil,fun _ h=>nomatch h⟩ (fun _ _ _ h=>Nat.le_of_eq h.2.2.2.1) ?_ ?_⟩
  ·rintro j ys H5 N hN hj ⟨f5,s5,t5,hyl,ks,hks,hkp⟩
   refine⟨rfl,tYes_go ⟨_,rfl,_,rfl,lf,5,rfl,f5,by decide,by decide,fun H6 r' f6 s6 a0 a5=>?_⟩⟩
   have s36:=s5.trans (zo_sub sub1 s6)
   refine⟨lp,_,_,_,rfl,rfl,SqL.of (zo_same _ _ (s36 _ _ hlp)),at5 a0 a5,hN _ _ ⟨f6,s36,keep1 s6 (Ne.symm hne) t5,by rw [List.length_append,hyl];rfl,ks++[p r'.toNat],pair_app hks (.cons (hx _ (by omega)) .nil),fun k hk=>?_⟩⟩
   rcases List.mem_append.mp hk with z|z
   ·exact hkp k z
   ·exact⟨r'.toNat,by omega,by simpa using z⟩
  rintro ys H5 D5 ⟨f5,s5,t5,hyl,ks,hks,hkp⟩ hD5
  have hkl2:ks.length≤4:=by
   have:=hks.length
   omega
  have z5:TSt K (zo H3 [lf,td]) lf td H5 kvs C:=⟨f5,s5,t5,htab.same s5⟩
  obtain⟨z6,n6,g6⟩:=z5.nw hD5 (.lst ys)
  refine⟨_,rfl,D5,ys,rfl,.inl ⟨SqL.of upd_same,fun t1 ht1=>?_⟩⟩
  obtain⟨z7,n7,g7⟩:=z6.nw ht1 (.tup ys)
  refine⟨_,rfl,_,rfl,lp,_,_,_,rfl,rfl,SqL.of (zo_same _ _ (z7.2.1 _ _ hlp)),at5n hi,(by show 2≤sizeLine;decide),fun t2 ht2=>?_⟩
  obtain⟨z8,n8,g8⟩:=z7.nw ht2 (.tup [.ref t1,x i])
  have told8:ToldAt K _ (.ref t2) ks (p i):=⟨t2,t1,ys,x i,rfl,g8,n8 _ _ g7,hks.same z8.2.1,(hx i hi).same z8.2.1,by omega⟩
  refine⟨_,rfl,_,rfl,_,rfl,_,_,rfl,rfl,lw,_,_,_,rfl,rfl,SqL.of (zo_same _ _ (z8.2.1 _ _ hw)),wl_at c (by omega) (by omega),(by show 2≤sizeLine;decide),fun q1 hq1=>?_⟩
  obtain⟨z9,n9,g9⟩:=z8.nw hq1 (.tup [.str "",.str (wd c (9+(i:Int)))])
  refine⟨td,_,rfl,DPut.t (k:=[Sum.inr "",Sum.inr (wd c (9+(i:Int)))]) z9.2.2.1 upd_same (small1000 (by omega)),?_⟩
  obtain⟨za,na⟩:=TSt.put (q:="") (t:=wd c (9+(i:Int))) z9 hne (told8.same n9)
  have la:=length_putK kvs [Sum.inr "",Sum.inr (wd c (9+(i:Int)))] (.ref t2)
  generalize putK kvs [Sum.inr "",Sum.inr (wd c (9+(i:Int)))] (.ref t2)=kva at za na la ⊢
  refine⟨(by show 0≤sizeLine;decide),fun e1 he1=>?_⟩
  obtain⟨zb,nb,gb⟩:=za.nw he1 (.tup [])
  refine⟨_,rfl,_,rfl,lp,_,_,_,rfl,rfl,SqL.of (zo_same _ _ (zb.2.1 _ _ hlp)),at5n hi,(by show 2≤sizeLine;decide),fun t3 ht3=>?_⟩
  obtain⟨zc,nc,gc⟩:=zb.nw ht3 (.tup [.ref e1,x i])
  have toldc:ToldAt K _ (.ref t3) [] (p i):=⟨t3,e1,[],x i,rfl,gc,nc _ _ gb,.nil,(hx i hi).same zc.2.1,by decide⟩
  refine⟨_,rfl,_,rfl,lw,_,_,_,rfl,rfl,SqL.of (zo_same _ _ (zc.2.1 _ _ hw)),wl_at c (r:=8) (by decide) (by decide),_,rfl,_,rfl,_,_,rfl,rfl,lw,_,_,_,rfl,rfl,SqL.of (zo_same _ _ (zc.2.1 _ _ hw)),wl_at c (by omega) (by omega),(by show 2≤sizeLine;decide),fun q2 hq2=>?_⟩
  obtain⟨zd,nd,gd⟩:=zc.nw hq2 (.tup [.str (wd c 8),.str (wd c (14+(i:Int)))])
  refine⟨td,_,rfl,DPut.t (k:=[Sum.inr (wd c 8),Sum.inr (wd c (14+(i:Int)))]) zd.2.2.1 upd_same (small1000 (by omega)),?_⟩
  obtain⟨ze,ne⟩:=TSt.put (q:=wd c 8) (t:=wd c (14+(i:Int))) zd hne (toldc.same nd)
  have le:=length_putK kva [Sum.inr (wd c 8),Sum.inr (wd c (14+(i:Int)))] (.ref t3)
  generalize putK kva [Sum.inr (wd c 8),Sum.inr (wd c (14+(i:Int)))] (.ref t3)=kve at ze ne le ⊢
  refine⟨_,rfl,_,rfl,lp,_,_,_,rfl,rfl,SqL.of (zo_same _ _ (ze.2.1 _ _ hlp)),at5n hi,(by show 1≤sizeLine;decide),fun e2 he2=>?_⟩
  obtain⟨zg,ng,gg⟩:=ze.nw he2 (.tup [x i])
  refine⟨_,rfl,_,rfl,_,_,rfl,rfl,lp,_,_,_,rfl,rfl,SqL.of (zo_same _ _ (zg.2.1 _ _ hlp)),at5m hi,(by show 2≤sizeLine;decide),fun t4 ht4=>?_⟩
  obtain⟨zh,nh,gh⟩:=zg.nw ht4 (.tup [.ref e2,x ((i+3)%5)])
  have toldh:ToldAt K _ (.ref t4) [p i] (p ((i+3)%5)):=⟨t4,e2,[x i],_,rfl,gh,nh _ _ gg,.cons ((hx i hi).same zh.2.1) .nil,(hx _ (by omega)).same zh.2.1,by show 1≤100;decide⟩
  refine⟨_,rfl,_,rfl,lw,_,_,_,rfl,rfl,SqL.of (zo_same _ _ (zh.2.1 _ _ hw)),wl_at c (r:=8) (by decide) (by decide),_,rfl,_,rfl,_,_,rfl,rfl,lw,_,_,_,rfl,rfl,SqL.of (zo_same _ _ (zh.2.1 _ _ hw)),wl_at c (by omega) (by omega),(by show 2≤sizeLine;decide),fun q3 hq3=>?_⟩
  obtain⟨zi,ni,gi⟩:=zh.nw hq3 (.tup [.str (wd c 8),.str (wd c (19+(i:Int)))])
  refine⟨td,_,rfl,DPut.t (k:=[Sum.inr (wd c 8),Sum.inr (wd c (19+(i:Int)))]) zi.2.2.1 upd_same (small1000 (by omega)),?_⟩
  obtain⟨zj,nj⟩:=TSt.put (q:=wd c 8) (t:=wd c (19+(i:Int))) zi hne (toldh.same ni)
  have lj:=length_putK kve [Sum.inr (wd c 8),Sum.inr (wd c (19+(i:Int)))] (.ref t4)
  exact hD _ _ _ _ zj.1 zj.2.1 zj.2.2.1 (by omega) zj.2.2.2 (htb.step hi hkl2 hkp)
 refine⟨_,@pss_cons _ _ _ _ _ (ps_comp (i0:=2) scDesk.nd rfl (Or.inl rfl) (own:=["_law_mark"]) (caps:=["_law_script"]) (κ:=[0]) rfl ⟨rfl,by decide +kernel,by decide +kernel,rfl,rfl,(fun y hy=>by simp only [List.mem_cons,List.not_mem_nil,or_false] at hy;rcases hy with rfl<;>rfl),(fun y hy=>by simp only [List.mem_cons,List.not_mem_nil,or_false] at hy;rcases hy with rfl<;>exact⟨.inl rfl,rfl,.inl rfl⟩)⟩ rfl (pi_range1 rfl mr (@pa_cons _ _ _ _ _ pe_int pa_nil rfl)) (fun _ _ _ _=>(pg_name (i:=0) (show(["_law_mark","_law_script"]:List Str).Nodup from by decide +kernel) rfl (Or.inl rfl))) (fun _ _ _ _=>(pe_call GW hr1 rfl mW kW bW .nil pass0 (@pa_cons _ _ _ _ _ (pe_op op_fdiv (pe_call GC hr1 rfl mC kC bC .nil pass0 (@pa_cons _ _ _ _ _ (pv 1) (@pa_cons _ _ _ _ _ pe_int pa_nil rfl) rfl)) pe_int) (@pa_cons _ _ _ _ _ (pv 0) pa_nil rfl) rfl)))) (@pss_cons _ _ _ _ _ (ps_set (i:=3) scDesk.nd rfl (Or.inl rfl) (@pe_tup _ _ _ _ _ (@pa_cons _ _ _ _ _ pe_str (@pa_cons _ _ _ _ _ (pe_ix ix_list (pv 2) pe_int (fun _ _=>rfl)) (@pa_cons _ _ _ _ _ (pe_ix ix_list (pv 2) pe_int (fun _ _=>rfl)) pa_nil rfl) rfl) rfl))) (@pss_cons _ _ _ _ _ (ps_set (i:=4) scDesk.nd rfl (Or.inl rfl) (@pe_tup _ _ _ _ _ (@pa_cons _ _ _ _ _ pe_str (@pa_cons _ _ _ _ _ pe_str (@pa_cons _ _ _ _ _ (pe_ix ix_list (pv 2) (pe_ix ix_list (pe_lst (@pa_cons _ _ _ _ _ pe_int (@pa_cons _ _ _ _ _ (pe_call GT hrT rfl mT kT bT .nil pass0 (@pa_cons _ _ _ _ _ (pv 1) (@pa_cons _ _ _ _ _ pe_int pa_nil rfl) rfl)) pa_nil rfl) rfl)) (pe_call GT hrT rfl mT kT bT .nil pass0 (@pa_cons _ _ _ _ _ (pv 1) (@pa_cons _ _ _ _ _ pe_int pa_nil rfl) rfl)) (fun _ _=>rfl)) (fun _ _=>rfl)) pa_nil rfl) rfl) rfl))) (@pss_cons _ _ _ _ _ (ps_set (i:=5) scDesk.nd rfl (Or.inl rfl) (pe_lst (@pa_cons _ _ _ _ _ (@pe_tup _ _ _ _ _ (@pa_cons _ _ _ _ _ pe_str (@pa_cons _ _ _ _ _ (pe_call GZ hrZ rfl mZ kZ bZ .nil pass0 (@pa_cons _ _ _ _ _ (pv 1) pa_nil rfl)) pa_nil rfl) rfl)) (@pa_cons _ _ _ _ _ (@pe_tup _ _ _ _ _ (@pa_cons _ _ _ _ _ pe_str (@pa_cons _ _ _ _ _ pe_int pa_nil rfl) rfl)) (@pa_cons _ _ _ _ _ (pv 3) (@pa_cons _ _ _ _ _ (pv 4) pa_nil rfl) rfl) rfl) rfl))) (@pss_cons _ _ _ _ _ (ps_set (i:=6) scDesk.nd rfl (Or.inl rfl) (@pe_tup _ _ _ _ _ (@pa_cons _ _ _ _ _ pe_str (@pa_cons _ _ _ _ _ (pe_ix ix_list (pv 5) (pe_call GT hrT rfl mT kT bT .nil pass0 (@pa_cons _ _ _ _ _ (pv 1) (@pa_cons _ _ _ _ _ pe_int pa_nil rfl) rfl)) (fun _ _=>rfl)) (@pa_cons _ _ _ _ _ (pe_ix ix_list (pv 5) (pe_call GT hrT rfl mT kT bT .nil pass0 (@pa_cons _ _ _ _ _ (pv 1) (@pa_cons _ _ _ _ _ pe_int pa_nil rfl) rfl)) (fun _ _=>rfl)) pa_nil rfl) rfl) rfl))) (@pss_cons _ _ _ _ _ (ps_set (i:=7) scDesk.nd rfl (Or.inr rfl) (pe_op op_cat (pe_slice sl_list (pv 5) po_none (po_some pe_int)) (pe_lst (@pa_cons _ _ _ _ _ (pv 6) (@pa_cons _ _ _ _ _ (pv 4) pa_nil rfl) rfl)))) (@pss_cons _ _ _ _ _ (ps_set (i:=8) scDesk.nd rfl (Or.inl rfl) pe_dnewT) (@pss_cons _ _ _ _ _ (ps_for PassesOwn.never rfl (pi_range1 rfl mr (@pa_cons _ _ _ _ _ pe_int pa_nil rfl)) (pg_name (i:=9) scDesk.nd rfl (Or.inl rfl)) dL) (@pss_one _ _ _ (@ps_ret _ _ _ _ (@pe_tup _ _ _ _ _ (@pa_cons _ _ _ _ _ (pv 1) (@pa_cons _ _ _ _ _ (pv 7) (@pa_cons _ _ _ _ _ (pv 2) (@pa_cons _ _ _ _ _ (pv 8) (@pa_cons _ _ _ _ _ (pe_lst (@pa_cons _ _ _ _ _ pe_int pa_nil rfl)) pa_nil rfl) rfl) rfl) rfl) rfl))))))))))),?_⟩
 have hS0:=sql_same zo_same hS
 refine⟨_,rfl,by omega,by omega,comp_fr (m:=26) (by omega) (fun j ys H2=>Same H H2∧ys=(List.range j).map fun(k:Nat)=>V.str (wd (cellOf ns 0 / 2) (k:Int))) ⟨Same.refl _,rfl⟩ (fun i ys _ h=>by rw [h.2,List.length_map,List.length_range];exact Nat.le_refl _) ?_ ?_⟩
 ·rintro i ys H2 N hN hi ⟨s2,rfl⟩
  refine⟨rfl,tYes_go ⟨_,rfl,a,ns,0,rfl,sql_same s2 hS0,h63,by decide,by decide,_,_,rfl,rfl,⟨by decide,by decide⟩,_,rfl,_,i,rfl,fun H3 s3=>hN _ _ ⟨s2.trans s3,?_⟩⟩⟩
  rw [List.range_succ,List.map_append]
  rfl
 rintro ys H2 lw ⟨s2,rfl⟩ hlw
 have fd2:FdAt H2 lf:=by
  obtain⟨ms,h1,h2,h3⟩:=hf
  exact⟨ms,h1,h2,s2 _ _ h3⟩
 generalize ec:cellOf ns 0 / 2=c
 obtain⟨f3,n3,g3⟩:=fd_nw fd2 hlw (.lst (wl c))
 have s3:Same (zo H [lf]) _:=(zo_mono s2).trans n3
 show _
 refine(fun z=>z) ?_
 have hw3:=g3
 refine⟨_,rfl,lw,_,_,_,rfl,rfl,SqL.of (zo_same _ _ hw3),wl_at c (r:=8) (by decide) (by decide),_,rfl,lw,_,_,_,rfl,rfl,SqL.of (zo_same _ _ hw3),wl_at c (r:=7) (by decide) (by decide),(by show 3≤sizeLine;decide),fun ph hph=>?_⟩
 obtain⟨f4,n4,g4⟩:=fd_nw f3 hph (.tup [.str "name",.str (wd c 8),.str (wd c 7)])
 have w4:=n4 _ _ g3
 refine⟨_,rfl,_,rfl,lf,26,rfl,f4,by decide,by decide,fun H5 r5 f5 s5 a5 b5=>⟨(by show 2≤sizeLine;decide),fun pz hpz=>?_⟩⟩
 obtain⟨f6,n6,g6⟩:=fd_nw f5 hpz (.lst [.int 7,.int r5])
 refine⟨_,rfl,lf,2,rfl,f6,by decide,by decide,fun H7 r7 f7 s7 a7 b7=>?_⟩
 obtain⟨j,ej,j0,j1⟩:∃j:Int,atI [V.int 7,.int r5] r7=some (.int j)∧0≤j∧j < 26:=by
  have:r7=0∨r7=1:=by omega
  rcases this with rfl|rfl
  ·exact⟨7,rfl,by decide,by decide⟩
  ·exact⟨r5,rfl,a5,b5⟩
 have m47:=s5.trans (n6.trans s7)
 refine⟨pz,_,_,_,rfl,rfl,SqL.of (zo_same _ _ (s7 _ _ g6)),ej,lw,_,_,_,rfl,rfl,SqL.of (zo_same _ _ (m47 _ _ w4)),wl_at c j0 j1,(by show 3≤sizeLine;decide),fun po hpo=>?_⟩
 obtain⟨f8,n8,g8⟩:=fd_nw f7 hpo (.tup [.str "name",.str "",.str (wd c j)])
 refine⟨_,rfl,lf,rfl,f8,fun H9 n f9 s9 n0 n1=>⟨(by show 2≤sizeLine;decide),fun q1 hq1=>?_⟩⟩
 obtain⟨fa,na,ga⟩:=fd_nw f9 hq1 (.tup [.str "num",.int n])
 refine⟨(by show 2≤sizeLine;decide),fun q2 hq2=>?_⟩
 obtain⟨fb,nb,gb⟩:=fd_nw fa hq2 (.tup [.str "num",.int 2])
 refine⟨_,rfl,_,rfl,(by show 4≤sizeLine;decide),fun ls hls=>?_⟩
 obtain⟨fc,nc,gc⟩:=fd_nw fb hls (.lst [.ref q1,.ref q2,.ref ph,.ref po])
 let y:Nat→V:=fun|0=>.ref q1|1=>.ref q2|2=>.ref ph|_=>.ref po
 refine⟨_,rfl,_,rfl,lf,4,rfl,fc,by decide,by decide,fun Hd ra fd' sd ra0 ra4=>?_⟩
 refine⟨ls,_,_,_,rfl,rfl,SqL.of (zo_same _ _ (sd _ _ gc)),at4 (x:=y) ra0 ra4,?_⟩
 refine⟨_,rfl,_,rfl,lf,4,rfl,fd',by decide,by decide,fun He rb fe se rb0 rb4=>?_⟩
 refine⟨ls,_,_,_,rfl,rfl,SqL.of (zo_same _ _ (se _ _ (sd _ _ gc))),at4 (x:=y) rb0 rb4,(by show 3≤sizeLine;decide),fun pp hpp=>?_⟩
 obtain⟨ff,nf,gf⟩:=fd_nw fe hpp (.tup [.str "pair",y ra.toNat,y rb.toNat])
 have mcf:=sd.trans (se.trans nf)
 have mbf:=nc.trans mcf
 have maf:=nb.trans mbf
 have m9f:=na.trans maf
 have m8f:=s9.trans m9f
 have m7f:=n8.trans m8f
 have m4f:=m47.trans m7f
 have ky:∀i,KAt K (zo (upd He pp (.tup [.str "pair",y ra.toNat,y rb.toNat])) [lf]) (y i) (smk c n j i):=fun i=>by
  match i with
  |0=>exact num_at (maf _ _ ga)
  |1=>exact num_at (mbf _ _ gb)
  |2=>exact name_at (m4f _ _ g4) (wd_sm _ _) (wd_sm _ _)
  |_+3=>exact name_at (m8f _ _ g8) sm_nil (wd_sm _ _)
 have kp:=pair_at gf (ky ra.toNat) (ky rb.toNat) (by
  show 1+(smk c n j ra.toNat).words+(smk c n j rb.toNat).words≤120
  rw [s_words,s_words]
  decide)
 have lsf:=mcf _ _ gc
 have ecut:cutV [V.ref q1,.ref q2,.ref ph,.ref po] none (some 3)=[V.ref q1,.ref q2,.ref ph]:=rfl
 refine⟨_,rfl,_,rfl,ls,_,rfl,SqL.of (zo_same _ _ lsf),fun l3 hl3=>?_⟩
 rw [ecut]
 obtain⟨fg,ng,gg⟩:=fd_nw ff hl3 (.lst [.ref q1,.ref q2,.ref ph])
 refine⟨_,rfl,_,rfl,(by show 2≤sizeLine;decide),fun l2 hl2=>?_⟩
 obtain⟨fh,nh,gh⟩:=fd_nw fg hl2 (.lst [.ref pp,.ref po])
 refine⟨l3,l2,_,_,rfl,rfl,zo_same _ _ (nh _ _ gg),upd_same,(by show 5≤sizeLine;decide),fun lp hlp=>?_⟩
 obtain⟨fi,ni,gi⟩:=fd_nw fh hlp (.lst ([.ref q1,.ref q2,.ref ph]++[.ref pp,.ref po]))
 have mfi:=ng.trans (nh.trans ni)
 let x:Nat→V:=fun|0=>.ref q1|1=>.ref q2|2=>.ref ph|3=>.ref pp|_=>.ref po
 have hpl:PlAt K (zo (upd (upd (upd (upd He pp (.tup [.str "pair",y ra.toNat,y rb.toNat])) l3 (.lst [.ref q1,.ref q2,.ref ph])) l2 (.lst [.ref pp,.ref po])) lp (.lst ([.ref q1,.ref q2,.ref ph]++[.ref pp,.ref po]))) [lf]) lp (pOf c n j ra.toNat rb.toNat):=⟨x,gi,fun i hi=>by
  match i,hi with
  |0,_=>exact(ky 0).same mfi
  |1,_=>exact(ky 1).same mfi
  |2,_=>exact(ky 2).same mfi
  |3,_=>exact kp.same mfi
  |4,_=>exact(ky 3).same mfi⟩
 have hwi:=mfi _ _ (m4f _ _ w4)
 have hsi:Same (zo H [lf]) _:=s3.trans (n4.trans (m4f.trans mfi))
 have hpool:=pool_of (c:=c) (a:=ra.toNat) (b:=rb.toNat) n0 n1 j0 j1
 generalize upd (upd (upd (upd He pp (.tup [.str "pair",y ra.toNat,y rb.toNat])) l3 (.lst [.ref q1,.ref q2,.ref ph])) l2 (.lst [.ref pp,.ref po])) lp (.lst ([.ref q1,.ref q2,.ref ph]++[.ref pp,.ref po]))=Hi at fi hpl hwi hsi ⊢
 generalize pOf c n j ra.toNat rb.toNat=p at hpl hpool
 refine fun td htd=>?_
 have ntd:lf≠td:=fun e=>fd_some fi (by rw [e];exact htd)
 have z0:Same (zo Hi [lf]) (zo (upd Hi td (.dT [])) [lf,td]):=zo_add (same_new htd _) htd
 have fj:=(fd_new (o:=.dT []) fi htd).1
 have tj:=new_at htd (.dT [])
 have hwj:=z0 _ _ hwi
 have hpj:=hpl.same z0
 have hsj:=hsi.trans z0
 generalize upd Hi td (.dT [])=Hj at fj tj hwj hpj hsj ⊢
 refine⟨_,rfl,by omega,by omega,for_range (n:=5) (fun i σ H3=>∃(kvs:List (List Key × V)) (C:Orc) (v9 v10:Option V),σ=[some (.ref a),some (.ref lf),some (.ref lw),some (.ref ph),some (.ref po),some (.ref ls),some (.ref pp),some (.ref lp),some (.ref td),v9,v10]∧TSt K (zo Hj [lf,td]) lf td H3 kvs C∧kvs.length≤3*i∧TbI c p i C) ⟨[],fun _ _=>none,none,none,rfl,⟨fj,Same.refl _,tj,fun _ _=>.inl ⟨rfl,rfl⟩⟩,by decide,⟨fun _ h=>absurd h (by omega),fun _ h=>absurd h (by omega),fun _ h=>absurd h (by omega),fun _ _ h=>absurd rfl h⟩⟩ ?_ ?_⟩
 ·rintro i σ H3 hi ⟨kvs,C,v9,v10,rfl,z3,hl3,htb⟩
  rw [Int.zero_add]
  refine kL _ H3 lw lp td c p kvs C i _ _ _ _ _ hi z3.1 ntd (z3.2.1 _ _ hwj) (hpj.same z3.2.1) z3.2.2.1 hl3 z3.2.2.2 htb fun H4 kvs' C' v10' f4 s4 t4 l4 tb4 hb4=>⟨kvs',C',_,_,rfl,⟨f4,z3.2.1.trans s4,t4,tb4⟩,l4,hb4⟩
 rintro σ H3 ⟨kvs,C,v9,v10,rfl,z3,hl3,htb⟩
 refine⟨_,rfl,_,rfl,_,rfl,_,rfl,(by show 1≤sizeLine;decide),fun lm hlm=>⟨(by show 5≤sizeLine;decide),fun ad had=>?_⟩⟩
 have s1:=same_new hlm (.lst [.int 30])
 have s2':=s1.trans (same_new had (.tup [.ref lf,.ref lp,.ref lw,.ref td,.ref lm]))
 have sw:=zo_swap (a:=lf) (d:=td) (e:=lm) s2' hlm
 have ft:=z3.1
 have nlm:lf≠lm:=fun e=>fd_some ft (by rw [e];exact hlm)
 have fend:=(fd_new (o:=.tup [.ref lf,.ref lp,.ref lw,.ref td,.ref lm]) (fd_new (o:=.lst [.int 30]) ft hlm).1 had).1
 have hlm1:=new_at hlm (.lst [.int 30])
 have nad:ad≠lm:=fun e=>by rw [e,hlm1] at had;cases had
 have nadf:ad≠lf:=fun e=>fd_some (fd_new (o:=.lst [.int 30]) ft hlm).1 (by rw [←e];exact had)
 have ntm:td≠lm:=fun e=>by rw [←e,z3.2.2.1] at hlm;cases hlm
 refine q _ ad lm lw lp td c p C fend (hsj.trans (z3.2.1.trans sw)) (same_new had _ _ _ hlm1) nlm ⟨?_,sw _ _ (z3.2.1 _ _ hwj),(hpj.same z3.2.1).same sw,⟨kvs,?_,z3.2.2.2.same sw⟩,hpool,htb⟩
 ·rw [zo_ne (by simp [nad,nadf])]
  exact upd_same
 ·rw [zo_ne (by simp [ntm,Ne.symm ntd])]
  exact s2' _ _ z3.2.2.1
end
end K52
namespace L2
open PySem
theorem comp_keys{d:Addr}{o:Obj}{kvs:List (Key × V)}{n:Nat}{κ:List Nat}{g:TG}{tc:TT}{te:TE}{σ:St}{H:Hp}{Q:VK}(hz:kvs.length≤1000)(hd:H d=some (.frz o (.dK kvs)))(R:Nat→List V→Prop)(h0:R 0 [])(hlen:∀i ys,R i ys→ys.length≤i)
  (hs:∀i kv ys (N:List V→Hp→Prop),kvs[i]?=some kv→R i ys→(∀ys',R (i+1) ys'→N ys' H)→g (kV kv.1) (blkSt n κ σ) H fun σ4 H4=>σ4.drop n=(blkSt n κ σ).drop n∧tc σ4 H4 fun b H5=>if b=true then te σ4 H5 fun v H6=>N (ys++[v]) H6 else N ys H5)
  (hQ:∀ys D,R kvs.length ys→H D=none→Q (.ref D) (upd H D (.lst ys))):CompRun n κ g tc te σ (Itk d o kvs) H Q:=by
 have hl:(kvs.map fun p=>kV p.1).length=kvs.length:=List.length_map _
 refine comp_by (J:=Itk d o kvs) (xs:=kvs.map fun p=>kV p.1) (fun i ys H3=>H3=H∧R i ys) ⟨rfl,h0⟩ (by rw [hl];exact Nat.le_of_lt (small1000 hz)) (fun i ys H3 h=>hlen i ys h.2) ?_ ?_ ?_ ?_ ?_
 ·rintro i u ys H3 hu ⟨rfl,_⟩
  refine⟨hd,?_⟩
  have:=(List.getElem?_eq_some_iff.mp hu).1
  omega
 ·rintro i ys u H3 H' hn ⟨rfl,_⟩ ⟨e,p,hp,ex⟩
  refine⟨e,?_⟩
  rw [List.getElem?_map,hp,ex]
  rfl
 ·rintro ys H3 ⟨rfl,_⟩
  exact⟨hd,by omega⟩
 ·rintro i u ys H3 N hN hu ⟨rfl,h⟩
  rw [List.getElem?_map] at hu
  cases e:kvs[i]? with
  |none=>rw [e] at hu;cases hu
  |some kv =>
   rw [e] at hu
   cases hu
   exact hs i kv ys N e h fun ys' h'=>hN ys' _ ⟨rfl,h'⟩
 ·rintro ys H3 D ⟨rfl,h⟩ hD
  rw [hl] at h
  exact hQ ys D h hD
theorem thaw_eq{H:Hp}{d D:Addr}{u f l:HO}(h:H d=some u)(n:d≠D):upd (upd (upd H d f) D l) d u=upd H D l:=by
 funext b
 by_cases e:b=d
 ·subst e
  rw [upd_same,upd_ne n]
  exact h.symm
 ·rw [upd_ne e]
  by_cases e2:b=D
  ·subst e2
   rw [upd_same,upd_same]
  ·rw [upd_ne e2,upd_ne e2,upd_ne e]
end L2
namespace K52
open PySem L2 Kk
def St(H:Hp)(lf lm:Addr):Prop:=FdAt H lf∧(∃m:Int,H lm=some (.lst [.int m]))∧lf≠lm
theorem St.ne{H:Hp}{lf lm:Addr}(h:St H lf lm):∀b∈[lf,lm],H b≠none:=fun b hb=>by
 rcases List.mem_cons.mp hb with rfl|hb
 ·exact fd_some h.1
 ·obtain rfl:b=lm:=by simpa using hb
  obtain⟨m,e⟩:=h.2.1
  rw [e]
  nofun
theorem St.nw{H:Hp}{lf lm p:Addr}(h:St H lf lm)(hp:H p=none)(o:HO):St (upd H p o) lf lm∧Same (zo H [lf,lm]) (zo (upd H p o) [lf,lm])∧zo (upd H p o) [lf,lm] p=some o :=
 ⟨⟨(fd_new h.1 hp).1,let ⟨m,e⟩:=h.2.1;⟨m,same_new hp o _ _ e⟩,h.2.2⟩,zo_mono (same_new hp o),zo_nw hp h.ne⟩
theorem St.take{H H':Hp}{lf lm:Addr}(h:St H lf lm)(f:FdAt H' lf)(s:Same (zo H [lf]) (zo H' [lf])):St H' lf lm∧Same (zo H [lf,lm]) (zo H' [lf,lm]):=by
 obtain⟨_,⟨m,e⟩,n⟩:=h
 exact⟨⟨f,⟨m,keep1 s (Ne.symm n) e⟩,n⟩,zo_sub (fun b hb=>by simp at hb;rw [hb];exact .head _) s⟩
def ScAt(K:PySem.W.Frag)(W:Hp)(d:Addr)(ρ:Str→Option Kd)(c:Int)(p:Nat→Kd)(m:Nat):Prop:=∃kvs:List (Key × V),W d=some (.dK kvs)∧kvs.length≤m∧(∀s,(ρ s=none∧valV kvs (.inr s)=none)∨∃k u,ρ s=some k∧valV kvs (.inr s)=some u∧KAt K W u k) ∧
 (∀kv∈kvs,(∃i:Nat,i < 7∧kv.1=.inr (wd c (i:Int)))∧∃b,kv.2=.ref b)∧∀s k,ρ s=some k→Pin p k
theorem ScAt.same{K:PySem.W.Frag}{H H':Hp}(s:Same H H'){d:Addr}{ρ:Str→Option Kd}{c:Int}{p:Nat→Kd}{m:Nat}(h:ScAt K H d ρ c p m):ScAt K H' d ρ c p m:=by
 obtain⟨kvs,h1,h2,h3,h4,h5⟩:=h
 refine⟨kvs,s _ _ h1,h2,fun x=>?_,h4,h5⟩
 rcases h3 x with z|⟨k,u,a,b,e⟩
 ·exact .inl z
 ·exact .inr ⟨k,u,a,b,e.same s⟩
theorem valV_mem{α:Type}[DecidableEq α]{kvs:List (α × V)}{kv:α × V}(h:kv∈kvs):valV kvs kv.1≠none:=fun e=>by
 unfold valV at e
 rw [Option.map_eq_none_iff,List.find?_eq_none] at e
 exact e kv h (decide_eq_true rfl)
def Res(C:Orc)(ρ:Str→Option Kd)(c:Int)(e:Ex)(r:R Kd):Prop:=∀ρ',(∀s k,ρ s=some k→ρ' s=some k)→ρ' (wd c 24)=none→kin 40 C ρ' e=r
theorem Pool.num_of{c:Int}{p:Nat→Kd}(h:Pool c p){n:Int}(hn:Pin p (.num n)):0 < n∧n≤10 ^ 18:=by
 obtain⟨i,hi,e⟩:=hn
 have:i=0∨i=1∨i=2∨i=3∨i=4:=by omega
 rcases this with rfl|rfl|rfl|rfl|rfl
 ·obtain⟨m,e1,h0,h1⟩:=h.num
  rw [e1] at e
  cases e
  exact⟨h0,h1⟩
 ·rw [h.two] at e
  cases e
  exact⟨by decide,by decide⟩
 ·rw [h.hid] at e;cases e
 ·obtain⟨a,b,e1,_⟩:=h.pr
  rw [e1] at e;cases e
 ·obtain⟨j,_,_,e1⟩:=h.own
  rw [e1] at e;cases e
theorem Pool.words{c:Int}{p:Nat→Kd}(h:Pool c p){k:Kd}(hk:Pin p k):k.words≤3:=by
 have key:∀i,i < 5→i≠3→(p i).words=1:=fun i hi h3=>by
  have:i=0∨i=1∨i=2∨i=4:=by omega
  rcases this with rfl|rfl|rfl|rfl
  ·obtain⟨m,e,_⟩:=h.num
   rw [e];rfl
  ·rw [h.two];rfl
  ·rw [h.hid];rfl
  ·obtain⟨j,_,_,e⟩:=h.own
   rw [e];rfl
 obtain⟨i,hi,rfl⟩:=hk
 by_cases h3:i=3
 ·subst h3
  obtain⟨a,b,e,⟨i,hi,hi3,rfl⟩,j,hj,hj3,rfl⟩:=h.pr
  rw [e]
  show 1+(p i).words+(p j).words≤3
  rw [key i hi hi3,key j hj hj3]
  decide
 ·rw [key i hi h3]
  decide
theorem first_at{p:Nat→Kd}{k:Kd}(h:Pin p k):∃i,i < 5∧p i=k∧∀j,j < i→p j≠k:=by
 by_cases e0:p 0=k
 ·exact⟨0,by decide,e0,fun j hj=>absurd hj (by omega)⟩
 by_cases e1:p 1=k
 ·refine⟨1,by decide,e1,fun j hj=>?_⟩
  obtain rfl:j=0:=by omega
  exact e0
 by_cases e2:p 2=k
 ·refine⟨2,by decide,e2,fun j hj=>?_⟩
  have:j=0∨j=1:=by omega
  rcases this with rfl|rfl<;>assumption
 by_cases e3:p 3=k
 ·refine⟨3,by decide,e3,fun j hj=>?_⟩
  have:j=0∨j=1∨j=2:=by omega
  rcases this with rfl|rfl|rfl<;>assumption
 refine⟨4,by decide,?_,fun j hj=>?_⟩
 ·obtain⟨i,hi,rfl⟩:=h
  have:i=0∨i=1∨i=2∨i=3∨i=4:=by omega
  rcases this with rfl|rfl|rfl|rfl|rfl
  ·exact absurd rfl e0
  ·exact absurd rfl e1
  ·exact absurd rfl e2
  ·exact absurd rfl e3
  ·rfl
 ·have:j=0∨j=1∨j=2∨j=3:=by omega
  rcases this with rfl|rfl|rfl|rfl<;>assumption
theorem idx_ok{K:PySem.W.Frag}{H:Hp}{lp:Addr}{p:Nat→Kd}{y:V}{k:Kd}{Q:VK}(hpl:PlAt K H lp p)(hy:KAt K H y k)(hk:Pin p k)(q:∀i:Nat,i < 5→p i=k→Q (.int i) H):rIndexD K (.ref lp) [y] H Q:=by
 obtain⟨x,h1,h2⟩:=hpl
 obtain⟨i,hi,e,hno⟩:=first_at hk
 have kd:∀j,j < 5→Dat K H (x j) (Kd.dat (p j)):=fun j hj=>kd_dat (h2 j hj).1
 have lay:∀j,j < 5→(Kd.dat (p j)).canLay0=true:=fun j hj=>lay_kd (h2 j hj).2.1
 have dp:=deep_kd k
 have d2:=depth_words k
 have d3:=hy.2.2
 have h60:(Kd.dat k).depth≤60:=by
  have:=sm_shaped hy.2
  unfold SeqAt.shaped at this
  have d4:=depth_half k
  omega
 have gete:∀j,j < 5→[Kd.dat (p 0),Kd.dat (p 1),Kd.dat (p 2),Kd.dat (p 3),Kd.dat (p 4)][j]?=some (Kd.dat (p j)):=fun j hj=>by
  have:j=0∨j=1∨j=2∨j=3∨j=4:=by omega
  rcases this with rfl|rfl|rfl|rfl|rfl<;>rfl
 refine⟨lp,y,_,[Kd.dat (p 0),Kd.dat (p 1),Kd.dat (p 2),Kd.dat (p 3),Kd.dat (p 4)],Kd.dat k,i,rfl,rfl,SqL.of h1,by show 5≤1000;decide,.cons (kd 0 (by decide)) (.cons (kd 1 (by decide)) (.cons (kd 2 (by decide)) (.cons (kd 3 (by decide)) (.cons (kd 4 (by decide)) .nil)))),kd_dat hy.1,?_,lay_kd hy.2.1,h60,⟨_,gete i hi,?_⟩,fun j e' hj he'=>?_,q i hi e⟩
 ·simp [PyData.canLayAll0,lay]
 ·rw [eqv_dat,e]
  exact decide_eq_true rfl
 ·rw [gete j (by omega)] at he'
  cases he'
  rw [eqv_dat]
  exact decide_eq_false (hno j hj)
def spLeaf(K:PySem.W.Frag):Sp:=fun vs H Q _=>∃(x:V) (d ad lf lm lw lp lt:Addr) (c:Int) (p:Nat→Kd) (C:Orc) (ρ:Str→Option Kd) (m:Nat) (k:Kd),vs=[x,.ref d,.ref ad]∧St H lf lm∧DeskAt K (zo H [lf,lm]) ad lf lm lw lp lt c p C∧ScAt K (zo H [lf,lm]) d ρ c p m∧m≤200∧KAt K (zo H [lf,lm]) x k∧Pin p k ∧
 ∀H' y e,St H' lf lm→Same (zo H [lf,lm]) (zo H' [lf,lm])→ExAt (zo H' [lf,lm]) y e→e.ht≤1→Res C ρ c e (.ok k)→Q y H'
def spAny(K:PySem.W.Frag):Sp:=fun vs H Q _=>∃(ad lf lm lw lp lt:Addr) (c:Int) (p:Nat→Kd) (C:Orc),vs=[.ref ad]∧St H lf lm∧DeskAt K (zo H [lf,lm]) ad lf lm lw lp lt c p C ∧
 ∀H' x k,St H' lf lm→Same (zo H [lf,lm]) (zo H' [lf,lm])→KAt K (zo H' [lf,lm]) x k→Pin p k→Q x H'
theorem sqt_dK{K:PySem.W.Frag}{H:Hp}{l a:Addr}{kvs:List (Key × V)}{xs:List V}{o:HO}(h:H l=some (.dK kvs))(t:SqT K H a xs):SqT K (upd H l o) a xs:=by
 rcases t with (t|⟨o',t⟩)|t
 ·exact .inl (.inl (by rw [upd_ne (fun e=>by rw [e,h] at t;cases t)];exact t))
 ·exact .inl (.inr ⟨o',by rw [upd_ne (fun e=>by rw [e,h] at t;cases t)];exact t⟩)
 ·exact .inr t
theorem num_tup{K:PySem.W.Frag}{H:Hp}{x:V}{n:Int}(h:KdAt K H x (.num n)):∃a,x=.ref a∧SqT K H a [.str "num",.int n]:=by
 cases h with
 |num t=>exact⟨_,rfl,t⟩
theorem pair_tup{K:PySem.W.Frag}{H:Hp}{x:V}{a b:Kd}(h:KdAt K H x (.pair a b)):∃p y z,x=.ref p∧SqT K H p [.str "pair",y,z]∧KdAt K H y a∧KdAt K H z b:=by
 cases h with
 |pair t ha hb=>exact⟨_,_,_,rfl,t,ha,hb⟩
theorem is_num{k:Kd}(h:Kd.isNum k=true):∃n,k=.num n:=by
 cases k with
 |num n=>exact⟨n,rfl⟩
 |name _ _=>cases h
 |pair _ _=>cases h
section
variable{P:Program}{w:World}{K:PySem.W.Frag}{mg:Str→Option Value}{base:Heap}
theorem scAny:FnScope ["_law_desk_here"] ["_law_desk_here"] (defScope sAny):=⟨rfl,rfl,rfl,by decide +kernel,rfl,by decide +kernel,by decide +kernel⟩
theorem ok_any{f fT:Addr}{fd fdT:FuncData} (F:Fun K "_law_any" "_law_any" sAny f fd) (GT:FnOk P w K mg base CX0 1 fT fdT ["_law_feed_here","_law_many"] spTake) (bT:Binds K fdT ["_law_feed_here","_law_many"] []) (kT:PySem.W.keepIn K (.ref fT)=true) (mT:mg "_law_take"=some (.ref fT)):FnOk P w K mg base CX0 2 f fd ["_law_desk_here"] (spAny K):=by
 refine F.ok (k:=1) scAny (fun vs H Q E h=>?_) (fun cdv A outer s H vs Q E hrT h=>?_)
 ·obtain⟨_,_,_,_,_,_,_,_,_,rfl,_⟩:=h
  rfl
 obtain⟨ad,lf,lm,lw,lp,lt,c,p,C,rfl,hst,hd,q⟩:=h
 refine⟨_,@pss_one _ _ _ (@ps_ret _ _ _ _ (pe_ix ix_list (pe_ix ix_tup (pv 0) pe_int (fun _ _=>rfl)) (pe_call GT hrT rfl mT kT bT .nil pass0 (@pa_cons _ _ _ _ _ (pe_ix ix_tup (pv 0) pe_int (fun _ _=>rfl)) (@pa_cons _ _ _ _ _ pe_int pa_nil rfl) rfl)) (fun _ _=>rfl))),?_⟩
 obtain⟨x,hlp,hx⟩:=hd.pool
 have hta:=SqT.of (K:=K) (zo_same _ _ hd.tup)
 refine⟨_,rfl,ad,_,_,_,rfl,rfl,hta,at1,_,rfl,ad,_,_,_,rfl,rfl,hta,at0,lf,5,rfl,hst.1,by decide,by decide,fun H1 r f1 s1 r0 r5=>?_⟩
 obtain⟨st1,n1⟩:=hst.take f1 s1
 exact⟨lp,_,_,_,rfl,rfl,SqL.of (zo_same _ _ (n1 _ _ hlp)),at5 r0 r5,q _ _ _ st1 n1 ((hx _ (by omega)).same n1) ⟨_,by omega,rfl⟩⟩
theorem scLeaf:FnScope ["_law_kind","_law_scope","_law_desk_here","_law_feed_here","_law_alike"] ["_law_kind","_law_scope","_law_desk_here"] (defScope sLeaf):=⟨rfl,rfl,rfl,by decide +kernel,rfl,by decide +kernel,by decide +kernel⟩
set_option maxHeartbeats 0 in
theorem ok_leaf{f fT:Addr}{fd fdT:FuncData} (F:Fun K "_law_leaf" "_law_leaf" sLeaf f fd) (ml:mg "len"=none) (GT:FnOk P w K mg base CX0 1 fT fdT ["_law_feed_here","_law_many"] spTake) (bT:Binds K fdT ["_law_feed_here","_law_many"] []) (kT:PySem.W.keepIn K (.ref fT)=true) (mT:mg "_law_take"=some (.ref fT)):FnOk P w K mg base CX0 2 f fd ["_law_kind","_law_scope","_law_desk_here"] (spLeaf K):=by
 refine F.ok (k:=1) scLeaf (fun vs H Q E h=>?_) (fun cdv A outer s H vs Q E hrT h=>?_)
 ·obtain⟨_,_,_,_,_,_,_,_,_,_,_,_,_,_,rfl,_⟩:=h
  rfl
 obtain⟨x,d,ad,lf,lm,lw,lp,lt,c,p,C,ρ,m,k,rfl,hst,hdk,hsc,hm,hx,hk,q⟩:=h
 have hu:=hu_of hrT
 have hu64:=hu64_of hrT
 have sv:∀{H3:Hp} {la:Addr} {zs:List V},zo H3 [lf,lm] la=some (.lst zs)→SqL K H3 la zs:=fun h=>SqL.of (zo_same _ _ h)
 obtain⟨tN,dN,kN⟩:∃t,PSs (cxOf CX0 P w K mg base ["_law_kind","_law_scope","_law_desk_here","_law_feed_here","_law_alike"] "_law_leaf" (defScope sLeaf) f cdv A outer s H E).nox (ifT ((defBody sLeaf).getD 2 dS)) t ∧
   ∀(D:Ends) (H3:Hp) (la:Addr) (n:Int),D.rt=Q→k=.num n→St H3 lf lm→Same (zo H [lf,lm]) (zo H3 [lf,lm]) →
    t D [some x,some (.ref d),some (.ref ad),some (.ref lf),some (.ref la)] H3:=by
  refine⟨_,@pss_one _ _ _ (@ps_ret _ _ _ _ (@pe_tup _ _ _ _ _ (@pa_cons _ _ _ _ _ pe_str (@pa_cons _ _ _ _ _ (pe_call GT hrT rfl mT kT bT .nil pass0 (@pa_cons _ _ _ _ _ (pv 3) (@pa_cons _ _ _ _ _ (pe_ix ix_tup (pv 0) pe_int (fun _ _=>rfl)) pa_nil rfl) rfl)) (@pa_cons _ _ _ _ _ (pe_ix ix_tup (pv 0) pe_int (fun _ _=>rfl)) pa_nil rfl) rfl) rfl))),?_⟩
  intro D H3 la n hD ek st3 s3
  subst ek
  obtain⟨n0,n1⟩:=hdk.pl.num_of hk
  obtain⟨px,rfl,hpx⟩:=num_tup hx.1
  refine⟨_,rfl,_,rfl,px,_,_,_,rfl,rfl,zo_same.tup (s3.tup hpx),at1,lf,n,rfl,st3.1,n0,n1,fun H4 r f4 s4 r0 r1=>?_⟩
  obtain⟨st4,n4⟩:=st3.take f4 s4
  refine⟨_,rfl,px,_,_,_,rfl,rfl,zo_same.tup ((s3.trans n4).tup hpx),at1,(by show 3≤sizeLine;decide),fun p hp=>?_⟩
  obtain⟨st5,n5,g5⟩:=st4.nw hp (.tup [.str "lit",.int r,.int n])
  rw [hD]
  exact q _ _ (.nd (.lit r n) []) st5 (s3.trans (n4.trans n5)) (.nd (xs:=[]) g5 .nil (fun _=>rfl)) (by simp only [Ex.ht,hts,List.length_nil];decide) fun ρ' _ _=>by rw [kin_nd kins_nil];rfl
 obtain⟨tC,dC,kC⟩:∃t,PSs (cxOf CX0 P w K mg base ["_law_kind","_law_scope","_law_desk_here","_law_feed_here","_law_alike"] "_law_leaf" (defScope sLeaf) f cdv A outer s H E).nox (ifT ((defBody sLeaf).getD 3 dS)) t ∧
   ∀(D:Ends) (H3:Hp) (la:Addr),D.rt=Q→St H3 lf lm→Same (zo H [lf,lm]) (zo H3 [lf,lm]) →
    t D [some x,some (.ref d),some (.ref ad),some (.ref lf),some (.ref la)] H3:=by
  refine⟨_,@pss_one _ _ _ (@ps_ret _ _ _ _ (@pe_tup _ _ _ _ _ (@pa_cons _ _ _ _ _ pe_str (@pa_cons _ _ _ _ _ (pe_ix ix_list (pe_ix ix_tup (pv 2) pe_int (fun _ _=>rfl)) pe_int (fun _ _=>rfl)) (@pa_cons _ _ _ _ _ (pe_ix ix_list (pe_ix ix_tup (pv 2) pe_int (fun _ _=>rfl)) (pe_op op_add pe_int (pe_bm PySem.F.plainAttrs_list PySem.F.slot_list_index PySem.F.type_list_index (mt_indexD hu64) (pe_ix ix_tup (pv 2) pe_int (fun _ _=>rfl)) (@pa_cons _ _ _ _ _ (pv 0) pa_nil rfl))) (fun _ _=>rfl)) (@pa_cons _ _ _ _ _ (@pe_tup _ _ _ _ _ pa_nil) pa_nil rfl) rfl) rfl) rfl))),?_⟩
  intro D H3 la hD st3 s3
  have d3:=hdk.same s3
  have hta:=SqT.of (K:=K) (zo_same _ _ d3.tup)
  have hlw:=zo_same _ _ d3.words
  refine⟨_,rfl,ad,_,_,_,rfl,rfl,hta,at2,lw,_,_,_,rfl,rfl,SqL.of hlw,wl_at c (r:=8) (by decide) (by decide),?_⟩
  refine⟨_,rfl,ad,_,_,_,rfl,rfl,hta,at2,_,rfl,ad,_,_,_,rfl,rfl,hta,at1,?_⟩
  refine⟨.inl ⟨rfl,_,SqL.of (zo_same _ _ (d3.pool.choose_spec.1))⟩,_,rfl,?_⟩
  delta tNil
  show rIndexD K (.ref lp) [x] H3 _
  refine idx_ok (d3.pool.same zo_same) ((hx.same s3).same zo_same) hk fun i hi e=>?_
  refine⟨_,_,rfl,rfl,lw,_,_,_,rfl,rfl,SqL.of hlw,wl_at c (by omega) (by omega),(by show 0≤sizeLine;decide),fun p1 h1=>⟨(by show 4≤sizeLine;decide),fun p hp=>?_⟩⟩
  obtain⟨st4,n4,g4⟩:=st3.nw h1 (.tup [])
  obtain⟨st5,n5,g5⟩:=st4.nw hp (.tup [.str "call",.str (wd c 8),.str (wd c (14+(i:Int))),.ref p1])
  rw [hD]
  refine q _ _ (.call (wd c 8) (wd c (14+(i:Int))) []) st5 (s3.trans (n4.trans n5)) (.call (xs:=[]) g5 (n5 _ _ g4) .nil (wd9 _ _)) (by simp only [Ex.ht,hts,List.length_nil];decide) fun ρ' _ _=>?_
  rw [kin_call kins_nil,hdk.tb.bare i hi,←e]
  simp [ansK]
 obtain⟨t4,d4,k4⟩:∃t,PSs (cxOf CX0 P w K mg base ["_law_kind","_law_scope","_law_desk_here","_law_feed_here","_law_alike"] "_law_leaf" (defScope sLeaf) f cdv A outer s H E).nox (List.drop 4 (defBody sLeaf)) t ∧
   ∀(D:Ends) (H3:Hp) (la:Addr) (zs:List V),D.rt=Q→St H3 lf lm→Same (zo H [lf,lm]) (zo H3 [lf,lm])→zo H3 [lf,lm] la=some (.lst zs)→zs.length≤200→0 < zs.length→(∀v∈zs,∃i:Nat,v=.str (wd c (i:Int))∧ρ (wd c (i:Int))=some k) →
    t D [some x,some (.ref d),some (.ref ad),some (.ref lf),some (.ref la)] H3:=by
  refine⟨_,@pss_one _ _ _ (@ps_ret _ _ _ _ (@pe_tup _ _ _ _ _ (@pa_cons _ _ _ _ _ pe_str (@pa_cons _ _ _ _ _ (pe_ix ix_list (pv 4) (pe_call GT hrT rfl mT kT bT .nil pass0 (@pa_cons _ _ _ _ _ (pv 3) (@pa_cons _ _ _ _ _ (pe_callB call_len_seq rfl ml PySem.boot_len (@pa_cons _ _ _ _ _ (pv 4) pa_nil rfl)) pa_nil rfl) rfl)) (fun _ _=>rfl)) pa_nil rfl) rfl))),?_⟩
  intro D H3 la zs hD st3 s3 hla hzl hz0 hz
  refine⟨_,rfl,_,rfl,_,rfl,la,_,rfl,.inl (sv hla),lf,(zs.length:Int),rfl,st3.1,by omega,by omega,fun H4 r f4 s4 r0 r1=>?_⟩
  obtain⟨st4,n4⟩:=st3.take f4 s4
  obtain⟨v,hv,hva⟩:=at_get (xs:=zs) r0 r1
  obtain⟨i,rfl,hi⟩:=hz v (List.mem_of_getElem? hv)
  refine⟨la,_,_,_,rfl,rfl,sv (n4 _ _ hla),hva,(by show 2≤sizeLine;decide),fun p hp=>?_⟩
  obtain⟨st5,n5,g5⟩:=st4.nw hp (.tup [.str "var",.str (wd c (i:Int))])
  rw [hD]
  exact q _ _ (.var (wd c (i:Int))) st5 (s3.trans (n4.trans n5)) (.var g5 (wd9 _ _)) (by simp only [Ex.ht];decide) fun ρ' h1 _=>kin_var (h1 _ _ hi)
 obtain⟨t3,d3,k3⟩:∃t,PSs (cxOf CX0 P w K mg base ["_law_kind","_law_scope","_law_desk_here","_law_feed_here","_law_alike"] "_law_leaf" (defScope sLeaf) f cdv A outer s H E).nox (List.drop 3 (defBody sLeaf)) t ∧
   ∀(D:Ends) (H3:Hp) (la:Addr) (zs:List V),D.rt=Q→St H3 lf lm→Same (zo H [lf,lm]) (zo H3 [lf,lm])→zo H3 [lf,lm] la=some (.lst zs)→zs.length≤200→(∀v∈zs,∃i:Nat,v=.str (wd c (i:Int))∧ρ (wd c (i:Int))=some k) →
    t D [some x,some (.ref d),some (.ref ad),some (.ref lf),some (.ref la)] H3:=by
  refine⟨_,@pss_cons _ _ _ _ _ (ps_if (PW.pt (pw_or (pt_cmpR op_eq (pe_callB call_len_seq rfl ml PySem.boot_len (@pa_cons _ _ _ _ _ (pv 4) pa_nil rfl)) pe_int (nomark _)) (pw_or1 (pt_cmpR op_eq (pe_call GT hrT rfl mT kT bT .nil pass0 (@pa_cons _ _ _ _ _ (pv 3) (@pa_cons _ _ _ _ _ pe_int pa_nil rfl) rfl)) pe_int (nomark _))))) dC pss_nil) d4,?_⟩
  intro D H3 la zs hD st3 s3 hla hzl hz
  refine⟨_,rfl,la,_,rfl,.inl (sv hla),rfl,_,rfl,ite2 (fun _=>kC _ H3 la hD st3 s3) (fun c0=>?_)⟩
  have z0:0 < zs.length:=Nat.pos_of_ne_zero fun e=>c0 (by
   show decide (V.int (zs.length:Int)=V.int 0)=true
   rw [e]
   exact decide_eq_true rfl)
  refine⟨_,rfl,lf,7,rfl,st3.1,by decide,by decide,fun H4 r f4 s4 r0 r1=>?_⟩
  obtain⟨st4,n4⟩:=st3.take f4 s4
  exact⟨rfl,_,rfl,ite2 (fun _=>kC _ H4 la hD st4 (s3.trans n4)) (fun _=>k4 _ H4 la zs hD st4 (s3.trans n4) (n4 _ _ hla) hzl z0 hz)⟩
 obtain⟨t2,d2,k2⟩:∃t,PSs (cxOf CX0 P w K mg base ["_law_kind","_law_scope","_law_desk_here","_law_feed_here","_law_alike"] "_law_leaf" (defScope sLeaf) f cdv A outer s H E).nox (List.drop 2 (defBody sLeaf)) t ∧
   ∀(D:Ends) (H3:Hp) (la:Addr) (zs:List V),D.rt=Q→St H3 lf lm→Same (zo H [lf,lm]) (zo H3 [lf,lm])→zo H3 [lf,lm] la=some (.lst zs)→zs.length≤200→(∀v∈zs,∃i:Nat,v=.str (wd c (i:Int))∧ρ (wd c (i:Int))=some k) →
    t D [some x,some (.ref d),some (.ref ad),some (.ref lf),some (.ref la)] H3:=by
  refine⟨_,@pss_cons _ _ _ _ _ (ps_if (PW.pt (pw_and (pt_cmpR op_eq (pe_ix ix_tup (pv 0) pe_int (fun _ _=>rfl)) pe_str (nomark _)) (pw_and1 (PW.pt (pw_or (pt_cmpR op_eq (pe_callB call_len_seq rfl ml PySem.boot_len (@pa_cons _ _ _ _ _ (pv 4) pa_nil rfl)) pe_int (nomark _)) (pw_or1 (pt_cmpR op_eq (pe_call GT hrT rfl mT kT bT .nil pass0 (@pa_cons _ _ _ _ _ (pv 3) (@pa_cons _ _ _ _ _ pe_int pa_nil rfl) rfl)) pe_int (nomark _)))))))) dN pss_nil) d3,?_⟩
  intro D H3 la zs hD st3 s3 hla hzl hz
  have K3:=k3 D H3 la zs hD st3 s3 hla hzl hz
  obtain⟨px,xs,rfl,hpx⟩:=kd_tup hx.1
  refine⟨_,rfl,px,_,_,_,rfl,rfl,zo_same.tup (s3.tup hpx),at0,rfl,_,rfl,ite2 (fun c1=>?_) (fun _=>iteF (A:=True) K3)⟩
  obtain⟨n,ek⟩:=is_num ((hd_num k).symm.trans c1)
  refine⟨_,rfl,la,_,rfl,.inl (sv hla),rfl,_,rfl,ite2 (fun _=>iteT (B:=True) (kN _ H3 la n hD ek st3 s3)) (fun _=>?_)⟩
  refine⟨_,rfl,lf,3,rfl,st3.1,by decide,by decide,fun H4 r f4 s4 r0 r1=>?_⟩
  obtain⟨st4,n4⟩:=st3.take f4 s4
  exact⟨rfl,_,rfl,ite2 (fun _=>kN _ H4 la n hD ek st4 (s3.trans n4)) (fun _=>k3 D H4 la zs hD st4 (s3.trans n4) (n4 _ _ hla) hzl hz)⟩
 refine⟨_,@pss_cons _ _ _ _ _ (ps_set (i:=3) scLeaf.nd rfl (Or.inl rfl) (pe_ix ix_tup (pv 2) pe_int (fun _ _=>rfl))) (@pss_cons _ _ _ _ _ (ps_thaw (ps_comp_if (i0:=4) scLeaf.nd rfl (Or.inl rfl) (own:=["_law_x"]) (caps:=["_law_scope","_law_kind"]) (κ:=[1,0]) rfl ⟨rfl,by decide +kernel,by decide +kernel,rfl,rfl,(fun y hy=>by simp only [List.mem_cons,List.not_mem_nil,or_false] at hy;rcases hy with rfl|rfl<;>rfl),(fun y hy=>by simp only [List.mem_cons,List.not_mem_nil,or_false] at hy;rcases hy with rfl|rfl<;>exact⟨.inl rfl,rfl,.inl rfl⟩)⟩ rfl (pi_keys (pv 1)) (fun _ _ _ _=>(pg_name (i:=0) (show(["_law_x","_law_scope","_law_kind"]:List Str).Nodup from by decide +kernel) rfl (Or.inl rfl))) (fun _ _ _ _=>(pt_cmpR (r:=rEqD K false) (op_eqD hu64) (pe_dget hu (pv 1) (pv 0) (fun _ _=>rfl)) (pv 2) (nomark _))) (fun _ _ _ _=>(pv 0)))) d2),?_⟩
 have hta:=SqT.of (K:=K) (zo_same _ _ hdk.tup)
 refine⟨_,rfl,ad,_,_,_,rfl,rfl,hta,at0,?_⟩
 obtain⟨kvs,hd1,hl,hv,hks,hpin⟩:=hsc
 have hdH:=zo_same _ _ hd1
 have kp:∀{o:Obj} (a:Addr) (xs:List V),SqT K (zo H [lf,lm]) a xs→SqT K (upd H d (.frz o (.dK kvs))) a xs:=fun a xs t=>sqt_dK hdH (zo_same.tup t)
 refine⟨_,rfl,d,kvs,rfl,hdH,fun o=>?_⟩
 refine comp_keys (by omega) upd_same (fun i ys=>ys.length≤i∧∀v∈ys,∃i:Nat,v=.str (wd c (i:Int))∧ρ (wd c (i:Int))=some k) ⟨Nat.le_refl _,fun _ h=>nomatch h⟩ (fun _ _ h=>h.1) ?_ ?_
 ·rintro i kv ys N hi ⟨hyl,hys⟩ hN
  have hmem:=List.mem_of_getElem? hi
  obtain⟨⟨j,hj,ej⟩,_⟩:=hks kv hmem
  rcases hv (wd c (j:Int)) with ⟨_,e2⟩|⟨k',u,e1,e2,e3⟩
  ·exact absurd e2 (by rw [←ej];exact valV_mem hmem)
  ·rw [ej]
   refine⟨rfl,_,rfl,_,rfl,d,u,rfl,.inl ⟨kvs,.inr (wd c (j:Int)),.inr ⟨o,upd_same⟩,rfl,e2.symm⟩,_,rfl,Kd.dat k',Kd.dat k,kd_dat (kd_keep kp e3.1),kd_dat (kd_keep kp hx.1),sm_shaped e3.2,sm_shaped hx.2,_,rfl,?_⟩
   show if PyData.eqv (Kd.dat k') (Kd.dat k)=true then _ else _
   rw [eqv_dat]
   refine ite2 (fun h=>?_) (fun _=>hN _ ⟨Nat.le_succ_of_le hyl,hys⟩)
   obtain rfl:k'=k:=of_decide_eq_true h
   refine⟨_,rfl,hN _ ⟨by rw [List.length_append];exact Nat.succ_le_succ hyl,fun v hv'=>?_⟩⟩
   rcases List.mem_append.mp hv' with z|z
   ·exact hys v z
   ·exact⟨j,List.mem_singleton.mp z,e1⟩
 ·rintro ys D ⟨hyl,hys⟩ hD
  have hdD:d≠D:=fun e=>by rw [←e,upd_same] at hD;cases hD
  have hD0:H D=none:=by rw [upd_ne (Ne.symm hdD)] at hD;exact hD
  refine⟨d,o,.dK kvs,by rw [upd_ne hdD];exact upd_same,fun o' u' e=>(by have e':H d=some (.frz o' u'):=e;rw [hdH] at e';cases e'),?_⟩
  rw [thaw_eq hdH hdD]
  obtain⟨st5,n5,g5⟩:=hst.nw hD0 (.lst ys)
  exact k2 _ _ D ys rfl st5 n5 g5 (by omega) hys
end
end K52
namespace K52
open PySem L2 Kk
theorem hts_snoc:∀(es:List Ex) (e:Ex),hts (es++[e])=max (hts es) e.ht
 |[],e=>by simp [hts]
 |a::es,e=>by
  show max a.ht (hts (es++[e]))=max (max a.ht (hts es)) e.ht
  rw [hts_snoc es e]
  omega
theorem exs_snoc{H:Hp}{x:V}{e:Ex}(h:ExAt H x e):∀{xs:List V} {es:List Ex},ExsAt H xs es→ExsAt H (xs++[x]) (es++[e])
 |_,_,.nil=>.cons h .nil
 |_,_,.cons a r=>.cons a (exs_snoc h r)
theorem kins_snocO{mo:Int}{C:Orc}{ρ:Str→Option Kd}{e:Ex}{k:Kd}(h:kin mo C ρ e=.ok k):∀{es:List Ex} {ks:List Kd},kins mo C ρ es=.ok ks→kins mo C ρ (es++[e])=.ok (ks++[k])
 |[],ks,hk=>by rw [kins] at hk;cases hk;exact kins_cons h kins_nil
 |a::es,ks,hk=>by
  rw [kins] at hk
  cases h1:kin mo C ρ a with
  |no c=>rw [h1] at hk;cases hk
  |ok k1 =>
   rw [h1] at hk
   cases h2:kins mo C ρ es with
   |no c=>rw [h2] at hk;cases hk
   |ok k2 =>
    rw [h2] at hk
    cases hk
    exact kins_cons h1 (kins_snocO h h2)
theorem mem_putK{kvs:List (Key × V)}{k:Key}{v:V}{p:Key × V}(h:p∈putK kvs k v):(p.1=k∧p.2=v)∨p∈kvs:=by
 unfold putK at h
 split at h
 ·obtain⟨q,hq,e⟩:=List.mem_map.mp h
  split at e
  ·rename_i hk
   rw [←e]
   exact .inl ⟨hk,rfl⟩
  ·rw [←e];exact .inr hq
 ·rcases List.mem_append.mp h with z|z
  ·exact .inr z
  ·rw [List.mem_singleton.mp z];exact .inl ⟨rfl,rfl⟩
def rin(ρ:Str→Option Kd)(w:Str)(k:Kd):Str→Option Kd:=fun s=>if s=w then some k else ρ s
theorem rin_same{ρ:Str→Option Kd}{w:Str}{k:Kd}:rin ρ w k w=some k:=if_pos rfl
theorem rin_ne{ρ:Str→Option Kd}{w s:Str}{k:Kd}(h:s≠w):rin ρ w k s=ρ s:=if_neg h
theorem ScAt.put{K:PySem.W.Frag}{W W':Hp}{d':Addr}{ρ:Str→Option Kd}{c:Int}{p:Nat→Kd}{m:Nat}{kvs:List (Key × V)}{k:Kd}{u:V}{i:Nat}(hi:i < 7)(hk:Pin p k)(hu:KAt K W' u k)(s:Same W W')(hd:W' d'=some (.dK (putK kvs (.inr (wd c (i:Int))) u)))
  (h:kvs.length≤m∧(∀s,(ρ s=none∧valV kvs (.inr s)=none)∨∃k u,ρ s=some k∧valV kvs (.inr s)=some u∧KAt K W u k)∧(∀kv∈kvs,(∃i:Nat,i < 7∧kv.1=.inr (wd c (i:Int)))∧∃b,kv.2=.ref b)∧∀s k,ρ s=some k→Pin p k) :
  ScAt K W' d' (rin ρ (wd c (i:Int)) k) c p (m+1):=by
 obtain⟨h1,h2,h3,h4⟩:=h
 refine⟨_,hd,Nat.le_trans (length_putK ..) (by omega),fun z=>?_,fun kv hkv=>?_,fun z k' e=>?_⟩
 ·rw [valV_put]
  by_cases ez:z=wd c (i:Int)
  ·subst ez
   rw [rin_same,if_pos rfl]
   exact .inr ⟨k,u,rfl,rfl,hu⟩
  ·rw [rin_ne ez,if_neg (fun e=>ez (Sum.inr.inj e))]
   rcases h2 z with e|⟨k',u',e1,e2,e3⟩
   ·exact .inl e
   ·exact .inr ⟨k',u',e1,e2,e3.same s⟩
 ·rcases mem_putK hkv with ⟨e1,e2⟩|z
  ·obtain⟨b,xs,e,_⟩:=kd_tup hu.1
   exact⟨⟨i,hi,e1⟩,b,by rw [e2,e]⟩
  ·exact h3 kv z
 ·by_cases ez:z=wd c (i:Int)
  ·subst ez
   rw [rin_same] at e
   cases e
   exact hk
  ·rw [rin_ne ez] at e
   exact h4 z k' e
theorem res_let{C:Orc}{ρ:Str→Option Kd}{c:Int}{i:Nat}{a b:Ex}{k:Kd}{r:R Kd}(hi:i < 7)(ha:Res C ρ c a (.ok k))(hb:Res C (rin ρ (wd c (i:Int)) k) c b r):Res C ρ c (.let_ (wd c (i:Int)) a b) r:=fun ρ' h1 h2=>by
 rw [kin,ha ρ' h1 h2]
 show kin 40 C (rin ρ' (wd c (i:Int)) k) b=r
 refine hb _ (fun s k' e=>?_) ?_
 ·by_cases z:s=wd c (i:Int)
  ·subst z
   rw [rin_same] at e ⊢
   exact e
  ·rw [rin_ne z] at e ⊢
   exact h1 s k' e
 ·rw [rin_ne (wd_no c (by omega) (by omega) (by omega))]
  exact h2
def spOf(K:PySem.W.Frag)(n:Nat):Sp:=fun vs H Q _=>∃(x:V) (d ad lf lm lw lp lt:Addr) (c:Int) (p:Nat→Kd) (C:Orc) (ρ:Str→Option Kd) (m:Nat) (k:Kd),vs=[x,.ref d,.ref ad,.int (n:Int)]∧St H lf lm∧DeskAt K (zo H [lf,lm]) ad lf lm lw lp lt c p C∧ScAt K (zo H [lf,lm]) d ρ c p m∧m+n≤150∧KAt K (zo H [lf,lm]) x k∧Pin p k ∧
 ∀H' y e,St H' lf lm→Same (zo H [lf,lm]) (zo H' [lf,lm])→ExAt (zo H' [lf,lm]) y e→e.ht≤2*n+4→Res C ρ c e (.ok k)→Q y H'
theorem less1{α:Type}{n:Nat}{f:Int→α}:f (((n+1:Nat):Int) - 1)=f (n:Int):=by rw [show((n+1:Nat):Int) - 1=(n:Int) by omega]
section
variable{P:Program}{w:World}{K:PySem.W.Frag}{mg:Str→Option Value}{base:Heap}
theorem scCallL:FnScope ["_law_kind","_law_scope","_law_desk_here","_law_deep","_law_f"] ["_law_kind","_law_scope","_law_desk_here","_law_deep"] (defScope sCallL):=⟨rfl,rfl,rfl,by decide +kernel,rfl,by decide +kernel,by decide +kernel⟩
set_option maxHeartbeats 0 in
theorem ok_callL{n l:Nat}{f fO:Addr}{fd fdO:FuncData} (F:Fun K "_law_call" "_law_call" sCallL f fd) (mt:mg "tuple"=none) (GO:FnOk P w K mg base CX0 l fO fdO ["_law_kind","_law_scope","_law_desk_here","_law_deep"] (spOf K n)) (bO:Binds K fdO ["_law_kind","_law_scope","_law_desk_here","_law_deep"] []) (kO:PySem.W.keepIn K (.ref fO)=true) (mO:mg "_law_of"=some (.ref fO)):FnOk P w K mg base CX0 (l+1) f fd ["_law_kind","_law_scope","_law_desk_here","_law_deep"] (spOf K (n+1)):=by
 refine F.ok (k:=l) scCallL (fun vs H Q E h=>?_) (fun cdv A outer s H vs Q E hrO h=>?_)
 ·obtain⟨_,_,_,_,_,_,_,_,_,_,_,_,_,_,rfl,_⟩:=h
  rfl
 obtain⟨x,d,ad,lf,lm,lw,lp,lt,c,p,C,ρ,m,k,rfl,hst,hdk,hsc,hm,hx,hk,q⟩:=h
 have hu:=hu_of hrO
 have hu64:=hu64_of hrO
 refine⟨_,@pss_cons _ _ _ _ _ (ps_set (i:=4) scCallL.nd rfl (Or.inl rfl) (pe_ix ix_list (pe_ix ix_tup (pv 2) pe_int (fun _ _=>rfl)) (pe_op op_add pe_int (pe_bm PySem.F.plainAttrs_list PySem.F.slot_list_index PySem.F.type_list_index (mt_indexD hu64) (pe_ix ix_tup (pv 2) pe_int (fun _ _=>rfl)) (@pa_cons _ _ _ _ _ (pv 0) pa_nil rfl))) (fun _ _=>rfl))) (@pss_one _ _ _ (@ps_ret _ _ _ _ (@pe_tup _ _ _ _ _ (@pa_cons _ _ _ _ _ pe_str (@pa_cons _ _ _ _ _ pe_str (@pa_cons _ _ _ _ _ (pv 4) (@pa_cons _ _ _ _ _ (pe_callTy call_tuple_of rfl mt bootTuple (@pa_cons _ _ _ _ _ (pe_comp (own:=["_law_one"]) (caps:=["_law_scope","_law_desk_here","_law_deep"]) (κ:=[1,2,3]) rfl ⟨rfl,by decide +kernel,by decide +kernel,rfl,rfl,(fun y hy=>by simp only [List.mem_cons,List.not_mem_nil,or_false] at hy;rcases hy with rfl|rfl|rfl<;>rfl),(fun y hy=>by simp only [List.mem_cons,List.not_mem_nil,or_false] at hy;rcases hy with rfl|rfl|rfl<;>exact⟨.inl rfl,rfl,.inl rfl⟩)⟩ rfl (pi_tup (pe_ix ix_tup (pe_dget hu (pe_ix ix_tup (pv 2) pe_int (fun _ _=>rfl)) (@pe_tup _ _ _ _ _ (@pa_cons _ _ _ _ _ pe_str (@pa_cons _ _ _ _ _ (pv 4) pa_nil rfl) rfl)) (fun _ _=>rfl)) pe_int (fun _ _=>rfl))) (fun _ _ _ _=>(pg_name (i:=0) (show(["_law_one","_law_scope","_law_desk_here","_law_deep"]:List Str).Nodup from by decide +kernel) rfl (Or.inl rfl))) (fun _ _ _ _=>(pe_call GO hrO rfl mO kO bO .nil pass0 (@pa_cons _ _ _ _ _ (pv 0) (@pa_cons _ _ _ _ _ (pv 1) (@pa_cons _ _ _ _ _ (pv 2) (@pa_cons _ _ _ _ _ (pe_op op_sub (pv 3) pe_int) pa_nil rfl) rfl) rfl) rfl)))) pa_nil rfl)) pa_nil rfl) rfl) rfl) rfl)))),?_⟩
 have hta:=SqT.of (K:=K) (zo_same _ _ hdk.tup)
 refine⟨_,rfl,ad,_,_,_,rfl,rfl,hta,at2,_,rfl,ad,_,_,_,rfl,rfl,hta,at1,?_⟩
 refine⟨.inl ⟨rfl,_,SqL.of (zo_same _ _ (hdk.pool.choose_spec.1))⟩,_,rfl,?_⟩
 delta tNil
 show rIndexD K (.ref lp) [x] H _
 refine idx_ok (hdk.pool.same zo_same) (hx.same zo_same) hk fun i hi e=>?_
 obtain⟨us,hCu,hul,hup⟩:=hdk.tb.own i hi
 refine⟨_,_,rfl,rfl,lw,_,_,_,rfl,rfl,SqL.of (zo_same _ _ hdk.words),wl_at c (by omega) (by omega),?_⟩
 refine⟨_,rfl,_,rfl,ad,_,_,_,rfl,rfl,hta,at3,_,rfl,(by show 2≤sizeLine;decide),fun pk hpk=>?_⟩
 obtain⟨st1,n1,g1⟩:=hst.nw hpk (.tup [.str "",.str (wd c (9+(i:Int)))])
 obtain⟨kvs,hkv,htb⟩:=(hdk.same n1).tab
 obtain⟨u,hu1,⟨p',tk,vs',x',rfl,t1,t2,t3,t4,t5⟩⟩:∃u,valV kvs [Sum.inr "",Sum.inr (wd c (9+(i:Int)))]=some u∧ToldAt K _ u us (p i):=by
  rcases htb "" (wd c (9+(i:Int))) with ⟨e1,_⟩|⟨us',k',u,e1,e2,e3⟩
  ·rw [hCu] at e1;cases e1
  ·rw [hCu] at e1
   cases e1
   exact⟨u,e2,e3⟩
 have g:=DGet.t (k:=[Sum.inr "",Sum.inr (wd c (9+(i:Int)))]) (zo_same _ _ hkv) (zo_same _ _ g1)
 rw [hu1] at g
 refine⟨lt,.ref p',rfl,g,p',_,_,_,rfl,rfl,SqT.of (zo_same _ _ t1),at0,?_⟩
 have hvl:=t3.length
 have s01:Same (zo H [lf,lm]) _:=n1
 refine⟨tk,rfl,⟨vs',SqT.of (zo_same _ _ t2)⟩,comp_fT (xs:=vs') (by omega) (fun j ys H5=>St H5 lf lm∧Same (zo (upd H pk (.tup [.str "",.str (wd c (9+(i:Int)))])) [lf,lm]) (zo H5 [lf,lm])∧ys.length=j∧∃es,ExsAt (zo H5 [lf,lm]) ys es∧es.length=j∧hts es≤2*n+4∧∀ρ',(∀s k,ρ s=some k→ρ' s=some k)→ρ' (wd c 24)=none→kins 40 C ρ' es=.ok (us.take j)) ⟨st1,Same.refl _,rfl,[],.nil,rfl,by simp [hts],fun ρ' _ _=>kins_nil⟩ (fun j ys H5 h=>SqT.of (zo_same _ _ (h.2.1 _ _ t2))) (fun _ _ _ h=>Nat.le_of_eq h.2.2.1) ?_ ?_⟩
 ·rintro j u' ys H5 N hN hu' ⟨st5,s5,hyl,es,hes,hel,hht,hks⟩
  obtain⟨k',hk',hku⟩:=pair_get t3 hu'
  have s15:=s01.trans s5
  refine⟨rfl,tYes_go ⟨_,rfl,_,rfl,_,rfl,_,rfl,_,_,rfl,rfl,u',d,ad,lf,lm,lw,lp,lt,c,p,C,ρ,m,k',?_,st5,hdk.same s15,hsc.same s15,by omega,hku.same s5,hup k' (List.mem_of_getElem? hk'),fun H6 y e6 st6 s6 he6 hh6 hr6=>?_⟩⟩
  ·rw [less1 (f:=fun i=>[u',V.ref d,.ref ad,.int i])]
   rfl
  refine hN _ _ ⟨st6,s5.trans s6,by rw [List.length_append,hyl];rfl,es++[e6],exs_snoc he6 (hes.same s6),by rw [List.length_append,hel];rfl,by rw [hts_snoc];omega,fun ρ' h1 h2=>?_⟩
  rw [←take_snoc hk']
  exact kins_snocO (hr6 ρ' h1 h2) (hks ρ' h1 h2)
 rintro ys H5 D5 ⟨st5,s5,hyl,es,hes,hel,hht,hks⟩ hD5
 obtain⟨st6,n6,g6⟩:=st5.nw hD5 (.lst ys)
 refine⟨D5,ys,rfl,.inl ⟨SqL.of upd_same,fun t1' ht1=>?_⟩⟩
 obtain⟨st7,n7,g7⟩:=st6.nw ht1 (.tup ys)
 refine⟨(by show 4≤sizeLine;decide),fun pr hpr=>?_⟩
 obtain⟨st8,n8,g8⟩:=st7.nw hpr (.tup [.str "call",.str "",.str (wd c (9+(i:Int))),.ref t1'])
 have s58:=n6.trans (n7.trans n8)
 have hul':vs'.length=us.length:=hvl
 refine q _ _ (.call "" (wd c (9+(i:Int))) es) st8 (s01.trans (s5.trans s58)) (.call g8 (n8 _ _ g7) (hes.same s58) (wd9 _ _)) (by simp only [Ex.ht];omega) fun ρ' h1 h2=>?_
 have hk5:=hks ρ' h1 h2
 rw [hul',List.take_length] at hk5
 rw [kin_call hk5,hCu,←e]
 simp [ansK]
theorem st_upd{H:Hp}{lf lm b:Addr}{o:HO}(h:St H lf lm)(n1:b≠lf)(n2:b≠lm):St (upd H b o) lf lm:=by
 obtain⟨f,⟨m,e⟩,n⟩:=h
 exact⟨fd_upd f (Ne.symm n1),⟨m,by rw [upd_ne (Ne.symm n2)];exact e⟩,n⟩
theorem scLet:FnScope ["_law_kind","_law_scope","_law_desk_here","_law_deep","_law_other","_law_x","_law_inner","_law_one"] ["_law_kind","_law_scope","_law_desk_here","_law_deep"] (defScope sLet):=⟨rfl,rfl,rfl,by decide +kernel,rfl,by decide +kernel,by decide +kernel⟩
set_option maxHeartbeats 0 in
theorem ok_let{n l:Nat}{f fO fT fY:Addr}{fd fdO fdT fdY:FuncData} (F:Fun K "_law_let" "_law_let" sLet f fd) (md:mg "dict"=none) (hl:3≤l) (GO:FnOk P w K mg base CX0 l fO fdO ["_law_kind","_law_scope","_law_desk_here","_law_deep"] (spOf K n)) (bO:Binds K fdO ["_law_kind","_law_scope","_law_desk_here","_law_deep"] []) (kO:PySem.W.keepIn K (.ref fO)=true) (mO:mg "_law_of"=some (.ref fO))
  (GT:FnOk P w K mg base CX0 1 fT fdT ["_law_feed_here","_law_many"] spTake) (bT:Binds K fdT ["_law_feed_here","_law_many"] []) (kT:PySem.W.keepIn K (.ref fT)=true) (mT:mg "_law_take"=some (.ref fT))
  (GY:FnOk P w K mg base CX0 2 fY fdY ["_law_desk_here"] (spAny K)) (bY:Binds K fdY ["_law_desk_here"] []) (kY:PySem.W.keepIn K (.ref fY)=true) (mY:mg "_law_any"=some (.ref fY)):FnOk P w K mg base CX0 (l+1) f fd ["_law_kind","_law_scope","_law_desk_here","_law_deep"] (spOf K (n+1)):=by
 refine F.ok (k:=l) scLet (fun vs H Q E h=>?_) (fun cdv A outer s H vs Q E hrO h=>?_)
 ·obtain⟨_,_,_,_,_,_,_,_,_,_,_,_,_,_,rfl,_⟩:=h
  rfl
 obtain⟨x,d,ad,lf,lm,lw,lp,lt,c,p,C,ρ,m,k,rfl,hst,hdk,hsc,hm,hx,hk,q⟩:=h
 have hu:=hu_of hrO
 have hrT:Room 1 _:=hrO.mono (by omega)
 have hrY:Room 2 _:=hrO.mono (by omega)
 refine⟨_,@pss_cons _ _ _ _ _ (ps_set (i:=4) scLet.nd rfl (Or.inl rfl) (pe_call GY hrY rfl mY kY bY .nil pass0 (@pa_cons _ _ _ _ _ (pv 2) pa_nil rfl))) (@pss_cons _ _ _ _ _ (ps_set (i:=5) scLet.nd rfl (Or.inl rfl) (pe_ix ix_list (pe_ix ix_tup (pv 2) pe_int (fun _ _=>rfl)) (pe_call GT hrT rfl mT kT bT .nil pass0 (@pa_cons _ _ _ _ _ (pe_ix ix_tup (pv 2) pe_int (fun _ _=>rfl)) (@pa_cons _ _ _ _ _ pe_int pa_nil rfl) rfl)) (fun _ _=>rfl))) (@pss_cons _ _ _ _ _ (ps_set (i:=6) scLet.nd rfl (Or.inl rfl) (pe_callTy call_dict_dK rfl md bootDict (@pa_cons _ _ _ _ _ (pv 1) pa_nil rfl))) (@pss_cons _ _ _ _ _ (ps_dput hu (pv 6) (pv 5) (pv 4) rfl) (@pss_cons _ _ _ _ _ (ps_set (i:=7) scLet.nd rfl (Or.inl rfl) (pe_call GO hrO rfl mO kO bO .nil pass0 (@pa_cons _ _ _ _ _ (pv 4) (@pa_cons _ _ _ _ _ (pv 1) (@pa_cons _ _ _ _ _ (pv 2) (@pa_cons _ _ _ _ _ (pe_op op_sub (pv 3) pe_int) pa_nil rfl) rfl) rfl) rfl))) (@pss_one _ _ _ (@ps_ret _ _ _ _ (@pe_tup _ _ _ _ _ (@pa_cons _ _ _ _ _ pe_str (@pa_cons _ _ _ _ _ (pv 5) (@pa_cons _ _ _ _ _ (pv 7) (@pa_cons _ _ _ _ _ (pe_call GO hrO rfl mO kO bO .nil pass0 (@pa_cons _ _ _ _ _ (pv 0) (@pa_cons _ _ _ _ _ (pv 6) (@pa_cons _ _ _ _ _ (pv 2) (@pa_cons _ _ _ _ _ (pe_op op_sub (pv 3) pe_int) pa_nil rfl) rfl) rfl) rfl)) pa_nil rfl) rfl) rfl) rfl)))))))),?_⟩
 refine⟨_,rfl,ad,lf,lm,lw,lp,lt,c,p,C,rfl,hst,hdk,fun H1 xo ko st1 s1 ho hpo=>?_⟩
 have hta:=SqT.of (K:=K) (zo_same _ _ (hdk.same s1).tup)
 refine⟨_,rfl,ad,_,_,_,rfl,rfl,hta,at2,_,rfl,ad,_,_,_,rfl,rfl,hta,at0,lf,7,rfl,st1.1,by decide,by decide,fun H2 r f2 s2 r0 r7=>?_⟩
 obtain⟨i,rfl⟩:∃i:Nat,r=(i:Int):=⟨r.toNat,by omega⟩
 have hi:i < 7:=by omega
 obtain⟨st2,n2⟩:=st1.take f2 s2
 have s12:=s1.trans n2
 refine⟨lw,_,_,_,rfl,rfl,SqL.of (zo_same _ _ (s12 _ _ hdk.words)),wl_at c (by omega) (by omega),?_⟩
 obtain⟨kvs,hd1,hrest⟩:=hsc.same s12
 refine⟨_,rfl,d,kvs,rfl,zo_same _ _ hd1,fun di hdi=>?_⟩
 have ndf:di≠lf:=fun e=>fd_some st2.1 (by rw [←e];exact hdi)
 have ndm:di≠lm:=fun e=>st2.ne lm (by simp) (by rw [←e];exact hdi)
 refine⟨_,rfl,_,rfl,_,rfl,di,_,rfl,DPut.k (k:=.inr (wd c (i:Int))) upd_same (small1000 (by have:=hrest.1;omega)),?_⟩
 have s23:Same (zo H2 [lf,lm]) (zo (upd (upd H2 di (.dK kvs)) di (.dK (putK kvs (.inr (wd c (i:Int))) xo))) [lf,lm]):=zo_mono (sput (same_new hdi _) hdi)
 have st3:St (upd (upd H2 di (.dK kvs)) di (.dK (putK kvs (.inr (wd c (i:Int))) xo))) lf lm:=st_upd (st_upd st2 ndf ndm) ndf ndm
 have hdi3:zo (upd (upd H2 di (.dK kvs)) di (.dK (putK kvs (.inr (wd c (i:Int))) xo))) [lf,lm] di=some (.dK (putK kvs (.inr (wd c (i:Int))) xo)):=by
  rw [zo_ne (by simp [ndf,ndm])]
  exact upd_same
 have sci:=ScAt.put hi hpo (ho.same (n2.trans s23)) s23 hdi3 hrest
 generalize upd (upd H2 di (.dK kvs)) di (.dK (putK kvs (.inr (wd c (i:Int))) xo))=H3 at s23 st3 sci ⊢
 have s13:=s12.trans s23
 refine⟨_,rfl,_,rfl,_,rfl,_,rfl,_,_,rfl,rfl,xo,d,ad,lf,lm,lw,lp,lt,c,p,C,ρ,m,ko,?_,st3,hdk.same s13,hsc.same s13,by omega,ho.same (n2.trans s23),hpo,fun H4 y4 e4 st4 s4 he4 hh4 hr4=>?_⟩
 ·rw [less1 (f:=fun i=>[xo,V.ref d,.ref ad,.int i])]
  rfl
 have s14:=s13.trans s4
 refine⟨_,rfl,_,rfl,_,rfl,_,rfl,_,rfl,_,rfl,_,_,rfl,rfl,x,di,ad,lf,lm,lw,lp,lt,c,p,C,_,m+1,k,?_,st4,hdk.same s14,sci.same s4,by omega,hx.same s14,hk,fun H5 y5 e5 st5 s5 he5 hh5 hr5=>?_⟩
 ·rw [less1 (f:=fun i=>[x,V.ref di,.ref ad,.int i])]
  rfl
 refine⟨(by show 4≤sizeLine;decide),fun pr hpr=>?_⟩
 obtain⟨st6,n6,g6⟩:=st5.nw hpr (.tup [.str "let",.str (wd c (i:Int)),y4,y5])
 exact q _ _ (.let_ (wd c (i:Int)) e4 e5) st6 (s14.trans (s5.trans n6)) (.let_ g6 (he4.same (s5.trans n6)) (he5.same n6)) (by simp only [Ex.ht];omega) (res_let hi hr4 hr5)
def spReck(K:PySem.W.Frag)(n:Nat):Sp:=fun vs H Q _=>∃(x:V) (d ad lf lm lw lp lt:Addr) (c:Int) (p:Nat→Kd) (C:Orc) (ρ:Str→Option Kd) (m:Nat) (k:Kd),vs=[x,.ref d,.ref ad,.int (n:Int)]∧Kd.isNum k=true∧St H lf lm∧DeskAt K (zo H [lf,lm]) ad lf lm lw lp lt c p C∧ScAt K (zo H [lf,lm]) d ρ c p m∧m+n≤150∧KAt K (zo H [lf,lm]) x k∧Pin p k ∧
 ∀H' y e,St H' lf lm→Same (zo H [lf,lm]) (zo H' [lf,lm])→ExAt (zo H' [lf,lm]) y e→e.ht≤2*n+4→Res C ρ c e (.ok k)→Q y H'
theorem scReck:FnScope ["_law_kind","_law_scope","_law_desk_here","_law_deep","_law_pick","_law_numbers","_law_sign","_law_one"] ["_law_kind","_law_scope","_law_desk_here","_law_deep"] (defScope sReck):=⟨rfl,rfl,rfl,by decide +kernel,rfl,by decide +kernel,by decide +kernel⟩
theorem num01{c:Int}{p:Nat→Kd}(h:Pool c p){r:Int}(r0:0≤r)(r2:r < 2):∃n,p r.toNat=.num n:=by
 have:r=0∨r=1:=by omega
 rcases this with rfl|rfl
 ·obtain⟨n,e,_⟩:=h.num
  exact⟨n,e⟩
 ·exact⟨2,h.two⟩
set_option maxHeartbeats 0 in
theorem ok_reck{n l:Nat}{f fO fT:Addr}{fd fdO fdT:FuncData} (F:Fun K "_law_reckoned" "_law_reckoned" sReck f fd) (hl:3≤l) (GO:FnOk P w K mg base CX0 l fO fdO ["_law_kind","_law_scope","_law_desk_here","_law_deep"] (spOf K n)) (bO:Binds K fdO ["_law_kind","_law_scope","_law_desk_here","_law_deep"] []) (kO:PySem.W.keepIn K (.ref fO)=true) (mO:mg "_law_of"=some (.ref fO))
  (GT:FnOk P w K mg base CX0 1 fT fdT ["_law_feed_here","_law_many"] spTake) (bT:Binds K fdT ["_law_feed_here","_law_many"] []) (kT:PySem.W.keepIn K (.ref fT)=true) (mT:mg "_law_take"=some (.ref fT)):FnOk P w K mg base CX0 (l+1) f fd ["_law_kind","_law_scope","_law_desk_here","_law_deep"] (spReck K (n+1)):=by
 refine F.ok (k:=l) scReck (fun vs H Q E h=>?_) (fun cdv A outer s H vs Q E hrO h=>?_)
 ·obtain⟨_,_,_,_,_,_,_,_,_,_,_,_,_,_,rfl,_⟩:=h
  rfl
 obtain⟨x,d,ad,lf,lm,lw,lp,lt,c,p,C,ρ,m,k,rfl,hnum,hst,hdk,hsc,hm,hx,hk,q⟩:=h
 have hrT:Room 1 _:=hrO.mono (by omega)
 obtain⟨nn,rfl⟩:=is_num hnum
 obtain⟨px,rfl,hpx⟩:=num_tup hx.1
 have tad:∀{H1:Hp},Same (zo H [lf,lm]) (zo H1 [lf,lm])→SqT K H1 ad [.ref lf,.ref lp,.ref lw,.ref lt,.ref lm]:=fun s1=>SqT.of (zo_same _ _ (s1 _ _ hdk.tup))
 have tpx:∀{H1:Hp},Same (zo H [lf,lm]) (zo H1 [lf,lm])→SqT K H1 px [.str "num",.int nn]:=fun s1=>zo_same.tup (s1.tup hpx)
 obtain⟨t4,d4,k4⟩:∃t,PSs (cxOf CX0 P w K mg base ["_law_kind","_law_scope","_law_desk_here","_law_deep","_law_pick","_law_numbers","_law_sign","_law_one"] "_law_reckoned" (defScope sReck) f cdv A outer s H E).nox (List.drop 4 (defBody sReck)) t ∧
   ∀(D:Ends) (H3:Hp) (v4 v5:Option V),D.rt=Q→St H3 lf lm→Same (zo H [lf,lm]) (zo H3 [lf,lm]) →
    t D [some (.ref px),some (.ref d),some (.ref ad),some (.int ((n+1:Nat):Int)),v4,v5,none,none] H3:=by
  refine⟨_,@pss_cons _ _ _ _ _ (ps_set (i:=6) scReck.nd rfl (Or.inl rfl) (pe_ix ix_str pe_str (pe_call GT hrT rfl mT kT bT .nil pass0 (@pa_cons _ _ _ _ _ (pe_ix ix_tup (pv 2) pe_int (fun _ _=>rfl)) (@pa_cons _ _ _ _ _ pe_int pa_nil rfl) rfl)) (fun _ _=>rfl))) (@pss_cons _ _ _ _ _ (ps_set (i:=7) scReck.nd rfl (Or.inl rfl) (pe_call GO hrO rfl mO kO bO .nil pass0 (@pa_cons _ _ _ _ _ (pv 0) (@pa_cons _ _ _ _ _ (pv 1) (@pa_cons _ _ _ _ _ (pv 2) (@pa_cons _ _ _ _ _ (pe_op op_sub (pv 3) pe_int) pa_nil rfl) rfl) rfl) rfl))) (@pss_one _ _ _ (@ps_ret _ _ _ _ (@pe_tup _ _ _ _ _ (@pa_cons _ _ _ _ _ pe_str (@pa_cons _ _ _ _ _ (pv 6) (@pa_cons _ _ _ _ _ (pe_ix ix_tup (pv 0) pe_int (fun _ _=>rfl)) (@pa_cons _ _ _ _ _ (pv 7) (@pa_cons _ _ _ _ _ (pe_call GO hrO rfl mO kO bO .nil pass0 (@pa_cons _ _ _ _ _ (pv 0) (@pa_cons _ _ _ _ _ (pv 1) (@pa_cons _ _ _ _ _ (pv 2) (@pa_cons _ _ _ _ _ (pe_op op_sub (pv 3) pe_int) pa_nil rfl) rfl) rfl) rfl)) pa_nil rfl) rfl) rfl) rfl) rfl))))),?_⟩
  intro D H3 v4 v5 hD st3 s3
  refine⟨_,rfl,ad,_,_,_,rfl,rfl,tad s3,at0,lf,3,rfl,st3.1,by decide,by decide,fun H4 r f4 s4 r0 r1=>?_⟩
  obtain⟨st4,n4⟩:=st3.take f4 s4
  have s34:=s3.trans n4
  obtain⟨g,hg⟩:=at_s (s:=Str.ofString "+-*") (n:=3) (by decide +kernel) r0 r1
  refine⟨_,_,g,rfl,rfl,(by decide +kernel),hg,?_⟩
  refine⟨_,rfl,_,rfl,_,rfl,_,rfl,_,_,rfl,rfl,.ref px,d,ad,lf,lm,lw,lp,lt,c,p,C,ρ,m,.num nn,?_,st4,hdk.same s34,hsc.same s34,by omega,hx.same s34,hk,fun H5 y5 e5 st5 s5 he5 hh5 hr5=>?_⟩
  ·rw [less1 (f:=fun i=>[V.ref px,V.ref d,.ref ad,.int i])]
   rfl
  have s35:=s34.trans s5
  refine⟨_,rfl,_,rfl,px,_,_,_,rfl,rfl,tpx s35,at1,_,rfl,_,rfl,_,rfl,_,rfl,_,rfl,_,_,rfl,rfl,.ref px,d,ad,lf,lm,lw,lp,lt,c,p,C,ρ,m,.num nn,?_,st5,hdk.same s35,hsc.same s35,by omega,hx.same s35,hk,fun H6 y6 e6 st6 s6 he6 hh6 hr6=>?_⟩
  ·rw [less1 (f:=fun i=>[V.ref px,V.ref d,.ref ad,.int i])]
   rfl
  refine⟨(by show 5≤sizeLine;decide),fun pr hpr=>?_⟩
  obtain⟨st7,n7,g7⟩:=st6.nw hpr (.tup [.str "op",.str ⟨#[g]⟩,.int nn,y5,y6])
  rw [hD]
  refine q _ _ (.nd (.op ⟨#[g]⟩ nn) [e5,e6]) st7 (s35.trans (s6.trans n7)) (.nd (xs:=[y5,y6]) g7 (.cons (he5.same (s6.trans n7)) (.cons (he6.same n7) .nil)) (not_lit nofun)) (by simp only [Ex.ht,hts,List.length_cons,List.length_nil];omega) fun ρ' h1 h2=>?_
  rw [kin_nd (kins_cons (hr5 ρ' h1 h2) (kins_cons (hr6 ρ' h1 h2) kins_nil))]
  show(if _ then _ else _)=_
  rw [if_pos rfl]
 obtain⟨t3,d3,k3⟩:∃t,PSs (cxOf CX0 P w K mg base ["_law_kind","_law_scope","_law_desk_here","_law_deep","_law_pick","_law_numbers","_law_sign","_law_one"] "_law_reckoned" (defScope sReck) f cdv A outer s H E).nox (List.drop 3 (defBody sReck)) t ∧
   ∀(D:Ends) (H3:Hp) (r:Int) (xn:V) (n':Int),D.rt=Q→St H3 lf lm→Same (zo H [lf,lm]) (zo H3 [lf,lm])→KAt K (zo H3 [lf,lm]) xn (.num n')→Pin p (.num n') →
    t D [some (.ref px),some (.ref d),some (.ref ad),some (.int ((n+1:Nat):Int)),some (.int r),some xn,none,none] H3:=by
  refine⟨_,@pss_cons _ _ _ _ _ (ps_if (PW.pt (pw_and (pt_cmpR op_eq (pv 4) pe_int (nomark _)) (pw_and1 (pt_cmpR op_eq (pe_ix ix_tup (pv 0) pe_int (fun _ _=>rfl)) pe_int (nomark _))))) (@pss_cons _ _ _ _ _ (ps_set (i:=6) scReck.nd rfl (Or.inl rfl) (pe_ix ix_str pe_str (pe_call GT hrT rfl mT kT bT .nil pass0 (@pa_cons _ _ _ _ _ (pe_ix ix_tup (pv 2) pe_int (fun _ _=>rfl)) (@pa_cons _ _ _ _ _ pe_int pa_nil rfl) rfl)) (fun _ _=>rfl))) (@pss_cons _ _ _ _ _ (ps_set (i:=7) scReck.nd rfl (Or.inl rfl) (pe_call GO hrO rfl mO kO bO .nil pass0 (@pa_cons _ _ _ _ _ (pv 5) (@pa_cons _ _ _ _ _ (pv 1) (@pa_cons _ _ _ _ _ (pv 2) (@pa_cons _ _ _ _ _ (pe_op op_sub (pv 3) pe_int) pa_nil rfl) rfl) rfl) rfl))) (@pss_one _ _ _ (@ps_ret _ _ _ _ (@pe_tup _ _ _ _ _ (@pa_cons _ _ _ _ _ pe_str (@pa_cons _ _ _ _ _ (pv 6) (@pa_cons _ _ _ _ _ (pv 7) (@pa_cons _ _ _ _ _ (pe_call GO hrO rfl mO kO bO .nil pass0 (@pa_cons _ _ _ _ _ (pv 5) (@pa_cons _ _ _ _ _ (pv 1) (@pa_cons _ _ _ _ _ (pv 2) (@pa_cons _ _ _ _ _ (pe_op op_sub (pv 3) pe_int) pa_nil rfl) rfl) rfl) rfl)) pa_nil rfl) rfl) rfl) rfl)))))) pss_nil) d4,?_⟩
  intro D H3 r0 xn n' hD st3 s3 hxn hpn
  have K4:=k4 D H3 (some (.int r0)) (some xn) hD st3 s3
  refine⟨_,rfl,rfl,_,rfl,ite2 (fun _=>?_) (fun _=>iteF (A:=True) K4)⟩
  refine⟨_,rfl,px,_,_,_,rfl,rfl,tpx s3,at1,rfl,_,rfl,ite2 (fun c2=>?_) (fun _=>K4)⟩
  obtain rfl:nn=2:=V.int.inj (of_decide_eq_true c2)
  refine⟨_,rfl,ad,_,_,_,rfl,rfl,tad s3,at0,lf,2,rfl,st3.1,by decide,by decide,fun H4 r f4 s4 r0 r1=>?_⟩
  obtain⟨st4,n4⟩:=st3.take f4 s4
  have s34:=s3.trans n4
  obtain⟨g,hg⟩:=at_s (s:=Str.ofString "=<") (n:=2) (by decide +kernel) r0 r1
  refine⟨_,_,g,rfl,rfl,(by decide +kernel),hg,?_⟩
  refine⟨_,rfl,_,rfl,_,rfl,_,rfl,_,_,rfl,rfl,xn,d,ad,lf,lm,lw,lp,lt,c,p,C,ρ,m,.num n',?_,st4,hdk.same s34,hsc.same s34,by omega,hxn.same n4,hpn,fun H5 y5 e5 st5 s5 he5 hh5 hr5=>?_⟩
  ·rw [less1 (f:=fun i=>[xn,V.ref d,.ref ad,.int i])]
   rfl
  have s35:=s34.trans s5
  refine⟨_,rfl,_,rfl,_,rfl,_,rfl,_,rfl,_,rfl,_,_,rfl,rfl,xn,d,ad,lf,lm,lw,lp,lt,c,p,C,ρ,m,.num n',?_,st5,hdk.same s35,hsc.same s35,by omega,hxn.same (n4.trans s5),hpn,fun H6 y6 e6 st6 s6 he6 hh6 hr6=>?_⟩
  ·rw [less1 (f:=fun i=>[xn,V.ref d,.ref ad,.int i])]
   rfl
  refine⟨(by show 4≤sizeLine;decide),fun pr hpr=>?_⟩
  obtain⟨st7,n7,g7⟩:=st6.nw hpr (.tup [.str "test",.str ⟨#[g]⟩,y5,y6])
  show D.rt _ _
  rw [hD]
  refine q _ _ (.nd (.test ⟨#[g]⟩) [e5,e6]) st7 (s35.trans (s6.trans n7)) (.nd (xs:=[y5,y6]) g7 (.cons (he5.same (s6.trans n7)) (.cons (he6.same n7) .nil)) (not_lit nofun)) (by simp only [Ex.ht,hts,List.length_cons,List.length_nil];omega) fun ρ' h1 h2=>?_
  rw [kin_nd (kins_cons (hr5 ρ' h1 h2) (kins_cons (hr6 ρ' h1 h2) kins_nil))]
  show(if _ then _ else _)=_
  rw [if_pos ⟨rfl,rfl⟩]
 refine⟨_,@pss_cons _ _ _ _ _ (ps_set (i:=4) scReck.nd rfl (Or.inl rfl) (pe_call GT hrT rfl mT kT bT .nil pass0 (@pa_cons _ _ _ _ _ (pe_ix ix_tup (pv 2) pe_int (fun _ _=>rfl)) (@pa_cons _ _ _ _ _ pe_int pa_nil rfl) rfl))) (@pss_cons _ _ _ _ _ (ps_set (i:=5) scReck.nd rfl (Or.inl rfl) (pe_ix ix_list (pe_ix ix_tup (pv 2) pe_int (fun _ _=>rfl)) (pe_call GT hrT rfl mT kT bT .nil pass0 (@pa_cons _ _ _ _ _ (pe_ix ix_tup (pv 2) pe_int (fun _ _=>rfl)) (@pa_cons _ _ _ _ _ pe_int pa_nil rfl) rfl)) (fun _ _=>rfl))) (@pss_cons _ _ _ _ _ (ps_if (pt_cmpR op_eq (pv 4) pe_int (nomark _)) (@pss_one _ _ _ (@ps_ret _ _ _ _ (@pe_tup _ _ _ _ _ (@pa_cons _ _ _ _ _ pe_str (@pa_cons _ _ _ _ _ (pe_ix ix_tup (pv 0) pe_int (fun _ _=>rfl)) (@pa_cons _ _ _ _ _ (pe_call GO hrO rfl mO kO bO .nil pass0 (@pa_cons _ _ _ _ _ (pv 5) (@pa_cons _ _ _ _ _ (pv 1) (@pa_cons _ _ _ _ _ (pv 2) (@pa_cons _ _ _ _ _ (pe_op op_sub (pv 3) pe_int) pa_nil rfl) rfl) rfl) rfl)) pa_nil rfl) rfl) rfl)))) pss_nil) d3)),?_⟩
 refine⟨_,rfl,ad,_,_,_,rfl,rfl,tad (Same.refl _),at0,lf,3,rfl,hst.1,by decide,by decide,fun H1 r f1 s1 r0 r1=>?_⟩
 obtain⟨st1,n1⟩:=hst.take f1 s1
 refine⟨_,rfl,ad,_,_,_,rfl,rfl,tad n1,at1,_,rfl,ad,_,_,_,rfl,rfl,tad n1,at0,lf,2,rfl,st1.1,by decide,by decide,fun H2 r2 f2 s2 a0 a1=>?_⟩
 obtain⟨st2,n2⟩:=st1.take f2 s2
 have s12:=n1.trans n2
 obtain⟨xv,hlp,hxv⟩:=(hdk.same s12).pool
 obtain⟨n',en⟩:=num01 hdk.pl a0 a1
 have hxn:=hxv r2.toNat (by omega)
 have hpn:Pin p (p r2.toNat):=⟨_,by omega,rfl⟩
 rw [en] at hxn hpn
 refine⟨lp,_,_,_,rfl,rfl,SqL.of (zo_same _ _ hlp),at5 a0 (by omega),?_⟩
 refine⟨_,rfl,rfl,_,rfl,ite2 (fun _=>?_) (fun _=>k3 _ H2 r (xv r2.toNat) n' rfl st2 s12 hxn hpn)⟩
 refine⟨_,rfl,px,_,_,_,rfl,rfl,tpx s12,at1,_,rfl,_,rfl,_,rfl,_,rfl,_,_,rfl,rfl,xv r2.toNat,d,ad,lf,lm,lw,lp,lt,c,p,C,ρ,m,.num n',?_,st2,hdk.same s12,hsc.same s12,by omega,hxn,hpn,fun H5 y5 e5 st5 s5 he5 hh5 hr5=>?_⟩
 ·rw [less1 (f:=fun i=>[xv r2.toNat,V.ref d,.ref ad,.int i])]
  rfl
 refine⟨(by show 3≤sizeLine;decide),fun pr hpr=>?_⟩
 obtain⟨st7,n7,g7⟩:=st5.nw hpr (.tup [.str "as",.int nn,y5])
 refine q _ _ (.nd (.as_ nn) [e5]) st7 (s12.trans (s5.trans n7)) (.nd (xs:=[y5]) g7 (.cons (he5.same n7) .nil) (not_lit nofun)) (by simp only [Ex.ht,hts,List.length_cons,List.length_nil];omega) fun ρ' h1 h2=>?_
 rw [kin_nd (kins_cons (hr5 ρ' h1 h2) kins_nil)]
 show(if Kd.isNum (Kd.num n')=true then R.ok (Kd.num nn) else R.no 2)=_
 rw [if_pos (show Kd.isNum (Kd.num n')=true from rfl)]
end
end K52
namespace K52
open PySem L2 Kk
theorem name_is{k:Kd} (h:decide (V.str (Kd.hd k)=V.str "name")=false) (h2:decide (V.str (Kd.hd k)=V.str "num")=false):∃a b,k=.pair a b:=by
 cases k with
 |num _=>exact absurd h2 (by show ¬decide (V.str "num"=V.str "num")=false;decide +kernel)
 |name _ _=>exact absurd h (by show ¬decide (V.str "name"=V.str "name")=false;decide +kernel)
 |pair a b=>exact⟨a,b,rfl⟩
theorem Pool.halves{c:Int}{p:Nat→Kd}(h:Pool c p){a b:Kd}(hk:Pin p (.pair a b)):Pin p a∧Pin p b:=by
 obtain⟨i,hi,e⟩:=hk
 have:i=0∨i=1∨i=2∨i=3∨i=4:=by omega
 rcases this with rfl|rfl|rfl|rfl|rfl
 ·obtain⟨n,e1,_⟩:=h.num
  rw [e1] at e;cases e
 ·rw [h.two] at e;cases e
 ·rw [h.hid] at e;cases e
 ·obtain⟨a',b',e1,⟨i,hi,_,ea⟩,j,hj,_,eb⟩:=h.pr
  rw [e1] at e
  cases e
  exact⟨⟨i,hi,ea⟩,j,hj,eb⟩
 ·obtain⟨j,_,_,e1⟩:=h.own
  rw [e1] at e;cases e
theorem Pool.bit{c:Int}{p:Nat→Kd}(h:Pool c p):Pin p (.num 2):=⟨1,by decide,h.two.symm⟩
theorem fm_two{a b:Kd}(h:a.words+b.words≤100∧a.words+b.words≤39):fmK 40 .two [a,b]=.ok (.pair a b):=by
 have e:(Kd.pair a b).words=1+a.words+b.words:=rfl
 unfold fmK
 simp only
 rw [if_neg (by omega),if_pos (by omega)]
theorem res_two{C:Orc}{ρ:Str→Option Kd}{c:Int}{e1 e2:Ex}{a b:Kd}(h1:Res C ρ c e1 (.ok a))(h2:Res C ρ c e2 (.ok b))(hw:a.words+b.words≤39):Res C ρ c (.nd .two [e1,e2]) (.ok (.pair a b)):=fun ρ' x y=>by
 rw [kin_nd (kins_cons (h1 ρ' x y) (kins_cons (h2 ρ' x y) kins_nil))]
 exact fm_two ⟨by omega,hw⟩
theorem res_fst{C:Orc}{ρ:Str→Option Kd}{c:Int}{e:Ex}{a b:Kd}(h:Res C ρ c e (.ok (.pair a b))):Res C ρ c (.nd .fst [e]) (.ok a):=fun ρ' x y=>by
 rw [kin_nd (kins_cons (h ρ' x y) kins_nil)]
 rfl
theorem res_snd{C:Orc}{ρ:Str→Option Kd}{c:Int}{e:Ex}{a b:Kd}(h:Res C ρ c e (.ok (.pair a b))):Res C ρ c (.nd .snd [e]) (.ok b):=fun ρ' x y=>by
 rw [kin_nd (kins_cons (h ρ' x y) kins_nil)]
 rfl
theorem res_if{C:Orc}{ρ:Str→Option Kd}{c:Int}{e0 e1 e2:Ex}{k:Kd}(h0:Res C ρ c e0 (.ok (.num 2)))(h1:Res C ρ c e1 (.ok k))(h2:Res C ρ c e2 (.ok k)):Res C ρ c (.nd .if_ [e0,e1,e2]) (.ok k):=fun ρ' x y=>by
 rw [kin_nd (kins_cons (h0 ρ' x y) (kins_cons (h1 ρ' x y) (kins_cons (h2 ρ' x y) kins_nil)))]
 show(if Kd.num 2=Kd.num 2 then (if k=k then R.ok k else R.no 2) else R.no 2)=_
 rw [if_pos rfl,if_pos rfl]
theorem at_4{a b c d e:V}:atI [a,b,c,d,e] 4=some e:=rfl
theorem st_less{H:Hp}{lf lm:Addr}(h:St H lf lm)(i:Int):St (upd H lm (.lst [.int i])) lf lm∧zo (upd H lm (.lst [.int i])) [lf,lm]=zo H [lf,lm]:=by
 obtain⟨f,⟨m,e⟩,n⟩:=h
 exact⟨⟨fd_upd f n,⟨i,upd_same⟩,n⟩,zo_upd (by simp)⟩
section
variable{P:Program}{w:World}{K:PySem.W.Frag}{mg:Str→Option Value}{base:Heap}
theorem scOf:FnScope ["_law_kind","_law_scope","_law_desk_here","_law_deep","_law_form","_law_truth","_law_one","_law_other"] ["_law_kind","_law_scope","_law_desk_here","_law_deep"] (defScope sOf):=⟨rfl,rfl,rfl,by decide +kernel,rfl,by decide +kernel,by decide +kernel⟩
set_option maxHeartbeats 0 in
theorem ok_of0{f fT fL:Addr}{fd fdT fdL:FuncData} (F:Fun K "_law_of" "_law_of" sOf f fd)
  (GT:FnOk P w K mg base CX0 1 fT fdT ["_law_feed_here","_law_many"] spTake) (bT:Binds K fdT ["_law_feed_here","_law_many"] []) (kT:PySem.W.keepIn K (.ref fT)=true) (mT:mg "_law_take"=some (.ref fT))
  (GL:FnOk P w K mg base CX0 2 fL fdL ["_law_kind","_law_scope","_law_desk_here"] (spLeaf K)) (bL:Binds K fdL ["_law_kind","_law_scope","_law_desk_here"] []) (kL:PySem.W.keepIn K (.ref fL)=true) (mL:mg "_law_leaf"=some (.ref fL)):FnOk P w K mg base CX0 3 f fd ["_law_kind","_law_scope","_law_desk_here","_law_deep"] (spOf K 0):=by
 refine F.ok (k:=2) scOf (fun vs H Q E h=>?_) (fun cdv A outer s H vs Q E hrL h=>?_)
 ·obtain⟨_,_,_,_,_,_,_,_,_,_,_,_,_,_,rfl,_⟩:=h
  rfl
 obtain⟨x,d,ad,lf,lm,lw,lp,lt,c,p,C,ρ,m,k,rfl,hst,hdk,hsc,hm,hx,hk,q⟩:=h
 have hrT:Room 1 _:=hrL.mono (by decide)
 have tad:∀{H1:Hp},Same (zo H [lf,lm]) (zo H1 [lf,lm])→SqT K H1 ad [.ref lf,.ref lp,.ref lw,.ref lt,.ref lm]:=fun s1=>SqT.of (zo_same _ _ (s1 _ _ hdk.tup))
 refine⟨_,@pss_cons _ _ _ _ _ (ps_asg (pe_op op_sub (pe_ix ix_list (pe_ix ix_tup (pv 2) pe_int (fun _ _=>rfl)) pe_int (fun _ _=>rfl)) pe_int) (pg_sub (pe_ix ix_tup (pv 2) pe_int (fun _ _=>rfl)) pe_int set_list)) (@pss_cons _ _ _ _ _ (ps_set (i:=4) scOf.nd rfl (Or.inl rfl) (pe_call GT hrT rfl mT kT bT .nil pass0 (@pa_cons _ _ _ _ _ (pe_ix ix_tup (pv 2) pe_int (fun _ _=>rfl)) (@pa_cons _ _ _ _ _ pe_int pa_nil rfl) rfl))) (@pss_cons _ _ _ _ _ (ps_if (PW.pt (pw_or (pt_cmpR op_eq (pv 3) pe_int (nomark _)) (pw_or (pt_cmpR op_eq (pv 4) pe_int (nomark _)) (pw_or1 (pt_cmpR op_lt (pe_ix ix_list (pe_ix ix_tup (pv 2) pe_int (fun _ _=>rfl)) pe_int (fun _ _=>rfl)) pe_int (nomark _)))))) (@pss_one _ _ _ (@ps_ret _ _ _ _ (pe_call GL hrL rfl mL kL bL .nil pass0 (@pa_cons _ _ _ _ _ (pv 0) (@pa_cons _ _ _ _ _ (pv 1) (@pa_cons _ _ _ _ _ (pv 2) pa_nil rfl) rfl) rfl)))) pss_nil) pss_no)),?_⟩
 obtain⟨mm,hlm⟩:=hst.2.1
 refine⟨_,rfl,ad,_,_,_,rfl,rfl,tad (Same.refl _),at_4,lm,_,_,_,rfl,rfl,SqL.of hlm,at0,_,_,rfl,rfl,?_⟩
 refine⟨_,rfl,ad,_,_,_,rfl,rfl,tad (Same.refl _),at_4,lm,_,0,0,rfl,rfl,hlm,rfl,?_⟩
 obtain⟨st1,z1⟩:=st_less hst (mm - 1)
 have s1:Same (zo H [lf,lm]) (zo (upd H lm (.lst [.int (mm - 1)])) [lf,lm]):=by rw [z1];exact Same.refl _
 refine⟨_,rfl,ad,_,_,_,rfl,rfl,tad s1,at0,lf,8,rfl,st1.1,by decide,by decide,fun H2 fm f2 s2 f0 f8=>?_⟩
 obtain⟨st2,n2⟩:=st1.take f2 s2
 have s12:=s1.trans n2
 refine⟨_,rfl,rfl,_,rfl,ite2 (fun _=>?_) (fun c=>absurd (show decide (V.int ((0:Nat):Int)=V.int 0)=true from decide_eq_true rfl) c)⟩
 refine⟨_,rfl,_,rfl,_,rfl,x,d,ad,lf,lm,lw,lp,lt,c,p,C,ρ,m,k,rfl,st2,hdk.same s12,hsc.same s12,by omega,hx.same s12,hk,fun H3 y e st3 s3 he hh hr=>?_⟩
 exact q _ _ e st3 (s12.trans s3) he (by omega) hr
set_option maxHeartbeats 0 in
theorem ok_ofS{n l:Nat}{f fO fT fL fQ fR fE fY:Addr}{fd fdO fdT fdL fdQ fdR fdE fdY:FuncData} (F:Fun K "_law_of" "_law_of" sOf f fd) (hl:3≤l)
  (GO:FnOk P w K mg base CX0 l fO fdO ["_law_kind","_law_scope","_law_desk_here","_law_deep"] (spOf K n)) (bO:Binds K fdO ["_law_kind","_law_scope","_law_desk_here","_law_deep"] []) (kO:PySem.W.keepIn K (.ref fO)=true) (mO:mg "_law_of"=some (.ref fO))
  (GT:FnOk P w K mg base CX0 1 fT fdT ["_law_feed_here","_law_many"] spTake) (bT:Binds K fdT ["_law_feed_here","_law_many"] []) (kT:PySem.W.keepIn K (.ref fT)=true) (mT:mg "_law_take"=some (.ref fT))
  (GL:FnOk P w K mg base CX0 2 fL fdL ["_law_kind","_law_scope","_law_desk_here"] (spLeaf K)) (bL:Binds K fdL ["_law_kind","_law_scope","_law_desk_here"] []) (kL:PySem.W.keepIn K (.ref fL)=true) (mL:mg "_law_leaf"=some (.ref fL))
  (GQ:FnOk P w K mg base CX0 (l+1) fQ fdQ ["_law_kind","_law_scope","_law_desk_here","_law_deep"] (spOf K (n+1))) (bQ:Binds K fdQ ["_law_kind","_law_scope","_law_desk_here","_law_deep"] []) (kQ:PySem.W.keepIn K (.ref fQ)=true) (mQ:mg "_law_call"=some (.ref fQ))
  (GR:FnOk P w K mg base CX0 (l+1) fR fdR ["_law_kind","_law_scope","_law_desk_here","_law_deep"] (spReck K (n+1))) (bR:Binds K fdR ["_law_kind","_law_scope","_law_desk_here","_law_deep"] []) (kR:PySem.W.keepIn K (.ref fR)=true) (mR:mg "_law_reckoned"=some (.ref fR))
  (GE:FnOk P w K mg base CX0 (l+1) fE fdE ["_law_kind","_law_scope","_law_desk_here","_law_deep"] (spOf K (n+1))) (bE:Binds K fdE ["_law_kind","_law_scope","_law_desk_here","_law_deep"] []) (kE:PySem.W.keepIn K (.ref fE)=true) (mE:mg "_law_let"=some (.ref fE))
  (GY:FnOk P w K mg base CX0 2 fY fdY ["_law_desk_here"] (spAny K)) (bY:Binds K fdY ["_law_desk_here"] []) (kY:PySem.W.keepIn K (.ref fY)=true) (mY:mg "_law_any"=some (.ref fY)):FnOk P w K mg base CX0 (l+2) f fd ["_law_kind","_law_scope","_law_desk_here","_law_deep"] (spOf K (n+1)):=by
 refine F.ok (k:=l+1) scOf (fun vs H Q E h=>?_) (fun cdv A outer s H vs Q E hrQ h=>?_)
 ·obtain⟨_,_,_,_,_,_,_,_,_,_,_,_,_,_,rfl,_⟩:=h
  rfl
 obtain⟨x,d,ad,lf,lm,lw,lp,lt,c,p,C,ρ,m,k,rfl,hst,hdk,hsc,hm,hx,hk,q⟩:=h
 have hrT:Room 1 _:=hrQ.mono (by omega)
 have hrL:Room 2 _:=hrQ.mono (by omega)
 have hrY:Room 2 _:=hrL
 have hrO:Room l _:=hrQ.mono (by omega)
 have hrR:=hrQ
 have hrE:=hrQ
 have tad:∀{H1:Hp},Same (zo H [lf,lm]) (zo H1 [lf,lm])→SqT K H1 ad [.ref lf,.ref lp,.ref lw,.ref lt,.ref lm]:=fun s1=>SqT.of (zo_same _ _ (s1 _ _ hdk.tup))
 obtain⟨px,pxs,ex,hpx⟩:=kd_tup hx.1
 obtain⟨t8,d8,k8⟩:∃t,PSs (cxOf CX0 P w K mg base ["_law_kind","_law_scope","_law_desk_here","_law_deep","_law_form","_law_truth","_law_one","_law_other"] "_law_of" (defScope sOf) f cdv A outer s H E).nox (List.drop 8 (defBody sOf)) t ∧
   ∀(D:Ends) (H3:Hp) (fm:Int) (a b:Kd),D.rt=Q→k=.pair a b→St H3 lf lm→Same (zo H [lf,lm]) (zo H3 [lf,lm]) →
    t D [some x,some (.ref d),some (.ref ad),some (.int ((n+1:Nat):Int)),some (.int fm),none,none,none] H3:=by
  refine⟨_,@pss_cons _ _ _ _ _ (ps_set (i:=6) scOf.nd rfl (Or.inl rfl) (pe_call GO hrO rfl mO kO bO .nil pass0 (@pa_cons _ _ _ _ _ (pe_ix ix_tup (pv 0) pe_int (fun _ _=>rfl)) (@pa_cons _ _ _ _ _ (pv 1) (@pa_cons _ _ _ _ _ (pv 2) (@pa_cons _ _ _ _ _ (pe_op op_sub (pv 3) pe_int) pa_nil rfl) rfl) rfl) rfl))) (@pss_one _ _ _ (@ps_ret _ _ _ _ (@pe_tup _ _ _ _ _ (@pa_cons _ _ _ _ _ pe_str (@pa_cons _ _ _ _ _ (pv 6) (@pa_cons _ _ _ _ _ (pe_call GO hrO rfl mO kO bO .nil pass0 (@pa_cons _ _ _ _ _ (pe_ix ix_tup (pv 0) pe_int (fun _ _=>rfl)) (@pa_cons _ _ _ _ _ (pv 1) (@pa_cons _ _ _ _ _ (pv 2) (@pa_cons _ _ _ _ _ (pe_op op_sub (pv 3) pe_int) pa_nil rfl) rfl) rfl) rfl)) pa_nil rfl) rfl) rfl)))),?_⟩
  intro D H3 fm a b hD ek st3 s3
  subst ek
  obtain⟨pa,y,z,rfl,hpa,hya,hzb⟩:=pair_tup hx.1
  obtain⟨pin1,pin2⟩:=hdk.pl.halves hk
  have w3:=hdk.pl.words hk
  have ew:(Kd.pair a b).words=1+a.words+b.words:=rfl
  have ka:KAt K (zo H [lf,lm]) y a:=⟨hya,hx.2.1.1,by have:=hx.2.2;omega⟩
  have kb:KAt K (zo H [lf,lm]) z b:=⟨hzb,hx.2.1.2,by have:=hx.2.2;omega⟩
  have tpa:∀{H1:Hp},Same (zo H [lf,lm]) (zo H1 [lf,lm])→SqT K H1 pa [.str "pair",y,z]:=fun s1=>zo_same.tup (s1.tup hpa)
  refine⟨_,rfl,pa,_,_,_,rfl,rfl,tpa s3,at1,_,rfl,_,rfl,_,rfl,_,_,rfl,rfl,y,d,ad,lf,lm,lw,lp,lt,c,p,C,ρ,m,a,?_,st3,hdk.same s3,hsc.same s3,by omega,ka.same s3,pin1,fun H4 y4 e4 st4 s4 he4 hh4 hr4=>?_⟩
  ·rw [less1 (f:=fun i=>[y,V.ref d,.ref ad,.int i])]
   rfl
  have s34:=s3.trans s4
  refine⟨_,rfl,_,rfl,pa,_,_,_,rfl,rfl,tpa s34,at2,_,rfl,_,rfl,_,rfl,_,_,rfl,rfl,z,d,ad,lf,lm,lw,lp,lt,c,p,C,ρ,m,b,?_,st4,hdk.same s34,hsc.same s34,by omega,kb.same s34,pin2,fun H5 y5 e5 st5 s5 he5 hh5 hr5=>?_⟩
  ·rw [less1 (f:=fun i=>[z,V.ref d,.ref ad,.int i])]
   rfl
  refine⟨(by show 3≤sizeLine;decide),fun pr hpr=>?_⟩
  obtain⟨st6,n6,g6⟩:=st5.nw hpr (.tup [.str "two",y4,y5])
  rw [hD]
  exact q _ _ (.nd .two [e4,e5]) st6 (s34.trans (s5.trans n6)) (.nd (xs:=[y4,y5]) g6 (.cons (he4.same (s5.trans n6)) (.cons (he5.same n6) .nil)) (not_lit nofun)) (by simp only [Ex.ht,hts,List.length_cons,List.length_nil];omega) (res_two hr4 hr5 (by omega))
 obtain⟨tQ,dQ,kkQ⟩:∃t,PSs (cxOf CX0 P w K mg base ["_law_kind","_law_scope","_law_desk_here","_law_deep","_law_form","_law_truth","_law_one","_law_other"] "_law_of" (defScope sOf) f cdv A outer s H E).nox (ifT ((defBody sOf).getD 6 dS)) t ∧
   ∀(D:Ends) (H3:Hp) (fm:Int),D.rt=Q→St H3 lf lm→Same (zo H [lf,lm]) (zo H3 [lf,lm]) →
    t D [some x,some (.ref d),some (.ref ad),some (.int ((n+1:Nat):Int)),some (.int fm),none,none,none] H3:=by
  refine⟨_,@pss_one _ _ _ (@ps_ret _ _ _ _ (pe_call GQ hrQ rfl mQ kQ bQ .nil pass0 (@pa_cons _ _ _ _ _ (pv 0) (@pa_cons _ _ _ _ _ (pv 1) (@pa_cons _ _ _ _ _ (pv 2) (@pa_cons _ _ _ _ _ (pv 3) pa_nil rfl) rfl) rfl) rfl))),?_⟩
  intro D H3 fm hD st3 s3
  refine⟨_,rfl,_,rfl,_,rfl,_,rfl,x,d,ad,lf,lm,lw,lp,lt,c,p,C,ρ,m,k,rfl,st3,hdk.same s3,hsc.same s3,hm,hx.same s3,hk,fun H4 y e st4 s4 he hh hr=>?_⟩
  rw [hD]
  exact q _ _ e st4 (s3.trans s4) he hh hr
 obtain⟨t6,d6,k6⟩:∃t,PSs (cxOf CX0 P w K mg base ["_law_kind","_law_scope","_law_desk_here","_law_deep","_law_form","_law_truth","_law_one","_law_other"] "_law_of" (defScope sOf) f cdv A outer s H E).nox (List.drop 6 (defBody sOf)) t ∧
   ∀(D:Ends) (H3:Hp) (fm:Int),D.rt=Q→St H3 lf lm→Same (zo H [lf,lm]) (zo H3 [lf,lm]) →
    t D [some x,some (.ref d),some (.ref ad),some (.int ((n+1:Nat):Int)),some (.int fm),none,none,none] H3:=by
  refine⟨_,@pss_cons _ _ _ _ _ (ps_if (PW.pt (pw_or (pt_cmpR op_eq (pv 4) pe_int (nomark _)) (pw_or1 (pt_cmpR op_eq (pe_ix ix_tup (pv 0) pe_int (fun _ _=>rfl)) pe_str (nomark _))))) dQ pss_nil) (@pss_cons _ _ _ _ _ (ps_if (pt_cmpR op_eq (pe_ix ix_tup (pv 0) pe_int (fun _ _=>rfl)) pe_str (nomark _)) (@pss_one _ _ _ (@ps_ret _ _ _ _ (pe_call GR hrR rfl mR kR bR .nil pass0 (@pa_cons _ _ _ _ _ (pv 0) (@pa_cons _ _ _ _ _ (pv 1) (@pa_cons _ _ _ _ _ (pv 2) (@pa_cons _ _ _ _ _ (pv 3) pa_nil rfl) rfl) rfl) rfl)))) pss_nil) d8),?_⟩
  intro D H3 fm hD st3 s3
  have tpx:SqT K H3 px (.str (Kd.hd k)::pxs):=zo_same.tup (s3.tup hpx)
  subst ex
  refine⟨_,rfl,rfl,_,rfl,ite2 (fun _=>kkQ _ H3 fm hD st3 s3) (fun _=>?_)⟩
  refine⟨_,rfl,px,_,_,_,rfl,rfl,tpx,at0,rfl,_,rfl,ite2 (fun _=>kkQ _ H3 fm hD st3 s3) (fun c1=>?_)⟩
  refine⟨_,rfl,px,_,_,_,rfl,rfl,tpx,at0,rfl,_,rfl,ite2 (fun c2=>?_) (fun c2=>?_)⟩
  ·have hn:Kd.isNum k=true:=(hd_num k).symm.trans c2
   refine⟨_,rfl,_,rfl,_,rfl,_,rfl,.ref px,d,ad,lf,lm,lw,lp,lt,c,p,C,ρ,m,k,rfl,hn,st3,hdk.same s3,hsc.same s3,hm,hx.same s3,hk,fun H4 y e st4 s4 he hh hr=>?_⟩
   show D.rt _ _
   rw [hD]
   exact q _ _ e st4 (s3.trans s4) he hh hr
  ·obtain⟨a,b,ek⟩:=name_is (Bool.eq_false_iff.mpr c1) (Bool.eq_false_iff.mpr c2)
   exact k8 D H3 fm a b hD ek st3 s3
 obtain⟨tH,dH,kH⟩:∃t,PSs (cxOf CX0 P w K mg base ["_law_kind","_law_scope","_law_desk_here","_law_deep","_law_form","_law_truth","_law_one","_law_other"] "_law_of" (defScope sOf) f cdv A outer s H E).nox (ifT ((defBody sOf).getD 5 dS)) t ∧
   ∀(D:Ends) (H3:Hp) (fm:Int),D.rt=Q→St H3 lf lm→Same (zo H [lf,lm]) (zo H3 [lf,lm]) →
    t D [some x,some (.ref d),some (.ref ad),some (.int ((n+1:Nat):Int)),some (.int fm),none,none,none] H3:=by
  refine⟨_,@pss_cons _ _ _ _ _ (ps_set (i:=6) scOf.nd rfl (Or.inl rfl) (pe_call GO hrO rfl mO kO bO .nil pass0 (@pa_cons _ _ _ _ _ (pv 0) (@pa_cons _ _ _ _ _ (pv 1) (@pa_cons _ _ _ _ _ (pv 2) (@pa_cons _ _ _ _ _ (pe_op op_sub (pv 3) pe_int) pa_nil rfl) rfl) rfl) rfl))) (@pss_cons _ _ _ _ _ (ps_set (i:=7) scOf.nd rfl (Or.inl rfl) (pe_call GO hrO rfl mO kO bO .nil pass0 (@pa_cons _ _ _ _ _ (pe_call GY hrY rfl mY kY bY .nil pass0 (@pa_cons _ _ _ _ _ (pv 2) pa_nil rfl)) (@pa_cons _ _ _ _ _ (pv 1) (@pa_cons _ _ _ _ _ (pv 2) (@pa_cons _ _ _ _ _ (pe_op op_sub (pv 3) pe_int) pa_nil rfl) rfl) rfl) rfl))) (@pss_cons _ _ _ _ _ (ps_if (pt_cmpR op_eq (pv 4) pe_int (nomark _)) (@pss_one _ _ _ (@ps_ret _ _ _ _ (@pe_tup _ _ _ _ _ (@pa_cons _ _ _ _ _ pe_str (@pa_cons _ _ _ _ _ (@pe_tup _ _ _ _ _ (@pa_cons _ _ _ _ _ pe_str (@pa_cons _ _ _ _ _ (pv 6) (@pa_cons _ _ _ _ _ (pv 7) pa_nil rfl) rfl) rfl)) pa_nil rfl) rfl)))) pss_nil) (@pss_one _ _ _ (@ps_ret _ _ _ _ (@pe_tup _ _ _ _ _ (@pa_cons _ _ _ _ _ pe_str (@pa_cons _ _ _ _ _ (@pe_tup _ _ _ _ _ (@pa_cons _ _ _ _ _ pe_str (@pa_cons _ _ _ _ _ (pv 7) (@pa_cons _ _ _ _ _ (pv 6) pa_nil rfl) rfl) rfl)) pa_nil rfl) rfl)))))),?_⟩
  intro D H3 fm hD st3 s3
  refine⟨_,rfl,_,rfl,_,rfl,_,rfl,_,_,rfl,rfl,x,d,ad,lf,lm,lw,lp,lt,c,p,C,ρ,m,k,?_,st3,hdk.same s3,hsc.same s3,by omega,hx.same s3,hk,fun H4 y4 e4 st4 s4 he4 hh4 hr4=>?_⟩
  ·rw [less1 (f:=fun i=>[x,V.ref d,.ref ad,.int i])]
   rfl
  have s34:=s3.trans s4
  refine⟨_,rfl,ad,lf,lm,lw,lp,lt,c,p,C,rfl,st4,hdk.same s34,fun H5 xo ko st5 s5 ho hpo=>?_⟩
  have s35:=s34.trans s5
  refine⟨_,rfl,_,rfl,_,rfl,_,_,rfl,rfl,xo,d,ad,lf,lm,lw,lp,lt,c,p,C,ρ,m,ko,?_,st5,hdk.same s35,hsc.same s35,by omega,ho,hpo,fun H6 y6 e6 st6 s6 he6 hh6 hr6=>?_⟩
  ·rw [less1 (f:=fun i=>[xo,V.ref d,.ref ad,.int i])]
   rfl
  have w1:=hdk.pl.words hk
  have w2:=hdk.pl.words hpo
  have s36:=s35.trans s6
  refine⟨_,rfl,rfl,_,rfl,ite2 (fun _=>?_) (fun _=>?_)⟩
  ·refine⟨_,rfl,_,rfl,(by show 3≤sizeLine;decide),fun p1 h1=>⟨(by show 2≤sizeLine;decide),fun p2 h2=>?_⟩⟩
   obtain⟨st7,n7,g7⟩:=st6.nw h1 (.tup [.str "two",y4,y6])
   obtain⟨st8,n8,g8⟩:=st7.nw h2 (.tup [.str "first",.ref p1])
   have n78:=n7.trans n8
   show D.rt _ _
   rw [hD]
   exact q _ _ (.nd .fst [.nd .two [e4,e6]]) st8 (s36.trans n78) (.nd (xs:=[.ref p1]) g8 (.cons (.nd (xs:=[y4,y6]) (n8 _ _ g7) (.cons (he4.same (s5.trans (s6.trans n78))) (.cons (he6.same n78) .nil)) (not_lit nofun)) .nil) (not_lit nofun)) (by simp only [Ex.ht,hts,List.length_cons,List.length_nil];omega) (res_fst (res_two hr4 hr6 (by omega)))
  ·refine⟨_,rfl,_,rfl,(by show 3≤sizeLine;decide),fun p1 h1=>⟨(by show 2≤sizeLine;decide),fun p2 h2=>?_⟩⟩
   obtain⟨st7,n7,g7⟩:=st6.nw h1 (.tup [.str "two",y6,y4])
   obtain⟨st8,n8,g8⟩:=st7.nw h2 (.tup [.str "second",.ref p1])
   have n78:=n7.trans n8
   show D.rt _ _
   rw [hD]
   exact q _ _ (.nd .snd [.nd .two [e6,e4]]) st8 (s36.trans n78) (.nd (xs:=[.ref p1]) g8 (.cons (.nd (xs:=[y6,y4]) (n8 _ _ g7) (.cons (he6.same n78) (.cons (he4.same (s5.trans (s6.trans n78))) .nil)) (not_lit nofun)) .nil) (not_lit nofun)) (by simp only [Ex.ht,hts,List.length_cons,List.length_nil];omega) (res_snd (res_two hr6 hr4 (by omega)))
 obtain⟨t3,d3,k3⟩:∃t,PSs (cxOf CX0 P w K mg base ["_law_kind","_law_scope","_law_desk_here","_law_deep","_law_form","_law_truth","_law_one","_law_other"] "_law_of" (defScope sOf) f cdv A outer s H E).nox (List.drop 3 (defBody sOf)) t ∧
   ∀(D:Ends) (H3:Hp) (fm:Int),D.rt=Q→St H3 lf lm→Same (zo H [lf,lm]) (zo H3 [lf,lm]) →
    t D [some x,some (.ref d),some (.ref ad),some (.int ((n+1:Nat):Int)),some (.int fm),none,none,none] H3:=by
  refine⟨_,@pss_cons _ _ _ _ _ (ps_if (pt_cmpR op_eq (pv 4) pe_int (nomark _)) (@pss_cons _ _ _ _ _ (ps_set (i:=5) scOf.nd rfl (Or.inl rfl) (pe_call GO hrO rfl mO kO bO .nil pass0 (@pa_cons _ _ _ _ _ (@pe_tup _ _ _ _ _ (@pa_cons _ _ _ _ _ pe_str (@pa_cons _ _ _ _ _ pe_int pa_nil rfl) rfl)) (@pa_cons _ _ _ _ _ (pv 1) (@pa_cons _ _ _ _ _ (pv 2) (@pa_cons _ _ _ _ _ (pe_op op_sub (pv 3) pe_int) pa_nil rfl) rfl) rfl) rfl))) (@pss_cons _ _ _ _ _ (ps_set (i:=6) scOf.nd rfl (Or.inl rfl) (pe_call GO hrO rfl mO kO bO .nil pass0 (@pa_cons _ _ _ _ _ (pv 0) (@pa_cons _ _ _ _ _ (pv 1) (@pa_cons _ _ _ _ _ (pv 2) (@pa_cons _ _ _ _ _ (pe_op op_sub (pv 3) pe_int) pa_nil rfl) rfl) rfl) rfl))) (@pss_one _ _ _ (@ps_ret _ _ _ _ (@pe_tup _ _ _ _ _ (@pa_cons _ _ _ _ _ pe_str (@pa_cons _ _ _ _ _ (pv 5) (@pa_cons _ _ _ _ _ (pv 6) (@pa_cons _ _ _ _ _ (pe_call GO hrO rfl mO kO bO .nil pass0 (@pa_cons _ _ _ _ _ (pv 0) (@pa_cons _ _ _ _ _ (pv 1) (@pa_cons _ _ _ _ _ (pv 2) (@pa_cons _ _ _ _ _ (pe_op op_sub (pv 3) pe_int) pa_nil rfl) rfl) rfl) rfl)) pa_nil rfl) rfl) rfl) rfl)))))) pss_nil) (@pss_cons _ _ _ _ _ (ps_if (pt_cmpR op_eq (pv 4) pe_int (nomark _)) (@pss_one _ _ _ (@ps_ret _ _ _ _ (pe_call GE hrE rfl mE kE bE .nil pass0 (@pa_cons _ _ _ _ _ (pv 0) (@pa_cons _ _ _ _ _ (pv 1) (@pa_cons _ _ _ _ _ (pv 2) (@pa_cons _ _ _ _ _ (pv 3) pa_nil rfl) rfl) rfl) rfl)))) pss_nil) (@pss_cons _ _ _ _ _ (ps_if (PW.pt (pw_or (pt_cmpR op_eq (pv 4) pe_int (nomark _)) (pw_or1 (pt_cmpR op_eq (pv 4) pe_int (nomark _))))) dH pss_nil) d6)),?_⟩
  intro D H3 fm hD st3 s3
  refine⟨_,rfl,rfl,_,rfl,ite2 (fun _=>?_) (fun _=>?_)⟩
  ·refine⟨(by show 2≤sizeLine;decide),fun pb hpb=>?_⟩
   obtain⟨st4,n4,g4⟩:=st3.nw hpb (.tup [.str "num",.int 2])
   have s34:=s3.trans n4
   refine⟨_,rfl,_,rfl,_,rfl,_,_,rfl,rfl,.ref pb,d,ad,lf,lm,lw,lp,lt,c,p,C,ρ,m,.num 2,?_,st4,hdk.same s34,hsc.same s34,by omega,num_at g4,hdk.pl.bit,fun H5 y5 e5 st5 s5 he5 hh5 hr5=>?_⟩
   ·rw [less1 (f:=fun i=>[V.ref pb,V.ref d,.ref ad,.int i])]
    rfl
   have s35:=s34.trans s5
   refine⟨_,rfl,_,rfl,_,rfl,_,rfl,_,_,rfl,rfl,x,d,ad,lf,lm,lw,lp,lt,c,p,C,ρ,m,k,?_,st5,hdk.same s35,hsc.same s35,by omega,hx.same s35,hk,fun H6 y6 e6 st6 s6 he6 hh6 hr6=>?_⟩
   ·rw [less1 (f:=fun i=>[x,V.ref d,.ref ad,.int i])]
    rfl
   have s36:=s35.trans s6
   refine⟨_,rfl,_,rfl,_,rfl,_,rfl,_,rfl,_,rfl,_,_,rfl,rfl,x,d,ad,lf,lm,lw,lp,lt,c,p,C,ρ,m,k,?_,st6,hdk.same s36,hsc.same s36,by omega,hx.same s36,hk,fun H7 y7 e7 st7 s7 he7 hh7 hr7=>?_⟩
   ·rw [less1 (f:=fun i=>[x,V.ref d,.ref ad,.int i])]
    rfl
   refine⟨(by show 4≤sizeLine;decide),fun pr hpr=>?_⟩
   obtain⟨st8,n8,g8⟩:=st7.nw hpr (.tup [.str "if",y5,y6,y7])
   have n78:=s7.trans n8
   show D.rt _ _
   rw [hD]
   exact q _ _ (.nd .if_ [e5,e6,e7]) st8 (s36.trans n78) (.nd (xs:=[y5,y6,y7]) g8 (.cons (he5.same (s6.trans n78)) (.cons (he6.same n78) (.cons (he7.same n8) .nil))) (not_lit nofun)) (by simp only [Ex.ht,hts,List.length_cons,List.length_nil];omega) (res_if hr5 hr6 hr7)
  refine⟨_,rfl,rfl,_,rfl,ite2 (fun _=>?_) (fun _=>?_)⟩
  ·refine⟨_,rfl,_,rfl,_,rfl,_,rfl,x,d,ad,lf,lm,lw,lp,lt,c,p,C,ρ,m,k,rfl,st3,hdk.same s3,hsc.same s3,hm,hx.same s3,hk,fun H4 y e st4 s4 he hh hr=>?_⟩
   show D.rt _ _
   rw [hD]
   exact q _ _ e st4 (s3.trans s4) he hh hr
  refine⟨_,rfl,rfl,_,rfl,ite2 (fun _=>kH _ H3 fm hD st3 s3) (fun _=>?_)⟩
  exact⟨_,rfl,rfl,_,rfl,ite2 (fun _=>kH _ H3 fm hD st3 s3) (fun _=>k6 D H3 fm hD st3 s3)⟩
 obtain⟨tL,dL,kkL⟩:∃t,PSs (cxOf CX0 P w K mg base ["_law_kind","_law_scope","_law_desk_here","_law_deep","_law_form","_law_truth","_law_one","_law_other"] "_law_of" (defScope sOf) f cdv A outer s H E).nox (ifT ((defBody sOf).getD 2 dS)) t ∧
   ∀(D:Ends) (H3:Hp) (fm:Int),D.rt=Q→St H3 lf lm→Same (zo H [lf,lm]) (zo H3 [lf,lm]) →
    t D [some x,some (.ref d),some (.ref ad),some (.int ((n+1:Nat):Int)),some (.int fm),none,none,none] H3:=by
  refine⟨_,@pss_one _ _ _ (@ps_ret _ _ _ _ (pe_call GL hrL rfl mL kL bL .nil pass0 (@pa_cons _ _ _ _ _ (pv 0) (@pa_cons _ _ _ _ _ (pv 1) (@pa_cons _ _ _ _ _ (pv 2) pa_nil rfl) rfl) rfl))),?_⟩
  intro D H3 fm hD st3 s3
  refine⟨_,rfl,_,rfl,_,rfl,x,d,ad,lf,lm,lw,lp,lt,c,p,C,ρ,m,k,rfl,st3,hdk.same s3,hsc.same s3,by omega,hx.same s3,hk,fun H4 y e st4 s4 he hh hr=>?_⟩
  rw [hD]
  exact q _ _ e st4 (s3.trans s4) he (by omega) hr
 refine⟨_,@pss_cons _ _ _ _ _ (ps_asg (pe_op op_sub (pe_ix ix_list (pe_ix ix_tup (pv 2) pe_int (fun _ _=>rfl)) pe_int (fun _ _=>rfl)) pe_int) (pg_sub (pe_ix ix_tup (pv 2) pe_int (fun _ _=>rfl)) pe_int set_list)) (@pss_cons _ _ _ _ _ (ps_set (i:=4) scOf.nd rfl (Or.inl rfl) (pe_call GT hrT rfl mT kT bT .nil pass0 (@pa_cons _ _ _ _ _ (pe_ix ix_tup (pv 2) pe_int (fun _ _=>rfl)) (@pa_cons _ _ _ _ _ pe_int pa_nil rfl) rfl))) (@pss_cons _ _ _ _ _ (ps_if (PW.pt (pw_or (pt_cmpR op_eq (pv 3) pe_int (nomark _)) (pw_or (pt_cmpR op_eq (pv 4) pe_int (nomark _)) (pw_or1 (pt_cmpR op_lt (pe_ix ix_list (pe_ix ix_tup (pv 2) pe_int (fun _ _=>rfl)) pe_int (fun _ _=>rfl)) pe_int (nomark _)))))) dL pss_nil) d3)),?_⟩
 obtain⟨mm,hlm⟩:=hst.2.1
 refine⟨_,rfl,ad,_,_,_,rfl,rfl,tad (Same.refl _),at_4,lm,_,_,_,rfl,rfl,SqL.of hlm,at0,_,_,rfl,rfl,?_⟩
 refine⟨_,rfl,ad,_,_,_,rfl,rfl,tad (Same.refl _),at_4,lm,_,0,0,rfl,rfl,hlm,rfl,?_⟩
 obtain⟨st1,z1⟩:=st_less hst (mm - 1)
 have s1:Same (zo H [lf,lm]) (zo (upd H lm (.lst [.int (mm - 1)])) [lf,lm]):=by rw [z1];exact Same.refl _
 refine⟨_,rfl,ad,_,_,_,rfl,rfl,tad s1,at0,lf,8,rfl,st1.1,by decide,by decide,fun H2 fm f2 s2 f0 f8=>?_⟩
 obtain⟨st2,n2⟩:=st1.take f2 s2
 have s12:=s1.trans n2
 obtain⟨m2,hlm2⟩:=st2.2.1
 refine⟨_,rfl,rfl,_,rfl,ite2 (fun _=>kkL _ H2 fm rfl st2 s12) (fun _=>?_)⟩
 refine⟨_,rfl,rfl,_,rfl,ite2 (fun _=>kkL _ H2 fm rfl st2 s12) (fun _=>?_)⟩
 exact⟨_,rfl,ad,_,_,_,rfl,rfl,tad s12,at_4,lm,_,_,_,rfl,rfl,SqL.of hlm2,at0,_,_,rfl,rfl,_,rfl,ite2 (fun _=>kkL _ H2 fm rfl st2 s12) (fun _=>k3 _ H2 fm rfl st2 s12)⟩
end
end K52
namespace K52
open PySem L2 Kk
theorem kins_n1{mo:Int}{C:Orc}{ρ:Str→Option Kd}{e:Ex}{es:List Ex}{n:Nat}(h:kin mo C ρ e=.no n):kins mo C ρ (e::es)=.no n:=by rw [kins,h]
theorem kins_n2{mo:Int}{C:Orc}{ρ:Str→Option Kd}{e:Ex}{es:List Ex}{k:Kd}{n:Nat}(h:kin mo C ρ e=.ok k)(h2:kins mo C ρ es=.no n):kins mo C ρ (e::es)=.no n:=by rw [kins,h,h2]
theorem kin_ndn{mo:Int}{C:Orc}{ρ:Str→Option Kd}{f:Fm}{es:List Ex}{n:Nat}(h:kins mo C ρ es=.no n):kin mo C ρ (.nd f es)=.no n:=by rw [kin,h]
theorem kin_calln{mo:Int}{C:Orc}{ρ:Str→Option Kd}{q t:Str}{es:List Ex}{n:Nat}(h:kins mo C ρ es=.no n):kin mo C ρ (.call q t es)=.no n:=by rw [kin,h]
theorem kin_letn{mo:Int}{C:Orc}{ρ:Str→Option Kd}{x:Str}{a b:Ex}{n:Nat}(h:kin mo C ρ a=.no n):kin mo C ρ (.let_ x a b)=.no n:=by rw [kin,h]
def Cr(p:Nat→Kd)(kd:Kd)(r:R Kd):Prop:=Pin p kd∧((∃k',Pin p k'∧r=.ok k')∨∃n,n < 4∧r=.no n)
def rto(kd:Kd)(r:R Kd)(k:Kd):R Kd:=match r with
 |.ok k'=>if k'=kd then .ok k else .no 2
 |.no n=>.no n
section
variable{C:Orc}{ρ:Str→Option Kd}{c:Int}{p:Nat→Kd}
theorem res_weak{w:Str}{k:Kd}{e:Ex}{r:R Kd}(h:Res C ρ c e r)(hw:ρ w=none):Res C (rin ρ w k) c e r:=fun ρ' h1 h2=>h ρ' (fun s k' e1=>h1 s k' (by rw [rin_ne (fun z=>by rw [z,hw] at e1;cases e1)];exact e1)) h2
theorem res_in{w:Str}{k:Kd}:Res C (rin ρ w k) c (.var w) (.ok k):=fun ρ' h1 _=>kin_var (h1 _ _ rin_same)
theorem res_passlet{i:Nat}(hi:i < 7){e:Ex}{kd:Kd}{r:R Kd}(h:Res C ρ c e r)(hr:Cr p kd r):Res C ρ c (.let_ (wd c (i:Int)) e (.var (wd c (i:Int)))) r:=by
 obtain⟨_,⟨k',_,rfl⟩|⟨n,_,rfl⟩⟩:=hr
 ·exact res_let hi h res_in
 ·exact fun ρ' h1 h2=>kin_letn (h ρ' h1 h2)
theorem res_passfst(hp:Pool c p){e o:Ex}{kd ko:Kd}{r:R Kd}(h:Res C ρ c e r)(hr:Cr p kd r)(ho:Res C ρ c o (.ok ko))(hpo:Pin p ko):Res C ρ c (.nd .fst [.nd .two [e,o]]) r:=by
 obtain⟨_,⟨k',hk,rfl⟩|⟨n,_,rfl⟩⟩:=hr
 ·have w1:=hp.words hk
  have w2:=hp.words hpo
  exact res_fst (res_two h ho (by omega))
 ·exact fun ρ' h1 h2=>kin_ndn (kins_n1 (kin_ndn (kins_n1 (h ρ' h1 h2))))
theorem res_passsnd(hp:Pool c p){e o:Ex}{kd ko:Kd}{r:R Kd}(h:Res C ρ c e r)(hr:Cr p kd r)(ho:Res C ρ c o (.ok ko))(hpo:Pin p ko):Res C ρ c (.nd .snd [.nd .two [o,e]]) r:=by
 obtain⟨_,⟨k',hk,rfl⟩|⟨n,_,rfl⟩⟩:=hr
 ·have w1:=hp.words hk
  have w2:=hp.words hpo
  exact res_snd (res_two ho h (by omega))
 ·exact fun ρ' h1 h2=>kin_ndn (kins_n1 (kin_ndn (kins_n2 (ho ρ' h1 h2) (kins_n1 (h ρ' h1 h2)))))
theorem res_op{s:Str}{n:Int}{e l:Ex}{r:R Kd}(h:Res C ρ c e r)(hr:Cr p (.num n) r)(hl:Res C ρ c l (.ok (.num n))):Res C ρ c (.nd (.op s n) [l,e]) (rto (.num n) r (.num n)):=by
 obtain⟨_,⟨k',_,rfl⟩|⟨m,_,rfl⟩⟩:=hr
 ·intro ρ' h1 h2
  rw [kin_nd (kins_cons (hl ρ' h1 h2) (kins_cons (h ρ' h1 h2) kins_nil))]
  show(if [Kd.num n,k']=[Kd.num n,Kd.num n] then R.ok (Kd.num n) else R.no 2)=if k'=Kd.num n then R.ok (Kd.num n) else R.no 2
  by_cases ek:k'=.num n
  ·rw [if_pos ek,if_pos (by rw [ek])]
  ·rw [if_neg ek,if_neg (fun z=>ek (List.cons.inj (List.cons.inj z).2).1)]
 ·exact fun ρ' h1 h2=>kin_ndn (kins_n2 (hl ρ' h1 h2) (kins_n1 (h ρ' h1 h2)))
theorem res_test{s:Str}{n:Int}{e l:Ex}{r:R Kd}(h:Res C ρ c e r)(hr:Cr p (.num n) r)(hl:Res C ρ c l (.ok (.num n))):Res C ρ c (.nd (.test s) [e,l]) (rto (.num n) r (.num 2)):=by
 obtain⟨_,⟨k',_,rfl⟩|⟨m,_,rfl⟩⟩:=hr
 ·intro ρ' h1 h2
  rw [kin_nd (kins_cons (h ρ' h1 h2) (kins_cons (hl ρ' h1 h2) kins_nil))]
  show(if Kd.isNum k'=true∧k'=Kd.num n then R.ok (Kd.num 2) else R.no 2)=if k'=Kd.num n then R.ok (Kd.num 2) else R.no 2
  by_cases ek:k'=.num n
  ·rw [if_pos ek,if_pos ⟨by rw [ek];rfl,ek⟩]
  ·rw [if_neg ek,if_neg (fun z=>ek z.2)]
 ·exact fun ρ' h1 h2=>kin_ndn (kins_n1 (h ρ' h1 h2))
theorem res_ifc{e a b:Ex}{ko:Kd}{r:R Kd}(h:Res C ρ c e r)(hr:Cr p (.num 2) r)(ha:Res C ρ c a (.ok ko))(hb:Res C ρ c b (.ok ko)):Res C ρ c (.nd .if_ [e,a,b]) (rto (.num 2) r ko):=by
 obtain⟨_,⟨k',_,rfl⟩|⟨m,_,rfl⟩⟩:=hr
 ·intro ρ' h1 h2
  rw [kin_nd (kins_cons (h ρ' h1 h2) (kins_cons (ha ρ' h1 h2) (kins_cons (hb ρ' h1 h2) kins_nil)))]
  show(if k'=Kd.num 2 then (if ko=ko then R.ok ko else R.no 2) else R.no 2)=if k'=Kd.num 2 then R.ok ko else R.no 2
  rw [if_pos rfl]
 ·exact fun ρ' h1 h2=>kin_ndn (kins_n1 (h ρ' h1 h2))
theorem res_ifl{e t l:Ex}{kd:Kd}{r:R Kd}(h:Res C ρ c e r)(hr:Cr p kd r)(ht:Res C ρ c t (.ok (.num 2)))(hl:Res C ρ c l (.ok kd)):Res C ρ c (.nd .if_ [t,l,e]) (rto kd r kd):=by
 obtain⟨_,⟨k',_,rfl⟩|⟨m,_,rfl⟩⟩:=hr
 ·intro ρ' h1 h2
  rw [kin_nd (kins_cons (ht ρ' h1 h2) (kins_cons (hl ρ' h1 h2) (kins_cons (h ρ' h1 h2) kins_nil)))]
  show(if Kd.num 2=Kd.num 2 then (if kd=k' then R.ok kd else R.no 2) else R.no 2)=if k'=kd then R.ok kd else R.no 2
  rw [if_pos rfl]
  by_cases ek:k'=kd
  ·rw [if_pos ek,if_pos ek.symm]
  ·rw [if_neg ek,if_neg (Ne.symm ek)]
 ·exact fun ρ' h1 h2=>kin_ndn (kins_n2 (ht ρ' h1 h2) (kins_n2 (hl ρ' h1 h2) (kins_n1 (h ρ' h1 h2))))
theorem ansK_eq{us ks:List Kd}{k:Kd}(hl:us.length=ks.length):ansK (some (us,k)) ks=if us=ks then .ok k else .no 2:=by
 show(if us.length=ks.length then (if us=ks then R.ok k else R.no 2) else R.no 1)=_
 rw [if_pos hl]
theorem res_callc{e:Ex}{kd:Kd}{r:R Kd}{i:Nat}(hi:i < 5)(hb:TbI c p 5 C)(h:Res C ρ c e r)(hr:Cr p kd r)(ei:p i=kd):Res C ρ c (.call (wd c 8) (wd c (19+(i:Int))) [e]) (rto kd r (p ((i+3)%5))):=by
 obtain⟨_,⟨k',_,rfl⟩|⟨m,_,rfl⟩⟩:=hr
 ·intro ρ' h1 h2
  rw [kin_call (kins_cons (h ρ' h1 h2) kins_nil),hb.one i hi,ei,ansK_eq (us:=[kd]) (ks:=[k']) rfl]
  show _=if k'=kd then R.ok (p ((i+3)%5)) else R.no 2
  by_cases ek:k'=kd
  ·rw [if_pos ek,if_pos (by rw [ek])]
  ·rw [if_neg ek,if_neg (fun z=>ek (List.cons.inj z).1.symm)]
 ·exact fun ρ' h1 h2=>kin_calln (kins_n1 (h ρ' h1 h2))
theorem res_letif{i:Nat}(hi:i < 7){e t l:Ex}{kd:Kd}{r:R Kd}(h:Res C ρ c e r)(hr:Cr p kd r)(hw:ρ (wd c (i:Int))=none)(ht:Res C ρ c t (.ok (.num 2)))(hl:Res C ρ c l (.ok kd)):Res C ρ c (.let_ (wd c (i:Int)) e (.nd .if_ [t,.var (wd c (i:Int)),l])) (rto kd r kd):=by
 obtain⟨_,⟨k',_,rfl⟩|⟨m,_,rfl⟩⟩:=hr
 ·refine res_let hi h fun ρ' h1 h2=>?_
  rw [kin_nd (kins_cons (res_weak ht hw ρ' h1 h2) (kins_cons (res_in ρ' h1 h2) (kins_cons (res_weak hl hw ρ' h1 h2) kins_nil)))]
  show(if Kd.num 2=Kd.num 2 then (if k'=kd then R.ok k' else R.no 2) else R.no 2)=if k'=kd then R.ok kd else R.no 2
  rw [if_pos rfl]
  by_cases ek:k'=kd
  ·rw [if_pos ek,if_pos ek,ek]
  ·rw [if_neg ek,if_neg ek]
 ·exact fun ρ' h1 h2=>kin_letn (h ρ' h1 h2)
end
def spPass(K:PySem.W.Frag):Sp:=fun vs H Q _=>∃(x:V) (d ad lf lm lw lp lt:Addr) (c:Int) (p:Nat→Kd) (C:Orc) (ρ:Str→Option Kd) (m:Nat) (kd:Kd) (e:Ex) (r:R Kd) (h:Nat),vs=[x,.ref d,.ref ad]∧St H lf lm∧DeskAt K (zo H [lf,lm]) ad lf lm lw lp lt c p C∧ScAt K (zo H [lf,lm]) d ρ c p m∧m≤200∧ρ (wd c 5)=none∧ρ (wd c 6)=none∧ExAt (zo H [lf,lm]) x e∧e.ht≤h∧3≤h∧Cr p kd r∧Res C ρ c e r ∧
 ∀H' y e',St H' lf lm→Same (zo H [lf,lm]) (zo H' [lf,lm])→ExAt (zo H' [lf,lm]) y e'→e'.ht≤h+2→Res C ρ c e' r→Q y H'
def spRound(K:PySem.W.Frag):Sp:=fun vs H Q _=>∃(x xk:V) (d ad lf lm lw lp lt:Addr) (c:Int) (p:Nat→Kd) (C:Orc) (ρ:Str→Option Kd) (m:Nat) (kd:Kd) (e:Ex) (r:R Kd) (h:Nat),vs=[x,xk,.ref d,.ref ad]∧St H lf lm∧DeskAt K (zo H [lf,lm]) ad lf lm lw lp lt c p C∧ScAt K (zo H [lf,lm]) d ρ c p m∧m≤200∧ρ (wd c 5)=none∧ExAt (zo H [lf,lm]) x e∧e.ht≤h∧4≤h∧KAt K (zo H [lf,lm]) xk kd∧Cr p kd r∧Res C ρ c e r ∧
 ∀H' q y z e' k',St H' lf lm→Same (zo H [lf,lm]) (zo H' [lf,lm])→zo H' [lf,lm] q=some (.tup [y,z])→ExAt (zo H' [lf,lm]) y e'→e'.ht≤h+2→KAt K (zo H' [lf,lm]) z k'→Pin p k'→Res C ρ c e' (rto kd r k')→Q (.ref q) H'
section
variable{P:Program}{w:World}{K:PySem.W.Frag}{mg:Str→Option Value}{base:Heap}
theorem scPass:FnScope ["_law_core","_law_scope","_law_desk_here","_law_other","_law_x"] ["_law_core","_law_scope","_law_desk_here"] (defScope sPass):=⟨rfl,rfl,rfl,by decide +kernel,rfl,by decide +kernel,by decide +kernel⟩
set_option maxHeartbeats 0 in
theorem ok_pass{f fT fL fY:Addr}{fd fdT fdL fdY:FuncData} (F:Fun K "_law_passed" "_law_passed" sPass f fd)
  (GT:FnOk P w K mg base CX0 1 fT fdT ["_law_feed_here","_law_many"] spTake) (bT:Binds K fdT ["_law_feed_here","_law_many"] []) (kT:PySem.W.keepIn K (.ref fT)=true) (mT:mg "_law_take"=some (.ref fT))
  (GL:FnOk P w K mg base CX0 2 fL fdL ["_law_kind","_law_scope","_law_desk_here"] (spLeaf K)) (bL:Binds K fdL ["_law_kind","_law_scope","_law_desk_here"] []) (kL:PySem.W.keepIn K (.ref fL)=true) (mL:mg "_law_leaf"=some (.ref fL))
  (GY:FnOk P w K mg base CX0 2 fY fdY ["_law_desk_here"] (spAny K)) (bY:Binds K fdY ["_law_desk_here"] []) (kY:PySem.W.keepIn K (.ref fY)=true) (mY:mg "_law_any"=some (.ref fY)):FnOk P w K mg base CX0 3 f fd ["_law_core","_law_scope","_law_desk_here"] (spPass K):=by
 refine F.ok (k:=2) scPass (fun vs H Q E h=>?_) (fun cdv A outer s H vs Q E hrL h=>?_)
 ·obtain⟨_,_,_,_,_,_,_,_,_,_,_,_,_,_,_,_,_,rfl,_⟩:=h
  rfl
 obtain⟨x,d,ad,lf,lm,lw,lp,lt,c,p,C,ρ,m,kd,e,r,hh,rfl,hst,hdk,hsc,hm,hw5,hw6,hx,hht,h3,hcr,hres,q⟩:=h
 have hrT:Room 1 _:=hrL.mono (by decide)
 have hrY:=hrL
 refine⟨_,@pss_cons _ _ _ _ _ (ps_set (i:=3) scPass.nd rfl (Or.inl rfl) (pe_call GL hrL rfl mL kL bL .nil pass0 (@pa_cons _ _ _ _ _ (pe_call GY hrY rfl mY kY bY .nil pass0 (@pa_cons _ _ _ _ _ (pv 2) pa_nil rfl)) (@pa_cons _ _ _ _ _ (pv 1) (@pa_cons _ _ _ _ _ (pv 2) pa_nil rfl) rfl) rfl))) (@pss_cons _ _ _ _ _ (ps_set (i:=4) scPass.nd rfl (Or.inl rfl) (pe_ix ix_list (pe_ix ix_tup (pv 2) pe_int (fun _ _=>rfl)) pe_int (fun _ _=>rfl))) (@pss_one _ _ _ (@ps_ret _ _ _ _ (pe_ix ix_list (pe_lst (@pa_cons _ _ _ _ _ (@pe_tup _ _ _ _ _ (@pa_cons _ _ _ _ _ pe_str (@pa_cons _ _ _ _ _ (pv 4) (@pa_cons _ _ _ _ _ (pv 0) (@pa_cons _ _ _ _ _ (@pe_tup _ _ _ _ _ (@pa_cons _ _ _ _ _ pe_str (@pa_cons _ _ _ _ _ (pv 4) pa_nil rfl) rfl)) pa_nil rfl) rfl) rfl) rfl)) (@pa_cons _ _ _ _ _ (@pe_tup _ _ _ _ _ (@pa_cons _ _ _ _ _ pe_str (@pa_cons _ _ _ _ _ (@pe_tup _ _ _ _ _ (@pa_cons _ _ _ _ _ pe_str (@pa_cons _ _ _ _ _ (pv 0) (@pa_cons _ _ _ _ _ (pv 3) pa_nil rfl) rfl) rfl)) pa_nil rfl) rfl)) (@pa_cons _ _ _ _ _ (@pe_tup _ _ _ _ _ (@pa_cons _ _ _ _ _ pe_str (@pa_cons _ _ _ _ _ (@pe_tup _ _ _ _ _ (@pa_cons _ _ _ _ _ pe_str (@pa_cons _ _ _ _ _ (pv 3) (@pa_cons _ _ _ _ _ (pv 0) pa_nil rfl) rfl) rfl)) pa_nil rfl) rfl)) (@pa_cons _ _ _ _ _ (@pe_tup _ _ _ _ _ (@pa_cons _ _ _ _ _ pe_str (@pa_cons _ _ _ _ _ (pe_ix ix_list (pe_ix ix_tup (pv 2) pe_int (fun _ _=>rfl)) pe_int (fun _ _=>rfl)) (@pa_cons _ _ _ _ _ (pv 3) (@pa_cons _ _ _ _ _ (pv 0) pa_nil rfl) rfl) rfl) rfl)) pa_nil rfl) rfl) rfl) rfl)) (pe_call GT hrT rfl mT kT bT .nil pass0 (@pa_cons _ _ _ _ _ (pe_ix ix_tup (pv 2) pe_int (fun _ _=>rfl)) (@pa_cons _ _ _ _ _ pe_int pa_nil rfl) rfl)) (fun _ _=>rfl))))),?_⟩
 have tad:∀{H1:Hp},Same (zo H [lf,lm]) (zo H1 [lf,lm])→SqT K H1 ad [.ref lf,.ref lp,.ref lw,.ref lt,.ref lm]:=fun s1=>SqT.of (zo_same _ _ (s1 _ _ hdk.tup))
 have tlw:∀{H1:Hp},Same (zo H [lf,lm]) (zo H1 [lf,lm])→SqL K H1 lw (wl c):=fun s1=>SqL.of (zo_same _ _ (s1 _ _ hdk.words))
 refine⟨_,rfl,ad,lf,lm,lw,lp,lt,c,p,C,rfl,hst,hdk,fun H1 xo ko st1 s1 ho hpo=>?_⟩
 refine⟨_,rfl,_,rfl,xo,d,ad,lf,lm,lw,lp,lt,c,p,C,ρ,m,ko,rfl,st1,hdk.same s1,hsc.same s1,hm,ho,hpo,fun H2 yo eo st2 s2 heo hho hro=>?_⟩
 have s12:=s1.trans s2
 refine⟨_,rfl,ad,_,_,_,rfl,rfl,tad s12,at2,lw,_,_,_,rfl,rfl,tlw s12,wl_at c (r:=5) (by decide) (by decide),?_⟩
 refine⟨_,rfl,_,rfl,_,rfl,(by show 2≤sizeLine;decide),fun a1 h1=>⟨(by show 4≤sizeLine;decide),fun a2 h2=>?_⟩⟩
 obtain⟨st3,n3,g3⟩:=st2.nw h1 (.tup [.str "var",.str (wd c 5)])
 obtain⟨st4,n4,g4⟩:=st3.nw h2 (.tup [.str "let",.str (wd c 5),x,.ref a1])
 refine⟨_,rfl,_,rfl,(by show 3≤sizeLine;decide),fun a3 h3'=>⟨(by show 2≤sizeLine;decide),fun a4 h4=>?_⟩⟩
 obtain⟨st5,n5,g5⟩:=st4.nw h3' (.tup [.str "two",x,yo])
 obtain⟨st6,n6,g6⟩:=st5.nw h4 (.tup [.str "first",.ref a3])
 refine⟨_,rfl,_,rfl,(by show 3≤sizeLine;decide),fun a5 h5=>⟨(by show 2≤sizeLine;decide),fun a6 h6=>?_⟩⟩
 obtain⟨st7,n7,g7⟩:=st6.nw h5 (.tup [.str "two",yo,x])
 obtain⟨st8,n8,g8⟩:=st7.nw h6 (.tup [.str "second",.ref a5])
 have n78:=n7.trans n8
 have n68:=n6.trans n78
 have n58:=n5.trans n68
 have n48:=n4.trans n58
 have n38:=n3.trans n48
 have s28:=s12.trans n38
 refine⟨_,rfl,ad,_,_,_,rfl,rfl,tad s28,at2,lw,_,_,_,rfl,rfl,tlw s28,wl_at c (r:=6) (by decide) (by decide),_,rfl,_,rfl,(by show 4≤sizeLine;decide),fun a7 h7=>⟨(by show 4≤sizeLine;decide),fun l hl=>?_⟩⟩
 obtain⟨st9,n9,g9⟩:=st8.nw h7 (.tup [.str "let",.str (wd c 6),yo,x])
 obtain⟨sta,na,ga⟩:=st9.nw hl (.lst [.ref a2,.ref a4,.ref a6,.ref a7])
 have n9a:=n9.trans na
 have s2a:=s28.trans n9a
 refine⟨_,rfl,ad,_,_,_,rfl,rfl,tad s2a,at0,lf,4,rfl,sta.1,by decide,by decide,fun Hb t fb sb t0 t4=>?_⟩
 obtain⟨stb,nb⟩:=sta.take fb sb
 have s2b:=s2a.trans nb
 have m28:=n38.trans (n9a.trans nb)
 have m48:=n58.trans (n9a.trans nb)
 have m38:=n48.trans (n9a.trans nb)
 have m68:=n78.trans (n9a.trans nb)
 have m58:=n68.trans (n9a.trans nb)
 have m78:=n8.trans (n9a.trans nb)
 have m88:=n9a.trans nb
 have hcx:ExAt (zo Hb [lf,lm]) x e:=hx.same s2b
 have hco:ExAt (zo Hb [lf,lm]) yo eo:=heo.same m28
 have four:t=0∨t=1∨t=2∨t=3:=by omega
 rcases four with rfl|rfl|rfl|rfl
 ·refine⟨l,_,_,_,rfl,rfl,SqL.of (zo_same _ _ (nb _ _ ga)),at0,?_⟩
  exact q _ _ (.let_ (wd c 5) e (.var (wd c 5))) stb s2b (.let_ (m48 _ _ g4) hcx (.var (m38 _ _ g3) (wd9 _ _))) (by simp only [Ex.ht];omega) (res_passlet (i:=5) (by decide) hres hcr)
 ·refine⟨l,_,_,_,rfl,rfl,SqL.of (zo_same _ _ (nb _ _ ga)),at1,?_⟩
  exact q _ _ (.nd .fst [.nd .two [e,eo]]) stb s2b (.nd (xs:=[.ref a3]) (m68 _ _ g6) (.cons (.nd (xs:=[x,yo]) (m58 _ _ g5) (.cons hcx (.cons hco .nil)) (not_lit nofun)) .nil) (not_lit nofun)) (by simp only [Ex.ht,hts,List.length_cons,List.length_nil];omega) (res_passfst hdk.pl hres hcr hro hpo)
 ·refine⟨l,_,_,_,rfl,rfl,SqL.of (zo_same _ _ (nb _ _ ga)),at2,?_⟩
  exact q _ _ (.nd .snd [.nd .two [eo,e]]) stb s2b (.nd (xs:=[.ref a5]) (m88 _ _ g8) (.cons (.nd (xs:=[yo,x]) (m78 _ _ g7) (.cons hco (.cons hcx .nil)) (not_lit nofun)) .nil) (not_lit nofun)) (by simp only [Ex.ht,hts,List.length_cons,List.length_nil];omega) (res_passsnd hdk.pl hres hcr hro hpo)
 ·refine⟨l,_,_,_,rfl,rfl,SqL.of (zo_same _ _ (nb _ _ ga)),at3,?_⟩
  exact q _ _ (.let_ (wd c 6) eo e) stb s2b (.let_ ((na.trans nb) _ _ g9) hco hcx) (by simp only [Ex.ht];omega) (res_let (i:=6) (by decide) hro (res_weak hres hw6))
end
end K52
namespace K52
open PySem L2 Kk
section
variable{P:Program}{w:World}{K:PySem.W.Frag}{mg:Str→Option Value}{base:Heap}
theorem scRound:FnScope ["_law_core","_law_kind","_law_scope","_law_desk_here","_law_form","_law_leaf_here","_law_truth","_law_other","_law_at"] ["_law_core","_law_kind","_law_scope","_law_desk_here"] (defScope sRound):=⟨rfl,rfl,rfl,by decide +kernel,rfl,by decide +kernel,by decide +kernel⟩
set_option maxHeartbeats 0 in
theorem ok_round{f fT fL fY:Addr}{fd fdT fdL fdY:FuncData} (F:Fun K "_law_round" "_law_round" sRound f fd)
  (GT:FnOk P w K mg base CX0 1 fT fdT ["_law_feed_here","_law_many"] spTake) (bT:Binds K fdT ["_law_feed_here","_law_many"] []) (kT:PySem.W.keepIn K (.ref fT)=true) (mT:mg "_law_take"=some (.ref fT))
  (GL:FnOk P w K mg base CX0 2 fL fdL ["_law_kind","_law_scope","_law_desk_here"] (spLeaf K)) (bL:Binds K fdL ["_law_kind","_law_scope","_law_desk_here"] []) (kL:PySem.W.keepIn K (.ref fL)=true) (mL:mg "_law_leaf"=some (.ref fL))
  (GY:FnOk P w K mg base CX0 2 fY fdY ["_law_desk_here"] (spAny K)) (bY:Binds K fdY ["_law_desk_here"] []) (kY:PySem.W.keepIn K (.ref fY)=true) (mY:mg "_law_any"=some (.ref fY)):FnOk P w K mg base CX0 3 f fd ["_law_core","_law_kind","_law_scope","_law_desk_here"] (spRound K):=by
 refine F.ok (k:=2) scRound (fun vs H Q E h=>?_) (fun cdv A outer s H vs Q E hrL h=>?_)
 ·obtain⟨_,_,_,_,_,_,_,_,_,_,_,_,_,_,_,_,_,_,rfl,_⟩:=h
  rfl
 obtain⟨x,xk,d,ad,lf,lm,lw,lp,lt,c,p,C,ρ,m,kd,e,r,hh,rfl,hst,hdk,hsc,hm,hw5,hx,hht,h3,hxk,hcr,hres,q⟩:=h
 have hrT:Room 1 _:=hrL.mono (by decide)
 have hrY:=hrL
 have hu64:=hu64_of hrL
 have hpk:=hcr.1
 have tad:∀{H1:Hp},Same (zo H [lf,lm]) (zo H1 [lf,lm])→SqT K H1 ad [.ref lf,.ref lp,.ref lw,.ref lt,.ref lm]:=fun s1=>SqT.of (zo_same _ _ (s1 _ _ hdk.tup))
 have tlw:∀{H1:Hp},Same (zo H [lf,lm]) (zo H1 [lf,lm])→SqL K H1 lw (wl c):=fun s1=>SqL.of (zo_same _ _ (s1 _ _ hdk.words))
 obtain⟨px,pxs,epx,hpx⟩:=kd_tup hxk.1
 obtain⟨t6,d6,k6⟩:∃t,PSs (cxOf CX0 P w K mg base ["_law_core","_law_kind","_law_scope","_law_desk_here","_law_form","_law_leaf_here","_law_truth","_law_other","_law_at"] "_law_round" (defScope sRound) f cdv A outer s H E).nox (List.drop 6 (defBody sRound)) t ∧
   ∀(D:Ends) (H3:Hp) (fm:Int) (yl yt:V) (el et:Ex),D.rt=Q→St H3 lf lm→Same (zo H [lf,lm]) (zo H3 [lf,lm])→ExAt (zo H3 [lf,lm]) yl el→el.ht≤1→Res C ρ c el (.ok kd)→ExAt (zo H3 [lf,lm]) yt et→et.ht≤1→Res C ρ c et (.ok (.num 2)) →
    t D [some x,some xk,some (.ref d),some (.ref ad),some (.int fm),some yl,some yt,none,none] H3:=by
  refine⟨_,@pss_cons _ _ _ _ _ (ps_if (pt_cmpR op_eq (pv 4) pe_int (nomark _)) (@pss_one _ _ _ (@ps_ret _ _ _ _ (@pe_tup _ _ _ _ _ (@pa_cons _ _ _ _ _ (@pe_tup _ _ _ _ _ (@pa_cons _ _ _ _ _ pe_str (@pa_cons _ _ _ _ _ (pv 6) (@pa_cons _ _ _ _ _ (pv 5) (@pa_cons _ _ _ _ _ (pv 0) pa_nil rfl) rfl) rfl) rfl)) (@pa_cons _ _ _ _ _ (pv 1) pa_nil rfl) rfl)))) pss_nil) (@pss_cons _ _ _ _ _ (ps_if (pt_cmpR op_eq (pv 4) pe_int (nomark _)) (@pss_cons _ _ _ _ _ (ps_set (i:=8) scRound.nd rfl (Or.inl rfl) (pe_bm PySem.F.plainAttrs_list PySem.F.slot_list_index PySem.F.type_list_index (mt_indexD hu64) (pe_ix ix_tup (pv 3) pe_int (fun _ _=>rfl)) (@pa_cons _ _ _ _ _ (pv 1) pa_nil rfl))) (@pss_one _ _ _ (@ps_ret _ _ _ _ (@pe_tup _ _ _ _ _ (@pa_cons _ _ _ _ _ (@pe_tup _ _ _ _ _ (@pa_cons _ _ _ _ _ pe_str (@pa_cons _ _ _ _ _ (pe_ix ix_list (pe_ix ix_tup (pv 3) pe_int (fun _ _=>rfl)) pe_int (fun _ _=>rfl)) (@pa_cons _ _ _ _ _ (pe_ix ix_list (pe_ix ix_tup (pv 3) pe_int (fun _ _=>rfl)) (pe_op op_add pe_int (pv 8)) (fun _ _=>rfl)) (@pa_cons _ _ _ _ _ (@pe_tup _ _ _ _ _ (@pa_cons _ _ _ _ _ (pv 0) pa_nil rfl)) pa_nil rfl) rfl) rfl) rfl)) (@pa_cons _ _ _ _ _ (pe_ix ix_list (pe_ix ix_tup (pv 3) pe_int (fun _ _=>rfl)) (pe_op op_sub (pv 8) pe_int) (fun _ _=>rfl)) pa_nil rfl) rfl))))) pss_nil) (@pss_one _ _ _ (@ps_ret _ _ _ _ (@pe_tup _ _ _ _ _ (@pa_cons _ _ _ _ _ (@pe_tup _ _ _ _ _ (@pa_cons _ _ _ _ _ pe_str (@pa_cons _ _ _ _ _ (pe_ix ix_list (pe_ix ix_tup (pv 3) pe_int (fun _ _=>rfl)) pe_int (fun _ _=>rfl)) (@pa_cons _ _ _ _ _ (pv 0) (@pa_cons _ _ _ _ _ (@pe_tup _ _ _ _ _ (@pa_cons _ _ _ _ _ pe_str (@pa_cons _ _ _ _ _ (pv 6) (@pa_cons _ _ _ _ _ (@pe_tup _ _ _ _ _ (@pa_cons _ _ _ _ _ pe_str (@pa_cons _ _ _ _ _ (pe_ix ix_list (pe_ix ix_tup (pv 3) pe_int (fun _ _=>rfl)) pe_int (fun _ _=>rfl)) pa_nil rfl) rfl)) (@pa_cons _ _ _ _ _ (pv 5) pa_nil rfl) rfl) rfl) rfl)) pa_nil rfl) rfl) rfl) rfl)) (@pa_cons _ _ _ _ _ (pv 1) pa_nil rfl) rfl))))),?_⟩
  intro D H3 fm yl yt el et hD st3 s3 hl hhl hrl ht hht2 hrt
  refine⟨_,rfl,rfl,_,rfl,ite2 (fun _=>?_) (fun _=>?_)⟩
  ·refine⟨_,rfl,_,rfl,_,rfl,(by show 4≤sizeLine;decide),fun a1 h1=>⟨_,rfl,(by show 2≤sizeLine;decide),fun a2 h2=>?_⟩⟩
   obtain⟨st4,n4,g4⟩:=st3.nw h1 (.tup [.str "if",yt,yl,x])
   obtain⟨st5,n5,g5⟩:=st4.nw h2 (.tup [.ref a1,xk])
   have n45:=n4.trans n5
   show D.rt _ _
   rw [hD]
   exact q _ a2 _ _ (.nd .if_ [et,el,e]) kd st5 (s3.trans n45) g5 (.nd (xs:=[yt,yl,x]) (n5 _ _ g4) (.cons (ht.same n45) (.cons (hl.same n45) (.cons (hx.same (s3.trans n45)) .nil))) (not_lit nofun)) (by simp only [Ex.ht,hts,List.length_cons,List.length_nil];omega) (hxk.same (s3.trans n45)) hpk (res_ifl hres hcr hrt hrl)
  refine⟨_,rfl,rfl,_,rfl,ite2 (fun _=>?_) (fun _=>?_)⟩
  ·refine⟨_,rfl,ad,_,_,_,rfl,rfl,tad s3,at1,?_⟩
   refine⟨.inl ⟨rfl,_,SqL.of (zo_same _ _ ((hdk.same s3).pool.choose_spec.1))⟩,_,rfl,?_⟩
   delta tNil
   show rIndexD K (.ref lp) [xk] H3 _
   refine idx_ok ((hdk.same s3).pool.same zo_same) ((hxk.same s3).same zo_same) hpk fun i hi ei=>?_
   refine⟨_,rfl,ad,_,_,_,rfl,rfl,tad s3,at2,lw,_,_,_,rfl,rfl,tlw s3,wl_at c (r:=8) (by decide) (by decide),?_⟩
   refine⟨_,rfl,ad,_,_,_,rfl,rfl,tad s3,at2,_,rfl,_,_,rfl,rfl,lw,_,_,_,rfl,rfl,tlw s3,wl_at c (by omega) (by omega),?_⟩
   refine⟨_,rfl,(by show 1≤sizeLine;decide),fun a1 h1=>⟨(by show 4≤sizeLine;decide),fun a2 h2=>?_⟩⟩
   obtain⟨st4,n4,g4⟩:=st3.nw h1 (.tup [x])
   obtain⟨st5,n5,g5⟩:=st4.nw h2 (.tup [.str "call",.str (wd c 8),.str (wd c (19+(i:Int))),.ref a1])
   have n45:=n4.trans n5
   have s35:=s3.trans n45
   obtain⟨xv,hlp,hxv⟩:=(hdk.same s35).pool
   refine⟨_,rfl,ad,_,_,_,rfl,rfl,tad s35,at1,_,rfl,_,_,rfl,rfl,lp,_,_,_,rfl,rfl,SqL.of (zo_same _ _ hlp),at5m hi,(by show 2≤sizeLine;decide),fun a3 h3'=>?_⟩
   obtain⟨st6,n6,g6⟩:=st5.nw h3' (.tup [.ref a2,xv ((i+3)%5)])
   have n46:=n45.trans n6
   show D.rt _ _
   rw [hD]
   exact q _ a3 _ _ (.call (wd c 8) (wd c (19+(i:Int))) [e]) _ st6 (s3.trans n46) g6 (.call (n6 _ _ g5) ((n5.trans n6) _ _ g4) (.cons (hx.same (s3.trans n46)) .nil) (wd9 _ _)) (by simp only [Ex.ht,hts,List.length_cons,List.length_nil];omega) ((hxv _ (by omega)).same n6) ⟨_,by omega,rfl⟩ (res_callc hi hdk.tb hres hcr ei)
  refine⟨_,rfl,ad,_,_,_,rfl,rfl,tad s3,at2,lw,_,_,_,rfl,rfl,tlw s3,wl_at c (r:=5) (by decide) (by decide),?_⟩
  refine⟨_,rfl,_,rfl,_,rfl,ad,_,_,_,rfl,rfl,tad s3,at2,lw,_,_,_,rfl,rfl,tlw s3,wl_at c (r:=5) (by decide) (by decide),(by show 2≤sizeLine;decide),fun a1 h1=>⟨_,rfl,(by show 4≤sizeLine;decide),fun a2 h2=>⟨(by show 4≤sizeLine;decide),fun a3 h3'=>⟨_,rfl,(by show 2≤sizeLine;decide),fun a4 h4=>?_⟩⟩⟩⟩
  obtain⟨st4,n4,g4⟩:=st3.nw h1 (.tup [.str "var",.str (wd c 5)])
  obtain⟨st5,n5,g5⟩:=st4.nw h2 (.tup [.str "if",yt,.ref a1,yl])
  obtain⟨st6,n6,g6⟩:=st5.nw h3' (.tup [.str "let",.str (wd c 5),x,.ref a2])
  obtain⟨st7,n7,g7⟩:=st6.nw h4 (.tup [.ref a3,xk])
  have n67:=n6.trans n7
  have n57:=n5.trans n67
  have n47:=n4.trans n57
  rw [hD]
  exact q _ a4 _ _ (.let_ (wd c 5) e (.nd .if_ [et,.var (wd c 5),el])) kd st7 (s3.trans n47) g7 (.let_ (n7 _ _ g6) (hx.same (s3.trans n47)) (.nd (xs:=[yt,.ref a1,yl]) (n67 _ _ g5) (.cons (ht.same n47) (.cons (.var (n57 _ _ g4) (wd9 _ _)) (.cons (hl.same n47) .nil))) (not_lit nofun))) (by simp only [Ex.ht,hts,List.length_cons,List.length_nil];omega) (hxk.same (s3.trans n47)) hpk (res_letif (i:=5) (by decide) hres hcr hw5 hrt hrl)
 obtain⟨t5,d5,k5⟩:∃t,PSs (cxOf CX0 P w K mg base ["_law_core","_law_kind","_law_scope","_law_desk_here","_law_form","_law_leaf_here","_law_truth","_law_other","_law_at"] "_law_round" (defScope sRound) f cdv A outer s H E).nox (List.drop 5 (defBody sRound)) t ∧
   ∀(D:Ends) (H3:Hp) (fm:Int) (yl yt:V) (el et:Ex),D.rt=Q→St H3 lf lm→Same (zo H [lf,lm]) (zo H3 [lf,lm])→ExAt (zo H3 [lf,lm]) yl el→el.ht≤1→Res C ρ c el (.ok kd)→ExAt (zo H3 [lf,lm]) yt et→et.ht≤1→Res C ρ c et (.ok (.num 2)) →
    t D [some x,some xk,some (.ref d),some (.ref ad),some (.int fm),some yl,some yt,none,none] H3:=by
  refine⟨_,@pss_cons _ _ _ _ _ (ps_if (PW.pt (pw_and (pt_cmpR op_eq (pv 4) pe_int (nomark _)) (pw_and1 (pt_cmpR (op_eqD hu64) (pv 1) (@pe_tup _ _ _ _ _ (@pa_cons _ _ _ _ _ pe_str (@pa_cons _ _ _ _ _ pe_int pa_nil rfl) rfl)) (nomark _))))) (@pss_cons _ _ _ _ _ (ps_set (i:=7) scRound.nd rfl (Or.inl rfl) (pe_call GY hrY rfl mY kY bY .nil pass0 (@pa_cons _ _ _ _ _ (pv 3) pa_nil rfl))) (@pss_cons _ _ _ _ _ (ps_set (i:=5) scRound.nd rfl (Or.inl rfl) (pe_call GL hrL rfl mL kL bL .nil pass0 (@pa_cons _ _ _ _ _ (pv 7) (@pa_cons _ _ _ _ _ (pv 2) (@pa_cons _ _ _ _ _ (pv 3) pa_nil rfl) rfl) rfl))) (@pss_one _ _ _ (@ps_ret _ _ _ _ (@pe_tup _ _ _ _ _ (@pa_cons _ _ _ _ _ (@pe_tup _ _ _ _ _ (@pa_cons _ _ _ _ _ pe_str (@pa_cons _ _ _ _ _ (pv 0) (@pa_cons _ _ _ _ _ (pv 5) (@pa_cons _ _ _ _ _ (pe_call GL hrL rfl mL kL bL .nil pass0 (@pa_cons _ _ _ _ _ (pv 7) (@pa_cons _ _ _ _ _ (pv 2) (@pa_cons _ _ _ _ _ (pv 3) pa_nil rfl) rfl) rfl)) pa_nil rfl) rfl) rfl) rfl)) (@pa_cons _ _ _ _ _ (pv 7) pa_nil rfl) rfl)))))) pss_nil) d6,?_⟩
  intro D H3 fm yl yt el et hD st3 s3 hl hhl hrl ht hht2 hrt
  refine⟨_,rfl,rfl,_,rfl,ite2 (fun _=>?_) (fun _=>iteF (A:=True) (k6 D H3 fm yl yt el et hD st3 s3 hl hhl hrl ht hht2 hrt))⟩
  refine⟨_,rfl,(by show 2≤sizeLine;decide),fun pb hpb=>?_⟩
  obtain⟨st4,n4,g4⟩:=st3.nw hpb (.tup [.str "num",.int 2])
  have s34:=s3.trans n4
  have kb:KAt K _ (.ref pb) (.num 2):=num_at (zo_same _ _ g4)
  refine⟨Kd.dat kd,Kd.dat (.num 2),kd_dat ((hxk.same s34).same zo_same).1,kd_dat kb.1,sm_shaped hxk.2,sm_shaped kb.2,_,rfl,?_⟩
  show if PyData.eqv (Kd.dat kd) (Kd.dat (.num 2))=true then _ else _
  rw [eqv_dat]
  refine ite2 (fun h2=>?_) (fun _=>k6 D _ fm yl yt el et hD st4 s34 (hl.same n4) hhl hrl (ht.same n4) hht2 hrt)
  obtain rfl:kd=.num 2:=of_decide_eq_true h2
  refine⟨_,rfl,ad,lf,lm,lw,lp,lt,c,p,C,rfl,st4,hdk.same s34,fun H5 xo ko st5 s5 ho hpo=>?_⟩
  have s35:=s34.trans s5
  refine⟨_,rfl,_,rfl,_,rfl,xo,d,ad,lf,lm,lw,lp,lt,c,p,C,ρ,m,ko,rfl,st5,hdk.same s35,hsc.same s35,hm,ho,hpo,fun H6 y6 e6 st6 s6 he6 hh6 hr6=>?_⟩
  have s36:=s35.trans s6
  refine⟨_,rfl,_,rfl,_,rfl,_,rfl,_,rfl,xo,d,ad,lf,lm,lw,lp,lt,c,p,C,ρ,m,ko,rfl,st6,hdk.same s36,hsc.same s36,hm,ho.same s6,hpo,fun H7 y7 e7 st7 s7 he7 hh7 hr7=>?_⟩
  refine⟨(by show 4≤sizeLine;decide),fun a1 h1=>⟨_,rfl,(by show 2≤sizeLine;decide),fun a2 h2=>?_⟩⟩
  obtain⟨st8,n8,g8⟩:=st7.nw h1 (.tup [.str "if",x,y6,y7])
  obtain⟨st9,n9,g9⟩:=st8.nw h2 (.tup [.ref a1,xo])
  have n89:=n8.trans n9
  have n79:=s7.trans n89
  have s39:=s36.trans n79
  show D.rt _ _
  rw [hD]
  exact q _ a2 _ _ (.nd .if_ [e,e6,e7]) ko st9 s39 g9 (.nd (xs:=[x,y6,y7]) (n9 _ _ g8) (.cons (hx.same s39) (.cons (he6.same n79) (.cons (he7.same n89) .nil))) (not_lit nofun)) (by simp only [Ex.ht,hts,List.length_cons,List.length_nil];omega) (ho.same (s6.trans n79)) hpo (res_ifc hres hcr hr6 hr7)
 obtain⟨t4,d4,k4⟩:∃t,PSs (cxOf CX0 P w K mg base ["_law_core","_law_kind","_law_scope","_law_desk_here","_law_form","_law_leaf_here","_law_truth","_law_other","_law_at"] "_law_round" (defScope sRound) f cdv A outer s H E).nox (List.drop 4 (defBody sRound)) t ∧
   ∀(D:Ends) (H3:Hp) (fm:Int) (yl yt:V) (el et:Ex),D.rt=Q→St H3 lf lm→Same (zo H [lf,lm]) (zo H3 [lf,lm])→ExAt (zo H3 [lf,lm]) yl el→el.ht≤1→Res C ρ c el (.ok kd)→ExAt (zo H3 [lf,lm]) yt et→et.ht≤1→Res C ρ c et (.ok (.num 2)) →
    t D [some x,some xk,some (.ref d),some (.ref ad),some (.int fm),some yl,some yt,none,none] H3:=by
  refine⟨_,@pss_cons _ _ _ _ _ (ps_if (PW.pt (pw_and (pt_cmpR op_eq (pv 4) pe_int (nomark _)) (pw_and1 (pt_cmpR op_eq (pe_ix ix_tup (pv 1) pe_int (fun _ _=>rfl)) pe_str (nomark _))))) (@pss_one _ _ _ (@ps_ret _ _ _ _ (@pe_tup _ _ _ _ _ (@pa_cons _ _ _ _ _ (@pe_tup _ _ _ _ _ (@pa_cons _ _ _ _ _ pe_str (@pa_cons _ _ _ _ _ (pe_ix ix_str pe_str (pe_call GT hrT rfl mT kT bT .nil pass0 (@pa_cons _ _ _ _ _ (pe_ix ix_tup (pv 3) pe_int (fun _ _=>rfl)) (@pa_cons _ _ _ _ _ pe_int pa_nil rfl) rfl)) (fun _ _=>rfl)) (@pa_cons _ _ _ _ _ (pv 0) (@pa_cons _ _ _ _ _ (pv 5) pa_nil rfl) rfl) rfl) rfl)) (@pa_cons _ _ _ _ _ (@pe_tup _ _ _ _ _ (@pa_cons _ _ _ _ _ pe_str (@pa_cons _ _ _ _ _ pe_int pa_nil rfl) rfl)) pa_nil rfl) rfl)))) pss_nil) d5,?_⟩
  intro D H3 fm yl yt el et hD st3 s3 hl hhl hrl ht hht2 hrt
  have K5:=k5 D H3 fm yl yt el et hD st3 s3 hl hhl hrl ht hht2 hrt
  subst epx
  refine⟨_,rfl,rfl,_,rfl,ite2 (fun _=>?_) (fun _=>iteF (A:=True) K5)⟩
  refine⟨_,rfl,px,_,_,_,rfl,rfl,zo_same.tup (s3.tup hpx),at0,rfl,_,rfl,ite2 (fun c1=>?_) (fun _=>K5)⟩
  obtain⟨nn,rfl⟩:=is_num ((hd_num kd).symm.trans c1)
  refine⟨_,rfl,ad,_,_,_,rfl,rfl,tad s3,at0,lf,2,rfl,st3.1,by decide,by decide,fun H4 t f4 s4 t0 t1=>?_⟩
  obtain⟨st4,n4⟩:=st3.take f4 s4
  obtain⟨g,hg⟩:=at_s (s:=Str.ofString "=<") (n:=2) (by decide +kernel) t0 t1
  refine⟨_,_,g,rfl,rfl,(by decide +kernel),hg,?_⟩
  refine⟨_,rfl,_,rfl,(by show 4≤sizeLine;decide),fun a1 h1=>⟨(by show 2≤sizeLine;decide),fun pb hpb=>⟨(by show 2≤sizeLine;decide),fun a2 h2=>?_⟩⟩⟩
  obtain⟨st8,n8,g8⟩:=st4.nw h1 (.tup [.str "test",.str ⟨#[g]⟩,x,yl])
  obtain⟨st9,n9,g9⟩:=st8.nw hpb (.tup [.str "num",.int 2])
  obtain⟨sta,na,ga⟩:=st9.nw h2 (.tup [.ref a1,.ref pb])
  have n9a:=n9.trans na
  have n8a:=n8.trans n9a
  have n4a:=n4.trans n8a
  have s3a:=s3.trans n4a
  show D.rt _ _
  rw [hD]
  exact q _ a2 _ _ (.nd (.test ⟨#[g]⟩) [e,el]) (.num 2) sta s3a ga (.nd (xs:=[x,yl]) (n9a _ _ g8) (.cons (hx.same s3a) (.cons (hl.same n4a) .nil)) (not_lit nofun)) (by simp only [Ex.ht,hts,List.length_cons,List.length_nil];omega) (num_at (na _ _ g9)) hdk.pl.bit (res_test hres hcr hrl)
 obtain⟨t3,d3,k3⟩:∃t,PSs (cxOf CX0 P w K mg base ["_law_core","_law_kind","_law_scope","_law_desk_here","_law_form","_law_leaf_here","_law_truth","_law_other","_law_at"] "_law_round" (defScope sRound) f cdv A outer s H E).nox (List.drop 3 (defBody sRound)) t ∧
   ∀(D:Ends) (H3:Hp) (fm:Int) (yl yt:V) (el et:Ex),D.rt=Q→St H3 lf lm→Same (zo H [lf,lm]) (zo H3 [lf,lm])→ExAt (zo H3 [lf,lm]) yl el→el.ht≤1→Res C ρ c el (.ok kd)→ExAt (zo H3 [lf,lm]) yt et→et.ht≤1→Res C ρ c et (.ok (.num 2)) →
    t D [some x,some xk,some (.ref d),some (.ref ad),some (.int fm),some yl,some yt,none,none] H3:=by
  refine⟨_,@pss_cons _ _ _ _ _ (ps_if (PW.pt (pw_and (pt_cmpR op_eq (pv 4) pe_int (nomark _)) (pw_and1 (pt_cmpR op_eq (pe_ix ix_tup (pv 1) pe_int (fun _ _=>rfl)) pe_str (nomark _))))) (@pss_one _ _ _ (@ps_ret _ _ _ _ (@pe_tup _ _ _ _ _ (@pa_cons _ _ _ _ _ (@pe_tup _ _ _ _ _ (@pa_cons _ _ _ _ _ pe_str (@pa_cons _ _ _ _ _ (pe_ix ix_str pe_str (pe_call GT hrT rfl mT kT bT .nil pass0 (@pa_cons _ _ _ _ _ (pe_ix ix_tup (pv 3) pe_int (fun _ _=>rfl)) (@pa_cons _ _ _ _ _ pe_int pa_nil rfl) rfl)) (fun _ _=>rfl)) (@pa_cons _ _ _ _ _ (pe_ix ix_tup (pv 1) pe_int (fun _ _=>rfl)) (@pa_cons _ _ _ _ _ (pv 5) (@pa_cons _ _ _ _ _ (pv 0) pa_nil rfl) rfl) rfl) rfl) rfl)) (@pa_cons _ _ _ _ _ (pv 1) pa_nil rfl) rfl)))) pss_nil) d4,?_⟩
  intro D H3 fm yl yt el et hD st3 s3 hl hhl hrl ht hht2 hrt
  have K4:=k4 D H3 fm yl yt el et hD st3 s3 hl hhl hrl ht hht2 hrt
  subst epx
  refine⟨_,rfl,rfl,_,rfl,ite2 (fun _=>?_) (fun _=>iteF (A:=True) K4)⟩
  refine⟨_,rfl,px,_,_,_,rfl,rfl,zo_same.tup (s3.tup hpx),at0,rfl,_,rfl,ite2 (fun c1=>?_) (fun _=>K4)⟩
  obtain⟨nn,rfl⟩:=is_num ((hd_num kd).symm.trans c1)
  obtain⟨p2,e2,hp2⟩:=num_tup hxk.1
  refine⟨_,rfl,ad,_,_,_,rfl,rfl,tad s3,at0,lf,3,rfl,st3.1,by decide,by decide,fun H4 t f4 s4 t0 t1=>?_⟩
  obtain⟨st4,n4⟩:=st3.take f4 s4
  obtain⟨g,hg⟩:=at_s (s:=Str.ofString "+-*") (n:=3) (by decide +kernel) t0 t1
  refine⟨_,_,g,rfl,rfl,(by decide +kernel),hg,?_⟩
  cases e2
  refine⟨_,rfl,px,_,_,_,rfl,rfl,zo_same.tup ((s3.trans n4).tup hp2),at1,_,rfl,_,rfl,(by show 5≤sizeLine;decide),fun a1 h1=>⟨_,rfl,(by show 2≤sizeLine;decide),fun a2 h2=>?_⟩⟩
  obtain⟨st8,n8,g8⟩:=st4.nw h1 (.tup [.str "op",.str ⟨#[g]⟩,.int nn,yl,x])
  obtain⟨sta,na,ga⟩:=st8.nw h2 (.tup [.ref a1,.ref px])
  have n8a:=n8.trans na
  have n4a:=n4.trans n8a
  have s3a:=s3.trans n4a
  show D.rt _ _
  rw [hD]
  exact q _ a2 _ _ (.nd (.op ⟨#[g]⟩ nn) [el,e]) (.num nn) sta s3a ga (.nd (xs:=[yl,x]) (na _ _ g8) (.cons (hl.same n4a) (.cons (hx.same s3a) .nil)) (not_lit nofun)) (by simp only [Ex.ht,hts,List.length_cons,List.length_nil];omega) (hxk.same s3a) hpk (res_op hres hcr hrl)
 refine⟨_,@pss_cons _ _ _ _ _ (ps_set (i:=4) scRound.nd rfl (Or.inl rfl) (pe_call GT hrT rfl mT kT bT .nil pass0 (@pa_cons _ _ _ _ _ (pe_ix ix_tup (pv 3) pe_int (fun _ _=>rfl)) (@pa_cons _ _ _ _ _ pe_int pa_nil rfl) rfl))) (@pss_cons _ _ _ _ _ (ps_set (i:=5) scRound.nd rfl (Or.inl rfl) (pe_call GL hrL rfl mL kL bL .nil pass0 (@pa_cons _ _ _ _ _ (pv 1) (@pa_cons _ _ _ _ _ (pv 2) (@pa_cons _ _ _ _ _ (pv 3) pa_nil rfl) rfl) rfl))) (@pss_cons _ _ _ _ _ (ps_set (i:=6) scRound.nd rfl (Or.inl rfl) (pe_call GL hrL rfl mL kL bL .nil pass0 (@pa_cons _ _ _ _ _ (@pe_tup _ _ _ _ _ (@pa_cons _ _ _ _ _ pe_str (@pa_cons _ _ _ _ _ pe_int pa_nil rfl) rfl)) (@pa_cons _ _ _ _ _ (pv 2) (@pa_cons _ _ _ _ _ (pv 3) pa_nil rfl) rfl) rfl))) d3)),?_⟩
 refine⟨_,rfl,ad,_,_,_,rfl,rfl,tad (Same.refl _),at0,lf,6,rfl,hst.1,by decide,by decide,fun H1 fm f1 s1 f0 f6=>?_⟩
 obtain⟨st1,n1⟩:=hst.take f1 s1
 refine⟨_,rfl,_,rfl,_,rfl,xk,d,ad,lf,lm,lw,lp,lt,c,p,C,ρ,m,kd,rfl,st1,hdk.same n1,hsc.same n1,hm,hxk.same n1,hpk,fun H2 yl el st2 s2 hl hhl hrl=>?_⟩
 have s12:=n1.trans s2
 refine⟨(by show 2≤sizeLine;decide),fun pb hpb=>?_⟩
 obtain⟨st3,n3,g3⟩:=st2.nw hpb (.tup [.str "num",.int 2])
 have s13:=s12.trans n3
 refine⟨_,rfl,_,rfl,.ref pb,d,ad,lf,lm,lw,lp,lt,c,p,C,ρ,m,.num 2,rfl,st3,hdk.same s13,hsc.same s13,hm,num_at g3,hdk.pl.bit,fun H4 yt et st4 s4 ht hht2 hrt=>?_⟩
 exact k3 _ H4 fm yl yt el et rfl st4 (s13.trans s4) (hl.same (n3.trans s4)) hhl hrl ht hht2 hrt
end
end K52
namespace L2
open PySem
theorem comp_fl{K:PySem.W.Frag}{a:Addr}{xs:List V}{n:Nat}{κ:List Nat}{g:TG}{tc:TT}{te:TE}{σ:St}{H:Hp}{Q:VK}(hx:xs.length≤1000)(ha:SqL K H a xs)(R:Nat→List V→Prop)(h0:R 0 [])(hlen:∀i ys,R i ys→ys.length≤i)
  (hs:∀i u ys (N:List V→Hp→Prop),xs[i]?=some u→R i ys→(∀ys',R (i+1) ys'→N ys' H)→g u (blkSt n κ σ) H fun σ4 H4=>σ4.drop n=(blkSt n κ σ).drop n∧tc σ4 H4 fun b H5=>if b=true then te σ4 H5 fun v H6=>N (ys++[v]) H6 else N ys H5)
  (hQ:∀ys D,R xs.length ys→H D=none→Q (.ref D) (upd H D (.lst ys))):CompRun n κ g tc te σ (Itl K a) H Q:=by
 refine comp_by (J:=Itl K a) (xs:=xs) (fun i ys H3=>H3=H∧R i ys) ⟨rfl,h0⟩ (Nat.le_of_lt (small1000 hx)) (fun i ys H3 h=>hlen i ys h.2) ?_ ?_ ?_ ?_ ?_
 ·rintro i u ys H3 hu ⟨rfl,_⟩
  exact⟨_,_,ha,hu⟩
 ·rintro i ys u H3 H' hn ⟨rfl,_⟩ hy
  exact⟨hy.1,hy.2 _ ha⟩
 ·rintro ys H3 ⟨rfl,_⟩
  exact⟨_,ha,Nat.le_refl _⟩
 ·rintro i u ys H3 N hN hu ⟨rfl,h⟩
  exact hs i u ys N hu h fun ys' h'=>hN ys' _ ⟨rfl,h'⟩
 ·rintro ys H3 D ⟨rfl,h⟩ hD
  exact hQ ys D h hD
end L2
namespace K52
open PySem L2 Kk
def rLen(K:PySem.W.Frag):List V→Hp→VK→Prop:=fun xs H Q=>∃p ys,xs=[V.ref p]∧(SqL K H p ys∨SqT K H p ys)∧Q (.int (ys.length:Int)) H
theorem call_lenK{X:Cx}{K:PySem.W.Frag}(h:X.K=K):CallR X (.builtin "len") (rLen K):=by
 subst h
 exact call_len_seq
theorem own_at{K:PySem.W.Frag}{W:Hp}{ad lf lm lw lp lt:Addr}{c:Int}{p:Nat→Kd}{C:Orc}(h:DeskAt K W ad lf lm lw lp lt c p C){i:Nat}(hi:i < 5):∃us kvs p' tk vs x',C "" (wd c (9+(i:Int)))=some (us,p i)∧us.length≤4∧(∀x∈us,Pin p x)∧W lt=some (.dT kvs)∧valV kvs [Sum.inr "",Sum.inr (wd c (9+(i:Int)))]=some (.ref p')∧W p'=some (.tup [.ref tk,x'])∧W tk=some (.tup vs)∧KsAt K W vs us:=by
 obtain⟨us,hC,hl,hp⟩:=h.tb.own i hi
 obtain⟨kvs,hkv,htb⟩:=h.tab
 rcases htb "" (wd c (9+(i:Int))) with ⟨e1,_⟩|⟨us',k',u,e1,e2,p',tk,vs,x',e3,t1,t2,t3,_,_⟩
 ·rw [hC] at e1;cases e1
 ·rw [hC] at e1
  cases e1
  exact⟨us,kvs,p',tk,vs,x',hC,hl,hp,hkv,by rw [e2,e3],t1,t2,t3⟩
theorem pool_two{c:Int}{p:Nat→Kd}(h:Pool c p)(k:Kd):∃j,j < 5∧p j≠k:=by
 by_cases e:p 1=k
 ·refine⟨2,by decide,fun z=>?_⟩
  have:=e.trans z.symm
  rw [h.two,h.hid] at this
  cases this
 ·exact⟨1,by decide,e⟩
mutual
theorem ExAt.keep{H H':Hp}(s:∀a xs,H a=some (.tup xs)→H' a=some (.tup xs)):∀{x:V} {e:Ex},ExAt H x e→ExAt H' x e
 |_,_,.var h l=>.var (s _ _ h) l
 |_,_,.let_ h a b=>.let_ (s _ _ h) (ExAt.keep s a) (ExAt.keep s b)
 |_,_,.nd h r l=>.nd (s _ _ h) (ExsAt.keep s r) l
 |_,_,.call h h2 r l=>.call (s _ _ h) (s _ _ h2) (ExsAt.keep s r) l
theorem ExsAt.keep{H H':Hp}(s:∀a xs,H a=some (.tup xs)→H' a=some (.tup xs)):∀{xs:List V} {es:List Ex},ExsAt H xs es→ExsAt H' xs es
 |_,_,.nil=>.nil
 |_,_,.cons a r=>.cons (ExAt.keep s a) (ExsAt.keep s r)
end
theorem exs_set{H:Hp}{x:V}{e:Ex}(h:ExAt H x e):∀{xs:List V} {es:List Ex} {j:Nat},ExsAt H xs es→ExsAt H (xs.set j x) (es.set j e)
 |_,_,_,.nil=>.nil
 |_,_,0,.cons _ r=>.cons h r
 |_,_,j+1,.cons a r=>.cons a (exs_set (j:=j) h r)
theorem kins_set{C:Orc}{ρ:Str→Option Kd}{e:Ex}{k:Kd}(h:kin 40 C ρ e=.ok k):∀{es:List Ex} {ks:List Kd} {j:Nat},kins 40 C ρ es=.ok ks→kins 40 C ρ (es.set j e)=.ok (ks.set j k)
 |[],ks,j,hk=>by rw [kins] at hk;cases hk;exact kins_nil
 |a::es,ks,j,hk=>by
  rw [kins] at hk
  cases h1:kin 40 C ρ a with
  |no c=>rw [h1] at hk;cases hk
  |ok k1 =>
   rw [h1] at hk
   cases h2:kins 40 C ρ es with
   |no c=>rw [h2] at hk;cases hk
   |ok k2 =>
    rw [h2] at hk
    cases hk
    cases j with
    |zero=>exact kins_cons h h2
    |succ j=>exact kins_cons h1 (kins_set (j:=j) h h2)
theorem hts_set{e:Ex}{n:Nat}(h:e.ht≤n):∀{es:List Ex} {j:Nat},hts es≤n→hts (es.set j e)≤n
 |[],j,hh=>hh
 |a::es,0,hh=>by
  simp only [List.set_cons_zero,hts] at hh ⊢
  omega
 |a::es,j+1,hh=>by
  simp only [List.set_cons_succ,hts] at hh ⊢
  have:=hts_set (j:=j) h (es:=es) (by omega)
  omega
theorem ix_nat{n j:Nat}(h:j < n):ixN n (j:Int)=some j:=by
 unfold ixN
 rw [if_pos (by omega),if_pos (by omega)]
 rfl
def Oth(x:Nat→V)(p:Nat→Kd)(k:Kd)(i:Nat)(ys:List V):Prop:=ys.length≤i∧(∀v∈ys,∃j,j < 5∧v=x j∧p j≠k)∧∀j,j < i→j < 5→p j≠k→ys≠[]
theorem oth_0{x:Nat→V}{p:Nat→Kd}{k:Kd}:Oth x p k 0 []:=⟨Nat.le_refl _,fun _ h=>(nomatch h),fun _ h=>absurd h (by omega)⟩
theorem oth_no{x:Nat→V}{p:Nat→Kd}{k:Kd}{i:Nat}{ys:List V}(h:Oth x p k i ys)(e:p i=k):Oth x p k (i+1) ys:=⟨Nat.le_succ_of_le h.1,h.2.1,fun j hj h5 hn=>by
 by_cases z:j=i
 ·subst z
  exact absurd e hn
 ·exact h.2.2 j (by omega) h5 hn⟩
theorem oth_yes{x:Nat→V}{p:Nat→Kd}{k:Kd}{i:Nat}{ys:List V}(h:Oth x p k i ys)(hi:i < 5)(e:p i≠k):Oth x p k (i+1) (ys++[x i]):=⟨by rw [List.length_append];exact Nat.succ_le_succ h.1,fun v hv=>by
 rcases List.mem_append.mp hv with z|z
 ·exact h.2.1 v z
 ·exact⟨i,hi,List.mem_singleton.mp z,e⟩,fun _ _ _ _=>by simp⟩
theorem get5{x:Nat→V}{i:Nat}{u:V}(h:[x 0,x 1,x 2,x 3,x 4][i]?=some u):i < 5∧u=x i:=by
 have hi:i < 5:=(List.getElem?_eq_some_iff.mp h).1
 have:i=0∨i=1∨i=2∨i=3∨i=4:=by omega
 rcases this with rfl|rfl|rfl|rfl|rfl<;>exact⟨by decide,(Option.some.inj h).symm⟩
def spOther(K:PySem.W.Frag):Sp:=fun vs H Q _=>∃(d ad lf lm lw lp lt:Addr) (c:Int) (p:Nat→Kd) (C:Orc) (ρ:Str→Option Kd) (m:Nat),vs=[.ref d,.ref ad]∧St H lf lm∧DeskAt K (zo H [lf,lm]) ad lf lm lw lp lt c p C∧ScAt K (zo H [lf,lm]) d ρ c p m∧m≤100 ∧
 ∀H' q y e,St H' lf lm→Same (zo H [lf,lm]) (zo H' [lf,lm])→zo H' [lf,lm] q=some (.tup [y,.str "WrongKind"])→ExAt (zo H' [lf,lm]) y e→e.ht≤10→Res C ρ c e (.no 2)→Q (.ref q) H'
section
variable{P:Program}{w:World}{K:PySem.W.Frag}{mg:Str→Option Value}{base:Heap}
theorem scOther:FnScope ["_law_scope","_law_desk_here","_law_words","_law_f","_law_kinds","_law_args","_law_at","_law_others"] ["_law_scope","_law_desk_here"] (defScope sOther):=⟨rfl,rfl,rfl,by decide +kernel,rfl,by decide +kernel,by decide +kernel⟩
set_option maxHeartbeats 0 in
theorem ok_other{l:Nat}{f fT fL fO:Addr}{fd fdT fdL fdO:FuncData} (F:Fun K "_law_other_argument" "_law_other_argument" sOther f fd) (ml:mg "len"=none) (mr:mg "range"=none) (mt:mg "tuple"=none) (hl3:3≤l)
  (GT:FnOk P w K mg base CX0 1 fT fdT ["_law_feed_here","_law_many"] spTake) (bT:Binds K fdT ["_law_feed_here","_law_many"] []) (kT:PySem.W.keepIn K (.ref fT)=true) (mT:mg "_law_take"=some (.ref fT))
  (GL:FnOk P w K mg base CX0 2 fL fdL ["_law_kind","_law_scope","_law_desk_here"] (spLeaf K)) (bL:Binds K fdL ["_law_kind","_law_scope","_law_desk_here"] []) (kL:PySem.W.keepIn K (.ref fL)=true) (mL:mg "_law_leaf"=some (.ref fL))
  (GO:FnOk P w K mg base CX0 l fO fdO ["_law_kind","_law_scope","_law_desk_here","_law_deep"] (spOf K 2)) (bO:Binds K fdO ["_law_kind","_law_scope","_law_desk_here","_law_deep"] []) (kO:PySem.W.keepIn K (.ref fO)=true) (mO:mg "_law_of"=some (.ref fO)):FnOk P w K mg base CX0 (l+1) f fd ["_law_scope","_law_desk_here"] (spOther K):=by
 refine F.ok (k:=l) scOther (fun vs H Q E h=>?_) (fun cdv A outer s H vs Q E hrO h=>?_)
 ·obtain⟨_,_,_,_,_,_,_,_,_,_,_,_,rfl,_⟩:=h
  rfl
 obtain⟨d,ad,lf,lm,lw,lp,lt,c,p,C,ρ,m,rfl,hst,hdk,hsc,hm,q⟩:=h
 have hrT:Room 1 _:=hrO.mono (by omega)
 have hrL:Room 2 _:=hrO.mono (by omega)
 have hu:=hu_of hrO
 have hu64:=hu64_of hrO
 have tad:∀{H1:Hp},Same (zo H [lf,lm]) (zo H1 [lf,lm])→SqT K H1 ad [.ref lf,.ref lp,.ref lw,.ref lt,.ref lm]:=fun s1=>SqT.of (zo_same _ _ (s1 _ _ hdk.tup))
 have tlw:∀{H1:Hp},Same (zo H [lf,lm]) (zo H1 [lf,lm])→SqL K H1 lw (wl c):=fun s1=>SqL.of (zo_same _ _ (s1 _ _ hdk.words))
 refine⟨_,@pss_cons _ _ _ _ _ (ps_comp_if (i0:=2) scOther.nd rfl (Or.inl rfl) (own:=["_law_k"]) (caps:=["_law_desk_here"]) (κ:=[1]) rfl ⟨rfl,by decide +kernel,by decide +kernel,rfl,rfl,(fun y hy=>by simp only [List.mem_cons,List.not_mem_nil,or_false] at hy;rcases hy with rfl<;>rfl),(fun y hy=>by simp only [List.mem_cons,List.not_mem_nil,or_false] at hy;rcases hy with rfl<;>exact⟨.inl rfl,rfl,.inl rfl⟩)⟩ rfl (pi_range1 rfl mr (@pa_cons _ _ _ _ _ pe_int pa_nil rfl)) (fun _ _ _ _=>(pg_name (i:=0) (show(["_law_k","_law_desk_here"]:List Str).Nodup from by decide +kernel) rfl (Or.inl rfl))) (fun _ _ _ _=>(pt_cmpR op_gt (pe_callB (call_lenK (K:=K) rfl) rfl ml PySem.boot_len (@pa_cons _ _ _ _ _ (pe_ix (r:=rIxT K) ix_tup (pe_dget hu (pe_ix (r:=rIxT K) ix_tup (pv 1) pe_int (fun _ _=>rfl)) (@pe_tup _ _ _ _ _ (@pa_cons _ _ _ _ _ pe_str (@pa_cons _ _ _ _ _ (pe_ix (r:=rIxL K) ix_list (pe_ix (r:=rIxT K) ix_tup (pv 1) pe_int (fun _ _=>rfl)) (pe_op op_add pe_int (pv 0)) (fun _ _=>rfl)) pa_nil rfl) rfl)) (fun _ _=>rfl)) pe_int (fun _ _=>rfl)) pa_nil rfl)) pe_int (nomark _))) (fun _ _ _ _=>(pe_ix (r:=rIxL K) ix_list (pe_ix (r:=rIxT K) ix_tup (pv 1) pe_int (fun _ _=>rfl)) (pe_op op_add pe_int (pv 0)) (fun _ _=>rfl)))) (@pss_cons _ _ _ _ _ (ps_if (pt_cmpR op_eq (pe_callB call_len_seq rfl ml PySem.boot_len (@pa_cons _ _ _ _ _ (pv 2) pa_nil rfl)) pe_int (nomark _)) (@pss_one _ _ _ (@ps_ret _ _ _ _ (@pe_tup _ _ _ _ _ (@pa_cons _ _ _ _ _ (@pe_tup _ _ _ _ _ (@pa_cons _ _ _ _ _ pe_str (@pa_cons _ _ _ _ _ (pe_call GL hrL rfl mL kL bL .nil pass0 (@pa_cons _ _ _ _ _ (pe_ix ix_list (pe_ix ix_tup (pv 1) pe_int (fun _ _=>rfl)) pe_int (fun _ _=>rfl)) (@pa_cons _ _ _ _ _ (pv 0) (@pa_cons _ _ _ _ _ (pv 1) pa_nil rfl) rfl) rfl)) pa_nil rfl) rfl)) (@pa_cons _ _ _ _ _ pe_str pa_nil rfl) rfl)))) pss_nil) (@pss_cons _ _ _ _ _ (ps_set (i:=3) scOther.nd rfl (Or.inl rfl) (pe_ix ix_list (pv 2) (pe_call GT hrT rfl mT kT bT .nil pass0 (@pa_cons _ _ _ _ _ (pe_ix ix_tup (pv 1) pe_int (fun _ _=>rfl)) (@pa_cons _ _ _ _ _ (pe_callB call_len_seq rfl ml PySem.boot_len (@pa_cons _ _ _ _ _ (pv 2) pa_nil rfl)) pa_nil rfl) rfl)) (fun _ _=>rfl))) (@pss_cons _ _ _ _ _ (ps_set (i:=4) scOther.nd rfl (Or.inr rfl) (pe_ix ix_tup (pe_dget hu (pe_ix ix_tup (pv 1) pe_int (fun _ _=>rfl)) (@pe_tup _ _ _ _ _ (@pa_cons _ _ _ _ _ pe_str (@pa_cons _ _ _ _ _ (pv 3) pa_nil rfl) rfl)) (fun _ _=>rfl)) pe_int (fun _ _=>rfl))) (@pss_cons _ _ _ _ _ (ps_comp (i0:=5) scOther.nd rfl (Or.inl rfl) (own:=["_law_one"]) (caps:=["_law_scope","_law_desk_here"]) (κ:=[0,1]) rfl ⟨rfl,by decide +kernel,by decide +kernel,rfl,rfl,(fun y hy=>by simp only [List.mem_cons,List.not_mem_nil,or_false] at hy;rcases hy with rfl|rfl<;>rfl),(fun y hy=>by simp only [List.mem_cons,List.not_mem_nil,or_false] at hy;rcases hy with rfl|rfl<;>exact⟨.inl rfl,rfl,.inl rfl⟩)⟩ rfl (pi_tup (pv 4)) (fun _ _ _ _=>(pg_name (i:=0) (show(["_law_one","_law_scope","_law_desk_here"]:List Str).Nodup from by decide +kernel) rfl (Or.inl rfl))) (fun _ _ _ _=>(pe_call GL hrL rfl mL kL bL .nil pass0 (@pa_cons _ _ _ _ _ (pv 0) (@pa_cons _ _ _ _ _ (pv 1) (@pa_cons _ _ _ _ _ (pv 2) pa_nil rfl) rfl) rfl)))) (@pss_cons _ _ _ _ _ (ps_set (i:=6) scOther.nd rfl (Or.inr rfl) (pe_call GT hrT rfl mT kT bT .nil pass0 (@pa_cons _ _ _ _ _ (pe_ix ix_tup (pv 1) pe_int (fun _ _=>rfl)) (@pa_cons _ _ _ _ _ (pe_callB call_len_seq rfl ml PySem.boot_len (@pa_cons _ _ _ _ _ (pv 4) pa_nil rfl)) pa_nil rfl) rfl))) (@pss_cons _ _ _ _ _ (ps_comp_if (i0:=7) scOther.nd rfl (Or.inl rfl) (own:=["_law_other"]) (caps:=["_law_kinds","_law_at"]) (κ:=[4,6]) rfl ⟨rfl,by decide +kernel,by decide +kernel,rfl,rfl,(fun y hy=>by simp only [List.mem_cons,List.not_mem_nil,or_false] at hy;rcases hy with rfl|rfl<;>rfl),(fun y hy=>by simp only [List.mem_cons,List.not_mem_nil,or_false] at hy;rcases hy with rfl|rfl<;>exact⟨.inl rfl,rfl,.inl rfl⟩)⟩ rfl (pi_list (pe_ix ix_tup (pv 1) pe_int (fun _ _=>rfl))) (fun _ _ _ _=>(pg_name (i:=0) (show(["_law_other","_law_kinds","_law_at"]:List Str).Nodup from by decide +kernel) rfl (Or.inl rfl))) (fun _ _ _ _=>(pt_cmpR (r:=rEqD K true) (op_neD hu64) (pv 0) (pe_ix (r:=rIxT K) ix_tup (pv 1) (pv 2) (fun _ _=>rfl)) (nomark _))) (fun _ _ _ _=>(pv 0))) (@pss_cons _ _ _ _ _ (ps_asg (pe_call GO hrO rfl mO kO bO .nil pass0 (@pa_cons _ _ _ _ _ (pe_ix ix_list (pv 7) (pe_call GT hrT rfl mT kT bT .nil pass0 (@pa_cons _ _ _ _ _ (pe_ix ix_tup (pv 1) pe_int (fun _ _=>rfl)) (@pa_cons _ _ _ _ _ (pe_callB call_len_seq rfl ml PySem.boot_len (@pa_cons _ _ _ _ _ (pv 7) pa_nil rfl)) pa_nil rfl) rfl)) (fun _ _=>rfl)) (@pa_cons _ _ _ _ _ (pv 0) (@pa_cons _ _ _ _ _ (pv 1) (@pa_cons _ _ _ _ _ pe_int pa_nil rfl) rfl) rfl) rfl)) (pg_sub (pv 5) (pv 6) set_list)) (@pss_one _ _ _ (@ps_ret _ _ _ _ (@pe_tup _ _ _ _ _ (@pa_cons _ _ _ _ _ (@pe_tup _ _ _ _ _ (@pa_cons _ _ _ _ _ pe_str (@pa_cons _ _ _ _ _ pe_str (@pa_cons _ _ _ _ _ (pv 3) (@pa_cons _ _ _ _ _ (pe_callTy call_tuple_of rfl mt bootTuple (@pa_cons _ _ _ _ _ (pv 5) pa_nil rfl)) pa_nil rfl) rfl) rfl) rfl)) (@pa_cons _ _ _ _ _ pe_str pa_nil rfl) rfl))))))))))),?_⟩
 refine⟨_,rfl,by omega,by omega,comp_fr (m:=5) (by omega) (fun j ys H5=>St H5 lf lm∧Same (zo H [lf,lm]) (zo H5 [lf,lm])∧ys.length≤j∧∀v∈ys,∃i:Nat,i < 5∧v=.str (wd c (9+(i:Int)))∧∀us kd,C "" (wd c (9+(i:Int)))=some (us,kd)→1 < us.length) ⟨hst,Same.refl _,Nat.le_refl _,fun _ h=>(nomatch h)⟩ (fun _ _ _ h=>h.2.2.1) ?_ ?_⟩
 ·rintro j ys H5 N hN hj ⟨st5,s5,hyl,hys⟩
  refine⟨rfl,_,rfl,ad,_,_,_,rfl,rfl,tad s5,at3,_,rfl,ad,_,_,_,rfl,rfl,tad s5,at2,_,rfl,_,_,rfl,rfl,lw,_,_,_,rfl,rfl,tlw s5,wl_at c (by omega) (by omega),(by show 2≤sizeLine;decide),fun pk hpk=>?_⟩
  obtain⟨st6,n6,g6⟩:=st5.nw hpk (.tup [.str "",.str (wd c (9+(j:Int)))])
  have s6:=s5.trans n6
  obtain⟨us,kvs,p',tk,vs',x',hC,hul,hup,hkv,hval,t1,t2,t3⟩:=own_at (hdk.same s6) hj
  have g:=DGet.t (k:=[Sum.inr "",Sum.inr (wd c (9+(j:Int)))]) (zo_same _ _ hkv) (zo_same _ _ g6)
  rw [hval] at g
  have hvl:=t3.length
  refine⟨lt,.ref p',rfl,g,p',_,_,_,rfl,rfl,SqT.of (zo_same _ _ t1),at0,tk,vs',rfl,.inr (SqT.of (zo_same _ _ t2)),_,_,rfl,rfl,_,rfl,ite2 (fun c1=>?_) (fun _=>hN _ _ ⟨st6,s6,Nat.le_succ_of_le hyl,hys⟩)⟩
  have c1':(1:Int) < ((vs'.length:Nat):Int):=of_decide_eq_true c1
  refine⟨_,rfl,ad,_,_,_,rfl,rfl,tad s6,at2,_,rfl,_,_,rfl,rfl,lw,_,_,_,rfl,rfl,tlw s6,wl_at c (by omega) (by omega),hN _ _ ⟨st6,s6,by rw [List.length_append];exact Nat.succ_le_succ hyl,fun v hv=>?_⟩⟩
  rcases List.mem_append.mp hv with z|z
  ·exact hys v z
  ·refine⟨j,hj,List.mem_singleton.mp z,fun us' kd' e=>?_⟩
   rw [hC] at e
   cases e
   omega
 rintro ys H5 la ⟨st5,s5,hyl,hys⟩ hla
 obtain⟨st6,n6,g6⟩:=st5.nw hla (.lst ys)
 have s6:=s5.trans n6
 obtain⟨x,hlp,hx⟩:=hdk.pool
 refine⟨_,rfl,la,_,rfl,.inl (SqL.of (zo_same _ _ g6)),rfl,_,rfl,ite2 (fun _=>?_) (fun c0=>?_)⟩
 ·refine⟨_,rfl,ad,_,_,_,rfl,rfl,tad s6,at1,lp,_,_,_,rfl,rfl,SqL.of (zo_same _ _ (s6 _ _ hlp)),at5n (k:=2) (by decide),_,rfl,_,rfl,x 2,d,ad,lf,lm,lw,lp,lt,c,p,C,ρ,m,p 2,rfl,st6,hdk.same s6,hsc.same s6,by omega,(hx 2 (by decide)).same s6,⟨2,by decide,rfl⟩,fun H7 y e st7 s7 he hh hr=>?_⟩
  refine⟨(by show 2≤sizeLine;decide),fun a1 h1=>⟨(by show 2≤sizeLine;decide),fun a2 h2=>?_⟩⟩
  obtain⟨st8,n8,g8⟩:=st7.nw h1 (.tup [.str "first",y])
  obtain⟨st9,n9,g9⟩:=st8.nw h2 (.tup [.ref a1,.str "WrongKind"])
  refine q _ a2 _ (.nd .fst [e]) st9 (s6.trans (s7.trans (n8.trans n9))) g9 (.nd (xs:=[y]) (n9 _ _ g8) (.cons (he.same (n8.trans n9)) .nil) (not_lit nofun)) (by simp only [Ex.ht,hts,List.length_cons,List.length_nil];omega) fun ρ' h1 h2=>?_
  rw [kin_nd (kins_cons (hr ρ' h1 h2) kins_nil),hdk.pl.hid]
  rfl
 have z0:0 < ys.length:=Nat.pos_of_ne_zero fun e=>c0 (by
  show decide (V.int (ys.length:Int)=V.int 0)=true
  rw [e]
  exact decide_eq_true rfl)
 refine⟨_,rfl,_,rfl,ad,_,_,_,rfl,rfl,tad s6,at0,_,rfl,la,_,rfl,.inl (SqL.of (zo_same _ _ g6)),lf,(ys.length:Int),rfl,st6.1,by omega,by omega,fun H7 r f7 t7 r0 r1=>?_⟩
 obtain⟨st7,n7⟩:=st6.take f7 t7
 have s7:=s6.trans n7
 obtain⟨v,hv,hva⟩:=at_get (xs:=ys) r0 r1
 obtain⟨i,hi,rfl,hbig⟩:=hys v (List.mem_of_getElem? hv)
 refine⟨la,_,_,_,rfl,rfl,SqL.of (zo_same _ _ (n7 _ _ g6)),hva,?_⟩
 refine⟨_,rfl,ad,_,_,_,rfl,rfl,tad s7,at3,_,rfl,(by show 2≤sizeLine;decide),fun pk hpk=>?_⟩
 obtain⟨st8,n8,g8⟩:=st7.nw hpk (.tup [.str "",.str (wd c (9+(i:Int)))])
 have s8:=s7.trans n8
 obtain⟨us,kvs,p',tk,vs',x',hC,hul,hup,hkv,hval,t1,t2,t3⟩:=own_at (hdk.same s8) hi
 have hbg:=hbig us _ hC
 have g:=DGet.t (k:=[Sum.inr "",Sum.inr (wd c (9+(i:Int)))]) (zo_same _ _ hkv) (zo_same _ _ g8)
 rw [hval] at g
 have hvl:=t3.length
 refine⟨lt,.ref p',rfl,g,p',_,_,_,rfl,rfl,SqT.of (zo_same _ _ t1),at0,?_⟩
 refine⟨_,rfl,tk,rfl,⟨vs',SqT.of (zo_same _ _ t2)⟩,comp_fT (xs:=vs') (by omega) (fun j zs H9=>St H9 lf lm∧Same (zo (upd H7 pk (.tup [.str "",.str (wd c (9+(i:Int)))])) [lf,lm]) (zo H9 [lf,lm])∧zs.length=j∧∃es,ExsAt (zo H9 [lf,lm]) zs es∧es.length=j∧hts es≤1∧∀ρ',(∀s k,ρ s=some k→ρ' s=some k)→ρ' (wd c 24)=none→kins 40 C ρ' es=.ok (us.take j)) ⟨st8,Same.refl _,rfl,[],.nil,rfl,by simp [hts],fun ρ' _ _=>kins_nil⟩ (fun j zs H9 h=>SqT.of (zo_same _ _ (h.2.1 _ _ t2))) (fun _ _ _ h=>Nat.le_of_eq h.2.2.1) ?_ ?_⟩
 ·rintro j u' zs H9 N hN hu' ⟨st9,s9,hzl,es,hes,hel,hht,hks⟩
  obtain⟨k',hk',hku⟩:=pair_get t3 hu'
  have s19:=s8.trans s9
  refine⟨rfl,tYes_go ⟨_,rfl,_,rfl,_,rfl,u',d,ad,lf,lm,lw,lp,lt,c,p,C,ρ,m,k',rfl,st9,hdk.same s19,hsc.same s19,by omega,hku.same s9,hup k' (List.mem_of_getElem? hk'),fun H6 y e6 st6 s6 he6 hh6 hr6=>?_⟩⟩
  refine hN _ _ ⟨st6,s9.trans s6,by rw [List.length_append,hzl];rfl,es++[e6],exs_snoc he6 (hes.same s6),by rw [List.length_append,hel];rfl,by rw [hts_snoc];omega,fun ρ' h1 h2=>?_⟩
  rw [←take_snoc hk']
  exact kins_snocO (hr6 ρ' h1 h2) (hks ρ' h1 h2)
 rintro zs H9 lz ⟨st9,s9,hzl,es,hes,hel,hht,hks⟩ hlz
 obtain⟨sta,na,ga⟩:=st9.nw hlz (.lst zs)
 have s8a:=s9.trans na
 have sa:=s8.trans s8a
 refine⟨_,rfl,ad,_,_,_,rfl,rfl,tad sa,at0,_,rfl,tk,vs',rfl,.inr (SqT.of (zo_same _ _ (s8a _ _ t2))),lf,(vs'.length:Int),rfl,sta.1,by omega,by omega,fun Hb t fb tb t0 t1'=>?_⟩
 obtain⟨stb,nb⟩:=sta.take fb tb
 obtain⟨j,rfl⟩:∃j:Nat,t=(j:Int):=⟨t.toNat,by omega⟩
 have hj:j < vs'.length:=by omega
 obtain⟨kj,hkj,hkaj⟩:=pair_get t3 (List.getElem?_eq_getElem hj)
 have sb:=sa.trans nb
 have s8b:=s8a.trans nb
 have hkb:=hkaj.same s8b
 refine⟨_,rfl,ad,_,_,_,rfl,rfl,tad sb,at1,lp,rfl,⟨_,SqL.of (zo_same _ _ (sb _ _ hlp))⟩,comp_fl (xs:=[x 0,x 1,x 2,x 3,x 4]) (by show 5≤1000;decide) (SqL.of (zo_same _ _ (sb _ _ hlp))) (Oth x p kj) oth_0 (fun _ _ h=>h.1) ?_ ?_⟩
 ·rintro i2 u2 ys2 N hu2 ho hN
  obtain⟨hi2,rfl⟩:=get5 hu2
  have hka:=(hx i2 hi2).same sb
  refine⟨rfl,_,rfl,_,rfl,_,rfl,tk,_,_,_,rfl,rfl,SqT.of (zo_same _ _ (s8b _ _ t2)),atI_nat (List.getElem?_eq_getElem hj),Kd.dat (p i2),Kd.dat kj,kd_dat (hka.same zo_same).1,kd_dat (hkb.same zo_same).1,sm_shaped hka.2,sm_shaped hkb.2,_,rfl,?_⟩
  show if (!PyData.eqv (Kd.dat (p i2)) (Kd.dat kj))=true then _ else _
  rw [eqv_dat]
  by_cases ek:p i2=kj
  ·rw [decide_eq_true ek]
   exact iteF (hN _ (oth_no ho ek))
  ·rw [decide_eq_false ek]
   exact iteT ⟨_,rfl,hN _ (oth_yes ho hi2 ek)⟩
 rintro os lo ⟨hol,hos,hon⟩ hlo
 obtain⟨stc,nc,gc⟩:=stb.nw hlo (.lst os)
 have o0:0 < os.length:=by
  obtain⟨j2,h5,h6⟩:=pool_two hdk.pl kj
  exact List.length_pos_iff.mpr (hon j2 h5 h5 h6)
 have hol5:os.length≤5:=hol
 have sc:=sb.trans nc
 refine⟨_,rfl,_,rfl,ad,_,_,_,rfl,rfl,tad sc,at0,_,rfl,lo,os,rfl,.inl (SqL.of (zo_same _ _ gc)),lf,(os.length:Int),rfl,stc.1,by omega,by omega,fun Hd t2' fd' td' u0 u1=>?_⟩
 obtain⟨std,nd⟩:=stc.take fd' td'
 have sd:=sc.trans nd
 obtain⟨vo,hvo,hvoa⟩:=at_get (xs:=os) u0 u1
 obtain⟨jo,hjo,rfl,hne⟩:=hos vo (List.mem_of_getElem? hvo)
 refine⟨lo,_,_,_,rfl,rfl,SqL.of (zo_same _ _ (nd _ _ gc)),hvoa,_,rfl,_,rfl,x jo,d,ad,lf,lm,lw,lp,lt,c,p,C,ρ,m,p jo,rfl,std,hdk.same sd,hsc.same sd,by omega,(hx jo hjo).same sd,⟨jo,hjo,rfl⟩,fun He ye ee ste se hee hhe hre=>?_⟩
 have ge:=(nb.trans (nc.trans (nd.trans se))) _ _ ga
 have geH:=zo_same _ _ ge
 have hz9:zo H9 [lf,lm] lz=none:=by
  cases e:zo H9 [lf,lm] lz with
  |none=>rfl
  |some u=>rw [zo_same _ _ e] at hlz;cases hlz
 refine⟨_,rfl,_,rfl,lz,_,(j:Int),j,rfl,rfl,geH,ix_nat (by omega),?_⟩
 have nlf:lz≠lf:=fun e=>by subst e;exact fd_some st9.1 hlz
 have nlm:lz≠lm:=fun e=>by subst e;exact st9.ne lz (by simp) hlz
 have stf:St (upd He lz (.lst (zs.set j ye))) lf lm:=st_upd ste nlf nlm
 have s9e:Same (zo H9 [lf,lm]) (zo He [lf,lm]):=na.trans (nb.trans (nc.trans (nd.trans se)))
 have s9f:Same (zo H9 [lf,lm]) (zo (upd He lz (.lst (zs.set j ye))) [lf,lm]):=fun b o e=>by
  have nb':b≠lz:=fun z=>by rw [z,hz9] at e;cases e
  have e1:=s9e _ _ e
  have nS:b∉[lf,lm]:=fun z=>by rw [zo_at z] at e1;cases e1
  rw [zo_ne nS] at e1 ⊢
  rw [upd_ne nb']
  exact e1
 have keepf:∀a xs,zo He [lf,lm] a=some (.tup xs)→zo (upd He lz (.lst (zs.set j ye))) [lf,lm] a=some (.tup xs):=fun a xs e=>by
  have na':a≠lz:=fun z=>by rw [z,ge] at e;cases e
  have nS:a∉[lf,lm]:=fun z=>by rw [zo_at z] at e;cases e
  rw [zo_ne nS] at e ⊢
  rw [upd_ne na']
  exact e
 have gf:zo (upd He lz (.lst (zs.set j ye))) [lf,lm] lz=some (.lst (zs.set j ye)):=by
  rw [zo_ne (by simp [nlf,nlm])]
  exact upd_same
 have hef:=hee.keep keepf
 have hesf:=exs_set (j:=j) hef (hes.same s9f)
 have sf:Same (zo H [lf,lm]) (zo (upd He lz (.lst (zs.set j ye))) [lf,lm]):=(s8.trans s9).trans s9f
 generalize upd He lz (.lst (zs.set j ye))=Hf at stf gf hesf sf ⊢
 refine⟨_,rfl,_,rfl,lz,_,rfl,.inl ⟨SqL.of (zo_same _ _ gf),fun tt htt=>?_⟩⟩
 obtain⟨stg,ng,gg⟩:=stf.nw htt (.tup (zs.set j ye))
 refine⟨(by show 4≤sizeLine;decide),fun a1 h1=>⟨(by show 2≤sizeLine;decide),fun a2 h2=>?_⟩⟩
 obtain⟨sth,nh,gh⟩:=stg.nw h1 (.tup [.str "call",.str "",.str (wd c (9+(i:Int))),.ref tt])
 obtain⟨sti,ni,gi⟩:=sth.nw h2 (.tup [.ref a1,.str "WrongKind"])
 have nhi:=nh.trans ni
 refine q _ a2 _ (.call "" (wd c (9+(i:Int))) (es.set j ee)) sti (sf.trans (ng.trans nhi)) gi (.call (ni _ _ gh) (nhi _ _ gg) (hesf.same (ng.trans nhi)) (wd9 _ _)) ?_ fun ρ' h1 h2=>?_
 ·have:=hts_set (j:=j) (e:=ee) (n:=8) (by omega) (es:=es) (by omega)
  simp only [Ex.ht,List.length_set]
  omega
 ·have hk9:=hks ρ' h1 h2
  rw [hvl,List.take_length] at hk9
  rw [kin_call (kins_set (j:=j) (hre ρ' h1 h2) hk9),hC,ansK_eq (us:=us) (ks:=us.set j (p jo)) (by rw [List.length_set]),if_neg]
  intro e
  have e2:=congrArg (fun l:List Kd=>l[j]?) e
  simp only [hkj] at e2
  rw [List.getElem?_set_self (by omega)] at e2
  exact hne (Option.some.inj e2).symm
end
end K52
namespace K52
open PySem L2 Kk
abbrev nm:Nat→Str
 |0=>"NoName"
 |1=>"NoCount"
 |2=>"WrongKind"
 |_=>"TooBig"
def Bad(C:Orc)(ρ:Str→Option Kd)(c:Int)(p:Nat→Kd)(kd:Kd)(e:Ex)(n:Nat):Prop:=Res C ρ c e (.no n)∨(n=2∧∃k',k'≠kd∧Pin p k'∧Res C ρ c e (.ok k'))
def spSpoilt(K:PySem.W.Frag):Sp:=fun vs H Q _=>∃(xk:V) (d ad lf lm lw lp lt:Addr) (ft c:Int) (p:Nat→Kd) (C:Orc) (ρ:Str→Option Kd) (m:Nat) (kd:Kd),vs=[xk,.ref d,.ref ad,.int ft]∧St H lf lm∧DeskAt K (zo H [lf,lm]) ad lf lm lw lp lt c p C∧ScAt K (zo H [lf,lm]) d ρ c p m∧m≤100∧KAt K (zo H [lf,lm]) xk kd∧Pin p kd ∧
 ∀H' q y e n,St H' lf lm→Same (zo H [lf,lm]) (zo H' [lf,lm])→zo H' [lf,lm] q=some (.tup [y,.str (nm n)])→n < 3→ExAt (zo H' [lf,lm]) y e→e.ht≤10→Bad C ρ c p kd e n→Q (.ref q) H'
theorem pool_in{c:Int}{p:Nat→Kd}{C:Orc}(hb:TbI c p 5 C){t:Str}:C (wd c 24) t=none:=by
 cases e:C (wd c 24) t with
 |none=>rfl
 |some u =>
  obtain⟨k,hk,⟨z,_⟩|⟨z,_⟩|⟨z,_⟩⟩:=hb.no _ _ (by rw [e];nofun)
  ·exact absurd z (wd_nil c 24)
  ·exact absurd z (wd_no c (by omega) (by omega) (by omega))
  ·exact absurd z (wd_no c (by omega) (by omega) (by omega))
theorem no_own24{c:Int}{p:Nat→Kd}{C:Orc}(hb:TbI c p 5 C):C "" (wd c 24)=none:=by
 cases e:C "" (wd c 24) with
 |none=>rfl
 |some u =>
  obtain⟨k,hk,⟨_,z⟩|⟨z,_⟩|⟨z,_⟩⟩:=hb.no _ _ (by rw [e];nofun)
  ·exact absurd z (wd_no c (by omega) (by omega) (by omega))
  ·exact absurd z.symm (wd_nil c 8)
  ·exact absurd z.symm (wd_nil c 8)
theorem no_89{c:Int}{p:Nat→Kd}{C:Orc}(hb:TbI c p 5 C):C (wd c 8) (wd c 9)=none:=by
 cases e:C (wd c 8) (wd c 9) with
 |none=>rfl
 |some u =>
  obtain⟨k,hk,⟨z,_⟩|⟨_,z⟩|⟨_,z⟩⟩:=hb.no _ _ (by rw [e];nofun)
  ·exact absurd z (wd_nil c 8)
  ·exact absurd z (wd_no c (by omega) (by omega) (by omega))
  ·exact absurd z (wd_no c (by omega) (by omega) (by omega))
theorem ansK_ne{us ks:List Kd}{k:Kd}(hl:us.length≠ks.length):ansK (some (us,k)) ks=.no 1:=by
 show(if us.length=ks.length then (if us=ks then R.ok k else R.no 2) else R.no 1)=_
 rw [if_neg hl]
theorem no_pair{c:Int}{p:Nat→Kd}(h:Pool c p){i:Nat}(hi:i < 5)(h3:i≠3):fmK 40 .fst [p i]=.no 2∧fmK 40 .snd [p i]=.no 2:=by
 have:i=0∨i=1∨i=2∨i=4:=by omega
 rcases this with rfl|rfl|rfl|rfl
 ·obtain⟨n,e,_⟩:=h.num
  rw [e];exact⟨rfl,rfl⟩
 ·rw [h.two];exact⟨rfl,rfl⟩
 ·rw [h.hid];exact⟨rfl,rfl⟩
 ·obtain⟨j,_,_,e⟩:=h.own
  rw [e];exact⟨rfl,rfl⟩
section
variable{P:Program}{w:World}{K:PySem.W.Frag}{mg:Str→Option Value}{base:Heap}
theorem scSpoilt:FnScope ["_law_kind","_law_scope","_law_desk_here","_law_fault","_law_feed_here","_law_others","_law_unknown","_law_at","_law_more","_law_some","_law_numbers","_law_size_here","_law_one","_law_half"] ["_law_kind","_law_scope","_law_desk_here","_law_fault"] (defScope sSpoilt):=⟨rfl,rfl,rfl,by decide +kernel,rfl,by decide +kernel,by decide +kernel⟩
set_option maxHeartbeats 0 in
theorem ok_spoilt{l:Nat}{f fT fL fO fY fH:Addr}{fd fdT fdL fdO fdY fdH:FuncData} (F:Fun K "_law_spoilt" "_law_spoilt" sSpoilt f fd) (ml:mg "len"=none) (mi:mg "int"=none) (hl3:3≤l)
  (GT:FnOk P w K mg base CX0 1 fT fdT ["_law_feed_here","_law_many"] spTake) (bT:Binds K fdT ["_law_feed_here","_law_many"] []) (kT:PySem.W.keepIn K (.ref fT)=true) (mT:mg "_law_take"=some (.ref fT))
  (GL:FnOk P w K mg base CX0 2 fL fdL ["_law_kind","_law_scope","_law_desk_here"] (spLeaf K)) (bL:Binds K fdL ["_law_kind","_law_scope","_law_desk_here"] []) (kL:PySem.W.keepIn K (.ref fL)=true) (mL:mg "_law_leaf"=some (.ref fL))
  (GO:FnOk P w K mg base CX0 l fO fdO ["_law_kind","_law_scope","_law_desk_here","_law_deep"] (spOf K 2)) (bO:Binds K fdO ["_law_kind","_law_scope","_law_desk_here","_law_deep"] []) (kO:PySem.W.keepIn K (.ref fO)=true) (mO:mg "_law_of"=some (.ref fO))
  (GY:FnOk P w K mg base CX0 2 fY fdY ["_law_desk_here"] (spAny K)) (bY:Binds K fdY ["_law_desk_here"] []) (kY:PySem.W.keepIn K (.ref fY)=true) (mY:mg "_law_any"=some (.ref fY))
  (GH:FnOk P w K mg base CX0 (l+1) fH fdH ["_law_scope","_law_desk_here"] (spOther K)) (bH:Binds K fdH ["_law_scope","_law_desk_here"] []) (kH:PySem.W.keepIn K (.ref fH)=true) (mH:mg "_law_other_argument"=some (.ref fH)):FnOk P w K mg base CX0 (l+2) f fd ["_law_kind","_law_scope","_law_desk_here","_law_fault"] (spSpoilt K):=by
 refine F.ok (k:=l+1) scSpoilt (fun vs H Q E h=>?_) (fun cdv A outer s H vs Q E hrH h=>?_)
 ·obtain⟨_,_,_,_,_,_,_,_,_,_,_,_,_,_,_,rfl,_⟩:=h
  rfl
 obtain⟨xk,d,ad,lf,lm,lw,lp,lt,ft,c,p,C,ρ,m,kd,rfl,hst,hdk,hsc,hm,hxk,hpk,q⟩:=h
 have hrT:Room 1 _:=hrH.mono (by omega)
 have hrL:Room 2 _:=hrH.mono (by omega)
 have hrY:Room 2 _:=hrL
 have hrO:Room l _:=hrH.mono (by omega)
 have hu64:=hu64_of hrH
 have tad:∀{H1:Hp},Same (zo H [lf,lm]) (zo H1 [lf,lm])→SqT K H1 ad [.ref lf,.ref lp,.ref lw,.ref lt,.ref lm]:=fun s1=>SqT.of (zo_same _ _ (s1 _ _ hdk.tup))
 have tlw:∀{H1:Hp},Same (zo H [lf,lm]) (zo H1 [lf,lm])→SqL K H1 lw (wl c):=fun s1=>SqL.of (zo_same _ _ (s1 _ _ hdk.words))
 obtain⟨x,hlp,hx⟩:=hdk.pool
 have tlp:∀{H1:Hp},Same (zo H [lf,lm]) (zo H1 [lf,lm])→SqL K H1 lp [x 0,x 1,x 2,x 3,x 4]:=fun s1=>SqL.of (zo_same _ _ (s1 _ _ hlp))
 obtain⟨px,pxs,epx,hpx⟩:=kd_tup hxk.1
 obtain⟨tB,dB,kB⟩:∃t,PSs (cxOf CX0 P w K mg base ["_law_kind","_law_scope","_law_desk_here","_law_fault","_law_feed_here","_law_others","_law_unknown","_law_at","_law_more","_law_some","_law_numbers","_law_size_here","_law_one","_law_half"] "_law_spoilt" (defScope sSpoilt) f cdv A outer s H E).nox (List.drop 3 (ifT ((defBody sSpoilt).getD 4 dS))) t ∧
   ∀(D:Ends) (H3:Hp) (xn:V) (n' sz:Int),D.rt=Q→St H3 lf lm→Same (zo H [lf,lm]) (zo H3 [lf,lm])→KAt K (zo H [lf,lm]) xn (.num n')→Pin p (.num n')→n'≠sz →
    t D [some xk,some (.ref d),some (.ref ad),some (.int ft),some (.ref lf),none,none,none,none,none,some xn,some (.int sz),none,none] H3:=by
  refine⟨_,@pss_cons _ _ _ _ _ (ps_set (i:=12) scSpoilt.nd rfl (Or.inl rfl) (pe_call GL hrL rfl mL kL bL .nil pass0 (@pa_cons _ _ _ _ _ (pv 10) (@pa_cons _ _ _ _ _ (pv 1) (@pa_cons _ _ _ _ _ (pv 2) pa_nil rfl) rfl) rfl))) (@pss_one _ _ _ (@ps_ret _ _ _ _ (@pe_tup _ _ _ _ _ (@pa_cons _ _ _ _ _ (@pe_tup _ _ _ _ _ (@pa_cons _ _ _ _ _ pe_str (@pa_cons _ _ _ _ _ pe_str (@pa_cons _ _ _ _ _ (pv 11) (@pa_cons _ _ _ _ _ (pv 12) (@pa_cons _ _ _ _ _ (pe_call GL hrL rfl mL kL bL .nil pass0 (@pa_cons _ _ _ _ _ (pv 10) (@pa_cons _ _ _ _ _ (pv 1) (@pa_cons _ _ _ _ _ (pv 2) pa_nil rfl) rfl) rfl)) pa_nil rfl) rfl) rfl) rfl) rfl)) (@pa_cons _ _ _ _ _ pe_str pa_nil rfl) rfl)))),?_⟩
  intro D H3 xn n' sz hD st3 s3 hxn hpn hne
  refine⟨_,rfl,_,rfl,_,rfl,xn,d,ad,lf,lm,lw,lp,lt,c,p,C,ρ,m,.num n',rfl,st3,hdk.same s3,hsc.same s3,by omega,hxn.same s3,hpn,fun H4 y4 e4 st4 s4 he4 hh4 hr4=>?_⟩
  have s34:=s3.trans s4
  refine⟨_,rfl,_,rfl,_,rfl,_,rfl,_,rfl,xn,d,ad,lf,lm,lw,lp,lt,c,p,C,ρ,m,.num n',rfl,st4,hdk.same s34,hsc.same s34,by omega,hxn.same s34,hpn,fun H5 y5 e5 st5 s5 he5 hh5 hr5=>?_⟩
  refine⟨(by show 5≤sizeLine;decide),fun a1 h1=>⟨(by show 2≤sizeLine;decide),fun a2 h2=>?_⟩⟩
  obtain⟨st6,n6,g6⟩:=st5.nw h1 (.tup [.str "op",.str "*",.int sz,y4,y5])
  obtain⟨st7,n7,g7⟩:=st6.nw h2 (.tup [.ref a1,.str (nm 2)])
  have n67:=n6.trans n7
  rw [hD]
  refine q _ a2 _ (.nd (.op "*" sz) [e4,e5]) 2 st7 (s34.trans (s5.trans n67)) g7 (by decide) (.nd (xs:=[y4,y5]) (n7 _ _ g6) (.cons (he4.same (s5.trans n67)) (.cons (he5.same n67) .nil)) (not_lit nofun)) (by simp only [Ex.ht,hts,List.length_cons,List.length_nil];omega) (.inl fun ρ' h1 h2=>?_)
  rw [kin_nd (kins_cons (hr4 ρ' h1 h2) (kins_cons (hr5 ρ' h1 h2) kins_nil))]
  show(if [Kd.num n',Kd.num n']=[Kd.num sz,Kd.num sz] then R.ok (Kd.num sz) else R.no 2)=_
  rw [if_neg fun z=>hne (Kd.num.inj (List.cons.inj z).1)]
 obtain⟨tA,dA,kA⟩:∃t,PSs (cxOf CX0 P w K mg base ["_law_kind","_law_scope","_law_desk_here","_law_fault","_law_feed_here","_law_others","_law_unknown","_law_at","_law_more","_law_some","_law_numbers","_law_size_here","_law_one","_law_half"] "_law_spoilt" (defScope sSpoilt) f cdv A outer s H E).nox (ifT ((defBody sSpoilt).getD 4 dS)) t ∧
   ∀(D:Ends) (H3:Hp),D.rt=Q→St H3 lf lm→Same (zo H [lf,lm]) (zo H3 [lf,lm]) →
    t D [some xk,some (.ref d),some (.ref ad),some (.int ft),some (.ref lf),none,none,none,none,none,none,none,none,none] H3:=by
  refine⟨_,@pss_cons _ _ _ _ _ (ps_set (i:=10) scSpoilt.nd rfl (Or.inl rfl) (pe_ix ix_list (pe_ix ix_tup (pv 2) pe_int (fun _ _=>rfl)) (pe_callTy call_int1 rfl mi bootInt (@pa_cons _ _ _ _ _ (pe_cmpR (op_eqD hu64) (pv 0) (pe_ix ix_list (pe_ix ix_tup (pv 2) pe_int (fun _ _=>rfl)) pe_int (fun _ _=>rfl)) (nomark _)) pa_nil rfl)) (fun _ _=>rfl))) (@pss_cons _ _ _ _ _ (ps_set (i:=11) scSpoilt.nd rfl (Or.inl rfl) (pe_op op_add (pe_op op_mod (pe_ix ix_tup (pv 10) pe_int (fun _ _=>rfl)) (pe_op op_pow pe_int pe_int)) pe_int)) (@pss_cons _ _ _ _ _ (ps_if (PW.pt (pw_and (pt_cmpR op_eq (pe_ix ix_tup (pv 0) pe_int (fun _ _=>rfl)) pe_str (nomark _)) (pw_and1 (pt_cmpR (op_neD hu64) (pv 0) (pv 10) (nomark _))))) (@pss_one _ _ _ (ps_set (i:=11) scSpoilt.nd rfl (Or.inl rfl) (pe_ix ix_tup (pv 0) pe_int (fun _ _=>rfl)))) pss_nil) dB)),?_⟩
  intro D H3 hD st3 s3
  have p18:(0:Int) < 10 ^ 18:=by decide
  refine⟨_,rfl,ad,_,_,_,rfl,rfl,tad s3,at1,_,rfl,_,rfl,ad,_,_,_,rfl,rfl,tad s3,at1,lp,_,_,_,rfl,rfl,tlp s3,at0,?_⟩
  have kx0:=(hx 0 (by decide)).same s3
  refine⟨Kd.dat kd,Kd.dat (p 0),kd_dat ((hxk.same s3).same zo_same).1,kd_dat (kx0.same zo_same).1,sm_shaped hxk.2,sm_shaped kx0.2,.inr ⟨_,rfl,?_⟩⟩
  obtain⟨n0,en0,_⟩:=hdk.pl.num
  obtain⟨jn,n',hjn,eat,en⟩:∃(jn:Nat) (n':Int),jn < 5∧atI [x 0,x 1,x 2,x 3,x 4] (if (if false=true then !PyData.eqv (Kd.dat kd) (Kd.dat (p 0)) else PyData.eqv (Kd.dat kd) (Kd.dat (p 0)))=true then 1 else 0)=some (x jn)∧p jn=.num n':=by
   by_cases e:kd=p 0
   ·refine⟨1,2,by decide,?_,hdk.pl.two⟩
    rw [if_neg Bool.false_ne_true,eqv_dat,decide_eq_true e,if_pos rfl]
    rfl
   ·refine⟨0,n0,by decide,?_,en0⟩
    rw [if_neg Bool.false_ne_true,eqv_dat,decide_eq_false e,if_neg Bool.false_ne_true]
    rfl
  refine⟨lp,_,_,_,rfl,rfl,tlp s3,eat,?_⟩
  have kxn:=hx jn hjn
  have hpn:Pin p (p jn):=⟨jn,hjn,rfl⟩
  rw [en] at kxn hpn
  obtain⟨q0,q1⟩:=hdk.pl.num_of hpn
  obtain⟨pn,epn,hpnt⟩:=num_tup kxn.1
  rw [epn] at kxn ⊢
  have m0:=Int.emod_nonneg n' (show(10 ^ 18:Int)≠0 by decide)
  have m1:=Int.emod_lt_of_pos n' p18
  have szne:n'≠n'%10 ^ 18+1:=fun e=>by
   by_cases z:n'=10 ^ 18
   ·rw [z] at e;exact absurd e (by decide)
   ·rw [Int.emod_eq_of_lt (by omega) (by omega)] at e
    omega
  refine⟨_,rfl,pn,_,_,_,rfl,rfl,zo_same.tup (s3.tup hpnt),at1,_,_,rfl,rfl,⟨by decide,by decide,by decide⟩,_,_,rfl,rfl,p18,_,_,rfl,rfl,?_⟩
  have B1:=kB D H3 (.ref pn) n' (n'%10 ^ 18+1) hD st3 s3 kxn hpn szne
  subst epx
  refine⟨_,rfl,px,_,_,_,rfl,rfl,zo_same.tup (s3.tup hpx),at0,rfl,_,rfl,ite2 (fun c1=>?_) (fun _=>iteF (A:=True) B1)⟩
  obtain⟨nn,rfl⟩:=is_num ((hd_num kd).symm.trans c1)
  refine⟨_,rfl,_,rfl,Kd.dat (.num nn),Kd.dat (.num n'),kd_dat ((hxk.same s3).same zo_same).1,kd_dat ((kxn.same s3).same zo_same).1,sm_shaped hxk.2,sm_shaped kxn.2,_,rfl,?_⟩
  show if (!PyData.eqv (Kd.dat (.num nn)) (Kd.dat (.num n')))=true then _ else _
  rw [eqv_dat]
  by_cases ek:Kd.num nn=Kd.num n'
  ·rw [decide_eq_true ek]
   exact iteF B1
  ·rw [decide_eq_false ek]
   obtain⟨p2,e2,hp2⟩:=num_tup hxk.1
   cases e2
   exact iteT ⟨_,rfl,px,_,_,_,rfl,rfl,zo_same.tup (s3.tup hp2),at1,kB D H3 (.ref pn) n' nn hD st3 s3 kxn hpn fun z=>ek (by rw [z])⟩
 refine⟨_,@pss_cons _ _ _ _ _ (ps_set (i:=4) scSpoilt.nd rfl (Or.inl rfl) (pe_ix ix_tup (pv 2) pe_int (fun _ _=>rfl))) (@pss_cons _ _ _ _ _ (ps_if (pt_cmpR op_eq (pv 3) pe_int (nomark _)) (@pss_cons _ _ _ _ _ (ps_comp_if (i0:=5) scSpoilt.nd rfl (Or.inl rfl) (own:=["_law_other"]) (caps:=["_law_kind"]) (κ:=[0]) rfl ⟨rfl,by decide +kernel,by decide +kernel,rfl,rfl,(fun y hy=>by simp only [List.mem_cons,List.not_mem_nil,or_false] at hy;rcases hy with rfl<;>rfl),(fun y hy=>by simp only [List.mem_cons,List.not_mem_nil,or_false] at hy;rcases hy with rfl<;>exact⟨.inl rfl,rfl,.inl rfl⟩)⟩ rfl (pi_list (pe_ix ix_tup (pv 2) pe_int (fun _ _=>rfl))) (fun _ _ _ _=>(pg_name (i:=0) (show(["_law_other","_law_kind"]:List Str).Nodup from by decide +kernel) rfl (Or.inl rfl))) (fun _ _ _ _=>(pt_cmpR (r:=rEqD K true) (op_neD hu64) (pv 0) (pv 1) (nomark _))) (fun _ _ _ _=>(pv 0))) (@pss_one _ _ _ (@ps_ret _ _ _ _ (@pe_tup _ _ _ _ _ (@pa_cons _ _ _ _ _ (pe_call GO hrO rfl mO kO bO .nil pass0 (@pa_cons _ _ _ _ _ (pe_ix ix_list (pv 5) (pe_call GT hrT rfl mT kT bT .nil pass0 (@pa_cons _ _ _ _ _ (pv 4) (@pa_cons _ _ _ _ _ (pe_callB call_len_seq rfl ml PySem.boot_len (@pa_cons _ _ _ _ _ (pv 5) pa_nil rfl)) pa_nil rfl) rfl)) (fun _ _=>rfl)) (@pa_cons _ _ _ _ _ (pv 1) (@pa_cons _ _ _ _ _ (pv 2) (@pa_cons _ _ _ _ _ pe_int pa_nil rfl) rfl) rfl) rfl)) (@pa_cons _ _ _ _ _ pe_str pa_nil rfl) rfl))))) pss_nil) (@pss_cons _ _ _ _ _ (ps_if (pt_cmpR op_eq (pv 3) pe_int (nomark _)) (@pss_cons _ _ _ _ _ (ps_set (i:=6) scSpoilt.nd rfl (Or.inl rfl) (pe_lst (@pa_cons _ _ _ _ _ (@pe_tup _ _ _ _ _ (@pa_cons _ _ _ _ _ pe_str (@pa_cons _ _ _ _ _ (pe_ix ix_list (pe_ix ix_tup (pv 2) pe_int (fun _ _=>rfl)) pe_int (fun _ _=>rfl)) pa_nil rfl) rfl)) (@pa_cons _ _ _ _ _ (@pe_tup _ _ _ _ _ (@pa_cons _ _ _ _ _ pe_str (@pa_cons _ _ _ _ _ pe_str (@pa_cons _ _ _ _ _ (pe_ix ix_list (pe_ix ix_tup (pv 2) pe_int (fun _ _=>rfl)) pe_int (fun _ _=>rfl)) (@pa_cons _ _ _ _ _ (@pe_tup _ _ _ _ _ pa_nil) pa_nil rfl) rfl) rfl) rfl)) (@pa_cons _ _ _ _ _ (@pe_tup _ _ _ _ _ (@pa_cons _ _ _ _ _ pe_str (@pa_cons _ _ _ _ _ (pe_ix ix_list (pe_ix ix_tup (pv 2) pe_int (fun _ _=>rfl)) pe_int (fun _ _=>rfl)) (@pa_cons _ _ _ _ _ (pe_ix ix_list (pe_ix ix_tup (pv 2) pe_int (fun _ _=>rfl)) pe_int (fun _ _=>rfl)) (@pa_cons _ _ _ _ _ (@pe_tup _ _ _ _ _ pa_nil) pa_nil rfl) rfl) rfl) rfl)) pa_nil rfl) rfl) rfl))) (@pss_one _ _ _ (@ps_ret _ _ _ _ (@pe_tup _ _ _ _ _ (@pa_cons _ _ _ _ _ (pe_ix ix_list (pe_op op_cat (pv 6) (pe_lst (@pa_cons _ _ _ _ _ (@pe_tup _ _ _ _ _ (@pa_cons _ _ _ _ _ pe_str (@pa_cons _ _ _ _ _ (pe_ix ix_list (pe_ix ix_tup (pv 2) pe_int (fun _ _=>rfl)) pe_int (fun _ _=>rfl)) (@pa_cons _ _ _ _ _ (pe_ix ix_list (pe_ix ix_tup (pv 2) pe_int (fun _ _=>rfl)) pe_int (fun _ _=>rfl)) (@pa_cons _ _ _ _ _ (@pe_tup _ _ _ _ _ pa_nil) pa_nil rfl) rfl) rfl) rfl)) pa_nil rfl))) (pe_call GT hrT rfl mT kT bT .nil pass0 (@pa_cons _ _ _ _ _ (pv 4) (@pa_cons _ _ _ _ _ pe_int pa_nil rfl) rfl)) (fun _ _=>rfl)) (@pa_cons _ _ _ _ _ pe_str pa_nil rfl) rfl))))) pss_nil) (@pss_cons _ _ _ _ _ (ps_if (pt_cmpR op_eq (pv 3) pe_int (nomark _)) (@pss_cons _ _ _ _ _ (ps_set (i:=7) scSpoilt.nd rfl (Or.inl rfl) (pe_bm PySem.F.plainAttrs_list PySem.F.slot_list_index PySem.F.type_list_index (mt_indexD hu64) (pe_ix ix_tup (pv 2) pe_int (fun _ _=>rfl)) (@pa_cons _ _ _ _ _ (pv 0) pa_nil rfl))) (@pss_cons _ _ _ _ _ (ps_set (i:=8) scSpoilt.nd rfl (Or.inl rfl) (pe_call GL hrL rfl mL kL bL .nil pass0 (@pa_cons _ _ _ _ _ (pe_call GY hrY rfl mY kY bY .nil pass0 (@pa_cons _ _ _ _ _ (pv 2) pa_nil rfl)) (@pa_cons _ _ _ _ _ (pv 1) (@pa_cons _ _ _ _ _ (pv 2) pa_nil rfl) rfl) rfl))) (@pss_cons _ _ _ _ _ (ps_set (i:=9) scSpoilt.nd rfl (Or.inl rfl) (pe_lst (@pa_cons _ _ _ _ _ (@pe_tup _ _ _ _ _ (@pa_cons _ _ _ _ _ pe_str (@pa_cons _ _ _ _ _ (pe_ix ix_list (pe_ix ix_tup (pv 2) pe_int (fun _ _=>rfl)) pe_int (fun _ _=>rfl)) (@pa_cons _ _ _ _ _ (pe_ix ix_list (pe_ix ix_tup (pv 2) pe_int (fun _ _=>rfl)) (pe_op op_add pe_int (pv 7)) (fun _ _=>rfl)) (@pa_cons _ _ _ _ _ (@pe_tup _ _ _ _ _ (@pa_cons _ _ _ _ _ (pv 8) pa_nil rfl)) pa_nil rfl) rfl) rfl) rfl)) (@pa_cons _ _ _ _ _ (@pe_tup _ _ _ _ _ (@pa_cons _ _ _ _ _ pe_str (@pa_cons _ _ _ _ _ (pe_ix ix_list (pe_ix ix_tup (pv 2) pe_int (fun _ _=>rfl)) pe_int (fun _ _=>rfl)) (@pa_cons _ _ _ _ _ (pe_ix ix_list (pe_ix ix_tup (pv 2) pe_int (fun _ _=>rfl)) (pe_op op_add pe_int (pe_op op_mod (pe_op op_add (pv 7) pe_int) pe_int)) (fun _ _=>rfl)) (@pa_cons _ _ _ _ _ (@pe_tup _ _ _ _ _ pa_nil) pa_nil rfl) rfl) rfl) rfl)) pa_nil rfl) rfl))) (@pss_one _ _ _ (@ps_ret _ _ _ _ (@pe_tup _ _ _ _ _ (@pa_cons _ _ _ _ _ (pe_ix ix_list (pv 9) (pe_call GT hrT rfl mT kT bT .nil pass0 (@pa_cons _ _ _ _ _ (pv 4) (@pa_cons _ _ _ _ _ pe_int pa_nil rfl) rfl)) (fun _ _=>rfl)) (@pa_cons _ _ _ _ _ pe_str pa_nil rfl) rfl))))))) pss_nil) (@pss_cons _ _ _ _ _ (ps_if (pt_cmpR op_eq (pv 3) pe_int (nomark _)) dA pss_nil) (@pss_cons _ _ _ _ _ (ps_if (pt_cmpR op_eq (pv 3) pe_int (nomark _)) (@pss_one _ _ _ (@ps_ret _ _ _ _ (pe_call GH hrH rfl mH kH bH .nil pass0 (@pa_cons _ _ _ _ _ (pv 1) (@pa_cons _ _ _ _ _ (pv 2) pa_nil rfl) rfl)))) pss_nil) (@pss_cons _ _ _ _ _ (ps_set (i:=13) scSpoilt.nd rfl (Or.inl rfl) (pe_ix ix_list (pe_lst (@pa_cons _ _ _ _ _ pe_str (@pa_cons _ _ _ _ _ pe_str pa_nil rfl) rfl)) (pe_call GT hrT rfl mT kT bT .nil pass0 (@pa_cons _ _ _ _ _ (pv 4) (@pa_cons _ _ _ _ _ pe_int pa_nil rfl) rfl)) (fun _ _=>rfl))) (@pss_one _ _ _ (@ps_ret _ _ _ _ (@pe_tup _ _ _ _ _ (@pa_cons _ _ _ _ _ (@pe_tup _ _ _ _ _ (@pa_cons _ _ _ _ _ (pv 13) (@pa_cons _ _ _ _ _ (pe_call GL hrL rfl mL kL bL .nil pass0 (@pa_cons _ _ _ _ _ (pe_ix ix_list (pe_ix ix_tup (pv 2) pe_int (fun _ _=>rfl)) (pe_ix ix_list (pe_lst (@pa_cons _ _ _ _ _ pe_int (@pa_cons _ _ _ _ _ pe_int (@pa_cons _ _ _ _ _ pe_int (@pa_cons _ _ _ _ _ pe_int pa_nil rfl) rfl) rfl) rfl)) (pe_call GT hrT rfl mT kT bT .nil pass0 (@pa_cons _ _ _ _ _ (pv 4) (@pa_cons _ _ _ _ _ pe_int pa_nil rfl) rfl)) (fun _ _=>rfl)) (fun _ _=>rfl)) (@pa_cons _ _ _ _ _ (pv 1) (@pa_cons _ _ _ _ _ (pv 2) pa_nil rfl) rfl) rfl)) pa_nil rfl) rfl)) (@pa_cons _ _ _ _ _ pe_str pa_nil rfl) rfl)))))))))),?_⟩
 refine⟨_,rfl,ad,_,_,_,rfl,rfl,tad (Same.refl _),at0,?_⟩
 have hS:=Same.refl (zo H [lf,lm])
 refine⟨_,rfl,rfl,_,rfl,ite2 (fun _=>?_) (fun _=>?_)⟩
 ·refine⟨_,rfl,ad,_,_,_,rfl,rfl,tad hS,at1,lp,rfl,⟨_,tlp hS⟩,comp_fl (xs:=[x 0,x 1,x 2,x 3,x 4]) (by show 5≤1000;decide) (tlp hS) (Oth x p kd) oth_0 (fun _ _ h=>h.1) ?_ ?_⟩
  ·rintro i2 u2 ys2 N hu2 ho hN
   obtain⟨hi2,rfl⟩:=get5 hu2
   have hka:=hx i2 hi2
   refine⟨rfl,_,rfl,_,rfl,Kd.dat (p i2),Kd.dat kd,kd_dat (hka.same zo_same).1,kd_dat (hxk.same zo_same).1,sm_shaped hka.2,sm_shaped hxk.2,_,rfl,?_⟩
   show if (!PyData.eqv (Kd.dat (p i2)) (Kd.dat kd))=true then _ else _
   rw [eqv_dat]
   by_cases ek:p i2=kd
   ·rw [decide_eq_true ek]
    exact iteF (hN _ (oth_no ho ek))
   ·rw [decide_eq_false ek]
    exact iteT ⟨_,rfl,hN _ (oth_yes ho hi2 ek)⟩
  rintro os lo ⟨hol,hos,hon⟩ hlo
  obtain⟨stc,nc,gc⟩:=hst.nw hlo (.lst os)
  have o0:0 < os.length:=by
   obtain⟨j2,h5,h6⟩:=pool_two hdk.pl kd
   exact List.length_pos_iff.mpr (hon j2 h5 h5 h6)
  have hol5:os.length≤5:=hol
  refine⟨_,rfl,_,rfl,_,rfl,lo,os,rfl,.inl (SqL.of (zo_same _ _ gc)),lf,(os.length:Int),rfl,stc.1,by omega,by omega,fun Hd t2' fd' td' u0 u1=>?_⟩
  obtain⟨std,nd⟩:=stc.take fd' td'
  have sd:=nc.trans nd
  obtain⟨vo,hvo,hvoa⟩:=at_get (xs:=os) u0 u1
  obtain⟨jo,hjo,rfl,hne⟩:=hos vo (List.mem_of_getElem? hvo)
  refine⟨lo,_,_,_,rfl,rfl,SqL.of (zo_same _ _ (nd _ _ gc)),hvoa,_,rfl,_,rfl,x jo,d,ad,lf,lm,lw,lp,lt,c,p,C,ρ,m,p jo,rfl,std,hdk.same sd,hsc.same sd,by omega,(hx jo hjo).same sd,⟨jo,hjo,rfl⟩,fun He ye ee ste se hee hhe hre=>?_⟩
  refine⟨(by show 2≤sizeLine;decide),fun a2 h2=>?_⟩
  obtain⟨stf,nf,gf⟩:=ste.nw h2 (.tup [ye,.str (nm 2)])
  exact q _ a2 _ ee 2 stf (sd.trans (se.trans nf)) gf (by decide) (hee.same nf) (by omega) (.inr ⟨rfl,p jo,hne,⟨jo,hjo,rfl⟩,hre⟩)
 refine⟨_,rfl,rfl,_,rfl,ite2 (fun _=>?_) (fun _=>?_)⟩
 ·refine⟨_,rfl,ad,_,_,_,rfl,rfl,tad hS,at2,lw,_,_,_,rfl,rfl,tlw hS,wl_at c (r:=24) (by decide) (by decide),(by show 2≤sizeLine;decide),fun a1 h1=>?_⟩
  obtain⟨st1,n1,g1⟩:=hst.nw h1 (.tup [.str "var",.str (wd c 24)])
  refine⟨_,rfl,ad,_,_,_,rfl,rfl,tad n1,at2,lw,_,_,_,rfl,rfl,tlw n1,wl_at c (r:=24) (by decide) (by decide),(by show 0≤sizeLine;decide),fun b2 hb2=>⟨(by show 4≤sizeLine;decide),fun a2 h2=>?_⟩⟩
  obtain⟨st2',n2',g2'⟩:=st1.nw hb2 (.tup [])
  obtain⟨st2,n2,g2⟩:=st2'.nw h2 (.tup [.str "call",.str "",.str (wd c 24),.ref b2])
  have s2:=n1.trans (n2'.trans n2)
  refine⟨_,rfl,ad,_,_,_,rfl,rfl,tad s2,at2,lw,_,_,_,rfl,rfl,tlw s2,wl_at c (r:=24) (by decide) (by decide),_,rfl,ad,_,_,_,rfl,rfl,tad s2,at2,lw,_,_,_,rfl,rfl,tlw s2,wl_at c (r:=14) (by decide) (by decide),(by show 0≤sizeLine;decide),fun b3 hb3=>⟨(by show 4≤sizeLine;decide),fun a3 h3=>⟨(by show 3≤sizeLine;decide),fun l1 hl1=>?_⟩⟩⟩
  obtain⟨st3',n3',g3'⟩:=st2.nw hb3 (.tup [])
  obtain⟨st3,n3,g3⟩:=st3'.nw h3 (.tup [.str "call",.str (wd c 24),.str (wd c 14),.ref b3])
  obtain⟨st4,n4,g4⟩:=st3.nw hl1 (.lst [.ref a1,.ref a2,.ref a3])
  have m24:=n3'.trans (n3.trans n4)
  have s4:=s2.trans m24
  refine⟨_,rfl,_,rfl,ad,_,_,_,rfl,rfl,tad s4,at2,lw,_,_,_,rfl,rfl,tlw s4,wl_at c (r:=8) (by decide) (by decide),_,rfl,ad,_,_,_,rfl,rfl,tad s4,at2,lw,_,_,_,rfl,rfl,tlw s4,wl_at c (r:=9) (by decide) (by decide),(by show 0≤sizeLine;decide),fun b5 hb5=>⟨(by show 4≤sizeLine;decide),fun a5 h5=>⟨(by show 1≤sizeLine;decide),fun l2 hl2=>?_⟩⟩⟩
  obtain⟨st5',n5',g5'⟩:=st4.nw hb5 (.tup [])
  obtain⟨st5,n5,g5⟩:=st5'.nw h5 (.tup [.str "call",.str (wd c 8),.str (wd c 9),.ref b5])
  obtain⟨st6,n6,g6⟩:=st5.nw hl2 (.lst [.ref a5])
  have m46:=n5'.trans (n5.trans n6)
  refine⟨l1,l2,_,_,rfl,rfl,zo_same _ _ (m46 _ _ g4),upd_same,(by show 4≤sizeLine;decide),fun l3 hl3=>?_⟩
  obtain⟨st7,n7,g7⟩:=st6.nw hl3 (.lst ([.ref a1,.ref a2,.ref a3]++[.ref a5]))
  have m47:=m46.trans n7
  have s7:=s4.trans m47
  refine⟨_,rfl,lf,4,rfl,st7.1,by decide,by decide,fun H8 t f8 t8 t0 t4=>?_⟩
  obtain⟨st8,n8⟩:=st7.take f8 t8
  have m48:=m47.trans n8
  have m28:=m24.trans m48
  have m18:=(n2'.trans n2).trans m28
  have s8:=s7.trans n8
  have hl3':=zo_same _ _ (n8 _ _ g7)
  have four:t=0∨t=1∨t=2∨t=3:=by omega
  rcases four with rfl|rfl|rfl|rfl
  ·refine⟨l3,_,_,_,rfl,rfl,SqL.of hl3',at0,(by show 2≤sizeLine;decide),fun a9 h9=>?_⟩
   obtain⟨st9,n9,g9⟩:=st8.nw h9 (.tup [.ref a1,.str (nm 0)])
   exact q _ a9 _ (.var (wd c 24)) 0 st9 (s8.trans n9) g9 (by decide) (.var ((m18.trans n9) _ _ g1) (wd9 _ _)) (by simp only [Ex.ht];decide) (.inl fun ρ' h1 h2=>kin_nov h2)
  ·refine⟨l3,_,_,_,rfl,rfl,SqL.of hl3',at1,(by show 2≤sizeLine;decide),fun a9 h9=>?_⟩
   obtain⟨st9,n9,g9⟩:=st8.nw h9 (.tup [.ref a2,.str (nm 0)])
   refine q _ a9 _ (.call "" (wd c 24) []) 0 st9 (s8.trans n9) g9 (by decide) (.call (xs:=[]) ((m28.trans n9) _ _ g2) ((n2.trans (m28.trans n9)) _ _ g2') .nil (wd9 _ _)) (by simp only [Ex.ht,hts,List.length_nil];decide) (.inl fun ρ' h1 h2=>?_)
   rw [kin_call kins_nil,no_own24 hdk.tb]
   rfl
  ·refine⟨l3,_,_,_,rfl,rfl,SqL.of hl3',at2,(by show 2≤sizeLine;decide),fun a9 h9=>?_⟩
   obtain⟨st9,n9,g9⟩:=st8.nw h9 (.tup [.ref a3,.str (nm 0)])
   refine q _ a9 _ (.call (wd c 24) (wd c 14) []) 0 st9 (s8.trans n9) g9 (by decide) (.call (xs:=[]) ((n4.trans (m48.trans n9)) _ _ g3) ((n3.trans (n4.trans (m48.trans n9))) _ _ g3') .nil (wd9 _ _)) (by simp only [Ex.ht,hts,List.length_nil];decide) (.inl fun ρ' h1 h2=>?_)
   rw [kin_call kins_nil,pool_in hdk.tb]
   rfl
  ·refine⟨l3,_,_,_,rfl,rfl,SqL.of hl3',at3,(by show 2≤sizeLine;decide),fun a9 h9=>?_⟩
   obtain⟨st9,n9,g9⟩:=st8.nw h9 (.tup [.ref a5,.str (nm 0)])
   refine q _ a9 _ (.call (wd c 8) (wd c 9) []) 0 st9 (s8.trans n9) g9 (by decide) (.call (xs:=[]) ((n6.trans (n7.trans (n8.trans n9))) _ _ g5) ((n5.trans (n6.trans (n7.trans (n8.trans n9)))) _ _ g5') .nil (wd9 _ _)) (by simp only [Ex.ht,hts,List.length_nil];decide) (.inl fun ρ' h1 h2=>?_)
   rw [kin_call kins_nil,no_89 hdk.tb]
   rfl
 refine⟨_,rfl,rfl,_,rfl,ite2 (fun _=>?_) (fun _=>?_)⟩
 ·refine⟨_,rfl,ad,_,_,_,rfl,rfl,tad hS,at1,?_⟩
  refine⟨.inl ⟨rfl,_,tlp hS⟩,_,rfl,?_⟩
  delta tNil
  show rIndexD K (.ref lp) [xk] H _
  refine idx_ok (hdk.pool.same zo_same) (hxk.same zo_same) hpk fun i hi ei=>?_
  refine⟨_,rfl,ad,lf,lm,lw,lp,lt,c,p,C,rfl,hst,hdk,fun H1 xo ko st1 s1 ho hpo=>?_⟩
  refine⟨_,rfl,_,rfl,xo,d,ad,lf,lm,lw,lp,lt,c,p,C,ρ,m,ko,rfl,st1,hdk.same s1,hsc.same s1,by omega,ho,hpo,fun H2 yo eo st2 s2 heo hho hro=>?_⟩
  have s12:=s1.trans s2
  refine⟨_,rfl,ad,_,_,_,rfl,rfl,tad s12,at2,lw,_,_,_,rfl,rfl,tlw s12,wl_at c (r:=8) (by decide) (by decide),_,rfl,ad,_,_,_,rfl,rfl,tad s12,at2,_,rfl,_,_,rfl,rfl,lw,_,_,_,rfl,rfl,tlw s12,wl_at c (by omega) (by omega),_,rfl,(by show 1≤sizeLine;decide),fun b3 hb3=>⟨(by show 4≤sizeLine;decide),fun a3 h3=>?_⟩⟩
  obtain⟨st3',n3',g3'⟩:=st2.nw hb3 (.tup [yo])
  obtain⟨st3,n3,g3⟩:=st3'.nw h3 (.tup [.str "call",.str (wd c 8),.str (wd c (14+(i:Int))),.ref b3])
  have s3:=s12.trans (n3'.trans n3)
  have e5:((i:Int)+2)%5=(((i+2)%5:Nat):Int):=by omega
  refine⟨_,rfl,ad,_,_,_,rfl,rfl,tad s3,at2,lw,_,_,_,rfl,rfl,tlw s3,wl_at c (r:=8) (by decide) (by decide),_,rfl,ad,_,_,_,rfl,rfl,tad s3,at2,_,rfl,_,_,rfl,rfl,_,_,rfl,rfl,(by show(0:Int) < 5;decide),_,_,rfl,rfl,lw,_,_,_,rfl,rfl,tlw s3,wl_at c (by omega) (by omega),(by show 0≤sizeLine;decide),fun b4 hb4=>⟨(by show 4≤sizeLine;decide),fun a4 h4=>⟨(by show 2≤sizeLine;decide),fun l1 hl1=>?_⟩⟩⟩
  obtain⟨st4',n4',g4'⟩:=st3.nw hb4 (.tup [])
  obtain⟨st4,n4,g4⟩:=st4'.nw h4 (.tup [.str "call",.str (wd c 8),.str (wd c (19+((i:Int)+2)%5)),.ref b4])
  obtain⟨st5,n5,g5⟩:=st4.nw hl1 (.lst [.ref a3,.ref a4])
  have m35:=n4'.trans (n4.trans n5)
  refine⟨_,rfl,_,rfl,lf,2,rfl,st5.1,by decide,by decide,fun H8 t f8 t8 t0 t4=>?_⟩
  obtain⟨st8,n8⟩:=st5.take f8 t8
  have m38:=m35.trans n8
  have s8:=s3.trans m38
  have hl1':=zo_same _ _ (n8 _ _ g5)
  have two:t=0∨t=1:=by omega
  rcases two with rfl|rfl
  ·refine⟨l1,_,_,_,rfl,rfl,SqL.of hl1',at0,(by show 2≤sizeLine;decide),fun a9 h9=>?_⟩
   obtain⟨st9,n9,g9⟩:=st8.nw h9 (.tup [.ref a3,.str (nm 1)])
   have m39:=m38.trans n9
   refine q _ a9 _ (.call (wd c 8) (wd c (14+(i:Int))) [eo]) 1 st9 (s8.trans n9) g9 (by decide) (.call (xs:=[yo]) (m39 _ _ g3) ((n3.trans m39) _ _ g3') (.cons (heo.same (n3'.trans (n3.trans m39))) .nil) (wd9 _ _)) (by simp only [Ex.ht,hts,List.length_cons,List.length_nil];omega) (.inl fun ρ' h1 h2=>?_)
   rw [kin_call (kins_cons (hro ρ' h1 h2) kins_nil),hdk.tb.bare i hi,ansK_ne (by simp)]
  ·refine⟨l1,_,_,_,rfl,rfl,SqL.of hl1',at1,(by show 2≤sizeLine;decide),fun a9 h9=>?_⟩
   obtain⟨st9,n9,g9⟩:=st8.nw h9 (.tup [.ref a4,.str (nm 1)])
   have m49:=n5.trans (n8.trans n9)
   refine q _ a9 _ (.call (wd c 8) (wd c (19+((i:Int)+2)%5)) []) 1 st9 (s8.trans n9) g9 (by decide) (.call (xs:=[]) (m49 _ _ g4) ((n4.trans m49) _ _ g4') .nil (wd9 _ _)) (by simp only [Ex.ht,hts,List.length_nil];decide) (.inl fun ρ' h1 h2=>?_)
   rw [kin_call kins_nil,e5,hdk.tb.one _ (by omega),ansK_ne (by simp)]
 refine⟨_,rfl,rfl,_,rfl,ite2 (fun _=>kA _ H rfl hst hS) (fun _=>?_)⟩
 refine⟨_,rfl,rfl,_,rfl,ite2 (fun _=>?_) (fun _=>?_)⟩
 ·refine⟨_,rfl,_,rfl,d,ad,lf,lm,lw,lp,lt,c,p,C,ρ,m,rfl,hst,hdk,hsc,hm,fun H1 q1 y e st1 s1 g1 he hh hr=>?_⟩
  exact q _ q1 y e 2 st1 s1 g1 (by decide) he hh (.inl hr)
 refine⟨(by show 2≤sizeLine;decide),fun l1 hl1=>?_⟩
 obtain⟨st1,n1,g1⟩:=hst.nw hl1 (.lst [.str "first",.str "second"])
 refine⟨_,rfl,lf,2,rfl,st1.1,by decide,by decide,fun H2 t f2 t2 t0 t1=>?_⟩
 obtain⟨st2,n2⟩:=st1.take f2 t2
 have s2:=n1.trans n2
 obtain⟨fm,eat,hfm⟩:∃fm:Fm,atI [V.str "first",.str "second"] t=fm.vals.head?∧(fm=.fst∨fm=.snd):=by
  have:t=0∨t=1:=by omega
  rcases this with rfl|rfl
  ·exact⟨.fst,rfl,.inl rfl⟩
  ·exact⟨.snd,rfl,.inr rfl⟩
 obtain⟨hs,ehs⟩:∃hs:Str,fm.vals=[.str hs]:=by rcases hfm with rfl|rfl<;>exact⟨_,rfl⟩
 rw [ehs] at eat
 refine⟨l1,_,_,_,rfl,rfl,SqL.of (zo_same _ _ (n2 _ _ g1)),eat,?_⟩
 refine⟨_,rfl,_,rfl,ad,_,_,_,rfl,rfl,tad s2,at1,(by show 4≤sizeLine;decide),fun l2 hl2=>?_⟩
 obtain⟨st3,n3,g3⟩:=st2.nw hl2 (.lst [.int 0,.int 1,.int 2,.int 4])
 refine⟨_,rfl,lf,4,rfl,st3.1,by decide,by decide,fun H4 u f4 t4 u0 u4=>?_⟩
 obtain⟨st4,n4⟩:=st3.take f4 t4
 have s4:=s2.trans (n3.trans n4)
 obtain⟨j,ej,hj,hj3⟩:∃j:Nat,atI [V.int 0,.int 1,.int 2,.int 4] u=some (.int (j:Int))∧j < 5∧j≠3:=by
  have:u=0∨u=1∨u=2∨u=3:=by omega
  rcases this with rfl|rfl|rfl|rfl
  ·exact⟨0,rfl,by decide,by decide⟩
  ·exact⟨1,rfl,by decide,by decide⟩
  ·exact⟨2,rfl,by decide,by decide⟩
  ·exact⟨4,rfl,by decide,by decide⟩
 refine⟨l2,_,_,_,rfl,rfl,SqL.of (zo_same _ _ (n4 _ _ g3)),ej,lp,_,_,_,rfl,rfl,tlp s4,at5n hj,_,rfl,_,rfl,x j,d,ad,lf,lm,lw,lp,lt,c,p,C,ρ,m,p j,rfl,st4,hdk.same s4,hsc.same s4,by omega,(hx j hj).same s4,⟨j,hj,rfl⟩,fun H5 y e st5 s5 he hh hr=>?_⟩
 refine⟨(by show 2≤sizeLine;decide),fun a1 h1=>⟨(by show 2≤sizeLine;decide),fun a2 h2=>?_⟩⟩
 obtain⟨st6,n6,g6⟩:=st5.nw h1 (.tup [.str hs,y])
 obtain⟨st7,n7,g7⟩:=st6.nw h2 (.tup [.ref a1,.str (nm 2)])
 obtain⟨np1,np2⟩:=no_pair hdk.pl hj hj3
 refine q _ a2 _ (.nd fm [e]) 2 st7 (s4.trans (s5.trans (n6.trans n7))) g7 (by decide) (.nd (xs:=[y]) (by rw [ehs];exact n7 _ _ g6) (.cons (he.same (n6.trans n7)) .nil) (not_lit (by rcases hfm with rfl|rfl<;>nofun))) (by simp only [Ex.ht,hts,List.length_cons,List.length_nil];omega) (.inl fun ρ' h1 h2=>?_)
 rw [kin_nd (kins_cons (hr ρ' h1 h2) kins_nil)]
 rcases hfm with rfl|rfl
 ·exact np1
 ·exact np2
end
end K52
namespace K52
open PySem L2 Kk
theorem same_add{H H':Hp}{ads:List Addr}(s:Same (dropC ads H) H'):Same H (addC ads H H'):=fun b o e=>by
 unfold addC
 by_cases hb:b∈ads
 ·rw [if_pos hb];exact e
 ·rw [if_neg hb];exact s _ _ (by rw [drop_no hb];exact e)
theorem add_same{H H':Hp}{ads:List Addr}(n:∀a∈ads,H' a=none):Same H' (addC ads H H'):=fun b o e=>by
 unfold addC
 by_cases hb:b∈ads
 ·rw [n b hb] at e;cases e
 ·rw [if_neg hb];exact e
theorem same_lam{H:Hp}{f c:Addr}{q:Str}{fd:FuncData}(hf:H f=none)(hfc:f≠c)(hc:H c=none∨H c=some (.cod q)):Same H (upd (upd H c (.cod q)) f (.fnc fd)):=by
 have s1:Same H (upd H c (.cod q)):=by
  rcases hc with hc|hc
  ·exact same_new hc _
  ·intro b o e
   by_cases hb:b=c
   ·subst hb;rw [upd_same];rw [hc] at e;exact e
   ·rw [upd_ne hb];exact e
 exact s1.trans (same_new (by rw [upd_ne hfc];exact hf) _)
theorem sqt_drop{K:PySem.W.Frag}{H:Hp}{ads:List Addr}(f:FrzAll H ads){a:Addr}{xs:List V}(t:SqT K H a xs):SqT K (dropC ads H) a xs:=by
 rcases t with (t|⟨o,t⟩)|t
 ·exact .inl (.inl (tup_drop f t))
 ·refine .inl (.inr ⟨o,?_⟩)
  rw [drop_no fun z=>by obtain⟨o',v,q⟩:=f a z;rw [t] at q;cases q]
  exact t
 ·exact .inr t
theorem KAt.drop{K:PySem.W.Frag}{H:Hp}{ads:List Addr}(f:FrzAll H ads){x:V}{k:Kd}(h:KAt K H x k):KAt K (dropC ads H) x k:=⟨kd_keep (fun _ _ t=>sqt_drop f t) h.1,h.2⟩
abbrev lamN:List Str:=["_law_q","_law_f"]
abbrev lamC:List Str:=["_law_desk_here"]
abbrev lamSc:Scope:={ kind:=.function,names:=[("_law_q",.local),("_law_f",.local),("_law_desk_here",.free),("_law_told",.globalImplicit)],isGenerator:=false,isCoroutine:=false,more:=[] }
theorem scLam:CloScope lamN lamC lamSc:=⟨rfl,rfl,rfl,by decide +kernel,by decide +kernel,by decide +kernel,by decide +kernel,by decide +kernel⟩
abbrev lamE(p1 p2 p3 p4 p5 p6 p7:Pos):Expr:=.Call (.Name "_law_told" p1) [.Subscript (.Name "_law_desk_here" p2) (.Constant (.int 3) 0 p6) p7,.Name "_law_q" p3,.Name "_law_f" p4] [] p5
abbrev lamA(r1 r2:Pos):Arguments:={ posonlyargs:=[],args:=[⟨"_law_q",none,r1⟩,⟨"_law_f",none,r2⟩],vararg:=none,kwonlyargs:=[],kw_defaults:=[],kwarg:=none,defaults:=[] }
abbrev lamQ:Str:=("law"++".<locals>.":Str)++"<lambda>"
abbrev tabL:Array Value:=#[.int 291 0,.int 52 0,.str lamQ 0]
def Tab5(H:Hp)(ad lt:Addr):Prop:=∃x0 x1 x2 x4:V,H ad=some (.tup [x0,x1,x2,.ref lt,x4])
def spLam(C:Addr):Sp:=fun vs H Q E=>∃(ad d:Addr) (q t:Str) (kvs:List (List Key × V)),vs=[.ref ad,.str q,.str t]∧Tab5 H ad d∧H d=some (.dT kvs)∧∀H',Same H H'→match valV kvs [.inr q,.inr t] with
 |none=>E (.ref C) none H'
 |some u=>Q u H'
def tryB:Stmt→List Stmt
 |.Try b _ _ _ _=>b
 |_=>[]
def tryHs:List Stmt→List ExceptHandler
 |.Try _ hs _ _ _::_=>hs
 |_=>[]
section
variable{P:Program}{w:World}{K:PySem.W.Frag}{mg:Str→Option Value}{base:Heap}{cl:Nat→Addr}
theorem ok_lam{f c a1 fn ad:Addr}{fdn:FuncData}{params:Arguments}{pm ctv:Value}{p1 p2 p3 p4 p5 p6 p7:Pos} (GT:FnOk P w K mg base (CX1 P w) 1 fn fdn ["_law_table","_law_q","_law_f"] (spTold (cl 0))) (bT:Binds K fdn ["_law_table","_law_q","_law_f"] []) (kT:PySem.W.keepIn K (.ref fn)=true) (mT:mg "_law_told"=some (.ref fn)) :
  FnOk P w K mg base (CX1 P w) 2 f (PySem.W.kla_fn "<lambda>" lamQ params (lamE p1 p2 p3 p4 p5 p6 p7) lamSc (lamC.zip [a1]) pm (.ref c) ctv) lamN (spClo f (PySem.W.kla_fn "<lambda>" lamQ params (lamE p1 p2 p3 p4 p5 p6 p7) lamSc (lamC.zip [a1]) pm (.ref c) ctv) c lamQ [a1] [.ref ad] lamN.length (fun vs H Q E=>spLam (cl 0) (.ref ad::vs) H Q E)):=by
 refine fn_lam (k:=1) cxf1 scLam rfl (by simp) fun A outer s H vs Q E hr h _=>?_
 refine⟨_,pe_call GT hr rfl mT kT bT .nil passC (pa_cons (pe_ix ix_tup (pv 2) pe_int (fun _ _=>rfl)) (pa_cons (pv 0) (pa_cons (pv 1) pa_nil))),?_⟩
 obtain⟨ad',d,q,t,kvs,e,⟨x0,x1,x2,x4,h0⟩,h1,h2⟩:=id h
 cases e
 exact⟨_,rfl,ad,_,_,_,rfl,rfl,SqT.of h0,at3,_,rfl,_,rfl,d,q,t,kvs,rfl,h1,h2⟩
theorem b_lam{r1 r2:Pos}{body:Expr}{sc:Scope}{cl:List (Str × Addr)}{pm cd ctv:Value}:Binds K (PySem.W.kla_fn "<lambda>" lamQ (lamA r1 r2) body sc cl pm cd ctv) lamN []:=.all fun us hl=>match us,hl with|[_,_],_=>rfl
theorem bindK3{f T:Addr}{fd:FuncData}{oT:Value}{dT:Option Addr}{nT:Nat}{sT:Array (Option Value)}{tk:Tok} (F:FunD K "kind_in" "kind_in" sKin (.ref T) f fd) (lT:K.lookup T=some ⟨oT,dT,.seq #[.int 40 tk] nT,sT⟩):Binds K fd kiP [.int 40 tk] :=
 F.binds lT fun _ _ _ _ _ _ us hl=>by
  have hl':us.length=3:=by simpa using hl
  match us,hl' with
  |[_,_,_],_=>exact⟨_,rfl,rfl⟩
theorem bindK4{f T:Addr}{fd:FuncData}{oT:Value}{dT:Option Addr}{nT:Nat}{sT:Array (Option Value)}{tk:Tok} (F:FunD K "kind_in" "kind_in" sKin (.ref T) f fd) (lT:K.lookup T=some ⟨oT,dT,.seq #[.int 40 tk] nT,sT⟩):Binds K fd kiP [] :=
 F.binds lT fun _ _ _ _ _ _ us hl=>by
  have hl':us.length=4:=by simpa using hl
  match us,hl' with
  |[_,_,_,_],_=>exact⟨_,rfl,rfl⟩
theorem orc_ok{a1 ad lt fn:Addr}{fdn:FuncData}{C:Orc}{H H5:Hp}{g cc:Addr}{ctv pm:Value}{r1 r2 p1 p2 p3 p4 p5 p6 p7:Pos}{kvs:List (List Key × V)} (GT:FnOk P w K mg base (CX1 P w) 1 fn fdn ["_law_table","_law_q","_law_f"] (spTold (cl 0))) (bT:Binds K fdn ["_law_table","_law_q","_law_f"] []) (kT:PySem.W.keepIn K (.ref fn)=true) (mT:mg "_law_told"=some (.ref fn))
  (hT5:Tab5 H ad lt) (hkv:H lt=some (.dT kvs)) (htb:TabAt K H kvs C) (hg:H g=none) (hgc:g≠cc) (hcc:H cc=none∨H cc=some (.cod lamQ))
  (s6:Same (upd (upd H cc (.cod lamQ)) g (.fnc (PySem.W.kla_fn "<lambda>" lamQ (lamA r1 r2) (lamE p1 p2 p3 p4 p5 p6 p7) lamSc (lamC.zip [a1]) pm (.ref cc) ctv))) H5)
  (n6:∀c∈[a1],(upd (upd H cc (.cod lamQ)) g (.fnc (PySem.W.kla_fn "<lambda>" lamQ (lamA r1 r2) (lamE p1 p2 p3 p4 p5 p6 p7) lamSc (lamC.zip [a1]) pm (.ref cc) ctv))) c=none) (fz:Froz H5 [a1] [.ref ad]):OrcOk P w K mg base cl 2 g H5 C:=fun q t H7 s7 Q E hQ=>by
 have fz7:=fz.same s7
 have s8:Same H (dropC [a1] H7):=(same_lam hg hgc hcc).trans ((s6.trans s7).dropC n6)
 obtain⟨x0,x1,x2,x4,h0⟩:=hT5
 have htb8:=htb.same s8
 refine⟨_,lamN,_,s7 _ _ (s6 _ _ upd_same),ok_lam (ad:=ad) GT bT kT mT,b_lam,rfl,s7 _ _ (s6 _ _ upd_same),s7 _ _ (s6 _ _ (by rw [upd_ne (Ne.symm hgc),upd_same])),fz7,ad,lt,q,t,kvs,rfl,⟨x0,x1,x2,x4,s8 _ _ h0⟩,s8 _ _ hkv,fun H8 s9=>?_⟩
 rcases htb8 q t with ⟨e1,e2⟩|⟨us,k,u,e1,e2,e3⟩
 ·rw [e2]
  rcases hQ with ⟨_,hE⟩|⟨_,_,z,_⟩
  ·exact fun nC=>hE _ (same_add s9)
  ·rw [e1] at z;cases z
 ·rw [e2]
  rcases hQ with ⟨z,_⟩|⟨us',k',z,hQ⟩
  ·rw [e1] at z;cases z
  ·rw [e1] at z
   obtain⟨rfl,rfl⟩:us=us'∧k=k':=⟨congrArg Prod.fst (Option.some.inj z),congrArg Prod.snd (Option.some.inj z)⟩
   exact fun nC=>hQ _ _ (same_add s9) ((e3.same s9).same (add_same nC))
theorem lam_at{X:Cx}{c T:Addr}{cls:List (Str × Addr)}{pm:Value}{params:Arguments}{body:Expr}{sc:Scope}{pos:Pos}(hcode:X.env.code=.ref c)(C:PySem.W.CodeHd X.base c T) (hpm:(X.mg "__name__").getD .none=pm) (hq:X.env.qual++"<lambda>"=lamQ) (hdef:defaultsOf params X.env=([],[]):=by rfl) (hcl:closureFor sc X.env=pure cls:=by rfl) :
  PE X (.Lambda params body sc pos) (tLam T pos lamQ fun c' ctv=>PySem.W.kla_fn "<lambda>" lamQ params body sc cls pm (.ref c') ctv):=by
 subst hpm
 exact pe_lam hcode C hq hdef hcl
abbrev laN:List Str:=["_law_script","_law_feed_here","_law_desk_here","_law_scope","_law_k","_law_kind","_law_fault","_law_passed_here","_law_rounds","_law_due","_law_core","_law_kept","_law_word_here","_law_found"]
theorem scLaw:FnScope laN ["_law_script"] (defScope sLaw):=⟨rfl,rfl,rfl,by decide +kernel,rfl,by decide +kernel,by decide +kernel⟩
end
end K52
namespace K52
open PySem L2 Kk
def spLaw(K:PySem.W.Frag)(T:Addr):Sp:=fun vs H Q _=>∃(a:Addr) (ns:List Int),vs=[.ref a]∧SqL K H a (ns.map V.int)∧ns.length≤63∧H T=some (.tbl tabL)∧∀H',Q (.bl true) H'
theorem nm_ne{n:Nat}(h:n < 3):nm n≠"":=by
 have:n=0∨n=1∨n=2:=by omega
 rcases this with rfl|rfl|rfl<;>decide +kernel
section
variable{P:Program}{w:World}{K:PySem.W.Frag}{mg:Str→Option Value}{base:Heap}{cl:Nat→Addr}
set_option maxHeartbeats 0 in
theorem lw16{f fA c:Addr}{A:Around}{outer:List Env}{s:Shared}{H:Hp}{Q:VK}{E:XK}{fdA:FuncData} (GA:FnOk P w K mg base CX0 62 fA fdA ["_law_found","_law_due"] (spSame K 62)) (bA:Binds K fdA ["_law_found","_law_due"] []) (kA:PySem.W.keepIn K (.ref fA)=true) (mA:mg "_law_same"=some (.ref fA))
  (hrA:Room 62 (cxOf CX0 P w K mg base laN "law" (defScope sLaw) f (.ref c) A outer s H E).A) :
  ∃t,PSs (cxOf CX0 P w K mg base laN "law" (defScope sLaw) f (.ref c) A outer s H E).nox (List.drop 16 (defBody sLaw)) t ∧
   ∀(D:Ends) (H1:Hp) (d dk:Addr) (kvs:List (Key × V)) (xk y:V) (z ww:Str) (kd:Kd) (v0 v1 v2 v4 v6 v7 v8 v10:Option V),D.rt=Q→(∀H',Q (.bl true) H')→H1 d=some (.dK kvs)→H1 dk=some (.dK kvs)→(∀p∈kvs,plainE p.2=true)→((z=""∧ww=""∧KAt K H1 y kd∧KAt K H1 xk kd)∨∃n,n < 3∧z=nm n∧ww=nm n) →
    t D [v0,v1,v2,some (.ref d),v4,some xk,v6,v7,v8,some (.str z),v10,some (.ref dk),some (.str ww),some y] H1:=by
 have hu:=hu_of hrA
 refine⟨_,@pss_cons _ _ _ _ _ (ps_if (pt_cmpR (op_neE hu) (pv 3) (pv 11) (nomark _)) (@pss_one _ _ _ (@ps_ret _ _ _ _ pe_bl)) pss_nil) (@pss_cons _ _ _ _ _ (ps_if (pt_cmpR op_ne (pv 9) pe_str (nomark _)) (@pss_one _ _ _ (@ps_ret _ _ _ _ (pe_cmpR op_eq (pv 12) (pv 9) (nomark _)))) pss_nil) (@pss_one _ _ _ (@ps_ret _ _ _ _ (pe_and (pe_cmpR op_eq (pv 12) pe_str (nomark _)) (pe_one (pe_call GA hrA rfl mA kA bA .nil pass0 (@pa_cons _ _ _ _ _ (pv 13) (@pa_cons _ _ _ _ _ (pv 5) pa_nil rfl) rfl))))))),?_⟩
 intro D H1 d dk kvs xk y z ww kd v0 v1 v2 v4 v6 v7 v8 v10 hD q h1 h2 hpl hz
 refine⟨_,rfl,_,rfl,d,dk,kvs,rfl,rfl,h1,h2,hpl,_,rfl,iteF ?_⟩
 rcases hz with ⟨rfl,rfl,hy,hx⟩|⟨n,hn,rfl,rfl⟩
 ·refine⟨_,rfl,rfl,_,rfl,ite2 (fun c=>absurd c (by decide +kernel)) (fun _=>?_)⟩
  refine⟨_,rfl,rfl,_,rfl,yes_s ⟨_,rfl,_,rfl,y,xk,Kd.dat kd,rfl,kd_dat hy.1,kd_dat hx.1,ald_kd kd 61 ?_,?_⟩⟩
  ·have h1:=depth_half kd
   have h2:=hy.2.2
   omega
  ·rw [hD]
   exact q _
 ·refine⟨_,rfl,rfl,_,rfl,ite2 (fun _=>?_) (fun c=>?_)⟩
  ·refine⟨_,rfl,_,rfl,rfl,?_⟩
   show D.rt (.bl (decide (V.str (nm n)=V.str (nm n)))) _
   rw [decide_eq_true rfl,hD]
   exact q _
  ·refine absurd ?_ c
   show(!decide (V.str (nm n)=V.str ""))=true
   rw [decide_eq_false fun e=>nm_ne hn (V.str.inj e)]
   rfl
set_option maxHeartbeats 0 in
theorem lw15{f fA fk fn c T TD:Addr}{A:Around}{outer:List Env}{s:Shared}{H:Hp}{Q:VK}{E:XK}{fdA fdk fdn:FuncData}{oT:Value}{dT:Option Addr}{nT:Nat}{sT:Array (Option Value)}{tk:Tok}(C0:PySem.W.CodeHd base c T) (GA:FnOk P w K mg base CX0 62 fA fdA ["_law_found","_law_due"] (spSame K 62)) (bA:Binds K fdA ["_law_found","_law_due"] []) (kA:PySem.W.keepIn K (.ref fA)=true) (mA:mg "_law_same"=some (.ref fA))
  (FK:FunD K "kind_in" "kind_in" sKin (.ref TD) fk fdk) (lT:K.lookup TD=some ⟨oT,dT,.seq #[.int 40 tk] nT,sT⟩) (GK:FnOk P w K mg base (CX1 P w) 29 fk fdk kiP (spKin P w K mg base cl 2 24)) (kK:PySem.W.keepIn K (.ref fk)=true) (mK:mg "kind_in"=some (.ref fk))
  (GT:FnOk P w K mg base (CX1 P w) 1 fn fdn ["_law_table","_law_q","_law_f"] (spTold (cl 0))) (bT:Binds K fdn ["_law_table","_law_q","_law_f"] []) (kT:PySem.W.keepIn K (.ref fn)=true) (mT:mg "_law_told"=some (.ref fn))
  (m0:mg "NoName"=some (.ref (cl 0))) (m1:mg "NoCount"=some (.ref (cl 1))) (m2:mg "WrongKind"=some (.ref (cl 2)))
  (xm:∀i j,i < 3→j≤i→PySem.W.exmOne K (.ref (cl i)) (.ref (cl j))=some (decide (i=j)))
  (hrA:Room 62 (cxOf CX0 P w K mg base laN "law" (defScope sLaw) f (.ref c) A outer s H E).A) (hT:H T=some (.tbl tabL)) (q:∀H',Q (.bl true) H') :
  ∃t,PSs (cxOf CX0 P w K mg base laN "law" (defScope sLaw) f (.ref c) A outer s H E).nox (List.drop 15 (defBody sLaw)) t ∧
   ∀(D:Ends) (H0:Hp) (a d dk ad lf lm lw lp lt:Addr) (cc:Int) (p:Nat→Kd) (C:Orc) (ρ:Str→Option Kd) (kvs:List (Key × V)) (x xk:V) (e:Ex) (r:R Kd) (z:Str) (kd:Kd) (v1 v4 v6 v7 v8:Option V),D.rt=Q→Same H H0→DeskAt K H0 ad lf lm lw lp lt cc p C→H0 d=some (.dK kvs)→H0 dk=some (.dK kvs)→(∀p∈kvs,plainE p.2=true)→EnvAt K H0 d ρ 20→ExAt H0 x e→e.ht≤24→KAt K H0 xk kd→kin 40 C ρ e=r→((z=""∧r=.ok kd)∨∃n,n < 3∧z=nm n∧r=.no n) →
    t D [some (.ref a),v1,some (.ref ad),some (.ref d),v4,some xk,v6,v7,v8,some (.str z),some x,some (.ref dk),some (.str ""),some .non] H0:=by
 have bK3:=bindK3 FK lT
 have hrK:Room 29 _:=hrA.mono (by decide)
 obtain⟨t16,d16,k16⟩:=lw16 (f:=f) (c:=c) (A:=A) (outer:=outer) (s:=s) (H:=H) (Q:=Q) (E:=E) GA bA kA mA hrA
 obtain⟨th,hH,hN⟩:∃th,PH (cxOf CX0 P w K mg base laN "law" (defScope sLaw) f (.ref c) A outer s H E).nox (tryHs (List.drop 15 (defBody sLaw))) th ∧
   ∀n,n < 3→∀D dd ee H' v0 v1 v2 v3 v4 v5 v6 v7 v8 v9 v10 v11 v12 v13,D.nx [v0,v1,v2,v3,v4,v5,v6,v7,v8,v9,v10,v11,some (.str (nm n)),v13] H'→th D (.ref (cl n)) dd ee [v0,v1,v2,v3,v4,v5,v6,v7,v8,v9,v10,v11,v12,v13] H':=by
  refine⟨_,ph_cons rfl m0 (fun e=>pss_one (ps_set (i:=12) scLaw.nd rfl (Or.inl rfl) pe_str)) (ph_cons rfl m1 (fun e=>pss_one (ps_set (i:=12) scLaw.nd rfl (Or.inl rfl) pe_str)) (ph_cons rfl m2 (fun e=>pss_one (ps_set (i:=12) scLaw.nd rfl (Or.inl rfl) pe_str)) ph_nil)),fun n hn D dd ee H' v0 v1 v2 v3 v4 v5 v6 v7 v8 v9 v10 v11 v12 v13 qq=>?_⟩
  have:n=0∨n=1∨n=2:=by omega
  rcases this with rfl|rfl|rfl
  ·exact⟨true,xm 0 0 (by decide) (by decide),iteT qq⟩
  ·exact⟨false,xm 1 0 (by decide) (by decide),iteF ⟨true,xm 1 1 (by decide) (by decide),iteT qq⟩⟩
  ·exact⟨false,xm 2 0 (by decide) (by decide),iteF ⟨false,xm 2 1 (by decide) (by decide),iteF ⟨true,xm 2 2 (by decide) (by decide),iteT qq⟩⟩⟩
 obtain⟨ta,da,qa⟩:∃t:Ends→TS,(∀pins D,PSs ((cxOf CX0 P w K mg base laN "law" (defScope sLaw) f (.ref c) A outer s H E).nox.tryIn (tryHs (List.drop 15 (defBody sLaw))) pins D) (tryB ((defBody sLaw).getD 15 dS)) (t D)) ∧
   ∀(D:Ends) (H0:Hp) (a d dk ad lf lm lw lp lt:Addr) (cc:Int) (p:Nat→Kd) (C:Orc) (ρ:Str→Option Kd) (x xk:V) (e:Ex) (r:R Kd) (z:Str) (v1 v4 v6 v7 v8:Option V),Same H H0→DeskAt K H0 ad lf lm lw lp lt cc p C→EnvAt K H0 d ρ 20→ExAt H0 x e→e.ht≤24→kin 40 C ρ e=r→((∃k,r=.ok k)∨∃n,n < 3∧r=.no n) →
    (∀H1 y k,Same H0 H1→r=.ok k→KAt K H1 y k→D.nx [some (.ref a),v1,some (.ref ad),some (.ref d),v4,some xk,v6,v7,v8,some (.str z),some x,some (.ref dk),some (.str ""),some y] H1)→(∀n H1,n < 3→Same H0 H1→r=.no n→D.nx [some (.ref a),v1,some (.ref ad),some (.ref d),v4,some xk,v6,v7,v8,some (.str z),some x,some (.ref dk),some (.str (nm n)),some .non] H1) →
    t D D [some (.ref a),v1,some (.ref ad),some (.ref d),v4,some xk,v6,v7,v8,some (.str z),some x,some (.ref dk),some (.str ""),some .non] H0:=by
  refine⟨_,fun pins D=>pss_one (ps_set (i:=13) scLaw.nd rfl (Or.inl rfl) (pe_callFE (E:=fun σ cls d H'=>∀x,H' x=none→th D cls d x σ H') (l:=[(2,"_law_desk_here",s.heap.objs.size+1)]) cxf1 GK hrK rfl mK kK bK3 (dvs:=[.int 40]) (.cons ⟨_,rfl⟩ .nil) (passT rfl rfl hH) (.cons rfl rfl rfl rfl .nil) (show(["_law_desk_here"]:List Str).Nodup from by decide +kernel) (@pa_cons _ _ _ _ _ (pv 10) (@pa_cons _ _ _ _ _ (pv 3) (@pa_cons _ _ _ _ _ (lam_at (T:=T) (pm:=(mg "__name__").getD .none) (cls:=[("_law_desk_here",s.heap.objs.size+1)]) rfl C0 rfl rfl) pa_nil rfl) rfl) rfl))),?_⟩
  intro D H0 a d dk ad lf lm lw lp lt cc p C ρ x xk e r z v1 v4 v6 v7 v8 s0 hdk henv hx hht hkin hr hok hno
  obtain⟨kv,hkv,htb⟩:=hdk.tab
  have h5:Tab5 H0 ad lt:=⟨_,_,_,_,hdk.tup⟩
  refine⟨_,rfl,_,rfl,⟨_,s0 _ _ hT,rfl⟩,fun g gc ctv hg hgc hcc=>⟨[.ref ad],.cons rfl .nil,fun H5 e5 s6 n6 fz=>?_⟩⟩
  have s5:=(same_lam hg hgc hcc).trans s6
  refine⟨x,d,g,40,e,ρ,20,_,C,rfl,hx.same s5,hht,henv.same s5,by decide,by decide,by decide,s6 _ _ upd_same,orc_ok GT bT kT mT h5 hkv htb hg hgc hcc s6 n6 fz,?_⟩
  have sD:∀{H':Hp},Same H5 H'→Same H0 (dropC _ H'):=fun s7=>(same_lam hg hgc hcc).trans ((s6.trans s7).dropC n6)
  rw [hkin]
  rcases hr with ⟨k,rfl⟩|⟨n,hn,rfl⟩
  ·exact fun H' u s7 hu=>hok _ u k (sD s7) rfl (hu.drop (fz.same s7).all)
  ·exact⟨by omega,fun H' s7 ee he=>hN n hn _ _ _ _ _ _ _ _ _ _ _ _ _ _ _ _ _ _ (hno n _ hn (sD s7) rfl)⟩
 refine⟨_,@pss_cons _ _ _ _ _ (ps_try fun pins D=>da pins D) d16,?_⟩
 intro D H0 a d dk ad lf lm lw lp lt cc p C ρ kvs x xk e r z kd v1 v4 v6 v7 v8 hD s0 hdk hd hdk2 hpl henv hx hht hxk hkin hz
 refine qa _ H0 a d dk ad lf lm lw lp lt cc p C ρ x xk e r z v1 v4 v6 v7 v8 s0 hdk henv hx hht hkin ?_ ?_ ?_
 ·rcases hz with ⟨_,h⟩|⟨n,hn,_,h⟩
  ·exact .inl ⟨_,h⟩
  ·exact .inr ⟨n,hn,h⟩
 ·intro H1 y k s1 hrk hy
  refine k16 _ H1 d dk kvs xk y z "" kd _ _ _ _ _ _ _ _ hD q (s1 _ _ hd) (s1 _ _ hdk2) hpl (.inl ?_)
  rcases hz with ⟨h1,h2⟩|⟨n,hn,_,h⟩
  ·rw [h2] at hrk
   cases hrk
   exact⟨h1,rfl,hy,hxk.same s1⟩
  ·rw [h] at hrk;cases hrk
 ·intro n H1 hn s1 hrn
  refine k16 _ H1 d dk kvs xk .non z (nm n) kd _ _ _ _ _ _ _ _ hD q (s1 _ _ hd) (s1 _ _ hdk2) hpl (.inr ?_)
  rcases hz with ⟨h1,h2⟩|⟨n',hn',h1,h⟩
  ·rw [h2] at hrn;cases hrn
  ·rw [h] at hrn
   cases hrn
   exact⟨n,hn,h1,rfl⟩
end
end K52
namespace K52
open PySem L2 Kk
theorem Cr.to{p:Nat→Kd}{kd k:Kd}{r:R Kd}(h:Cr p kd r)(hk:Pin p k):Cr p k (rto kd r k):=by
 obtain⟨_,⟨k',_,rfl⟩|⟨n,hn,rfl⟩⟩:=h
 ·refine⟨hk,?_⟩
  show(∃k2,Pin p k2∧(if k'=kd then R.ok k else R.no 2)=.ok k2)∨∃n,n < 4∧(if k'=kd then R.ok k else R.no 2)=.no n
  by_cases e:k'=kd
  ·rw [if_pos e]
   exact .inl ⟨k,hk,rfl⟩
  ·rw [if_neg e]
   exact .inr ⟨2,by decide,rfl⟩
 ·exact⟨hk,.inr ⟨n,hn,rfl⟩⟩
def Fl(p:Nat→Kd)(z:Str)(kd:Kd)(r:R Kd)(i:Nat):Prop:=(z=""∧r=.ok kd)∨(∃n,n < 3∧z=nm n∧r=.no n)∨(i=0∧z=nm 2∧∃k',k'≠kd∧Pin p k'∧r=.ok k')
theorem Fl.step{p:Nat→Kd}{z:Str}{kd k:Kd}{r:R Kd}{i:Nat}(h:Fl p z kd r i):Fl p z k (rto kd r k) (i+1):=by
 rcases h with ⟨h1,rfl⟩|⟨n,hn,h1,rfl⟩|⟨_,h1,k',hk,_,rfl⟩
 ·exact .inl ⟨h1,if_pos rfl⟩
 ·exact .inr (.inl ⟨n,hn,h1,rfl⟩)
 ·exact .inr (.inl ⟨2,by decide,h1,if_neg hk⟩)
def ScH(K:PySem.W.Frag)(W:Hp)(kvs:List (Key × V))(ρ:Str→Option Kd)(c:Int)(p:Nat→Kd)(m:Nat):Prop:=kvs.length≤m∧(∀s,(ρ s=none∧valV kvs (.inr s)=none)∨∃k u,ρ s=some k∧valV kvs (.inr s)=some u∧KAt K W u k)∧(∀kv∈kvs,(∃i:Nat,i < 7∧kv.1=.inr (wd c (i:Int)))∧∃b,kv.2=.ref b)∧∀s k,ρ s=some k→Pin p k
theorem ScH.put{K:PySem.W.Frag}{W:Hp}{ρ:Str→Option Kd}{c:Int}{p:Nat→Kd}{m:Nat}{kvs:List (Key × V)}{k:Kd}{u:V}{i:Nat}(h:ScH K W kvs ρ c p m)(hi:i < 7)(hk:Pin p k)(hu:KAt K W u k):ScH K W (putK kvs (.inr (wd c (i:Int))) u) (rin ρ (wd c (i:Int)) k) c p (m+1):=by
 obtain⟨h1,h2,h3,h4⟩:=h
 refine⟨Nat.le_trans (length_putK ..) (by omega),fun z=>?_,fun kv hkv=>?_,fun z k' e=>?_⟩
 ·rw [valV_put]
  by_cases ez:z=wd c (i:Int)
  ·subst ez
   rw [rin_same,if_pos rfl]
   exact .inr ⟨k,u,rfl,rfl,hu⟩
  ·rw [rin_ne ez,if_neg (fun e=>ez (Sum.inr.inj e))]
   exact h2 z
 ·rcases mem_putK hkv with ⟨e1,e2⟩|z
  ·obtain⟨b,xs,e,_⟩:=kd_tup hu.1
   exact⟨⟨i,hi,e1⟩,b,by rw [e2,e]⟩
  ·exact h3 kv z
 ·by_cases ez:z=wd c (i:Int)
  ·subst ez
   rw [rin_same] at e
   cases e
   exact hk
  ·rw [rin_ne ez] at e
   exact h4 z k' e
section
variable{P:Program}{w:World}{K:PySem.W.Frag}{mg:Str→Option Value}{base:Heap}{cl:Nat→Addr}
set_option maxHeartbeats 0 in
theorem ok_law{f fA fk fn c T TD fF fT fD fY fO fP fN fS:Addr}{fd fdA fdk fdn fdF fdT fdD fdY fdO fdP fdN fdS:FuncData}{oT:Value}{dT:Option Addr}{nT:Nat}{sT:Array (Option Value)}{tk:Tok} (F:FunT K "law" "law" sLaw f fd c T) (X:K.In base) (mr:mg "range"=none) (md:mg "dict"=none)
  (GA:FnOk P w K mg base CX0 62 fA fdA ["_law_found","_law_due"] (spSame K 62)) (bA:Binds K fdA ["_law_found","_law_due"] []) (kA:PySem.W.keepIn K (.ref fA)=true) (mA:mg "_law_same"=some (.ref fA))
  (FK:FunD K "kind_in" "kind_in" sKin (.ref TD) fk fdk) (lT:K.lookup TD=some ⟨oT,dT,.seq #[.int 40 tk] nT,sT⟩) (GK:FnOk P w K mg base (CX1 P w) 29 fk fdk kiP (spKin P w K mg base cl 2 24)) (kK:PySem.W.keepIn K (.ref fk)=true) (mK:mg "kind_in"=some (.ref fk))
  (GTo:FnOk P w K mg base (CX1 P w) 1 fn fdn ["_law_table","_law_q","_law_f"] (spTold (cl 0))) (bTo:Binds K fdn ["_law_table","_law_q","_law_f"] []) (kTo:PySem.W.keepIn K (.ref fn)=true) (mTo:mg "_law_told"=some (.ref fn))
  (m0:mg "NoName"=some (.ref (cl 0))) (m1:mg "NoCount"=some (.ref (cl 1))) (m2:mg "WrongKind"=some (.ref (cl 2)))
  (xm:∀i j,i < 3→j≤i→PySem.W.exmOne K (.ref (cl i)) (.ref (cl j))=some (decide (i=j)))
  (GF:FnOk P w K mg base CX0 2 fF fdF ["_law_script"] (spFeed K)) (bF:Binds K fdF ["_law_script"] []) (kF:PySem.W.keepIn K (.ref fF)=true) (mF:mg "_law_feed"=some (.ref fF))
  (GT:FnOk P w K mg base CX0 1 fT fdT ["_law_feed_here","_law_many"] spTake) (bT:Binds K fdT ["_law_feed_here","_law_many"] []) (kT:PySem.W.keepIn K (.ref fT)=true) (mT:mg "_law_take"=some (.ref fT))
  (GD:FnOk P w K mg base CX0 3 fD fdD ["_law_script","_law_feed_here"] (spDesk K)) (bD:Binds K fdD ["_law_script","_law_feed_here"] []) (kD:PySem.W.keepIn K (.ref fD)=true) (mD:mg "_law_desk"=some (.ref fD))
  (GY:FnOk P w K mg base CX0 2 fY fdY ["_law_desk_here"] (spAny K)) (bY:Binds K fdY ["_law_desk_here"] []) (kY:PySem.W.keepIn K (.ref fY)=true) (mY:mg "_law_any"=some (.ref fY))
  (GO:FnOk P w K mg base CX0 11 fO fdO ["_law_kind","_law_scope","_law_desk_here","_law_deep"] (spOf K 4)) (bO:Binds K fdO ["_law_kind","_law_scope","_law_desk_here","_law_deep"] []) (kO:PySem.W.keepIn K (.ref fO)=true) (mO:mg "_law_of"=some (.ref fO))
  (GP:FnOk P w K mg base CX0 3 fP fdP ["_law_core","_law_scope","_law_desk_here"] (spPass K)) (bP:Binds K fdP ["_law_core","_law_scope","_law_desk_here"] []) (kP:PySem.W.keepIn K (.ref fP)=true) (mP:mg "_law_passed"=some (.ref fP))
  (GN:FnOk P w K mg base CX0 3 fN fdN ["_law_core","_law_kind","_law_scope","_law_desk_here"] (spRound K)) (bN:Binds K fdN ["_law_core","_law_kind","_law_scope","_law_desk_here"] []) (kN:PySem.W.keepIn K (.ref fN)=true) (mN:mg "_law_round"=some (.ref fN))
  (GS:FnOk P w K mg base CX0 9 fS fdS ["_law_kind","_law_scope","_law_desk_here","_law_fault"] (spSpoilt K)) (bS:Binds K fdS ["_law_kind","_law_scope","_law_desk_here","_law_fault"] []) (kS:PySem.W.keepIn K (.ref fS)=true) (mS:mg "_law_spoilt"=some (.ref fS)):FnOk P w K mg base CX0 63 f fd ["_law_script"] (spLaw K T):=by
 have C0:=F.code X
 refine F.ok (k:=62) scLaw (fun vs H Q E h=>?_) (fun A outer s H vs Q E hrA h=>?_)
 ·obtain⟨_,_,rfl,_⟩:=h
  rfl
 obtain⟨a,ns,rfl,hS,h63,hT,q⟩:=h
 have hrF:Room 2 _:=hrA.mono (by decide)
 have hrT:Room 1 _:=hrA.mono (by decide)
 have hrD:Room 3 _:=hrA.mono (by decide)
 have hrY:Room 2 _:=hrF
 have hrO:Room 11 _:=hrA.mono (by decide)
 have hrP:Room 3 _:=hrD
 have hrN:Room 3 _:=hrD
 have hrS:Room 9 _:=hrA.mono (by decide)
 have hu:=hu_of hrA
 obtain⟨t15,d15,k15⟩:=lw15 (f:=f) (outer:=outer) (E:=E) C0 GA bA kA mA FK lT GK kK mK GTo bTo kTo mTo m0 m1 m2 xm hrA hT q
 obtain⟨t12,d12,k12⟩:∃t,PSs (cxOf CX0 P w K mg base laN "law" (defScope sLaw) f (.ref c) A outer s H E).nox (List.drop 12 (defBody sLaw)) t ∧
   ∀(D:Ends) (H1:Hp) (d ad lf lm lw lp lt:Addr) (cc:Int) (p:Nat→Kd) (C:Orc) (ρ:Str→Option Kd) (x xk:V) (e:Ex) (r:R Kd) (z:Str) (kd:Kd) (v1 v4 v6 v7 v8:Option V),D.rt=Q→Same H (zo H1 [lf,lm])→DeskAt K (zo H1 [lf,lm]) ad lf lm lw lp lt cc p C→ScAt K (zo H1 [lf,lm]) d ρ cc p 5→ρ (wd cc 24)=none→ExAt (zo H1 [lf,lm]) x e→e.ht≤24→KAt K (zo H1 [lf,lm]) xk kd→Res C ρ cc e r→((z=""∧r=.ok kd)∨∃n,n < 3∧z=nm n∧r=.no n) →
    t D [some (.ref a),v1,some (.ref ad),some (.ref d),v4,some xk,v6,v7,v8,some (.str z),some x,none,none,none] H1:=by
  refine⟨_,@pss_cons _ _ _ _ _ (ps_set (i:=11) scLaw.nd rfl (Or.inl rfl) (pe_callTy call_dict_dK rfl md bootDict (@pa_cons _ _ _ _ _ (pv 3) pa_nil rfl))) (@pss_cons _ _ _ _ _ (ps_set (i:=12) scLaw.nd rfl (Or.inl rfl) pe_str) (@pss_cons _ _ _ _ _ (ps_set (i:=13) scLaw.nd rfl (Or.inl rfl) pe_non) d15)),?_⟩
  intro D H1 d ad lf lm lw lp lt cc p C ρ x xk e r z kd v1 v4 v6 v7 v8 hD s1 hdk hsc h24 hx hht hxk hres hz
  obtain⟨kvs,hd,hl,hv,hks,hpin⟩:=hsc
  refine⟨_,rfl,d,kvs,rfl,zo_same _ _ hd,fun dk hdk0=>?_⟩
  have n2:=same_new hdk0 (.dK kvs)
  have sz:Same (zo H1 [lf,lm]) (upd H1 dk (.dK kvs)):=zo_same.trans n2
  refine k15 D _ a d dk ad lf lm lw lp lt cc p C ρ kvs x xk e r z kd v1 v4 v6 v7 v8 hD (s1.trans sz) (hdk.same sz) (sz _ _ hd) upd_same (fun kv hkv=>?_) ⟨kvs,sz _ _ hd,by omega,fun s=>?_⟩ (hx.same sz) hht (hxk.same sz) (hres ρ (fun _ _ e=>e) h24) hz
  ·obtain⟨_,b,eb⟩:=hks kv hkv
   rw [eb]
   rfl
  ·rcases hv s with e1|⟨k,u,e1,e2,e3⟩
   ·exact .inl e1
   ·exact .inr ⟨k,u,e1,e2,e3.same sz⟩
 obtain⟨t11,d11,k11⟩:∃t,PSs (cxOf CX0 P w K mg base laN "law" (defScope sLaw) f (.ref c) A outer s H E).nox (List.drop 11 (defBody sLaw)) t ∧
   ∀(D:Ends) (H1:Hp) (d ad lf lm lw lp lt:Addr) (cc ro:Int) (p:Nat→Kd) (C:Orc) (ρ:Str→Option Kd) (x xk:V) (e:Ex) (r:R Kd) (z:Str) (kd:Kd) (v1 v4 v6 v7:Option V),D.rt=Q→1≤ro→ro≤3→Same H (zo H1 [lf,lm])→St H1 lf lm→DeskAt K (zo H1 [lf,lm]) ad lf lm lw lp lt cc p C→ScAt K (zo H1 [lf,lm]) d ρ cc p 5→ρ (wd cc 5)=none→ρ (wd cc 24)=none→ExAt (zo H1 [lf,lm]) x e→e.ht≤16→KAt K (zo H1 [lf,lm]) xk kd→Cr p kd r→Res C ρ cc e r→Fl p z kd r 0 →
    t D [some (.ref a),v1,some (.ref ad),some (.ref d),v4,some xk,v6,v7,some (.int ro),some (.str z),some x,none,none,none] H1:=by
  refine⟨_,@pss_cons _ _ _ _ _ (ps_for PassesOwn.never rfl (pi_range1 rfl mr (@pa_cons _ _ _ _ _ (pv 8) pa_nil rfl)) (pg_name (i:=4) scLaw.nd rfl (Or.inl rfl)) (@pss_one _ _ _ (ps_asg (pe_call GN hrN rfl mN kN bN .nil pass0 (@pa_cons _ _ _ _ _ (pv 10) (@pa_cons _ _ _ _ _ (pv 5) (@pa_cons _ _ _ _ _ (pv 3) (@pa_cons _ _ _ _ _ (pv 2) pa_nil rfl) rfl) rfl) rfl)) (pg_tup rfl (pgs_cons (pg_name (i:=10) scLaw.nd rfl (Or.inl rfl)) (pgs_cons (pg_name (i:=5) scLaw.nd rfl (Or.inl rfl)) pgs_nil)))))) d12,?_⟩
  intro D H1 d ad lf lm lw lp lt cc ro p C ρ x xk e r z kd v1 v4 v6 v7 hD r1 r3 s1 hst hdk hsc h5 h24 hx hht hxk hcr hres hfl
  refine⟨_,rfl,_,rfl,by omega,by omega,for_range (n:=ro.toNat) (fun i σ H3=>∃(y zk:V) (e':Ex) (r':R Kd) (k':Kd) (w4:Option V),σ=[some (.ref a),v1,some (.ref ad),some (.ref d),w4,some zk,v6,v7,some (.int ro),some (.str z),some y,none,none,none]∧St H3 lf lm∧Same (zo H1 [lf,lm]) (zo H3 [lf,lm])∧ExAt (zo H3 [lf,lm]) y e'∧e'.ht≤16+2*i∧KAt K (zo H3 [lf,lm]) zk k'∧Cr p k' r'∧Res C ρ cc e' r'∧Fl p z k' r' i) ⟨x,xk,e,r,kd,v4,rfl,hst,Same.refl _,hx,hht,hxk,hcr,hres,hfl⟩ ?_ ?_⟩
  ·rintro i σ H3 hi ⟨y,zk,e',r',k',w4,rfl,st3,s3,hy,hht',hzk,hcr',hres',hfl'⟩
   refine⟨_,rfl,_,rfl,_,rfl,_,rfl,y,zk,d,ad,lf,lm,lw,lp,lt,cc,p,C,ρ,5,k',e',r',16+2*i,rfl,st3,hdk.same s3,hsc.same s3,by decide,h5,hy,hht',by omega,hzk,hcr',hres',fun H4 qa y2 z2 e2 k2 st4 s4 hqa he2 hh2 hz2 hp2 hr2=>?_⟩
   refine⟨qa,_,rfl,SqT.of (zo_same _ _ hqa),rfl,_,_,rfl,_,_,rfl,rfl,?_⟩
   exact⟨y2,z2,e2,_,k2,_,rfl,st4,s3.trans s4,he2,by omega,hz2,hcr'.to hp2,hr2,hfl'.step⟩
  ·rintro σ H3 ⟨y,zk,e',r',k',w4,rfl,st3,s3,hy,hht',hzk,hcr',hres',hfl'⟩
   refine k12 D H3 d ad lf lm lw lp lt cc p C ρ y zk e' r' z k' _ _ _ _ _ hD (s1.trans s3) (hdk.same s3) (hsc.same s3) h24 hy (by omega) hzk hres' ?_
   rcases hfl' with h|h|⟨h,_⟩
   ·exact .inl h
   ·exact .inr h
   ·omega
 obtain⟨t10,d10,k10⟩:∃t,PSs (cxOf CX0 P w K mg base laN "law" (defScope sLaw) f (.ref c) A outer s H E).nox (List.drop 10 (defBody sLaw)) t ∧
   ∀(D:Ends) (H1:Hp) (d ad lf lm lw lp lt:Addr) (cc pa ro:Int) (p:Nat→Kd) (C:Orc) (ρ:Str→Option Kd) (x xk:V) (e:Ex) (r:R Kd) (z:Str) (kd:Kd) (v1 v4 v6:Option V),D.rt=Q→0≤pa→pa≤2→1≤ro→ro≤3→Same H (zo H1 [lf,lm])→St H1 lf lm→DeskAt K (zo H1 [lf,lm]) ad lf lm lw lp lt cc p C→ScAt K (zo H1 [lf,lm]) d ρ cc p 5→ρ (wd cc 5)=none→ρ (wd cc 6)=none→ρ (wd cc 24)=none→ExAt (zo H1 [lf,lm]) x e→e.ht≤12→KAt K (zo H1 [lf,lm]) xk kd→Cr p kd r→Res C ρ cc e r→Fl p z kd r 0 →
    t D [some (.ref a),v1,some (.ref ad),some (.ref d),v4,some xk,v6,some (.int pa),some (.int ro),some (.str z),some x,none,none,none] H1:=by
  refine⟨_,@pss_cons _ _ _ _ _ (ps_for PassesOwn.never rfl (pi_range1 rfl mr (@pa_cons _ _ _ _ _ (pv 7) pa_nil rfl)) (pg_name (i:=4) scLaw.nd rfl (Or.inl rfl)) (@pss_one _ _ _ (ps_set (i:=10) scLaw.nd rfl (Or.inl rfl) (pe_call GP hrP rfl mP kP bP .nil pass0 (@pa_cons _ _ _ _ _ (pv 10) (@pa_cons _ _ _ _ _ (pv 3) (@pa_cons _ _ _ _ _ (pv 2) pa_nil rfl) rfl) rfl))))) d11,?_⟩
  intro D H1 d ad lf lm lw lp lt cc pa ro p C ρ x xk e r z kd v1 v4 v6 hD p0 p2 r1 r3 s1 hst hdk hsc h5 h6 h24 hx hht hxk hcr hres hfl
  refine⟨_,rfl,_,rfl,by omega,by omega,for_range (n:=pa.toNat) (fun i σ H3=>∃(y:V) (e':Ex) (w4:Option V),σ=[some (.ref a),v1,some (.ref ad),some (.ref d),w4,some xk,v6,some (.int pa),some (.int ro),some (.str z),some y,none,none,none]∧St H3 lf lm∧Same (zo H1 [lf,lm]) (zo H3 [lf,lm])∧ExAt (zo H3 [lf,lm]) y e'∧e'.ht≤12+2*i∧Res C ρ cc e' r) ⟨x,e,v4,rfl,hst,Same.refl _,hx,hht,hres⟩ ?_ ?_⟩
  ·rintro i σ H3 hi ⟨y,e',w4,rfl,st3,s3,hy,hht',hres'⟩
   refine⟨_,rfl,_,rfl,_,rfl,y,d,ad,lf,lm,lw,lp,lt,cc,p,C,ρ,5,kd,e',r,12+2*i,rfl,st3,hdk.same s3,hsc.same s3,by decide,h5,h6,hy,hht',by omega,hcr,hres',fun H4 y2 e2 st4 s4 he2 hh2 hr2=>?_⟩
   exact⟨y2,e2,_,rfl,st4,s3.trans s4,he2,by omega,hr2⟩
  ·rintro σ H3 ⟨y,e',w4,rfl,st3,s3,hy,hht',hres'⟩
   exact k11 D H3 d ad lf lm lw lp lt cc ro p C ρ y xk e' r z kd _ _ _ _ hD r1 r3 (s1.trans s3) st3 (hdk.same s3) (hsc.same s3) h5 h24 hy (by omega) (hxk.same s3) hcr hres' hfl
 refine⟨_,@pss_cons _ _ _ _ _ (ps_set (i:=1) scLaw.nd rfl (Or.inl rfl) (pe_call GF hrF rfl mF kF bF .nil pass0 (@pa_cons _ _ _ _ _ (pv 0) pa_nil rfl))) (@pss_cons _ _ _ _ _ (ps_set (i:=2) scLaw.nd rfl (Or.inr rfl) (pe_call GD hrD rfl mD kD bD .nil pass0 (@pa_cons _ _ _ _ _ (pv 0) (@pa_cons _ _ _ _ _ (pv 1) pa_nil rfl) rfl))) (@pss_cons _ _ _ _ _ (ps_set (i:=3) scLaw.nd rfl (Or.inl rfl) pe_dnewK) (@pss_cons _ _ _ _ _ (ps_for PassesOwn.never rfl (pi_range1 rfl mr (@pa_cons _ _ _ _ _ pe_int pa_nil rfl)) (pg_name (i:=4) scLaw.nd rfl (Or.inl rfl)) (@pss_one _ _ _ (ps_dput hu (pv 3) (pe_ix ix_list (pe_ix ix_tup (pv 2) pe_int (fun _ _=>rfl)) (pv 4) (fun _ _=>rfl)) (pe_ix ix_list (pe_ix ix_tup (pv 2) pe_int (fun _ _=>rfl)) (pv 4) (fun _ _=>rfl)) rfl))) (@pss_cons _ _ _ _ _ (ps_set (i:=5) scLaw.nd rfl (Or.inl rfl) (pe_call GY hrY rfl mY kY bY .nil pass0 (@pa_cons _ _ _ _ _ (pv 2) pa_nil rfl))) (@pss_cons _ _ _ _ _ (ps_set (i:=6) scLaw.nd rfl (Or.inl rfl) (pe_call GT hrT rfl mT kT bT .nil pass0 (@pa_cons _ _ _ _ _ (pv 1) (@pa_cons _ _ _ _ _ pe_int pa_nil rfl) rfl))) (@pss_cons _ _ _ _ _ (ps_set (i:=7) scLaw.nd rfl (Or.inl rfl) (pe_call GT hrT rfl mT kT bT .nil pass0 (@pa_cons _ _ _ _ _ (pv 1) (@pa_cons _ _ _ _ _ pe_int pa_nil rfl) rfl))) (@pss_cons _ _ _ _ _ (ps_set (i:=8) scLaw.nd rfl (Or.inl rfl) (pe_op op_add pe_int (pe_call GT hrT rfl mT kT bT .nil pass0 (@pa_cons _ _ _ _ _ (pv 1) (@pa_cons _ _ _ _ _ pe_int pa_nil rfl) rfl)))) (@pss_cons _ _ _ _ _ (ps_set (i:=9) scLaw.nd rfl (Or.inl rfl) pe_str) (@pss_cons _ _ _ _ _ (ps_if (pt_chain op_lt op_lt pe_int (pv 6) pe_int) (@pss_one _ _ _ (ps_asg (pe_call GS hrS rfl mS kS bS .nil pass0 (@pa_cons _ _ _ _ _ (pv 5) (@pa_cons _ _ _ _ _ (pv 3) (@pa_cons _ _ _ _ _ (pv 2) (@pa_cons _ _ _ _ _ (pv 6) pa_nil rfl) rfl) rfl) rfl)) (pg_tup rfl (pgs_cons (pg_name (i:=10) scLaw.nd rfl (Or.inl rfl)) (pgs_cons (pg_name (i:=9) scLaw.nd rfl (Or.inl rfl)) pgs_nil))))) (@pss_one _ _ _ (ps_set (i:=10) scLaw.nd rfl (Or.inl rfl) (pe_call GO hrO rfl mO kO bO .nil pass0 (@pa_cons _ _ _ _ _ (pv 5) (@pa_cons _ _ _ _ _ (pv 3) (@pa_cons _ _ _ _ _ (pv 2) (@pa_cons _ _ _ _ _ pe_int pa_nil rfl) rfl) rfl) rfl))))) d10))))))))),?_⟩
 refine⟨_,rfl,a,ns,rfl,hS,h63,fun H1 lf s1 hlf f1=>?_⟩
 have z1:Same H (zo H1 [lf]):=zo_of s1 fun b hb=>by
  obtain rfl:b=lf:=by simpa using hb
  exact hlf
 refine⟨_,rfl,_,rfl,a,lf,ns,rfl,sql_same z1 hS,h63,f1,fun H2 ad lm lw lp lt cc p C f2 s2 hlm nlm hdk=>?_⟩
 have z2:Same H (zo H2 [lf,lm]):=z1.trans s2
 have st2:St H2 lf lm:=⟨f2,⟨30,hlm⟩,nlm⟩
 refine fun d hd0=>?_
 have ndf:d≠lf:=fun e=>fd_some st2.1 (by rw [←e];exact hd0)
 have ndm:d≠lm:=fun e=>st2.ne lm (by simp) (by rw [←e];exact hd0)
 obtain⟨st3,n3,g3⟩:=st2.nw hd0 (.dK [])
 obtain⟨xp,hlp,hxp⟩:=hdk.pool
 refine⟨_,rfl,by omega,by omega,for_range (n:=5) (fun i σ H3=>∃(kvs:List (Key × V)) (ρ:Str→Option Kd) (w4:Option V),σ=[some (.ref a),some (.ref lf),some (.ref ad),some (.ref d),w4,none,none,none,none,none,none,none,none,none]∧St H3 lf lm∧Same (zo H2 [lf,lm]) (zo H3 [lf,lm])∧zo H3 [lf,lm] d=some (.dK kvs)∧ScH K (zo H2 [lf,lm]) kvs ρ cc p i∧∀j:Int,5≤j→j < 26→ρ (wd cc j)=none) ⟨[],fun _=>none,none,rfl,st3,n3,g3,⟨Nat.le_refl _,fun _=>.inl ⟨rfl,rfl⟩,(fun _ h=>(nomatch h)),(fun _ _ e=>(nomatch e))⟩,fun _ _ _=>rfl⟩ ?_ ?_⟩
 ·rintro i σ H3 hi ⟨kvs,ρ,w4,rfl,st4,s4,hd4,hsh,hno⟩
  rw [Int.zero_add]
  have tad:=SqT.of (K:=K) (zo_same _ _ (s4 _ _ hdk.tup))
  refine⟨_,rfl,ad,_,_,_,rfl,rfl,tad,at1,_,rfl,lp,_,_,_,rfl,rfl,SqL.of (zo_same _ _ (s4 _ _ hlp)),at5n hi,_,rfl,_,rfl,ad,_,_,_,rfl,rfl,tad,at2,_,rfl,lw,_,_,_,rfl,rfl,SqL.of (zo_same _ _ (s4 _ _ hdk.words)),wl_at cc (by omega) (by omega),d,_,rfl,DPut.k (k:=.inr (wd cc (i:Int))) (zo_same _ _ hd4) (small1000 (by have:=hsh.1;omega)),?_⟩
  have hd2:zo H2 [lf,lm] d=none:=by
   cases e:zo H2 [lf,lm] d with
   |none=>rfl
   |some u=>rw [zo_same _ _ e] at hd0;cases hd0
  refine⟨_,_,_,rfl,st_upd st4 ndf ndm,fun b o e=>?_,?_,ScH.put (i:=i) hsh (by omega) ⟨i,hi,rfl⟩ (hxp i hi),fun j j5 j26=>?_⟩
  ·have nb:b≠d:=fun z=>by rw [z,hd2] at e;cases e
   have e1:=s4 _ _ e
   have nS:b∉[lf,lm]:=fun z=>by rw [zo_at z] at e1;cases e1
   rw [zo_ne nS] at e1 ⊢
   rw [upd_ne nb]
   exact e1
  ·rw [zo_ne (by simp [ndf,ndm])]
   exact upd_same
  ·rw [rin_ne (wd_no cc (by omega) (by omega) (by omega))]
   exact hno j j5 j26
 rintro σ H3 ⟨kvs,ρ,w4,rfl,st4,s4,hd4,hsh,hno⟩
 have hsc:ScAt K (zo H3 [lf,lm]) d ρ cc p 5:=by
  obtain⟨a1,a2,a3,a4⟩:=hsh
  refine⟨kvs,hd4,a1,fun s=>?_,a3,a4⟩
  rcases a2 s with e1|⟨k,u,e1,e2,e3⟩
  ·exact .inl e1
  ·exact .inr ⟨k,u,e1,e2,e3.same s4⟩
 have z3:=z2.trans s4
 have hdk3:=hdk.same s4
 refine⟨_,rfl,ad,lf,lm,lw,lp,lt,cc,p,C,rfl,st4,hdk3,fun H4 xk kd st5 s5 hxk hpk=>?_⟩
 have z4:=z3.trans s5
 refine⟨_,rfl,lf,13,rfl,st5.1,by decide,by decide,fun H5 ft f5 t5 ft0 ft13=>?_⟩
 obtain⟨st6,n6⟩:=st5.take f5 t5
 refine⟨_,rfl,lf,3,rfl,st6.1,by decide,by decide,fun H6 pa f6 t6 pa0 pa3=>?_⟩
 obtain⟨st7,n7⟩:=st6.take f6 t6
 refine⟨_,rfl,lf,3,rfl,st7.1,by decide,by decide,fun H7 ro f7 t7 ro0 ro3=>⟨_,_,rfl,rfl,?_⟩⟩
 obtain⟨st8,n8⟩:=st7.take f7 t7
 have s48:=n6.trans (n7.trans n8)
 have s38:=s5.trans s48
 have z8:=z4.trans s48
 have hdk8:=hdk3.same s38
 have hsc8:=hsc.same s38
 have hxk8:=hxk.same s48
 have n5:=hno 5 (by decide) (by decide)
 have n6':=hno 6 (by decide) (by decide)
 have n24:=hno 24 (by decide) (by decide)
 have good:∀(H9:Hp) (y:V) (e:Ex),St H9 lf lm→Same (zo H7 [lf,lm]) (zo H9 [lf,lm])→ExAt (zo H9 [lf,lm]) y e→e.ht≤12→Res C ρ cc e (.ok kd)→t10 { nx:=fun _ H'=>Q .non H',rt:=Q } [some (.ref a),some (.ref lf),some (.ref ad),some (.ref d),w4,some xk,some (.int ft),some (.int pa),some (.int (1+ro)),some (.str ""),some y,none,none,none] H9:=fun H9 y e st9 s9 he hh hr =>
  k10 _ H9 d ad lf lm lw lp lt cc pa (1+ro) p C ρ y xk e (.ok kd) "" kd _ _ _ rfl pa0 (by omega) (by omega) (by omega) (z8.trans s9) st9 (hdk8.same s9) (hsc8.same s9) n5 n6' n24 he hh (hxk8.same s9) ⟨hpk,.inl ⟨kd,hpk,rfl⟩⟩ hr (.inl ⟨rfl,rfl⟩)
 have other:tSeq (tAsg (tCall (spOf K 4) [] E0 (tCons (tVar 5) (tCons (tVar 3) (tCons (tVar 2) (tCons (tC (V.int 4)) tNil))))) (gName 10)) t10 { nx:=fun _ H'=>Q .non H',rt:=Q } [some (.ref a),some (.ref lf),some (.ref ad),some (.ref d),w4,some xk,some (.int ft),some (.int pa),some (.int (1+ro)),some (.str ""),none,none,none,none] H7 :=
  ⟨_,rfl,_,rfl,_,rfl,xk,d,ad,lf,lm,lw,lp,lt,cc,p,C,ρ,5,kd,rfl,st8,hdk8,hsc8,by decide,hxk8,hpk,fun H9 y e st9 s9 he hh hr=>good H9 y e st9 s9 he hh hr⟩
 refine⟨_,rfl,_,_,rfl,rfl,_,rfl,ite2 (fun _=>⟨_,_,rfl,rfl,_,rfl,ite2 (fun _=>?_) (fun _=>other)⟩) (fun _=>⟨_,rfl,iteF (A:=True) other⟩)⟩
 refine⟨_,rfl,_,rfl,_,rfl,_,rfl,xk,d,ad,lf,lm,lw,lp,lt,ft,cc,p,C,ρ,5,kd,rfl,st8,hdk8,hsc8,by decide,hxk8,hpk,fun H9 q1 y e n st9 s9 g9 hn he hh hbad=>?_⟩
 refine⟨q1,_,rfl,SqT.of (zo_same _ _ g9),rfl,_,_,rfl,_,_,rfl,rfl,?_⟩
 have go:∀r,Cr p kd r→Res C ρ cc e r→Fl p (nm n) kd r 0→_:=fun r h1 h2 h3=>k10 { nx:=fun _ H'=>Q .non H',rt:=Q } H9 d ad lf lm lw lp lt cc pa (1+ro) p C ρ y xk e r (nm n) kd (some (.ref lf)) w4 (some (.int ft)) rfl pa0 (by omega) (by omega) (by omega) (z8.trans s9) st9 (hdk8.same s9) (hsc8.same s9) n5 n6' n24 he (by omega) (hxk8.same s9) h1 h2 h3
 rcases hbad with hr|⟨rfl,k',hk',hpk',hr⟩
 ·exact go _ ⟨hpk,.inr ⟨n,by omega,rfl⟩⟩ hr (.inr (.inl ⟨n,hn,rfl,rfl⟩))
 ·exact go _ ⟨hpk,.inl ⟨k',hpk',rfl⟩⟩ hr (.inr (.inr ⟨rfl,rfl,k',hk',hpk',rfl⟩))
end
end K52
namespace K52
open PySem L2 Kk
def clOf(a b c d:Addr):Nat→Addr
 |0=>a
 |1=>b
 |2=>c
 |_=>d
section
variable{P:Program}{w:World}{K:PySem.W.Frag}{mg:Str→Option Value}{base:Heap}
theorem xm_of{a b c d:Addr}(x00:PySem.W.exmOne K (.ref a) (.ref a)=some true)(x10:PySem.W.exmOne K (.ref b) (.ref a)=some false)(x11:PySem.W.exmOne K (.ref b) (.ref b)=some true)(x20:PySem.W.exmOne K (.ref c) (.ref a)=some false)(x21:PySem.W.exmOne K (.ref c) (.ref b)=some false)(x22:PySem.W.exmOne K (.ref c) (.ref c)=some true) :
  ∀i j,i < 3→j≤i→PySem.W.exmOne K (.ref (clOf a b c d i)) (.ref (clOf a b c d j))=some (decide (i=j))
 |0,0,_,_=>x00
 |1,0,_,_=>x10
 |1,1,_,_=>x11
 |2,0,_,_=>x20
 |2,1,_,_=>x21
 |2,2,_,_=>x22
 |0,_+1,_,h=>by omega
 |1,_+2,_,h=>by omega
 |2,_+3,_,h=>by omega
 |_+3,_,h,_=>by omega
theorem of_all{f fT fL fQ fR fE fY:Addr}{fd fdT fdL fdQ fdR fdE fdY:FuncData} (F:Fun K "_law_of" "_law_of" sOf f fd) (bO:Binds K fd ["_law_kind","_law_scope","_law_desk_here","_law_deep"] []) (kO:PySem.W.keepIn K (.ref f)=true) (mO:mg "_law_of"=some (.ref f))
  (FQ:Fun K "_law_call" "_law_call" sCallL fQ fdQ) (FR:Fun K "_law_reckoned" "_law_reckoned" sReck fR fdR) (FE:Fun K "_law_let" "_law_let" sLet fE fdE) (mt:mg "tuple"=none) (md:mg "dict"=none)
  (GT:FnOk P w K mg base CX0 1 fT fdT ["_law_feed_here","_law_many"] spTake) (bT:Binds K fdT ["_law_feed_here","_law_many"] []) (kT:PySem.W.keepIn K (.ref fT)=true) (mT:mg "_law_take"=some (.ref fT))
  (GL:FnOk P w K mg base CX0 2 fL fdL ["_law_kind","_law_scope","_law_desk_here"] (spLeaf K)) (bL:Binds K fdL ["_law_kind","_law_scope","_law_desk_here"] []) (kL:PySem.W.keepIn K (.ref fL)=true) (mL:mg "_law_leaf"=some (.ref fL))
  (bQ:Binds K fdQ ["_law_kind","_law_scope","_law_desk_here","_law_deep"] []) (kQ:PySem.W.keepIn K (.ref fQ)=true) (mQ:mg "_law_call"=some (.ref fQ))
  (bR:Binds K fdR ["_law_kind","_law_scope","_law_desk_here","_law_deep"] []) (kR:PySem.W.keepIn K (.ref fR)=true) (mR:mg "_law_reckoned"=some (.ref fR))
  (bE:Binds K fdE ["_law_kind","_law_scope","_law_desk_here","_law_deep"] []) (kE:PySem.W.keepIn K (.ref fE)=true) (mE:mg "_law_let"=some (.ref fE))
  (GY:FnOk P w K mg base CX0 2 fY fdY ["_law_desk_here"] (spAny K)) (bY:Binds K fdY ["_law_desk_here"] []) (kY:PySem.W.keepIn K (.ref fY)=true) (mY:mg "_law_any"=some (.ref fY)):∀n,FnOk P w K mg base CX0 (2*n+3) f fd ["_law_kind","_law_scope","_law_desk_here","_law_deep"] (spOf K n)
 |0=>ok_of0 F GT bT kT mT GL bL kL mL
 |n+1=>by
  have GO:=of_all F bO kO mO FQ FR FE mt md GT bT kT mT GL bL kL mL bQ kQ mQ bR kR mR bE kE mE GY bY kY mY n
  have h3:3≤2*n+3:=by omega
  have G:=ok_ofS F h3 GO bO kO mO GT bT kT mT GL bL kL mL (ok_callL FQ mt GO bO kO mO) bQ kQ mQ (ok_reck FR h3 GO bO kO mO GT bT kT mT) bR kR mR (ok_let FE md h3 GO bO kO mO GT bT kT mT GY bY kY mY) bE kE mE GY bY kY mY
  rw [show 2*(n+1)+3=2*n+3+2 by omega]
  exact G
end
end K52
namespace PySem.W.Fast
def tw14941408341127176137:=()
def tw3819376802629983518:=()
def tw5012572669384915956:=()
def tw15084544061679134885:=()
def tw17083051352288297696:=()
def tw17092447889435522691:=()
def tw12026986981754626550:=()
def tw9965327499401134826:=()
def tw9213684206347894783:=()
def tw2172142382350528107:=()
def tw16922250716036366112:=()
def tw12355578169231125317:=()
def tw7826889528546626813:=()
def tw3463270062863051533:=()
def tw5080830548605522741:=()
def tw4832494455962582225:=()
def tw5518695076841104969:=()
def tw4997346662873224250:=()
def tw9740149365979771540:=()
def tw4023151864205613835:=()
def tw12528183396269554707:=()
def tw14184401870626016:=()
def tw1776869750255793597:=()
def tw7666204973569528945:=()
def tw12909714326954200985:=()
def tw16386840492726714041:=()
def tw13668963880164280729:=()
def tw4027224589612006342:=()
def tw10757612630367191180:=()
def tw15004950350432339395:=()
def tw12026107645466924314:=()
def tw4293803549886610707:=()
def tw12950844691003439920:=()
def tw7478301534312951586:=()
def tw4595181690240180193:=()
def tw13526607153275706522:=()
def tw985464640671953193:=()
def tw16622034278351029574:=()
def tw14057880156929415261:=()
def tw10325704212601809451:=()
def tw16344301077002646953:=()
def tw12774666688629743864:=()
def tw5291685790364091374:=()
def tw6513551709883834796:=()
def tw17883110094603185674:=()
def tw14530668969501236827:=()
def tw3511920391167823135:=()
def tw8409427150893224483:=()
def tw7014117206231793341:=()
def tw5949912010640624000:=()
def tw15638353881706150712:=()
def tw844067554764264546:=()
def tw3253940609676714280:=()
def tw14934085545602869770:=()
def tw303782407430138600:=()
def tw4938276190129745914:=()
def tw16221821708284337811:=()
def tw9477242440141928380:=()
def tw1465760187718544191:=()
def tw9783665084519934096:=()
def tw17808784953250700288:=()
def tw13916272295161250676:=()
def tw12228075653439888922:=()
def tw1320413097728435758:=()
def tw4389441740087512674:=()
def tw1971424576839286928:=()
def tw3587295873436849552:=()
def tw11350228987374831199:=()
def tw15004625063029179324:=()
def tw16252606848103215929:=()
def tw6925725249890814577:=()
def tw2241330216121206026:=()
def tw4262942474244047318:=()
def tw3713036460427287796:=()
def tw8764298422751100892:=()
def tw17959294485815417980:=()
def tw8081870628030184896:=()
def tw1446755156543317373:=()
def tw10890171078547442068:=()
def tw4807133358001089146:=()
def tw15668172028191387406:=()
def tw15655704626774770583:=()
def tw16188535696179498563:=()
def tw11109910159021781009:=()
def tw2435249784828543423:=()
def tw1948322330597929188:=()
def tw17306428672457557379:=()
def tw3590287558615966049:=()
def tw3527431014708844064:=()
def tw89651229356194996:=()
def tw13535647947308434797:=()
def tw3392277945337546111:=()
def tw8704924010277860857:=()
def tw16557012391546837632:=()
def tw17097950497355036723:=()
def tw5382022785996318840:=()
def tw9232257033452186793:=()
def tw7267199589167094516:=()
def tw10053073503189516878:=()
def tw5285450397153388490:=()
def tw14725293078116816074:=()
def tw17391760205892868587:=()
def tw1273463793852258348:=()
def tw4784010556559964347:=()
def tw18031589440597231919:=()
def tw5885059493139983900:=()
def tw7921907612295341477:=()
def tw9780939249058806336:=()
def tw9702541599816341395:=()
def tw6498196986772273365:=()
def tw8799276482760517613:=()
def tw10679070204559875190:=()
def tw1170824401982381163:=()
def tw17522613894761960346:=()
def tw15370750103237595063:=()
def tw861601731032816545:=()
def tw10923371162107964139:=()
def tw15704620871340102879:=()
def tw638051912539289030:=()
def tw15066710909041134716:=()
def tw6553525981547305492:=()
def tw14718592120076149250:=()
def tw4452623088947876306:=()
def tw9813983009059957532:=()
def tw11421569849900446349:=()
def tw10189054563517473689:=()
def tw4214518193849813942:=()
def tw8394952317901686172:=()
def tw2146456760039289470:=()
def tw8777599689725079089:=()
def tw283621609784644001:=()
def tw269869982551439872:=()
def tw12980601453042814572:=()
def tw15498756224383159239:=()
def tw13777515928868028726:=()
def tw12005700903006656376:=()
def tw14453792532290191936:=()
def tw16057497776216307196:=()
def tw10944444013567256897:=()
def tw15003661820906149268:=()
def tw5141302717734930321:=()
def tw8976781312696703698:=()
def tw1895659492264504046:=()
def tw11442948103251394305:=()
def tw4927606926699083242:=()
def tw808124889045047151:=()
def tw10505841501452110223:=()
def tw12360071751128850052:=()
def tw15979795535013260899:=()
def tw7528145961005525818:=()
def tw14903438630094401089:=()
def tw5438952148341433251:=()
def tw14913371856014141089:=()
def tw16937934011913221863:=()
def tw17822275461028702181:=()
def tw692772503636588540:=()
def tw14902080561613144820:=()
def tw1042899457872313814:=()
def tw1412332084621363495:=()
def tw10672449521694079692:=()
def tw15208663853258698598:=()
def tw14349278196798875117:=()
def tw8195807924592869828:=()
def tw442236604268392154:=()
def tw9852698355932798720:=()
def tw15109657902357308468:=()
def tw17499683579708897997:=()
def tw15707880375615593191:=()
def tw10157132014394060877:=()
def tw5762179853665981880:=()
def tw11415628390162488923:=()
def tw8659461651072854641:=()
def tw16064984189786344566:=()
def tw12800658066387201651:=()
def tw9024036105842971545:=()
def tw7229605287858716507:=()
def tw1851312757365669877:=()
def tw3294185827291639046:=()
def tw3775589908149645652:=()
def tw12027334304498096125:=()
def tw485291829879091790:=()
def tw12239932636847378718:=()
def tw4018304462409762491:=()
def tw11924126655975260479:=()
def tw12986920096374388306:=()
def tw12326653049417936927:=()
def tw5629037512474806251:=()
def tw13301250005591720711:=()
def tw14719361255400639332:=()
def tw8121687675675600821:=()
def tw5114153818269138942:=()
def tw2679265502824070040:=()
def tw14092372811429748812:=()
def tw2175585960462925733:=()
def tw6895835433008662717:=()
def tw8631070629357404804:=()
def tw15696173416035305791:=()
def tw9432830690159650158:=()
def tw4022964658757467207:=()
def tw12156095685143881577:=()
def tw10265827911206625358:=()
def tw10120409941163425999:=()
def tw11833441019681836162:=()
def tw3888892448567890228:=()
def tw2259231123258172094:=()
def tw8653168464968738009:=()
def tw13212061011689144105:=()
def tw16555178624860099781:=()
def tw7397250903459456087:=()
def tw17053301985402674682:=()
def tw16751833286998538618:=()
def tw7097725145812227077:=()
def tw5066446840489867818:=()
def tw2122604571400674569:=()
def tw12491659868492018720:=()
def tw14547183216472213589:=()
def tw37839804190364829:=()
def tw18061667275550366553:=()
def tw14332101520935717879:=()
def tw1580777435047042152:=()
def tw3971358147543537693:=()
def tw14533275847231511003:=()
def tw10762537515145982863:=()
def tw3774647836484905461:=()
def tw5036535282990573795:=()
def tw17275932157317303376:=()
def tw6757694962147156209:=()
def tw13587346030889698675:=()
def tw16480867241131385420:=()
def tw13369597741888130909:=()
def tw11399573691480614478:=()
def tw7973168840920655234:=()
def tw775783764075710444:=()
def tw16720244030532279634:=()
def tw16167105287474570218:=()
def tw4809799522588980637:=()
def tw7269427021950901807:=()
def tw17572211706366837229:=()
def tw7156397545122525286:=()
def tw17344839152481936778:=()
def tw5626859509339559138:=()
def tw10534534835350433671:=()
def tw3772767470295069287:=()
def tw5863143704177187381:=()
def tw16981849774451555514:=()
def tw915979636912915047:=()
def tw17057759020150989735:=()
def tw8606879043597754830:=()
def tw10197493741617139380:=()
end PySem.W.Fast
namespace K52
open PySem L2 Kk
set_option maxHeartbeats 0 in
theorem all_mk{l:PySem.W.OpenLaw}{q:Program}{w:World}{K:PySem.W.Frag}{h:Heap}{mg:Str→Option Value}{fa f1 f2 f3 f4 f5 f6 f7 f8 f9 f10 f11 f12 f13 f14 f15 f16 f17 f18 f19 f20 f21 f22 f23 f24 f25 f26:Addr}(X:K.In h)(G:h.Ns mainGlobals mg) (hfa:mg "law"=some (.ref fa))
  {od1 an1 od2 an2 od3 an3 od4 an4 od5 an5 od6 an6 od7 an7 od8 an8 od9 an9 od10 an10 od11 an11 od12 an12 od13 an13 od14 an14 od15 an15 od16 an16 od17 an17 od18 an18 od19 an19 od20 an20 od21 an21 od22 an22 od23 an23 od24 an24 od25 an25 od26 an26:Option Addr} {sl1 sl2 sl3 sl4 sl5 sl6 sl7 sl8 sl9 sl10 sl11 sl12 sl13 sl14 sl15 sl16 sl17 sl18 sl19 sl20 sl21 sl22 sl23 sl24 sl25 sl26:Array (Option Value)} {oc1 kV1 dc1 pm1 ct1 cd1 oc2 kV2 dc2 pm2 ct2 cd2 oc3 kV3 dc3 pm3 ct3 cd3 oc4 kV4 dc4 pm4 ct4 cd4 oc5 kV5 dc5 pm5 ct5 cd5 oc6 kV6 dc6 pm6 ct6 cd6 oc7 kV7 dc7 pm7 ct7 cd7 oc8 kV8 dc8 pm8 ct8 cd8 oc9 kV9 dc9 pm9 ct9 cd9 oc10 kV10 dc10 pm10 ct10 cd10 oc11 kV11 dc11 pm11 ct11 cd11 oc12 kV12 dc12 pm12 ct12 cd12 oc13 kV13 dc13 pm13 ct13 cd13 oc14 kV14 dc14 pm14 ct14 cd14 oc15 kV15 dc15 pm15 ct15 cd15 oc16 kV16 dc16 pm16 ct16 cd16 oc17 kV17 dc17 pm17 ct17 cd17 oc18 kV18 dc18 pm18 ct18 cd18 oc19 kV19 dc19 pm19 ct19 cd19 oc20 kV20 dc20 pm20 ct20 cd20 oc21 kV21 dc21 pm21 ct21 cd21 oc22 kV22 dc22 pm22 ct22 cd22 oc23 kV23 dc23 pm23 ct23 cd23 oc24 kV24 dc24 pm24 ct24 cd24 oc25 kV25 dc25 pm25 ct25 cd25 oc26 kV26 dc26 pm26 ct26:Value} {cc26 PT26:Addr}
  {pA fk TD CA CC CW CT:Addr} {nA nQ:Nat} {odk ank dT:Option Addr} {slk sT:Array (Option Value)} {ock kVk dck pmk cdk ctk oT:Value} {tk:Tok} {g1 g2 g3 g4 g5 g6 g7 g8 y1 y2 y3 y4 y5 y6 y7 y8:Tok}
  (a1:PySem.W.nsIn K mainGlobals "within"=some (some (.ref f1))) (l1:K.lookup f1=some ⟨oc1,od1,.func (PySem.W.fnOf "within" "within" (defArgs sWithin) (defBody sWithin) (defScope sWithin) .none kV1 dc1 pm1 an1 cd1 ct1),sl1⟩) (c1:PySem.W.codeIn K cd1 "within"=true) (k1:PySem.W.keepIn K (.ref f1)=true)
  (a2:PySem.W.nsIn K mainGlobals "words_in"=some (some (.ref f2))) (l2:K.lookup f2=some ⟨oc2,od2,.func (PySem.W.fnOf "words_in" "words_in" (defArgs sWords) (defBody sWords) (defScope sWords) .none kV2 dc2 pm2 an2 cd2 ct2),sl2⟩) (c2:PySem.W.codeIn K cd2 "words_in"=true) (k2:PySem.W.keepIn K (.ref f2)=true)
  (a3:PySem.W.nsIn K mainGlobals "bounded"=some (some (.ref f3))) (l3:K.lookup f3=some ⟨oc3,od3,.func (PySem.W.fnOf "bounded" "bounded" (defArgs sBounded) (defBody sBounded) (defScope sBounded) .none kV3 dc3 pm3 an3 cd3 ct3),sl3⟩) (c3:PySem.W.codeIn K cd3 "bounded"=true) (k3:PySem.W.keepIn K (.ref f3)=true)
  (a4:PySem.W.nsIn K mainGlobals "variable_kind"=some (some (.ref f4))) (l4:K.lookup f4=some ⟨oc4,od4,.func (PySem.W.fnOf "variable_kind" "variable_kind" (defArgs sVarK) (defBody sVarK) (defScope sVarK) .none kV4 dc4 pm4 an4 cd4 ct4),sl4⟩) (c4:PySem.W.codeIn K cd4 "variable_kind"=true) (k4:PySem.W.keepIn K (.ref f4)=true)
  (a5:PySem.W.nsIn K mainGlobals "answer_kind"=some (some (.ref f5))) (l5:K.lookup f5=some ⟨oc5,od5,.func (PySem.W.fnOf "answer_kind" "answer_kind" (defArgs sAnsK) (defBody sAnsK) (defScope sAnsK) .none kV5 dc5 pm5 an5 cd5 ct5),sl5⟩) (c5:PySem.W.codeIn K cd5 "answer_kind"=true) (k5:PySem.W.keepIn K (.ref f5)=true)
  (a6:PySem.W.nsIn K mainGlobals "kind_by_form"=some (some (.ref f6))) (l6:K.lookup f6=some ⟨oc6,od6,.func (PySem.W.fnOf "kind_by_form" "kind_by_form" (defArgs sKbf) (defBody sKbf) (defScope sKbf) .none kV6 dc6 pm6 an6 cd6 ct6),sl6⟩) (c6:PySem.W.codeIn K cd6 "kind_by_form"=true) (k6:PySem.W.keepIn K (.ref f6)=true)
  (a7:PySem.W.nsIn K mainGlobals "demand"=some (some (.ref f7))) (l7:K.lookup f7=some ⟨oc7,od7,.func (PySem.W.fnOf "demand" "demand" (defArgs sDem) (defBody sDem) (defScope sDem) .none kV7 dc7 pm7 an7 cd7 ct7),sl7⟩) (c7:PySem.W.codeIn K cd7 "demand"=true) (k7:PySem.W.keepIn K (.ref f7)=true)
  (a8:PySem.W.nsIn K mainGlobals "_law_cell"=some (some (.ref f8))) (l8:K.lookup f8=some ⟨oc8,od8,.func (PySem.W.fnOf "_law_cell" "_law_cell" (defArgs sCell) (defBody sCell) (defScope sCell) .none kV8 dc8 pm8 an8 cd8 ct8),sl8⟩) (c8:PySem.W.codeIn K cd8 "_law_cell"=true) (k8:PySem.W.keepIn K (.ref f8)=true)
  (a9:PySem.W.nsIn K mainGlobals "_law_feed"=some (some (.ref f9))) (l9:K.lookup f9=some ⟨oc9,od9,.func (PySem.W.fnOf "_law_feed" "_law_feed" (defArgs sFeed) (defBody sFeed) (defScope sFeed) .none kV9 dc9 pm9 an9 cd9 ct9),sl9⟩) (c9:PySem.W.codeIn K cd9 "_law_feed"=true) (k9:PySem.W.keepIn K (.ref f9)=true)
  (a10:PySem.W.nsIn K mainGlobals "_law_take"=some (some (.ref f10))) (l10:K.lookup f10=some ⟨oc10,od10,.func (PySem.W.fnOf "_law_take" "_law_take" (defArgs sTake) (defBody sTake) (defScope sTake) .none kV10 dc10 pm10 an10 cd10 ct10),sl10⟩) (c10:PySem.W.codeIn K cd10 "_law_take"=true) (k10:PySem.W.keepIn K (.ref f10)=true)
  (a11:PySem.W.nsIn K mainGlobals "_law_word"=some (some (.ref f11))) (l11:K.lookup f11=some ⟨oc11,od11,.func (PySem.W.fnOf "_law_word" "_law_word" (defArgs sWord) (defBody sWord) (defScope sWord) .none kV11 dc11 pm11 an11 cd11 ct11),sl11⟩) (c11:PySem.W.codeIn K cd11 "_law_word"=true) (k11:PySem.W.keepIn K (.ref f11)=true)
  (a12:PySem.W.nsIn K mainGlobals "_law_size"=some (some (.ref f12))) (l12:K.lookup f12=some ⟨oc12,od12,.func (PySem.W.fnOf "_law_size" "_law_size" (defArgs sSize) (defBody sSize) (defScope sSize) .none kV12 dc12 pm12 an12 cd12 ct12),sl12⟩) (c12:PySem.W.codeIn K cd12 "_law_size"=true) (k12:PySem.W.keepIn K (.ref f12)=true)
  (a13:PySem.W.nsIn K mainGlobals "_law_same"=some (some (.ref f13))) (l13:K.lookup f13=some ⟨oc13,od13,.func (PySem.W.fnOf "_law_same" "_law_same" (defArgs sSame) (defBody sSame) (defScope sSame) .none kV13 dc13 pm13 an13 cd13 ct13),sl13⟩) (c13:PySem.W.codeIn K cd13 "_law_same"=true) (k13:PySem.W.keepIn K (.ref f13)=true)
  (a14:PySem.W.nsIn K mainGlobals "_law_told"=some (some (.ref f14))) (l14:K.lookup f14=some ⟨oc14,od14,.func (PySem.W.fnOf "_law_told" "_law_told" (defArgs sTold) (defBody sTold) (defScope sTold) .none kV14 dc14 pm14 an14 cd14 ct14),sl14⟩) (c14:PySem.W.codeIn K cd14 "_law_told"=true) (k14:PySem.W.keepIn K (.ref f14)=true)
  (a15:PySem.W.nsIn K mainGlobals "_law_desk"=some (some (.ref f15))) (l15:K.lookup f15=some ⟨oc15,od15,.func (PySem.W.fnOf "_law_desk" "_law_desk" (defArgs sDesk) (defBody sDesk) (defScope sDesk) .none kV15 dc15 pm15 an15 cd15 ct15),sl15⟩) (c15:PySem.W.codeIn K cd15 "_law_desk"=true) (k15:PySem.W.keepIn K (.ref f15)=true)
  (a16:PySem.W.nsIn K mainGlobals "_law_leaf"=some (some (.ref f16))) (l16:K.lookup f16=some ⟨oc16,od16,.func (PySem.W.fnOf "_law_leaf" "_law_leaf" (defArgs sLeaf) (defBody sLeaf) (defScope sLeaf) .none kV16 dc16 pm16 an16 cd16 ct16),sl16⟩) (c16:PySem.W.codeIn K cd16 "_law_leaf"=true) (k16:PySem.W.keepIn K (.ref f16)=true)
  (a17:PySem.W.nsIn K mainGlobals "_law_any"=some (some (.ref f17))) (l17:K.lookup f17=some ⟨oc17,od17,.func (PySem.W.fnOf "_law_any" "_law_any" (defArgs sAny) (defBody sAny) (defScope sAny) .none kV17 dc17 pm17 an17 cd17 ct17),sl17⟩) (c17:PySem.W.codeIn K cd17 "_law_any"=true) (k17:PySem.W.keepIn K (.ref f17)=true)
  (a18:PySem.W.nsIn K mainGlobals "_law_call"=some (some (.ref f18))) (l18:K.lookup f18=some ⟨oc18,od18,.func (PySem.W.fnOf "_law_call" "_law_call" (defArgs sCallL) (defBody sCallL) (defScope sCallL) .none kV18 dc18 pm18 an18 cd18 ct18),sl18⟩) (c18:PySem.W.codeIn K cd18 "_law_call"=true) (k18:PySem.W.keepIn K (.ref f18)=true)
  (a19:PySem.W.nsIn K mainGlobals "_law_reckoned"=some (some (.ref f19))) (l19:K.lookup f19=some ⟨oc19,od19,.func (PySem.W.fnOf "_law_reckoned" "_law_reckoned" (defArgs sReck) (defBody sReck) (defScope sReck) .none kV19 dc19 pm19 an19 cd19 ct19),sl19⟩) (c19:PySem.W.codeIn K cd19 "_law_reckoned"=true) (k19:PySem.W.keepIn K (.ref f19)=true)
  (a20:PySem.W.nsIn K mainGlobals "_law_let"=some (some (.ref f20))) (l20:K.lookup f20=some ⟨oc20,od20,.func (PySem.W.fnOf "_law_let" "_law_let" (defArgs sLet) (defBody sLet) (defScope sLet) .none kV20 dc20 pm20 an20 cd20 ct20),sl20⟩) (c20:PySem.W.codeIn K cd20 "_law_let"=true) (k20:PySem.W.keepIn K (.ref f20)=true)
  (a21:PySem.W.nsIn K mainGlobals "_law_of"=some (some (.ref f21))) (l21:K.lookup f21=some ⟨oc21,od21,.func (PySem.W.fnOf "_law_of" "_law_of" (defArgs sOf) (defBody sOf) (defScope sOf) .none kV21 dc21 pm21 an21 cd21 ct21),sl21⟩) (c21:PySem.W.codeIn K cd21 "_law_of"=true) (k21:PySem.W.keepIn K (.ref f21)=true)
  (a22:PySem.W.nsIn K mainGlobals "_law_passed"=some (some (.ref f22))) (l22:K.lookup f22=some ⟨oc22,od22,.func (PySem.W.fnOf "_law_passed" "_law_passed" (defArgs sPass) (defBody sPass) (defScope sPass) .none kV22 dc22 pm22 an22 cd22 ct22),sl22⟩) (c22:PySem.W.codeIn K cd22 "_law_passed"=true) (k22:PySem.W.keepIn K (.ref f22)=true)
  (a23:PySem.W.nsIn K mainGlobals "_law_round"=some (some (.ref f23))) (l23:K.lookup f23=some ⟨oc23,od23,.func (PySem.W.fnOf "_law_round" "_law_round" (defArgs sRound) (defBody sRound) (defScope sRound) .none kV23 dc23 pm23 an23 cd23 ct23),sl23⟩) (c23:PySem.W.codeIn K cd23 "_law_round"=true) (k23:PySem.W.keepIn K (.ref f23)=true)
  (a24:PySem.W.nsIn K mainGlobals "_law_other_argument"=some (some (.ref f24))) (l24:K.lookup f24=some ⟨oc24,od24,.func (PySem.W.fnOf "_law_other_argument" "_law_other_argument" (defArgs sOther) (defBody sOther) (defScope sOther) .none kV24 dc24 pm24 an24 cd24 ct24),sl24⟩) (c24:PySem.W.codeIn K cd24 "_law_other_argument"=true) (k24:PySem.W.keepIn K (.ref f24)=true)
  (a25:PySem.W.nsIn K mainGlobals "_law_spoilt"=some (some (.ref f25))) (l25:K.lookup f25=some ⟨oc25,od25,.func (PySem.W.fnOf "_law_spoilt" "_law_spoilt" (defArgs sSpoilt) (defBody sSpoilt) (defScope sSpoilt) .none kV25 dc25 pm25 an25 cd25 ct25),sl25⟩) (c25:PySem.W.codeIn K cd25 "_law_spoilt"=true) (k25:PySem.W.keepIn K (.ref f25)=true)
  (a26:PySem.W.nsIn K mainGlobals "law"=some (some (.ref f26))) (l26:K.lookup f26=some ⟨oc26,od26,.func (PySem.W.fnOf "law" "law" (defArgs sLaw) (defBody sLaw) (defScope sLaw) .none kV26 dc26 pm26 an26 (.ref cc26) ct26),sl26⟩) (c26:PySem.W.codeIn K (.ref cc26) "law"=true) (k26:PySem.W.keepIn K (.ref f26)=true)
  (t26:PySem.W.tabIn K "law"=some (cc26,PT26)) (h26:PySem.W.codeHdIn K cc26 PT26=true) (r26:∃d,(PyProof.Rows.recsOf q).find? (fun e=>e.name==("law":Str))=some d)
  (nT:PySem.W.noTabs K=true) (nD:([PT26]:List Addr).Nodup)
  (eH:PySem.W.nsIn K mainGlobals "AHEAD"=some (some (.ref pA)))
  (lH:K.lookup pA=some ⟨.type "dict",none,.dict #[⟨hashStr w "op",.str "op" g1,.int 3 y1⟩,⟨hashStr w "test",.str "test" g2,.int 2 y2⟩,⟨hashStr w "as",.str "as" g3,.int 2 y3⟩,⟨hashStr w "let",.str "let" g4,.int 2 y4⟩,⟨hashStr w "if",.str "if" g5,.int 1 y5⟩,⟨hashStr w "two",.str "two" g6,.int 1 y6⟩,⟨hashStr w "first",.str "first" g7,.int 1 y7⟩,⟨hashStr w "second",.str "second" g8,.int 1 y8⟩] nA,#[]⟩)
  (qH:(pA==sysModules)=false)
  (af:PySem.W.nsIn K mainGlobals "kind_in"=some (some (.ref fk)))
  (lf:K.lookup fk=some ⟨ock,odk,.func (PySem.W.fnOf "kind_in" "kind_in" (defArgs sKin) (defBody sKin) (defScope sKin) (.ref TD) kVk dck pmk ank cdk ctk),slk⟩)
  (cf:PySem.W.codeIn K cdk "kind_in"=true)
  (kf:PySem.W.keepIn K (.ref fk)=true)
  (lT:K.lookup TD=some ⟨oT,dT,.seq #[.int 40 tk] nQ,sT⟩)
  (aA:PySem.W.nsIn K mainGlobals "NoName"=some (some (.ref CA)))
  (aC:PySem.W.nsIn K mainGlobals "NoCount"=some (some (.ref CC)))
  (aW:PySem.W.nsIn K mainGlobals "WrongKind"=some (some (.ref CW)))
  (aT:PySem.W.nsIn K mainGlobals "TooBig"=some (some (.ref CT)))
  (xA:PySem.W.excIn K CA bmVE "ValueError.__new__"=true)
  (xC:PySem.W.excIn K CC bmVE "ValueError.__new__"=true)
  (xW:PySem.W.excIn K CW bmVE "ValueError.__new__"=true)
  (xT:PySem.W.excIn K CT bmVE "ValueError.__new__"=true)
  (u00:PySem.W.exmOne K (.ref CA) (.ref CA)=some true)
  (u10:PySem.W.exmOne K (.ref CC) (.ref CA)=some false)
  (u11:PySem.W.exmOne K (.ref CC) (.ref CC)=some true)
  (u20:PySem.W.exmOne K (.ref CW) (.ref CA)=some false)
  (u21:PySem.W.exmOne K (.ref CW) (.ref CC)=some false)
  (u22:PySem.W.exmOne K (.ref CW) (.ref CW)=some true)
  (z1:PySem.W.nsIn K mainGlobals "len"=some none)
  (z2:PySem.W.nsIn K mainGlobals "range"=some none)
  (z3:PySem.W.nsIn K mainGlobals "isinstance"=some none)
  (z4:PySem.W.nsIn K mainGlobals "tuple"=some none)
  (z5:PySem.W.nsIn K mainGlobals "str"=some none)
  (z6:PySem.W.nsIn K mainGlobals "int"=some none)
  (z7:PySem.W.nsIn K mainGlobals "bool"=some none)
  (z8:PySem.W.nsIn K mainGlobals "dict"=some none)
  (z9:PySem.W.nsIn K mainGlobals "zip"=some none)
  (z10:PySem.W.nsIn K mainGlobals "list"=some none) :
  ∃(fd:FuncData) (tabs:List (Addr × Array Value)) (sp:Sp),(∀(s:Shared) (v:Value),BindsTo s fd ⟨[v],[]⟩ [("_law_script",v)])∧TabsOf q K tabs∧(tabs.map (·.1)).Nodup∧PySem.W.noTabs K=true∧(∀base:Heap,K.In base→base.Ns mainGlobals mg→FnOk l.prog w K mg base CX0 63 fa fd ["_law_script"] sp) ∧
   ∀(H:Hp) (a:Addr) (ns:List Int),ns.length≤63→(∀t∈tabs,H t.1=some (.tbl t.2))→SqL K H a (ns.map V.int)→sp [.ref a] H (fun v _=>v=.bl true) fun _ _ _=>False:=by
 have e:=hfa.symm.trans (PySem.W.mg_of X G a26)
 cases e
 have F1:=fun_mk (st:=sWithin) l1 c1 k1
 have F2:=fun_mk (st:=sWords) l2 c2 k2
 have F3:=fun_mk (st:=sBounded) l3 c3 k3
 have F4:=fun_mk (st:=sVarK) l4 c4 k4
 have F5:=fun_mk (st:=sAnsK) l5 c5 k5
 have F6:=fun_mk (st:=sKbf) l6 c6 k6
 have F7:=fun_mk (st:=sDem) l7 c7 k7
 have F8:=fun_mk (st:=sCell) l8 c8 k8
 have F9:=fun_mk (st:=sFeed) l9 c9 k9
 have F10:=fun_mk (st:=sTake) l10 c10 k10
 have F11:=fun_mk (st:=sWord) l11 c11 k11
 have F12:=fun_mk (st:=sSize) l12 c12 k12
 have F13:=fun_mk (st:=sSame) l13 c13 k13
 have F14:=fun_mk (st:=sTold) l14 c14 k14
 have F15:=fun_mk (st:=sDesk) l15 c15 k15
 have F16:=fun_mk (st:=sLeaf) l16 c16 k16
 have F17:=fun_mk (st:=sAny) l17 c17 k17
 have F18:=fun_mk (st:=sCallL) l18 c18 k18
 have F19:=fun_mk (st:=sReck) l19 c19 k19
 have F20:=fun_mk (st:=sLet) l20 c20 k20
 have F21:=fun_mk (st:=sOf) l21 c21 k21
 have F22:=fun_mk (st:=sPass) l22 c22 k22
 have F23:=fun_mk (st:=sRound) l23 c23 k23
 have F24:=fun_mk (st:=sOther) l24 c24 k24
 have F25:=fun_mk (st:=sSpoilt) l25 c25 k25
 have F26:=funt_mk (st:=sLaw) l26 c26 k26 h26
 have b1:=F1.binds (ps:=["expression"]) fun _ _ _ _ _ _ us hl=>match us,hl with|[_],_=>rfl
 have b2:=F2.binds (ps:=["kind"]) fun _ _ _ _ _ _ us hl=>match us,hl with|[_],_=>rfl
 have b3:=F3.binds (ps:=["kind","most"]) fun _ _ _ _ _ _ us hl=>match us,hl with|[_,_],_=>rfl
 have b4:=F4.binds (ps:=["word","variables"]) fun _ _ _ _ _ _ us hl=>match us,hl with|[_,_],_=>rfl
 have b5:=F5.binds (ps:=["word","told","kinds"]) fun _ _ _ _ _ _ us hl=>match us,hl with|[_,_,_],_=>rfl
 have b6:=F6.binds (ps:=["expression","kinds"]) fun _ _ _ _ _ _ us hl=>match us,hl with|[_,_],_=>rfl
 have b7:=F7.binds (ps:=["does","what"]) fun _ _ _ _ _ _ us hl=>match us,hl with|[_,_],_=>rfl
 have b8:=F8.binds (ps:=["_law_script","_law_k"]) fun _ _ _ _ _ _ us hl=>match us,hl with|[_,_],_=>rfl
 have b9:=F9.binds (ps:=["_law_script"]) fun _ _ _ _ _ _ us hl=>match us,hl with|[_],_=>rfl
 have b10:=F10.binds (ps:=["_law_feed_here","_law_many"]) fun _ _ _ _ _ _ us hl=>match us,hl with|[_,_],_=>rfl
 have b11:=F11.binds (ps:=["_law_cell_here","_law_mark"]) fun _ _ _ _ _ _ us hl=>match us,hl with|[_,_],_=>rfl
 have b12:=F12.binds (ps:=["_law_feed_here"]) fun _ _ _ _ _ _ us hl=>match us,hl with|[_],_=>rfl
 have b13:=F13.binds (ps:=["_law_found","_law_due"]) fun _ _ _ _ _ _ us hl=>match us,hl with|[_,_],_=>rfl
 have b14:=F14.binds (ps:=["_law_table","_law_q","_law_f"]) fun _ _ _ _ _ _ us hl=>match us,hl with|[_,_,_],_=>rfl
 have b15:=F15.binds (ps:=["_law_script","_law_feed_here"]) fun _ _ _ _ _ _ us hl=>match us,hl with|[_,_],_=>rfl
 have b16:=F16.binds (ps:=["_law_kind","_law_scope","_law_desk_here"]) fun _ _ _ _ _ _ us hl=>match us,hl with|[_,_,_],_=>rfl
 have b17:=F17.binds (ps:=["_law_desk_here"]) fun _ _ _ _ _ _ us hl=>match us,hl with|[_],_=>rfl
 have b18:=F18.binds (ps:=["_law_kind","_law_scope","_law_desk_here","_law_deep"]) fun _ _ _ _ _ _ us hl=>match us,hl with|[_,_,_,_],_=>rfl
 have b19:=F19.binds (ps:=["_law_kind","_law_scope","_law_desk_here","_law_deep"]) fun _ _ _ _ _ _ us hl=>match us,hl with|[_,_,_,_],_=>rfl
 have b20:=F20.binds (ps:=["_law_kind","_law_scope","_law_desk_here","_law_deep"]) fun _ _ _ _ _ _ us hl=>match us,hl with|[_,_,_,_],_=>rfl
 have b21:=F21.binds (ps:=["_law_kind","_law_scope","_law_desk_here","_law_deep"]) fun _ _ _ _ _ _ us hl=>match us,hl with|[_,_,_,_],_=>rfl
 have b22:=F22.binds (ps:=["_law_core","_law_scope","_law_desk_here"]) fun _ _ _ _ _ _ us hl=>match us,hl with|[_,_,_],_=>rfl
 have b23:=F23.binds (ps:=["_law_core","_law_kind","_law_scope","_law_desk_here"]) fun _ _ _ _ _ _ us hl=>match us,hl with|[_,_,_,_],_=>rfl
 have b24:=F24.binds (ps:=["_law_scope","_law_desk_here"]) fun _ _ _ _ _ _ us hl=>match us,hl with|[_,_],_=>rfl
 have b25:=F25.binds (ps:=["_law_kind","_law_scope","_law_desk_here","_law_fault"]) fun _ _ _ _ _ _ us hl=>match us,hl with|[_,_,_,_],_=>rfl
 refine⟨PySem.W.fnOf "law" "law" (defArgs sLaw) (defBody sLaw) (defScope sLaw) .none kV26 dc26 pm26 an26 (.ref cc26) ct26,[(PT26,tabL)],spLaw K PT26,fun s v=>.of_eq rfl,List.forall_mem_cons.mpr ⟨⟨"law",cc26,r26.choose,t26,r26.choose_spec⟩,fun t ht=>nomatch ht⟩,nD,nT,fun base hB _=>?_,fun H a ns hn hT hS=>⟨a,ns,rfl,hS,hn,hT _ (.head _),fun _=>rfl⟩⟩
 have hA:DKt K w pA ahs:=dkt_of lH qH (.cons rfl (.cons rfl (.cons rfl (.cons rfl (.cons rfl (.cons rfl (.cons rfl (.cons rfl .nil)))))))) (by decide +kernel)
 have FK:FunD K "kind_in" "kind_in" sKin (.ref TD) fk (PySem.W.fnOf "kind_in" "kind_in" (defArgs sKin) (defBody sKin) (defScope sKin) (.ref TD) kVk dck pmk ank cdk ctk):=⟨⟨ock,odk,kVk,dck,pmk,ank,cdk,ctk,slk,rfl,lf,cf⟩,kf⟩
 have GWt:=ok_within (P:=l.prog) (w:=w) (base:=base) (mg:=mg) F1 (PySem.W.mg_of X G eH) hA
 have GWi:=ok_words (P:=l.prog) (w:=w) (base:=base) (mg:=mg) F2 (PySem.W.mg_none_of X G z1)
 have GB:=ok_bounded (P:=l.prog) (w:=w) (base:=base) (mg:=mg) F3 GWi b2 k2 (PySem.W.mg_of X G a2) (PySem.W.mg_of X G aT) xT
 have GD:=ok_dem (P:=l.prog) (w:=w) (base:=base) (mg:=mg) F7 (PySem.W.mg_of X G aW) xW
 have GVK:=ok_varK (P:=l.prog) (w:=w) (base:=base) (mg:=mg) (cl:=clOf CA CC CW CT) F4 (PySem.W.mg_of X G aA) xA
 have GAK:=ok_ansK (P:=l.prog) (w:=w) (base:=base) (mg:=mg) (cl:=clOf CA CC CW CT) F5 (PySem.W.mg_of X G aC) xC (PySem.W.mg_none_of X G z1) (PySem.W.mg_none_of X G z9) GD b7 k7 (PySem.W.mg_of X G a7)
 have GKF:=ok_kbf (P:=l.prog) (w:=w) (base:=base) (mg:=mg) (cl:=clOf CA CC CW CT) F6 GD b7 k7 (PySem.W.mg_of X G a7)
 have GK:=ok_kin (P:=l.prog) (w:=w) (base:=base) (mg:=mg) (cl:=clOf CA CC CW CT) (k:=2) FK (bindK4 FK lT) (PySem.W.mg_of X G af) (PySem.W.mg_none_of X G z8) GVK b4 k4 (PySem.W.mg_of X G a4) GWt b1 k1 (PySem.W.mg_of X G a1) GAK b5 k5 (PySem.W.mg_of X G a5) GB b3 k3 (PySem.W.mg_of X G a3) GKF b6 k6 (PySem.W.mg_of X G a6) 24
 have GC:=ok_cell (P:=l.prog) (w:=w) (base:=base) (mg:=mg) F8 (PySem.W.mg_none_of X G z1)
 have GF:=ok_feed (P:=l.prog) (w:=w) (base:=base) (mg:=mg) F9 (PySem.W.mg_none_of X G z1) (PySem.W.mg_none_of X G z2) (PySem.W.mg_none_of X G z10) GC b8 k8 (PySem.W.mg_of X G a8)
 have GT:=ok_take (P:=l.prog) (w:=w) (base:=base) (mg:=mg) F10 (PySem.W.mg_none_of X G z1)
 have GWd:=ok_word (P:=l.prog) (w:=w) (base:=base) (mg:=mg) F11
 have GZ:=ok_size (P:=l.prog) (w:=w) (base:=base) (mg:=mg) F12 GT b10 k10 (PySem.W.mg_of X G a10)
 have GA:=ok_same (P:=l.prog) (w:=w) (base:=base) (mg:=mg) F13 b13 k13 (PySem.W.mg_of X G a13) (PySem.W.mg_none_of X G z3) (PySem.W.mg_none_of X G z5) (PySem.W.mg_none_of X G z4) (PySem.W.mg_none_of X G z6) (PySem.W.mg_none_of X G z7) (PySem.W.mg_none_of X G z1) (PySem.W.mg_none_of X G z2) 62
 have GTo:=ok_told (P:=l.prog) (w:=w) (base:=base) (mg:=mg) (C:=clOf CA CC CW CT 0) F14 (PySem.W.mg_of X G aA) xA
 have GDk:=ok_desk (P:=l.prog) (w:=w) (base:=base) (mg:=mg) F15 (PySem.W.mg_none_of X G z2) (PySem.W.mg_none_of X G z4) GC b8 k8 (PySem.W.mg_of X G a8) GWd b11 k11 (PySem.W.mg_of X G a11) GT b10 k10 (PySem.W.mg_of X G a10) GZ b12 k12 (PySem.W.mg_of X G a12)
 have GL:=ok_leaf (P:=l.prog) (w:=w) (base:=base) (mg:=mg) F16 (PySem.W.mg_none_of X G z1) GT b10 k10 (PySem.W.mg_of X G a10)
 have GY:=ok_any (P:=l.prog) (w:=w) (base:=base) (mg:=mg) F17 GT b10 k10 (PySem.W.mg_of X G a10)
 have GO:=of_all (P:=l.prog) (w:=w) (base:=base) (mg:=mg) F21 b21 k21 (PySem.W.mg_of X G a21) F18 F19 F20 (PySem.W.mg_none_of X G z4) (PySem.W.mg_none_of X G z8) GT b10 k10 (PySem.W.mg_of X G a10) GL b16 k16 (PySem.W.mg_of X G a16) b18 k18 (PySem.W.mg_of X G a18) b19 k19 (PySem.W.mg_of X G a19) b20 k20 (PySem.W.mg_of X G a20) GY b17 k17 (PySem.W.mg_of X G a17)
 have GP:=ok_pass (P:=l.prog) (w:=w) (base:=base) (mg:=mg) F22 GT b10 k10 (PySem.W.mg_of X G a10) GL b16 k16 (PySem.W.mg_of X G a16) GY b17 k17 (PySem.W.mg_of X G a17)
 have GN:=ok_round (P:=l.prog) (w:=w) (base:=base) (mg:=mg) F23 GT b10 k10 (PySem.W.mg_of X G a10) GL b16 k16 (PySem.W.mg_of X G a16) GY b17 k17 (PySem.W.mg_of X G a17)
 have GH:=ok_other (P:=l.prog) (w:=w) (base:=base) (mg:=mg) (l:=7) F24 (PySem.W.mg_none_of X G z1) (PySem.W.mg_none_of X G z2) (PySem.W.mg_none_of X G z4) (by decide) GT b10 k10 (PySem.W.mg_of X G a10) GL b16 k16 (PySem.W.mg_of X G a16) (GO 2) b21 k21 (PySem.W.mg_of X G a21)
 have GS:=ok_spoilt (P:=l.prog) (w:=w) (base:=base) (mg:=mg) (l:=7) F25 (PySem.W.mg_none_of X G z1) (PySem.W.mg_none_of X G z6) (by decide) GT b10 k10 (PySem.W.mg_of X G a10) GL b16 k16 (PySem.W.mg_of X G a16) (GO 2) b21 k21 (PySem.W.mg_of X G a21) GY b17 k17 (PySem.W.mg_of X G a17) GH b24 k24 (PySem.W.mg_of X G a24)
 exact ok_law (cl:=clOf CA CC CW CT) F26 hB (PySem.W.mg_none_of X G z2) (PySem.W.mg_none_of X G z8) GA b13 k13 (PySem.W.mg_of X G a13) FK lT GK kf (PySem.W.mg_of X G af) GTo b14 k14 (PySem.W.mg_of X G a14) (PySem.W.mg_of X G aA) (PySem.W.mg_of X G aC) (PySem.W.mg_of X G aW) (xm_of u00 u10 u11 u20 u21 u22) GF b9 k9 (PySem.W.mg_of X G a9) GT b10 k10 (PySem.W.mg_of X G a10) GDk b15 k15 (PySem.W.mg_of X G a15) GY b17 k17 (PySem.W.mg_of X G a17) (GO 4) b21 k21 (PySem.W.mg_of X G a21) GP b22 k22 (PySem.W.mg_of X G a22) GN b23 k23 (PySem.W.mg_of X G a23) GS b25 k25 (PySem.W.mg_of X G a25)
end K52
open PySem PySem.W PyProof.Rows
set_option maxRecDepth 100000 in
set_option maxHeartbeats 0 in
theorem PySem.Challenge.cw_sealhouse_k52_whole_expressions_by_kind_holds : PySem.Challenge.rw_sealhouse_k52_whole_expressions_by_kind.Holds := by
 w_on;o_law;k_head;(case hw=>w_witness2)
 k_fill
 refine L2.walk_ofT (l:=PySem.Challenge.rw_sealhouse_k52_whole_expressions_by_kind) (n:=63) (k:=63) (x:="_law_script") (CX:=fun _=>L2.CX0) rfl (by decide) rfl ⟨rfl,by decide,by decide,rfl⟩ (by intro w h Y;first|exact PySem.W.km_in_of Y|exact PySem.W.kIn_of Y) ?F (fun _ _ _ _ _ z=>z)
 case F =>
  intro w mg fa h KX G hmg
  refine' K52.all_mk KX G hmg ?a1 ?l1 ?c1 ?k1 ?a2 ?l2 ?c2 ?k2 ?a3 ?l3 ?c3 ?k3 ?a4 ?l4 ?c4 ?k4 ?a5 ?l5 ?c5 ?k5 ?a6 ?l6 ?c6 ?k6 ?a7 ?l7 ?c7 ?k7 ?a8 ?l8 ?c8 ?k8 ?a9 ?l9 ?c9 ?k9 ?a10 ?l10 ?c10 ?k10 ?a11 ?l11 ?c11 ?k11 ?a12 ?l12 ?c12 ?k12 ?a13 ?l13 ?c13 ?k13 ?a14 ?l14 ?c14 ?k14 ?a15 ?l15 ?c15 ?k15 ?a16 ?l16 ?c16 ?k16 ?a17 ?l17 ?c17 ?k17 ?a18 ?l18 ?c18 ?k18 ?a19 ?l19 ?c19 ?k19 ?a20 ?l20 ?c20 ?k20 ?a21 ?l21 ?c21 ?k21 ?a22 ?l22 ?c22 ?k22 ?a23 ?l23 ?c23 ?k23 ?a24 ?l24 ?c24 ?k24 ?a25 ?l25 ?c25 ?k25 ?a26 ?l26 ?c26 ?k26 ?t26 ?h26 ?r26 ?nT ?nD ?eH ?lH ?qH ?af ?lf ?cf ?kf ?lT ?aA ?aC ?aW ?aT ?xA ?xC ?xW ?xT ?u00 ?u10 ?u11 ?u20 ?u21 ?u22 ?z1 ?z2 ?z3 ?z4 ?z5 ?z6 ?z7 ?z8 ?z9 ?z10
  (case a1=>k_is)
  (case l1=>k_is)
  (case c1=>k_is)
  (case k1=>k_is)
  (case a2=>k_is)
  (case l2=>k_is)
  (case c2=>k_is)
  (case k2=>k_is)
  (case a3=>k_is)
  (case l3=>k_is)
  (case c3=>k_is)
  (case k3=>k_is)
  (case a4=>k_is)
  (case l4=>k_is)
  (case c4=>k_is)
  (case k4=>k_is)
  (case a5=>k_is)
  (case l5=>k_is)
  (case c5=>k_is)
  (case k5=>k_is)
  (case a6=>k_is)
  (case l6=>k_is)
  (case c6=>k_is)
  (case k6=>k_is)
  (case a7=>k_is)
  (case l7=>k_is)
  (case c7=>k_is)
  (case k7=>k_is)
  (case a8=>k_is)
  (case l8=>k_is)
  (case c8=>k_is)
  (case k8=>k_is)
  (case a9=>k_is)
  (case l9=>k_is)
  (case c9=>k_is)
  (case k9=>k_is)
  (case a10=>k_is)
  (case l10=>k_is)
  (case c10=>k_is)
  (case k10=>k_is)
  (case a11=>k_is)
  (case l11=>k_is)
  (case c11=>k_is)
  (case k11=>k_is)
  (case a12=>k_is)
  (case l12=>k_is)
  (case c12=>k_is)
  (case k12=>k_is)
  (case a13=>k_is)
  (case l13=>k_is)
  (case c13=>k_is)
  (case k13=>k_is)
  (case a14=>k_is)
  (case l14=>k_is)
  (case c14=>k_is)
  (case k14=>k_is)
  (case a15=>k_is)
  (case l15=>k_is)
  (case c15=>k_is)
  (case k15=>k_is)
  (case a16=>k_is)
  (case l16=>k_is)
  (case c16=>k_is)
  (case k16=>k_is)
  (case a17=>k_is)
  (case l17=>k_is)
  (case c17=>k_is)
  (case k17=>k_is)
  (case a18=>k_is)
  (case l18=>k_is)
  (case c18=>k_is)
  (case k18=>k_is)
  (case a19=>k_is)
  (case l19=>k_is)
  (case c19=>k_is)
  (case k19=>k_is)
  (case a20=>k_is)
  (case l20=>k_is)
  (case c20=>k_is)
  (case k20=>k_is)
  (case a21=>k_is)
  (case l21=>k_is)
  (case c21=>k_is)
  (case k21=>k_is)
  (case a22=>k_is)
  (case l22=>k_is)
  (case c22=>k_is)
  (case k22=>k_is)
  (case a23=>k_is)
  (case l23=>k_is)
  (case c23=>k_is)
  (case k23=>k_is)
  (case a24=>k_is)
  (case l24=>k_is)
  (case c24=>k_is)
  (case k24=>k_is)
  (case a25=>k_is)
  (case l25=>k_is)
  (case c25=>k_is)
  (case k25=>k_is)
  (case a26=>k_is)
  (case l26=>k_is)
  (case c26=>k_is)
  (case k26=>k_is)
  (case t26=>first|k_is|exact rfl)
  (case h26=>first|kernel_rfl|exact rfl)
  (case r26=>exact⟨_,rfl⟩)
  (case nT=>first|kernel_rfl|exact rfl)
  (case nD=>decide)
  (case eH=>k_is)
  (case lH=>with_unfolding_all exact rfl)
  (case qH=>decide)
  (case af=>k_is)
  (case lf=>k_is)
  (case cf=>k_is)
  (case kf=>k_is)
  (case lT=>k_is)
  (case aA=>k_is)
  (case aC=>k_is)
  (case aW=>k_is)
  (case aT=>k_is)
  (case xA=>with_unfolding_all exact rfl)
  (case xC=>with_unfolding_all exact rfl)
  (case xW=>with_unfolding_all exact rfl)
  (case xT=>with_unfolding_all exact rfl)
  (case u00=>exact rfl)
  (case u10=>exact rfl)
  (case u11=>exact rfl)
  (case u20=>exact rfl)
  (case u21=>exact rfl)
  (case u22=>exact rfl)
  (case z1=>k_is)
  (case z2=>k_is)
  (case z3=>k_is)
  (case z4=>k_is)
  (case z5=>k_is)
  (case z6=>k_is)
  (case z7=>k_is)
  (case z8=>k_is)
  (case z9=>k_is)
  (case z10=>k_is)
#print axioms PySem.Challenge.cw_sealhouse_k52_whole_expressions_by_kind_holds
