import PyProof.Rows.All
import Wide.All
import OpenK.AllK
import Wide.FinOn
import Lean
import PyProof.EqAt
import PyProof.EqKinds
import PyProof.TupleCall
import PySem.Challenge.RW_sealhouse_k27_whole_least_forms
set_option Elab.async false
set_option linter.all false
set_option maxRecDepth 100000
namespace L2
open PySem PySem.Spec PyProof.Rows
abbrev Key:=Sum Int Str
def keyIs:Key→Value→Bool
 |.inl k,v=>Value.isInt k v
 |.inr x,v=>Value.isStrOf x v
def keyH(w:World):Key→Int
 |.inl k=>hashInt k
 |.inr x=>hashStr w x
theorem keyIs_shape:∀{k:Key} {v:Value},keyIs k v=true→(∃i t,k=Sum.inl i∧v=Value.int i t)∨(∃x t,k=Sum.inr x∧v=Value.str x t)
 |.inl i,v,h=>by
  obtain⟨t,e⟩:=Value.isInt_shape (k:=i) (v:=v) h
  exact .inl ⟨i,t,rfl,e⟩
 |.inr x,v,h=>by
  obtain⟨t,e⟩:=Value.isStrOf_shape (x:=x) (v:=v) h
  exact .inr ⟨x,t,rfl,e⟩
theorem keyIs_int(i:Int)(t:Tok):keyIs (.inl i) (.int i t)=true:=by simp [keyIs,Value.isInt]
theorem keyIs_str(x:Str)(t:Tok):keyIs (.inr x) (.str x t)=true:=by simp [keyIs,Value.isStrOf]
theorem key_ll(a b:Int):decide ((Sum.inl a:Key)=Sum.inl b)=(a==b):=by
 by_cases e:a=b
 ·subst e;simp
 ·have h:¬(Sum.inl a:Key)=Sum.inl b:=fun q=>e (Sum.inl.inj q)
  rw [decide_eq_false h]
  exact(beq_eq_false_iff_ne.mpr e).symm
theorem key_rr(a b:Str):decide ((Sum.inr a:Key)=Sum.inr b)=decide (a=b):=by
 by_cases e:a=b
 ·subst e;simp
 ·have h:¬(Sum.inr a:Key)=Sum.inr b:=fun q=>e (Sum.inr.inj q)
  rw [decide_eq_false h,decide_eq_false e]
theorem key_lr(a:Int)(b:Str):decide ((Sum.inl a:Key)=Sum.inr b)=false:=decide_eq_false (fun q=>nomatch q)
theorem key_rl(a:Str)(b:Int):decide ((Sum.inr a:Key)=Sum.inl b)=false:=decide_eq_false (fun q=>nomatch q)
def mixKind(prog:Program)(w:World):PySem.KeyKind prog w Key where
 is:=keyIs
 hash:=keyH w
 inj:=fun v a b ha hb=>by
  rcases keyIs_shape ha with ⟨i,t,rfl,rfl⟩|⟨x,t,rfl,rfl⟩
  ·rcases keyIs_shape hb with ⟨j,u,rfl,e⟩|⟨y,u,rfl,e⟩
   ·injection e with e1 _;rw [e1]
   ·exact nomatch e
  ·rcases keyIs_shape hb with ⟨j,u,rfl,e⟩|⟨y,u,rfl,e⟩
   ·exact nomatch e
   ·injection e with e1 _;rw [e1]
 byValue:=fun k v h=>by
  rcases keyIs_shape h with ⟨i,t,rfl,rfl⟩|⟨x,t,rfl,rfl⟩<;>rfl
 pyHash:=fun hv h=>by
  rcases keyIs_shape hv with ⟨i,t,rfl,rfl⟩|⟨x,t,rfl,rfl⟩
  ·exact wpAny_pyHash_int h
  ·exact wpAny_pyHash_str h
 eqBool:=fun hu hv h=>by
  rcases keyIs_shape hu with ⟨i,t,rfl,rfl⟩|⟨x,t,rfl,rfl⟩
  ·rcases keyIs_shape hv with ⟨j,u,rfl,rfl⟩|⟨y,u,rfl,rfl⟩
   ·rw [key_ll] at h;exact wpAny_eqBool_int h
   ·rw [key_lr] at h;exact SeqAt.EqAt.int_str i t y u _ _ _ _ h
  ·rcases keyIs_shape hv with ⟨j,u,rfl,rfl⟩|⟨y,u,rfl,rfl⟩
   ·rw [key_rl] at h;exact SeqAt.EqAt.str_int x t j u _ _ _ _ h
   ·rw [key_rr] at h;exact wpAny_eqBool_str h
 «strs»:=fun k x t v h=>by
  rcases keyIs_shape h with ⟨i,u,rfl,e⟩|⟨y,u,rfl,e⟩
  ·exact nomatch e
  ·injection e with e1 _
   subst e1
   cases v<;>rfl
theorem mixKind_is(prog:Program)(w:World)(k:Key)(v:Value):(mixKind prog w).is k v=keyIs k v:=rfl
theorem mixKind_int(prog:Program)(w:World)(i:Int)(t:Tok):(mixKind prog w).is (.inl i) (.int i t)=true:=keyIs_int i t
theorem mixKind_str(prog:Program)(w:World)(x:Str)(t:Tok):(mixKind prog w).is (.inr x) (.str x t)=true:=keyIs_str x t
end L2
namespace L2
open PySem PySem.Spec PyProof.Rows
inductive V where
 |non|bl (b:Bool)|int (i:Int)|str (x:Str)|byt (b:Array UInt8)|flt (b:UInt64)|ref (a:Addr)|ty (n:String)
 deriving DecidableEq
def RelV:V→Value→Prop
 |.non,u=>u=Value.none
 |.bl b,u=>u=Value.bool b
 |.int i,u=>∃t,u=Value.int i t
 |.str x,u=>∃t,u=Value.str x t
 |.byt b,u=>∃t,u=Value.bytes b t
 |.flt b,u=>∃t,u=Value.float b t
 |.ref a,u=>u=Value.ref a
 |.ty n,u=>u=Value.type n
abbrev Vals:List V→List Value→Prop:=Paired RelV
theorem Vals.length{xs:List V}{us:List Value}(r:Vals xs us):xs.length=us.length:=Paired.length r
theorem Vals.get:∀{xs:List V} {us:List Value} {i:Nat} {x:V},Vals xs us→xs[i]?=some x→∃u,us[i]?=some u∧RelV x u
 |_,_,_,_,.nil,e=>by simp at e
 |_,_,0,_,.cons r _,e=>by simp at e;subst e;exact⟨_,rfl,r⟩
 |_,_,i+1,x,.cons _ t,e=>by
  obtain⟨u,h1,h2⟩:=Vals.get (i:=i) (x:=x) t (by simpa using e)
  exact⟨u,by simpa using h1,h2⟩
theorem Vals.set{x:V}{u:Value}(r:RelV x u):∀{xs:List V} {us:List Value} (i:Nat),Vals xs us→Vals (xs.set i x) (us.set i u)
 |_,_,_,.nil=>.nil
 |_,_,0,.cons _ t=>.cons r t
 |_,_,i+1,.cons q t=>.cons q (Vals.set r i t)
theorem Vals.append:∀{xs ys:List V} {us ws:List Value},Vals xs us→Vals ys ws→Vals (xs++ys) (us++ws)
 |_,_,_,_,.nil,s=>s
 |_,_,_,_,.cons r t,s=>.cons r (Vals.append t s)
def RelO:Option V→Option Value→Prop
 |some v,some u=>RelV v u
 |none,none=>True
 |_,_=>False
def KV{κ:Type}:List (κ × V)→List (κ × Value)→Prop:=Paired fun(p:κ × V) (q:κ × Value)=>p.1=q.1∧RelV p.2 q.2
def kV:Key→V
 |.inl i=>.int i
 |.inr x=>.str x
inductive HO where
 |lst (xs:List V)
 |tup (xs:List V)
 |dK (kvs:List (Key × V))|dT (kvs:List (List Key × V))
 |set (S:Int→Bool) (n:Nat)
 |ins (C dx:Addr) (fs:List (Str × V))
 |own (x:Addr)
 |xd (fs:List (Str × V))
 |met (f x:Addr)
 |rng (lo hi:Int)
 |frz (o:Obj) (u:HO)
 |tbl (ps:Array Value)
 |cod (q:Str)|cel (v:V)|fnc (fd:FuncData)
 |ext (φ:Heap→Prop)
abbrev Hp:=Addr→Option HO
def upd(H:Hp)(a:Addr)(o:HO):Hp:=fun b=>if b=a then some o else H b
theorem upd_same{H:Hp}{a:Addr}{o:HO}:upd H a o a=some o:=by unfold upd;rw [if_pos rfl]
theorem upd_ne{H:Hp}{a b:Addr}{o:HO}(h:b≠a):upd H a o b=H b:=by unfold upd;rw [if_neg h]
theorem upd_upd{H:Hp}{a:Addr}{o u:HO}:upd (upd H a o) a u=upd H a u:=by
 funext b;unfold upd;split<;>rfl
theorem ne_of{H:Hp}{a b:Addr}{o u:HO}(h:H a=some o)(h':H b=some u)(d:o≠u):a≠b:=by
 intro e;subst e;rw [h] at h';exact d (Option.some.inj h')
theorem ne_of_none{H:Hp}{a b:Addr}{o:HO}(h:H a=some o)(h':H b=none):a≠b:=by
 intro e;subst e;rw [h] at h';cases h'
def qualAt:List Value→Pos→Option Str
 |.int l _::.int c _::.str q _::r,p=>if l==p.line&&c==p.col then some q else qualAt r p
 |_,_=>none
inductive FxO where
 |tup (xs:List V)|cod (q:Str)
def FxO.ho:FxO→HO
 |.tup xs=>.tup xs
 |.cod q=>.cod q
section
variable(P:Program)(w:World)
def ObjOk(H:Hp)(h:Heap)(a:Addr):HO→Prop
 |.lst xs=>xs.length≤sizeLine∧∃(its:List Value) (n:Nat),Vals xs its∧h.get? a=some { cls:=.type "list",data:=.seq its.toArray n }
 |.tup xs=>xs.length≤sizeLine∧∃its:List Value,Vals xs its∧IsTup h a its.toArray
 |.dK kvs=>kvs.length≤sizeLine∧(a==sysModules)=false∧∃vs,KV kvs vs∧h.DictOf (mixKind P w) a vs
 |.dT kvs=>kvs.length≤sizeLine∧(a==sysModules)=false∧∃xs:List (List Key × Addr × Value),
   Paired (fun(p:List Key × V) (q:List Key × Addr × Value)=>p.1=q.1∧H q.2.1=some (.tup (p.1.map kV))∧RelV p.2 q.2.2) kvs xs ∧
   ∃o es ep,h.get? a=some o∧o.ExactDict∧o.data=.dict es ep∧es.toList=xs.map (entryOfKey (tupleKind (mixKind P w)))∧(xs.map (·.1)).Nodup
 |.set S n=>h.SetOf (intKind P w) a S n
 |.ins C dx fs=>H dx=some (.own a)∧fs.length≤1000∧dx≠a∧h.get? a=some (PySem.W.instObj C dx) ∧
   ∃mA,h.Ns1 dx mA∧(∀f,RelO (fs.lookup f) (mA f))∧PySem.Within mA (fs.map (·.1))
 |.own _=>∃o,h.get? a=some o
 |.xd fs=>∃mA,h.Ns1 a mA∧∀f,RelO (fs.lookup f) (mA f)
 |.rng lo hi=>∃t u v,h.get? a=some { cls:=.type "range",data:=.fields #[.int lo t,.int hi u,.int 1 v] }
 |.frz o u=>h.get? a=some o∧ObjOk H h a u
 |.tbl ps=>∃tb:Array Value,h.get? a=some { cls:=.none,data:=.fields tb }∧TriplesOk tb.toList∧∀(p:Pos) (q:Str),qualAt ps.toList p=some q→∀cv,codeAmong p tb.toList=some cv→∃c,cv=Value.ref c∧H c=some (.cod q)
 |.cod q=>h.CodeRec (.ref a) q
 |.cel v=>∃u,RelV v u∧h.IsCell a (some u)
 |.fnc fd=>∃oc od sl,h.get? a=some ⟨oc,od,.func fd,sl⟩
 |.met f x=>h.get? a=some (PySem.W.methodObj (.ref f) (.ref x))
 |.ext φ=>φ h∧(∃o,h.get? a=some o)∧∀h1 h2:Heap,φ h1→(∀o,h1.get? a=some o→h2.get? a=some o)→φ h2
def HOk(H:Hp)(h:Heap):Prop:=∀a o,H a=some o→ObjOk P w H h a o
end
section
variable{P:Program}{w:World}{H H':Hp}{h h':Heap}{a:Addr}{o:HO}
theorem ObjOk.lt(x:ObjOk P w H h a o):a < h.objs.size:=by
 cases o with
 |lst xs=>obtain⟨_,_,_,_,e⟩:=x;exact Heap.lt_size e
 |tup xs=>obtain⟨_,_,_,p⟩:=x;exact p.lt
 |dK kvs=>obtain⟨_,_,_,_,o,_,_,e,_⟩:=x;exact Heap.lt_size e
 |dT kvs=>obtain⟨_,_,_,_,o,_,_,e,_⟩:=x;exact Heap.lt_size e
 |set S n=>obtain⟨o,_,_,_,e,_⟩:=x;exact Heap.lt_size e
 |ins C dx fs=>obtain⟨_,_,_,e,_⟩:=x;exact Heap.lt_size e
 |own y=>obtain⟨_,e⟩:=x;exact Heap.lt_size e
 |xd fs=>obtain⟨_,⟨_,_,_,e,_⟩,_⟩:=x;exact Heap.lt_size e
 |rng lo hi=>obtain⟨_,_,_,e⟩:=x;exact Heap.lt_size e
 |frz ob u=>obtain⟨e,_⟩:=x;exact Heap.lt_size e
 |tbl ps=>obtain⟨_,e,_⟩:=x;exact Heap.lt_size e
 |cod q=>obtain⟨_,_,_,_,e0,e,_⟩:=x;cases e0;exact Heap.lt_size e
 |cel v=>obtain⟨_,_,_,e,_⟩:=x;exact Heap.lt_size e
 |fnc fd=>obtain⟨_,_,_,e⟩:=x;exact Heap.lt_size e
 |met f y=>exact Heap.lt_size (show h.get? a=some _ from x)
 |ext φ=>obtain⟨_,⟨_,e⟩,_⟩:=x;exact Heap.lt_size e
theorem Paired.mapP{α β:Type}{F G:α→β→Prop}:∀{l₁:List α} {l₂:List β},Paired F l₁ l₂→(∀a b,F a b→G a b)→Paired G l₁ l₂
 |_,_,.nil,_=>.nil
 |_,_,.cons r t,f=>.cons (f _ _ r) (Paired.mapP t f)
theorem ObjOk.stay(x:ObjOk P w H h a o)(k:∀b u,(b=a∨H b=some (.own a))→h.get? b=some u→h'.get? b=some u)
  (ho:∀b,H b=some (.own a)→H' b=some (.own a)) (ht:∀b (xs:FxO),H b=some xs.ho→H' b=some xs.ho):ObjOk P w H' h' a o:=by
 induction o with
 |lst xs=>obtain⟨z,its,n,r,e⟩:=x;exact⟨z,its,n,r,k _ _ (.inl rfl) e⟩
 |tup xs=>obtain⟨z,its,r,ob,e,c⟩:=x;exact⟨z,its,r,ob,k _ _ (.inl rfl) e,c⟩
 |dK kvs=>obtain⟨z,y,vs,r,ob,es,ep,e,c⟩:=x;exact⟨z,y,vs,r,ob,es,ep,k _ _ (.inl rfl) e,c⟩
 |dT kvs =>
  obtain⟨z,y,xs,r,ob,es,ep,e,c⟩:=x
  exact⟨z,y,xs,Paired.mapP r fun p q z=>⟨z.1,ht _ (.tup _) z.2.1,z.2.2⟩,ob,es,ep,k _ _ (.inl rfl) e,c⟩
 |set S n=>obtain⟨ob,es,ep,t,e,c⟩:=x;exact⟨ob,es,ep,t,k _ _ (.inl rfl) e,c⟩
 |ins C dx fs =>
  obtain⟨d,z,ne,e,mA,⟨od,es,ep,e2,c⟩,r⟩:=x
  exact⟨ho _ d,z,ne,k _ _ (.inl rfl) e,mA,⟨od,es,ep,k _ _ (.inr d) e2,c⟩,r⟩
 |own y=>obtain⟨ob,e⟩:=x;exact⟨ob,k _ _ (.inl rfl) e⟩
 |xd fs=>obtain⟨mA,⟨od,es,ep,e,c⟩,r⟩:=x;exact⟨mA,⟨od,es,ep,k _ _ (.inl rfl) e,c⟩,r⟩
 |rng lo hi=>obtain⟨t,u,v,e⟩:=x;exact⟨t,u,v,k _ _ (.inl rfl) e⟩
 |frz ob u ih=>obtain⟨e,q⟩:=x;exact⟨k _ _ (.inl rfl) e,ih q⟩
 |tbl ps =>
  obtain⟨tb,e,tr,q⟩:=x
  exact⟨tb,k a _ (.inl rfl) e,tr,fun p z hz cv hc=>let ⟨c,e1,e2⟩:=q p z hz cv hc;⟨c,e1,ht c (.cod z) e2⟩⟩
 |cod q=>obtain⟨c,ob,vs,t,e0,e,r⟩:=x;cases e0;exact⟨_,ob,vs,t,rfl,k _ _ (.inl rfl) e,r⟩
 |cel v=>obtain⟨u,r,ob,e,d⟩:=x;exact⟨u,r,ob,k _ _ (.inl rfl) e,d⟩
 |fnc fd=>obtain⟨oc,od,sl,e⟩:=x;exact⟨oc,od,sl,k _ _ (.inl rfl) e⟩
 |met f y =>
  have e:h.get? a=some (PySem.W.methodObj (.ref f) (.ref y)):=x
  show h'.get? a=some (PySem.W.methodObj (.ref f) (.ref y))
  exact k a _ (.inl rfl) e
 |ext φ=>obtain⟨p,⟨o,e⟩,st⟩:=x;exact⟨st _ _ p fun o q=>k _ _ (.inl rfl) q,⟨o,k _ _ (.inl rfl) e⟩,st⟩
theorem HOk.lt(x:HOk P w H h)(e:H a=some o):a < h.objs.size:=(x a o e).lt
theorem HOk.fresh(x:HOk P w H h)(e:h.objs.size≤a):H a=none:=by
 cases q:H a with
 |none=>rfl
 |some u=>exact absurd (Nat.lt_of_lt_of_le (x.lt q) e) (Nat.lt_irrefl _)
theorem HOk.kept(x:HOk P w H h)(k:∀b u,h.get? b=some u→h'.get? b=some u):HOk P w H h':=fun a o e =>
 (x a o e).stay (fun b u _ q=>k b u q) (fun _ q=>q) fun _ _ q=>q
theorem HOk.laid(x:HOk P w H h)(k:∀b u,h.get? b=some u→h'.get? b=some u)(hp:h.objs.size≤a)(new:ObjOk P w (upd H a o) h' a o):HOk P w (upd H a o) h':=fun b u e=>by
 have hn:=x.fresh hp
 by_cases hb:b=a
 ·subst hb;rw [upd_same] at e;cases e;exact new
 ·rw [upd_ne hb] at e
  exact(x b u e).stay (fun c v _ q=>k c v q) (fun c q=>by rw [upd_ne (ne_of_none q hn)];exact q) fun c xs q=>by rw [upd_ne (ne_of_none q hn)];exact q
end
def Rd(H:Hp)(a:Addr)(u:HO):Prop:=H a=some u∨∃o,H a=some (.frz o u)
theorem Rd.ok{P:Program}{w:World}{H:Hp}{h:Heap}{a:Addr}{u:HO}(r:Rd H a u)(x:HOk P w H h):ObjOk P w H h a u:=by
 rcases r with r|⟨o,r⟩
 ·exact x a u r
 ·obtain⟨_,q⟩:=x a _ r
  exact q
def Mut:Option HO→Prop
 |some (.lst _)=>True
 |some (.dK _)=>True
 |some (.dT _)=>True
 |some (.set _ _)=>True
 |some (.ins _ _ _)=>True
 |some (.ext _)=>True
 |_=>False
section
variable{P:Program}{w:World}{H:Hp}{h h':Heap}{x e:Addr}{o':HO}
theorem HOk.write(ok:HOk P w H h)(mu:Mut (H x))(he:e=x∨H e=some (.own x))(k:∀b u,b≠e→h.get? b=some u→h'.get? b=some u)(heo:∃u,h'.get? e=some u)
  (new:ObjOk P w (upd H x o') h' x o'):HOk P w (upd H x o') h':=fun b u q=>by
 have nown:∀c y,H c=some (.own y)→c≠x:=fun c y r z=>by subst z;rw [r] at mu;exact mu
 have ntup:∀c (xs:FxO),H c=some xs.ho→c≠x:=fun c xs r z=>by subst z;rw [r] at mu;cases xs<;>exact mu
 by_cases hb:b=x
 ·subst hb;rw [upd_same] at q;cases q;exact new
 ·rw [upd_ne hb] at q
  by_cases hbe:b=e
  ·have q':H b=some (.own x):=by
    rcases he with z|z
    ·exact absurd (hbe.trans z) hb
    ·rw [hbe];exact z
   rw [q] at q';cases q'
   obtain⟨v,hv⟩:=heo
   exact⟨v,by rw [hbe];exact hv⟩
  ·refine(ok b u q).stay (fun c v hc r=>k c v ?_ r) (fun c r=>by rw [upd_ne (nown c b r)];exact r) fun c xs r=>by rw [upd_ne (ntup c xs r)];exact r
   rcases hc with rfl|hc
   ·exact hbe
   ·rintro rfl
    rcases he with z|z
    ·exact nown c b hc z
    ·rw [hc] at z;cases z;exact hb rfl
end
structure Un(fs ex:List Addr)(H H':Hp)(h h':Heap):Prop where
 keep:∀b o,h.get? b=some o→H b=none→b∉fs→b∉ex→h'.get? b=some o
 slot:∀b o,h.get? b=some o→H b=none→b∈fs→b∉ex→∃sl,h'.get? b=some { o with slots:=sl }
 free:∀b o,h.get? b=some o→H b=none→b∉ex→H' b=none
 there:∀b o,h.get? b=some o→b∉ex→∃o',h'.get? b=some o'
 tups:∀b xs,H b=some (.tup xs)→H' b=some (.tup xs)
 frzs:∀b o u,H b=some (.frz o u)→H' b=some (.frz o u)
 tbls:∀b ps,H b=some (.tbl ps)→∃more,H' b=some (.tbl (ps++more))
section
variable{fs fs' ex ex':List Addr}{H H1 H2:Hp}{h h1 h2 h':Heap}{a x e:Addr}{o:HO}
theorem Un.any(u:Un fs ex H H1 h h1){b:Addr}{ob:Obj}(q:h.get? b=some ob)(n:H b=none)(hx:b∉ex):∃sl,h1.get? b=some { ob with slots:=sl }:=by
 by_cases hb:b∈fs
 ·exact u.slot b ob q n hb hx
 ·exact⟨ob.slots,u.keep b ob q n hb hx⟩
theorem Un.kept(k:∀b u,h.get? b=some u→h'.get? b=some u):Un fs ex H H h h' :=
 ⟨fun b ob q _ _ _=>k b ob q,fun b ob q _ _ _=>⟨ob.slots,k b ob q⟩,fun _ _ _ n _=>n,fun b ob q _=>⟨ob,k b ob q⟩,fun _ _ q=>q,fun _ _ _ q=>q,fun _ ps q=>⟨#[],by rw [q];simp⟩⟩
theorem Un.refl:Un fs ex H H h h:=Un.kept fun _ _ q=>q
theorem Un.laid(k:∀b u,h.get? b=some u→h'.get? b=some u)(hp:h.objs.size≤a)(hn:H a=none):Un fs ex H (upd H a o) h h' where
 keep:=fun b u q _ _ _=>k b u q
 slot:=fun b u q _ _ _=>⟨u.slots,k b u q⟩
 free:=fun b u q n _=>by rw [upd_ne (Nat.ne_of_lt (Nat.lt_of_lt_of_le (Heap.lt_size q) hp))];exact n
 there:=fun b u q _=>⟨u,k b u q⟩
 tups:=fun b xs q=>by rw [upd_ne (ne_of_none q hn)];exact q
 frzs:=fun b u xs q=>by rw [upd_ne (ne_of_none q hn)];exact q
 tbls:=fun b ps q=>⟨#[],by rw [upd_ne (ne_of_none q hn),q];simp⟩
theorem Un.write(mu:Mut (H x))(he:e=x∨H e=some (.own x))(k:∀b u,b≠e→h.get? b=some u→h'.get? b=some u)(heo:∃u,h'.get? e=some u):Un fs ex H (upd H x o) h h':=by
 have hx:∀b,H b=none→b≠x:=fun b n z=>by subst z;rw [n] at mu;exact mu
 have hb:∀b,H b=none→b≠e:=fun b n z=>by
  subst z
  rcases he with r|r
  ·exact hx b n r
  ·rw [n] at r;cases r
 have hm:∀b u,H b=some u→¬Mut (some u)→b≠x:=fun b u q nm z=>by subst z;rw [q] at mu;exact nm mu
 refine⟨fun b u q n _ _=>k b u (hb b n) q,fun b u q n _ _=>⟨u.slots,k b u (hb b n) q⟩,fun b u q n _=>by rw [upd_ne (hx b n)];exact n,fun b u q _=>?_,
  fun b xs q=>by rw [upd_ne (hm b _ q fun z=>z)];exact q,fun b u xs q=>by rw [upd_ne (hm b _ q fun z=>z)];exact q,fun b ps q=>⟨#[],by rw [upd_ne (hm b _ q fun z=>z),q];simp⟩⟩
 by_cases hbe:b=e
 ·subst hbe;exact heo
 ·exact⟨u,k b u hbe q⟩
end
def trk(h:Heap)(H:Hp):List Addr:=(List.range h.objs.size).filter fun a=>(H a).isSome
def hidT(h:Heap)(H:Hp):Heap:=PySem.W.hideAll h (trk h H)
theorem hidT_size(h:Heap)(H:Hp):(hidT h H).objs.size=h.objs.size:=PySem.W.hideAll_size _ _
theorem hidT_get{h:Heap}{H:Hp}{b:Addr}{o:Obj}(e:h.get? b=some o)(n:H b=none):(hidT h H).get? b=some o :=
 PySem.W.hideAll_get _ e fun hm=>by
  have q:(H b).isSome=true:=(List.mem_filter.mp hm).2
  rw [n] at q;simp at q
theorem of_hidT{h:Heap}{H:Hp}{b:Addr}{o:Obj}(e:(hidT h H).get? b=some o):h.get? b=some o∧H b=none:=by
 have e':h.get? b=some o:=PySem.W.of_hideAll (trk h H) e
 refine⟨e',?_⟩
 cases q:H b with
 |none=>rfl
 |some x =>
  have hm:b∈trk h H:=List.mem_filter.mpr ⟨List.mem_range.mpr (Heap.lt_size e'),by simp [q]⟩
  have z:(hidT h H).get? b=none:=PySem.W.hideAll_none (trk h H) hm
  rw [z] at e;cases e
def allNews(g h:Heap)(L:Addr):List (Addr × Obj):=(List.range h.objs.size).filterMap fun a=>if a=L∨(g.get? a).isSome=true then none else (h.get? a).map fun o=>(a,o)
def rest(g h:Heap)(L d:Addr):List (Addr × Obj):=(allNews g h L).filter fun p=>decide (p.1≠d)
end L2
namespace L2
open PySem PySem.Spec PyProof.Rows
structure Mod(K:PySem.W.Frag)(mg:Str→Option Value)(base:Heap):Prop where
 kin:K.In base
 glob:base.Ns mainGlobals mg
 blt:∃mb,base.Ns builtinsNs mb∧∀x:Str,x≠"__name__"→mb x=bootBuiltins x
 nolimit:base.NoLimit
 bmn:∃bm ob,mg "__builtins__"=some (.ref bm)∧bm≠builtinsNs∧base.get? bm=some ob∧ob.cls=.type "module"∧ob.dict=some builtinsNs∧ob.data=.plain
structure Cx where
 prog:Program
 w:World
 K:PySem.W.Frag
 mg:Str→Option Value
 base:Heap
 A:Around
 N:List Str
 s₀:Shared
 H₀:Hp
 env:Env
 outer:List Env
 stack:List Env
 ex:List Addr
 fn:Str→Bool
 calm:Bool
 pn:List (Addr × Obj)
 xe:Value→Shared→Prop
def frs(l:List Env):List Addr:=l.filterMap (·.frame)
abbrev Cx.fs(X:Cx):List Addr:=frs X.outer
def Vis(sc:Scope)(x:Str):Prop:=sc.names.lookup x=some .local∨sc.names.lookup x=some .cell∨sc.names.lookup x=some .free
def Loc(sc:Scope)(x:Str):Prop:=sc.names.lookup x=some .local∨sc.names.lookup x=some .cell
def Look(env:Env)(h:Heap)(m:Str→Option Value)(x:Str)(u:Value):Prop :=
 (env.kindOf x=some .local∧m x=some u)∨((env.kindOf x=some .cell∨env.kindOf x=some .free)∧∃c,env.cells.lookup x=some c∧h.IsCell c (some u))
structure Cx.Ok(X:Cx):Prop where
 mod:Mod X.K X.mg X.base
 kind:X.env.scope.kind=.function
 glob:X.env.globals=mainGlobals
 blt:X.env.builtins=builtinsNs
 above:X.s₀.heap.objs.size≤X.env.locals
 inj:∀x y c,X.env.cells.lookup x=some c→X.env.cells.lookup y=some c→x=y
 has:∀x,(X.env.kindOf x=some .cell∨X.env.kindOf x=some .free)→∃c,X.env.cells.lookup x=some c
 cab:∀x c,X.fn x=true→X.env.cells.lookup x=some c→X.s₀.heap.objs.size≤c
 hd:X.calm=true→X.A.handled=none
 frames:X.A.frames=some X.stack
 stk:X.stack=X.outer∨(X.stack=X.env::X.outer∧X.env.frame=some X.env.locals)
 exf:∀b∈X.ex,b≠X.env.locals∧∀x c,X.env.cells.lookup x=some c→c≠b
 bs:∀b o,X.base.get? b=some o→X.s₀.heap.get? b=some o∧X.H₀ b=none
 bsz:X.base.objs.size≤X.s₀.heap.objs.size
 noex:∀b o,X.base.get? b=some o→b∉X.ex
 exfs:∀b∈X.ex,b∉X.fs
 funs:X.s₀.heap.FunFrames X.base X.outer
 frf:∀b∈X.fs,X.H₀ b=none
structure Inv(X:Cx)(pins:List (Addr × Obj))(σ:List (Option V))(H:Hp)(s:Shared):Prop where
 ok:X.Ok
 os:s.os=X.s₀.os
 bare:AllBare s.gens
 base:Un X.fs X.ex X.H₀ H X.s₀.heap s.heap
 loc:∃m,s.heap.Ns X.env.locals m∧∀(i:Nat) (x:Str) (v:V),X.N[i]?=some x→σ[i]?=some (some v)→Vis X.env.scope x→∃u,RelV v u∧Look X.env s.heap m x u
 cell:∀x c,X.env.cells.lookup x=some c→∃v,s.heap.IsCell c v
 free:H X.env.locals=none
 freeC:∀x c,X.env.cells.lookup x=some c→H c=none
 pin:∀p∈X.pn++pins,s.heap.get? p.1=some p.2∧H p.1=none∧p.1≠X.env.locals∧p.1∉X.fs∧∀v,p.2.data≠.cell v
 hok:HOk X.prog X.w H s.heap
 len:σ.length=X.N.length
section
variable{X:Cx}{pins:List (Addr × Obj)}{σ:List (Option V)}{H H':Hp}{s:Shared}{h':Heap}
theorem Cx.Ok.nofr(ok:X.Ok){b:Addr}{o:Obj}(e:X.base.get? b=some o):b∉X.fs:=fun hb=>by
 have:=(ok.funs.mem hb).1
 rw [e] at this;cases this
theorem Inv.bs(I:Inv X pins σ H s):∀b o,X.base.get? b=some o→s.heap.get? b=some o∧H b=none:=fun b o e =>
 ⟨I.base.keep b o (I.ok.bs b o e).1 (I.ok.bs b o e).2 (I.ok.nofr e) (I.ok.noex b o e),I.base.free b o (I.ok.bs b o e).1 (I.ok.bs b o e).2 (I.ok.noex b o e)⟩
theorem Inv.bk(I:Inv X pins σ H s):∀b o,X.base.get? b=some o→s.heap.get? b=some o:=fun b o e=>(I.bs b o e).1
theorem Inv.mod(I:Inv X pins σ H s):Mod X.K X.mg X.base:=I.ok.mod
theorem Inv.kIn(I:Inv X pins σ H s):X.K.In s.heap:=I.ok.mod.kin.keeps I.bk
theorem Inv.lt(I:Inv X pins σ H s):X.env.locals < s.heap.objs.size:=let ⟨_,hn,_⟩:=I.loc;hn.lt
theorem Inv.sz(I:Inv X pins σ H s):X.s₀.heap.objs.size≤s.heap.objs.size:=Nat.le_trans I.ok.above (Nat.le_of_lt I.lt)
theorem Inv.nofs(I:Inv X pins σ H s){a:Addr}(h:s.heap.objs.size≤a):a∉X.fs:=fun hb=>by
 obtain⟨_,o,ho,_⟩:=I.ok.funs.mem hb
 exact absurd (Nat.lt_of_lt_of_le (Heap.lt_size ho) (Nat.le_trans I.sz h)) (Nat.lt_irrefl _)
theorem Inv.cne(I:Inv X pins σ H s):∀x c,X.env.cells.lookup x=some c→c≠X.env.locals:=fun x c e z=>by
 obtain⟨v,o,ho,hd⟩:=I.cell x c e
 obtain⟨m,⟨o',es,ep,ho',hd',_⟩,_⟩:=I.loc
 rw [z,ho'] at ho;cases ho;rw [hd'] at hd;cases hd
theorem Inv.funs(I:Inv X pins σ H s):s.heap.FunFrames X.base X.outer:=by
 have all:∀(l:List Env),(∀b∈frs l,b∈X.fs)→X.s₀.heap.FunFrames X.base l→s.heap.FunFrames X.base l:=by
  intro l
  induction l with
  |nil=>intro _ _;trivial
  |cons env r ih =>
   intro hs hl
   obtain⟨hk,⟨L,o,hf,hn,ho,hd⟩,hr⟩:=hl
   have hL:L∈X.fs:=hs L (by unfold frs;rw [List.filterMap_cons,hf];exact List.mem_cons_self)
   obtain⟨sl,e⟩:=I.base.slot L o ho (I.ok.frf L hL) hL fun z=>I.ok.exfs L z hL
   exact⟨hk,⟨L,_,hf,hn,e,hd⟩,ih (fun b hb=>hs b (by unfold frs;rw [List.filterMap_cons,hf];exact List.mem_cons_of_mem _ hb)) hr⟩
 exact all X.outer (fun _ hb=>hb) I.ok.funs
theorem Inv.stack(I:Inv X pins σ H s):s.heap.FunFrames X.base X.stack:=by
 rcases I.ok.stk with e|⟨e,hf⟩
 ·rw [e];exact I.funs
 ·rw [e]
  obtain⟨m,hn,_⟩:=I.loc
  refine .cons (by rw [I.ok.kind];decide) hf hn ?_ I.funs
  exact Heap.get?_none_of_le (Nat.le_trans I.ok.bsz I.ok.above)
theorem Inv.stkSub(I:Inv X pins σ H s):∀b∈frs X.stack,b∈X.env.locals::X.fs:=fun b hb=>by
 rcases I.ok.stk with e|⟨e,hf⟩
 ·rw [e] at hb;exact List.mem_cons_of_mem _ hb
 ·rw [e] at hb
  unfold frs at hb
  rw [List.filterMap_cons,hf] at hb
  exact hb
theorem Inv.stkFree(I:Inv X pins σ H s):∀b∈frs X.stack,H b=none:=fun b hb=>by
 rcases List.mem_cons.mp (I.stkSub b hb) with e|hb
 ·rw [e];exact I.free
 ·obtain⟨_,o,ho,_⟩:=I.ok.funs.mem hb
  exact I.base.free b o ho (I.ok.frf b hb) fun z=>I.ok.exfs b z hb
theorem Inv.step{g':Array GenState}{t':Nat}{d':Drawn}{ch:List Addr}(I:Inv X pins σ H s)
  (hch:∀b∈ch,(b∈X.ex∨X.s₀.heap.objs.size≤b)∧b≠X.env.locals∧(∀x c,X.env.cells.lookup x=some c→c≠b)∧∀p∈X.pn++pins,p.1≠b)
  (keep:∀b o,b≠X.env.locals→b∉X.fs→b∉ch→s.heap.get? b=some o→H b=none→h'.get? b=some o)
  (slot:∀b o,b≠X.env.locals→b∈X.fs→b∉ch→s.heap.get? b=some o→H b=none→∃sl,h'.get? b=some { o with slots:=sl }) (free:∀b o,b∉ch→s.heap.get? b=some o→H b=none→H' b=none)
  (there:∀b o,b∉ch→s.heap.get? b=some o→∃o',h'.get? b=some o')
  (tups:∀b xs,H b=some (.tup xs)→H' b=some (.tup xs)) (frzs:∀b o u,H b=some (.frz o u)→H' b=some (.frz o u)) (tbls:∀b ps,H b=some (.tbl ps)→∃more,H' b=some (.tbl (ps++more)))
  (ns:∀m,s.heap.Ns X.env.locals m→h'.Ns X.env.locals m) (hok:HOk X.prog X.w H' h') (hg:AllBare g') :
  Inv X pins σ H' { s with heap:=h',gens:=g',drawn:=d',toks:=t' }:=by
 have neL:∀b o,X.s₀.heap.get? b=some o→b≠X.env.locals:=fun b o e=>Nat.ne_of_lt (Nat.lt_of_lt_of_le (Heap.lt_size e) I.ok.above)
 have neC:∀b o,X.s₀.heap.get? b=some o→b∉X.ex→b∉ch:=fun b o e hx hb=>by
  rcases (hch b hb).1 with z|z
  ·exact hx z
  ·exact absurd (Nat.lt_of_lt_of_le (Heap.lt_size e) z) (Nat.lt_irrefl _)
 have cellK:∀x c,X.env.cells.lookup x=some c→∀v,s.heap.IsCell c v→h'.IsCell c v:=fun x c e v ⟨o,ho,hd⟩=>by
  have nch:c∉ch:=fun z=>(hch c z).2.2.1 x c e rfl
  by_cases hc:c∈X.fs
  ·obtain⟨sl,q⟩:=slot c o (I.cne x c e) hc nch ho (I.freeC x c e)
   exact⟨_,q,hd⟩
  ·exact⟨o,keep c o (I.cne x c e) hc nch ho (I.freeC x c e),hd⟩
 refine⟨I.ok,I.os,hg,⟨fun b o e n hb hx=>?_,fun b o e n hb hx=>?_,fun b o e n hx=>?_,fun b o e hx=>?_,fun b xs e=>tups b xs (I.base.tups b xs e),fun b o xs e=>frzs b o xs (I.base.frzs b o xs e),fun b ps e=>?_⟩,?_,fun x c e=>?_,?_,fun x c e=>?_,fun p hp=>?_,hok,I.len⟩
 ·exact keep b o (neL b o e) hb (neC b o e hx) (I.base.keep b o e n hb hx) (I.base.free b o e n hx)
 ·obtain⟨sl,e1⟩:=I.base.slot b o e n hb hx
  obtain⟨sl',e2⟩:=slot b _ (neL b o e) hb (neC b o e hx) e1 (I.base.free b o e n hx)
  exact⟨sl',e2⟩
 ·obtain⟨o',e1⟩:=I.base.there b o e hx
  exact free b o' (neC b o e hx) e1 (I.base.free b o e n hx)
 ·obtain⟨o',e1⟩:=I.base.there b o e hx
  exact there b o' (neC b o e hx) e1
 ·obtain⟨m1,e1⟩:=I.base.tbls b ps e
  obtain⟨m2,e2⟩:=tbls b _ e1
  exact⟨m1++m2,by rw [e2,Array.append_assoc]⟩
 ·obtain⟨m,hn,hl⟩:=I.loc
  refine⟨m,ns m hn,fun i x v e1 e2 e3=>?_⟩
  obtain⟨u,r,l⟩:=hl i x v e1 e2 e3
  refine⟨u,r,?_⟩
  rcases l with l|⟨k,c,e,z⟩
  ·exact .inl l
  ·exact .inr ⟨k,c,e,cellK x c e _ z⟩
 ·obtain⟨v,z⟩:=I.cell x c e
  exact⟨v,cellK x c e v z⟩
 ·obtain⟨m,⟨o,_,_,ho,_⟩,_⟩:=I.loc
  exact free _ o (fun z=>(hch _ z).2.1 rfl) ho I.free
 ·obtain⟨v,o,ho,hd⟩:=I.cell x c e
  exact free c o (fun z=>(hch c z).2.2.1 x c e rfl) ho (I.freeC x c e)
 ·obtain⟨e,n,ne,nf,d⟩:=I.pin p hp
  have nch:p.1∉ch:=fun z=>(hch p.1 z).2.2.2 p hp rfl
  exact⟨keep p.1 p.2 ne nf nch e n,free p.1 p.2 nch e n,ne,nf,d⟩
theorem Inv.un{t':Nat}(I:Inv X pins σ H s)(u:Un X.fs [] H H' s.heap h')(hok:HOk X.prog X.w H' h'):Inv X pins σ H' { s with heap:=h',toks:=t' }:=by
 obtain⟨m,⟨o,es,ep,ho,r⟩,_⟩:=id I.loc
 obtain⟨sl,hL⟩:=u.any ho I.free (by simp)
 exact I.step (g':=s.gens) (d':=s.drawn) (ch:=[]) (fun _ z=>nomatch z) (fun b o _ hb _ e n=>u.keep b o e n hb (by simp)) (fun b o _ hb _ e n=>u.slot b o e n hb (by simp)) (fun b o _ e n=>u.free b o e n (by simp)) (fun b o _ e=>u.there b o e (by simp)) u.tups u.frzs u.tbls (fun m' hm=>by
  obtain⟨o',es',ep',ho',r'⟩:=hm
  rw [ho] at ho';cases ho'
  exact⟨_,es',ep',hL,r'⟩) hok I.bare
theorem Inv.call{g':Array GenState}{t':Nat}{d':Drawn}{ch:List Addr}(I:Inv X pins σ H s)(u:Un (frs X.stack) ch H H' s.heap h')(hok:HOk X.prog X.w H' h')(hg:AllBare g')
  (hch:∀b∈ch,(b∈X.ex∨X.s₀.heap.objs.size≤b)∧b≠X.env.locals∧(∀x c,X.env.cells.lookup x=some c→c≠b)∧∀p∈X.pn++pins,p.1≠b) :
  Inv X pins σ H' { s with heap:=h',gens:=g',drawn:=d',toks:=t' }:=by
 obtain⟨m,⟨o,es,ep,ho,r⟩,_⟩:=id I.loc
 obtain⟨sl,hL⟩:=u.any ho I.free fun z=>(hch _ z).2.1 rfl
 exact I.step (ch:=ch) hch (fun b o hL hb hc e n=>u.keep b o e n (fun z=>(List.mem_cons.mp (I.stkSub b z)).elim hL hb) hc) (fun b o _ _ hc e n=>u.any e n hc) (fun b o hc e n=>u.free b o e n hc) (fun b o hc e=>u.there b o e hc) u.tups u.frzs u.tbls (fun m' hm=>by
  obtain⟨o',es',ep',ho',r'⟩:=hm
  rw [ho] at ho';cases ho'
  exact⟨_,es',ep',hL,r'⟩) hok hg
theorem Inv.turned{t':Nat}{it:Addr}(I:Inv X pins σ H s)(k:∀b o,b≠it→s.heap.get? b=some o→h'.get? b=some o)(hn:H it=none)(hL:it≠X.env.locals)
  (h1:it∈X.ex∨X.s₀.heap.objs.size≤it) (h2:∀x c,X.env.cells.lookup x=some c→c≠it) (h3:∀p∈X.pn++pins,p.1≠it):Inv X pins σ H { s with heap:=h',toks:=t' }:=by
 have nit:∀b u,H b=some u→b≠it:=fun b u e z=>by rw [z,hn] at e;cases e
 refine I.step (g':=s.gens) (d':=s.drawn) (ch:=[it]) (fun b hb=>?_) (fun b o _ _ hc e _=>k b o (fun z=>hc (by simp [z])) e) (fun b o _ _ hc e _=>⟨o.slots,k b o (fun z=>hc (by simp [z])) e⟩) (fun _ _ _ _ n=>n)
  (fun b o hc e=>⟨o,k b o (fun z=>hc (by simp [z])) e⟩) (fun _ _ e=>e) (fun _ _ _ e=>e) (fun b ps e=>⟨#[],by rw [e];simp⟩) (fun m hm=>?_) (fun b u e=>?_) I.bare
 ·have e:b=it:=by simpa using hb
  subst e
  exact⟨h1,hL,h2,h3⟩
 ·obtain⟨o,es,ep,ho,r⟩:=hm
  exact⟨o,es,ep,k _ o (Ne.symm hL) ho,r⟩
 ·refine(I.hok b u e).stay (fun c v hc q=>k c v ?_ q) (fun _ q=>q) fun _ _ q=>q
  rcases hc with z|z
  ·rw [z];exact nit b u e
  ·exact nit c _ z
theorem Inv.tok(I:Inv X pins σ H s)(t:Nat):Inv X pins σ H { s with toks:=t }:=I.un (h':=s.heap) (t':=t) Un.refl I.hok
theorem Inv.kept{t':Nat}(I:Inv X pins σ H s)(k:∀b u,s.heap.get? b=some u→h'.get? b=some u):Inv X pins σ H { s with heap:=h',toks:=t' }:=I.un (Un.kept k) (I.hok.kept k)
theorem Inv.laid{a:Addr}{o:HO}{t':Nat}(I:Inv X pins σ H s)(k:∀b u,s.heap.get? b=some u→h'.get? b=some u)(hp:s.heap.objs.size≤a)(new:ObjOk X.prog X.w (upd H a o) h' a o) :
  Inv X pins σ (upd H a o) { s with heap:=h',toks:=t' }:=I.un (Un.laid k hp (I.hok.fresh hp)) (I.hok.laid k hp new)
theorem Inv.write{x e:Addr}{o:HO}{t':Nat}(I:Inv X pins σ H s)(mu:Mut (H x))(he:e=x∨H e=some (.own x))(k:∀b u,b≠e→s.heap.get? b=some u→h'.get? b=some u)(heo:∃u,h'.get? e=some u)
  (new:ObjOk X.prog X.w (upd H x o) h' x o):Inv X pins σ (upd H x o) { s with heap:=h',toks:=t' }:=I.un (Un.write mu he k heo) (I.hok.write mu he k heo new)
theorem Inv.weak{σ':List (Option V)}(I:Inv X pins σ H s)(hl:σ'.length=σ.length)(w:∀(i:Nat) v,σ'[i]?=some (some v)→σ[i]?=some (some v)):Inv X pins σ' H s :=
 ⟨I.ok,I.os,I.bare,I.base,let ⟨m,hn,hl'⟩:=I.loc;⟨m,hn,fun i x v e1 e2 e3=>hl' i x v e1 (w i v e2) e3⟩,I.cell,I.free,I.freeC,I.pin,I.hok,hl.trans I.len⟩
theorem Inv.pins_of{pins':List (Addr × Obj)}(I:Inv X pins σ H s)(h:∀p∈pins',s.heap.get? p.1=some p.2∧H p.1=none∧p.1≠X.env.locals∧p.1∉X.fs∧∀v,p.2.data≠.cell v):Inv X pins' σ H s :=
 ⟨I.ok,I.os,I.bare,I.base,I.loc,I.cell,I.free,I.freeC,fun p hp=>(List.mem_append.mp hp).elim (fun z=>I.pin p (List.mem_append_left _ z)) (h p),I.hok,I.len⟩
theorem nodup_ix{N:List Str}(hN:N.Nodup){i j:Nat}{x:Str}(a:N[i]?=some x)(b:N[j]?=some x):i=j:=by
 obtain⟨h1,e1⟩:=List.getElem?_eq_some_iff.mp a
 obtain⟨h2,e2⟩:=List.getElem?_eq_some_iff.mp b
 exact(List.getElem_inj hN).mp (e1.trans e2.symm)
theorem store_ok2{M:Model}{A:Around}{E:Value→Shared→Prop}{i:Nat}{x:Str}{v:V}{u:Value}{Q:Unit→Shared→Prop}(I:Inv X pins σ H s)(hN:X.N.Nodup)(hi:X.N[i]?=some x)(hx:Loc X.env.scope x)(r:RelV v u)
  (h:∀s',Inv X pins (σ.set i (some v)) H s'→(∃a,Heap.SameBut a s.heap s'.heap∧(a=X.env.locals∨X.env.cells.lookup x=some a))→Q () s') (hf:X.fn x=true∨X.env.scope.names.lookup x=some .local:=by first|exact .inl rfl|exact .inr rfl|assumption):wpAny M A (storeName X.env x u) Q E s:=by
 obtain⟨m,hn,hl⟩:=id I.loc
 have hcls:(X.env.scope.kind==.class||(X.env.scope.kind==.module&&X.env.locals != X.env.globals))=false:=by rw [I.ok.kind];rfl
 have hiσ:i < σ.length:=by rw [I.len];exact(List.getElem?_eq_some_iff.mp hi).1
 have cne:=I.cne
 have tracked:∀{a:Addr} {h':Heap},(∃o,s.heap.get? a=some o∧H a=none)→Heap.SameBut a s.heap h'→HOk X.prog X.w H h':=fun {a h'} ha hs b ob e=>by
  obtain⟨_,_,hfree⟩:=ha
  refine(I.hok b ob e).stay (fun c w' hc q=>(hs.2 c ?_).trans q) (fun _ q=>q) fun _ _ q=>q
  rintro rfl
  rcases hc with rfl|hc
  ·rw [hfree] at e;cases e
  ·rw [hfree] at hc;cases hc
 rcases hx with hk|hk
 ·refine wpAny_storeName_local hk hn (fun h' hn' hs=>?_) hcls
  obtain⟨oL,_,_,hoL,_⟩:=id hn
  refine h _ ⟨I.ok,I.os,I.bare,⟨fun b o e n hb hx=>?_,fun b o e n hb hx=>?_,I.base.free,fun b o e hx=>?_,I.base.tups,I.base.frzs,I.base.tbls⟩,⟨_,hn',fun j y v' e1 e2 e3=>?_⟩,fun y c e=>?_,I.free,I.freeC,fun p hp=>?_,tracked ⟨oL,hoL,I.free⟩ hs,by simpa using I.len⟩ ⟨_,hs,.inl rfl⟩
  ·exact(hs.2 b (Nat.ne_of_lt (Nat.lt_of_lt_of_le (Heap.lt_size e) I.ok.above))).trans (I.base.keep b o e n hb hx)
  ·obtain⟨sl,e1⟩:=I.base.slot b o e n hb hx
   exact⟨sl,(hs.2 b (Nat.ne_of_lt (Nat.lt_of_lt_of_le (Heap.lt_size e) I.ok.above))).trans e1⟩
  ·obtain⟨o',e1⟩:=I.base.there b o e hx
   exact⟨o',(hs.2 b (Nat.ne_of_lt (Nat.lt_of_lt_of_le (Heap.lt_size e) I.ok.above))).trans e1⟩
  ·by_cases hj:j=i
   ·subst hj
    rw [hi] at e1;cases e1
    rw [List.getElem?_set_self hiσ] at e2
    cases e2
    exact⟨u,r,.inl ⟨hk,by simp⟩⟩
   ·rw [List.getElem?_set_ne (Ne.symm hj)] at e2
    obtain⟨u',r',q⟩:=hl j y v' e1 e2 e3
    refine⟨u',r',?_⟩
    rcases q with ⟨k,e⟩|⟨k,c,e,z⟩
    ·refine .inl ⟨k,?_⟩
     have:y≠x:=fun e=>hj (nodup_ix hN e1 (e▸hi))
     simp [this,e]
    ·exact .inr ⟨k,c,e,z.sameBut hs (cne y c e)⟩
  ·obtain⟨w',z⟩:=I.cell y c e
   exact⟨w',z.sameBut hs (cne y c e)⟩
  ·obtain⟨e,n,ne,nf,d⟩:=I.pin p hp
   exact⟨(hs.2 p.1 ne).trans e,n,ne,nf,d⟩
 ·have hfn:X.fn x=true:=by
   rcases hf with z|z
   ·exact z
   ·rw [z] at hk;cases hk
  obtain⟨c,hc⟩:=I.ok.has x (.inl hk)
  obtain⟨w',z⟩:=I.cell x c hc
  refine wpAny_storeName_cell I.ok.kind hk hc z (fun h' hc' hs=>?_)
  obtain⟨oc,hoc,hocd⟩:=id z
  refine h { s with heap:=h' } ⟨I.ok,I.os,I.bare,⟨fun b o e n hb hx=>?_,fun b o e n hb hx=>?_,I.base.free,fun b o e hx=>?_,I.base.tups,I.base.frzs,I.base.tbls⟩,⟨m,hn.sameBut hs (Ne.symm (cne x c hc)),fun j y v' e1 e2 e3=>?_⟩,fun y c' e=>?_,I.free,I.freeC,fun p hp=>?_,tracked ⟨oc,hoc,I.freeC x c hc⟩ hs,by simpa using I.len⟩ ⟨c,hs,.inr hc⟩
  ·exact(hs.2 b (Nat.ne_of_lt (Nat.lt_of_lt_of_le (Heap.lt_size e) (I.ok.cab x c hfn hc)))).trans (I.base.keep b o e n hb hx)
  ·obtain⟨sl,e1⟩:=I.base.slot b o e n hb hx
   exact⟨sl,(hs.2 b (Nat.ne_of_lt (Nat.lt_of_lt_of_le (Heap.lt_size e) (I.ok.cab x c hfn hc)))).trans e1⟩
  ·obtain⟨o',e1⟩:=I.base.there b o e hx
   exact⟨o',(hs.2 b (Nat.ne_of_lt (Nat.lt_of_lt_of_le (Heap.lt_size e) (I.ok.cab x c hfn hc)))).trans e1⟩
  ·by_cases hj:j=i
   ·subst hj
    rw [hi] at e1;cases e1
    rw [List.getElem?_set_self hiσ] at e2
    cases e2
    exact⟨u,r,.inr ⟨.inl hk,c,hc,hc'⟩⟩
   ·rw [List.getElem?_set_ne (Ne.symm hj)] at e2
    obtain⟨u',r',q⟩:=hl j y v' e1 e2 e3
    refine⟨u',r',?_⟩
    rcases q with q|⟨k,c',e,z'⟩
    ·exact .inl q
    ·refine .inr ⟨k,c',e,z'.sameBut hs ?_⟩
     rintro rfl
     exact hj (nodup_ix hN e1 (I.ok.inj _ _ _ e hc▸hi))
  ·by_cases hcc:c'=c
   ·subst hcc;exact⟨_,hc'⟩
   ·obtain⟨w2,z2⟩:=I.cell y c' e
    exact⟨w2,z2.sameBut hs hcc⟩
  ·obtain⟨e,n,ne,nf,d⟩:=I.pin p hp
   refine⟨(hs.2 p.1 ?_).trans e,n,ne,nf,d⟩
   intro q
   rw [q,hoc] at e
   have q':oc=p.2:=Option.some.inj e
   exact d w' (by rw [←q'];exact hocd)
theorem store_ok{M:Model}{A:Around}{E:Value→Shared→Prop}{i:Nat}{x:Str}{v:V}{u:Value}{Q:Unit→Shared→Prop}(I:Inv X pins σ H s)(hN:X.N.Nodup)(hi:X.N[i]?=some x)(hx:Loc X.env.scope x)(r:RelV v u)
  (h:∀s',Inv X pins (σ.set i (some v)) H s'→Q () s') (hf:X.fn x=true∨X.env.scope.names.lookup x=some .local:=by first|exact .inl rfl|exact .inr rfl|assumption):wpAny M A (storeName X.env x u) Q E s :=
 store_ok2 I hN hi hx r (fun s' I' _=>h s' I') hf
theorem Inv.call'{s':Shared}{ch:List Addr}(I:Inv X pins σ H s)(ho:s'.os=s.os)(u:Un (frs X.stack) ch H H' s.heap s'.heap)(hok:HOk X.prog X.w H' s'.heap)(hg:AllBare s'.gens)
  (hch:∀b∈ch,(b∈X.ex∨X.s₀.heap.objs.size≤b)∧b≠X.env.locals∧(∀x c,X.env.cells.lookup x=some c→c≠b)∧∀p∈X.pn++pins,p.1≠b):Inv X pins σ H' s':=by
 obtain⟨h',g',d',t',o'⟩:=s'
 have e:o'=s.os:=ho
 subst e
 exact I.call (g':=g') (t':=t') (d':=d') u hok hg hch
end
abbrev XK:=Value→Option Addr→Hp→Prop
abbrev St:=List (Option V)
abbrev VK:=V→Hp→Prop
abbrev TE:=St→Hp→VK→Prop
abbrev TT:=St→Hp→(Bool→Hp→Prop)→Prop
abbrev TA:=St→Hp→(List V→Hp→Prop)→Prop
structure Ends where
 nx:St→Hp→Prop
 rt:VK
 bk:St→Hp→Prop:=fun _ _=>False
 ct:St→Hp→Prop:=fun _ _=>False
abbrev TS:=Ends→St→Hp→Prop
def EP(X:Cx)(pins:List (Addr × Obj))(σ:St)(Q:VK)(u:Value)(s':Shared):Prop:=∃v H',Inv X pins σ H' s'∧RelV v u∧Q v H'
def TP(X:Cx)(pins:List (Addr × Obj))(σ:St)(Q:Bool→Hp→Prop)(b:Bool)(s':Shared):Prop:=∃H',Inv X pins σ H' s'∧Q b H'
def AP(X:Cx)(pins:List (Addr × Obj))(σ:St)(Q:List V→Hp→Prop)(us:List Value)(s':Shared):Prop:=∃vs H',Inv X pins σ H' s'∧Vals vs us∧Q vs H'
def SP(X:Cx)(pins:List (Addr × Obj))(D:Ends)(f:Flow)(s':Shared):Prop :=
 match f with
 |.next=>∃σ' H',Inv X pins σ' H' s'∧D.nx σ' H'
 |.brk=>∃σ' H',Inv X pins σ' H' s'∧D.bk σ' H'
 |.cont=>∃σ' H',Inv X pins σ' H' s'∧D.ct σ' H'
 |.ret u=>∃v σ' H',Inv X pins σ' H' s'∧RelV v u∧D.rt v H'
def PE(X:Cx)(e:Expr)(t:TE):Prop :=
 ∀(pins:List (Addr × Obj)) (s:Shared) (σ:St) (H:Hp) (Q:VK),Inv X pins σ H s→t σ H Q→wpAny (model X.prog X.w) X.A (eval e X.env) (EP X pins σ Q) X.xe s
def PT(X:Cx)(e:Expr)(t:TT):Prop :=
 ∀(pins:List (Addr × Obj)) (s:Shared) (σ:St) (H:Hp) (Q:Bool→Hp→Prop),Inv X pins σ H s→t σ H Q→wpAny (model X.prog X.w) X.A (isTrue e X.env (eval e X.env)) (TP X pins σ Q) X.xe s
def PW(X:Cx)(e:Expr)(t:TT):Prop :=
 ∀(whole:Sem Value) (pins:List (Addr × Obj)) (s:Shared) (σ:St) (H:Hp) (Q:Bool→Hp→Prop),Inv X pins σ H s→t σ H Q→wpAny (model X.prog X.w) X.A (isTrue e X.env whole) (TP X pins σ Q) X.xe s
theorem PW.pt{X:Cx}{e:Expr}{t:TT}(h:PW X e t):PT X e t:=h _
def PA(X:Cx)(es:List Expr)(t:TA):Prop :=
 ∀(pos:Pos) (pins:List (Addr × Obj)) (s:Shared) (σ:St) (H:Hp) (Q:List V→Hp→Prop),Inv X pins σ H s→t σ H Q→wpAny (model X.prog X.w) X.A (spliced (backTo pos (starEach es X.env))) (AP X pins σ Q) X.xe s
def PS(X:Cx)(st:Stmt)(t:TS):Prop :=
 ∀(pins:List (Addr × Obj)) (s:Shared) (σ:St) (H:Hp) (D:Ends),Inv X pins σ H s→t D σ H→wpAny (model X.prog X.w) X.A (exec st X.env) (SP X pins D) X.xe s
def PSs(X:Cx)(st:List Stmt)(t:TS):Prop :=
 ∀(pins:List (Addr × Obj)) (s:Shared) (σ:St) (H:Hp) (D:Ends),Inv X pins σ H s→t D σ H→wpAny (model X.prog X.w) X.A (execs st X.env) (SP X pins D) X.xe s
theorem thn{α:Type}{t:Sem α}{Q Q':α→Shared→Prop}{M:Model}{A:Around}{E:Value→Shared→Prop}{s:Shared}(h:wpAny M A t Q E s)(hQ:∀a s,Q a s→Q' a s):wpAny M A t Q' E s:=wpAny_mono h hQ fun _ _ x=>x
end L2
namespace L2
open PySem PySem.Spec PyProof.Rows
section
variable{X:Cx}
inductive Wi (i:Nat) (σ:St) (H:Hp) (Q:VK):Prop
 |mk (v:V) (h:σ[i]?=some (some v)) (q:Q v H)
def tVar(i:Nat):TE:=fun σ H Q=>Wi i σ H Q
def tC(v:V):TE:=fun _ H Q=>Q v H
theorem pe_var{i:Nat}{x:Str}{pos:Pos}(hN:X.N[i]?=some x)(hv:Vis X.env.scope x) (hd:(x==("__debug__":Str))=false:=by decide) (hcd:(x==("__classdict__":Str))=false:=by decide):PE X (.Name x pos) (tVar i):=by
 intro pins s σ H Q I h
 obtain⟨v,e,h⟩:=h
 obtain⟨m,hn,hl⟩:=I.loc
 obtain⟨u,r,l⟩:=hl i x v hN e hv
 have fin:EP X pins σ Q u s:=⟨v,H,I,r,h⟩
 rcases l with ⟨hk,hm⟩|⟨hk,c,hc,hcell⟩
 ·exact wpAny_Name (wpAny_loadName_local I.ok.kind hk hn hm fin) hd
 ·rcases hk with hk|hk
  ·exact wpAny_Name (wpAny_loadName_cell I.ok.kind hk hc hcell fin) hd
  ·exact wpAny_Name (wpAny_loadName_free I.ok.kind hk hc hcell fin hcd) hd
theorem pe_int{i j pos}:PE X (.Constant (.int i) j pos) (tC (.int i)):=fun _ _ _ H _ I h=>wpAny_Constant_int ⟨.int i,H,I.tok _,⟨_,rfl⟩,h⟩
theorem pe_bl{b j pos}:PE X (.Constant (.bool b) j pos) (tC (.bl b)):=fun _ _ _ H _ I h=>Constant_bool ⟨.bl b,H,I,rfl,h⟩
theorem pe_non{j pos}:PE X (.Constant .none j pos) (tC .non):=fun _ _ _ H _ I h=>Constant_none ⟨.non,H,I,rfl,h⟩
theorem pe_str{x j pos}:PE X (.Constant (.str x) j pos) (tC (.str x)):=fun _ _ _ H _ I h=>Calls.Constant_str ⟨.str x,H,I.tok _,⟨_,rfl⟩,h⟩
def Gl(X:Cx)(x:Str):Prop:=X.env.kindOf x=some .globalImplicit
theorem ld_glob{E:Value→Shared→Prop}{pins:List (Addr × Obj)}{s:Shared}{σ:St}{H:Hp}{x:Str}{u:Value}{pos:Pos}{Q:Value→Shared→Prop}(I:Inv X pins σ H s)(hg:Gl X x)(hm:X.mg x=some u)(h:Q u s)
  (hd:(x==("__debug__":Str))=false:=by decide):wpAny (model X.prog X.w) X.A (eval (.Name x pos) X.env) Q E s :=
 Calls.Name_function_global I.ok.kind hg (Calls.loadGlobal_global (by rw [I.ok.glob];exact I.mod.glob.keeps I.bk) hm h) hd
theorem ld_blt{E:Value→Shared→Prop}{pins:List (Addr × Obj)}{s:Shared}{σ:St}{H:Hp}{x:Str}{u:Value}{pos:Pos}{Q:Value→Shared→Prop}(I:Inv X pins σ H s)(hg:Gl X x)(hm:X.mg x=none)(hv:bootBuiltins x=some u)(h:Q u s)
  (hn:x≠"__name__":=by decide) (hd:(x==("__debug__":Str))=false:=by decide):wpAny (model X.prog X.w) X.A (eval (.Name x pos) X.env) Q E s:=by
 obtain⟨mb,h1,h2⟩:=I.mod.blt
 exact Calls.Name_function_global I.ok.kind hg (Calls.loadGlobal_builtin (by rw [I.ok.glob];exact I.mod.glob.keeps I.bk) hm (by rw [I.ok.blt];exact h1.keeps I.bk) ((h2 x hn).trans hv) h) hd
variable{a b:Expr}{ta tb:TE}{pos:Pos}
def PC(X:Cx)(op:CmpOp)(a b:Expr)(t:TE):Prop :=
 ∀(pins:List (Addr × Obj)) (s:Shared) (σ:St) (H:Hp) (Q:VK),Inv X pins σ H s→t σ H Q →
  wpAny (model X.prog X.w) X.A (eval a X.env) (fun v s₁=>wpAny (model X.prog X.w) X.A (eval b X.env) (fun u s₂=>wpAny (model X.prog X.w) X.A (compareOp op v u) (EP X pins σ Q) X.xe s₂) X.xe s₁) X.xe s
inductive Wb (x:V) (H:Hp) (Q:Bool→Hp→Prop):Prop
 |mk (c:Bool) (h:x=.bl c) (q:Q c H)
def tB(t:TE):TT:=fun σ H Q=>t σ H fun x H1=>Wb x H1 Q
theorem pt_cmp{op:CmpOp}{t:TE}(h:PC X op a b t)(h1:behindInMarks op b=false:=by first|exact nobehind _ (by decide) (by decide)|rfl):PT X (.Compare a [op] [b] pos) (tB t):=by
 intro pins s σ H Q I hw
 refine wpAny_isTrue_Compare1 (thn (h pins s σ H _ I hw) fun v s1 h1=>thn h1 fun u s2 h2=>thn h2 fun c s3 ⟨x,H1,I1,r1,q1⟩=>?_) h1
 obtain⟨d,rfl,q⟩:=q1
 cases r1
 exact wpAny_truthy_bool ⟨H1,I1,q⟩
variable{tA tB':TT}{rest:List Expr}
def tAnd(t u:TT):TT:=fun σ H Q=>t σ H fun c H1=>if c=true then u σ H1 Q else Q false H1
def tOr(t u:TT):TT:=fun σ H Q=>t σ H fun c H1=>if c=true then Q true H1 else u σ H1 Q
theorem pw_and1(ha:PT X a tA):PW X (.BoolOp .And [a] pos) tA:=by
 intro wh pins s σ H Q I h
 refine isTrue_and (thn (ha pins s σ H Q I h) fun c s1 e=>?_)
 cases c with
 |true=>exact isTrue_and_nil e
 |false=>exact e
theorem pw_or1(ha:PT X a tA):PW X (.BoolOp .Or [a] pos) tA:=by
 intro wh pins s σ H Q I h
 refine isTrue_or (thn (ha pins s σ H Q I h) fun c s1 e=>?_)
 cases c with
 |false=>exact isTrue_or_nil e
 |true=>exact e
theorem pw_and(ha:PT X a tA)(hb:PW X (.BoolOp .And (b::rest) pos) tB'):PW X (.BoolOp .And (a::b::rest) pos) (tAnd tA tB'):=by
 intro wh pins s σ H Q I h
 refine isTrue_and (thn (ha pins s σ H _ I h) fun c s1 ⟨H1,I1,q1⟩=>?_)
 cases c with
 |true=>exact hb wh pins s1 σ H1 Q I1 q1
 |false=>exact⟨H1,I1,q1⟩
theorem pw_or(ha:PT X a tA)(hb:PW X (.BoolOp .Or (b::rest) pos) tB'):PW X (.BoolOp .Or (a::b::rest) pos) (tOr tA tB'):=by
 intro wh pins s σ H Q I h
 refine isTrue_or (thn (ha pins s σ H _ I h) fun c s1 ⟨H1,I1,q1⟩=>?_)
 cases c with
 |true=>exact⟨H1,I1,q1⟩
 |false=>exact hb wh pins s1 σ H1 Q I1 q1
def tAndV(ta tb:TE):TE:=fun σ H Q=>ta σ H fun x H1=>∃c,x=.bl c∧if c=true then tb σ H1 Q else Q (.bl false) H1
theorem pe_one{op}{t:TE}(h:PE X a t):PE X (.BoolOp op [a] pos) t:=fun pins s σ H Q I hw=>BoolOp_one (h pins s σ H Q I hw)
theorem pe_and(ha:PE X a ta)(hb:PE X (.BoolOp .And (b::rest) pos) tb):PE X (.BoolOp .And (a::b::rest) pos) (tAndV ta tb):=by
 intro pins s σ H Q I h
 refine BoolOp_and (thn (ha pins s σ H _ I h) fun v s1 ⟨x,H1,I1,r1,q1⟩=>?_)
 obtain⟨c,rfl,q1⟩:=q1
 cases r1
 refine wpAny_truthy_bool ?_
 cases c with
 |true=>exact hb pins s1 σ H1 Q I1 q1
 |false=>exact⟨.bl false,H1,I1,rfl,q1⟩
end
end L2
namespace L2
open PySem PySem.Spec PyProof.Rows
def SqL(K:PySem.W.Frag)(H:Hp)(a:Addr)(xs:List V):Prop :=
 Rd H a (.lst xs) ∨
  ∃(o:Obj) (its:Array Value) (n:Nat),K.lookup a=some o∧o.cls=.type "list"∧o.dict=none∧o.data=.seq its n∧its.size≤sizeLine∧Vals xs its.toList
def SqT(K:PySem.W.Frag)(H:Hp)(a:Addr)(xs:List V):Prop :=
 Rd H a (.tup xs) ∨
  ∃(o:Obj) (its:Array Value) (n:Nat),K.lookup a=some o∧o.cls=.type "tuple"∧o.data=.seq its n∧its.size≤sizeLine∧Vals xs its.toList
def absV:Value→Option V
 |.none=>some .non
 |.bool b=>some (.bl b)
 |.int i _=>some (.int i)
 |.str x _=>some (.str x)
 |.bytes b _=>some (.byt b)
 |.float b _=>some (.flt b)
 |.ref a=>some (.ref a)
 |.type n=>some (.ty n)
 |_=>none
theorem RelV.abs{x:V}{u:Value}(r:RelV x u):absV u=some x:=by
 cases x with
 |non=>cases r;rfl
 |bl _=>cases r;rfl
 |int _=>obtain⟨t,rfl⟩:=r;rfl
 |str _=>obtain⟨t,rfl⟩:=r;rfl
 |byt _=>obtain⟨t,rfl⟩:=r;rfl
 |flt _=>obtain⟨t,rfl⟩:=r;rfl
 |ref _=>cases r;rfl
 |ty _=>cases r;rfl
theorem RelV.inj{x y:V}{u:Value}(r:RelV x u)(q:RelV y u):x=y:=Option.some.inj (r.abs.symm.trans q.abs)
theorem Vals.inj:∀{xs ys:List V} {us:List Value},Vals xs us→Vals ys us→xs=ys
 |_,_,_,.nil,.nil=>rfl
 |_,_,_,.cons r t,.cons r' t'=>by rw [r.inj r',Vals.inj t t']
section
variable{X:Cx}{pins:List (Addr × Obj)}{σ:St}{H:Hp}{s:Shared}{a:Addr}{xs ys:List V}
theorem SqL.of{K:PySem.W.Frag}(h:H a=some (.lst xs)):SqL K H a xs:=.inl (.inl h)
theorem SqT.of{K:PySem.W.Frag}(h:H a=some (.tup xs)):SqT K H a xs:=.inl (.inl h)
theorem Inv.list(I:Inv X pins σ H s)(h:SqL X.K H a xs):∃its:List Value,Vals xs its∧PlainL s.heap a its.toArray∧xs.length≤sizeLine:=by
 rcases h with h|⟨o,its,n,hk,hc,hd,hs,hz,r⟩
 ·obtain⟨z,its,n,r,e⟩:=h.ok I.hok
  exact⟨its,r,⟨_,n,e,rfl,rfl,rfl⟩,z⟩
 ·refine⟨its.toList,r,⟨o,n,I.kIn a o hk,hc,hd,by simpa using hs⟩,?_⟩
  have e:=r.length
  simp only [Array.length_toList] at e
  omega
theorem Inv.tuple(I:Inv X pins σ H s)(h:SqT X.K H a xs):∃its:List Value,Vals xs its∧IsTup s.heap a its.toArray∧xs.length≤sizeLine:=by
 rcases h with h|⟨o,its,n,hk,hc,hs,hz,r⟩
 ·obtain⟨z,its,r,p⟩:=h.ok I.hok
  exact⟨its,r,p,z⟩
 ·refine⟨its.toList,r,⟨o,I.kIn a o hk,hc,n,by simpa using hs⟩,?_⟩
  have e:=r.length
  simp only [Array.length_toList] at e
  omega
theorem Inv.list_inj(I:Inv X pins σ H s)(h:SqL X.K H a xs)(h':SqL X.K H a ys):xs=ys:=by
 obtain⟨its,r,⟨o,n,e,_,_,d⟩,_⟩:=I.list h
 obtain⟨its',r',⟨o',n',e',_,_,d'⟩,_⟩:=I.list h'
 rw [e] at e';cases e'
 rw [d] at d'
 injection d' with d1 _
 have:its=its':=by simpa using congrArg Array.toList d1
 subst this
 exact r.inj r'
theorem Inv.tuple_inj(I:Inv X pins σ H s)(h:SqT X.K H a xs)(h':SqT X.K H a ys):xs=ys:=by
 obtain⟨its,r,⟨o,e,_,n,d⟩,_⟩:=I.tuple h
 obtain⟨its',r',⟨o',e',_,n',d'⟩,_⟩:=I.tuple h'
 rw [e] at e';cases e'
 rw [d] at d'
 injection d' with d1 _
 have:its=its':=by simpa using congrArg Array.toList d1
 subst this
 exact r.inj r'
end
abbrev Cx.wish(X:Cx)(E:Value→Shared→Prop):Cx:={ X with xe:=E }
abbrev Cx.nox(X:Cx):Cx:=X.wish fun _ _=>False
theorem Cx.Ok.wish{X:Cx}(ok:X.Ok)(E:Value→Shared→Prop):(X.wish E).Ok :=
 ⟨ok.mod,ok.kind,ok.glob,ok.blt,ok.above,ok.inj,ok.has,ok.cab,ok.hd,ok.frames,ok.stk,ok.exf,ok.bs,ok.bsz,ok.noex,ok.exfs,ok.funs,ok.frf⟩
theorem Cx.Ok.unwish{X:Cx}{E:Value→Shared→Prop}(ok:(X.wish E).Ok):X.Ok :=
 ⟨ok.mod,ok.kind,ok.glob,ok.blt,ok.above,ok.inj,ok.has,ok.cab,ok.hd,ok.frames,ok.stk,ok.exf,ok.bs,ok.bsz,ok.noex,ok.exfs,ok.funs,ok.frf⟩
section
variable{X:Cx}{pins:List (Addr × Obj)}{σ:St}{H:Hp}{s:Shared}{E:Value→Shared→Prop}
theorem Inv.wish(I:Inv X pins σ H s)(E:Value→Shared→Prop):Inv (X.wish E) pins σ H s:=⟨I.ok.wish E,I.os,I.bare,I.base,I.loc,I.cell,I.free,I.freeC,I.pin,I.hok,I.len⟩
theorem Inv.unwish(I:Inv (X.wish E) pins σ H s):Inv X pins σ H s:=⟨I.ok.unwish,I.os,I.bare,I.base,I.loc,I.cell,I.free,I.freeC,I.pin,I.hok,I.len⟩
theorem SP.unwish{D:Ends}{f:Flow}{s':Shared}(h:SP (X.wish E) pins D f s'):SP X pins D f s':=by
 cases f with
 |next=>obtain⟨σ',H',I,q⟩:=h;exact⟨σ',H',I.unwish,q⟩
 |brk=>obtain⟨σ',H',I,q⟩:=h;exact⟨σ',H',I.unwish,q⟩
 |cont=>obtain⟨σ',H',I,q⟩:=h;exact⟨σ',H',I.unwish,q⟩
 |ret u=>obtain⟨v,σ',H',I,r,q⟩:=h;exact⟨v,σ',H',I.unwish,r,q⟩
theorem PSs.nox{st:List Stmt}{t:TS}(h:PSs X.nox st t):PSs X st t:=fun pins s σ H D I hw =>
 wpAny_mono (h pins s σ H D (I.wish _) hw) (fun _ _ q=>q.unwish) fun _ _ z=>False.elim z
end
section
variable{X:Cx}{st:Stmt}{rest:List Stmt}{t u:TS}{e:Expr}{te:TE}{pos:Pos}
def tNext:TS:=fun D σ H=>D.nx σ H
def tSeq(t u:TS):TS:=fun D σ H=>t { D with nx:=u D } σ H
theorem pss_nil:PSs X [] tNext:=fun _ _ σ H _ I h=>wpAny_execs_nil ⟨σ,H,I,h⟩
theorem pss_cons(h1:PS X st t)(h2:PSs X rest u):PSs X (st::rest) (tSeq t u):=by
 intro pins s σ H D I h
 refine wpAny_execs_cons (thn (h1 pins s σ H { D with nx:=u D } I h) fun f s1 q=>?_)
 cases f with
 |next =>
  obtain⟨σ',H',I',q⟩:=q
  exact h2 pins s1 σ' H' D I' q
 |ret v=>exact q
 |brk=>exact q
 |cont=>exact q
theorem pss_one(h1:PS X st t):PSs X [st] t:=by
 intro pins s σ H D I h
 refine wpAny_execs_cons (thn (h1 pins s σ H D I h) fun f s1 q=>?_)
 cases f with
 |next=>exact wpAny_execs_nil q
 |ret v=>exact q
 |brk=>exact q
 |cont=>exact q
theorem Inv.quiet{pins:List (Addr × Obj)}{σ:St}{H:Hp}{s:Shared}(I:Inv X pins σ H s):interactive X.env=false:=by simp [interactive,I.ok.kind]
def tDrop(te:TE):TS:=fun D σ H=>te σ H fun _ H1=>D.nx σ H1
theorem ps_expr(he:PE X e te)(hs:swapsWith e none pos.line X.env=pure false:=by rfl):PS X (.Expr e pos) (tDrop te):=by
 intro pins s σ H D I h
 exact wpAny_Expr_any (thn (he pins s σ H _ I h) fun v s1 ⟨x,H1,I1,r1,q1⟩=>⟨σ,H1,I1,q1⟩) I.quiet hs
def tRet(te:TE):TS:=fun D σ H=>te σ H D.rt
theorem ps_ret(he:PE X e te):PS X (.Return (some e) pos) (tRet te):=by
 intro pins s σ H D I h
 exact wpAny_Return_some (thn (he pins s σ H _ I h) fun v s1 ⟨x,H1,I1,r1,q1⟩=>⟨x,σ,H1,I1,r1,q1⟩)
def tIfS(c:TT)(t u:TS):TS:=fun D σ H=>c σ H fun b H1=>if b=true then t D σ H1 else u D σ H1
theorem ps_if{c:Expr}{a b:List Stmt}{tc:TT}(hc:PT X c tc)(ha:PSs X a t)(hb:PSs X b u):PS X (.If c a b pos) (tIfS tc t u):=by
 intro pins s σ H D I h
 refine wpAny_If (thn (hc pins s σ H _ I h) fun d s1 ⟨H1,I1,q1⟩=>?_)
 cases d with
 |true=>exact ha pins s1 σ H1 D I1 q1
 |false=>exact hb pins s1 σ H1 D I1 q1
end
abbrev TG:=V→St→Hp→(St→Hp→Prop)→Prop
abbrev TGs:=List V→St→Hp→(St→Hp→Prop)→Prop
def PG(X:Cx)(target:Expr)(t:TG):Prop :=
 ∀(pins:List (Addr × Obj)) (s:Shared) (σ:St) (H:Hp) (v:V) (u:Value) (Q:St→Hp→Prop),Inv X pins σ H s→RelV v u→t v σ H Q →
  wpAny (model X.prog X.w) X.A (assign target X.env u) (fun _ s'=>∃σ' H',Inv X pins σ' H' s'∧Q σ' H') X.xe s
def PGs(X:Cx)(ts:List Expr)(t:TGs):Prop :=
 ∀(pins:List (Addr × Obj)) (s:Shared) (σ:St) (H:Hp) (vs:List V) (us:List Value) (Q:St→Hp→Prop),Inv X pins σ H s→Vals vs us→t vs σ H Q →
  wpAny (model X.prog X.w) X.A (assignInOrder ((assignEach ts X.env).map (·.2)) us) (fun _ s'=>∃σ' H',Inv X pins σ' H' s'∧Q σ' H') X.xe s
abbrev TSet:=V→V→V→Hp→(Hp→Prop)→Prop
def PSet(X:Cx)(t:TSet):Prop :=
 ∀(pins:List (Addr × Obj)) (s:Shared) (σ:St) (H:Hp) (o i v:V) (ov iv u:Value) (Q:Hp→Prop),Inv X pins σ H s→RelV o ov→RelV i iv→RelV v u→t o i v H Q →
  wpAny (model X.prog X.w) X.A (setItem ov iv u) (fun _ s'=>∃H',Inv X pins σ H' s'∧Q H') X.xe s
section
variable{X:Cx}{pos:Pos}
def gName(i:Nat):TG:=fun v σ H Q=>Q (σ.set i (some v)) H
theorem pg_name{i:Nat}{x:Str}(hN:X.N.Nodup)(hi:X.N[i]?=some x)(hx:Loc X.env.scope x)(hf:X.fn x=true∨X.env.scope.names.lookup x=some .local:=by first|exact .inl rfl|exact .inr rfl|assumption):PG X (.Name x pos) (gName i):=by
 intro pins s σ H v u Q I r h
 exact wpAny_assign_Name (store_ok I hN hi hx r (fun s' I'=>⟨_,H,I',h⟩) hf)
def gNil:TGs:=fun vs σ H Q=>vs=[]∧Q σ H
inductive Wc (t:TG) (u:TGs) (vs:List V) (σ:St) (H:Hp) (Q:St→Hp→Prop):Prop
 |mk (v:V) (r:List V) (h:vs=v::r) (q:t v σ H fun σ' H'=>u r σ' H' Q)
def gCons(t:TG)(u:TGs):TGs:=fun vs σ H Q=>Wc t u vs σ H Q
theorem pgs_nil:PGs X [] gNil:=by
 intro pins s σ H vs us Q I r h
 obtain⟨e,h⟩:=h
 subst e
 cases r
 exact assignInOrder_nil ⟨σ,H,I,h⟩
theorem pgs_cons{e:Expr}{es:List Expr}{t:TG}{u:TGs}(h1:PG X e t)(h2:PGs X es u)
  (hs:(assignEach (e::es) X.env).map (·.2)=assign e X.env::(assignEach es X.env).map (·.2):=by rfl):PGs X (e::es) (gCons t u):=by
 intro pins s σ H vs us Q I r h
 obtain⟨v,vr,e1,h⟩:=h
 subst e1
 cases r with
 |cons r rr =>
  rw [hs]
  refine assignInOrder_cons (thn (h1 pins s σ H _ _ _ I r h) fun _ s1 ⟨σ1,H1,I1,q1⟩=>?_)
  exact h2 pins s1 σ1 H1 _ _ Q I1 rr q1
def gTup(K:PySem.W.Frag)(n:Nat)(t:TGs):TG:=fun v σ H Q=>∃a xs,v=.ref a∧SqT K H a xs∧xs.length=n∧t xs σ H Q
theorem pg_tup{es:List Expr}{k:Nat}{t:TGs}{n:Nat}(hc:X.calm=true)(h:PGs X es t)
  (hn:(assignEach es X.env).length=n:=by rfl) (hst:(assignEach es X.env).findIdx? (·.1)=none:=by rfl):PG X (.Tuple es k pos) (gTup X.K n t):=by
 intro pins s σ H v u Q I r hw
 obtain⟨a,xs,e1,hq,hl,hw⟩:=hw
 subst e1
 cases r
 obtain⟨its,rv,ht,hz⟩:=I.tuple hq
 refine assign_Tuple_tuple (I.ok.hd hc) ht (by simp [hn,←hl,rv.length]) hst fun h' hx=>?_
 have I1:Inv X pins σ H { s with heap:=h' }:=I.kept (t':=s.toks) fun b o e=>hx b o (Nat.ne_of_lt (Heap.lt_size e)) e
 exact h pins _ σ H xs _ Q I1 (by simpa using rv) hw
def gSub(to ti:TE)(t:TSet):TG:=fun v σ H Q=>to σ H fun o H1=>ti σ H1 fun i H2=>t o i v H2 fun H3=>Q σ H3
theorem pg_sub{o i:Expr}{to ti:TE}{t:TSet}(ho:PE X o to)(hi:PE X i ti)(hs:PSet X t)
  (ha:∀v,assign (.Subscript o i pos) X.env v=(do
   let ov ←holding [v] (eval o X.env)
   let iv ←holding [v,ov] (eval i X.env)
   standAt pos
   holding [v,ov,iv] (setItem ov iv v)
   release [v,ov,iv] []):=by intro _;rfl):PG X (.Subscript o i pos) (gSub to ti t):=by
 intro pins s σ H v u Q I r h
 rw [ha]
 refine wpAny_bind (wpAny_holding (thn (ho pins s σ H _ I h) fun ov s1 ⟨x,H1,I1,r1,q1⟩=>?_))
 refine wpAny_bind (wpAny_holding (thn (hi pins s1 σ H1 _ I1 q1) fun iv s2 ⟨y,H2,I2,r2,q2⟩=>?_))
 refine wpAny_bind (wpAny_standAt (wpAny_bind (wpAny_holding (thn (hs pins s2 σ H2 x y v ov iv u _ I2 r1 r2 r q2) fun _ s3 ⟨H3,I3,q3⟩=>?_))))
 exact wpAny_release ⟨σ,H3,I3,q3⟩
def tAsg(te:TE)(g:TG):TS:=fun D σ H=>te σ H fun x H1=>g x σ H1 D.nx
theorem ps_asg{tg e:Expr}{te:TE}{g:TG}(he:PE X e te)(hg:PG X tg g)(hs:swapsWithSole [tg] e pos.line X.env=pure false:=by rfl)(hw:swappedStores [tg] e X.env=pure none:=by rfl)
  (h1:(assignEach [tg] X.env).map (·.2)=[assign tg X.env]:=by rfl):PS X (.Assign [tg] e pos) (tAsg te g):=by
 intro pins s σ H D I h
 refine wpAny_Assign_stores (thn (he pins s σ H _ I h) fun v s1 ⟨x,H1,I1,r1,q1⟩=>?_) hs hw
 rw [h1]
 exact thn (hg pins s1 σ H1 x v _ I1 r1 q1) fun _ s2 q=>q
theorem ps_set{i:Nat}{x:Str}{e:Expr}{te:TE}{pos':Pos}(hN:X.N.Nodup)(hi:X.N[i]?=some x)(hx:Loc X.env.scope x)(he:PE X e te)(hs:swapsWith e (some (.Name x pos')) pos.line X.env=pure false:=by rfl)(hf:X.fn x=true∨X.env.scope.names.lookup x=some .local:=by first|exact .inl rfl|exact .inr rfl|assumption) :
  PS X (.Assign [.Name x pos'] e pos) (tAsg te (gName i)):=by
 intro pins s σ H D I h
 refine wpAny_Assign_Name (thn (he pins s σ H _ I h) fun v s1 ⟨y,H1,I1,r1,q1⟩=>?_) hs
 exact store_ok I1 hN hi hx r1 (fun s2 I2=>⟨_,H1,I2,q1⟩) hf
end
section
variable{X:Cx}{pos:Pos}
def tWhile(c:TT)(tb:TS):TS:=fun D σ H=>∃W:Nat→St→Hp→Prop,(∃m,W m σ H)∧∀m σ H,W m σ H →
 c σ H fun b H1=>if b=true then ∃N:St→Hp→Prop,(∀σ' H',N σ' H'→∃m',m' < m∧W m' σ' H')∧tb { D with nx:=N,ct:=N,bk:=D.nx } σ H1 else D.nx σ H1
theorem ps_while{c:Expr}{body:List Stmt}{tc:TT}{tb:TS}(hp:PassesOwn (model X.prog X.w) X.A X.env X.xe)(hc:PT X c tc)(hb:PSs X body tb):PS X (.While c body [] pos) (tWhile tc tb):=by
 intro pins s σ H D I h
 obtain⟨W,⟨m0,w0⟩,turn⟩:=h
 refine wpAny_While (codeAny_whileLoop (fun n s'=>∃σ' H',Inv X pins σ' H' s'∧W n σ' H') ?_ m0 ⟨σ,H,I,w0⟩)
 rintro n s1 ⟨σ1,H1,I1,w1⟩
 refine wpAny_passesOwn hp (thn (hc pins s1 σ1 H1 _ I1 (turn n σ1 H1 w1)) fun b s2 ⟨H2,I2,q2⟩=>?_)
 cases b with
 |true =>
  obtain⟨N,hN,q2⟩:=q2
  rw [if_pos rfl]
  refine wpAny_passesOwn hp (thn (hb pins s2 σ1 H2 _ I2 q2) fun f s3 q3=>?_)
  cases f with
  |next =>
   obtain⟨σ3,H3,I3,n3⟩:=q3
   obtain⟨m',hm,w3⟩:=hN σ3 H3 n3
   exact⟨m',hm,σ3,H3,I3,w3⟩
  |cont =>
   obtain⟨σ3,H3,I3,n3⟩:=q3
   obtain⟨m',hm,w3⟩:=hN σ3 H3 n3
   exact⟨m',hm,σ3,H3,I3,w3⟩
  |brk=>exact q3
  |ret v=>exact q3
 |false =>
  rw [if_neg Bool.false_ne_true]
  exact wpAny_execs_nil ⟨σ1,H2,I2,q2⟩
end
structure It where
 go:Nat→Hp→Prop
 yld:Nat→Hp→V→Hp→Prop
 stop:Nat→Hp→Prop
def FpOk(X:Cx)(pins:List (Addr × Obj))(H:Hp)(b:Addr):Prop :=
 H b=none∧b≠X.env.locals∧b∉X.fs∧(b∈X.ex∨X.s₀.heap.objs.size≤b)∧(∀x c,X.env.cells.lookup x=some c→c≠b)∧∀p∈X.pn++pins,p.1≠b
theorem Inv.fpOk{X:Cx}{pins:List (Addr × Obj)}{σ:St}{H H':Hp}{s:Shared}{b:Addr}(I:Inv X pins σ H s)(hb:s.heap.objs.size≤b)(hn:H' b=none):FpOk X pins H' b:=by
 refine⟨hn,Nat.ne_of_gt (Nat.lt_of_lt_of_le I.lt hb),I.nofs hb,.inr (Nat.le_trans I.sz hb),fun x c e z=>?_,fun p hp z=>?_⟩
 ·obtain⟨v,q⟩:=I.cell x c e
  exact absurd (Nat.lt_of_lt_of_le q.lt (by rw [z];exact hb)) (Nat.lt_irrefl _)
 ·exact absurd (Nat.lt_of_lt_of_le (Heap.lt_size (I.pin p hp).1) (by rw [z];exact hb)) (Nat.lt_irrefl _)
structure Turn(P:Program)(w:World)(K:PySem.W.Frag)(tg:Expr)(J:It)(fp:List Addr)(it:Addr)(tn:Nat→Heap→Prop):Prop where
 mem:it∈fp
 obj:∀i h,tn i h→∀b∈fp,∃o,h.get? b=some o∧∀v,o.data≠.cell v
 keep:∀i h h',tn i h→(∀b∈fp,∀o,h.get? b=some o→h'.get? b=some o)→tn i h'
 item:∀(X:Cx),X.prog=P→X.w=w→X.K=K→X.calm=true→∀(i:Nat) (pins:List (Addr × Obj)) (s:Shared) (σ:St) (H:Hp) (E:Value→Shared→Prop),Inv X pins σ H s→(∀b∈fp,FpOk X pins H b)→tn i s.heap→J.go i H →
  wpAny (model P w) X.A (pyNext (.ref it)) (fun r s1=>∃u,r=some u ∧
   wpAny (model P w) X.A (letOwnedTupleGo tg (.ref it) u) (fun _ s2=>∃x H',Inv X pins σ H' s2∧RelV x u∧J.yld i H x H'∧tn (i+1) s2.heap∧∀b∈fp,H' b=none) E s1) E s
 done:∀(X:Cx),X.prog=P→X.w=w→X.K=K→X.calm=true→∀(i:Nat) (pins:List (Addr × Obj)) (s:Shared) (σ:St) (H:Hp) (E:Value→Shared→Prop),Inv X pins σ H s→(∀b∈fp,FpOk X pins H b)→tn i s.heap→J.stop i H →
  wpAny (model P w) X.A (pyNext (.ref it)) (fun r s1=>r=none∧Inv X pins σ H s1) E s
 self:∀(A:Around) (i:Nat) (s:Shared) (Q:Value→Shared→Prop) (E:Value→Shared→Prop),tn i s.heap→Q (.ref it) s→wpAny (model P w) A (pyIter (.ref it)) Q E s
abbrev TI:=St→Hp→(It→Hp→Prop)→Prop
def PIE(X:Cx)(pins:List (Addr × Obj))(σ:St)(tg:Expr)(R:It→Hp→Prop)(itv:Value)(s2:Shared):Prop :=
 ∃(it:Addr) (fp:List Addr) (tn:Nat→Heap→Prop) (J:It) (H':Hp),itv=.ref it∧Inv X pins σ H' s2∧Turn X.prog X.w X.K tg J fp it tn∧tn 0 s2.heap∧(∀b∈fp,FpOk X pins H' b)∧R J H'
def PI(X:Cx)(tg iter:Expr)(wi:TI):Prop :=
 ∀(pins:List (Addr × Obj)) (s:Shared) (σ:St) (H:Hp) (R:It→Hp→Prop),Inv X pins σ H s→wi σ H R →
  wpAny (model X.prog X.w) X.A (eval iter X.env) (fun v s1=>wpAny (model X.prog X.w) X.A (pyIter v) (PIE X pins σ tg R) X.xe s1) X.xe s
theorem go_of{M:Model}{A:Around}{E:Value→Shared→Prop}{s:Shared}{tg:Expr}{it:Addr}{u:Value}{o:Obj}{n:String}{vs:Array Value}{Q:Unit→Shared→Prop}(ho:s.heap.get? it=some o)(hc:o.cls=.type n)(hd:o.data=.fields vs)
    (hn:["enumerate","zip","dict_itemiterator","dict_reverseitemiterator","odict_iterator","itertools.zip_longest","itertools.pairwise"].contains n=false) (hQ:Q () s):wpAny M A (letOwnedTupleGo tg (.ref it) u) Q E s:=by
  unfold letOwnedTupleGo
  cases tg<;>first
    | exact wpAny_pure hQ
    | (cases u<;>first
        | exact wpAny_pure hQ
        | (refine wpAny_bind (wpAny_load ho ?_)
           rw [hc,hd]
           show wpAny M A (if (["enumerate","zip","dict_itemiterator","dict_reverseitemiterator","odict_iterator","itertools.zip_longest","itertools.pairwise"].contains n&&vs[0]?==some (rawInt _))=true then _ else _) Q E s
           rw [if_neg (by intro h;rw [hn,Bool.false_and] at h;cases h)]
           exact wpAny_pure hQ))
def Itl(K:PySem.W.Frag)(a:Addr):It :=
 ⟨fun i H=>∃xs x,SqL K H a xs∧xs[i]?=some x,fun i H x H'=>H'=H∧∀xs,SqL K H a xs→xs[i]?=some x,fun i H=>∃xs,SqL K H a xs∧xs.length≤i⟩
def Itt(K:PySem.W.Frag)(a:Addr):It :=
 ⟨fun i H=>∃xs x,SqT K H a xs∧xs[i]?=some x,fun i H x H'=>H'=H∧∀xs,SqT K H a xs→xs[i]?=some x,fun i H=>∃xs,SqT K H a xs∧xs.length≤i⟩
def Itr(lo:Int)(n:Nat):It:=⟨fun i _=>i < n,fun i H x H'=>H'=H∧x=.int (lo+i),fun i _=>n≤i⟩
theorem turn_list{P:Program}{w:World}{K:PySem.W.Frag}{tg:Expr}(a it:Addr):Turn P w K tg (Itl K a) [it] it (fun i h=>h.IsListIter it a i) where
 mem:=by simp
 obj:=fun i h st b hb=>by
  have e:b=it:=by simpa using hb
  subst e
  obtain⟨o,e,c,d⟩:=st
  exact⟨o,e,fun v z=>by rw [d] at z;cases z⟩
 keep:=fun i h h' st k=>st.at fun o e=>k it (by simp) o e
 item:=by
  intro X hP hw hK hc i pins s σ H E I hf st hg
  subst hP hw hK
  obtain⟨xs,x,hq,hx⟩:=hg
  obtain⟨its,rv,p,hz⟩:=I.list hq
  obtain⟨u,hu,ru⟩:=rv.get hx
  obtain⟨f0,f1,f2,f3,f4,f5⟩:=hf it (by simp)
  refine wpAny_pyNext_list_item st p.isList (x:=u) (by simpa using hu) fun h' st' sb=>?_
  have I1:Inv X pins σ H { s with heap:=h' }:=I.turned (t':=s.toks) (fun b o hb e=>(sb.2 b hb).trans e) f0 f1 f3 f4 f5
  obtain⟨o,e,c,d⟩:=id st'
  exact⟨u,rfl,go_of (s:={ s with heap:=h' }) e c d (by decide) ⟨x,H,I1,ru,⟨rfl,fun ys hy=>by rw [I.list_inj hy hq];exact hx⟩,st',fun b hb=>(hf b hb).1⟩⟩
 done:=by
  intro X hP hw hK hc i pins s σ H E I hf st hg
  subst hP hw hK
  obtain⟨xs,hq,hx⟩:=hg
  obtain⟨its,rv,p,hz⟩:=I.list hq
  obtain⟨f0,f1,f2,f3,f4,f5⟩:=hf it (by simp)
  have hl:=rv.length
  exact wpAny_pyNext_list_end (I.ok.hd hc) st p.isList (by simp;omega) fun h' eb=>⟨rfl,I.turned (t':=s.toks) (fun b o hb e=>eb b o hb e) f0 f1 f3 f4 f5⟩
 self:=fun _ _ _ _ _ st h=>wpAny_pyIter_listiter st h
theorem turn_tuple{P:Program}{w:World}{K:PySem.W.Frag}{tg:Expr}(a it:Addr):Turn P w K tg (Itt K a) [it] it (fun i h=>h.IsTupleIter it a i) where
 mem:=by simp
 obj:=fun i h st b hb=>by
  have e:b=it:=by simpa using hb
  subst e
  obtain⟨o,e,c,d⟩:=st
  exact⟨o,e,fun v z=>by rw [d] at z;cases z⟩
 keep:=fun i h h' st k=>st.at fun o e=>k it (by simp) o e
 item:=by
  intro X hP hw hK hc i pins s σ H E I hf st hg
  subst hP hw hK
  obtain⟨xs,x,hq,hx⟩:=hg
  obtain⟨its,rv,p,hz⟩:=I.tuple hq
  obtain⟨u,hu,ru⟩:=rv.get hx
  obtain⟨f0,f1,f2,f3,f4,f5⟩:=hf it (by simp)
  refine wpAny_pyNext_tuple_item st (show s.heap.IsTuple a its.toArray from p) (x:=u) (by simpa using hu) fun h' st' sb=>?_
  have I1:Inv X pins σ H { s with heap:=h' }:=I.turned (t':=s.toks) (fun b o hb e=>(sb.2 b hb).trans e) f0 f1 f3 f4 f5
  obtain⟨o,e,c,d⟩:=id st'
  exact⟨u,rfl,go_of (s:={ s with heap:=h' }) e c d (by decide) ⟨x,H,I1,ru,⟨rfl,fun ys hy=>by rw [I.tuple_inj hy hq];exact hx⟩,st',fun b hb=>(hf b hb).1⟩⟩
 done:=by
  intro X hP hw hK hc i pins s σ H E I hf st hg
  subst hP hw hK
  obtain⟨xs,hq,hx⟩:=hg
  obtain⟨its,rv,p,hz⟩:=I.tuple hq
  obtain⟨f0,f1,f2,f3,f4,f5⟩:=hf it (by simp)
  have hl:=rv.length
  exact wpAny_pyNext_tuple_end (I.ok.hd hc) st (show s.heap.IsTuple a its.toArray from p) (by simp;omega) fun h' eb=>⟨rfl,I.turned (t':=s.toks) (fun b o hb e=>eb b o hb e) f0 f1 f3 f4 f5⟩
 self:=fun _ _ _ _ _ st h=>wpAny_pyIter_tupleiter st h
theorem turn_range{P:Program}{w:World}{K:PySem.W.Frag}{tg:Expr}(it:Addr)(lo:Int)(n:Nat):Turn P w K tg (Itr lo n) [it] it (fun i h=>IsRangeIter h it (lo+(i:Nat)*1) ((n:Int) - (i:Nat)) 1) where
 mem:=by simp
 obj:=fun i h st b hb=>by
  have e:b=it:=by simpa using hb
  subst e
  exact⟨_,st,fun v z=>by
   have z':Data.fields _=Data.cell v:=z
   cases z'⟩
 keep:=fun i h h' st k=>k it (by simp) _ st
 item:=by
  intro X hP hw hK hc i pins s σ H E I hf st hg
  subst hP hw hK
  obtain⟨f0,f1,f2,f3,f4,f5⟩:=hf it (by simp)
  have W:=Walks.range (prog:=X.prog) (w:=X.w) (I.ok.hd hc) it lo 1 n
  refine W.item i s _ _ hg st fun v h' tk hv st' kk=>?_
  obtain⟨t,rfl⟩:=hv
  have I1:Inv X pins σ H { s with heap:=h',toks:=tk }:=I.turned (fun b o hb e=>kk b o (by simpa using hb) e) f0 f1 f3 f4 f5
  refine⟨_,rfl,go_of (s:={ s with heap:=h',toks:=tk }) (n:="range_iterator") st' rfl rfl (by decide) ⟨.int (lo+i),H,I1,⟨t,?_⟩,⟨rfl,rfl⟩,st',fun b hb=>(hf b hb).1⟩⟩
  rw [Int.mul_one]
 done:=by
  intro X hP hw hK hc i pins s σ H E I hf st hg
  subst hP hw hK
  obtain⟨f0,f1,f2,f3,f4,f5⟩:=hf it (by simp)
  exact wpAny_pyNext_range_end (I.ok.hd hc) st (by have:n≤i:=hg;omega) fun h' eb=>⟨rfl,I.turned (t':=s.toks) (fun b o hb e=>eb b o hb e) f0 f1 f3 f4 f5⟩
 self:=fun _ _ _ _ _ st h=>wpAny_pyIter_rangeiter st h
end L2
namespace L2
open PySem PySem.Spec PyProof.Rows
section
variable{X:Cx}{tg:Expr}
def iList(K:PySem.W.Frag)(tl:TE):TI:=fun σ H R=>tl σ H fun x H1=>∃a,x=.ref a∧(∃xs,SqL K H1 a xs)∧R (Itl K a) H1
def iTup(K:PySem.W.Frag)(tl:TE):TI:=fun σ H R=>tl σ H fun x H1=>∃a,x=.ref a∧(∃xs,SqT K H1 a xs)∧R (Itt K a) H1
theorem pi_list{l:Expr}{tl:TE}(hl:PE X l tl):PI X tg l (iList X.K tl):=by
 intro pins s σ H R I h
 refine thn (hl pins s σ H _ I h) fun v s1 ⟨x,H1,I1,r1,q1⟩=>?_
 obtain⟨a,e,⟨xs,hq⟩,q⟩:=q1
 subst e
 cases r1
 obtain⟨its,rv,p,hz⟩:=I1.list hq
 refine wpAny_pyIter_list p.isList ?_
 refine⟨s1.heap.objs.size,[s1.heap.objs.size],_,_,H1,rfl,I1.kept (t':=s1.toks) fun b o e=>Heap.get?_push_of_some _ e,turn_list a _,⟨_,Heap.get?_push_size _ rfl,rfl,rfl⟩,fun b hb=>?_,q⟩
 have e:b=s1.heap.objs.size:=by simpa using hb
 subst e
 exact I1.fpOk (Nat.le_refl _) (I1.hok.fresh (Nat.le_refl _))
theorem pi_tup{l:Expr}{tl:TE}(hl:PE X l tl):PI X tg l (iTup X.K tl):=by
 intro pins s σ H R I h
 refine thn (hl pins s σ H _ I h) fun v s1 ⟨x,H1,I1,r1,q1⟩=>?_
 obtain⟨a,e,⟨xs,hq⟩,q⟩:=q1
 subst e
 cases r1
 obtain⟨its,rv,p,hz⟩:=I1.tuple hq
 refine wpAny_pyIter_tuple (show s1.heap.IsTuple a its.toArray from p) ?_
 refine⟨s1.heap.objs.size,[s1.heap.objs.size],_,_,H1,rfl,I1.kept (t':=s1.toks) fun b o e=>Heap.get?_push_of_some _ e,turn_tuple a _,⟨_,Heap.get?_push_size _ rfl,rfl,rfl⟩,fun b hb=>?_,q⟩
 have e:b=s1.heap.objs.size:=by simpa using hb
 subst e
 exact I1.fpOk (Nat.le_refl _) (I1.hok.fresh (Nat.le_refl _))
theorem range_it{pins:List (Addr × Obj)}{σ:St}{H:Hp}{s:Shared}{R:It→Hp→Prop}{E:Value→Shared→Prop}{lo hi:Int}{t u v:Tok}{tk:Nat}(I:Inv X pins σ H s)(h1:-(2 ^ 62)≤lo)(h2:lo < 2 ^ 62)(h3:-(2 ^ 62)≤hi)(h4:hi < 2 ^ 62)
  (q:R (Itr lo (hi - lo).toNat) H):wpAny (model X.prog X.w) X.A (pyIter (.ref s.heap.objs.size)) (PIE X pins σ tg R) E { s with heap:=s.heap.push { cls:=.type "range",data:=.fields #[.int lo t,.int hi u,.int 1 v] },toks:=tk }:=by
 refine wpAny_pyIter_range (IsRange.new ..) (small_one h1 h2 h3 h4) ?_
 have I1:Inv X pins σ H { s with heap:=s.heap.push { cls:=.type "range",data:=.fields #[.int lo t,.int hi u,.int 1 v] },toks:=tk }:=I.kept fun b o e=>Heap.get?_push_of_some _ e
 refine⟨(s.heap.push { cls:=.type "range",data:=.fields #[.int lo t,.int hi u,.int 1 v] }).objs.size,[(s.heap.push { cls:=.type "range",data:=.fields #[.int lo t,.int hi u,.int 1 v] }).objs.size],_,_,H,rfl,
  I1.kept (t':=tk) fun b o e=>Heap.get?_push_of_some _ e,turn_range _ lo (hi - lo).toNat,?_,fun b hb=>?_,q⟩
 ·have e1:lo+((0:Nat):Int)*1=lo:=by simp
  have e2:(((hi - lo).toNat:Nat):Int) - ((0:Nat):Int)=Builtin.Range.rangeSize lo hi 1:=by rw [rangeSize_one];split<;>omega
  show IsRangeIter _ _ (lo+((0:Nat):Int)*1) ((((hi - lo).toNat:Nat):Int) - ((0:Nat):Int)) 1
  rw [e1,e2]
  exact Heap.get?_push_size _ rfl
 ·have e:b=(s.heap.push { cls:=.type "range",data:=.fields #[.int lo t,.int hi u,.int 1 v] }).objs.size:=by simpa using hb
  subst e
  exact I1.fpOk (Nat.le_refl _) (I1.hok.fresh (Nat.le_refl _))
def iRng1(ta:TA):TI:=fun σ H R=>ta σ H fun vs H1=>∃j:Int,vs=[.int j]∧-(2 ^ 62)≤j∧j < 2 ^ 62∧R (Itr 0 j.toNat) H1
theorem pi_range1{a:Expr}{ta:TA}{p pos:Pos} (hg:Gl X "range") (hm:X.mg "range"=none) (ha:PA X [a] ta) (hs:starEach [a] X.env=[(false,eval a X.env)]:=by rfl):PI X tg (.Call (.Name "range" p) [a] [] pos) (iRng1 ta):=by
 intro pins s σ H R I h
 refine Call_ (ld_blt I hg hm boot_range (PyProof.Rows.callWith_type1 (thn (ha pos pins s σ H _ I h) fun us s1 ⟨vs,H1,I1,r1,q1⟩=>?_) hs rfl))
 obtain⟨j,e,q1,q2,q⟩:=q1
 subst e
 cases r1 with
 |cons r rr =>
  cases rr
  obtain⟨t,rfl⟩:=r
  exact call_range_1 (range_it I1 (by omega) (by omega) q1 q2 (by simpa using q))
def tFor(wi:TI)(g:TG)(tb:TS):TS:=fun D σ H=>wi σ H fun J H1=>∃W:Nat→Nat→St→Hp→Prop,(∃m,W 0 m σ H1)∧∀i m σ H,W i m σ H →
 (J.stop i H∧D.nx σ H)∨(J.go i H∧∃N:St→Hp→Prop,(∀σ' H',N σ' H'→∃m',m' < m∧W (i+1) m' σ' H')∧∀x H',J.yld i H x H'→g x σ H' fun σ2 H2=>tb { D with nx:=N,ct:=N,bk:=D.nx } σ2 H2)
def pinsAt(fp:List Addr)(h:Heap):List (Addr × Obj):=fp.filterMap fun b=>(h.get? b).map fun o=>(b,o)
theorem mem_pinsAt{fp:List Addr}{h:Heap}{b:Addr}{o:Obj}(hb:b∈fp)(e:h.get? b=some o):(b,o)∈pinsAt fp h:=List.mem_filterMap.mpr ⟨b,hb,by rw [e];rfl⟩
theorem of_pinsAt{fp:List Addr}{h:Heap}{p:Addr × Obj}(hp:p∈pinsAt fp h):p.1∈fp∧h.get? p.1=some p.2:=by
 obtain⟨b,hb,e⟩:=List.mem_filterMap.mp hp
 cases q:h.get? b with
 |none=>rw [q] at e;cases e
 |some o =>
  rw [q] at e
  have e':(b,o)=p:=Option.some.inj e
  subst e'
  exact⟨hb,q⟩
theorem Inv.pinned{pins:List (Addr × Obj)}{σ:St}{H:Hp}{s:Shared}{fp:List Addr}(I:Inv X pins σ H s)(hf:∀b∈fp,FpOk X pins H b)(ho:∀b∈fp,∃o,s.heap.get? b=some o∧∀v,o.data≠.cell v):Inv X (pins++pinsAt fp s.heap) σ H s :=
 I.pins_of fun p hp=>(List.mem_append.mp hp).elim (fun z=>I.pin p (List.mem_append_right _ z)) fun z=>by
  obtain⟨hb,e⟩:=of_pinsAt z
  obtain⟨f0,f1,f2,_⟩:=hf p.1 hb
  obtain⟨o,e',d⟩:=ho p.1 hb
  rw [e] at e';cases e'
  exact⟨e,f0,f1,f2,d⟩
theorem Inv.unpinned{pins pl:List (Addr × Obj)}{σ:St}{H:Hp}{s:Shared}(I:Inv X (pins++pl) σ H s):Inv X pins σ H s:=I.pins_of fun p hp=>I.pin p (List.mem_append_right _ (List.mem_append_left _ hp))
theorem ps_for{iter:Expr}{body:List Stmt}{wi:TI}{g:TG}{tb:TS}{pos:Pos}(hp:PassesOwn (model X.prog X.w) X.A X.env X.xe)(hc:X.calm=true)(hi:PI X tg iter wi)(hg:PG X tg g)(hb:PSs X body tb)
  (hs:∀x,foldedSetIterable iter X.env x=pure x:=by intro _;rfl):PS X (.For tg iter body [] pos) (tFor wi g tb):=by
 intro pins s σ H D I h
 refine wpAny_For (thn (hi pins s σ H _ I h) fun v s1 h1=>thn h1 fun itv s2 h2=>?_) hs
 obtain⟨it,fp,tn,J,H2,e,I2,T,st2,f2,W,⟨m0,w0⟩,turn⟩:=h2
 subst e
 have stat:∀{H':Hp},(∀b∈fp,H' b=none)→∀b∈fp,FpOk X pins H' b:=fun hn b hb=>⟨hn b hb,(f2 b hb).2⟩
 refine codeAny_forLoop_any (fun n s'=>∃i σ' H',Inv X pins σ' H' s'∧tn i s'.heap∧(∀b∈fp,H' b=none)∧W i n σ' H') ?_ m0 ⟨0,σ,H2,I2,st2,fun b hb=>(f2 b hb).1,w0⟩
 rintro n s3 ⟨i,σ3,H3,I3,st3,fr3,w3⟩
 rcases turn i n σ3 H3 w3 with ⟨stop,qn⟩|⟨go,N,hN,step⟩
 ·refine wpAny_passesOwn hp (thn (T.done X rfl rfl rfl hc i pins s3 σ3 H3 X.xe I3 (stat fr3) st3 stop) fun r s4 ⟨hr,I4⟩=>?_)
  subst hr
  exact wpAny_execs_nil ⟨σ3,H3,I4,qn⟩
 ·refine wpAny_passesOwn hp (thn (T.item X rfl rfl rfl hc i pins s3 σ3 H3 X.xe I3 (stat fr3) st3 go) fun r s4 ⟨u,hr,h4⟩=>?_)
  subst hr
  refine wpAny_passesOwn hp (thn h4 fun _ s5 ⟨x,H5,I5,r5,y5,st5,fr5⟩=>?_)
  have I5':=I5.pinned (stat fr5) (T.obj _ _ st5)
  refine wpAny_passesOwn hp (thn (hg _ s5 σ3 H5 x u _ I5' r5 (step x H5 y5)) fun _ s6 ⟨σ6,H6,I6,q6⟩=>?_)
  refine wpAny_passesOwn hp (thn (hb _ s6 σ6 H6 _ I6 q6) fun f s7 q7=>?_)
  have again:∀{σ7:St} {H7:Hp},Inv X (pins++pinsAt fp s5.heap) σ7 H7 s7→N σ7 H7→∃m,m < n∧∃i σ' H',Inv X pins σ' H' s7∧tn i s7.heap∧(∀b∈fp,H' b=none)∧W i m σ' H':=fun {σ7 H7} I7 n7=>by
   obtain⟨m',hm,w7⟩:=hN σ7 H7 n7
   refine⟨m',hm,i+1,σ7,H7,I7.unpinned,T.keep _ _ _ st5 fun b hb o e=>(I7.pin (b,o) (List.mem_append_right _ (List.mem_append_right _ (mem_pinsAt hb e)))).1,fun b hb=>?_,w7⟩
   obtain⟨o,e,d⟩:=T.obj _ _ st5 b hb
   exact(I7.pin (b,o) (List.mem_append_right _ (List.mem_append_right _ (mem_pinsAt hb e)))).2.1
  cases f with
  |next=>obtain⟨σ7,H7,I7,n7⟩:=q7;exact again I7 n7
  |cont=>obtain⟨σ7,H7,I7,n7⟩:=q7;exact again I7 n7
  |brk=>obtain⟨σ7,H7,I7,q7⟩:=q7;exact⟨σ7,H7,I7.unpinned,q7⟩
  |ret v=>obtain⟨x7,σ7,H7,I7,r7,q7⟩:=q7;exact⟨x7,σ7,H7,I7.unpinned,r7,q7⟩
end
theorem for_list{K:PySem.W.Frag}{a:Addr}{xs:List V}{g:TG}{tb:TS}{D:Ends}{σ:St}{H:Hp}(Pv:Nat→St→Hp→Prop)(h0:Pv 0 σ H)(hl:∀i σ H,i≤xs.length→Pv i σ H→SqL K H a xs)
  (hs:∀i x σ H,xs[i]?=some x→Pv i σ H→g x σ H fun σ2 H2=>tb { D with nx:=Pv (i+1),ct:=Pv (i+1),bk:=D.nx } σ2 H2) (hd:∀σ H,Pv xs.length σ H→D.nx σ H) :
  ∃W:Nat→Nat→St→Hp→Prop,(∃m,W 0 m σ H)∧∀i m σ H,W i m σ H →
   ((Itl K a).stop i H∧D.nx σ H)∨((Itl K a).go i H∧∃N:St→Hp→Prop,(∀σ' H',N σ' H'→∃m',m' < m∧W (i+1) m' σ' H')∧∀x H',(Itl K a).yld i H x H'→g x σ H' fun σ2 H2=>tb { D with nx:=N,ct:=N,bk:=D.nx } σ2 H2):=by
 refine⟨fun i m σ H=>m=xs.length - i∧i≤xs.length∧Pv i σ H,⟨xs.length,by simp,Nat.zero_le _,h0⟩,?_⟩
 rintro i m σ H ⟨rfl,hi,p⟩
 have q:=hl i σ H hi p
 by_cases hlt:i < xs.length
 ·refine .inr ⟨⟨xs,xs[i],q,by simp [hlt]⟩,Pv (i+1),fun σ' H' p'=>⟨xs.length - (i+1),by omega,rfl,hlt,p'⟩,fun x H' y=>?_⟩
  obtain⟨e,y⟩:=y
  subst e
  exact hs i x σ _ (y xs q) p
 ·have e:i=xs.length:=by omega
  subst e
  exact .inl ⟨⟨xs,q,Nat.le_refl _⟩,hd σ H p⟩
theorem for_range{lo:Int}{n:Nat}{g:TG}{tb:TS}{D:Ends}{σ:St}{H:Hp}(Pv:Nat→St→Hp→Prop)(h0:Pv 0 σ H)
  (hs:∀i σ H,i < n→Pv i σ H→g (.int (lo+i)) σ H fun σ2 H2=>tb { D with nx:=Pv (i+1),ct:=Pv (i+1),bk:=D.nx } σ2 H2) (hd:∀σ H,Pv n σ H→D.nx σ H) :
  ∃W:Nat→Nat→St→Hp→Prop,(∃m,W 0 m σ H)∧∀i m σ H,W i m σ H →
   ((Itr lo n).stop i H∧D.nx σ H)∨((Itr lo n).go i H∧∃N:St→Hp→Prop,(∀σ' H',N σ' H'→∃m',m' < m∧W (i+1) m' σ' H')∧∀x H',(Itr lo n).yld i H x H'→g x σ H' fun σ2 H2=>tb { D with nx:=N,ct:=N,bk:=D.nx } σ2 H2):=by
 refine⟨fun i m σ H=>m=n - i∧i≤n∧Pv i σ H,⟨n,by simp,Nat.zero_le _,h0⟩,?_⟩
 rintro i m σ H ⟨rfl,hi,p⟩
 by_cases hlt:i < n
 ·refine .inr ⟨hlt,Pv (i+1),fun σ' H' p'=>⟨n - (i+1),by omega,rfl,hlt,p'⟩,fun x H' y=>?_⟩
  obtain⟨e,y⟩:=y
  subst e y
  exact hs i σ _ hlt p
 ·have e:i=n:=by omega
  subst e
  exact .inl ⟨Nat.le_refl _,hd σ H p⟩
end L2
namespace L2
open PySem PySem.Spec PyProof.Rows
abbrev R2:=V→V→Hp→VK→Prop
def OpR(X:Cx)(f:Value→Value→Sem Value)(r:R2):Prop :=
 ∀(pins:List (Addr × Obj)) (s:Shared) (σ:St) (H:Hp) (x y:V) (v u:Value) (Q:VK),Inv X pins σ H s→RelV x v→RelV y u→r x y H Q →
  wpAny (model X.prog X.w) X.A (f v u) (EP X pins σ Q) X.xe s
def CallR(X:Cx)(f:Value)(r:List V→Hp→VK→Prop):Prop :=
 ∀(pins:List (Addr × Obj)) (s:Shared) (σ:St) (H:Hp) (xs:List V) (us:List Value) (Q:VK),Inv X pins σ H s→Vals xs us→r xs H Q →
  wpAny (model X.prog X.w) X.A (call f us) (EP X pins σ Q) X.xe s
def tOp(r:R2)(ta tb:TE):TE:=fun σ H Q=>ta σ H fun x H1=>tb σ H1 fun y H2=>r x y H2 Q
inductive Wd (C:Int→Int→Prop) (g:Int→Int→V) (x y:V) (H:Hp) (Q:VK):Prop
 |mk (i j:Int) (a:x=.int i) (b:y=.int j) (c:C i j) (q:Q (g i j) H)
def rI(C:Int→Int→Prop)(g:Int→Int→V):R2:=fun x y H Q=>Wd C g x y H Q
inductive We (g:Int→Int→V) (x y:V) (H:Hp) (Q:VK):Prop
 |mk (i j:Int) (a:x=.int i) (b:y=.int j) (q:Q (g i j) H)
def rI0(g:Int→Int→V):R2:=fun x y H Q=>We g x y H Q
section
variable{X:Cx}{a b c:Expr}{ta tb tc:TE}{pos:Pos}
theorem binT(ha:PE X a ta)(hb:PE X b tb){pins:List (Addr × Obj)}{s:Shared}{σ:St}{H:Hp}{R:V→V→Hp→Prop}(I:Inv X pins σ H s)
  (h:ta σ H fun x H1=>tb σ H1 fun y H2=>R x y H2) {Q:Value→Shared→Prop} {f:Value→Value→Sem Value}
  (hf:∀v u s2 x y H2,Inv X pins σ H2 s2→RelV x v→RelV y u→R x y H2→wpAny (model X.prog X.w) X.A (f v u) Q X.xe s2) :
  wpAny (model X.prog X.w) X.A (eval a X.env) (fun v s₁=>wpAny (model X.prog X.w) X.A (eval b X.env) (fun u s₂=>wpAny (model X.prog X.w) X.A (f v u) Q X.xe s₂) X.xe s₁) X.xe s:=by
 refine thn (ha pins s σ H _ I h) fun v s1 ⟨x,H1,I1,r1,q1⟩=>?_
 refine thn (hb pins s1 σ H1 _ I1 q1) fun u s2 ⟨y,H2,I2,r2,q2⟩=>?_
 exact hf v u s2 x y H2 I2 r1 r2 q2
theorem pe_op{op:Operator}{r:R2}(ho:OpR X (binaryOp op) r)(ha:PE X a ta)(hb:PE X b tb):PE X (.BinOp a op b pos) (tOp r ta tb):=by
 intro pins s σ H Q I h
 exact wpAny_BinOp (binT ha hb I h fun v u s2 x y H2 I2 rx ry q=>ho pins s2 σ H2 x y v u Q I2 rx ry q)
theorem opI{f:Value→Value→Sem Value}{C:Int→Int→Prop}{g:Int→Int→Int}
  (rule:∀(i j:Int) (t u:Tok) (s:Shared) (Q:Value→Shared→Prop) (E:Value→Shared→Prop),C i j→Q (.int (g i j) s.toks) { s with toks:=s.toks+1 }→wpAny (model X.prog X.w) X.A (f (.int i t) (.int j u)) Q E s) :
  OpR X f (rI C fun i j=>.int (g i j)):=by
 intro pins s σ H x y v u Q I rx ry h
 obtain⟨i,j,rfl,rfl,hc,q⟩:=h
 obtain⟨t,rfl⟩:=rx
 obtain⟨t',rfl⟩:=ry
 exact rule i j t t' s _ _ hc ⟨.int (g i j),H,I.tok _,⟨_,rfl⟩,q⟩
theorem opI0{f:Value→Value→Sem Value}{g:Int→Int→Int}
  (rule:∀(i j:Int) (t u:Tok) (s:Shared) (Q:Value→Shared→Prop) (E:Value→Shared→Prop),Q (.int (g i j) s.toks) { s with toks:=s.toks+1 }→wpAny (model X.prog X.w) X.A (f (.int i t) (.int j u)) Q E s) :
  OpR X f (rI0 fun i j=>.int (g i j)):=by
 intro pins s σ H x y v u Q I rx ry h
 obtain⟨i,j,rfl,rfl,q⟩:=h
 obtain⟨t,rfl⟩:=rx
 obtain⟨t',rfl⟩:=ry
 exact rule i j t t' s _ _ ⟨.int (g i j),H,I.tok _,⟨_,rfl⟩,q⟩
theorem opB0{f:Value→Value→Sem Value}{g:Int→Int→Bool}
  (rule:∀(i j:Int) (t u:Tok) (s:Shared) (Q:Value→Shared→Prop) (E:Value→Shared→Prop),Q (.bool (g i j)) s→wpAny (model X.prog X.w) X.A (f (.int i t) (.int j u)) Q E s) :
  OpR X f (rI0 fun i j=>.bl (g i j)):=by
 intro pins s σ H x y v u Q I rx ry h
 obtain⟨i,j,rfl,rfl,q⟩:=h
 obtain⟨t,rfl⟩:=rx
 obtain⟨t',rfl⟩:=ry
 exact rule i j t t' s _ _ ⟨.bl (g i j),H,I,rfl,q⟩
def CPow(i j:Int):Prop:=0≤j∧j≤1000000∧i.natAbs < 2 ^ 64
def CMul(i j:Int):Prop:=(-(2 ^ 64) < i∧i < 2 ^ 64)∨(-(2 ^ 64) < j∧j < 2 ^ 64)
theorem CMul.ok{i j:Int}(h:CMul i j):IntMulOk i j:=by
 rcases h with ⟨h1,h2⟩|⟨h1,h2⟩
 ·exact .of_left (intBits_le_64 h1 h2)
 ·exact .of_right (intBits_le_64 h1 h2)
theorem op_add:OpR X (binaryOp .Add) (rI0 fun i j=>.int (i+j)):=opI0 fun _ _ _ _ _ _ _ q=>add_int q
theorem op_sub:OpR X (binaryOp .Sub) (rI0 fun i j=>.int (i - j)):=opI0 fun _ _ _ _ _ _ _ q=>sub_int q
theorem op_mul:OpR X (binaryOp .Mult) (rI CMul fun i j=>.int (i*j)):=opI fun _ _ _ _ _ _ _ hc q=>mul_int q hc.ok
theorem op_mod:OpR X (binaryOp .Mod) (rI (fun _ j=>0 < j) fun i j=>.int (i%j)):=opI fun i j _ _ _ _ _ hc q=>by
 have h1:(0:Int) < j:=hc
 exact mod_int' (by omega) (by rw [Int.fmod_eq_emod_of_nonneg i (by omega)];exact q)
theorem op_pow:OpR X (binaryOp .Pow) (rI CPow fun i j=>.int (i ^ j.toNat)):=opI fun _ _ _ _ _ _ _ hc q=>pow_int_small hc.1 hc.2.1 hc.2.2 q
end
def scal:V→V→Bool
 |.non,.non=>true|.non,.int _=>true|.int _,.non=>true|.non,.bl _=>true|.bl _,.non=>true|.non,.str _=>true|.str _,.non=>true
 |.int _,.int _=>true|.bl _,.bl _=>true|.str _,.str _=>true|.byt _,.byt _=>true
 |.int _,.str _=>true|.str _,.int _=>true|.bl _,.str _=>true|.str _,.bl _=>true
 |_,_=>false
def rEq:R2:=fun x y H Q=>scal x y=true∧Q (.bl (decide (x=y))) H
def rNe:R2:=fun x y H Q=>scal x y=true∧Q (.bl (!decide (x=y))) H
theorem dec_int{i j:Int}:decide (V.int i=V.int j)=(i==j):=by
 rw [Bool.eq_iff_iff]
 simp
theorem dec_bl{i j:Bool}:decide (V.bl i=V.bl j)=(i==j):=by
 rw [Bool.eq_iff_iff]
 simp
theorem dec_str{i j:Str}:decide (V.str i=V.str j)=(i==j):=by
 rw [Bool.eq_iff_iff]
 simp
theorem dec_byt{i j:Array UInt8}:decide (V.byt i=V.byt j)=(i.toList==j.toList):=by
 rw [Bool.eq_iff_iff]
 cases i
 cases j
 simp
section
variable{X:Cx}{a b c:Expr}{ta tb tc:TE}{pos:Pos}
theorem fin_bl{pins:List (Addr × Obj)}{σ:St}{H:Hp}{s:Shared}{Q:VK}{k k':Bool}(I:Inv X pins σ H s)(q:Q (.bl k) H)(e:k=k'):EP X pins σ Q (.bool k') s:=by
 subst e
 exact⟨.bl k,H,I,rfl,q⟩
theorem op_eq:OpR X (compareOp .Eq) rEq:=by
 intro pins s σ H x y v u Q I rx ry h
 obtain⟨hs,q⟩:=h
 cases x with
 |non =>
  cases rx
  cases y with
  |non=>cases ry;exact PySem.EqNone.eq_none_none (fin_bl I q (by simp))
  |bl j=>cases ry;exact PySem.EqNone.eq_none_bool (fin_bl I q (by simp))
  |int j=>obtain⟨t',rfl⟩:=ry;exact PySem.EqNone.eq_none_int (fin_bl I q (by simp))
  |str j=>obtain⟨t',rfl⟩:=ry;exact PySem.EqNone.eq_none_str (fin_bl I q (by simp))
  |_=>exact absurd (show false=true from hs) Bool.false_ne_true
 |bl i =>
  cases rx
  cases y with
  |non=>cases ry;exact PySem.EqNone.eq_bool_none (fin_bl I q (by simp))
  |bl j=>cases ry;exact eq_bool (fin_bl I q dec_bl)
  |str j=>obtain⟨t',rfl⟩:=ry;exact PySem.EqMixed.eq_bool_str (fin_bl I q (by simp))
  |_=>exact absurd (show false=true from hs) Bool.false_ne_true
 |int i =>
  obtain⟨t,rfl⟩:=rx
  cases y with
  |non=>cases ry;exact PySem.EqNone.eq_int_none (fin_bl I q (by simp))
  |int j=>obtain⟨t',rfl⟩:=ry;exact eq_int (fin_bl I q dec_int)
  |str j=>obtain⟨t',rfl⟩:=ry;exact PySem.EqMixed.eq_int_str (fin_bl I q (by simp))
  |_=>exact absurd (show false=true from hs) Bool.false_ne_true
 |str i =>
  obtain⟨t,rfl⟩:=rx
  cases y with
  |non=>cases ry;exact PySem.EqNone.eq_str_none (fin_bl I q (by simp))
  |bl j=>cases ry;exact PySem.EqMixed.eq_str_bool (fin_bl I q (by simp))
  |int j=>obtain⟨t',rfl⟩:=ry;exact PySem.EqMixed.eq_str_int (fin_bl I q (by simp))
  |str j=>obtain⟨t',rfl⟩:=ry;exact eq_str (fin_bl I q dec_str)
  |_=>exact absurd (show false=true from hs) Bool.false_ne_true
 |byt i =>
  obtain⟨t,rfl⟩:=rx
  cases y with
  |byt j=>obtain⟨t',rfl⟩:=ry;exact PySem.W.eq_bytes (fin_bl I q dec_byt)
  |_=>exact absurd (show false=true from hs) Bool.false_ne_true
 |_=>cases y<;>exact absurd (show false=true from hs) Bool.false_ne_true
theorem op_ne:OpR X (compareOp .NotEq) rNe:=by
 intro pins s σ H x y v u Q I rx ry h
 obtain⟨hs,q⟩:=h
 cases x with
 |non =>
  cases rx
  cases y with
  |non=>cases ry;exact PySem.EqNone.ne_none_none (fin_bl I q (by simp))
  |bl j=>cases ry;exact PySem.EqNone.ne_none_bool (fin_bl I q (by simp))
  |int j=>obtain⟨t',rfl⟩:=ry;exact PySem.EqNone.ne_none_int (fin_bl I q (by simp))
  |str j=>obtain⟨t',rfl⟩:=ry;exact PySem.EqNone.ne_none_str (fin_bl I q (by simp))
  |_=>exact absurd (show false=true from hs) Bool.false_ne_true
 |bl i =>
  cases rx
  cases y with
  |non=>cases ry;exact PySem.EqNone.ne_bool_none (fin_bl I q (by simp))
  |bl j=>cases ry;exact ne_bool (fin_bl I q (congrArg not dec_bl))
  |str j=>obtain⟨t',rfl⟩:=ry;exact PySem.EqMixed.ne_bool_str (fin_bl I q (by simp))
  |_=>exact absurd (show false=true from hs) Bool.false_ne_true
 |int i =>
  obtain⟨t,rfl⟩:=rx
  cases y with
  |non=>cases ry;exact PySem.EqNone.ne_int_none (fin_bl I q (by simp))
  |int j=>obtain⟨t',rfl⟩:=ry;exact ne_int (fin_bl I q (congrArg not dec_int))
  |str j=>obtain⟨t',rfl⟩:=ry;exact PySem.EqMixed.ne_int_str (fin_bl I q (by simp))
  |_=>exact absurd (show false=true from hs) Bool.false_ne_true
 |str i =>
  obtain⟨t,rfl⟩:=rx
  cases y with
  |non=>cases ry;exact PySem.EqNone.ne_str_none (fin_bl I q (by simp))
  |bl j=>cases ry;exact PySem.EqMixed.ne_str_bool (fin_bl I q (by simp))
  |int j=>obtain⟨t',rfl⟩:=ry;exact PySem.EqMixed.ne_str_int (fin_bl I q (by simp))
  |str j=>obtain⟨t',rfl⟩:=ry;exact ne_str (fin_bl I q (congrArg not dec_str))
  |_=>exact absurd (show false=true from hs) Bool.false_ne_true
 |byt i =>
  obtain⟨t,rfl⟩:=rx
  cases y with
  |byt j=>obtain⟨t',rfl⟩:=ry;exact PySem.W.ne_bytes (fin_bl I q (congrArg not dec_byt))
  |_=>exact absurd (show false=true from hs) Bool.false_ne_true
 |_=>cases y<;>exact absurd (show false=true from hs) Bool.false_ne_true
theorem op_lt:OpR X (compareOp .Lt) (rI0 fun i j=>.bl (decide (i < j))):=opB0 fun _ _ _ _ _ _ _ q=>lt_int q
theorem op_gt:OpR X (compareOp .Gt) (rI0 fun i j=>.bl (decide (j < i))):=opB0 fun _ _ _ _ _ _ _ q=>gt_int q
theorem op_ge:OpR X (compareOp .GtE) (rI0 fun i j=>.bl (decide (j≤i))):=opB0 fun _ _ _ _ _ _ _ q=>ge_int q
theorem nomark(b:Expr){op:CmpOp}(h:op≠.In:=by decide)(h2:op≠.NotIn:=by decide):behindInMarks op b=false:=by
 have e1:(op==CmpOp.In)=false:=by cases op<;>first|rfl|exact absurd rfl h
 have e2:(op==CmpOp.NotIn)=false:=by cases op<;>first|rfl|exact absurd rfl h2
 cases b<;>simp [behindInMarks,e1,e2]
theorem pe_cmpR{op:CmpOp}{r:R2}(ho:OpR X (compareOp op) r)(ha:PE X a ta)(hb:PE X b tb)(hm:behindInMarks op b=false):PE X (.Compare a [op] [b] pos) (tOp r ta tb):=by
 intro pins s σ H Q I h
 exact wpAny_Compare1 (binT ha hb I h fun v u s2 x y H2 I2 rx ry q=>ho pins s2 σ H2 x y v u Q I2 rx ry q) hm
def tTest(t:TE):TT:=fun σ H Q=>t σ H fun x H'=>Wb x H' Q
theorem pt_cmpR{op:CmpOp}{r:R2}(ho:OpR X (compareOp op) r)(ha:PE X a ta)(hb:PE X b tb)(hm:behindInMarks op b=false):PT X (.Compare a [op] [b] pos) (tTest (tOp r ta tb)):=by
 intro pins s σ H Q I h
 refine wpAny_isTrue_Compare1 (thn (ha pins s σ H _ I h) fun v s1 ⟨x,H1,I1,r1,q1⟩=>thn (hb pins s1 σ H1 _ I1 q1) fun u s2 ⟨y,H2,I2,r2,q2⟩ =>
  thn (ho pins s2 σ H2 x y v u _ I2 r1 r2 q2) fun c s3 ⟨z,H3,I3,r3,k,e,q3⟩=>?_) hm
 subst e
 cases r3
 exact wpAny_truthy_bool ⟨H3,I3,q3⟩
theorem line63:(sizeLine:Nat) < 2 ^ 63:=by rw [sizeLine_eq];decide
theorem op_add_str:OpR X (binaryOp .Add) (fun x y H Q=>∃i j,x=.str i∧y=.str j∧i.length+j.length≤sizeLine∧Q (.str (i++j)) H):=by
 intro pins s σ H x y v u Q I rx ry h
 obtain⟨i,j,rfl,rfl,hz,q⟩:=h
 obtain⟨t,rfl⟩:=rx
 obtain⟨t',rfl⟩:=ry
 exact add_str (fun t' tk=>⟨.str (i++j),H,I.tok _,⟨_,rfl⟩,q⟩) hz
theorem vals1{x:V}{us:List Value}(r:Vals [x] us):∃u,us=[u]∧RelV x u:=by
 cases r with
 |cons r1 r2=>cases r2;exact⟨_,rfl,r1⟩
theorem call_int1:CallR X (.type "int") (fun xs H Q=>(∃i,xs=[.int i]∧Q (.int i) H)∨∃k,xs=[.bl k]∧Q (.int (if k then 1 else 0)) H):=by
 intro pins s σ H xs us Q I r h
 rcases h with ⟨i,rfl,q⟩|⟨k,rfl,q⟩
 ·obtain⟨u,rfl,t,rfl⟩:=vals1 r
  exact call_int_int ⟨.int i,H,I,⟨_,rfl⟩,q⟩
 ·obtain⟨u,rfl,r1⟩:=vals1 r
  cases r1
  exact call_int_bool ⟨.int (if k then 1 else 0),H,I.tok _,⟨_,rfl⟩,q⟩
end
end L2
namespace L2
open PySem PySem.Spec PyProof.Rows
structure ObjM(h:Heap)(x dx C:Addr)(mA:Str→Option Value):Prop where
 obj:h.get? x=some (PySem.W.instObj C dx)
 ns:h.Ns1 dx mA
 ne:dx≠x
theorem lookIn_ns{h:Heap}{dx:Addr}{mA:Str→Option Value}(n:h.Ns1 dx mA):∃od,h.get? dx=some od∧∀name,PySem.W.lookIn name od=some (mA name):=by
 obtain⟨o,es,ep,ho,hd,hk,_,hm⟩:=n
 refine⟨o,ho,fun name=>?_⟩
 have e:=hm name
 unfold nsFind findBy at e
 rw [←Array.find?_toList] at e
 unfold PySem.W.lookIn
 rw [hd]
 dsimp only
 split
 ·rename_i y q
  rw [q] at e
  exact congrArg some e
 ·rename_i q
  rw [q] at e
  have a:es.toList.any (·.refKey)=false:=by
   rw [List.any_eq_false]
   intro y hy
   obtain⟨z,t,hkey⟩:=hk y (Array.mem_toList_iff.mp hy)
   simp [DictEntry.refKey,hkey]
  have a':¬es.toList.any (·.refKey)=true:=by rw [a];exact Bool.false_ne_true
  rw [if_neg a']
  exact congrArg some e
theorem ObjM.look{h:Heap}{x dx C:Addr}{mA:Str→Option Value}(I:ObjM h x dx C mA):∃od,PySem.W.InstAt h x (PySem.W.instObj C dx) C (some od)∧∀name,PySem.W.lookIn name od=some (mA name) :=
 let ⟨od,ho,hl⟩:=lookIn_ns I.ns
 ⟨od,⟨I.obj,rfl,rfl,ho⟩,hl⟩
section
variable{prog:Program}{w:World}{A:Around}{E:Value→Shared→Prop}{s:Shared}{K:PySem.W.Frag}{x dx C f:Addr}{mA:Str→Option Value}{name:Str}{v:Value}
theorem get_map{expr:Bool}{Q:Value→Shared→Prop}(X:K.In s.heap)(I:ObjM s.heap x dx C mA)(hg:PySem.W.plainGet K C name=true)(hh:PySem.W.hasDictIn K C=true)
  (ha:PySem.W.findIn K (.ref C) name=some none) (hv:mA name=some v) (hv':PySem.W.handedIn v=true) (h:Q v { s with toks:=s.toks+1 }) :
  wpAny (model prog w) A (getAttr (.ref x) name expr) Q E s:=by
 obtain⟨od,J,hl⟩:=I.look
 exact PySem.W.get_value X J (PySem.W.plainGet_of hg).1 (PySem.W.findObj_own hh ha rfl (by rw [hl,hv])) hv' h
theorem get_meth{pl:Sem Bool}{Q:Value × List Value→Shared→Prop}(X:K.In s.heap)(I:ObjM s.heap x dx C mA)(hg:PySem.W.plainGet K C name=true)
  (hf:PySem.W.findIn K (.ref C) name=some (some (.ref f))) (ht:PySem.W.isFn K (.ref f)=true) (hv:mA name=none) (h:Q (.ref f,[.ref x]) s) :
  wpAny (model prog w) A (getMethod (.ref x) name pl) Q E s:=by
 obtain⟨od,J,hl⟩:=I.look
 exact PySem.W.method_fn X J (PySem.W.plainGet_of hg).1 (PySem.W.plainGet_of hg).2 hf (beq_iff_eq.mp ht) (by show(PySem.W.lookIn name od).map (·.isSome)=some false;rw [hl,hv];rfl) h
theorem set_map{ns:List Str}{Q:Unit→Shared→Prop}(X:K.In s.heap)(I:ObjM s.heap x dx C mA)
  (hs:PySem.W.findIn K (.ref C) "__setattr__"=some (some (.builtin "object.__setattr__"))) (hp:PySem.W.plainOver K C=true) (ht:PySem.W.takerIn K C name=some none) (hh:PySem.W.hasDictIn K C=true)
  (hw:PySem.Within mA ns) (hsz:ns.length≤sizeLine)
  (h:∀h',ObjM h' x dx C (fun y=>if y=name then some v else mA y)→Heap.SameBut dx s.heap h'→Q () { s with heap:=h',toks:=s.toks+2 }) :
  wpAny (model prog w) A (setAttr (.ref x) name v) Q E s:=by
 obtain⟨od,J,hl⟩:=I.look
 refine PySem.W.set_plain X J hs (PySem.W.osa_open (s:={ s with toks:=s.toks+1 }) (r:=none) X J hp ht fun b=>?_)
 obtain⟨cd,hc,hd'⟩:=PySem.W.any_some hh
 have hx:s.heap.get? x=some ⟨.ref C,some dx,.plain,#[]⟩:=I.obj
 refine wpAny_bind (wpAny_pure (wpAny_bind (wpAny_bind (wpAny_loadPart hx (wpAny_bind (PySem.W.Looks.here (s:={ s with toks:=s.toks+1 }) (PySem.W.looks_clsIn X hc) ?_))))))
 rw [hd']
 refine wpAny_pure (a:=some dx) (wpAny_bind (wpAny_pure (wpAny_bind ?_)))
 refine wpAny_nsSet1 (s:={ s with toks:=s.toks+1 }) I.ns fun h' hn2 hs2=>?_
 obtain⟨oD,esD,epD,hoD,hdD,hcD⟩:=hn2.count (PySem.Within.cons name v hw)
 refine wpAny_bind (wpAny_lookBehind hoD (by rw [hdD];exact pastItsLine_dict (Nat.le_trans hcD (by rw [List.length_cons];omega))) ?_)
 exact wpAny_pure (h _ ⟨(hs2.2 _ (Ne.symm I.ne)).trans I.obj,hn2,I.ne⟩ hs2)
theorem make_map{R:Result→Shared→Prop}{vs:List Value}{kw:List (Str × Value)}(X:K.In s.heap)(hm:PySem.W.makesIn K C=true)
  (hi:PySem.W.findIn K (.ref C) "__init__"=some (some (.ref f))) (hf:PySem.W.typeIn K (.ref f)=some (.type "function"))
  (h:codeAny (model prog w) (A.under (.builtin "type.__call__" ⟨.ref C::vs,kw⟩)) (.call (.ref f) ⟨.ref (s.heap.objs.size+1)::vs,kw⟩) (PySem.W.InitBack (s.heap.objs.size+1) R)
   { s with heap:=(s.heap.push PySem.W.emptyDict).push (PySem.W.instObj C s.heap.objs.size) }) :
  codeAny (model prog w) A (.call (.ref C) ⟨vs,kw⟩) R s:=by
 obtain⟨hh,g,d,t,os⟩:=s
 exact PySem.W.make_core (PySem.W.makes_of X hm) (PySem.W.looks_findIn X hi) (fun self=>PySem.W.bind_fn X self hf) (.inl rfl) h
end
def putF(f:Str)(v:V):List (Str × V)→List (Str × V)
 |[]=>[(f,v)]
 |(g,x)::r=>if g=f then (g,v)::r else (g,x)::putF f v r
theorem lookup_putF(f g:Str)(v:V):∀fs:List (Str × V),(putF f v fs).lookup g=if g=f then some v else fs.lookup g
 |[]=>by
  show List.lookup g [(f,v)]=_
  by_cases h:g=f
  ·have hb:(g==f)=true:=beq_iff_eq.mpr h
   simp only [List.lookup,hb,if_pos h]
  ·have hb:(g==f)=false:=beq_eq_false_iff_ne.mpr h
   simp only [List.lookup,hb,if_neg h]
 |(k,x)::r=>by
  have ih:=lookup_putF f g v r
  rw [show putF f v ((k,x)::r)=(if k=f then (k,v)::r else (k,x)::putF f v r) from rfl]
  by_cases hk:k=f
  ·rw [if_pos hk]
   by_cases h:g=k
   ·have hb:(g==k)=true:=beq_iff_eq.mpr h
    simp only [List.lookup,hb,if_pos (h.trans hk)]
   ·have hb:(g==k)=false:=beq_eq_false_iff_ne.mpr h
    simp only [List.lookup,hb,if_neg (fun e:g=f=>h (e.trans hk.symm))]
  ·rw [if_neg hk]
   by_cases h:g=k
   ·have hb:(g==k)=true:=beq_iff_eq.mpr h
    simp only [List.lookup,hb,if_neg (fun e:g=f=>hk (h.symm.trans e))]
   ·have hb:(g==k)=false:=beq_eq_false_iff_ne.mpr h
    simp only [List.lookup,hb]
    exact ih
theorem keys_putF(f:Str)(v:V):∀fs:List (Str × V),f∈(putF f v fs).map (·.1)∧∀g,g∈fs.map (·.1)→g∈(putF f v fs).map (·.1)
 |[]=>⟨by simp [putF],fun g h=>by simp at h⟩
 |(k,x)::r=>by
  obtain⟨i1,i2⟩:=keys_putF f v r
  rw [show putF f v ((k,x)::r)=(if k=f then (k,v)::r else (k,x)::putF f v r) from rfl]
  by_cases hk:k=f
  ·rw [if_pos hk]
   subst hk
   exact⟨by simp,fun g h=>by simpa using h⟩
  ·rw [if_neg hk]
   refine⟨?_,fun g h=>?_⟩
   ·rw [List.map_cons]
    exact List.mem_cons_of_mem _ i1
   ·rw [List.map_cons] at h ⊢
    rcases List.mem_cons.mp h with e|e
    ·exact List.mem_cons.mpr (.inl e)
    ·exact List.mem_cons_of_mem _ (i2 g e)
theorem length_putF(f:Str)(v:V):∀fs:List (Str × V),(putF f v fs).length≤fs.length+1
 |[]=>by simp [putF]
 |(k,x)::r=>by
  have ih:=length_putF f v r
  rw [show putF f v ((k,x)::r)=(if k=f then (k,v)::r else (k,x)::putF f v r) from rfl]
  by_cases hk:k=f
  ·rw [if_pos hk,List.length_cons,List.length_cons];omega
  ·rw [if_neg hk,List.length_cons,List.length_cons];omega
theorem RelO.some_of{v:V}{o:Option Value}(r:RelO (some v) o):∃u,o=some u∧RelV v u:=by
 cases o with
 |none=>exact(show False from r).elim
 |some u=>exact⟨u,rfl,r⟩
theorem RelO.none_of{o:Option Value}(r:RelO none o):o=none:=by
 cases o with
 |none=>rfl
 |some u=>exact(show False from r).elim
theorem handed_of{v:V}{u:Value}(r:RelV v u):PySem.W.handedIn u=true:=by
 cases v with
 |non=>cases (show u=Value.none from r);rfl
 |bl b=>cases (show u=Value.bool b from r);rfl
 |int i=>obtain⟨t,e⟩:=(show ∃t,u=Value.int i t from r);cases e;rfl
 |str x=>obtain⟨t,e⟩:=(show ∃t,u=Value.str x t from r);cases e;rfl
 |byt b=>obtain⟨t,e⟩:=(show ∃t,u=Value.bytes b t from r);cases e;rfl
 |flt b=>obtain⟨t,e⟩:=(show ∃t,u=Value.float b t from r);cases e;rfl
 |ref a=>cases (show u=Value.ref a from r);rfl
 |ty n=>cases (show u=Value.type n from r);rfl
section
variable{P:Program}{w:World}{H H':Hp}{h h':Heap}{a C dx:Addr}{fs fs':List (Str × V)}
theorem ins_get(hok:HOk P w H h)(e:H a=some (.ins C dx fs)):∃mA,ObjM h a dx C mA∧(∀f,RelO (fs.lookup f) (mA f))∧PySem.Within mA (fs.map (·.1))∧fs.length≤1000∧H dx=some (.own a):=by
 obtain⟨d,z,ne,ob,mA,n,r,q⟩:=(show ObjOk P w H h a (.ins C dx fs) from hok a _ e)
 exact⟨mA,⟨ob,n,ne⟩,r,q,z,d⟩
end
structure Cls(K:PySem.W.Frag)(C:Addr):Prop where
 pg:PySem.W.plainGet K C Str.empty=true
 hd:PySem.W.hasDictIn K C=true
 po:PySem.W.plainOver K C=true
 sa:PySem.W.findIn K (.ref C) "__setattr__"=some (some (.builtin "object.__setattr__"))
theorem Cls.get{K:PySem.W.Frag}{C:Addr}(c:Cls K C)(f:Str):PySem.W.plainGet K C f=true:=c.pg
def NoAttr(K:PySem.W.Frag)(C:Addr)(f:Str):Prop:=PySem.W.findIn K (.ref C) f=some none
theorem NoAttr.taker{K:PySem.W.Frag}{C:Addr}{f:Str}(n:NoAttr K C f):PySem.W.takerIn K C f=some none:=by
 unfold PySem.W.takerIn
 rw [show PySem.W.findIn K (.ref C) f=some none from n]
 rfl
structure Con(K:PySem.W.Frag)(C:Addr)(f:Str)(v:V)(u:Value):Prop where
 at_:PySem.W.findIn K (.ref C) f=some (some u)
 rel:RelV v u
 get:PySem.W.specialIn K u "__get__"=some none
 cp:PySem.W.copiedNames.contains f=false
structure Meth(K:PySem.W.Frag)(C:Addr)(m:Str)(f:Addr):Prop where
 at_:PySem.W.findIn K (.ref C) m=some (some (.ref f))
 fn:PySem.W.isFn K (.ref f)=true
 kp:PySem.W.keepIn K (.ref f)=true
section
variable{X:Cx}{pins:List (Addr × Obj)}{σ:St}{H:Hp}{s:Shared}{a C dx:Addr}{fs:List (Str × V)}{f:Str}{v:V}{A:Around}{E:Value→Shared→Prop}
theorem getattr_ok{b:Bool}{Q:Value→Shared→Prop}(I:Inv X pins σ H s)(e:H a=some (.ins C dx fs))(c:Cls X.K C)(n:NoAttr X.K C f)(l:fs.lookup f=some v)
  (h:∀u s',Inv X pins σ H s'→RelV v u→Q u s'):wpAny (model X.prog X.w) A (getAttr (.ref a) f b) Q E s:=by
 obtain⟨mA,O,r,_,_,_⟩:=ins_get I.hok e
 obtain⟨u,hu,ru⟩:=RelO.some_of (v:=v) (o:=mA f) (by rw [←l];exact r f)
 exact get_map I.kIn O (c.get f) c.hd n hu (handed_of ru) (h u _ (I.tok _) ru)
theorem getmeth_ok{m:Str}{g:Addr}{pl:Sem Bool}{Q:Value × List Value→Shared→Prop}(I:Inv X pins σ H s)(e:H a=some (.ins C dx fs))(c:Cls X.K C)(k:Meth X.K C m g)(l:fs.lookup m=none)
  (h:Q (.ref g,[.ref a]) s):wpAny (model X.prog X.w) A (getMethod (.ref a) m pl) Q E s:=by
 obtain⟨mA,O,r,_,_,_⟩:=ins_get I.hok e
 have hn:mA m=none:=RelO.none_of (by rw [←l];exact r m)
 exact get_meth I.kIn O (c.get m) k.at_ k.fn hn h
theorem setattr_ok{y:V}{u:Value}{Q:Unit→Shared→Prop}(I:Inv X pins σ H s)(e:H a=some (.ins C dx fs))(c:Cls X.K C)(n:NoAttr X.K C f)(hl:fs.length < 1000)(ry:RelV y u)
  (h:∀s',Inv X pins σ (upd H a (.ins C dx (putF f y fs))) s'→Q () s'):wpAny (model X.prog X.w) A (setAttr (.ref a) f u) Q E s:=by
 obtain⟨mA,O,r,wi,_,ho⟩:=ins_get I.hok e
 have hz:(fs.map (·.1)).length≤sizeLine:=by rw [List.length_map,sizeLine_eq];omega
 refine set_map I.kIn O c.sa c.po n.taker c.hd wi hz fun h' O' sb=>h _ ?_
 have hd:∃o,h'.get? dx=some o:=let ⟨o,_,_,e',_⟩:=O'.ns;⟨o,e'⟩
 refine I.write (x:=a) (e:=dx) (by rw [e];exact True.intro) (.inr ho) (fun b q hb z=>(sb.2 b hb).trans z) hd ?_
 refine⟨by rw [upd_ne O.ne];exact ho,?_,O.ne,O'.obj,_,O'.ns,fun g=>?_,fun g hg=>?_⟩
 ·have:=length_putF f y fs;omega
 ·show RelO ((putF f y fs).lookup g) (if g=f then some u else mA g)
  rw [lookup_putF]
  by_cases q:g=f
  ·rw [if_pos q,if_pos q];exact ry
  ·rw [if_neg q,if_neg q];exact r g
 ·by_cases q:g=f
  ·rw [q];exact(keys_putF f y fs).1
  ·refine(keys_putF f y fs).2 g (wi g fun z=>hg ?_)
   show(if g=f then some u else mA g)=none
   rw [if_neg q];exact z
theorem Inv.made(I:Inv X pins σ H s):Inv X pins σ (upd (upd H s.heap.objs.size (.own (s.heap.objs.size+1))) (s.heap.objs.size+1) (.ins C s.heap.objs.size []))
  { s with heap:=(s.heap.push PySem.W.emptyDict).push (PySem.W.instObj C s.heap.objs.size) }:=by
 have e1:(s.heap.push PySem.W.emptyDict).get? s.heap.objs.size=some PySem.W.emptyDict:=Heap.get?_push_size s.heap rfl
 have e2:((s.heap.push PySem.W.emptyDict).push (PySem.W.instObj C s.heap.objs.size)).get? (s.heap.objs.size+1)=some (PySem.W.instObj C s.heap.objs.size):=by
  have:=Heap.get?_push_size (s.heap.push PySem.W.emptyDict) (o:=PySem.W.instObj C s.heap.objs.size) rfl
  rwa [Heap.size_push] at this
 have e3:(s.heap.push PySem.W.emptyDict).Ns s.heap.objs.size (fun _=>none):=⟨PySem.W.emptyDict,#[],_,e1,rfl,(fun e he=>absurd he (by simp)),fun _=>rfl⟩
 have I1:=I.laid (a:=s.heap.objs.size) (o:=.own (s.heap.objs.size+1)) (h':=s.heap.push PySem.W.emptyDict) (t':=s.toks) (fun b u q=>Heap.get?_push_of_some _ q) (Nat.le_refl _) ⟨_,e1⟩
 refine I1.laid (a:=s.heap.objs.size+1) (o:=.ins C s.heap.objs.size []) (t':=s.toks) (fun b u q=>Heap.get?_push_of_some _ q) (Nat.le_of_eq (Heap.size_push _ _)) ?_
 have ne:s.heap.objs.size≠s.heap.objs.size+1:=Nat.ne_of_lt (Nat.lt_succ_self _)
 refine⟨by rw [upd_ne ne,upd_same],Nat.zero_le _,ne,e2,fun _=>none,(Heap.Ns1.of_empty e3).at fun o q=>Heap.get?_push_of_some _ q,fun _=>True.intro,fun y hy=>absurd rfl hy⟩
theorem attr_of{prog:Program}{w:World}{env:Env}{e:Expr}{f:Str}{pos:Pos}{s:Shared}{Q:Value→Shared→Prop}(hb:attributeBase e f env (eval e env)=eval e env)
  (h:wpAny (model prog w) A (eval e env) (fun o s₁=>wpAny (model prog w) A (getAttr o f true) Q E s₁) E s):wpAny (model prog w) A (eval (.Attribute e f pos) env) Q E s :=
 Attribute_any_ h (by rw [arm_eval_Attribute,hb])
end
def tFld(K:PySem.W.Frag)(ta:TE)(f:Str):TE:=fun σ H Q=>ta σ H fun x H1=>∃a C dx fs v,x=.ref a∧H1 a=some (.ins C dx fs)∧Cls K C∧NoAttr K C f∧fs.lookup f=some v∧Q v H1
def sFld(K:PySem.W.Frag)(ta tv:TE)(f:Str):TS:=fun D σ H=>tv σ H fun y H1=>ta σ H1 fun x H2=>∃a C dx fs,x=.ref a∧H2 a=some (.ins C dx fs)∧Cls K C∧NoAttr K C f∧fs.length < 1000 ∧
 D.nx σ (upd H2 a (.ins C dx (putF f y fs)))
section
variable{X:Cx}{o e value:Expr}{f:Str}{pos pos' tpos:Pos}{ta tv:TE}
theorem pe_fld(he:PE X e ta)(hb:attributeBase e f X.env (eval e X.env)=eval e X.env):PE X (.Attribute e f pos) (tFld X.K ta f):=by
 intro pins s σ H Q I h
 refine attr_of hb (thn (he pins s σ H _ I h) fun u s1 ⟨x,H1,I1,rx,a,C,dx,fs,v,ex,ea,c,n,l,q⟩=>?_)
 subst ex
 obtain rfl:u=Value.ref a:=rx
 exact getattr_ok I1 ea c n l fun u' s2 I2 ru=>⟨v,H1,I2,ru,q⟩
theorem ps_fld(ha:PE X o ta)(hv:PE X value tv)(hs:swapsWith value (some (.Attribute o f pos')) pos.line X.env=pure false):PS X (.Assign [.Attribute o f pos'] value pos) (sFld X.K ta tv f):=by
 intro pins s σ H D I h
 refine plainObj_wpAny_Assign_Attribute (thn (hv pins s σ H _ I h) fun u s1 ⟨y,H1,I1,ry,q⟩=>thn (ha pins s1 σ H1 _ I1 q) fun ov s2 ⟨x,H2,I2,rx,a,C,dx,fs,ex,ea,c,n,l,q2⟩=>?_) hs
 subst ex
 obtain rfl:ov=Value.ref a:=rx
 exact setattr_ok I2 ea c n l ry fun s3 I3=>⟨σ,_,I3,q2⟩
end
section
variable{X:Cx}{pins:List (Addr × Obj)}{σ:St}{H:Hp}{s:Shared}{A:Around}{E:Value→Shared→Prop}{Q:Value→Shared→Prop}{c:Value}{b:Bool}
inductive TyOf (K:PySem.W.Frag) (H:Hp):V→Value→Prop where
 |non:TyOf K H .non (.type "NoneType")
 |bl (x:Bool):TyOf K H (.bl x) (.type "bool")
 |int (i:Int):TyOf K H (.int i) (.type "int")
 |str (x:Str):TyOf K H (.str x) (.type "str")
 |flt (x:UInt64):TyOf K H (.flt x) (.type "float")
 |lst {a:Addr} {xs:List V} (e:H a=some (.lst xs)):TyOf K H (.ref a) (.type "list")
 |frz {a:Addr} {o:Obj} {xs:List V} (e:H a=some (.frz o (.lst xs))):TyOf K H (.ref a) (.type "list")
 |tup {a:Addr} {xs:List V} (e:H a=some (.tup xs)):TyOf K H (.ref a) (.type "tuple")
 |dK {a:Addr} {kvs:List (Key × V)} (e:H a=some (.dK kvs)):TyOf K H (.ref a) (.type "dict")
 |dT {a:Addr} {kvs:List (List Key × V)} (e:H a=some (.dT kvs)):TyOf K H (.ref a) (.type "dict")
 |ins {a C dx:Addr} {fs:List (Str × V)} (e:H a=some (.ins C dx fs)) (cl:Cls K C) (ha:PySem.W.findIn K (.ref C) "__class__"=some (some (.builtin "object.__class__")))
   (hn:PySem.W.specialIn K (.builtin "object.__class__") "__get__"=some (some (.builtin "getset_descriptor.__get__"))) (htk:PySem.W.takesIn K (.builtin "object.__class__")=some true)
   (hm:PySem.W.mroIn K C (.type "object")=some true):TyOf K H (.ref a) (.ref C)
end
end L2
namespace L2
open PySem PySem.Spec PyProof.Rows
structure Room(k:Nat)(A:Around):Prop where
 hd:A.handled=none
 dp:A.depth+3*k+5 < recursionLimit
 un:A.units+16*k+200 < cLine
 gd:A.guards=some []
theorem Room.mono{j k:Nat}{A:Around}(r:Room k A)(h:j≤k):Room j A:=⟨r.hd,by have:=r.dp;omega,by have:=r.un;omega,r.gd⟩
theorem Room.deeper{k:Nat}{A:Around}(r:Room (k+1) A)(env:Env):Room k (A.deeper env) :=
 ⟨r.hd,by have:=r.dp;show A.depth+1+3*k+5 < _;omega,by have:=r.un;show A.units+3+16*k+200 < _;omega,r.gd⟩
theorem make_depth{A:Around}{C:Addr}{us:List Value}{kw:List (Str × Value)}:(A.under (.builtin "type.__call__" ⟨.ref C::us,kw⟩)).depth=A.depth+1:=by
 first|rfl|simp [Around.under,Code.weight,Code.isCreation,Code.isGuard,Code.isCaller,Code.frames,Code.isFrame,guardIds]
theorem make_units{A:Around}{C:Addr}{us:List Value}{kw:List (Str × Value)}:(A.under (.builtin "type.__call__" ⟨.ref C::us,kw⟩)).units=A.units+1:=by
 first|rfl|simp [Around.under,Code.cUnits,Code.frames,Code.isFrame]
theorem make_guards{A:Around}{C:Addr}{us:List Value}{kw:List (Str × Value)}:(A.under (.builtin "type.__call__" ⟨.ref C::us,kw⟩)).guards=A.guards:=by
 first|rfl|simp [Around.under,Code.guards,Code.isGuard,guardIds,pushGuards]
theorem Room.make{k:Nat}{A:Around}(r:Room (k+1) A)(C:Addr)(us:List Value)(kw:List (Str × Value)):Room k (A.under (.builtin "type.__call__" ⟨.ref C::us,kw⟩)) :=
 ⟨r.hd,by have:=r.dp;rw [make_depth];omega,by have:=r.un;rw [make_units];omega,make_guards.trans r.gd⟩
theorem Room.depth{k:Nat}{A:Around}(r:Room k A):A.depth < recursionLimit:=by have:=r.dp;omega
theorem Room.units{k:Nat}{A:Around}(r:Room k A):A.units+64 < cLine:=by have:=r.un;omega
def tNil:TA:=fun _ H Q=>Q [] H
def tCons(ta:TE)(tr:TA):TA:=fun σ H Q=>ta σ H fun x H1=>tr σ H1 fun xs H2=>Q (x::xs) H2
section
variable{X:Cx}{e:Expr}{es:List Expr}{te:TE}{t:TA}{pos:Pos}
theorem pa_nil:PA X [] tNil:=fun _ _ _ _ H Q I h=>Calls.spliced_nil ⟨[],H,I,.nil,h⟩
theorem pa_cons(ha:PE X e te)(hr:PA X es t)(hs:starEach (e::es) X.env=(false,eval e X.env)::starEach es X.env:=by rfl):PA X (e::es) (tCons te t):=by
 intro pos pins s σ H Q I h
 rw [hs]
 show wpAny _ _ (spliced ((false,eval e X.env)::backTo pos (starEach es X.env))) _ _ s
 refine Calls.spliced_cons (thn (ha pins s σ H _ I h) fun u s1 ⟨x,H1,I1,r1,q1⟩=>?_)
 exact thn (hr pos pins s1 σ H1 _ I1 q1) fun us s2 ⟨xs,H2,I2,r2,q2⟩=>⟨x::xs,H2,I2,.cons r1 r2,q2⟩
structure Wf(o:List V→HO)(xs:List V)(H:Hp)(Q:VK):Prop where
 h:xs.length≤sizeLine
 q:∀p,H p=none→Q (.ref p) (upd H p (o xs))
def tTup(t:TA):TE:=fun σ H Q=>t σ H fun xs H1=>Wf .tup xs H1 Q
def tLst(t:TA):TE:=fun σ H Q=>t σ H fun xs H1=>Wf .lst xs H1 Q
theorem pe_tup{x1}(h:PA X es t):PE X (.Tuple es x1 pos) (tTup t):=by
 intro pins s σ H Q I hq
 refine wpAny_Tuple_spliced (thn (h pos pins s σ H _ I hq) fun us s1 ⟨xs,H1,I1,r,z,q⟩=>⟨by rw [←r.length];exact z,?_⟩)
 have hf:H1 s1.heap.objs.size=none:=I1.hok.fresh (Nat.le_refl _)
 refine⟨.ref s1.heap.objs.size,upd H1 s1.heap.objs.size (.tup xs),I1.laid (t':=s1.toks) (fun b u e=>Heap.get?_push_of_some _ e) (Nat.le_refl _) ?_,rfl,q _ hf⟩
 exact⟨z,us,r,⟨_,Heap.get?_push_size _ rfl,rfl,_,rfl⟩⟩
theorem pe_lst(h:PA X es t):PE X (.List es pos) (tLst t):=by
 intro pins s σ H Q I hq
 refine wpAny_List_spliced (thn (h pos pins s σ H _ I hq) fun us s1 ⟨xs,H1,I1,r,z,q⟩=>⟨by rw [←r.length];exact z,?_⟩)
 have hf:H1 s1.heap.objs.size=none:=I1.hok.fresh (Nat.le_refl _)
 refine⟨.ref s1.heap.objs.size,upd H1 s1.heap.objs.size (.lst xs),I1.laid (t':=s1.toks) (fun b u e=>Heap.get?_push_of_some _ e) (Nat.le_refl _) ?_,rfl,q _ hf⟩
 exact⟨z,us,0,r,Heap.get?_push_size _ rfl⟩
end
abbrev Sp:=List V→Hp→VK→XK→Prop
abbrev CXT:=List Env→Hp→Shared→XK→Value→Shared→Prop
structure Env0(P:Program)(w:World)(K:PySem.W.Frag)(mg:Str→Option Value)(base:Heap)(A:Around)(outer:List Env)(s:Shared)(H:Hp):Prop where
 frames:A.frames=some outer
 mod:Mod K mg base
 bs:∀b o,base.get? b=some o→s.heap.get? b=some o∧H b=none
 bsz:base.objs.size≤s.heap.objs.size
 funs:s.heap.FunFrames base outer
 frf:∀b∈frs outer,H b=none
 hok:HOk P w H s.heap
 bare:AllBare s.gens
def CE(outer:List Env)(P:Program)(w:World)(H:Hp)(s:Shared)(Q:VK)(u:Value)(s':Shared):Prop :=
 ∃v H',s'.os=s.os∧AllBare s'.gens∧Un (frs outer) [] H H' s.heap s'.heap∧HOk P w H' s'.heap∧RelV v u∧Q v H'
def CR(CX:CXT)(outer:List Env)(P:Program)(w:World)(H:Hp)(s:Shared)(Q:VK)(E:XK)(r:Result)(s':Shared):Prop :=
 match r with
 |.ok (.ret u)=>CE outer P w H s Q u s'
 |.ok _=>False
 |.error e=>CX outer H s E e s'
structure FnOk(P:Program)(w:World)(K:PySem.W.Frag)(mg:Str→Option Value)(base:Heap)(CX:CXT)(k:Nat)(f:Addr)(fd:FuncData)(ps:List Str)(sp:Sp):Prop where
 len:∀vs H Q E,sp vs H Q E→vs.length=ps.length
 run:∀(A:Around) (outer:List Env) (s:Shared) (H:Hp) (args:Args) (us:List Value) (vs:List V) (Q:VK) (E:XK),Room k A→Env0 P w K mg base A outer s H→BindsTo s fd args (ps.zip us)→Vals vs us→sp vs H Q E →
  codeAny (model P w) A (.call (.ref f) args) (CR CX outer P w H s Q E) s
theorem Env0.make{P:Program}{w:World}{K:PySem.W.Frag}{mg:Str→Option Value}{base:Heap}{A:Around}{outer:List Env}{s:Shared}{H:Hp}(e:Env0 P w K mg base A outer s H)(C:Addr)(us:List Value)(kw:List (Str × Value)) :
  Env0 P w K mg base (A.under (.builtin "type.__call__" ⟨.ref C::us,kw⟩)) outer s H:=⟨by first|exact e.frames|(simpa [Around.under,Code.envs,Code.isFrame,pushEnvs] using e.frames),e.mod,e.bs,e.bsz,e.funs,e.frf,e.hok,e.bare⟩
section
variable{X:Cx}{pins:List (Addr × Obj)}{σ:St}{H:Hp}{s s':Shared}
theorem Inv.env0(I:Inv X pins σ H s):Env0 X.prog X.w X.K X.mg X.base X.A X.stack s H :=
 ⟨I.ok.frames,I.ok.mod,I.bs,Nat.le_trans I.ok.bsz I.sz,I.stack,I.stkFree,I.hok,I.bare⟩
theorem Inv.after{Q:VK}{u:Value}(I:Inv X pins σ H s)(h:CE X.stack X.prog X.w H s Q u s'):EP X pins σ Q u s':=by
 obtain⟨v,H',os,bare,un,hok,r,q⟩:=h
 obtain⟨hh,g,d,t,os'⟩:=s'
 obtain rfl:os'=s.os:=os
 exact⟨v,H',I.call (h':=hh) (g':=g) (d':=d) (t':=t) (ch:=[]) un hok bare (fun b z=>absurd z (by simp)),r,q⟩
end
def tCall(sp:Sp)(dvs:List V)(E:XK)(t:TA):TE:=fun σ H Q=>t σ H fun vs H1=>sp (vs++dvs) H1 Q E
def tMeth(C:Addr)(m:Str)(sp:Sp)(dvs:List V)(E:XK)(ta:TE)(t:TA):TE:=fun σ H Q=>ta σ H fun x H1=>∃a dx fs,x=.ref a∧H1 a=some (.ins C dx fs)∧fs.lookup m=none ∧
 t σ H1 fun vs H2=>sp (x::(vs++dvs)) H2 Q E
def tMake(C:Addr)(sp:Sp)(dvs:List V)(E:XK)(t:TA):TE:=fun σ H Q=>t σ H fun vs H1=>∀x dx,H1 x=none→H1 dx=none→dx≠x →
 sp (.ref x::(vs++dvs)) (upd (upd H1 dx (.own x)) x (.ins C dx [])) (fun v H2=>v=.non∧Q (.ref x) H2) E
def Binds(K:PySem.W.Frag)(fd:FuncData)(ps:List Str)(ds:List Value):Prop :=
 ∀(s:Shared) (us:List Value),K.In s.heap→(us++ds).length=ps.length→BindsTo s fd ⟨us,[]⟩ (ps.zip (us++ds))
theorem Binds.all{K:PySem.W.Frag}{fd:FuncData}{ps:List Str}(h:∀us:List Value,us.length=ps.length→bindArgs fd ⟨us,[]⟩=pure (ps.zip us)):Binds K fd ps []:=fun s us _ hl=>by
 rw [List.append_nil] at hl ⊢
 exact .of_eq (h us hl)
def Passes(CX:CXT)(X:Cx)(E:XK):Prop:=∀(pins:List (Addr × Obj)) (σ:St) (H:Hp) (s:Shared) (e:Value) (s':Shared),Inv X pins σ H s→CX X.stack H s E e s'→X.xe e s'
section
variable{X:Cx}{CX:CXT}{k:Nat}{f C:Addr}{fd:FuncData}{ps:List Str}{sp:Sp}{dvs:List V}{ds:List Value}{E:XK}{x m:Str}{p pos apos:Pos}{e o:Expr}{es:List Expr}{ta:TE}{t:TA}
theorem run_fn{pins:List (Addr × Obj)}{σ:St}{H:Hp}{s:Shared}{Q:VK}{us:List Value}{vs:List V}(F:FnOk X.prog X.w X.K X.mg X.base CX k f fd ps sp)(hr:Room k X.A)(hb:Binds X.K fd ps ds)(hd:Vals dvs ds)(hx:Passes CX X E)
  (I:Inv X pins σ H s) (r:Vals vs us) (h:sp (vs++dvs) H Q E):wpAny (model X.prog X.w) X.A (call (.ref f) us) (EP X pins σ Q) X.xe s:=by
 have r2:Vals (vs++dvs) (us++ds):=r.append hd
 have hl:(us++ds).length=ps.length:=by rw [←r2.length];exact F.len _ _ _ _ h
 refine wpAny_call (codeAny_mono (F.run X.A X.stack s H ⟨us,[]⟩ (us++ds) (vs++dvs) Q E hr I.env0 (hb s us I.kIn hl) r2 h) fun r s' hq=>?_)
 cases r with
 |error e=>exact hx pins σ H s e s' I hq
 |ok fl =>
  cases fl with
  |ret u=>exact I.after hq
  |next=>exact False.elim hq
  |brk=>exact False.elim hq
  |cont=>exact False.elim hq
theorem pe_call(F:FnOk X.prog X.w X.K X.mg X.base CX k f fd ps sp)(hr:Room k X.A)(hg:Gl X x)(hm:X.mg x=some (.ref f))(hk:PySem.W.keepIn X.K (.ref f)=true)(hb:Binds X.K fd ps ds)(hd:Vals dvs ds)(hx:Passes CX X E)
  (ha:PA X (e::es) t) (hdb:(x==("__debug__":Str))=false:=by decide) (he:starEach (e::es) X.env=(false,eval e X.env)::starEach es X.env:=by rfl) (hpl:(backTo pos (starEach es X.env)).any (·.1)=false:=by rfl) :
  PE X (.Call (.Name x p) (e::es) [] pos) (tCall sp dvs E t):=by
 intro pins s σ H Q I h
 refine wpAny_Call_Name_kw (ld_glob I hg hm ?_ hdb)
 refine PySem.W.callWith_K (h₀:=X.base) I.ok.mod.kin hk (thn (ha pos pins s σ H _ I h) fun us s1 ⟨vs,H1,I1,r,q⟩=>⟨I1.kIn,?_⟩) he hpl
 exact run_fn F hr hb hd hx I1 r q
theorem pe_meth0{pl:Sem Bool}(he:PE X o ta)(c:Cls X.K C)(hm:Meth X.K C m f)(F:FnOk X.prog X.w X.K X.mg X.base CX k f fd ps sp)(hr:Room k X.A)(hb:Binds X.K fd ps ds)(hd:Vals dvs ds)(hx:Passes CX X E)
  (ht:eval (.Call (.Attribute o m apos) [] [] pos) X.env=(do
   let ov ←eval o X.env
   standAt apos.atName
   let (f,first) ←holding [ov] (getMethod ov m pl)
   callWith pos f first (backTo pos (starEach [] X.env)) (backToKw pos (keywordEach [] X.env))):=by rfl) :
  PE X (.Call (.Attribute o m apos) [] [] pos) (tMeth C m sp dvs E ta tNil):=by
 intro pins s σ H Q I h
 refine PySem.W.methodCall_KW (pl:=pl) (thn (he pins s σ H _ I h) fun u s1 ⟨x,H1,I1,rx,a,dx,fs,ex,ea,l,q⟩=>?_) ht
 subst ex
 obtain rfl:u=Value.ref a:=rx
 refine getmeth_ok I1 ea c hm l ?_
 exact PySem.W.callWith_K0 (first:=[.ref a]) I1.kIn hm.kp (run_fn (us:=[.ref a]) (vs:=[.ref a]) F hr hb hd hx I1 (.cons rfl .nil) q)
structure Mk(K:PySem.W.Frag)(C f:Addr):Prop where
 makes:PySem.W.makesIn K C=true
 init:PySem.W.findIn K (.ref C) "__init__"=some (some (.ref f))
 fn:PySem.W.isFn K (.ref f)=true
 kp:PySem.W.keepIn K (.ref C)=true
theorem run_make{pins:List (Addr × Obj)}{σ:St}{H:Hp}{s:Shared}{Q:VK}{us:List Value}{vs:List V}(M:Mk X.K C f)(F:FnOk X.prog X.w X.K X.mg X.base CX k f fd ps sp)(hr:Room (k+1) X.A)(hb:Binds X.K fd ps ds)(hd:Vals dvs ds)
  (hx:Passes CX X E) (I:Inv X pins σ H s) (r:Vals vs us)
  (h:∀x dx,H x=none→H dx=none→dx≠x→sp (.ref x::(vs++dvs)) (upd (upd H dx (.own x)) x (.ins C dx [])) (fun v H2=>v=.non∧Q (.ref x) H2) E) :
  wpAny (model X.prog X.w) X.A (call (.ref C) us) (EP X pins σ Q) X.xe s:=by
 have hq:=h (s.heap.objs.size+1) s.heap.objs.size (I.hok.fresh (Nat.le_succ _)) (I.hok.fresh (Nat.le_refl _)) (Nat.ne_of_lt (Nat.lt_succ_self _))
 have I2:=Inv.made (C:=C) I
 have r2:Vals (V.ref (s.heap.objs.size+1)::(vs++dvs)) (Value.ref (s.heap.objs.size+1)::(us++ds)):=.cons rfl (r.append hd)
 have hl:(Value.ref (s.heap.objs.size+1)::us++ds).length=ps.length:=by
  have e:=r2.length
  rw [F.len _ _ _ _ hq] at e
  exact e.symm
 refine wpAny_call (make_map (f:=f) I.kIn M.makes M.init (beq_iff_eq.mp M.fn) (codeAny_mono (F.run _ X.stack _ _ ⟨Value.ref (s.heap.objs.size+1)::us,[]⟩ (Value.ref (s.heap.objs.size+1)::(us++ds)) _ _ E (hr.make C us [])
  (I2.env0.make C us []) (hb _ (Value.ref (s.heap.objs.size+1)::us) I2.kIn hl) r2 hq) fun r s' hq'=>?_))
 cases r with
 |error e=>exact hx pins σ _ _ e s' I2 hq'
 |ok fl =>
  cases fl with
  |ret u =>
   obtain⟨v,H',I3,rv,ev,q3⟩:=I2.after hq'
   subst ev
   exact⟨rv,⟨V.ref (s.heap.objs.size+1),H',I3,rfl,q3⟩⟩
  |next=>exact False.elim hq'
  |brk=>exact False.elim hq'
  |cont=>exact False.elim hq'
theorem pe_make(M:Mk X.K C f)(F:FnOk X.prog X.w X.K X.mg X.base CX k f fd ps sp)(hr:Room (k+1) X.A)(hg:Gl X x)(hm:X.mg x=some (.ref C))(hb:Binds X.K fd ps ds)(hd:Vals dvs ds)(hx:Passes CX X E)
  (ha:PA X (e::es) t) (hdb:(x==("__debug__":Str))=false:=by decide) (he:starEach (e::es) X.env=(false,eval e X.env)::starEach es X.env:=by rfl) (hpl:(backTo pos (starEach es X.env)).any (·.1)=false:=by rfl) :
  PE X (.Call (.Name x p) (e::es) [] pos) (tMake C sp dvs E t):=by
 intro pins s σ H Q I h
 refine wpAny_Call_Name_kw (ld_glob I hg hm ?_ hdb)
 refine PySem.W.callWith_K (h₀:=X.base) I.ok.mod.kin M.kp (thn (ha pos pins s σ H _ I h) fun us s1 ⟨vs,H1,I1,r,q⟩=>⟨I1.kIn,?_⟩) he hpl
 exact run_make M F hr hb hd hx I1 r q
end
section
variable{X:Cx}{CX:CXT}{k:Nat}{f C:Addr}{fd:FuncData}{ps ks:List Str}{sp:Sp}{E:XK}{x m:Str}{p pos apos kpos:Pos}{e o:Expr}{es:List Expr}{kws:List Keyword}{te ta:TE}{t tk:TA}{nm:Option Str}
structure KBinds(K:PySem.W.Frag)(fd:FuncData)(ps ks:List Str)(g:List Value→List Value→List Value)(gV:List V→List V→List V):Prop where
 to:∀(s:Shared) (us ws:List Value),K.In s.heap→(g us ws).length=ps.length→BindsTo s fd ⟨us,ks.zip ws⟩ (ps.zip (g us ws))
 rel:∀{vs:List V} {us:List Value} {zs:List V} {ws:List Value},Vals vs us→Vals zs ws→Vals (gV vs zs) (g us ws)
variable{g:List Value→List Value→List Value}{gV:List V→List V→List V}
end
structure FnScope(N P:List Str)(sc:Scope):Prop where
 kind:sc.kind=.function
 co:sc.isCoroutine=false
 gen:sc.isGenerator=false
 nd:N.Nodup
 pre:N.take P.length=P
 par:∀x∈P,sc.names.lookup x=some .local∨sc.names.lookup x=some .cell
 nofree:∀y∈sc.names,y.2≠.free
theorem bindL_out{kindOf:Str→Option NameKind}{x:Str}:∀{binds:List (Str × Value)} {m:Str→Option Value},(∀v,(x,v)∉binds)→bindL kindOf binds m x=m x
 |[],_,_=>rfl
 |(n,v)::r,m,h=>by
  unfold bindL
  rw [bindL_out fun w hw=>h w (List.mem_cons_of_mem _ hw)]
  split
  ·have:x≠n:=by rintro rfl;exact h v List.mem_cons_self
   simp [this]
  ·rfl
theorem bindC_out{kindOf:Str→Option NameKind}{x:Str}:∀{binds:List (Str × Value)} {m:Str→Option Value},(∀v,(x,v)∉binds)→bindC kindOf binds m x=m x
 |[],_,_=>rfl
 |(n,v)::r,m,h=>by
  unfold bindC
  rw [bindC_out fun w hw=>h w (List.mem_cons_of_mem _ hw)]
  split
  ·rfl
  ·have:x≠n:=by rintro rfl;exact h v List.mem_cons_self
   simp [this]
theorem bindL_get{kindOf:Str→Option NameKind}{x:Str}{v:Value}:∀{P:List Str} {vs:List Value} {i:Nat} {m:Str→Option Value},P.Nodup→P[i]?=some x→vs[i]?=some v→kindOf x=some .local →
  bindL kindOf (P.zip vs) m x=some v
 |[],_,_,_,_,h,_,_=>by simp at h
 |_::_,[],_,_,_,_,h,_=>by simp at h
 |p::P,w::vs,0,m,nd,h1,h2,hk=>by
  simp at h1 h2;subst h1;subst h2
  show bindL kindOf ((p,w)::P.zip vs) m p=_
  unfold bindL
  rw [bindL_out fun v hv=>(List.nodup_cons.mp nd).1 (List.of_mem_zip hv).1,if_pos hk]
  simp
 |p::P,w::vs,i+1,m,nd,h1,h2,hk=>by
  show bindL kindOf ((p,w)::P.zip vs) m x=_
  unfold bindL
  exact bindL_get (i:=i) (List.nodup_cons.mp nd).2 (by simpa using h1) (by simpa using h2) hk
theorem bindC_get{kindOf:Str→Option NameKind}{x:Str}{v:Value}:∀{P:List Str} {vs:List Value} {i:Nat} {m:Str→Option Value},P.Nodup→P[i]?=some x→vs[i]?=some v→kindOf x≠some .local →
  bindC kindOf (P.zip vs) m x=some v
 |[],_,_,_,_,h,_,_=>by simp at h
 |_::_,[],_,_,_,_,h,_=>by simp at h
 |p::P,w::vs,0,m,nd,h1,h2,hk=>by
  simp at h1 h2;subst h1;subst h2
  show bindC kindOf ((p,w)::P.zip vs) m p=_
  unfold bindC
  rw [bindC_out fun v hv=>(List.nodup_cons.mp nd).1 (List.of_mem_zip hv).1,if_neg hk]
  simp
 |p::P,w::vs,i+1,m,nd,h1,h2,hk=>by
  show bindC kindOf ((p,w)::P.zip vs) m x=_
  unfold bindC
  exact bindC_get (i:=i) (List.nodup_cons.mp nd).2 (by simpa using h1) (by simpa using h2) hk
def start(N:List Str)(vs:List V):St:=vs.map some++List.replicate (N.length - vs.length) none
def cxOf(CX:CXT)(P:Program)(w:World)(K:PySem.W.Frag)(mg:Str→Option Value)(base:Heap)(N:List Str)(qual:Str)(scope:Scope)(f:Addr)(cd:Value)(A:Around)(outer:List Env)(s:Shared)(H:Hp)(E:XK):Cx where
 prog:=P
 w:=w
 K:=K
 mg:=mg
 base:=base
 A:=A.deeper (envOfC qual scope s.heap.objs.size f cd)
 N:=N
 s₀:=s
 H₀:=H
 env:=envOfC qual scope s.heap.objs.size f cd
 outer:=outer
 stack:=envOfC qual scope s.heap.objs.size f cd::outer
 ex:=[]
 calm:=true
 fn:=fun _=>true
 pn:=[]
 xe:=fun e s'=>wpAny (model P w) (A.deeper (envOfC qual scope s.heap.objs.size f cd)) (leaving (envOfC qual scope s.heap.objs.size f cd) e) (fun _ s''=>CX outer H s E e s'') (fun e' s''=>CX outer H s E e' s'') s'
theorem cell_has{sc:Scope}{n:Nat}{x:Str}(h:sc.names.lookup x=some .cell):∃c,(cellsFrom n sc.names []).lookup x=some c:=by
 have q:=PySem.W.cellsFrom_some sc.names n [] (.inl h)
 exact Option.isSome_iff_exists.mp q
theorem inv_start{CX:CXT}{P:Program}{w:World}{K:PySem.W.Frag}{mg:Str→Option Value}{base:Heap}{N ps:List Str}{qual:Str}{scope:Scope}{f:Addr}{cd:Value}{A:Around}{outer:List Env}{s s1:Shared}{H:Hp}{E:XK}{us:List Value}{vs:List V}
  (S:FnScope N ps scope) (hd:A.handled=none) (e0:Env0 P w K mg base A outer s H) (hl:vs.length=ps.length) (r:Vals vs us)
  (x:InCallC s s.heap.objs.size (bindL (envOfC qual scope s.heap.objs.size f cd).kindOf (ps.zip us) fun _=>none) (cellsFrom (s.heap.objs.size+1) scope.names []) (bindC (envOfC qual scope s.heap.objs.size f cd).kindOf (ps.zip us) fun _=>none) s1) :
  Inv (cxOf CX P w K mg base N qual scope f cd A outer s H E) [] (start N vs) H s1:=by
 have hpl:ps.length≤N.length:=by have:=congrArg List.length S.pre;rw [List.length_take] at this;omega
 obtain⟨h1,tk,rfl,hk⟩:=x.done
 have noA:∀b:Addr,b∉(cxOf CX P w K mg base N qual scope f cd A outer s H E).ex:=fun b z=>absurd (show b∈([]:List Addr) from z) (by simp)
 refine⟨⟨e0.mod,S.kind,rfl,rfl,Nat.le_refl _,fun y z c h1 h2=>?_,fun y hy=>?_,fun y c _ h=>?_,fun _=>hd,Around.frames_deeper e0.frames,.inr ⟨rfl,rfl⟩,fun b z=>absurd z (noA b),e0.bs,e0.bsz,fun b _ _=>noA b,fun b z=>absurd z (noA b),e0.funs,e0.frf⟩,
  rfl,e0.bare,Un.kept hk,⟨_,x.toInCall.ns,fun i y v h1 h2 h3=>?_⟩,fun y c h=>⟨_,x.cell y c h⟩,e0.hok.fresh (Nat.le_refl _),fun y c h=>?_,fun p hp=>absurd (show p∈([]:List (Addr × Obj)) from hp) (by simp),e0.hok.kept hk,?_⟩
 ·exact name_of_addr x.apart (PySem.mem_of_lookup h1) (PySem.mem_of_lookup h2)
 ·have hy:scope.names.lookup y=some .cell∨scope.names.lookup y=some .free:=hy
  rcases hy with hy|hy
  ·exact cell_has hy
  ·exact absurd rfl (S.nofree _ (PySem.mem_of_lookup hy))
 ·exact Nat.le_of_lt (x.above y c (PySem.mem_of_lookup h))
 ·have hi:i < vs.length:=by
   unfold start at h2
   by_cases hi:i < vs.length
   ·exact hi
   ·rw [List.getElem?_append_right (by simpa using hi)] at h2
    rw [List.getElem?_replicate] at h2
    split at h2<;>cases h2
  have ha:vs[i]?=some v:=by
   unfold start at h2
   rw [List.getElem?_append_left (by simpa using hi),List.getElem?_map] at h2
   cases e:vs[i]? with
   |none=>rw [e] at h2;cases h2
   |some a=>rw [e] at h2;cases h2;rfl
  obtain⟨u,hu,rv⟩:=r.get ha
  have hp:ps[i]?=some y:=by
   rw [←S.pre,List.getElem?_take_of_lt (by omega)];exact h1
  have ndP:ps.Nodup:=by rw [←S.pre];exact S.nd.sublist (List.take_sublist _ _)
  refine⟨u,rv,?_⟩
  rcases S.par y (List.mem_of_getElem? hp) with k|k
  ·exact .inl ⟨k,bindL_get ndP hp hu k⟩
  ·obtain⟨c,e⟩:=cell_has (n:=s.heap.objs.size+1) k
   refine .inr ⟨.inl k,c,e,?_⟩
   have q:=x.cell y c e
   rw [bindC_get ndP hp hu (by show scope.names.lookup y≠_;rw [k];decide)] at q
   exact q
 ·exact e0.hok.fresh (Nat.le_of_lt (x.above y c (PySem.mem_of_lookup h)))
 ·unfold start
  show _=N.length
  rw [List.length_append,List.length_map,List.length_replicate]
  omega
theorem fn_of{CX:CXT}{P:Program}{w:World}{K:PySem.W.Frag}{mg:Str→Option Value}{base:Heap}{k:Nat}{f:Addr}{name qual:Str}{params:Arguments}{body:List Stmt}{scope:Scope}{dV kV doc pm cdv ct oc:Value}{an od:Option Addr}
  {osl:Array (Option Value)} {N ps:List Str} {sp:Sp} (lk:K.lookup f=some ⟨oc,od,.func (PySem.W.fnOf name qual params body scope dV kV doc pm an cdv ct),osl⟩) (hcd:PySem.W.codeIn K cdv qual=true) (S:FnScope N ps scope)
  (len:∀vs H Q E,sp vs H Q E→vs.length=ps.length)
  (hbody:∀(A:Around) (outer:List Env) (s:Shared) (H:Hp) (vs:List V) (Q:VK) (E:XK),Room k (A.deeper (envOfC qual scope s.heap.objs.size f cdv))→sp vs H Q E →
   ∃t,PSs (cxOf CX P w K mg base N qual scope f cdv A outer s H E) body t∧t { nx:=fun _ H'=>Q .non H',rt:=Q } (start N vs) H) :
  FnOk P w K mg base CX (k+1) f (PySem.W.fnOf name qual params body scope dV kV doc pm an cdv ct) ps sp:=by
 refine⟨len,fun A outer s H args us vs Q E hr e0 hb r hsp=>?_⟩
 have hl:=len _ _ _ _ hsp
 have KX:K.In s.heap:=e0.mod.kin.keeps fun b o e=>(e0.bs b o e).1
 have lim:s.heap.NoLimit:=e0.mod.nolimit.keeps fun b o e=>(e0.bs b o e).1
 have hkind:∀y∈ps.zip us,scope.names.lookup y.1=some .local∨(scope.names.lookup y.1=some .cell∧((cellsFrom (s.heap.objs.size+1) scope.names []).lookup y.1).isSome=true):=fun⟨n,v⟩ hy=>by
  rcases S.par n (List.of_mem_zip hy).1 with q|q
  ·exact .inl q
  ·exact .inr ⟨q,PySem.W.cellsFrom_some _ _ _ (.inl q)⟩
 refine codeAny_call_function hr.depth (KX _ _ lk) rfl S.co S.gen rfl (PySem.W.codeRec_of KX hcd) (hb _ _ _ _ ?_)
 refine wpAny_newFunctionEnv_cells S.kind hkind fun env he s1 x=>?_
 subst he
 refine⟨lim.keeps x.toInCall.keep,codeAny_func ?_⟩
 obtain⟨t,ht,hq⟩:=hbody A outer s H vs Q E (hr.deeper _) hsp
 have I:Inv (cxOf CX P w K mg base N qual scope f cdv A outer s H E) [] (start N vs) H s1:=inv_start S hr.hd e0 hl r x
 refine wpAny_mono (ht [] s1 (start N vs) H _ I hq) (fun fl s' hs=>?_) fun e s' hs=>hs
 have fin:∀{σ':St} {H':Hp} {v:V} {u:Value},Inv (cxOf CX P w K mg base N qual scope f cdv A outer s H E) [] σ' H' s'→RelV v u→Q v H'→CE outer P w H s Q u s' :=
  fun {σ' H' v u} J rv q=>⟨v,H',J.os,J.bare,J.base,J.hok,rv,q⟩
 cases fl with
 |ret u =>
  obtain⟨v,σ',H',J,rv,q⟩:=hs
  exact fin J rv q
 |next =>
  obtain⟨σ',H',J,q⟩:=hs
  exact fin (v:=V.non) (u:=Value.none) J rfl q
 |brk =>
  obtain⟨_,_,_,q⟩:=hs
  exact False.elim q
 |cont =>
  obtain⟨_,_,_,q⟩:=hs
  exact False.elim q
end L2
namespace L2
open PySem PySem.Spec PyProof.Rows
section
variable{X:Cx}{x:Str}{p pos:Pos}{e:Expr}{es:List Expr}{t:TA}{id T:String}{r:List V→Hp→VK→Prop}
def tCB(r:List V→Hp→VK→Prop)(t:TA):TE:=fun σ H Q=>t σ H fun vs H1=>r vs H1 Q
theorem pe_callB(hc:CallR X (.builtin id) r)(hg:Gl X x)(hm:X.mg x=none)(hv:bootBuiltins x=some (.builtin id))(ha:PA X (e::es) t) (hn:x≠"__name__":=by decide) (hdb:(x==("__debug__":Str))=false:=by decide)
  (he:starEach (e::es) X.env=(false,eval e X.env)::starEach es X.env:=by rfl) (hpl:(backTo pos (starEach es X.env)).any (·.1)=false:=by rfl):PE X (.Call (.Name x p) (e::es) [] pos) (tCB r t):=by
 intro pins s σ H Q I h
 refine wpAny_Call_Name_kw (ld_blt I hg hm hv ?_ hn hdb)
 exact PyProof.Rows.callWith_builtin1 (thn (ha pos pins s σ H _ I h) fun us s1 ⟨vs,H1,I1,r1,q1⟩=>hc pins s1 σ H1 vs us Q I1 r1 q1) he hpl
theorem pe_callTy(hc:CallR X (.type T) r)(hg:Gl X x)(hm:X.mg x=none)(hv:bootBuiltins x=some (.type T))(ha:PA X (e::es) t) (hn:x≠"__name__":=by decide) (hdb:(x==("__debug__":Str))=false:=by decide)
  (he:starEach (e::es) X.env=(false,eval e X.env)::starEach es X.env:=by rfl) (hpl:(backTo pos (starEach es X.env)).any (·.1)=false:=by rfl):PE X (.Call (.Name x p) (e::es) [] pos) (tCB r t):=by
 intro pins s σ H Q I h
 refine wpAny_Call_Name_kw (ld_blt I hg hm hv ?_ hn hdb)
 exact PyProof.Rows.callWith_type1 (thn (ha pos pins s σ H _ I h) fun us s1 ⟨vs,H1,I1,r1,q1⟩=>hc pins s1 σ H1 vs us Q I1 r1 q1) he hpl
end
end L2
namespace HT
open PySem PyProof.Rows
section
open PySem.SeqAt
open PySem.AutoSeq1 (wpAny_loadPart')
open PySem.MeetsSeq PySem.MeetsSeq2 PySem.MeetsSeq3
end
section
variable{prog:Program}{w:World}{A:Around}{E:Value→Shared→Prop}{s:Shared}
theorem cat_tup{t b:Addr}{vs ws:List Value}{Q:Value→Shared→Prop}(ht:IsTup s.heap t vs.toArray)(hb:IsTup s.heap b ws.toArray)(hv:vs≠[])
  (h1:ws=[]→Q (.ref t) s) (h2:ws≠[]→Q (.ref s.heap.objs.size) { s with heap:=s.heap.push { cls:=.type "tuple",data:=.seq (vs++ws).toArray } })
  (hsz:vs.length+ws.length≤sizeLine):wpAny (model prog w) A (binaryOp .Add (.ref t) (.ref b)) Q E s:=by
 obtain⟨⟨cls,dd,data,sl⟩,ho,hc,n,hd⟩:=id ht
 obtain⟨⟨cls2,dd2,data2,sl2⟩,ho2,hc2,n2,hd2⟩:=id hb
 simp only at hc hd hc2 hd2
 subst hc hd hc2 hd2
 have e:vs.toArray++ws.toArray=(vs++ws).toArray:=by simp
 by_cases hw:ws=[]
 ·exact concat_meets ⟨_,ho,rfl⟩ ⟨_,ho2,rfl⟩ noFill_tuple_add seq_tuple_add PySem.F.slot_tuple_add PySem.F.entry_tuple_add (PySem.F.args_tuple_add_2 _ _)
   (tuple_addW1 t b vs.toArray ws.toArray n n2 dd dd2 sl sl2 (by simpa using hv) (by simp [hw])) ⟨ho,ho2,h1 hw⟩
 ·refine concat_meets ⟨_,ho,rfl⟩ ⟨_,ho2,rfl⟩ noFill_tuple_add seq_tuple_add PySem.F.slot_tuple_add PySem.F.entry_tuple_add (PySem.F.args_tuple_add_2 _ _)
   (tuple_addW2 t b vs.toArray ws.toArray n n2 dd dd2 sl sl2 (by simpa using hv) (by simpa using hw) (by rw [List.size_toArray,List.size_toArray];exact hsz)) ⟨ho,ho2,?_⟩
  rw [e]
  exact h2 hw
end
end HT
namespace L2
open PySem PySem.Spec PyProof.Rows
abbrev TO:=St→Hp→(Option Int→Hp→Prop)→Prop
def PO(X:Cx)(e:Option Expr)(t:TO):Prop :=
 ∀(pins:List (Addr × Obj)) (s:Shared) (σ:St) (H:Hp) (Q:Option Int→Hp→Prop),Inv X pins σ H s→t σ H Q →
  wpAny (model X.prog X.w) X.A (evalPart e X.env) (fun u s'=>∃o H',Inv X pins σ H' s'∧IsPart u o∧Q o H') X.xe s
def tNoPart:TO:=fun _ H Q=>Q none H
def tPart(t:TE):TO:=fun σ H Q=>t σ H fun x H1=>∃i,x=.int i∧Q (some i) H1
section
variable{X:Cx}{e:Expr}{te:TE}{lo hi:Option Expr}{tl th:TO}{pos p2:Pos}
theorem po_none:PO X none tNoPart:=by
 intro pins s σ H Q I h
 rw [evalPart_none]
 exact wpAny_pure ⟨none,H,I,.none,h⟩
theorem po_some(h:PE X e te):PO X (some e) (tPart te):=by
 intro pins s σ H Q I hw
 rw [evalPart_some]
 refine thn (h pins s σ H _ I hw) fun u s1 ⟨x,H1,I1,r1,q1⟩=>?_
 obtain⟨i,rfl,q⟩:=q1
 obtain⟨t,rfl⟩:=r1
 exact⟨some i,H1,I1,.int i t,q⟩
def SlR(X:Cx)(r:V→Option Int→Option Int→Hp→VK→Prop):Prop :=
 ∀(pins:List (Addr × Obj)) (s:Shared) (σ:St) (H:Hp) (x:V) (v vl vu:Value) (lo hi:Option Int) (sl:Addr) (Q:VK),Inv X pins σ H s→RelV x v→s.heap.IsSliceOf sl vl vu .none→IsPart vl lo→IsPart vu hi→r x lo hi H Q →
  ∃T id,typeLookup (.type T) "__getitem__"=pure (some (.builtin id))∧s.TypeIs v T∧wpAny (model X.prog X.w) X.A (getItem v (.ref sl)) (EP X pins σ Q) X.xe s
def tSl(r:V→Option Int→Option Int→Hp→VK→Prop)(te:TE)(tl th:TO):TE:=fun σ H Q=>te σ H fun x H1=>tl σ H1 fun l H2=>th σ H2 fun u H3=>r x l u H3 Q
theorem pe_slice{r:V→Option Int→Option Int→Hp→VK→Prop}(hr:SlR X r)(he:PE X e te)(hl:PO X lo tl)(hu:PO X hi th):PE X (.Subscript e (.Slice lo hi none p2) pos) (tSl r te tl th):=by
 intro pins s σ H Q I h
 refine Subscript_ (thn (he pins s σ H _ I h) fun v s1 ⟨x,H1,I1,r1,q1⟩=>?_)
 refine wpAny_Slice (thn (hl pins s1 σ H1 _ I1 q1) fun vl s2 ⟨l,H2,I2,pl,q2⟩=>thn (hu pins s2 σ H2 _ I2 q2) fun vu s3 ⟨u,H3,I3,pu,q3⟩=>?_)
 rw [evalPart_none]
 refine wpAny_pure ?_
 have I4:Inv X pins σ H3 { s3 with heap:=s3.heap.push { cls:=.type "slice",data:=.fields #[vl,vu,.none] } }:=I3.kept (t':=s3.toks) fun b ob q=>Heap.get?_push_of_some _ q
 obtain⟨T,id,hT,ht,hg⟩:=hr pins { s3 with heap:=s3.heap.push { cls:=.type "slice",data:=.fields #[vl,vu,.none] } } σ H3 x v vl vu l u s3.heap.objs.size Q I4 r1 (Heap.IsSliceOf.new ..) pl pu q3
 show wpAny (model X.prog X.w) X.A (subscriptTail e (.Slice lo hi none p2) v (.ref s3.heap.objs.size)) (EP X pins σ Q) X.xe { s3 with heap:=s3.heap.push { cls:=.type "slice",data:=.fields #[vl,vu,.none] } }
 exact tail_any (ops:=[.ref s3.heap.objs.size,v]) ht hT hg (by with_unfolding_all rfl)
def rCatT(K:PySem.W.Frag):R2:=fun x y H Q=>∃a b xs ys,x=.ref a∧y=.ref b∧SqT K H a xs∧SqT K H b ys∧xs≠[]∧xs.length+ys.length≤sizeLine ∧
 (ys=[]→Q (.ref a) H)∧(ys≠[]→∀p,H p=none→Q (.ref p) (upd H p (.tup (xs++ys))))
theorem Vals.nil_iff{xs:List V}{us:List Value}(r:Vals xs us):us=[]↔xs=[]:=by
 cases r with
 |nil=>simp
 |cons _ _=>simp
theorem op_catT:OpR X (binaryOp .Add) (rCatT X.K):=by
 intro pins s σ H x y v u Q I rx ry h
 obtain⟨a,b,xs,ys,rfl,rfl,ha,hb,hx,hz,q1,q2⟩:=h
 cases rx
 cases ry
 obtain⟨its,r1,p1,_⟩:=I.tuple ha
 obtain⟨its2,r2,p2,_⟩:=I.tuple hb
 refine HT.cat_tup p1 p2 (fun z=>hx (r1.nil_iff.mp z)) (fun z=>⟨.ref a,H,I,rfl,q1 (r2.nil_iff.mp z)⟩) (fun z=>?_) (by rw [←r1.length,←r2.length];exact hz)
 refine⟨.ref s.heap.objs.size,_,I.laid (t':=s.toks) (o:=.tup (xs++ys)) (fun b ob q=>Heap.get?_push_of_some _ q) (Nat.le_refl _) ?_,rfl,q2 (fun w=>z (r2.nil_iff.mpr w)) _ (I.hok.fresh (Nat.le_refl _))⟩
 exact⟨by rw [List.length_append];exact hz,_,r1.append r2,IsTup.new _ _⟩
end
end L2
namespace L2
open PySem PySem.Spec PyProof.Rows
def ixN(n:Nat)(i:Int):Option Nat:=if 0≤i then (if i < n then some i.toNat else none) else if -(n:Int)≤i then some (i+n).toNat else none
def atI{α:Type}(xs:List α)(i:Int):Option α:=(ixN xs.length i).bind fun j=>xs[j]?
theorem ixN_seq{n:Nat}{i:Int}{j:Nat}(h:ixN n i=some j):seqIndex? i n=some j∧j < n∧-(n:Int)≤i∧i < n:=by
 unfold ixN at h
 by_cases h0:0≤i
 ·rw [if_pos h0] at h
  by_cases h1:i < n
  ·rw [if_pos h1] at h
   have e:i.toNat=j:=Option.some.inj h
   exact⟨by rw [seqIndex_of h0 h1,e],by omega,by omega,h1⟩
  ·rw [if_neg h1] at h;cases h
 ·rw [if_neg h0] at h
  by_cases h1:-(n:Int)≤i
  ·rw [if_pos h1] at h
   have e:(i+n).toNat=j:=Option.some.inj h
   exact⟨by rw [seqIndex_neg (by omega) h1,e],by omega,h1,by omega⟩
  ·rw [if_neg h1] at h;cases h
theorem atI_get{α:Type}{xs:List α}{i:Int}{v:α}(h:atI xs i=some v):∃j,seqIndex? i xs.length=some j∧xs[j]?=some v∧j < xs.length∧-(xs.length:Int)≤i∧i < xs.length:=by
 unfold atI at h
 cases e:ixN xs.length i with
 |none=>rw [e] at h;cases h
 |some j =>
  rw [e] at h
  obtain⟨h1,h2,h3,h4⟩:=ixN_seq e
  exact⟨j,h1,h,h2,h3,h4⟩
theorem atI_nat{α:Type}{xs:List α}{j:Nat}{v:α}(h:xs[j]?=some v):atI xs (j:Int)=some v:=by
 have hj:j < xs.length:=(List.getElem?_eq_some_iff.mp h).1
 have e:ixN xs.length (j:Int)=some j:=by
  unfold ixN
  rw [if_pos (by omega),if_pos (by omega)];simp
 unfold atI;rw [e];exact h
def PlainIx(b:Expr):Prop:=∀o i,subscripted b false o i=operate [o,i] (getItem o i)
def IxR(X:Cx)(r:R2):Prop :=
 ∀(value slice:Expr) (pins:List (Addr × Obj)) (s:Shared) (σ:St) (H:Hp) (x y:V) (v u:Value) (Q:VK),Inv X pins σ H s→RelV x v→RelV y u→r x y H Q →
  subscripted slice false v u=operate [v,u] (getItem v u)→wpAny (model X.prog X.w) X.A (subscriptTail value slice v u) (EP X pins σ Q) X.xe s
def MtR(X:Cx)(id:String)(r:V→List V→Hp→VK→Prop):Prop :=
 ∀(pins:List (Addr × Obj)) (s:Shared) (σ:St) (H:Hp) (x:V) (xs:List V) (v:Value) (us:List Value) (Q:VK),Inv X pins σ H s→RelV x v→Vals xs us→r x xs H Q →
  wpAny (model X.prog X.w) X.A (call (.builtin id) (v::us)) (EP X pins σ Q) X.xe s
section
variable{X:Cx}{a b:Expr}{ta tb:TE}{pos:Pos}
theorem pe_ix{r:R2}(hr:IxR X r)(ha:PE X a ta)(hb:PE X b tb)(hs:PlainIx b):PE X (.Subscript a b pos) (tOp r ta tb):=by
 intro pins s σ H Q I h
 exact Subscript_ (binT ha hb I h fun v u s2 x y H2 I2 rx ry q=>hr a b pins s2 σ H2 x y v u Q I2 rx ry q (hs _ _))
inductive Wg (S:PySem.W.Frag→Hp→Addr→List V→Prop) (K:PySem.W.Frag) (x y:V) (H:Hp) (Q:VK):Prop
 |mk (p:Addr) (xs:List V) (i:Int) (v:V) (a:x=.ref p) (b:y=.int i) (c:S K H p xs) (d:atI xs i=some v) (q:Q v H)
def rIxL(K:PySem.W.Frag):R2:=fun x y H Q=>Wg SqL K x y H Q
def rIxT(K:PySem.W.Frag):R2:=fun x y H Q=>Wg SqT K x y H Q
def rIxS:R2:=fun x y H Q=>∃z i c,x=.str z∧y=.int i∧z.length≤sizeLine∧atI z.cps.toList i=some c∧Q (.str ⟨#[c]⟩) H
theorem ix_list:IxR X (rIxL X.K):=by
 intro value slice pins s σ H x y v u Q I rx ry h hs
 obtain⟨p,xs,i,z,rfl,rfl,hq,he,q⟩:=h
 cases rx
 obtain⟨t,rfl⟩:=ry
 obtain⟨its,r,pl,hz⟩:=I.list hq
 obtain⟨j,h1,h2,h3,h4,h5⟩:=atI_get he
 obtain⟨w,ew,rw'⟩:=r.get h2
 have hl:=r.length
 have hn:=line63
 have fin:EP X pins σ Q w s:=⟨z,H,I,rw',q⟩
 by_cases h0:0≤i
 ·have hj:i.toNat=j:=by
   rw [seqIndex_of h0 h5] at h1
   exact Option.some.inj h1
  exact item_listR pl.isList h0 (by omega) (by rw [hj];simpa using ew) fin hs
 ·have hj:(i+(its.toArray.size:Int)).toNat=j:=by
   rw [seqIndex_neg (by omega) h4] at h1
   rw [List.size_toArray,←hl]
   exact Option.some.inj h1
  exact subscriptTail_builtinR (x:=w) pl.isList.typeIs slot_list_getitem.lookup
   (wpAny_getItem_list_neg (Q:=fun r s'=>r=w∧EP X pins σ Q r s') pl.isList (by omega) (by rw [List.size_toArray]<;>omega) (by omega) (by rw [hj];simpa using ew) ⟨rfl,fin⟩) hs
theorem ix_tup:IxR X (rIxT X.K):=by
 intro value slice pins s σ H x y v u Q I rx ry h hs
 obtain⟨p,xs,i,z,rfl,rfl,hq,he,q⟩:=h
 cases rx
 obtain⟨t,rfl⟩:=ry
 obtain⟨its,r,pl,hz⟩:=I.tuple hq
 obtain⟨j,h1,h2,h3,h4,h5⟩:=atI_get he
 obtain⟨w,ew,rw'⟩:=r.get h2
 have hl:=r.length
 have hn:=line63
 have fin:EP X pins σ Q w s:=⟨z,H,I,rw',q⟩
 exact subscriptTail_builtinR (x:=w) pl.typeIs slot_tuple_getitem.lookup
  (getItem_tuple (j:=j) (Q:=fun r s'=>r=w∧EP X pins σ Q r s') pl (by omega) (by omega) (by rw [List.size_toArray,←hl];exact h1) (by simpa using ew) ⟨rfl,fin⟩) hs
theorem ix_str:IxR X rIxS:=by
 intro value slice pins s σ H x y v u Q I rx ry h hs
 obtain⟨z,i,c,rfl,rfl,hz,he,q⟩:=h
 obtain⟨t,rfl⟩:=rx
 obtain⟨t',rfl⟩:=ry
 obtain⟨j,h1,h2,h3,h4,h5⟩:=atI_get he
 have hl:z.cps.toList.length=z.length:=by simp [Str.length]
 rw [hl] at h1 h4 h5
 have hn:=line63
 exact tail_any (typeIs_str s z t) slot_str_getitem.lookup (getItem_str (c:=c) (by
  have e1:decide (i < -(2 ^ 63:Int))=false:=decide_eq_false (by omega)
  have e2:decide (i≥2 ^ 63)=false:=decide_eq_false (by omega)
  rw [e1,e2,Bool.or_false]) (by rw [h1];simpa using h2) ⟨.str ⟨#[c]⟩,H,I.tok _,⟨_,rfl⟩,q⟩) hs
theorem mapSeq_set(its:List Value)(n j:Nat)(u:Value):Obj.mapSeq (·.setIfInBounds j u) { cls:=.type "list",data:=.seq its.toArray n }={ cls:=.type "list",data:=.seq (its.set j u).toArray n }:=by
 simp [Obj.mapSeq]
theorem Inv.lst{pins:List (Addr × Obj)}{σ:St}{H:Hp}{s:Shared}{p:Addr}{xs:List V}(I:Inv X pins σ H s)(h:H p=some (.lst xs)) :
  ∃(its:List Value) (n:Nat),Vals xs its∧s.heap.get? p=some { cls:=.type "list",data:=.seq its.toArray n }∧xs.length≤sizeLine:=by
 obtain⟨z,its,n,r,e⟩:=I.hok p _ h
 exact⟨its,n,r,e,z⟩
theorem Inv.lstUpd{pins:List (Addr × Obj)}{σ:St}{H:Hp}{s:Shared}{p:Addr}{xs ys:List V}{its its':List Value}{n n':Nat}{f:Obj→Obj}(I:Inv X pins σ H s)(h:H p=some (.lst xs))
  (ho:s.heap.get? p=some { cls:=.type "list",data:=.seq its.toArray n }) (hf:f { cls:=.type "list",data:=.seq its.toArray n }={ cls:=.type "list",data:=.seq its'.toArray n' }) (r:Vals ys its') (hz:ys.length≤sizeLine) (t:Nat) :
  Inv X pins σ (upd H p (.lst ys)) { s with heap:=s.heap.update p f,toks:=t }:=by
 have e:(s.heap.update p f).get? p=some { cls:=.type "list",data:=.seq its'.toArray n' }:=by
  rw [Heap.get?_update_self f ho (by rw [hf]<;>rfl),hf]
 refine I.write (x:=p) (e:=p) (by rw [h];trivial) (.inl rfl) (fun b u hb q=>(Heap.get?_update_other _ _ (Ne.symm hb)).trans q) ⟨_,e⟩ ?_
 exact⟨hz,its',n',r,e⟩
def rSetL:V→V→V→Hp→(Hp→Prop)→Prop:=fun o i v H Q=>∃p xs k j,o=.ref p∧i=.int k∧H p=some (.lst xs)∧ixN xs.length k=some j∧Q (upd H p (.lst (xs.set j v)))
theorem set_list:PSet X rSetL:=by
 intro pins s σ H o i v ov iv u Q I ro ri rv h
 obtain⟨p,xs,k,j,rfl,rfl,hp,hj,q⟩:=h
 cases ro
 obtain⟨t,rfl⟩:=ri
 obtain⟨its,n,r,ho,hz⟩:=I.lst hp
 obtain⟨h1,h2,h3,h4⟩:=ixN_seq hj
 have hl:=r.length
 have hn:=line63
 have I':Inv X pins σ (upd H p (.lst (xs.set j v))) { s with heap:=s.heap.update p (Obj.mapSeq (·.setIfInBounds j u)) } :=
  I.lstUpd hp ho (mapSeq_set its n j u) (r.set rv j) (by rw [List.length_set];exact hz) s.toks
 by_cases h0:0≤k
 ·have hk:k.toNat=j:=by
   rw [seqIndex_of h0 h4] at h1
   exact Option.some.inj h1
  exact PySem.W.ki_setAt ho h0 (by omega) (by rw [List.size_toArray,←hl];exact h4) (by rw [hk];exact⟨_,I',q⟩)
 ·have hk:(k+(its.toArray.size:Int)).toNat=j:=by
   rw [seqIndex_neg (by omega) h3] at h1
   rw [List.size_toArray,←hl]
   exact Option.some.inj h1
  exact PySem.W.ki_setBack ho (by omega) (by rw [List.size_toArray,←hl];exact h3) (by omega) (by rw [hk];exact⟨_,I',q⟩)
def flatV:V→Bool
 |.non=>true
 |.bl _=>true
 |.int _=>true
 |.str _=>true
 |_=>false
def eqV:V→V→Bool
 |.non,.non=>true
 |.bl a,.bl b=>a==b
 |.bl a,.int b=>(if a then 1 else 0)==b
 |.int a,.bl b=>a==(if b then 1 else 0)
 |.int a,.int b=>a==b
 |.str a,.str b=>a==b
 |_,_=>false
theorem eqAt_V{A:Around}{s:Shared}{y x:V}{u v:Value}(ry:RelV y u)(rx:RelV x v)(fy:flatV y=true)(fx:flatV x=true):SeqAt.EqAt A s u v (eqV y x):=by
 cases y with
 |non =>
  cases ry
  cases x with
  |non=>cases rx;exact SeqAt.EqAt.same _
  |bl b=>cases rx;exact SeqAt.EqAt.none_bool b
  |int b=>obtain⟨t,rfl⟩:=rx;exact SeqAt.EqAt.none_int b t
  |str b=>obtain⟨t,rfl⟩:=rx;exact SeqAt.EqAt.none_str b t
  |_=>exact absurd (show false=true from fx) Bool.false_ne_true
 |bl a =>
  cases ry
  cases x with
  |non=>cases rx;exact SeqAt.EqAt.bool_none a
  |bl b=>cases rx;exact SeqAt.EqAt.bool_bool a b
  |int b=>obtain⟨t,rfl⟩:=rx;exact SeqAt.EqAt.bool_int a b t
  |str b=>obtain⟨t,rfl⟩:=rx;exact SeqAt.EqAt.bool_str a b t
  |_=>exact absurd (show false=true from fx) Bool.false_ne_true
 |int a =>
  obtain⟨t',rfl⟩:=ry
  cases x with
  |non=>cases rx;exact SeqAt.EqAt.int_none a t'
  |bl b=>cases rx;exact SeqAt.EqAt.int_bool a t' b
  |int b=>obtain⟨t,rfl⟩:=rx;exact SeqAt.EqAt.int_int a t' b t
  |str b=>obtain⟨t,rfl⟩:=rx;exact SeqAt.EqAt.int_str a t' b t
  |_=>exact absurd (show false=true from fx) Bool.false_ne_true
 |str a =>
  obtain⟨t',rfl⟩:=ry
  cases x with
  |non=>cases rx;exact SeqAt.EqAt.str_none a t'
  |bl b=>cases rx;exact SeqAt.EqAt.str_bool a t' b
  |int b=>obtain⟨t,rfl⟩:=rx;exact SeqAt.EqAt.str_int a t' b t
  |str b=>obtain⟨t,rfl⟩:=rx;exact SeqAt.EqAt.str_str a t' b t
  |_=>exact absurd (show false=true from fx) Bool.false_ne_true
 |_=>exact absurd (show false=true from fy) Bool.false_ne_true
def eqU(x:V)(u:Value):Bool:=match u with
 |.none=>eqV .non x
 |.bool b=>eqV (.bl b) x
 |.int i _=>eqV (.int i) x
 |.str z _=>eqV (.str z) x
 |_=>false
theorem eqU_of{x y:V}{u:Value}(r:RelV y u)(f:flatV y=true):eqU x u=eqV y x:=by
 cases y with
 |non=>cases r;rfl
 |bl b=>cases r;rfl
 |int i=>obtain⟨t,rfl⟩:=r;rfl
 |str z=>obtain⟨t,rfl⟩:=r;rfl
 |_=>exact absurd (show false=true from f) Bool.false_ne_true
theorem any_eqU{x:V}:∀{xs:List V} {us:List Value},Vals xs us→xs.all flatV=true→us.any (eqU x)=xs.any fun y=>eqV y x
 |_,_,.nil,_=>rfl
 |y::xs,u::us,.cons r t,f=>by
  rw [List.all_cons,Bool.and_eq_true] at f
  rw [List.any_cons,List.any_cons,eqU_of r f.1,any_eqU t f.2]
theorem mem_eqAt{A:Around}{s:Shared}{x:V}{v:Value}(rx:RelV x v)(fx:flatV x=true):∀{xs:List V} {us:List Value},Vals xs us→xs.all flatV=true→∀u∈us,SeqAt.EqAt A s u v (eqU x u)
 |_,_,.nil,_=>fun u hu=>by cases hu
 |y::xs,u::us,.cons r t,f=>fun u' hu=>by
  rw [List.all_cons,Bool.and_eq_true] at f
  rcases List.mem_cons.mp hu with rfl|hu
  ·rw [eqU_of r f.1];exact eqAt_V r rx f.1 fx
  ·exact mem_eqAt rx fx t f.2 u' hu
def inV(x:V)(xs:List V):Bool:=xs.any fun y=>eqV y x
def rIn(K:PySem.W.Frag)(neg:Bool):R2:=fun x y H Q=>∃p xs,y=.ref p∧(SqL K H p xs∨SqT K H p xs)∧flatV x=true∧xs.all flatV=true∧Q (.bl (if neg then !inV x xs else inV x xs)) H
theorem op_in_seq:OpR X (compareOp .In) (rIn X.K false):=by
 intro pins s σ H x y v u Q I rx ry h
 obtain⟨p,xs,rfl,hq,fx,fs,q⟩:=h
 cases ry
 rcases hq with hq|hq
 ·obtain⟨its,r,pl,hz⟩:=I.list hq
  refine SeqAt.in_listAt (eqU x) pl.isList (fun w hw=>mem_eqAt rx fx r fs w (by simpa using hw)) ⟨.bl _,H,I,rfl,?_⟩
  rw [show its.toArray.any (eqU x)=its.any (eqU x) by simp,any_eqU r fs]
  exact q
 ·obtain⟨its,r,pl,hz⟩:=I.tuple hq
  refine SeqAt.in_tupleAt (eqU x) pl (fun w hw=>mem_eqAt rx fx r fs w (by simpa using hw)) ⟨.bl _,H,I,rfl,?_⟩
  rw [show its.toArray.any (eqU x)=its.any (eqU x) by simp,any_eqU r fs]
  exact q
theorem call_len_seq:CallR X (.builtin "len") (fun xs H Q=>∃p ys,xs=[.ref p]∧(SqL X.K H p ys∨SqT X.K H p ys)∧Q (.int ys.length) H):=by
 intro pins s σ H xs us Q I r h
 obtain⟨p,ys,rfl,hq,q⟩:=h
 obtain⟨u,rfl,rx⟩:=vals1 r
 cases rx
 have hn:=line63
 rcases hq with hq|hq
 ·obtain⟨its,r',pl,hz⟩:=I.list hq
  have hlen:=r'.length
  exact Calls.call_len_list pl.isList (by simp only [List.size_toArray]<;>omega) ⟨.int ys.length,H,I.tok _,⟨s.toks+1,by rw [List.size_toArray,hlen]⟩,q⟩
 ·obtain⟨its,r',pl,hz⟩:=I.tuple hq
  have hlen:=r'.length
  exact len_tuple pl (by simp only [List.size_toArray]<;>omega) ⟨.int ys.length,H,I.tok _,⟨s.toks+1,by rw [List.size_toArray,hlen]⟩,q⟩
theorem call_len_str:CallR X (.builtin "len") (fun xs H Q=>∃z,xs=[.str z]∧z.length≤sizeLine∧Q (.int z.length) H):=by
 intro pins s σ H xs us Q I r h
 obtain⟨z,rfl,hz,q⟩:=h
 obtain⟨u,rfl,t,rfl⟩:=vals1 r
 have hn:=line63
 exact len_str (by omega) ⟨.int z.length,H,I.tok _,⟨_,rfl⟩,q⟩
theorem call_tuple_of:CallR X (.type "tuple") (fun xs H Q=>∃p ys,xs=[.ref p]∧((SqL X.K H p ys∧∀l,H l=none→Q (.ref l) (upd H l (.tup ys)))∨(SqT X.K H p ys∧Q (.ref p) H))):=by
 intro pins s σ H xs us Q I r h
 obtain⟨p,ys,rfl,h⟩:=h
 obtain⟨u,rfl,rx⟩:=vals1 r
 cases rx
 rcases h with ⟨hq,q⟩|⟨hq,q⟩
 ·obtain⟨its,r',pl,hz⟩:=I.list hq
  have hlen:=r'.length
  refine call_tuple_list pl.isList (fun h' kp=>?_) (by simp only [List.size_toArray]<;>omega)
  have I1:Inv X pins σ H { s with heap:=h' }:=I.kept (t':=s.toks) kp
  have I2:Inv X pins σ (upd H h'.objs.size (.tup ys)) { s with heap:=h'.push { cls:=.type "tuple",data:=.seq its.toArray } } :=
   I1.laid (t':=s.toks) (fun b o e=>Heap.get?_push_of_some _ e) (Nat.le_refl _) (show ObjOk X.prog X.w _ _ _ (.tup ys) from⟨hz,its,r',IsTup.new _ _⟩)
  exact⟨.ref h'.objs.size,_,I2,rfl,q _ (I1.hok.fresh (Nat.le_refl _))⟩
 ·obtain⟨its,r',pl,hz⟩:=I.tuple hq
  exact call_tuple_same pl ⟨.ref p,H,I,rfl,q⟩
def tyV(K:PySem.W.Frag)(T:String)(x:V)(H:Hp):Prop:=match x with
 |.str _=>T="str"
 |.int _=>T="int"
 |.ref p=>(T="list"∧∃xs,SqL K H p xs)∨(T="tuple"∧∃o,K.lookup p=some o∧o.cls=.type "tuple"∧o.dict=none) ∨
   (T="dict"∧((∃kvs,H p=some (.dK kvs))∨∃kvs,H p=some (.dT kvs)))∨(T="set"∧∃S n,H p=some (.set S n))
 |_=>False
theorem tyV_is{pins:List (Addr × Obj)}{σ:St}{H:Hp}{s:Shared}{T:String}{x:V}{v:Value}(I:Inv X pins σ H s)(r:RelV x v)(ty:tyV X.K T x H) :
  s.TypeIs v T∧∀a,v=.ref a→∃ob,s.heap.get? a=some ob∧ob.dict=none:=by
 cases x with
 |str z =>
  obtain⟨t,rfl⟩:=r
  cases (show T="str" from ty)
  exact⟨typeIs_str s z t,fun _ e=>nomatch e⟩
 |int i =>
  obtain⟨t,rfl⟩:=r
  cases (show T="int" from ty)
  exact⟨typeIs_int s i t,fun _ e=>nomatch e⟩
 |ref p =>
  cases r
  rcases ty with ⟨rfl,xs,hq⟩|⟨rfl,o,hk,hc,hd⟩|⟨rfl,hk⟩|⟨rfl,S,n,hk⟩
  ·obtain⟨its,_,pl,_⟩:=I.list hq
   refine⟨pl.isList.typeIs,fun a e=>?_⟩
   cases e
   obtain⟨o,n,e,c,hd,_⟩:=pl
   exact⟨o,e,hd⟩
  ·refine⟨⟨o,I.kIn p o hk,hc⟩,fun a e=>?_⟩
   cases e
   exact⟨o,I.kIn _ o hk,hd⟩
  ·have z:∃o,s.heap.get? p=some o∧o.ExactDict:=by
    rcases hk with ⟨kvs,hk⟩|⟨kvs,hk⟩
    ·obtain⟨_,_,_,_,o,_,_,e,ex,_⟩:=I.hok p _ hk
     exact⟨o,e,ex⟩
    ·obtain⟨_,_,_,_,o,_,_,e,ex,_⟩:=I.hok p _ hk
     exact⟨o,e,ex⟩
   obtain⟨o,e,ex⟩:=z
   refine⟨⟨o,e,ex.1⟩,fun a e2=>?_⟩
   cases e2
   exact⟨o,e,ex.2.1⟩
  ·obtain⟨o,_,_,_,e,ex,_⟩:=I.hok p _ hk
   refine⟨⟨o,e,ex.1⟩,fun a e2=>?_⟩
   cases e2
   exact⟨o,e,ex.2.1⟩
 |_=>exact False.elim ty
def tBM0(K:PySem.W.Frag)(T:String)(r:V→List V→Hp→VK→Prop)(to:TE):TE:=fun σ H Q=>to σ H fun x H1=>tyV K T x H1∧r x [] H1 Q
structure Wh(K:PySem.W.Frag)(T:String)(r:V→List V→Hp→VK→Prop)(t:TA)(x:V)(σ:St)(H:Hp)(Q:VK):Prop where
 h:tyV K T x H
 q:t σ H fun xs H2=>r x xs H2 Q
def tBM(K:PySem.W.Frag)(T:String)(r:V→List V→Hp→VK→Prop)(to:TE)(t:TA):TE:=fun σ H Q=>to σ H fun x H1=>Wh K T r t x σ H1 Q
variable{o e:Expr}{es:List Expr}{to:TE}{t:TA}{name:Str}{apos cpos:Pos}{T id:String}{r:V→List V→Hp→VK→Prop}
theorem pe_bm0(pa:PlainAttrs T)(slot:Slot T name id) (hty:typeOf (.builtin id)=pure (.type "method_descriptor")) (hm:MtR X id r) (ho:PE X o to)
  (hbase:attributeBase o name X.env (eval o X.env)=eval o X.env:=by rfl) (hline:(apos.endLine==cpos.line)=true:=by rfl):PE X (.Call (.Attribute o name apos) [] [] cpos) (tBM0 X.K T r to):=by
 intro pins s σ H Q I h
 refine wpAny_Call_method0_late hbase hline (thn (ho pins s σ H _ I h) fun v s1 ⟨x,H1,I1,r1,ty,q1⟩=>?_)
 obtain⟨h1,h2⟩:=tyV_is I1 r1 ty
 exact⟨T,id,pa,slot,hty,h1,h2,Calls.callWith_builtin rfl (PySem.evalArgs_none (hm pins s1 σ H1 x [] v [] Q I1 r1 .nil q1))⟩
theorem pe_bm(pa:PlainAttrs T)(slot:Slot T name id) (hty:typeOf (.builtin id)=pure (.type "method_descriptor")) (hm:MtR X id r) (ho:PE X o to) (ha:PA X (e::es) t)
  (hbase:attributeBase o name X.env (eval o X.env)=eval o X.env:=by rfl)
  (hfew:((backTo cpos (starEach (e::es) X.env)).all (fun x=>!x.1)&&(backToKw cpos (keywordEach [] X.env)).all (fun x=>x.1.isSome)
   && decide ((e::es).length+([]:List Keyword).length+(if ([]:List Keyword).isEmpty then 0 else 1) < 30))=true:=by rfl)
  (hline:(apos.endLine==cpos.line)=true:=by rfl) (hs:starEach (e::es) X.env=(false,eval e X.env)::starEach es X.env:=by rfl) (hplain:(backTo cpos (starEach es X.env)).any (·.1)=false:=by rfl) :
  PE X (.Call (.Attribute o name apos) (e::es) [] cpos) (tBM X.K T r to t):=by
 intro pins s σ H Q I h
 refine wpAny_Call_method_late hbase hfew hline rfl (thn (ho pins s σ H _ I h) fun v s1 ⟨x,H1,I1,r1,ty,q1⟩=>?_)
 obtain⟨h1,h2⟩:=tyV_is I1 r1 ty
 refine⟨T,id,pa,slot,hty,h1,h2,?_⟩
 have hA:=ha cpos pins s1 σ H1 _ I1 q1
 rw [hs] at hA ⊢
 refine Calls.callWith_builtin (by show(false||(backTo cpos (starEach es X.env)).any (·.1))=false;rw [hplain]<;>rfl) (Calls.evalArgs_plain ?_)
 exact thn hA fun us s2 ⟨vs,H2,I2,r2,q2⟩=>hm pins s2 σ H2 x vs v us Q I2 r1 r2 q2
/- xs.append(e),list.index on a module's tuple .. are MtR facts of 06m -/
end
end L2
namespace L2
open PySem PySem.Spec PyProof.Rows
def MtM(X:Cx)(id:String)(r:V→List V→Hp→VK→Prop):Prop :=
 ∀(pins:List (Addr × Obj)) (s:Shared) (σ:St) (H:Hp) (x:V) (xs:List V) (v:Value) (us:List Value) (Q:VK),Inv X pins σ H s→RelV x v→Vals xs us→r x xs H Q →
  wpAny (model X.prog X.w) X.A (call (.builtin id) (v::us)) (EP X pins σ Q) X.xe s
theorem Vals.one:∀{x:V} {us:List Value},Vals [x] us→∃u,us=[u]∧RelV x u
 |_,_,.cons r .nil=>⟨_,rfl,r⟩
theorem Vals.zero:∀{us:List Value},Vals [] us→us=[]
 |_,.nil=>rfl
theorem Vals.reverse{xs:List V}{us:List Value}(h:Vals xs us):Vals xs.reverse us.reverse:=by
 induction h with
 |nil=>exact .nil
 |cons r t ih=>rw [List.reverse_cons,List.reverse_cons];exact Vals.append ih (.cons r .nil)
section
variable{X:Cx}{pins:List (Addr × Obj)}{σ:St}{H:Hp}{s:Shared}{l b:Addr}{xs ys zs:List V}
theorem Inv.lset{its its':List Value}{n:Nat}{f:Array Value→Array Value}{t':Nat}(I:Inv X pins σ H s)(hH:H l=some (.lst xs))
  (e:s.heap.get? l=some { cls:=.type "list",data:=.seq its.toArray n }) (hf:f its.toArray=its'.toArray) (hv:Vals ys its') (hz:ys.length≤sizeLine) :
  Inv X pins σ (upd H l (.lst ys)) { s with heap:=s.heap.update l (Obj.mapSeq f),toks:=t' }:=by
 have q:=PySem.IsL.update e f
 rw [hf] at q
 refine I.write (x:=l) (e:=l) (by rw [hH];exact trivial) (.inl rfl) (fun b' u hb hu=>(Heap.get?_update_other s.heap (Obj.mapSeq f) (Ne.symm hb)).trans hu) ⟨_,q⟩ ?_
 exact⟨hz,its',_,hv,q⟩
theorem Inv.lnew{its:List Value}{t':Nat}(I:Inv X pins σ H s)(hv:Vals ys its)(hz:ys.length≤sizeLine) :
  Inv X pins σ (upd H s.heap.objs.size (.lst ys)) { s with heap:=s.heap.push { cls:=.type "list",data:=.seq its.toArray },toks:=t' } :=
 I.laid (fun _ _ q=>Heap.get?_push_of_some _ q) (Nat.le_refl _) ⟨hz,its,0,hv,Heap.get?_push_size _ rfl⟩
theorem Inv.fresh(I:Inv X pins σ H s):H s.heap.objs.size=none:=I.hok.fresh (Nat.le_refl _)
theorem Inv.lstM(I:Inv X pins σ H s)(hH:H l=some (.lst xs)):xs.length≤sizeLine∧∃(its:List Value) (n:Nat),Vals xs its∧xs.length=its.length∧s.heap.get? l=some { cls:=.type "list",data:=.seq its.toArray n }:=by
 obtain⟨z,its,n,r,e⟩:=I.hok l _ hH
 exact⟨z,its,n,r,r.length,e⟩
end
section
variable{X:Cx}
def rAppend:V→List V→Hp→VK→Prop:=fun x vs H Q=>∃l xs y,x=.ref l∧vs=[y]∧H l=some (.lst xs)∧xs.length < sizeLine∧Q .non (upd H l (.lst (xs++[y])))
theorem mt_append:MtM X "list.append" rAppend:=by
 intro pins s σ H x vs v us Q I rx rv h
 obtain⟨l,xs,y,rfl,rfl,hH,hz,q⟩:=h
 cases rx
 obtain⟨u,rfl,ru⟩:=rv.one
 obtain⟨z,its,n,r,hl,e⟩:=I.lstM hH
 refine call_meets F.slot_list_append ⟨_,e,rfl⟩ F.entry_list_append (F.args_list_append_2 _ _) (PySem.list_append l its.toArray n u (by rw [List.size_toArray];omega)) ⟨e,?_⟩
 refine⟨.non,_,I.lset (its':=its++[u]) hH e (by simp) (r.append (.cons ru .nil)) ?_,rfl,q⟩
 rw [List.length_append,List.length_singleton]
 omega
def rReverse:V→List V→Hp→VK→Prop:=fun x vs H Q=>∃l xs,x=.ref l∧vs=[]∧H l=some (.lst xs)∧Q .non (upd H l (.lst xs.reverse))
theorem mt_reverse:MtM X "list.reverse" rReverse:=by
 intro pins s σ H x vs v us Q I rx rv h
 obtain⟨l,xs,rfl,rfl,hH,q⟩:=h
 cases rx
 have hus:=rv.zero
 subst hus
 obtain⟨z,its,n,r,hl,e⟩:=I.lstM hH
 refine call_meets F.slot_list_reverse ⟨_,e,rfl⟩ F.entry_list_reverse (F.args_list_reverse_1 _) (AutoSeq1.list_reverse_list_0 l its.toArray n (by rw [List.size_toArray];omega)) ⟨e,?_⟩
 refine⟨.non,_,I.lset (its':=its.reverse) hH e (by simp) r.reverse ?_,rfl,q⟩
 rw [List.length_reverse]
 omega
def rCat:R2:=fun x y H Q=>∃l b xs zs,x=.ref l∧y=.ref b∧H l=some (.lst xs)∧H b=some (.lst zs)∧xs.length+zs.length≤sizeLine∧∀p,H p=none→Q (.ref p) (upd H p (.lst (xs++zs)))
theorem op_cat:OpR X (binaryOp .Add) rCat:=by
 intro pins s σ H x y v u Q I rx ry h
 obtain⟨l,b,xs,zs,rfl,rfl,hH,hB,hz,q⟩:=h
 cases rx
 cases ry
 obtain⟨z,its,n,r,hl,e⟩:=I.lstM hH
 obtain⟨z2,its2,n2,r2,hl2,e2⟩:=I.lstM hB
 refine PySem.P.add_list e e2 ?_ (by rw [List.size_toArray,List.size_toArray];omega)
 have ea:its.toArray++its2.toArray=(its++its2).toArray:=by simp
 rw [ea]
 exact⟨.ref _,_,I.lnew (t':=s.toks) (r.append r2) (by rw [List.length_append];omega),rfl,q _ I.fresh⟩
end
section
variable{prog:Program}{w:World}{A:Around}{E:Value→Shared→Prop}{s:Shared}
end
section
variable{X:Cx}
end
end L2
namespace L2
open PySem PySem.Spec PyProof.Rows
section
variable{κ:Type}[DecidableEq κ]
def valV(kvs:List (κ × V))(k:κ):Option V:=(kvs.find? fun kv=>decide (kv.1=k)).map (·.2)
def putK(kvs:List (κ × V))(k:κ)(v:V):List (κ × V) :=
 if (kvs.any fun kv=>decide (kv.1=k))=true then kvs.map (fun kv=>if kv.1=k then (kv.1,v) else kv) else kvs++[(k,v)]
def dropK(kvs:List (κ × V))(k:κ):List (κ × V):=kvs.filter fun kv=>decide (kv.1≠k)
theorem valV_pos{p:κ × V}{r:List (κ × V)}{k:κ}(e:p.1=k):valV (p::r) k=some p.2:=by simp [valV,List.find?_cons,e]
theorem valV_neg{p:κ × V}{r:List (κ × V)}{k:κ}(e:¬p.1=k):valV (p::r) k=valV r k:=by simp [valV,List.find?_cons,e]
theorem valV_any(k:κ):∀kvs:List (κ × V),(kvs.any fun kv=>decide (kv.1=k))=(valV kvs k).isSome
 |[]=>rfl
 |p::r=>by
  rw [List.any_cons]
  by_cases e:p.1=k
  ·simp only [valV_pos e,decide_eq_true e,Bool.true_or,Option.isSome_some]
  ·rw [valV_neg e,decide_eq_false e,Bool.false_or];exact valV_any k r
theorem valV_map(k j:κ)(y:V):∀kvs:List (κ × V),valV (kvs.map fun kv=>if kv.1=k then (kv.1,y) else kv) j=(valV kvs j).map fun x=>if j=k then y else x
 |[]=>rfl
 |p::r=>by
  have ih:=valV_map k j y r
  rw [List.map_cons]
  by_cases h:p.1=k
  ·rw [if_pos h]
   by_cases e:p.1=j
   ·rw [valV_pos (p:=(p.1,y)) e,valV_pos e,Option.map_some,if_pos (e.symm.trans h)]
   ·rw [valV_neg (p:=(p.1,y)) e,valV_neg e,ih]
  ·rw [if_neg h]
   by_cases e:p.1=j
   ·rw [valV_pos (p:=p) e,valV_pos e,Option.map_some,if_neg (fun z=>h (e.trans z))]
   ·rw [valV_neg (p:=p) e,valV_neg e,ih]
theorem valV_snoc(k j:κ)(y:V):∀kvs:List (κ × V),valV kvs k=none→valV (kvs++[(k,y)]) j=if j=k then some y else valV kvs j
 |[],_=>by
  by_cases e:k=j
  ·rw [if_pos e.symm];exact valV_pos (p:=(k,y)) e
  ·rw [if_neg (fun z=>e z.symm)];exact valV_neg (p:=(k,y)) e
 |p::r,hn=>by
  rw [List.cons_append]
  have hk:¬p.1=k:=fun z=>by rw [valV_pos z] at hn;cases hn
  rw [valV_neg hk] at hn
  have ih:=valV_snoc k j y r hn
  by_cases e:p.1=j
  ·rw [valV_pos e,valV_pos e,if_neg (fun z=>hk (e.trans z))]
  ·rw [valV_neg e,valV_neg e,ih]
theorem valV_put(kvs:List (κ × V))(k j:κ)(y:V):valV (putK kvs k y) j=if j=k then some y else valV kvs j:=by
 unfold putK
 by_cases a:(kvs.any fun kv=>decide (kv.1=k))=true
 ·rw [if_pos a,valV_map]
  rw [valV_any] at a
  by_cases e:j=k
  ·obtain⟨x,hx⟩:=Option.isSome_iff_exists.mp a
   rw [if_pos e,e,hx,Option.map_some,if_pos rfl]
  ·rw [if_neg e]
   cases valV kvs j with
   |none=>rfl
   |some x=>rw [Option.map_some,if_neg e]
 ·rw [if_neg a]
  refine valV_snoc k j y kvs ?_
  rw [valV_any] at a
  cases q:valV kvs k with
  |none=>rfl
  |some x=>rw [q] at a;exact(a rfl).elim
theorem length_putK(kvs:List (κ × V))(k:κ)(v:V):(putK kvs k v).length≤kvs.length+1:=by
 unfold putK
 split
 ·rw [List.length_map];omega
 ·rw [List.length_append,List.length_cons,List.length_nil];omega
theorem putK_new{kvs:List (κ × V)}{k:κ}(v:V)(h:valV kvs k=none):putK kvs k v=kvs++[(k,v)]:=by
 unfold putK
 rw [valV_any,h]
 exact if_neg (by decide)
theorem RelO.isSome_eq{o:Option V}{u:Option Value}(r:RelO o u):o.isSome=u.isSome:=by
 cases o with
 |none=>cases u with
  |none=>rfl
  |some _=>exact(show False from r).elim
 |some _=>cases u with
  |none=>exact(show False from r).elim
  |some _=>rfl
theorem RelO.getD{o:Option V}{u:Option Value}{d:V}{d':Value}(r:RelO o u)(rd:RelV d d'):RelV (o.getD d) (u.getD d'):=by
 cases o with
 |none=>cases u with
  |none=>exact rd
  |some _=>exact(show False from r).elim
 |some _=>cases u with
  |none=>exact(show False from r).elim
  |some _=>exact r
theorem KV.val{kvs:List (κ × V)}{vs:List (κ × Value)}(r:KV kvs vs)(k:κ):RelO (valV kvs k) (valueAt vs k):=by
 unfold KV at r
 induction r with
 |nil=>exact True.intro
 |@cons p q ps qs h t ih =>
  obtain⟨h1,h2⟩:=h
  by_cases e:p.1=k
  ·have e':q.1=k:=h1.symm.trans e
   have b:valueAt (q::qs) k=some q.2:=by simp [valueAt,List.find?_cons,e']
   rw [valV_pos e,b];exact h2
  ·have e':¬q.1=k:=fun z=>e (h1.trans z)
   have b:valueAt (q::qs) k=valueAt qs k:=by simp [valueAt,List.find?_cons,e']
   rw [valV_neg e,b];exact ih
theorem KV.any{kvs:List (κ × V)}{vs:List (κ × Value)}(r:KV kvs vs)(k:κ):(kvs.any fun kv=>decide (kv.1=k))=vs.any fun kv=>decide (kv.1=k):=by
 unfold KV at r
 induction r with
 |nil=>rfl
 |cons h t ih=>rw [List.any_cons,List.any_cons,ih,h.1]
theorem KV.repl{kvs:List (κ × V)}{vs:List (κ × Value)}(r:KV kvs vs)(k:κ){y:V}{u:Value}(ry:RelV y u) :
  KV (kvs.map fun kv=>if kv.1=k then (kv.1,y) else kv) (vs.map fun kv=>if kv.1=k then (kv.1,u) else kv):=by
 unfold KV at r ⊢
 induction r with
 |nil=>exact .nil
 |@cons p q ps qs h t ih =>
  rw [List.map_cons,List.map_cons]
  refine .cons ?_ ih
  obtain⟨h1,h2⟩:=h
  by_cases e:p.1=k
  ·rw [if_pos e,if_pos (h1.symm.trans e)];exact⟨h1,ry⟩
  ·rw [if_neg e,if_neg (fun z=>e (h1.trans z))];exact⟨h1,h2⟩
theorem KV.put{kvs:List (κ × V)}{vs:List (κ × Value)}(r:KV kvs vs)(k:κ){y:V}{u:Value}(ry:RelV y u):KV (putK kvs k y) (stored vs k u):=by
 unfold putK stored
 rw [r.any k]
 by_cases e:(vs.any fun kv=>decide (kv.1=k))=true
 ·rw [if_pos e,if_pos e];exact r.repl k ry
 ·rw [if_neg e,if_neg e];exact Paired.snoc r ⟨rfl,ry⟩
theorem KV.drop{kvs:List (κ × V)}{vs:List (κ × Value)}(r:KV kvs vs)(k:κ):KV (dropK kvs k) (without vs k):=by
 unfold KV at r ⊢
 unfold dropK without
 induction r with
 |nil=>exact .nil
 |@cons p q ps qs h t ih =>
  obtain⟨h1,h2⟩:=h
  rw [List.filter_cons,List.filter_cons]
  by_cases e:p.1=k
  ·have a:¬decide (p.1≠k)=true:=by simp [e]
   have b:¬decide (q.1≠k)=true:=by simp [h1.symm.trans e]
   rw [if_neg a,if_neg b];exact ih
  ·have e':¬q.1=k:=fun z=>e (h1.trans z)
   have a:decide (p.1≠k)=true:=by simp [e]
   have b:decide (q.1≠k)=true:=by simp [e']
   rw [if_pos a,if_pos b];exact .cons ⟨h1,h2⟩ ih
theorem KV.length{kvs:List (κ × V)}{vs:List (κ × Value)}(r:KV kvs vs):kvs.length=vs.length:=Paired.length r
theorem dropK_le(kvs:List (κ × V))(k:κ):(dropK kvs k).length≤kvs.length:=List.length_filter_le _ _
end
theorem kV_is{P:Program}{w:World}{k:Key}{u:Value}(r:RelV (kV k) u):(mixKind P w).is k u=true:=by
 cases k with
 |inl i=>obtain⟨t,e⟩:=(show ∃t,u=Value.int i t from r);subst e;exact mixKind_int P w i t
 |inr x=>obtain⟨t,e⟩:=(show ∃t,u=Value.str x t from r);subst e;exact mixKind_str P w x t
theorem items_are{P:Program}{w:World}:∀{ks:List Key} {us:List Value},Vals (ks.map kV) us→ItemsAre (mixKind P w) ks us
 |[],_,r=>by rw [List.map_nil] at r;cases r;exact .nil
 |k::ks,_,r=>by
  rw [List.map_cons] at r
  cases r with
  |cons h t=>exact .cons (kV_is h) (items_are t)
abbrev KT(H:Hp):List (List Key × V)→List (List Key × Addr × Value)→Prop:=Paired fun p q=>p.1=q.1∧H q.2.1=some (.tup (p.1.map kV))∧RelV p.2 q.2.2
theorem KT.val{H:Hp}{kvs:List (List Key × V)}{xs:List (List Key × Addr × Value)}(r:KT H kvs xs)(k:List Key):RelO (valV kvs k) ((atKey xs k).map (·.2)):=by
 induction r with
 |nil=>exact True.intro
 |@cons p q ps qs h t ih =>
  obtain⟨h1,_,h2⟩:=h
  by_cases e:p.1=k
  ·have e':q.1=k:=h1.symm.trans e
   have b:atKey (q::qs) k=some q.2:=by simp [atKey,List.find?_cons,e']
   rw [valV_pos e,b];exact h2
  ·have e':¬q.1=k:=fun z=>e (h1.trans z)
   have b:atKey (q::qs) k=atKey qs k:=by simp [atKey,List.find?_cons,e']
   rw [valV_neg e,b];exact ih
theorem KT.repl{H:Hp}{kvs:List (List Key × V)}{xs:List (List Key × Addr × Value)}(r:KT H kvs xs)(k:List Key){y:V}{u:Value}(ry:RelV y u) :
  KT H (kvs.map fun kv=>if kv.1=k then (kv.1,y) else kv) (xs.map (putAt k u)):=by
 induction r with
 |nil=>exact .nil
 |@cons p q ps qs h t ih =>
  rw [List.map_cons,List.map_cons]
  refine .cons ?_ ih
  obtain⟨h1,h2,h3⟩:=h
  unfold putAt
  by_cases e:p.1=k
  ·rw [if_pos e,if_pos (h1.symm.trans e)];exact⟨h1,h2,ry⟩
  ·rw [if_neg e,if_neg (fun z=>e (h1.trans z))];exact⟨h1,h2,h3⟩
theorem KT.put{H:Hp}{kvs:List (List Key × V)}{xs:List (List Key × Addr × Value)}(r:KT H kvs xs)(k:List Key){b:Addr}{y:V}{u:Value}(hb:H b=some (.tup (k.map kV)))(ry:RelV y u) :
  KT H (putK kvs k y) (storedH xs k b u):=by
 have e:(kvs.any fun kv=>decide (kv.1=k))=(atKey xs k).isSome:=by
  rw [valV_any,(r.val k).isSome_eq,Option.isSome_map]
 unfold putK storedH
 rw [e]
 by_cases q:(atKey xs k).isSome=true
 ·rw [if_pos q,if_pos q];exact r.repl k ry
 ·rw [if_neg q,if_neg q];exact Paired.snoc r ⟨rfl,hb,ry⟩
theorem KT.keeps{H H':Hp}{kvs:List (List Key × V)}{xs:List (List Key × Addr × Value)}(r:KT H kvs xs)(ht:∀b ys,H b=some (.tup ys)→H' b=some (.tup ys)):KT H' kvs xs :=
 Paired.mapP r fun _ _ z=>⟨z.1,ht _ _ z.2.1,z.2.2⟩
section
variable{P:Program}{w:World}{H:Hp}{h:Heap}{a:Addr}
theorem rd_of{u:HO}(ok:HOk P w H h)(e:Rd H a u):ObjOk P w H h a u:=e.ok ok
theorem dk_rd{kvs:List (Key × V)}(ok:HOk P w H h)(e:Rd H a (.dK kvs)):kvs.length≤sizeLine∧(a==sysModules)=false∧∃vs,KV kvs vs∧h.DictOf (mixKind P w) a vs :=
 show ObjOk P w H h a (.dK kvs) from rd_of ok e
theorem dk_of{kvs:List (Key × V)}(ok:HOk P w H h)(e:H a=some (.dK kvs)):kvs.length≤sizeLine∧(a==sysModules)=false∧∃vs,KV kvs vs∧h.DictOf (mixKind P w) a vs:=dk_rd ok (.inl e)
theorem key_of{ks:List Key}(ok:HOk P w H h)(e:H a=some (.tup (ks.map kV))):(tupleKind (mixKind P w)).is h ks a:=by
 obtain⟨_,its,r,o,h1,h2,n,h3⟩:=(show ObjOk P w H h a (.tup (ks.map kV)) from ok a _ e)
 exact⟨o,its.toArray,n,h1,h2,h3,by simpa using items_are r⟩
theorem dt_rd{kvs:List (List Key × V)}(ok:HOk P w H h)(e:Rd H a (.dT kvs)):kvs.length≤sizeLine∧(a==sysModules)=false ∧
  ∃xs,KT H kvs xs∧h.DictOfH (tupleKind (mixKind P w)) a xs:=by
 obtain⟨z,y,xs,r,o,es,ep,h1,h2,h3,h4,h5⟩:=(show ObjOk P w H h a (.dT kvs) from rd_of ok e)
 refine⟨z,y,xs,r,o,es,ep,h1,h2,h3,h4,fun x hx=>?_,h5⟩
 have all:∀{l:List (List Key × V)} {m:List (List Key × Addr × Value)},KT H l m→∀x∈m,(tupleKind (mixKind P w)).is h x.1 x.2.1:=by
  intro l m q
  induction q with
  |nil=>intro x hx;exact nomatch hx
  |@cons p q ps qs hq t ih =>
   intro x hx
   rcases List.mem_cons.mp hx with e|hx
   ·subst e
    exact key_of ok (by rw [←hq.1];exact hq.2.1)
   ·exact ih x hx
 exact all r x hx
theorem dt_of{kvs:List (List Key × V)}(ok:HOk P w H h)(e:H a=some (.dT kvs)):kvs.length≤sizeLine∧(a==sysModules)=false ∧
  ∃xs,KT H kvs xs∧h.DictOfH (tupleKind (mixKind P w)) a xs:=dt_rd ok (.inl e)
end
def DGet(H:Hp)(a:Addr)(y:V)(r:Option V):Prop :=
 (∃kvs k,Rd H a (.dK kvs)∧y=kV k∧r=valV kvs k)∨∃kvs k b,Rd H a (.dT kvs)∧y=.ref b∧H b=some (.tup (k.map kV))∧r=valV kvs k
def DPut(H:Hp)(a:Addr)(y v:V)(H':Hp):Prop :=
 (∃kvs k,H a=some (.dK kvs)∧y=kV k∧kvs.length < sizeLine∧H'=upd H a (.dK (putK kvs k v))) ∨
 ∃kvs k b,H a=some (.dT kvs)∧y=.ref b∧H b=some (.tup (k.map kV))∧kvs.length < sizeLine∧H'=upd H a (.dT (putK kvs k v))
theorem DGet.k{H:Hp}{a:Addr}{kvs:List (Key × V)}{k:Key}(e:H a=some (.dK kvs)):DGet H a (kV k) (valV kvs k):=.inl ⟨kvs,k,.inl e,rfl,rfl⟩
theorem DGet.t{H:Hp}{a b:Addr}{kvs:List (List Key × V)}{k:List Key}(e:H a=some (.dT kvs))(eb:H b=some (.tup (k.map kV))):DGet H a (.ref b) (valV kvs k):=.inr ⟨kvs,k,b,.inl e,rfl,eb,rfl⟩
theorem DPut.k{H:Hp}{a:Addr}{kvs:List (Key × V)}{k:Key}{v:V}(e:H a=some (.dK kvs))(hl:kvs.length < sizeLine):DPut H a (kV k) v (upd H a (.dK (putK kvs k v))):=.inl ⟨kvs,k,e,rfl,hl,rfl⟩
theorem DPut.t{H:Hp}{a b:Addr}{kvs:List (List Key × V)}{k:List Key}{v:V}(e:H a=some (.dT kvs))(eb:H b=some (.tup (k.map kV)))(hl:kvs.length < sizeLine) :
  DPut H a (.ref b) v (upd H a (.dT (putK kvs k v))):=.inr ⟨kvs,k,b,e,rfl,eb,hl,rfl⟩
section
variable{X:Cx}{pins:List (Addr × Obj)}{σ:St}{H:Hp}{s:Shared}{a:Addr}{y v:V}{u r:Value}{o:Option V}{A:Around}{E:Value→Shared→Prop}
theorem Inv.big(I:Inv X pins σ H s):sysModules < s.heap.objs.size:=by
 have h:mainGlobals < s.heap.objs.size:=(I.mod.glob.keeps I.bk).lt
 exact Nat.lt_trans (by decide) h
theorem d_getItem{Q:Value→Shared→Prop}(hu:A.units+1 < cLine)(I:Inv X pins σ H s)(g:DGet H a y (some v))(ry:RelV y u)(h:∀w' s',Inv X pins σ H s'→RelV v w'→Q w' s') :
  wpAny (model X.prog X.w) A (getItem (.ref a) u) Q E s:=by
 rcases g with ⟨kvs,k,e,ey,l⟩|⟨kvs,k,b,e,ey,eb,l⟩
 ·subst ey
  obtain⟨z,hd,vs,rel,dd⟩:=dk_rd I.hok e
  obtain⟨w',hw,rw'⟩:=RelO.some_of (v:=v) (o:=valueAt vs k) (by rw [l];exact rel.val k)
  exact wpAny_getItem_of (kV_is ry) dd.mapOf hw (h w' _ (I.tok _) rw')
 ·subst ey
  cases (show u=Value.ref b from ry)
  obtain⟨z,hd,xs,rel,dd⟩:=dt_rd I.hok e
  obtain⟨w',hw,rw'⟩:=RelO.some_of (v:=v) (o:=(atKey xs k).map (·.2)) (by rw [l];exact rel.val k)
  obtain⟨p,hp,hp2⟩:=Option.map_eq_some_iff.mp hw
  refine wpAny_getItem_heap (tupleKind_room_in1 hu) (key_of I.hok eb) dd hp ?_
  rw [hp2]
  exact h w' _ (I.tok _) rw'
theorem d_notIn{Q:Value→Shared→Prop}(hu:A.units+1 < cLine)(I:Inv X pins σ H s)(g:DGet H a y o)(ry:RelV y u)(h:∀s',Inv X pins σ H s'→Q (.bool (!o.isSome)) s') :
  wpAny (model X.prog X.w) A (compareOp .NotIn u (.ref a)) Q E s:=by
 rcases g with ⟨kvs,k,e,ey,l⟩|⟨kvs,k,b,e,ey,eb,l⟩
 ·subst ey
  obtain⟨z,hd,vs,rel,dd⟩:=dk_rd I.hok e
  refine wpAny_notIn_of (kV_is ry) hd dd.mapOf ?_
  rw [←(rel.val k).isSome_eq,←l]
  exact h _ (I.tok _)
 ·subst ey
  cases (show u=Value.ref b from ry)
  obtain⟨z,hd,xs,rel,dd⟩:=dt_rd I.hok e
  refine wpAny_notIn_heap (tupleKind_room_in1 hu) (key_of I.hok eb) hd dd ?_
  have q:=(rel.val k).isSome_eq
  rw [Option.isSome_map] at q
  rw [←q,←l]
  exact h _ (I.tok _)
theorem d_write{h':Heap}{t':Nat}{ob:HO}(I:Inv X pins σ H s)(mu:Mut (H a))(hs:Heap.SameBut a s.heap h')(he:∃q,h'.get? a=some q)(new:ObjOk X.prog X.w (upd H a ob) h' a ob) :
  Inv X pins σ (upd H a ob) { s with heap:=h',toks:=t' } :=
 I.write (x:=a) (e:=a) mu (.inl rfl) (fun b q hb z=>(hs.2 b hb).trans z) he new
theorem dk_new{P:Program}{w:World}{H':Hp}{h':Heap}{kvs:List (Key × V)}{vs:List (Key × Value)}(z:kvs.length≤sizeLine)(hd:(a==sysModules)=false)(rel:KV kvs vs)(dd:h'.DictOf (mixKind P w) a vs) :
  ObjOk P w H' h' a (.dK kvs):=⟨z,hd,vs,rel,dd⟩
theorem d_setItem{H':Hp}{Q:Unit→Shared→Prop}(hu:A.units+1 < cLine)(I:Inv X pins σ H s)(g:DPut H a y v H')(ry:RelV y u)(rv:RelV v r)(h:∀s',Inv X pins σ H' s'→Q () s') :
  wpAny (model X.prog X.w) A (setItem (.ref a) u r) Q E s:=by
 rcases g with ⟨kvs,k,e,ey,l,eH⟩|⟨kvs,k,b,e,ey,eb,l,eH⟩
 ·subst ey eH
  obtain⟨z,hd,vs,rel,dd⟩:=dk_of I.hok e
  have hz:vs.length≤sizeLine:=by rw [←rel.length];exact z
  have hl:(putK kvs k v).length≤sizeLine:=by have:=length_putK kvs k v;omega
  refine wpAny_setItem_pairs (hsz:=hz) (kV_is ry) dd fun h' dd' hs=>h _ ?_
  have he:∃q,h'.get? a=some q:=let ⟨q,_,_,hq,_⟩:=dd';⟨q,hq⟩
  exact d_write I (by rw [e];exact True.intro) hs he (dk_new hl hd (rel.put k rv) dd')
 ·subst ey eH
  cases (show u=Value.ref b from ry)
  obtain⟨z,hd,xs,rel,dd⟩:=dt_of I.hok e
  have hz:xs.length≤sizeLine:=by rw [←Paired.length rel];exact z
  have hl:(putK kvs k v).length≤sizeLine:=by have:=length_putK kvs k v;omega
  refine wpAny_setItem_heap (hsz:=hz) (tupleKind_room_in1 hu) (key_of I.hok eb) dd fun h' dd' hs=>h _ ?_
  obtain⟨q,es,ep,hq,h2,h3,h4,_,h5⟩:=dd'
  refine d_write I (by rw [e];exact True.intro) hs ⟨q,hq⟩ ⟨hl,hd,_,(rel.put k eb rv).keeps fun c ys ec=>?_,q,es,ep,hq,h2,h3,h4,h5⟩
  rw [upd_ne (ne_of ec e (fun z=>nomatch z))]
  exact ec
end
section
variable{X:Cx}{pins:List (Addr × Obj)}{σ:St}{H:Hp}{s:Shared}{a:Addr}{kvs:List (Key × V)}{k:Key}{u:Value}{A:Around}{E:Value→Shared→Prop}
theorem d_pop{v:V}{more:List Value}{Q:Value→Shared→Prop}(I:Inv X pins σ H s)(e:H a=some (.dK kvs))(ry:RelV (kV k) u)(l:valV kvs k=some v)(hm:more=[]∨∃x,more=[x])
  (h:∀w' s',Inv X pins σ (upd H a (.dK (dropK kvs k))) s'→RelV v w'→Q w' s'):wpAny (model X.prog X.w) A (call (.builtin "dict.pop") (.ref a::u::more)) Q E s:=by
 obtain⟨z,hd,vs,rel,dd⟩:=dk_of I.hok e
 obtain⟨w',hw,rw'⟩:=RelO.some_of (v:=v) (o:=valueAt vs k) (by rw [←l];exact rel.val k)
 have hp:(keyPart u).isSome=true:=by
  cases k with
  |inl i=>obtain⟨t,q⟩:=(show ∃t,u=Value.int i t from ry);subst q;rfl
  |inr x=>obtain⟨t,q⟩:=(show ∃t,u=Value.str x t from ry);subst q;rfl
 have ha:argsOk "dict.pop" ⟨.ref a::u::more,[]⟩:=by
  rcases hm with q|⟨x,q⟩
  ·subst q;exact PySem.F.args_dict_pop_2 _ _
  ·subst q;exact PySem.F.args_dict_pop_3 _ _ _
 refine call_meetsIn PySem.F.slot_dict_pop dd.typeIs PySem.F.entry_dict_pop ha (meets_dict_pop_there (mixKind X.prog X.w) a (kV_is ry) more hm hp)
  ⟨vs,w',dd,by rw [←rel.length];exact z,hw,fun h' dd' hs=>h w' _ ?_ rw'⟩
 have he:∃q,h'.get? a=some q:=let ⟨q,_,_,hq,_⟩:=dd';⟨q,hq⟩
 exact d_write I (by rw [e];exact True.intro) hs he (dk_new (Nat.le_trans (dropK_le kvs k) z) hd (rel.drop k) dd')
end
def NoSl(i:Expr):Prop:=∀ov iv,subscripted i false ov iv=operate [ov,iv] (getItem ov iv)
theorem subD_of{prog:Program}{w:World}{A:Around}{E:Value→Shared→Prop}{s:Shared}{env:Env}{value slice:Expr}{pos:Pos}{T id:String}{Q:Value→Shared→Prop}
  (hl:typeLookup (.type T) "__getitem__"=pure (some (.builtin id))) (hs:NoSl slice)
  (h:wpAny (model prog w) A (eval value env) (fun o s₁=>wpAny (model prog w) A (eval slice env) (fun i s₂=>s₂.TypeIs o T∧wpAny (model prog w) A (getItem o i) Q E s₂) E s₁) E s) :
  wpAny (model prog w) A (eval (.Subscript value slice pos) env) Q E s:=by
 refine Subscript_ (wpAny_mono h (fun o s₁ h₁=>wpAny_mono h₁ (fun i s₂ h₂=>?_) fun _ _ x=>x) fun _ _ x=>x)
 obtain⟨hT,h₂⟩:=h₂
 unfold subscriptTail
 refine wpAny_bind ?_
 rw [getitemInPython_of_ne hT.not_modules]
 refine wpAny_bind (wpAny_specialOf hT hl ?_)
 have fin:wpAny (model prog w) A (subscripted slice false o i) (fun r s₃=>wpAny (model prog w) A (letTemporaryGo value o r >>= fun _=>pure r) Q E s₃) E s₂:=by
  rw [hs o i]
  exact wpAny_operating (wpAny_mono h₂ (fun r s₃ h₃=>wpAny_bind (wpAny_letTemporaryGo (wpAny_pure h₃))) fun _ _ x=>x)
 first
  |exact wpAny_pure (wpAny_bind fin)
  |exact wpAny_bind (wpAny_pure (wpAny_bind fin))
  |exact wpAny_bind fin
theorem dict_typeIs{X:Cx}{pins:List (Addr × Obj)}{σ:St}{H:Hp}{s:Shared}{a:Addr}{y:V}{o:Option V}(I:Inv X pins σ H s)(g:DGet H a y o):s.TypeIs (.ref a) "dict":=by
 rcases g with ⟨kvs,k,e,_,_⟩|⟨kvs,k,b,e,_,_,_⟩
 ·obtain⟨_,_,vs,_,dd⟩:=dk_rd I.hok e
  exact dd.typeIs
 ·obtain⟨_,_,xs,_,dd⟩:=dt_rd I.hok e
  exact dd.typeIs
def tDGet(td ty:TE):TE:=fun σ H Q=>td σ H fun x H1=>ty σ H1 fun y H2=>∃a v,x=.ref a∧DGet H2 a y (some v)∧Q v H2
def tDNotIn(ty td:TE):TE:=fun σ H Q=>ty σ H fun y H1=>td σ H1 fun x H2=>∃a o,x=.ref a∧DGet H2 a y o∧Q (.bl (!o.isSome)) H2
def sDPut(td ty tv:TE):TS:=fun D σ H=>tv σ H fun v H1=>td σ H1 fun x H2=>ty σ H2 fun y H3=>∃a H4,x=.ref a∧DPut H3 a y v H4∧D.nx σ H4
section
variable{X:Cx}{o i e value:Expr}{pos pos' tpos:Pos}{td ty tv:TE}
theorem pe_dget(hu:X.A.units+1 < cLine)(ho:PE X o td)(hi:PE X i ty)(hs:NoSl i):PE X (.Subscript o i pos) (tDGet td ty):=by
 intro pins s σ H Q I h
 refine subD_of PySem.F.slot_dict_getitem.lookup hs (thn (ho pins s σ H _ I h) fun u s1 ⟨x,H1,I1,rx,q1⟩=>thn (hi pins s1 σ H1 _ I1 q1) fun iv s2 ⟨y,H2,I2,ry,a,v,ex,g,q2⟩=>?_)
 subst ex
 obtain rfl:u=Value.ref a:=rx
 exact⟨dict_typeIs I2 g,d_getItem hu I2 g ry fun w' s3 I3 rw'=>⟨v,H2,I3,rw',q2⟩⟩
theorem pc_dnotin(hu:X.A.units+1 < cLine)(hi:PE X i ty)(ho:PE X o td):PC X .NotIn i o (tDNotIn ty td):=by
 intro pins s σ H Q I h
 refine thn (hi pins s σ H _ I h) fun iv s1 ⟨y,H1,I1,ry,q1⟩=>thn (ho pins s1 σ H1 _ I1 q1) fun u s2 ⟨x,H2,I2,rx,a,ov,ex,g,q2⟩=>?_
 subst ex
 obtain rfl:u=Value.ref a:=rx
 exact d_notIn hu I2 g ry fun s3 I3=>⟨.bl (!ov.isSome),H2,I3,rfl,q2⟩
theorem ps_dput(hu:X.A.units+1 < cLine)(ho:PE X o td)(hi:PE X i ty)(hv:PE X value tv)(hs:swapsWith value (some (.Subscript o i pos')) pos.line X.env=pure false) :
  PS X (.Assign [.Subscript o i pos'] value pos) (sDPut td ty tv):=by
 intro pins s σ H D I h
 refine wpAny_Assign_Subscript (thn (hv pins s σ H _ I h) fun r s1 ⟨v,H1,I1,rv,q1⟩=>thn (ho pins s1 σ H1 _ I1 q1) fun u s2 ⟨x,H2,I2,rx,q2⟩=>thn (hi pins s2 σ H2 _ I2 q2) fun iv s3 ⟨y,H3,I3,ry,a,H4,ex,g,q3⟩=>?_) hs
 subst ex
 obtain rfl:u=Value.ref a:=rx
 exact d_setItem hu I3 g ry rv fun s4 I4=>⟨σ,H4,I4,q3⟩
end
theorem dk_empty{P:Program}{w:World}{H:Hp}(h:Heap)(hb:sysModules < h.objs.size):ObjOk P w H (h.push { cls:=.type "dict",data:=.dict #[] }) h.objs.size (.dK []) :=
 ⟨Nat.zero_le _,beq_eq_false_iff_ne.mpr (Ne.symm (Nat.ne_of_lt hb)),[],.nil,Heap.DictOf.new h⟩
theorem dt_empty{P:Program}{w:World}{H:Hp}(h:Heap)(hb:sysModules < h.objs.size):ObjOk P w H (h.push { cls:=.type "dict",data:=.dict #[] }) h.objs.size (.dT []) :=
 ⟨Nat.zero_le _,beq_eq_false_iff_ne.mpr (Ne.symm (Nat.ne_of_lt hb)),[],.nil,_,#[],0,Heap.get?_push_size _ rfl,⟨rfl,rfl,rfl⟩,rfl,rfl,List.nodup_nil⟩
def tDNewK:TE:=fun _ H Q=>∀p,H p=none→Q (.ref p) (upd H p (.dK []))
def tDNewT:TE:=fun _ H Q=>∀p,H p=none→Q (.ref p) (upd H p (.dT []))
section
variable{X:Cx}{pos:Pos}
theorem pe_dnewK:PE X (.Dict [] [] pos) tDNewK:=fun pins s σ H Q I h =>
 wpAny_Dict_empty ⟨.ref s.heap.objs.size,_,I.laid (a:=s.heap.objs.size) (o:=.dK []) (t':=s.toks) (fun _ _ q=>Heap.get?_push_of_some _ q) (Nat.le_refl _) (dk_empty s.heap I.big),rfl,h _ (I.hok.fresh (Nat.le_refl _))⟩
theorem pe_dnewT:PE X (.Dict [] [] pos) tDNewT:=fun pins s σ H Q I h =>
 wpAny_Dict_empty ⟨.ref s.heap.objs.size,_,I.laid (a:=s.heap.objs.size) (o:=.dT []) (t':=s.toks) (fun _ _ q=>Heap.get?_push_of_some _ q) (Nat.le_refl _) (dt_empty s.heap I.big),rfl,h _ (I.hok.fresh (Nat.le_refl _))⟩
end
def tPairs:List (TE × TE)→St→Hp→(List (V × V)→Hp→Prop)→Prop
 |[],_,H,Q=>Q [] H
 |(tk,tv)::r,σ,H,Q=>tk σ H fun x H1=>tv σ H1 fun y H2=>tPairs r σ H2 fun ps H3=>Q ((x,y)::ps) H3
abbrev VV:List (V × V)→List (Value × Value)→Prop:=Paired fun p q=>RelV p.1 q.1∧RelV p.2 q.2
def PPs(X:Cx)(pos:Pos)(keys:List (Option Expr))(values:List Expr)(trs:List (TE × TE)):Prop :=
 ∀(pins:List (Addr × Obj)) (s:Shared) (σ:St) (H:Hp) (Q:List (V × V)→Hp→Prop),Inv X pins σ H s→tPairs trs σ H Q →
  wpAny (model X.prog X.w) X.A (evalPairs (pairTrees keys values X.env pos)) (fun vs s'=>∃ps H',Inv X pins σ H' s'∧VV ps vs∧Q ps H') X.xe s
theorem pps_nil{X:Cx}{pos:Pos}:PPs X pos [] [] []:=fun pins s σ H Q I h=>pairTrees_nil_walk ⟨[],H,I,.nil,h⟩
theorem pps_cons{X:Cx}{pos:Pos}{k v:Expr}{ks:List (Option Expr)}{vs:List Expr}{tk tv:TE}{trs:List (TE × TE)}(hk:PE X k tk)(hv:PE X v tv)(hr:PPs X pos ks vs trs) :
  PPs X pos (some k::ks) (v::vs) ((tk,tv)::trs):=fun pins s σ H Q I h =>
 pairTrees_cons_walk (thn (hk pins s σ H _ I h) fun u s1 ⟨x,H1,I1,rx,q1⟩=>thn (hv pins s1 σ H1 _ I1 q1) fun w2 s2 ⟨y,H2,I2,ry,q2⟩ =>
  thn (hr pins s2 σ H2 _ I2 q2) fun ws s3 ⟨ps,H3,I3,rel,q3⟩=>⟨(x,y)::ps,H3,I3,.cons ⟨rx,ry⟩ rel,q3⟩)
def mergeK(kvs more:List (Key × V)):List (Key × V):=more.foldl (fun acc kv=>putK acc kv.1 kv.2) kvs
theorem KV.merge:∀{more:List (Key × V)} {rs:List (Key × Value)} {kvs:List (Key × V)} {vs:List (Key × Value)},KV more rs→KV kvs vs→KV (mergeK kvs more) (merged vs rs):=by
 intro more rs kvs vs r
 unfold KV at r
 induction r generalizing kvs vs with
 |nil=>intro q;exact q
 |@cons p q ps qs h t ih =>
  intro r0
  have e:KV (putK kvs p.1 p.2) (stored vs q.1 q.2):=by
   have:=r0.put p.1 h.2
   rw [←h.1];exact this
  exact ih e
theorem length_mergeK:∀(more kvs:List (Key × V)),(mergeK kvs more).length≤kvs.length+more.length
 |[],kvs=>by show kvs.length≤kvs.length+0;omega
 |p::r,kvs=>by
  have h1:=length_mergeK r (putK kvs p.1 p.2)
  have h2:=length_putK kvs p.1 p.2
  show(mergeK (putK kvs p.1 p.2) r).length≤_
  rw [List.length_cons];omega
theorem carries_of{P:Program}{w:World}:∀{kvs:List (Key × V)} {ws:List (Value × Value)},VV (kvs.map fun kv=>(kV kv.1,kv.2)) ws→∃rs,Carries (mixKind P w) ws rs∧KV kvs rs
 |[],_,r=>by rw [List.map_nil] at r;cases r;exact⟨[],True.intro,.nil⟩
 |p::kvs,_,r=>by
  rw [List.map_cons] at r
  cases r with
  |@cons a b as bs h t =>
   obtain⟨rs,c,q⟩:=carries_of (P:=P) (w:=w) t
   obtain⟨b1,b2⟩:=b
   exact⟨(p.1,b2)::rs,⟨kV_is h.1,rfl,c⟩,.cons ⟨rfl,h.2⟩ q⟩
def tDisp(trs:List (TE × TE)):TE:=fun σ H Q=>∀p,H p=none→tPairs trs σ (upd H p (.dK [])) fun ps H2=>H2 p=some (.dK [])∧∃kvs:List (Key × V),ps=kvs.map (fun kv=>(kV kv.1,kv.2))∧kvs.length≤15∧Q (.ref p) (upd H2 p (.dK (mergeK [] kvs)))
theorem pe_disp{X:Cx}{pos:Pos}{keys:List (Option Expr)}{values:List Expr}{trs:List (TE × TE)}(h:PPs X pos keys values trs)(hall:keys.all (·.isSome)=true)(hl:keys.length=values.length)(h0:keys≠[])
  (h15:keys.length≤15):PE X (.Dict keys values pos) (tDisp trs):=by
 intro pins s σ H Q I q
 have hn:=I.hok.fresh (Nat.le_refl s.heap.objs.size)
 have I1:=I.laid (a:=s.heap.objs.size) (o:=.dK []) (h':=s.heap.push { cls:=.type "dict",data:=.dict #[] }) (t':=s.toks) (fun _ _ q=>Heap.get?_push_of_some _ q) (Nat.le_refl _) (dk_empty s.heap I.big)
 refine wpAny_Dict_walk (knd:=mixKind X.prog X.w) hall hl h0 h15 (thn (h pins _ σ _ _ I1 (q _ hn)) fun ws s2 ⟨ps,H2,I2,rel,e,kvs,ep,lk,q2⟩=>?_)
 subst ep
 obtain⟨rs,c,rk⟩:=carries_of (P:=X.prog) (w:=X.w) rel
 obtain⟨z,hd,vs0,r0,dd⟩:=dk_of I2.hok e
 cases r0
 refine⟨rs,c,dd,fun h' dd' hs=>⟨.ref s.heap.objs.size,_,?_,rfl,q2⟩⟩
 have hz:(mergeK [] kvs).length≤sizeLine:=by
  have h1:=length_mergeK kvs []
  rw [List.length_nil] at h1
  rw [sizeLine_eq];omega
 have he:∃q,h'.get? s.heap.objs.size=some q:=let ⟨q,_,_,hq,_⟩:=dd';⟨q,hq⟩
 exact d_write I2 (by rw [e];exact True.intro) hs he (dk_new hz hd (rk.merge .nil) dd')
structure M1(X:Cx)(o:Expr)(m:Str)(apos:Pos)(e:Expr)(cpos:Pos):Prop where
 base:attributeBase o m X.env (eval o X.env)=eval o X.env
 few:((backTo cpos (starEach [e] X.env)).all (fun x=>!x.1)&&(backToKw cpos (keywordEach [] X.env)).all (fun x=>x.1.isSome)
  && decide (([e]:List Expr).length+([]:List Keyword).length+(if ([]:List Keyword).isEmpty then 0 else 1) < 30))=true
 line:(apos.endLine==cpos.line)=true
 trees:backTo cpos (starEach [e] X.env)=[(false,eval e X.env)]
structure M2(X:Cx)(o:Expr)(m:Str)(apos:Pos)(e f:Expr)(cpos:Pos):Prop where
 base:attributeBase o m X.env (eval o X.env)=eval o X.env
 few:((backTo cpos (starEach [e,f] X.env)).all (fun x=>!x.1)&&(backToKw cpos (keywordEach [] X.env)).all (fun x=>x.1.isSome)
  && decide (([e,f]:List Expr).length+([]:List Keyword).length+(if ([]:List Keyword).isEmpty then 0 else 1) < 30))=true
 line:(apos.endLine==cpos.line)=true
 trees:backTo cpos (starEach [e,f] X.env)=[(false,eval e X.env),(false,eval f X.env)]
def IsD(H:Hp)(a:Addr):Prop:=(∃kvs,Rd H a (.dK kvs))∨∃kvs,Rd H a (.dT kvs)
theorem isD_at{X:Cx}{pins:List (Addr × Obj)}{σ:St}{H:Hp}{s:Shared}{a:Addr}(I:Inv X pins σ H s)(d:IsD H a) :
  s.TypeIs (.ref a) "dict"∧(∀b,Value.ref a=.ref b→∃ob,s.heap.get? b=some ob∧ob.dict=none)∧(a==sysModules)=false:=by
 rcases d with ⟨kvs,e⟩|⟨kvs,e⟩
 ·obtain⟨_,hd,vs,_,dd⟩:=dk_rd I.hok e
  refine⟨dd.typeIs,fun b q=>?_,hd⟩
  cases q
  obtain⟨ob,_,_,h1,h2,_⟩:=dd
  exact⟨ob,h1,h2.2.1⟩
 ·obtain⟨_,hd,xs,_,dd⟩:=dt_rd I.hok e
  refine⟨dd.typeIs,fun b q=>?_,hd⟩
  cases q
  obtain⟨ob,_,_,h1,h2,_⟩:=dd
  exact⟨ob,h1,h2.2.1⟩
section
variable{X:Cx}{pins:List (Addr × Obj)}{σ:St}{H:Hp}{s:Shared}{a:Addr}{y d:V}{u r:Value}{o:Option V}{A:Around}{E:Value→Shared→Prop}
theorem d_get1{Q:Value→Shared→Prop}(hu:A.units+1 < cLine)(I:Inv X pins σ H s)(g:DGet H a y o)(ry:RelV y u)(h:∀w' s',Inv X pins σ H s'→RelV (o.getD .non) w'→Q w' s') :
  wpAny (model X.prog X.w) A (call (.builtin "dict.get") [.ref a,u]) Q E s:=by
 rcases g with ⟨kvs,k,e,ey,l⟩|⟨kvs,k,b,e,ey,eb,l⟩
 ·subst ey
  obtain⟨z,hd,vs,rel,dd⟩:=dk_rd I.hok e
  refine call_meetsIn PySem.F.slot_dict_get dd.typeIs PySem.F.entry_dict_get (PySem.F.args_dict_get_2 _ _) (meets_dict_get (mixKind X.prog X.w) a (kV_is ry) hd) ⟨_,dd.mapOf,h _ _ (I.tok _) ?_⟩
  rw [l]
  exact(rel.val k).getD rfl
 ·subst ey
  cases (show u=Value.ref b from ry)
  obtain⟨z,hd,xs,rel,dd⟩:=dt_rd I.hok e
  refine call_meetsIn PySem.F.slot_dict_get dd.typeIs PySem.F.entry_dict_get (PySem.F.args_dict_get_2 _ _) (meetsH_dict_get (tupleKind (mixKind X.prog X.w)) a b hd) ⟨tupleKind_room_in1 hu,k,xs,key_of I.hok eb,dd,h _ _ (I.tok _) ?_⟩
  rw [l]
  exact(rel.val k).getD rfl
theorem d_get2{Q:Value→Shared→Prop}(hu:A.units+1 < cLine)(I:Inv X pins σ H s)(g:DGet H a y o)(ry:RelV y u)(rd:RelV d r)(h:∀w' s',Inv X pins σ H s'→RelV (o.getD d) w'→Q w' s') :
  wpAny (model X.prog X.w) A (call (.builtin "dict.get") [.ref a,u,r]) Q E s:=by
 rcases g with ⟨kvs,k,e,ey,l⟩|⟨kvs,k,b,e,ey,eb,l⟩
 ·subst ey
  obtain⟨z,hd,vs,rel,dd⟩:=dk_rd I.hok e
  refine call_meetsIn PySem.F.slot_dict_get dd.typeIs PySem.F.entry_dict_get (PySem.F.args_dict_get_3 _ _ _) (meets_dict_get_default (mixKind X.prog X.w) a (kV_is ry) hd r) ⟨_,dd.mapOf,h _ _ (I.tok _) ?_⟩
  rw [l]
  exact(rel.val k).getD rd
 ·subst ey
  cases (show u=Value.ref b from ry)
  obtain⟨z,hd,xs,rel,dd⟩:=dt_rd I.hok e
  refine call_meetsIn PySem.F.slot_dict_get dd.typeIs PySem.F.entry_dict_get (PySem.F.args_dict_get_3 _ _ _) (meetsH_dict_get_default (tupleKind (mixKind X.prog X.w)) a b hd r) ⟨tupleKind_room_in1 hu,k,xs,key_of I.hok eb,dd,h _ _ (I.tok _) ?_⟩
  rw [l]
  exact(rel.val k).getD rd
end
def tDGet1(td ty:TE):TE:=fun σ H Q=>td σ H fun x H1=>∃a,x=.ref a∧IsD H1 a∧ty σ H1 fun y H2=>∃o,DGet H2 a y o∧Q (o.getD .non) H2
def tDGet2(td ty tx:TE):TE:=fun σ H Q=>td σ H fun x H1=>∃a,x=.ref a∧IsD H1 a∧ty σ H1 fun y H2=>tx σ H2 fun z H3=>∃o,DGet H3 a y o∧Q (o.getD z) H3
def tDPop1(td ty:TE):TE:=fun σ H Q=>td σ H fun x H1=>∃a,x=.ref a∧IsD H1 a∧ty σ H1 fun y H2=>∃kvs k v,H2 a=some (.dK kvs)∧y=kV k∧valV kvs k=some v∧Q v (upd H2 a (.dK (dropK kvs k)))
section
variable{X:Cx}{o e f:Expr}{apos cpos:Pos}{td ty tx:TE}
theorem pe_dget1(hu:X.A.units+1 < cLine)(ho:PE X o td)(he:PE X e ty) (m:M1 X o "get" apos e cpos):PE X (.Call (.Attribute o "get" apos) [e] [] cpos) (tDGet1 td ty):=by
 intro pins s σ H Q I h
 refine wpAny_Call_method m.base m.few m.line PySem.F.plainAttrs_dict PySem.F.slot_dict_get PySem.F.type_dict_get (thn (ho pins s σ H _ I h) fun u s1 ⟨x,H1,I1,rx,a,ex,d,q1⟩=>?_)
 subst ex
 obtain rfl:u=Value.ref a:=rx
 obtain⟨t1,t2,_⟩:=isD_at I1 d
 refine⟨t1,t2,?_⟩
 rw [m.trees]
 refine Calls.callWith_builtin rfl (Calls.evalArgs_plain (Calls.spliced_cons (thn (he pins s1 σ H1 _ I1 q1) fun iv s2 ⟨y,H2,I2,ry,ov,g,q2⟩=>Calls.spliced_nil ?_)))
 exact d_get1 hu I2 g ry fun w' s3 I3 rw'=>⟨_,H2,I3,rw',q2⟩
theorem pe_dget2(hu:X.A.units+1 < cLine)(ho:PE X o td)(he:PE X e ty)(hf:PE X f tx) (m:M2 X o "get" apos e f cpos):PE X (.Call (.Attribute o "get" apos) [e,f] [] cpos) (tDGet2 td ty tx):=by
 intro pins s σ H Q I h
 refine wpAny_Call_method m.base m.few m.line PySem.F.plainAttrs_dict PySem.F.slot_dict_get PySem.F.type_dict_get (thn (ho pins s σ H _ I h) fun u s1 ⟨x,H1,I1,rx,a,ex,d,q1⟩=>?_)
 subst ex
 obtain rfl:u=Value.ref a:=rx
 obtain⟨t1,t2,_⟩:=isD_at I1 d
 refine⟨t1,t2,?_⟩
 rw [m.trees]
 refine Calls.callWith_builtin rfl (Calls.evalArgs_plain (Calls.spliced_cons (thn (he pins s1 σ H1 _ I1 q1) fun iv s2 ⟨y,H2,I2,ry,q2⟩ =>
  Calls.spliced_cons (thn (hf pins s2 σ H2 _ I2 q2) fun fv s3 ⟨z,H3,I3,rz,ov,g,q3⟩=>Calls.spliced_nil ?_))))
 exact d_get2 hu I3 g ry rz fun w' s4 I4 rw'=>⟨_,H3,I4,rw',q3⟩
theorem pe_dpop1(ho:PE X o td)(he:PE X e ty) (m:M1 X o "pop" apos e cpos):PE X (.Call (.Attribute o "pop" apos) [e] [] cpos) (tDPop1 td ty):=by
 intro pins s σ H Q I h
 refine wpAny_Call_method m.base m.few m.line PySem.F.plainAttrs_dict PySem.F.slot_dict_pop PySem.F.type_dict_pop (thn (ho pins s σ H _ I h) fun u s1 ⟨x,H1,I1,rx,a,ex,d,q1⟩=>?_)
 subst ex
 obtain rfl:u=Value.ref a:=rx
 obtain⟨t1,t2,_⟩:=isD_at I1 d
 refine⟨t1,t2,?_⟩
 rw [m.trees]
 refine Calls.callWith_builtin rfl (Calls.evalArgs_plain (Calls.spliced_cons (thn (he pins s1 σ H1 _ I1 q1) fun iv s2 ⟨y,H2,I2,ry,kvs,k,v,ea,ey,l,q2⟩=>Calls.spliced_nil ?_)))
 subst ey
 exact d_pop I2 ea ry l (.inl rfl) fun w' s3 I3 rw'=>⟨v,_,I3,rw',q2⟩
end
section
variable{X:Cx}{pins:List (Addr × Obj)}{σ:St}{H:Hp}{s:Shared}{a:Addr}{kvs:List (Key × V)}{A:Around}{E:Value→Shared→Prop}
end
section
variable{X:Cx}{pins:List (Addr × Obj)}{σ:St}{H:Hp}{s:Shared}{a:Addr}{y:V}{u:Value}{A:Around}{E:Value→Shared→Prop}
end
end L2
namespace Att
open PySem PySem.W PySem.Calls PyProof.Rows
theorem ints_of_wellAll{P:Params}{h:Heap}:∀(ns:List Int) (vs:List Value),WellAll P h vs (ns.map WData.int)→IntsAre vs ns:=by
 intro ns
 induction ns with
 |nil =>
  intro vs w
  rw [List.map_nil] at w
  cases w
  exact .nil
 |cons n ns ih =>
  intro vs w
  rw [List.map_cons] at w
  cases w with
  |cons a b =>
   cases a
   exact .cons _ _ (ih _ b)
theorem script_of{l:OpenLaw}{n:Nat}(hn:l.most=some n){P:Params}{h:Heap}{args:List WData}{vals:List Value}
  (hpre:l.row.toRowW.claim.pre args=true) (hwl:WellAll P h vals args) :
  ∃a vs ns,vals=[Value.ref a]∧args=[WData.list (ns.map WData.int)]∧h.get? a=some { cls:=.type "list",data:=.seq vs.toArray }∧IntsAre vs ns∧ns.length≤n:=by
 have hsh:WShape.hasAll [] args [.list .int]=true:=(pre_splitW hpre).1
 have hc:l.pre.holds [] { args:=args }=true:=(pre_splitW hpre).2
 obtain⟨d,r,rfl,h1,h2⟩:=hasAllW_cons hsh
 obtain rfl:=hasAllW_nil h2
 obtain⟨xs,rfl,h3⟩:=hasW_list h1
 obtain⟨ns,rfl⟩:=items_int h3
 have hlen:ns.length≤n:=by
  unfold OpenLaw.pre at hc
  have h4:(WTm.not (.lt (.lit (.int (n:Int))) (.len (.arg 0)))).holds [] { args:=[.list (ns.map .int)] }=true:=by
   have h4:=(holds_andW hc).1
   rw [hn] at h4
   exact h4
  have h5:=condW_of h4 (w_not (w_lt w_lit (w_len_list (w_arg rfl))))
  rw [List.length_map] at h5
  refine Nat.le_of_not_lt fun q=>?_
  have q':(n:Int) < ((ns.length:Nat):Int):=by omega
  first
   |(rw [decide_eq_true q'] at h5;exact absurd h5 (by decide))
   |(simp at h5;omega)
 cases hwl with
 |cons w1 w2 =>
  cases w2
  cases w1 with
  |list ho hall=>exact⟨_,_,ns,rfl,rfl,ho,ints_of_wellAll ns _ hall,hlen⟩
theorem post_true(l:OpenLaw)(args:List WData):l.row.toRowW.claim.post args (.bool true) args=true :=
 postW_of (r:=l.row.toRowW) (X:=(true==true))
  (show WShape.has [] (.bool true) .bool=true by first|rfl|decide|simp [WShape.has,WShape.arms,WShape.armsAll])
  (show(WTm.eq .res (.lit (.bool true))).value [] { args:=args,res:=some (.bool true),after:=args }=some (.bool (true==true)) from w_eq_bool (w_res rfl) w_lit) rfl
theorem attach_call{l:OpenLaw}{n:Nat}{q:Program}{loose:List Str}{XP:(Str→Option Value)→Heap→Prop}{YP:World→Heap→Prop}{d:DefRec}
  (hn:l.most=some n) (hdf:d.params.defaults=[])
  (call:∀(w:World) (s₀ s₁:Shared) (mg mb:Str→Option Value) (fa:Addr) (o:Obj) (pm cd doc:Value) (a:Addr) (vs:List Value) (ns:List Int),
   Ground q loose [] XP w s₀ mg mb s₁.heap→YP w s₁.heap →
   s₁.heap.get? fa=some o→o.data=.func (docDef d.name d.params d.body d.scope pm cd doc)→s₁.heap.CodeRec cd d.name→mg d.name=some (.ref fa) →
   s₁.heap.get? a=some { cls:=.type "list",data:=.seq vs.toArray }→IntsAre vs ns→ns.length≤n→s₁.gens=#[] →
   codeAny (model l.prog w) callerA (.call (.ref fa) ⟨[.ref a],[]⟩) (fun r s'=>r=.ok (.ret (.bool true))∧OldK s₁.heap s'.heap∧s'.os=s₁.os∧AllBare s'.gens) s₁) :
  WalkO q loose XP YP l.row.toRowW d [] (fun f vs=>PySem.call f vs):=by
 intro w s₀ s₁ mg mb G Y fa o pm cd doc dV kV ho hd hcd hD hmg hg args vals as hpre hlay hrd hwl hlo
 obtain rfl:dV=.none:=Dflts.none hD hdf
 obtain rfl:kV=.none:=Dflts.noKw hD
 obtain⟨a,vs,ns,rfl,rfl,hobj,hints,hlen⟩:=script_of hn hpre hwl
 refine enter_call (codeAny_mono (call w s₀ s₁ mg mb fa o pm cd doc a vs ns G Y ho (fd_plain hd) hcd hmg hobj hints hlen hg) fun r s' hq=>?_)
 obtain⟨rfl,h2,h3,h4⟩:=hq
 exact⟨.inl ⟨.bool true,.bool true,[],rfl,fun _=>rfl,.bool true,post_true l _,fun _=>⟨List.Pairwise.nil,fun _ hm=>(nomatch hm)⟩⟩,h2,h3,h4⟩
section
variable{prog:Program}{w:World}{A:Around}{E:Value→Shared→Prop}{s:Shared}{K:Frag}
def ledger(h:Heap)(L d:Addr):List (Addr × Obj):=(List.range h.objs.size).filterMap fun a=>if a=L∨a=d then none else (h.get? a).map fun o=>(a,o)
end
end Att
namespace L2
open PySem PySem.Spec PyProof.Rows
theorem vals_ints:∀{vs:List Value} {ns:List Int},IntsAre vs ns→Vals (ns.map V.int) vs
 |_,_,.nil=>.nil
 |_,_,.cons n t h=>.cons ⟨t,rfl⟩ (vals_ints h)
def Only(H:Hp):Prop:=∀b,H b=none∨∃o xs,H b=some (.frz o (.lst xs))
theorem law_call{P:Program}{w:World}{K:PySem.W.Frag}{mg mb:Str→Option Value}{CX:CXT}{k:Nat}{fa a:Addr}{fd:FuncData}{x:Str}{sp:Sp}{s₁:Shared}{vs:List Value}{ns:List Int}
  (KX:K.In s₁.heap) (hns:s₁.heap.Ns mainGlobals mg) (hb:s₁.heap.Ns builtinsNs mb) (hbb:∀x:Str,x≠"__name__"→mb x=bootBuiltins x) (hlim:s₁.heap.NoLimit) (hbm:∃bm ob,mg "__builtins__"=some (.ref bm)∧bm≠builtinsNs∧s₁.heap.get? bm=some ob∧ob.cls=.type "module"∧ob.dict=some builtinsNs∧ob.data=.plain) (hg:s₁.gens=#[])
  (ha:s₁.heap.get? a=some { cls:=.type "list",data:=.seq vs.toArray }) (hi:IntsAre vs ns) (hl:ns.length≤sizeLine) (hr:Room k callerA)
  (F:∀base:Heap,K.In base→base.Ns mainGlobals mg→FnOk P w K mg base CX k fa fd [x] sp) (hbind:∀(s:Shared) (u:Value),BindsTo s fd ⟨[u],[]⟩ [(x,u)])
  (hsp:∀H:Hp,Only H→SqL K H a (ns.map V.int)→sp [.ref a] H (fun v _=>v=.bl true) fun _ _ _=>False)
  (hCX:∀H e s',CX [] H s₁ (fun _ _ _=>False) e s'→False) :
  codeAny (model P w) callerA (.call (.ref fa) ⟨[.ref a],[]⟩) (fun r s'=>r=.ok (.ret (.bool true))∧OldK s₁.heap s'.heap∧s'.os=s₁.os∧AllBare s'.gens) s₁:=by
 have rv:=vals_ints hi
 have lenV:=hi.length
 have core:∀H:Hp,Only H→SqL K H a (ns.map V.int)→HOk P w H s₁.heap→(∀b,H b≠none→b=a)→(H a≠none→K.lookup a=none) →
   codeAny (model P w) callerA (.call (.ref fa) ⟨[.ref a],[]⟩) (fun r s'=>r=.ok (.ret (.bool true))∧OldK s₁.heap s'.heap∧s'.os=s₁.os∧AllBare s'.gens) s₁:=by
  intro H hO hS hok hA hK
  have base_of:∀{b:Addr} {o:Obj},s₁.heap.get? b=some o→H b=none→(hidT s₁.heap H).get? b=some o:=fun e n=>hidT_get e n
  have noA:∀{b:Addr} {o:Obj} {es:Array DictEntry} {ep:Nat},s₁.heap.get? b=some o→o.data=.dict es ep→H b=none:=fun {b o es ep} e d=>by
   cases q:H b with
   |none=>rfl
   |some u =>
    have e':b=a:=hA b (by rw [q];simp)
    subst e'
    rw [ha] at e;cases e
    have d':Data.seq vs.toArray _=Data.dict es ep:=d
    cases d'
  have nsK:∀{b:Addr} {m:Str→Option Value},s₁.heap.Ns b m→(hidT s₁.heap H).Ns b m:=fun {b m} ⟨o,es,ep,e,d,r⟩=>⟨o,es,ep,base_of e (noA e d),d,r⟩
  have hKb:K.In (hidT s₁.heap H):=fun b o e=>base_of (KX b o e) (by
   cases q:H b with
   |none=>rfl
   |some u =>
    have e':b=a:=hA b (by rw [q];simp)
    subst e'
    rw [hK (by rw [q];simp)] at e;cases e)
  have hM:Mod K mg (hidT s₁.heap H):=⟨hKb,nsK hns,⟨mb,nsK hb,hbb⟩,let ⟨mc,h1,h2⟩:=hlim;⟨mc,nsK h1,h2⟩,let ⟨bm,ob,b1,b2,b3,b4,b5⟩:=hbm;⟨bm,ob,b1,b2,base_of b3 (by
   cases q:H bm with
   |none=>rfl
   |some u =>
    have e':bm=a:=hA bm (by rw [q];simp)
    subst e'
    rw [ha] at b3;cases b3;exact absurd (show Value.type "list"=Value.type "module" from b4) (by intro z;injection z with z;exact absurd z (by decide))),b4,b5⟩⟩
  have e0:Env0 P w K mg (hidT s₁.heap H) callerA [] s₁ H:=⟨rfl,hM,fun b o e=>of_hidT e,Nat.le_of_eq (hidT_size _ _),trivial,fun b hb=>absurd (show b∈([]:List Addr) from hb) (by simp),hok,.of_eq hg⟩
  refine codeAny_mono ((F _ hKb (nsK hns)).run callerA [] s₁ H ⟨[.ref a],[]⟩ [.ref a] [.ref a] _ _ hr e0 (hbind s₁ (.ref a)) (.cons rfl .nil) (hsp H hO hS)) fun r s' h=>?_
  cases r with
  |error e=>exact(hCX H e s' h).elim
  |ok fl =>
   cases fl with
   |next=>exact False.elim h
   |brk=>exact False.elim h
   |cont=>exact False.elim h
   |ret u =>
    obtain⟨v,H',os,bare,un,hok',r',q⟩:=h
    have q':v=.bl true:=q
    subst q'
    obtain rfl:u=Value.bool true:=r'
    refine⟨rfl,OldK.of_keep fun b o e=>?_,os,bare⟩
    cases q:H b with
    |none=>exact un.keep b o e q (by intro z;exact absurd (show b∈([]:List Addr) from z) (by simp)) (by simp)
    |some u =>
     rcases hO b with z|⟨ob,xs,z⟩
     ·rw [q] at z;cases z
     ·have z2:=un.frzs b ob _ z
      obtain⟨e1,_⟩:=hok b _ z
      obtain⟨e2,_⟩:=hok' b _ z2
      rw [e] at e1;cases e1
      exact e2
 cases hk:K.lookup a with
 |some o =>
  have e:=KX a o hk
  rw [ha] at e
  cases e
  refine core (fun _=>none) (fun _=>.inl rfl) (.inr ⟨_,vs.toArray,_,hk,rfl,rfl,rfl,by rw [List.size_toArray,lenV];exact hl,by simpa using rv⟩) (fun b u z=>by have z':(none:Option HO)=some u:=z;cases z') (fun b z=>absurd rfl z) fun z=>absurd rfl z
 |none =>
  refine core (fun b=>if b=a then some (.frz { cls:=.type "list",data:=.seq vs.toArray } (.lst (ns.map V.int))) else none) (fun b=>?_) (.inl (.inr ⟨{ cls:=.type "list",data:=.seq vs.toArray },if_pos rfl⟩)) (fun b u z=>?_) (fun b z=>?_) fun _=>hk
  ·by_cases hb:b=a
   ·exact .inr ⟨_,_,if_pos hb⟩
   ·exact .inl (if_neg hb)
  ·by_cases hb:b=a
   ·have z':=(if_pos hb).symm.trans z
    cases z'
    subst hb
    exact⟨ha,by rw [List.length_map];exact hl,vs,_,rv,ha⟩
   ·have z':=(if_neg hb).symm.trans z
    cases z'
  ·by_cases hb:b=a
   ·exact hb
   ·exact absurd (if_neg hb) z
end L2
namespace L2
open PySem PySem.Spec PyProof.Rows
abbrev KOf{K:PySem.W.Frag}{h:Heap}(_:K.In h):PySem.W.Frag:=K
theorem walk_of{l:PySem.W.OpenLaw}{n k:Nat}{q:Program}{loose:List Str}{XP:(Str→Option Value)→Heap→Prop}{YP:World→Heap→Prop}{d:DefRec}{K:Params→PySem.W.Frag}{CX:World→CXT}{sp:World→Sp}{x:Str}
  (hn:l.most=some n) (hn2:n≤sizeLine) (hdf:d.params.defaults=[]) (hr:Room k callerA)
  (hY:∀(w:World) (h:Heap),YP w h→(K w.params).In h)
  (F:∀(w:World) (mg:Str→Option Value) (fa:Addr) (h:Heap),(K w.params).In h→h.Ns mainGlobals mg→mg d.name=some (.ref fa) →
   ∃fd:FuncData,(∀(s:Shared) (u:Value),BindsTo s fd ⟨[u],[]⟩ [(x,u)]) ∧
    ∀base:Heap,(K w.params).In base→base.Ns mainGlobals mg→FnOk l.prog w (K w.params) mg base (CX w) k fa fd [x] (sp w))
  (hsp:∀(w:World) (H:Hp) (a:Addr) (ns:List Int),ns.length≤n→Only H→SqL (K w.params) H a (ns.map V.int)→sp w [.ref a] H (fun v _=>v=.bl true) fun _ _ _=>False)
  (hCX:∀(w:World) (H:Hp) (s:Shared) (e:Value) (s':Shared),CX w [] H s (fun _ _ _=>False) e s'→False) :
  PySem.W.WalkO q loose XP YP l.row.toRowW d [] (fun f vs=>PySem.call f vs):=by
 refine Att.attach_call hn hdf fun w s₀ s₁ mg mb fa o pm cd doc a vs ns G Y ho hd hcd hmg hobj hints hlen hg=>?_
 have KX:=hY w _ Y
 obtain⟨fd,hb,hF⟩:=F w mg fa _ KX G.T.g hmg
 exact law_call KX G.T.g G.T.b G.T.builtins G.T.nolimit G.T.bmain hg hobj hints (Nat.le_trans hlen hn2) hr hF hb (fun H hO hS=>hsp w H a ns hlen hO hS) fun H e s'=>hCX w H s₁ e s'
end L2
/- THE LAST THEOREM (shape;LID,My.* are yours):
   My.Adr: a structure of the addresses that your layer names (classes,functions);My.Txt K t: a structure (Prop) of the equations over K;
   My.txt_mk:{K} {implicit addresses ..} (e1:nsIn K mainGlobals "law"=some (some (.ref f))) (e2:K.lookup f=some ⟨oc,od,.func (fnOf "law" "law" params body scope dV kV doc pm an cdv ct),sl⟩) (e3:codeIn K cdv "law"=true) ..:∃t,My.Txt K t
set_option maxRecDepth 100000 in
set_option maxHeartbeats 0 in
theorem PySem.Challenge.cw_LID_holds : PySem.Challenge.rw_LID.Holds := by
 w_on;o_law;k_head;(case hw=>w_witness2)
 k_fill
 refine L2.walk_of (l:=PySem.Challenge.rw_LID) (n:=63) (k:=40) (x:="script") (CX:=fun w=>..) (sp:=fun _=>My.sp_law) rfl (by decide) rfl ⟨rfl,by decide,by decide⟩ (fun w h Y=>PySem.W.kIn_of Y) ?F ?S ?C
 case F =>
  intro w mg fa h KX G hmg
  have T:∃t,My.Txt (L2.KOf KX) t:=by
   dsimp only [L2.KOf]                          -- K must stand as «<heap const> w.params» for k_is
   refine' My.txt_mk ?e1 ?e2 ?e3 ..
   (case e1=>PySem.W.k_is)                    -- in the order: a name -> its address -> its object -> its parts
   (case e2=>PySem.W.k_is)
   ..
  obtain⟨t,T⟩:=T
  have e0:=hmg.symm.trans (PySem.W.mg_of KX G T.law)
  cases e0                                       -- fa is the law's own address
  exact⟨_,fun s u=>.of_eq rfl,fun base kb nb=>My.law_fn T kb nb⟩     -- if «.of_eq rfl» comes too early: refine' ⟨_,?b,fun base kb nb=>My.law_fn T kb nb⟩;exact fun s u=>.of_eq rfl
 case S=>exact fun w H a ns hl hO hS=>..
 case C=>exact ..
(the tactic k_is has no namespace: write k_is) -/
namespace L2
open PySem PySem.Spec PyProof.Rows
def inClass(s:Stmt)(j:Nat):Stmt:=match s with
 |.ClassDef _ _ _ body _ _ _ _ _ _ _=>body.getD j (.Pass ⟨0,0,0,0⟩)
 |_=>.Pass ⟨0,0,0,0⟩
def defArgs(s:Stmt):Arguments:=match s with
 |.FunctionDef _ a _ _ _ _ _ _ _ _=>a
 |_=>{ posonlyargs:=[],args:=[],vararg:=none,kwonlyargs:=[],kw_defaults:=[],kwarg:=none,defaults:=[] }
def defBody(s:Stmt):List Stmt:=match s with
 |.FunctionDef _ _ b _ _ _ _ _ _ _=>b
 |_=>[]
def defScope(s:Stmt):Scope:=match s with
 |.FunctionDef _ _ _ _ _ _ sc _ _ _=>sc
 |_=>{ kind:=.function,names:=[],isGenerator:=false,isCoroutine:=false }
abbrev CX0:CXT:=fun _ _ _ _ _ _=>False
abbrev E0:XK:=fun _ _ _=>False
theorem pass0{X:Cx}:Passes CX0 X E0:=fun _ _ _ _ _ _ _ h=>h.elim
structure Fun(K:PySem.W.Frag)(x qual:Str)(st:Stmt)(f:Addr)(fd:FuncData):Prop where
 ex:∃(oc:Value) (od:Option Addr) (kV doc pm:Value) (an:Option Addr) (cdv ct:Value) (osl:Array (Option Value)),
  fd=PySem.W.fnOf x qual (defArgs st) (defBody st) (defScope st) .none kV doc pm an cdv ct∧K.lookup f=some ⟨oc,od,.func fd,osl⟩∧PySem.W.codeIn K cdv qual=true
 kp:PySem.W.keepIn K (.ref f)=true
section
variable{P:Program}{w:World}{K:PySem.W.Frag}{mg:Str→Option Value}{base:Heap}
theorem Fun.ok{x qual:Str}{st:Stmt}{f:Addr}{fd:FuncData}{N ps:List Str}{k:Nat}{sp:Sp}(F:Fun K x qual st f fd)(S:FnScope N ps (defScope st))(len:∀vs H Q E,sp vs H Q E→vs.length=ps.length)
  (hbody:∀(cdv:Value) (A:Around) (outer:List Env) (s:Shared) (H:Hp) (vs:List V) (Q:VK) (E:XK),Room k (A.deeper (envOfC qual (defScope st) s.heap.objs.size f cdv))→sp vs H Q E →
   ∃t,PSs (cxOf CX0 P w K mg base N qual (defScope st) f cdv A outer s H E).nox (defBody st) t∧t { nx:=fun _ H'=>Q .non H',rt:=Q } (start N vs) H):FnOk P w K mg base CX0 (k+1) f fd ps sp:=by
 obtain⟨oc,od,kV,doc,pm,an,cdv,ct,osl,rfl,lk,hcd⟩:=F.ex
 refine fn_of lk hcd S len fun A outer s H vs Q E hr hsp=>?_
 obtain⟨t,h,q⟩:=hbody cdv A outer s H vs Q E hr hsp
 exact⟨t,h.nox,q⟩
theorem Fun.binds{x qual:Str}{st:Stmt}{f:Addr}{fd:FuncData}{ps:List Str}(F:Fun K x qual st f fd)
  (h:∀(kV doc pm:Value) (an:Option Addr) (cdv ct:Value) (us:List Value),us.length=ps.length→bindArgs (PySem.W.fnOf x qual (defArgs st) (defBody st) (defScope st) .none kV doc pm an cdv ct) ⟨us,[]⟩=pure (ps.zip us)):Binds K fd ps []:=by
 obtain⟨oc,od,kV,doc,pm,an,cdv,ct,osl,rfl,lk,hcd⟩:=F.ex
 exact .all (h kV doc pm an cdv ct)
theorem fun_mk{x qual:Str}{st:Stmt}{f:Addr}{oc:Value}{od an:Option Addr}{osl:Array (Option Value)}{kV doc pm cdv ct:Value}(l:K.lookup f=some ⟨oc,od,.func (PySem.W.fnOf x qual (defArgs st) (defBody st) (defScope st) .none kV doc pm an cdv ct),osl⟩)
  (c:PySem.W.codeIn K cdv qual=true) (k:PySem.W.keepIn K (.ref f)=true):Fun K x qual st f (PySem.W.fnOf x qual (defArgs st) (defBody st) (defScope st) .none kV doc pm an cdv ct):=⟨⟨oc,od,kV,doc,pm,an,cdv,ct,osl,rfl,l,c⟩,k⟩
end
theorem hu_of{A:Around}{k:Nat}(hr:Room k A):A.units+1 < cLine:=Nat.lt_of_le_of_lt (Nat.add_le_add_left (by decide:1≤64) _) hr.units
theorem small1000{n:Nat}(h:n≤1000):n < sizeLine:=Nat.lt_of_le_of_lt h (by decide)
section
variable{X:Cx}
theorem pv(i:Nat){x:Str}{pos:Pos}(hN:X.N[i]?=some x:=by rfl)(hv:Vis X.env.scope x:=by first|exact Or.inl rfl|exact Or.inr (Or.inl rfl)|exact Or.inr (Or.inr rfl)) (hd:(x==("__debug__":Str))=false:=by decide)
  (hcd:(x==("__classdict__":Str))=false:=by decide):PE X (.Name x pos) (tVar i):=pe_var hN hv hd hcd
end
theorem iteF{A B:Prop}(h:B):if false=true then A else B:=by
 rw [if_neg Bool.false_ne_true]
 exact h
theorem iteT{A B:Prop}(h:A):if true=true then A else B:=by
 rw [if_pos rfl]
 exact h
theorem ite2{c A B:Prop}[Decidable c](h1:c→A)(h2:¬c→B):if c then A else B:=by
 by_cases h:c
 ·rw [if_pos h]
  exact h1 h
 ·rw [if_neg h]
  exact h2 h
def Same(H H':Hp):Prop:=∀b o,H b=some o→H' b=some o
theorem Same.refl(H:Hp):Same H H:=fun _ _ h=>h
theorem Same.trans{H H1 H2:Hp}(a:Same H H1)(b:Same H1 H2):Same H H2:=fun c o h=>b c o (a c o h)
theorem Same.free{H H':Hp}(e:Same H H'){l:Addr}(h:H' l=Option.none):H l=Option.none:=by
 cases q:H l with
 |none=>rfl
 |some o =>
  rw [e l o q] at h
  cases h
theorem Same.seq{K:PySem.W.Frag}{H H':Hp}{a:Addr}{xs:List V}(e:Same H H')(h:SqL K H a xs):SqL K H' a xs:=by
 rcases h with (h|⟨o,h⟩)|h
 ·exact .inl (.inl (e _ _ h))
 ·exact .inl (.inr ⟨o,e _ _ h⟩)
 ·exact .inr h
end L2
namespace L2
open PySem PySem.Spec PyProof.Rows
section
variable{X:Cx}
end
end L2
namespace L2
open PySem PySem.Spec PyProof.Rows
section
variable{κ:Type}[DecidableEq κ]
end
end L2
namespace L2
open PySem PySem.Spec PyProof.Rows
section
variable{X:Cx}{tg:Expr}
end
abbrev blk(X:Cx)(N':List Str)(sc:Scope)(cl:List (Str × Addr))(s₀:Shared)(H₀:Hp)(C:Addr)(ex:List Addr):Cx :=
 { X with N:=N',s₀:=s₀,H₀:=H₀,env:=compEnvC sc cl C X.env,outer:=X.stack,ex:=ex,fn:=fun _=>false,xe:=fun _ _=>False }
structure BlkSc(X:Cx)(caps:List Str)(sc:Scope)(cl:List (Str × Addr)):Prop where
 kind:sc.kind=.function
 nocell:∀y∈sc.names,y.2≠.cell
 names:∀y∈sc.names,y.2=.local→sc.names.lookup y.1=some .local
 clos:closureFor sc X.env=pure cl
 has:(sc.names.all fun y=>y.2 != .free||(cl.lookup y.1).isSome)=true
 sub:∀y∈cl,X.env.cells.lookup y.1=some y.2
 caps:∀x∈caps,(X.env.kindOf x=some .cell∨X.env.kindOf x=some .free)∧(cl.lookup x).isSome=true∧((relabel sc X.env).names.lookup x=some .cell∨(relabel sc X.env).names.lookup x=some .free)
theorem relabel_inv{env:Env}:∀{names:List (Str × NameKind)} {x:Str} {k:NameKind},(names.map fun(n,k)=>if (k==NameKind.free&&env.scope.kind==.function&&env.kindOf n==some .cell) then (n,NameKind.cell) else (n,k)).lookup x=some k →
  ∃k',(x,k')∈names∧(k'=k∨k'=.free)
 |[],_,_,h=>by simp at h
 |(n,k0)::r,x,k,h=>by
  have h':List.lookup x ((if (k0==NameKind.free&&env.scope.kind==.function&&env.kindOf n==some .cell)=true then (n,NameKind.cell) else (n,k0))::(r.map fun(n,k)=>if (k==NameKind.free&&env.scope.kind==.function&&env.kindOf n==some .cell) then (n,NameKind.cell) else (n,k)))=some k:=h
  by_cases hx:x=n
  ·subst hx
   refine⟨k0,List.mem_cons_self,?_⟩
   by_cases hc:(k0==NameKind.free&&env.scope.kind==.function&&env.kindOf x==some .cell)=true
   ·have hf:(k0==NameKind.free)=true:=by
     rw [Bool.and_eq_true,Bool.and_eq_true] at hc
     exact hc.1.1
    exact .inr (by cases k0<;>first|rfl|exact absurd hf (by decide))
   ·rw [if_neg hc,List.lookup_cons_self] at h'
    exact .inl (Option.some.inj h')
  ·have hb:(x==n)=false:=beq_eq_false_iff_ne.mpr hx
   have h2:(r.map fun(n,k)=>if (k==NameKind.free&&env.scope.kind==.function&&env.kindOf n==some .cell) then (n,NameKind.cell) else (n,k)).lookup x=some k:=by
    split at h'<;>simpa [List.lookup_cons,hb] using h'
   obtain⟨k',hm,hk⟩:=relabel_inv h2
   exact⟨k',List.mem_cons_of_mem _ hm,hk⟩
theorem BlkSc.hasc{X:Cx}{caps:List Str}{sc:Scope}{cl:List (Str × Addr)}(S:BlkSc X caps sc cl){x:Str}(h:(relabel sc X.env).names.lookup x=some .cell∨(relabel sc X.env).names.lookup x=some .free):∃c,cl.lookup x=some c:=by
 have key:(x,NameKind.free)∈sc.names:=by
  rcases h with h|h
  ·obtain⟨k',hm,hk⟩:=relabel_inv h
   rcases hk with rfl|rfl
   ·exact absurd rfl (S.nocell _ hm)
   ·exact hm
  ·obtain⟨k',hm,hk⟩:=relabel_inv h
   rcases hk with rfl|rfl<;>exact hm
 have q:=List.all_eq_true.mp S.has _ key
 have q2:(cl.lookup x).isSome=true:=by simpa using q
 exact Option.isSome_iff_exists.mp q2
theorem BlkSc.subc{X:Cx}{caps:List Str}{sc:Scope}{cl:List (Str × Addr)}(S:BlkSc X caps sc cl){x:Str}{c:Addr}(h:cl.lookup x=some c):X.env.cells.lookup x=some c:=S.sub _ (PySem.mem_of_lookup h)
def blkSt(n:Nat)(κ:List Nat)(σ:St):St:=List.replicate n none++κ.map fun k=>(σ[k]?).join
def CompRun(n:Nat)(κ:List Nat)(g:TG)(tc:TT)(te:TE)(σ:St)(J:It)(H1:Hp)(Q:VK):Prop :=
 ∃W:Nat→Nat→List V→Hp→Prop,(∃m,W 0 m [] H1)∧∀i m ys H2,W i m ys H2 →
  (J.stop i H2∧∀D,H2 D=none→Q (.ref D) (upd H2 D (.lst ys))) ∨
  (J.go i H2∧ys.length < sizeLine∧∀x H3,J.yld i H2 x H3→g x (blkSt n κ σ) H3 fun σ4 H4=>σ4.drop n=(blkSt n κ σ).drop n ∧
   tc σ4 H4 fun b H5=>if b=true then te σ4 H5 fun v H6=>∃m',m' < m∧W (i+1) m' (ys++[v]) H6 else ∃m',m' < m∧W (i+1) m' ys H5)
def tComp(n:Nat)(κ:List Nat)(wi:TI)(g:TG)(tc:TT)(te:TE):TE:=fun σ H Q=>wi σ H fun J H1=>CompRun n κ g tc te σ J H1 Q
def tYes:TT:=fun _ H Q=>Q true H
theorem tYes_go{σ:St}{H:Hp}{A B:Hp→Prop}(h:A H):tYes σ H fun b H5=>if b=true then A H5 else B H5:=by
 show(if true=true then A H else B H)
 rw [if_pos rfl]
 exact h
section
variable{X:Cx}{pins:List (Addr × Obj)}{σ:St}{H:Hp}{s:Shared}
theorem Inv.block{caps:List Str}{own:List Str}{κ:List Nat}{sc:Scope}{cl:List (Str × Addr)}{fp:List Addr}{h₁:Heap}{tk:Nat}(S:BlkSc X caps sc cl)(hκ:κ.map (fun k=>X.N[k]?)=caps.map some)(I:Inv X pins σ H s)
  (f2:∀b∈fp,FpOk X pins H b) (hfp:∀b∈fp,b < s.heap.objs.size)
  {hp:Heap} {ol:Obj} (ehp:hp=s.heap.push ol) (hns:h₁.Ns hp.objs.size fun _=>none) (old:∀b o,hp.get? b=some o→h₁.get? b=some o) :
  Inv (blk X (own++caps) sc cl { s with heap:=hp } H hp.objs.size (s.heap.objs.size::fp)) pins (blkSt own.length κ σ) H { s with heap:=h₁,toks:=tk }:=by
 have hsz:hp.objs.size=s.heap.objs.size+1:=by rw [ehp,Heap.size_push]
 have up:∀b o,s.heap.get? b=some o→hp.get? b=some o:=fun b o e=>by rw [ehp];exact Heap.get?_push_of_some _ e
 have I3:Inv X pins σ H { s with heap:=hp }:=I.kept (t':=s.toks) up
 have stk:∀b,b≠X.env.locals→b∉X.fs→b∉frs X.stack:=fun b h1 h2 z=>(List.mem_cons.mp (I.stkSub b z)).elim h1 h2
 have dD:s.heap.objs.size≠X.env.locals:=Nat.ne_of_gt I.lt
 have cellLt:∀x c,X.env.cells.lookup x=some c→c < s.heap.objs.size:=fun x c e=>by
  obtain⟨v,q⟩:=I.cell x c e
  exact q.lt
 have ltC:∀b,b < s.heap.objs.size→b≠hp.objs.size:=fun b hb=>by rw [hsz];exact Nat.ne_of_lt (Nat.lt_succ_of_lt hb)
 have cellK:∀c v,s.heap.IsCell c v→h₁.IsCell c v:=fun c v ⟨o,ho,hd⟩=>⟨o,old _ _ (up _ _ ho),hd⟩
 refine⟨⟨I.ok.mod,?_,I.ok.glob,I.ok.blt,Nat.le_refl _,fun x y c h1 h2=>I.ok.inj x y c (S.subc h1) (S.subc h2),fun x h=>S.hasc h,fun _ _ z=>absurd z Bool.false_ne_true,I.ok.hd,I.ok.frames,.inl rfl,fun b hb=>?_,fun b o e=>⟨up _ _ (I.bs b o e).1,(I.bs b o e).2⟩,
   Nat.le_trans (Nat.le_trans I.ok.bsz I.sz) (by show s.heap.objs.size≤hp.objs.size;rw [hsz];exact Nat.le_succ _),fun b o e hb=>?_,fun b hb=>?_,I3.stack,I.stkFree⟩,
  rfl,I.bare,Un.kept old,⟨_,hns,fun i x v e1 e2 e3=>?_⟩,fun x c h=>?_,I.hok.fresh (by rw [hsz];exact Nat.le_succ _),fun x c h=>I.freeC x c (S.subc h),fun p hp'=>?_,I.hok.kept fun b u e=>old _ _ (up _ _ e),?_⟩
 ·show(relabel sc X.env).kind=.function
  exact S.kind
 ·show b≠hp.objs.size∧∀x c,cl.lookup x=some c→c≠b
  rcases List.mem_cons.mp hb with rfl|hb
  ·exact⟨by rw [hsz];exact Nat.ne_of_lt (Nat.lt_succ_self _),fun x c h=>Nat.ne_of_lt (cellLt x c (S.subc h))⟩
  ·exact⟨ltC b (hfp b hb),fun x c h=>(f2 b hb).2.2.2.2.1 x c (S.subc h)⟩
 ·have hlt:b < X.s₀.heap.objs.size:=Nat.lt_of_lt_of_le (Heap.lt_size e) I.ok.bsz
  rcases List.mem_cons.mp hb with rfl|hb
  ·exact absurd (Nat.lt_of_lt_of_le hlt I.sz) (Nat.lt_irrefl _)
  ·rcases (f2 b hb).2.2.2.1 with z|z
   ·exact I.ok.noex b o e z
   ·exact absurd (Nat.lt_of_lt_of_le hlt z) (Nat.lt_irrefl _)
 ·rcases List.mem_cons.mp hb with rfl|hb
  ·exact stk _ dD (I.nofs (Nat.le_refl _))
  ·exact stk _ (f2 b hb).2.1 (f2 b hb).2.2.1
 ·have e1':(own++caps)[i]?=some x:=e1
  have hlen:(List.replicate own.length (none:Option V)).length=own.length:=List.length_replicate
  have hge:own.length≤i:=by
   refine Nat.le_of_not_lt fun hlt=>?_
   unfold blkSt at e2
   rw [List.getElem?_append_left (by rw [hlen];exact hlt),List.getElem?_replicate,if_pos hlt] at e2
   cases e2
  unfold blkSt at e2
  rw [List.getElem?_append_right (by rw [hlen];exact hge),hlen,List.getElem?_map] at e2
  rw [List.getElem?_append_right hge] at e1'
  cases ek:κ[i - own.length]? with
  |none=>rw [ek] at e2;cases e2
  |some k =>
   rw [ek] at e2
   have e2':(σ[k]?).join=some v:=Option.some.inj e2
   have e4:σ[k]?=some (some v):=by
    cases eσ:σ[k]? with
    |none=>rw [eσ] at e2';cases e2'
    |some w=>rw [eσ] at e2';exact congrArg some e2'
   have e5:X.N[k]?=some x:=by
    have z:=congrArg (fun l=>l[i - own.length]?) hκ
    simp only [List.getElem?_map,ek,e1',Option.map_some] at z
    exact Option.some.inj z
   obtain⟨c1,c2,c3⟩:=S.caps x (List.mem_of_getElem? e1')
   obtain⟨m,hn,hl⟩:=I.loc
   obtain⟨u,r,l⟩:=hl k x v e5 e4 (c1.elim (fun z=>.inr (.inl z)) fun z=>.inr (.inr z))
   refine⟨u,r,?_⟩
   rcases l with ⟨hk,_⟩|⟨_,c,hc,hcell⟩
   ·rcases c1 with z|z<;>(rw [hk] at z;cases z)
   ·obtain⟨c',hc'⟩:=Option.isSome_iff_exists.mp c2
    have ecc:c'=c:=Option.some.inj ((S.subc hc').symm.trans hc)
    subst ecc
    exact .inr ⟨c3,c',hc',cellK _ _ hcell⟩
 ·obtain⟨v,q⟩:=I.cell x c (S.subc h)
  exact⟨v,cellK c v q⟩
 ·obtain⟨e,n,ne,nf,d⟩:=I.pin p hp'
  exact⟨old _ _ (up _ _ e),n,ltC _ (Heap.lt_size e),stk _ ne nf,d⟩
 ·show(blkSt own.length κ σ).length=(own++caps).length
  have z:=congrArg List.length hκ
  rw [List.length_map,List.length_map] at z
  unfold blkSt
  rw [List.length_append,List.length_append,List.length_replicate,List.length_map,z]
theorem Inv.unblock{own caps:List Str}{sc:Scope}{cl:List (Str × Addr)}{fp:List Addr}{H':Hp}{s4:Shared}{σ':St}{pins':List (Addr × Obj)}{hp h':Heap}{ol:Obj}{ys:List V}{its:List Value}{cap:Nat}(I:Inv X pins σ H s)
  (f2:∀b∈fp,FpOk X pins H b) (ehp:hp=s.heap.push ol)
  (J:Inv (blk X (own++caps) sc cl { s with heap:=hp } H hp.objs.size (s.heap.objs.size::fp)) pins' σ' H' s4)
  (hD:s4.heap.get? s.heap.objs.size=some { cls:=.type "list",data:=.seq its.toArray cap }) (nD:H' s.heap.objs.size=none) (r:Vals ys its) (hz:ys.length≤sizeLine) (sb:Heap.SameBut hp.objs.size s4.heap h') :
  Inv X pins σ (upd H' s.heap.objs.size (.lst ys)) { s4 with heap:=h' }:=by
 have hsz:hp.objs.size=s.heap.objs.size+1:=by rw [ehp,Heap.size_push]
 have up:∀b o,s.heap.get? b=some o→hp.get? b=some o:=fun b o e=>by rw [ehp];exact Heap.get?_push_of_some _ e
 have nDs:H s.heap.objs.size=none:=I.hok.fresh (Nat.le_refl _)
 have neD:∀b o,s.heap.get? b=some o→b≠s.heap.objs.size:=fun b o e=>Nat.ne_of_lt (Heap.lt_size e)
 have neC:∀b o,s.heap.get? b=some o→b≠hp.objs.size:=fun b o e=>by rw [hsz];exact Nat.ne_of_lt (Nat.lt_succ_of_lt (Heap.lt_size e))
 have nex:∀b o,s.heap.get? b=some o→b∉fp→b∉s.heap.objs.size::fp:=fun b o e hb z=>(List.mem_cons.mp z).elim (neD b o e) hb
 have u:=J.base
 have hDC:s.heap.objs.size≠hp.objs.size:=by rw [hsz];exact Nat.ne_of_lt (Nat.lt_succ_self _)
 have eD:h'.get? s.heap.objs.size=some { cls:=.type "list",data:=.seq its.toArray cap }:=(sb.2 _ hDC).trans hD
 refine I.call' (ch:=fp) J.os ⟨fun b o e n hb hx=>?_,fun b o e n hb hx=>?_,fun b o e n hx=>?_,fun b o e hx=>?_,fun b xs e=>?_,fun b o x e=>?_,fun b ps e=>?_⟩ (fun b o e=>?_) J.bare fun b hb=>?_
 ·exact(sb.2 b (neC b o e)).trans (u.keep b o (up _ _ e) n hb (nex b o e hx))
 ·obtain⟨sl,q⟩:=u.slot b o (up _ _ e) n hb (nex b o e hx)
  exact⟨sl,(sb.2 b (neC b o e)).trans q⟩
 ·rw [upd_ne (neD b o e)]
  exact u.free b o (up _ _ e) n (nex b o e hx)
 ·obtain⟨o',q⟩:=u.there b o (up _ _ e) (nex b o e hx)
  exact⟨o',(sb.2 b (neC b o e)).trans q⟩
 ·rw [upd_ne (ne_of_none e nDs)]
  exact u.tups b xs e
 ·rw [upd_ne (ne_of_none e nDs)]
  exact u.frzs b o x e
 ·rw [upd_ne (ne_of_none e nDs)]
  exact u.tbls b ps e
 ·by_cases hb:b=s.heap.objs.size
  ·subst hb
   rw [upd_same] at e
   cases e
   exact⟨hz,its,cap,r,eD⟩
  ·rw [upd_ne hb] at e
   have nC:∀c w,H' c=some w→c≠hp.objs.size:=fun c w q=>ne_of_none q J.free
   refine(J.hok b o e).stay (fun c v hc q=>(sb.2 c ?_).trans q) (fun c q=>by rw [upd_ne (ne_of_none q nD)];exact q) fun c xs q=>by rw [upd_ne (ne_of_none q nD)];exact q
   rcases hc with rfl|hc
   ·exact nC c o e
   ·exact nC c _ hc
 ·obtain⟨_,f1,_,f3,f4,f5⟩:=f2 b hb
  exact⟨f3,f1,f4,f5⟩
end
section
variable{X:Cx}
theorem pe_compG{tg elt iter:Expr}{ifs:List Expr}{own caps:List Str}{κ:List Nat}{sc:Scope}{cl:List (Str × Addr)}{pos:Pos}{wi:TI}{g:TG}{tc:TT}{te:TE}(hcalm:X.calm=true)(S:BlkSc X caps sc cl)(hκ:κ.map (fun k=>X.N[k]?)=caps.map some)
  (hi:PI X tg iter wi) (hg:∀s₀ H₀ C ex,PG (blk X (own++caps) sc cl s₀ H₀ C ex) tg g)
  (hc:∀s₀ H₀ C ex (pins:List (Addr × Obj)) (s:Shared) (σ:St) (H:Hp) (Q:Bool→Hp→Prop),Inv (blk X (own++caps) sc cl s₀ H₀ C ex) pins σ H s→tc σ H Q →
   wpAny (model X.prog X.w) X.A (forIn ifs true fun c r=>if r=true then do let ok ←isTrue c (compEnvC sc cl C X.env) (eval c (compEnvC sc cl C X.env));pure (ForInStep.yield ok) else pure (ForInStep.yield r)) (TP (blk X (own++caps) sc cl s₀ H₀ C ex) pins σ Q) (fun _ _=>False) s)
  (he:∀s₀ H₀ C ex,PE (blk X (own++caps) sc cl s₀ H₀ C ex) elt te)
  (hs:∀x,foldedSetIterable iter X.env x=pure x:=by intro _;rfl):PE X (.ListComp elt [⟨tg,iter,ifs,0⟩] sc pos) (tComp own.length κ wi g tc te):=by
 intro pins s σ H Q I h
 rw [eval_ListComp]
 refine wpAny_comprehension_free (use:=none) rfl hs S.clos S.kind S.names (thn (hi pins s σ H _ I h) fun v s1 h1=>thn h1 fun itv s2 h2=>?_)
 obtain⟨it,fp,tn,J,H2,e,I2,T,st2,f2,W,⟨m0,w0⟩,turn⟩:=h2
 subst e
 have hfp:∀b∈fp,b < s2.heap.objs.size:=fun b hb=>by
  obtain⟨o,e,_⟩:=T.obj _ _ st2 b hb
  exact Heap.lt_size e
 refine wpAny_newObj_type (wpAny_newFunctionEnv S.nocell (fun y hy=>nomatch hy) (fun h₁ hns hsb=>?_) S.kind)
 generalize ehp:s2.heap.push { cls:=.type "list",dict:=none,data:=.seq ([]:List Value).toArray }=hp at hns hsb ⊢
 have hsz:hp.objs.size=s2.heap.objs.size+1:=by rw [←ehp,Heap.size_push]
 have hDC:s2.heap.objs.size≠hp.objs.size:=by rw [hsz];exact Nat.ne_of_lt (Nat.lt_succ_self _)
 have old:∀b o,hp.get? b=some o→h₁.get? b=some o:=fun b o e=>(hsb.2 b (Nat.ne_of_lt (Heap.lt_size e))).trans (Heap.get?_push_of_some _ e)
 have eD:h₁.get? s2.heap.objs.size=some { cls:=.type "list",data:=.seq ([]:List Value).toArray }:=old _ _ (by rw [←ehp];exact Heap.get?_push_size _ rfl)
 have I0:=Inv.block (own:=own) (h₁:=h₁) (tk:=s2.toks+([]:List (Str × Value)).length) S hκ I2 f2 hfp ehp.symm hns old
 have stkD:s2.heap.objs.size∉frs X.stack:=fun z=>(List.mem_cons.mp (I2.stkSub _ z)).elim (Nat.ne_of_gt I2.lt) (I2.nofs (Nat.le_refl _))
 have cellD:∀x c,cl.lookup x=some c→c≠s2.heap.objs.size:=fun x c q=>by
  obtain⟨v,z⟩:=I2.cell x c (S.subc q)
  exact Nat.ne_of_lt z.lt
 have pinD:∀p∈X.pn++pins,p.1≠s2.heap.objs.size:=fun p hp=>Nat.ne_of_lt (Heap.lt_size (I2.pin p hp).1)
 have stkF:∀b∈fp,b∉frs X.stack:=fun b hb z=>(List.mem_cons.mp (I2.stkSub _ z)).elim (f2 b hb).2.1 (f2 b hb).2.2.1
 have loop:codeAny (model X.prog X.w) X.A (.compLoop (.ListComp elt [⟨tg,iter,ifs,0⟩] sc pos) 0 (.ref it) (.ref s2.heap.objs.size) (compEnvC sc cl hp.objs.size X.env))
   (compPost (model X.prog X.w) X.A X.xe none (EP X pins σ Q) (.ref s2.heap.objs.size) hp.objs.size) { s2 with heap:=h₁,toks:=s2.toks+([]:List (Str × Value)).length }:=by
  refine codeAny_loop rfl (fun n s'=>∃(i:Nat) (ys:List V) (its:List Value) (cap:Nat) (H':Hp),Inv (blk X (own++caps) sc cl { s2 with heap:=hp } H2 hp.objs.size (s2.heap.objs.size::fp)) pins (blkSt own.length κ σ) H' s'∧tn i s'.heap∧(∀b∈fp,H' b=none) ∧
   s'.heap.get? s2.heap.objs.size=some { cls:=.type "list",data:=.seq its.toArray cap }∧H' s2.heap.objs.size=none∧Vals ys its∧ys.length≤sizeLine∧W i n ys H') (fun n s3 hI=>?_) m0
   ⟨0,[],[],0,H2,I0,T.keep _ _ _ st2 fun b hb o e=>old _ _ (by rw [←ehp];exact Heap.get?_push_of_some _ e),fun b hb=>(f2 b hb).1,eD,I2.hok.fresh (Nat.le_refl _),.nil,Nat.zero_le _,w0⟩
  obtain⟨i,ys,its,cap,H3,I3,st3,fr3,eD3,nD3,rv,hz,w3⟩:=hI
  show wpAny _ X.A ((compTurn (.ListComp elt [⟨tg,iter,ifs,0⟩] sc pos) 0 (.ref it) (.ref s2.heap.objs.size) (compEnvC sc cl hp.objs.size X.env)).onRaise fun x=>do noteFrame x (compEnvC sc cl hp.objs.size X.env);theTreesLotGoes x) _ _ s3
  refine wpAny_noted ?_
  rw [compTurn_list]
  have I3':Inv (blk X (own++caps) sc cl { s2 with heap:=hp } H2 hp.objs.size (s2.heap.objs.size::fp)) (pins++[(s2.heap.objs.size,{ cls:=.type "list",data:=.seq its.toArray cap })]) (blkSt own.length κ σ) H3 s3:=by
   refine I3.pins_of fun p hp=>(List.mem_append.mp hp).elim (fun z=>I3.pin p (List.mem_append_right _ z)) fun z=>?_
   obtain rfl:=List.mem_singleton.mp z
   exact⟨eD3,nD3,hDC,stkD,fun v q=>by cases q⟩
  have fpk:∀{H':Hp},(∀b∈fp,H' b=none)→∀b∈fp,FpOk (blk X (own++caps) sc cl { s2 with heap:=hp } H2 hp.objs.size (s2.heap.objs.size::fp)) (pins++[(s2.heap.objs.size,{ cls:=.type "list",data:=.seq its.toArray cap })]) H' b:=fun {H'} hn b hb =>
   ⟨hn b hb,by show b≠hp.objs.size;rw [hsz];exact Nat.ne_of_lt (Nat.lt_succ_of_lt (hfp b hb)),stkF b hb,.inl (List.mem_cons_of_mem _ hb),fun x c q=>(f2 b hb).2.2.2.2.1 x c (S.subc q),fun p hp=>by
    rw [←List.append_assoc] at hp
    rcases List.mem_append.mp hp with z|z
    ·exact(f2 b hb).2.2.2.2.2 p z
    ·obtain rfl:=List.mem_singleton.mp z
     exact Nat.ne_of_gt (hfp b hb)⟩
  rcases turn i n ys H3 w3 with ⟨stop,fin⟩|⟨go,hlt,step⟩
  ·refine wpAny_bind (wpAny_standAt (wpAny_bind (thn (T.done (blk X (own++caps) sc cl { s2 with heap:=hp } H2 hp.objs.size (s2.heap.objs.size::fp)) rfl rfl rfl hcalm i _ s3 _ H3 _ I3' (fpk fr3) st3 stop) fun r s4 ⟨hr,I4⟩=>?_)))
   subst hr
   refine wpAny_pure ?_
   obtain⟨m,hm,_⟩:=I4.loc
   refine⟨m,hm,fun h' sb=>?_⟩
   have eD4:=(I4.pin (s2.heap.objs.size,{ cls:=.type "list",data:=.seq its.toArray cap }) (List.mem_append_right _ (List.mem_append_right _ (List.mem_singleton.mpr rfl)))).1
   exact⟨.ref s2.heap.objs.size,_,Inv.unblock I2 f2 ehp.symm I4 eD4 nD3 rv hz sb,rfl,fin _ nD3⟩
  ·refine wpAny_bind (wpAny_standAt (wpAny_bind (thn (T.item (blk X (own++caps) sc cl { s2 with heap:=hp } H2 hp.objs.size (s2.heap.objs.size::fp)) rfl rfl rfl hcalm i _ s3 _ H3 _ I3' (fpk fr3) st3 go) fun r s4 ⟨u,hr,h4⟩=>?_)))
   subst hr
   refine wpAny_bind (thn h4 fun _ s5 ⟨x,H5,I5,r5,y5,st5,fr5⟩=>?_)
   have I5':=I5.pinned (fpk fr5) (T.obj _ _ st5)
   refine wpAny_bind (wpAny_mono (hg _ _ _ _ _ s5 _ H5 x u _ I5' r5 (step x H5 y5)) (fun _ s6 ⟨σ6,H6,I6,eσ,q6⟩=>?_) fun _ _ z=>z.elim)
   refine wpAny_bind (wpAny_mono (hc _ _ _ _ _ s6 σ6 H6 _ I6 q6) (fun ok s7 ⟨H7,I7,q7⟩=>?_) fun _ _ z=>z.elim)
   have back:∀{s8:Shared} {H8:Hp},Inv (blk X (own++caps) sc cl { s2 with heap:=hp } H2 hp.objs.size (s2.heap.objs.size::fp)) ((pins++[(s2.heap.objs.size,{ cls:=.type "list",data:=.seq its.toArray cap })])++pinsAt fp s5.heap) σ6 H8 s8 →
     Inv (blk X (own++caps) sc cl { s2 with heap:=hp } H2 hp.objs.size (s2.heap.objs.size::fp)) pins (blkSt own.length κ σ) H8 s8∧tn (i+1) s8.heap∧(∀b∈fp,H8 b=none)∧s8.heap.get? s2.heap.objs.size=some { cls:=.type "list",data:=.seq its.toArray cap }∧H8 s2.heap.objs.size=none:=by
    intro s8 H8 I8
    have pk:∀b∈fp,∀o,s5.heap.get? b=some o→s8.heap.get? b=some o∧H8 b=none:=fun b hb o e=>by
     have z:=I8.pin (b,o) (List.mem_append_right _ (List.mem_append_right _ (mem_pinsAt hb e)))
     exact⟨z.1,z.2.1⟩
    have zD:=I8.pin (s2.heap.objs.size,{ cls:=.type "list",data:=.seq its.toArray cap }) (List.mem_append_right _ (List.mem_append_left _ (List.mem_append_right _ (List.mem_singleton.mpr rfl))))
    refine⟨(I8.pins_of fun p hp=>I8.pin p (List.mem_append_right _ (List.mem_append_left _ (List.mem_append_left _ hp)))).weak ?_ fun j v e=>?_,T.keep _ _ _ st5 fun b hb o e=>(pk b hb o e).1,fun b hb=>?_,zD.1,zD.2.1⟩
    ·exact I3.len.trans I8.len.symm
    ·have hge:own.length≤j:=by
      refine Nat.le_of_not_lt fun q=>?_
      unfold blkSt at e
      rw [List.getElem?_append_left (by rw [List.length_replicate];exact q),List.getElem?_replicate,if_pos q] at e
      cases e
     have z:=congrArg (fun l=>l[j - own.length]?) eσ
     simp only [List.getElem?_drop] at z
     rw [show own.length+(j - own.length)=j by omega] at z
     rw [z]
     exact e
    ·obtain⟨o,e,_⟩:=T.obj _ _ st5 b hb
     exact(pk b hb o e).2
   cases ok with
   |false =>
    obtain⟨m',hm,w7⟩:=(if_neg Bool.false_ne_true)▸q7
    obtain⟨I8,st8,fr8,e8,n8⟩:=back I7
    exact wpAny_pure ⟨rfl,m',hm,i+1,ys,its,cap,H7,I8,st8,fr8,e8,n8,rv,hz,w7⟩
   |true =>
    have q7':=(if_pos rfl)▸q7
    refine wpAny_bind (wpAny_bind (wpAny_mono (he _ _ _ _ _ s7 σ6 H7 _ I7 q7') (fun y s8 ⟨v8,H8,I8,r8,m',hm,w8⟩=>?_) fun _ _ z=>z.elim))
    obtain⟨I9,st9,fr9,e9,n9⟩:=back I8
    have hl:=rv.length
    refine wpAny_bind (wpAny_list_append_plain (items:=its.toArray) ⟨cap,e9⟩ (fun h' hl' sb=>?_) (by rw [List.size_toArray,←hl];exact hz))
    obtain⟨cap',e'⟩:=hl'
    refine wpAny_pure (wpAny_pure ⟨rfl,m',hm,i+1,ys++[v8],its++[y],cap',H8,?_,?_,fr9,?_,n9,Vals.append rv (.cons r8 .nil),?_,w8⟩)
    ·exact I9.turned (t':=s8.toks) (fun b o hb e=>(sb.2 b hb).trans e) n9 hDC (.inl List.mem_cons_self) cellD pinD
    ·exact T.keep _ _ _ st9 fun b hb o e=>(sb.2 b (Nat.ne_of_lt (hfp b hb))).trans e
    ·rw [e']
     congr 3
     simp
    ·rw [List.length_append]
     exact hlt
 exact codeAny_compStart_list loop (T.self _ 0 _ _ _ (T.keep _ _ _ st2 fun b hb o e=>old _ _ (by rw [←ehp];exact Heap.get?_push_of_some _ e)) loop)
theorem pe_comp{tg elt iter:Expr}{own caps:List Str}{κ:List Nat}{sc:Scope}{cl:List (Str × Addr)}{pos:Pos}{wi:TI}{g:TG}{te:TE}(hcalm:X.calm=true)(S:BlkSc X caps sc cl)(hκ:κ.map (fun k=>X.N[k]?)=caps.map some)
  (hi:PI X tg iter wi) (hg:∀s₀ H₀ C ex,PG (blk X (own++caps) sc cl s₀ H₀ C ex) tg g) (he:∀s₀ H₀ C ex,PE (blk X (own++caps) sc cl s₀ H₀ C ex) elt te)
  (hs:∀x,foldedSetIterable iter X.env x=pure x:=by intro _;rfl):PE X (.ListComp elt [⟨tg,iter,[],0⟩] sc pos) (tComp own.length κ wi g tYes te) :=
 pe_compG hcalm S hκ hi hg (fun s₀ H₀ C ex pins s σ H Q I h=>wpAny_tests_nil ⟨H,I,h⟩) he hs
theorem pe_comp_if{tg elt iter c:Expr}{own caps:List Str}{κ:List Nat}{sc:Scope}{cl:List (Str × Addr)}{pos:Pos}{wi:TI}{g:TG}{tc:TT}{te:TE}(hcalm:X.calm=true)(S:BlkSc X caps sc cl)(hκ:κ.map (fun k=>X.N[k]?)=caps.map some)
  (hi:PI X tg iter wi) (hg:∀s₀ H₀ C ex,PG (blk X (own++caps) sc cl s₀ H₀ C ex) tg g) (hc:∀s₀ H₀ C ex,PT (blk X (own++caps) sc cl s₀ H₀ C ex) c tc) (he:∀s₀ H₀ C ex,PE (blk X (own++caps) sc cl s₀ H₀ C ex) elt te)
  (hs:∀x,foldedSetIterable iter X.env x=pure x:=by intro _;rfl):PE X (.ListComp elt [⟨tg,iter,[c],0⟩] sc pos) (tComp own.length κ wi g tc te) :=
 pe_compG hcalm S hκ hi hg (fun s₀ H₀ C ex pins s σ H Q I h=>wpAny_tests_one (hc s₀ H₀ C ex pins s σ H Q I h)) he hs
end
end L2
namespace L2
open PySem PySem.Spec PyProof.Rows
section
variable{X:Cx}
def rSlS:V→Option Int→Option Int→Hp→VK→Prop:=fun x lo hi H Q=>∃z,x=.str z∧z.length≤sizeLine∧Q (.str (Txt.slice z lo hi)) H
theorem sl_str:SlR X rSlS:=by
 intro pins s σ H x v vl vu lo hi sl Q I rx hs pl pu h
 obtain⟨z,rfl,hz,q⟩:=h
 obtain⟨t,rfl⟩:=rx
 have fin:∀t' k,EP X pins σ Q (.str (Txt.slice z lo hi) t') { s with toks:=k }:=fun t' k=>⟨.str _,H,I.tok _,⟨_,rfl⟩,q⟩
 refine⟨"str",_,F.slot_str_getitem.lookup,typeIs_str _ _ _,?_⟩
 cases pl with
 |none =>
  cases pu with
  |none=>exact wpAny_getItem_str_slice (l:=none) (u:=none) (st:=none) hs rfl (post_val_or_str ⟨Nat.le_trans (Txt.slice_le z _ _) hz,fin⟩)
  |int j tj=>exact wpAny_getItem_str_slice (l:=none) (u:=some (j,tj)) (st:=none) hs rfl (post_val_or_str ⟨Nat.le_trans (Txt.slice_le z _ _) hz,fin⟩)
 |int i ti =>
  cases pu with
  |none=>exact wpAny_getItem_str_slice (l:=some (i,ti)) (u:=none) (st:=none) hs rfl (post_val_or_str ⟨Nat.le_trans (Txt.slice_le z _ _) hz,fin⟩)
  |int j tj=>exact wpAny_getItem_str_slice (l:=some (i,ti)) (u:=some (j,tj)) (st:=none) hs rfl (post_val_or_str ⟨Nat.le_trans (Txt.slice_le z _ _) hz,fin⟩)
end
end L2
namespace L2
open PySem PySem.Spec PyProof.Rows
end L2
namespace L2
open PySem PySem.Spec PyProof.Rows
theorem comp_by{J:It}{xs:List V}{n:Nat}{κ:List Nat}{g:TG}{tc:TT}{te:TE}{σ:St}{H:Hp}{Q:VK}(Pv:Nat→List V→Hp→Prop)(h0:Pv 0 [] H)(hz:xs.length≤sizeLine)(hlen:∀i ys H2,Pv i ys H2→ys.length≤i)
  (hgo:∀i x ys H2,xs[i]?=some x→Pv i ys H2→J.go i H2) (hyl:∀i ys x H2 H',i < xs.length→Pv i ys H2→J.yld i H2 x H'→H'=H2∧xs[i]?=some x) (hst:∀ys H2,Pv xs.length ys H2→J.stop xs.length H2)
  (hs:∀i x ys H2 (N:List V→Hp→Prop),(∀ys' H',Pv (i+1) ys' H'→N ys' H')→xs[i]?=some x→Pv i ys H2→g x (blkSt n κ σ) H2 fun σ4 H4=>σ4.drop n=(blkSt n κ σ).drop n∧tc σ4 H4 fun b H5=>if b=true then te σ4 H5 fun v H6=>N (ys++[v]) H6 else N ys H5)
  (hQ:∀ys H2 D,Pv xs.length ys H2→H2 D=none→Q (.ref D) (upd H2 D (.lst ys))) :
  CompRun n κ g tc te σ J H Q:=by
 refine⟨fun i m ys H2=>m=xs.length - i∧i≤xs.length∧Pv i ys H2,⟨xs.length,rfl,Nat.zero_le _,h0⟩,?_⟩
 rintro i m ys H2 ⟨rfl,hi,p⟩
 by_cases hlt:i < xs.length
 ·have e:xs[i]?=some xs[i]:=List.getElem?_eq_getElem hlt
  refine .inr ⟨hgo i _ ys H2 e p,Nat.lt_of_le_of_lt (hlen i ys H2 p) (Nat.lt_of_lt_of_le hlt hz),fun x H3 y=>?_⟩
  obtain⟨rfl,ex⟩:=hyl i ys x H2 H3 hlt p y
  exact hs i x ys _ (fun ys' H'=>∃m',m' < xs.length - i∧m'=xs.length - (i+1)∧i+1≤xs.length∧Pv (i+1) ys' H') (fun ys' H' p'=>⟨xs.length - (i+1),by omega,rfl,hlt,p'⟩) ex p
 ·obtain rfl:i=xs.length:=by omega
  exact .inl ⟨hst ys H2 p,fun D hD=>hQ ys H2 D p hD⟩
def rangeV(lo:Int)(n:Nat):List V:=(List.range n).map fun i=>V.int (lo+(i:Nat))
theorem rangeV_len(lo:Int)(n:Nat):(rangeV lo n).length=n:=by simp [rangeV]
theorem rangeV_get{lo:Int}{n i:Nat}{x:V}:(rangeV lo n)[i]?=some x↔i < n∧x=.int (lo+i):=by
 unfold rangeV
 rw [List.getElem?_map]
 by_cases h:i < n
 ·rw [List.getElem?_range h]
  simp [h,eq_comm]
 ·rw [List.getElem?_eq_none (by simp;omega)]
  simp [h]
theorem itr_go{lo:Int}{n:Nat}{H:Hp}{i:Nat}{x:V}(h:(rangeV lo n)[i]?=some x):(Itr lo n).go i H:=(rangeV_get.mp h).1
theorem itr_yld'{lo:Int}{n:Nat}{H H':Hp}{i:Nat}{x:V}(hi:i < n)(h:(Itr lo n).yld i H x H'):H'=H∧(rangeV lo n)[i]?=some x:=⟨h.1,rangeV_get.mpr ⟨hi,h.2⟩⟩
section
variable{X:Cx}
end
end L2
namespace L2
open PySem PySem.Spec PyProof.Rows
mutual
inductive Dat (K:PySem.W.Frag) (H:Hp):V→PyData→Prop
 |non:Dat K H .non .none
 |bl (b:Bool):Dat K H (.bl b) (.bool b)
 |int (i:Int):Dat K H (.int i) (.int i)
 |str (x:Str):Dat K H (.str x) (.str x)
 |tup {a:Addr} {xs:List V} {ds:List PyData}:SqT K H a xs→Dats K H xs ds→Dat K H (.ref a) (.tuple ds)
 |lst {a:Addr} {xs:List V} {ds:List PyData}:SqL K H a xs→Dats K H xs ds→Dat K H (.ref a) (.list ds)
inductive Dats (K:PySem.W.Frag) (H:Hp):List V→List PyData→Prop
 |nil:Dats K H [] []
 |cons {x:V} {d:PyData} {xs:List V} {ds:List PyData}:Dat K H x d→Dats K H xs ds→Dats K H (x::xs) (d::ds)
end
theorem Same.tup{K:PySem.W.Frag}{H H':Hp}{a:Addr}{xs:List V}(e:Same H H')(h:SqT K H a xs):SqT K H' a xs:=by
 rcases h with (h|⟨o,h⟩)|h
 ·exact .inl (.inl (e _ _ h))
 ·exact .inl (.inr ⟨o,e _ _ h⟩)
 ·exact .inr h
mutual
theorem Dat.same{K:PySem.W.Frag}{H H':Hp}(e:Same H H'):∀{x:V} {d:PyData},Dat K H x d→Dat K H' x d
 |_,_,.non=>.non
 |_,_,.bl b=>.bl b
 |_,_,.int i=>.int i
 |_,_,.str x=>.str x
 |_,_,.tup h r=>.tup (e.tup h) (Dats.same e r)
 |_,_,.lst h r=>.lst (e.seq h) (Dats.same e r)
theorem Dats.same{K:PySem.W.Frag}{H H':Hp}(e:Same H H'):∀{xs:List V} {ds:List PyData},Dats K H xs ds→Dats K H' xs ds
 |_,_,.nil=>.nil
 |_,_,.cons h r=>.cons (Dat.same e h) (Dats.same e r)
end
section
variable{X:Cx}{pins:List (Addr × Obj)}{σ:St}{H:Hp}{s:Shared}
mutual
theorem Dat.reads(I:Inv X pins σ H s):∀{x:V} {d:PyData} {v:Value},Dat X.K H x d→RelV x v→∃as,Reads s.heap v d as
 |_,_,_,.non,r=>by cases r;exact⟨_,.none⟩
 |_,_,_,.bl b,r=>by cases r;exact⟨_,.bool b⟩
 |_,_,_,.int i,r=>by obtain⟨t,rfl⟩:=r;exact⟨_,.int i t⟩
 |_,_,_,.str x,r=>by obtain⟨t,rfl⟩:=r;exact⟨_,.str x t⟩
 |_,_,_,.tup hq ds,r=>by
  cases r
  obtain⟨its,rv,p,_⟩:=I.tuple hq
  obtain⟨as,q⟩:=Dats.reads I ds rv
  obtain⟨o,e,c,n,dt⟩:=p
  exact⟨as,.tuple e c dt (by simpa using q)⟩
 |_,_,_,.lst hq ds,r=>by
  cases r
  obtain⟨its,rv,p,_⟩:=I.list hq
  obtain⟨as,q⟩:=Dats.reads I ds rv
  obtain⟨o,n,e,c,_,dt⟩:=p
  exact⟨_,.list e c dt (by simpa using q)⟩
theorem Dats.reads(I:Inv X pins σ H s):∀{xs:List V} {ds:List PyData} {vs:List Value},Dats X.K H xs ds→Vals xs vs→∃as,ReadsAll s.heap vs ds as
 |_,_,_,.nil,r=>by cases r;exact⟨_,.nil⟩
 |_,_,_,.cons h t,r=>by
  cases r with
  |cons r1 r2 =>
   obtain⟨as,q⟩:=Dat.reads I h r1
   obtain⟨bs,q2⟩:=Dats.reads I t r2
   exact⟨_,.cons q q2⟩
end
end
section
variable{X:Cx}
def rEqD(K:PySem.W.Frag)(neg:Bool):R2:=fun x y H Q=>∃dx dy,Dat K H x dx∧Dat K H y dy∧SeqAt.shaped dx=true∧SeqAt.shaped dy=true∧Q (.bl (if neg then !PyData.eqv dx dy else PyData.eqv dx dy)) H
theorem op_eqD(hu:X.A.units+64 < cLine):OpR X (compareOp .Eq) (rEqD X.K false):=by
 intro pins s σ H x y v u Q I rx ry h
 obtain⟨dx,dy,hx,hy,sx,sy,q⟩:=h
 obtain⟨as,ra⟩:=Dat.reads I hx rx
 obtain⟨bs,rb⟩:=Dat.reads I hy ry
 exact eq_dataH ra rb sx sy hu ⟨.bl _,H,I,rfl,q⟩
theorem op_neD(hu:X.A.units+64 < cLine):OpR X (compareOp .NotEq) (rEqD X.K true):=by
 intro pins s σ H x y v u Q I rx ry h
 obtain⟨dx,dy,hx,hy,sx,sy,q⟩:=h
 obtain⟨as,ra⟩:=Dat.reads I hx rx
 obtain⟨bs,rb⟩:=Dat.reads I hy ry
 exact ne_dataH ra rb sx sy hu ⟨.bl _,H,I,rfl,q⟩
end
end L2
namespace L2
open PySem PySem.Spec PyProof.Rows
section
variable{X:Cx}
open Classical in
theorem op_mulS:OpR X (binaryOp .Mult) (fun x y H Q=>∃z n,x=.str z∧y=.int n∧MulOk z n∧Q (.str (Txt.mul z n)) H):=by
 intro pins s σ H x y v u Q I rx ry h
 obtain⟨z,n,rfl,rfl,hm,q⟩:=h
 obtain⟨t,rfl⟩:=rx
 obtain⟨t',rfl⟩:=ry
 exact SB.mul hm fun t' k=>⟨.str _,H,I.tok _,⟨_,rfl⟩,q⟩
theorem mulOk_small{z:Str}{n:Int}(h0:0≤n)(h1:n≤1000)(h2:z.length≤1000):MulOk z n:=by
 refine⟨?_,fun h3 _=>?_,fun _ _=>?_⟩
 ·rw [decide_eq_false (by omega),decide_eq_false (by omega)]<;>rfl
 ·have hn:0 < n:=by omega
  have hm:(z.length:Int)*n≤1000*1000:=Int.mul_le_mul (by omega) h1 h0 (by decide)
  have e:(z.length:Int)≤(2 ^ 63 - 1) / n:=Int.le_ediv_of_mul_le hn (by omega)
  omega
 ·unfold Builtin.Str.tooLong sizeLine
  refine decide_eq_false ?_
  have:z.length*n.toNat≤1000*1000:=Nat.mul_le_mul h2 (by omega)
  omega
end
end L2
namespace L2
open PySem PySem.Spec PyProof.Rows
def RawD(h:Heap)(d:Addr)(es:Array DictEntry)(ep:Nat):Prop:=∃o,h.get? d=some o∧o.ExactDict∧o.data=.dict es ep
theorem RawD.at{h h':Heap}{d:Addr}{es:Array DictEntry}{ep:Nat}(x:RawD h d es ep)(k:∀o,h.get? d=some o→h'.get? d=some o):RawD h' d es ep:=let ⟨o,e,r⟩:=x;⟨o,k _ e,r⟩
theorem RawD.lt{h:Heap}{d:Addr}{es:Array DictEntry}{ep:Nat}(x:RawD h d es ep):d < h.objs.size:=let ⟨_,e,_⟩:=x;Heap.lt_size e
section
variable{prog:Program}{w:World}{A:Around}{E:Value→Shared→Prop}{s:Shared}
theorem raw_iter{d:Addr}{es:Array DictEntry}{ep:Nat}{Q:Value→Shared→Prop}(hd:(d==sysModules)=false)(hm:RawD s.heap d es ep)
  (hQ:Q (.ref s.heap.objs.size) { s with heap:=s.heap.push { cls:=.type "dict_keyiterator",data:=.fields #[.ref d,.int 0 0,.int es.size 0,.int ep 0] } }):wpAny (model prog w) A (pyIter (.ref d)) Q E s:=by
 obtain⟨o,ho,hx,hdat⟩:=hm
 have tyD:s.TypeIs (.ref d) "dict":=⟨o,ho,hx.1⟩
 refine wpAny_pyIter_slot tyD F.slot_dict_iter (wpAny_call_entry F.slot_dict_iter tyD F.entry_dict_iter ?_ (F.args_dict_iter_1 _))
 unfold Builtin.«dict.__iter__» Builtin.Dict.dictSlotNone
 refine wpAny_bind (wpAny_bind (wpAny_notOrdered_dict tyD ?_))
 refine wpAny_pure (show wpAny _ _ (Builtin.Dict.showsAll d >>= _) _ _ s from ?_)
 unfold Builtin.Dict.showsAll
 rw [if_neg (fun z=>Bool.false_ne_true (hd.symm.trans z))]
 refine wpAny_bind (wpAny_pure (wpAny_bind (wpAny_dictEntries ho hdat (wpAny_bind (wpAny_dictEpoch ho hdat ?_)))))
 exact wpAny_bind (wpAny_newObj_type (wpAny_pure ⟨_,rfl,"dict_keyiterator",_,⟨_,Heap.get?_push_size _ rfl,rfl⟩,F.slot_dict_keyiterator_next.lookup,hQ⟩))
theorem raw_item{it d:Addr}{i ep:Nat}{es:Array DictEntry}{Q:Option Value→Shared→Prop}(hit:s.heap.IsKeyIter it d i es.size ep)(hm:RawD s.heap d es ep)(hi:i < es.size)
  (hQ:∀h',h'.IsKeyIter it d (i+1) es.size ep→Heap.SameBut it s.heap h'→Q (some es[i].key) { s with heap:=h' }):wpAny (model prog w) A (pyNext (.ref it)) Q E s:=by
 have tyI:=hit.typeIs
 obtain⟨oi,hoi,hci,hdi⟩:=id hit
 obtain⟨od,hod,_,hdd⟩:=hm
 unfold pyNext
 refine wpAny_bind (wpAny_attempt (wpAny_callSpecial?_slot (name:=Str.ofString "__next__") tyI F.slot_dict_keyiterator_next (wpAny_call_entry F.slot_dict_keyiterator_next tyI F.entry_dict_keyiterator_next ?_ (F.args_dict_keyiterator_next_1 _))))
 refine wpAny_bind (wpAny_pure (wpAny_bind (wpAny_bind ?_)))
 first|refine wpAny_bind (wpAny_typeNameOfWhole_keyiter tyI (wpAny_pure ?_))|refine wpAny_bind (wpAny_typeNameOf_keyiter tyI (wpAny_pure ?_))
 refine wpAny_bind (wpAny_fieldsOf hoi hdi ?_)
 simp only [show Builtin.Dict_items.ownsTuple "dict_keyiterator"=false from by decide,Bool.false_eq_true,if_false]
 show wpAny _ _ (if (Value.ref d==.none)=true then _ else _) _ _ s
 have ne0:¬((Value.ref d==Value.none)=true):=fun z=>Bool.false_ne_true z
 rw [if_neg ne0]
 refine wpAny_bind (wpAny_pure (wpAny_bind (wpAny_dictEntries hod hdd ?_)))
 rw [if_neg (by simp)]
 refine wpAny_bind (wpAny_pure (wpAny_bind (wpAny_dictEpoch hod hdd ?_)))
 rw [if_neg (by simp)]
 refine wpAny_pure ?_
 simp only [show ¬((i:Int) < 0) from Int.not_lt.mpr (Int.natCast_nonneg i),if_false,Int.toNat_natCast,Array.getElem?_eq_getElem hi]
 refine wpAny_bind ?_
 first|refine wpAny_bind (wpAny_typeNameOfWhole_keyiter tyI (wpAny_pure ?_))|refine wpAny_bind (wpAny_typeNameOf_keyiter tyI (wpAny_pure ?_))
 refine wpAny_bind (wpAny_isOneOf_keyiter tyI ?_)
 refine(show wpAny _ _ (setField (.ref it) 1 (rawInt ((i:Int)+1)) >>= _) _ _ s from wpAny_bind (wpAny_setField hoi hdi (by simp) ?_))
 have new:(s.heap.update it (Obj.mapFields (·.setIfInBounds 1 (rawInt ((i:Int)+1))))).IsKeyIter it d (i+1) es.size ep :=
  ⟨_,Heap.get?_update_self _ hoi (Obj.isFreed_of_fields (Obj.data_mapFields hdi _)),(Obj.cls_mapFields ..).trans hci,by rw [Obj.data_mapFields hdi];simp [rawInt]⟩
 refine wpAny_bind (wpAny_holding (wpAny_bind (wpAny_isOneOf_keyiter (s:={ s with heap:=s.heap.update it (Obj.mapFields (·.setIfInBounds 1 (rawInt ((i:Int)+1)))) }) new.typeIs ?_)))
 exact(show wpAny _ _ (pure es[i].key) _ _ _ from wpAny_pure (wpAny_pure ⟨_,rfl,wpAny_pure (hQ _ new (Heap.SameBut.update ..))⟩))
theorem raw_end{it d:Addr}{i ep:Nat}{es:Array DictEntry}{Q:Option Value→Shared→Prop}(hh:A.handled=none)(hit:s.heap.IsKeyIter it d i es.size ep)(hm:RawD s.heap d es ep)(hi:es.size≤i)
  (hF:∀h',Heap.ExtBut it s.heap h'→Q none { s with heap:=h' }):wpAny (model prog w) A (pyNext (.ref it)) Q E s:=by
 have tyI:=hit.typeIs
 obtain⟨oi,hoi,hci,hdi⟩:=id hit
 obtain⟨od,hod,_,hdd⟩:=hm
 unfold pyNext
 refine wpAny_bind (wpAny_attempt (wpAny_callSpecial?_slot (name:=Str.ofString "__next__") tyI F.slot_dict_keyiterator_next (wpAny_call_entry F.slot_dict_keyiterator_next tyI F.entry_dict_keyiterator_next ?_ (F.args_dict_keyiterator_next_1 _))))
 refine wpAny_bind (wpAny_pure (wpAny_bind (wpAny_bind ?_)))
 first|refine wpAny_bind (wpAny_typeNameOfWhole_keyiter tyI (wpAny_pure ?_))|refine wpAny_bind (wpAny_typeNameOf_keyiter tyI (wpAny_pure ?_))
 refine wpAny_bind (wpAny_fieldsOf hoi hdi ?_)
 simp only [show Builtin.Dict_items.ownsTuple "dict_keyiterator"=false from by decide,Bool.false_eq_true,if_false]
 show wpAny _ _ (if (Value.ref d==.none)=true then _ else _) _ _ s
 have ne0:¬((Value.ref d==Value.none)=true):=fun z=>Bool.false_ne_true z
 rw [if_neg ne0]
 refine wpAny_bind (wpAny_pure (wpAny_bind (wpAny_dictEntries hod hdd ?_)))
 rw [if_neg (by simp)]
 refine wpAny_bind (wpAny_pure (wpAny_bind (wpAny_dictEpoch hod hdd ?_)))
 rw [if_neg (by simp)]
 refine wpAny_pure ?_
 simp only [show ¬((i:Int) < 0) from Int.not_lt.mpr (Int.natCast_nonneg i),if_false,Int.toNat_natCast,Array.getElem?_eq_none hi]
 refine wpAny_bind ?_
 first|refine wpAny_bind (wpAny_typeNameOfWhole_keyiter tyI (wpAny_pure ?_))|refine wpAny_bind (wpAny_typeNameOf_keyiter tyI (wpAny_pure ?_))
 refine(show wpAny _ _ (setField (.ref it) 0 .none >>= _) _ _ s from wpAny_bind (wpAny_setField hoi hdi (by simp) ?_))
 refine(show wpAny _ _ (newExc (.type "StopIteration") [] >>= _) _ _ _ from wpAny_bind ?_)
 simp only [newExc,newTuple]
 refine wpAny_bind (wpAny_newObj_type (dict:=none) ?_ (by size_fits))
 refine wpAny_bind (m:=firstArgMember _ _) (wpAny_of_eq (a:=Value.none) (by first|rfl|(simp only [firstArgMember];rfl)) (wpAny_newObj_type ?_ (by size_fits)))
 simp only [raiseNew]
 refine wpAny_bind (m:=_) (wpAny_handled ?_)
 rw [(show A.in1.handled=none from hh)]
 refine wpAny_bind (wpAny_pure (wpAny_throw (wpAny_bind ?_)))
 refine wpAny_isInstance (b:=true) (T:="StopIteration") ⟨_,Heap.get?_push_size _ rfl,rfl⟩ isSubtype_stop ?_
 exact wpAny_pure (hF _ (((Heap.SameBut.update ..).extBut.push _).push _))
theorem Walks.raw(hh:A.handled=none)(I d:Addr)(hne:d≠I)(es:Array DictEntry)(ep:Nat) :
  Walks prog w A I [I,d] [I] es.size (fun i v=>∃e,es[i]?=some e∧v=e.key) (fun i h=>h.IsKeyIter I d i es.size ep∧RawD h d es ep) where
 sub:=fun b hb=>List.mem_cons.mpr (.inl (List.mem_singleton.mp hb))
 frame:=fun _ _ _ st hk=>⟨st.1.at fun o e=>hk I List.mem_cons_self o e,st.2.at fun o e=>hk d (List.mem_cons_of_mem _ List.mem_cons_self) o e⟩
 item:=fun i s Q E hi st hQ=>raw_item st.1 st.2 hi fun h' new sb=>hQ _ h' s.toks ⟨es[i],Array.getElem?_eq_getElem hi,rfl⟩ ⟨new,st.2.at fun o e=>sb.extBut d o hne e⟩ fun b o hb e=>sb.extBut b o (fun z=>hb (List.mem_singleton.mpr z)) e
 done:=fun s Q E st hQ=>raw_end hh st.1 st.2 (Nat.le_refl _) fun h' eb=>hQ h' s.toks fun b o hb e=>eb b o (fun z=>hb (List.mem_singleton.mpr z)) e
 self:=fun _ _ _ _ st q=>wpAny_pyIter_keyiter st.1 q
theorem kdl_raw{d:Addr}{es:Array DictEntry}{ep:Nat}(lo:(d==sysModules)=false):PySem.W.KdlSrc prog w "dict" d d es.size (fun i v=>∃e,es[i]?=some e∧v=e.key) (fun h=>RawD h d es ep) where
 type:=fun _ hm=>let ⟨o,e,x,_⟩:=hm;⟨o,e,x.1⟩
 there:=fun _ hm=>⟨hm.lt,hm.lt⟩
 keep:=fun _ _ hm hk=>hm.at fun o e=>hk d (.inl rfl) o e
 notList:=by decide
 notTuple:=by decide
 hint:=fun _ _ _ _ hm hq=>PySem.W.kdl_hint_dict (let ⟨o,e,x,_⟩:=hm;⟨o,e,x.1⟩) hq
 iter:=fun _ _ hh hm=>⟨_,_,(fun _ _ hq=>raw_iter lo hm hq),Walks.raw hh _ d (Nat.ne_of_lt hm.lt) es ep,⟨⟨_,Heap.get?_push_size _ rfl,rfl,rfl⟩,hm.at fun o e=>Heap.get?_push_of_some _ e⟩⟩
end
end L2
namespace L2
open PySem PySem.Spec PyProof.Rows
section
variable{X:Cx}
end
end L2
namespace Kk
open PySem L2
inductive Kd where
 |num (n:Int)
 |name (q t:Str)
 |pair (a b:Kd)
 deriving DecidableEq
def Kd.words:Kd→Nat
 |.num _=>1
 |.name _ _=>1
 |.pair a b=>1+a.words+b.words
def Kd.leaves:Kd→List Kd
 |.num n=>[.num n]
 |.name q t=>[.name q t]
 |.pair a b=>a.leaves++b.leaves
def Kd.leaf:Kd→Bool
 |.pair _ _=>false
 |_=>true
theorem words_leaves:∀k:Kd,k.words+1=2*k.leaves.length
 |.num _=>rfl
 |.name _ _=>rfl
 |.pair a b=>by
  have h1:=words_leaves a
  have h2:=words_leaves b
  show 1+a.words+b.words+1=2*(a.leaves++b.leaves).length
  rw [List.length_append]
  omega
theorem leaves_pos:∀k:Kd,0 < k.leaves.length
 |.num _=>Nat.zero_lt_one
 |.name _ _=>Nat.zero_lt_one
 |.pair a b=>by
  have h1:=leaves_pos a
  show 0 < (a.leaves++b.leaves).length
  rw [List.length_append]
  omega
inductive KdAt (K:PySem.W.Frag) (H:Hp):V→Kd→Prop
 |num {a:Addr} {n:Int}:SqT K H a [.str "num",.int n]→KdAt K H (.ref a) (.num n)
 |name {a:Addr} {q t:Str}:SqT K H a [.str "name",.str q,.str t]→KdAt K H (.ref a) (.name q t)
 |pair {a:Addr} {x y:V} {k l:Kd}:SqT K H a [.str "pair",x,y]→KdAt K H x k→KdAt K H y l→KdAt K H (.ref a) (.pair k l)
theorem KdAt.same{K:PySem.W.Frag}{H H':Hp}(e:Same H H'):∀{x:V} {k:Kd},KdAt K H x k→KdAt K H' x k
 |_,_,.num h=>.num (e.tup h)
 |_,_,.name h=>.name (e.tup h)
 |_,_,.pair h a b=>.pair (e.tup h) (a.same e) (b.same e)
inductive KdsAt (K:PySem.W.Frag) (H:Hp):List V→List Kd→Prop
 |nil:KdsAt K H [] []
 |cons {x:V} {k:Kd} {xs:List V} {ks:List Kd}:KdAt K H x k→KdsAt K H xs ks→KdsAt K H (x::xs) (k::ks)
theorem KdsAt.same{K:PySem.W.Frag}{H H':Hp}(e:Same H H'):∀{xs:List V} {ks:List Kd},KdsAt K H xs ks→KdsAt K H' xs ks
 |_,_,.nil=>.nil
 |_,_,.cons a b=>.cons (a.same e) (b.same e)
theorem KdsAt.length{K:PySem.W.Frag}{H:Hp}:∀{xs:List V} {ks:List Kd},KdsAt K H xs ks→xs.length=ks.length
 |_,_,.nil=>rfl
 |_,_,.cons _ b=>congrArg (·+1) b.length
theorem KdsAt.append{K:PySem.W.Frag}{H:Hp}:∀{xs ys:List V} {ks ls:List Kd},KdsAt K H xs ks→KdsAt K H ys ls→KdsAt K H (xs++ys) (ks++ls)
 |_,_,_,_,.nil,h=>h
 |_,_,_,_,.cons a b,h=>.cons a (b.append h)
end Kk
namespace L2
open PySem PySem.Spec PyProof.Rows
section
variable{α β:Type}{P:Shared→Prop}
def Keeps(P:Shared→Prop)(t:Sem α):Prop:=∀(M:Model) (Γ:PySem.Ctx) (Q:α→Pos→Shared→Prop) (E:Value→Pos→Shared→Prop) (p:Pos) (s:Shared),P s→Sem.wp M Γ t Q E p s →
 Sem.wp M Γ t (fun a p' s'=>Q a p' s'∧P s') (fun e p' s'=>E e p' s'∧P s') p s
theorem Keeps.ret(a:α):Keeps P (Pure.pure a:Sem α):=fun _ _ _ _ _ _ h q=>⟨q,h⟩
theorem Keeps.no(x:String):Keeps P (unsupported x:Sem α):=fun _ _ _ _ _ _ _ q=>False.elim q
theorem Keeps.then{m:Sem α}{f:α→Sem β}(hm:Keeps P m)(hf:∀a,Keeps P (f a)):Keeps P (m >>= f):=fun M Γ Q E p s h q=>by
 rw [Sem.wp_bind'] at q ⊢
 exact Sem.wp_mono M Γ m (fun a p' s' z=>hf a M Γ Q E p' s' z.2 z.1) (fun _ _ _ z=>z) p s (hm M Γ _ E p s h q)
theorem Keeps.ld(a:Addr):Keeps P (load a):=fun _ _ _ _ _ _ h ⟨o,e,q⟩=>⟨o,e,q,h⟩
theorem Keeps.stk:Keeps P stack:=fun _ _ _ _ _ _ h q=>⟨q,h⟩
theorem Keeps.ite{c:Prop}[Decidable c]{a b:Sem α}(ha:Keeps P a)(hb:Keeps P b):Keeps P (if c then a else b):=by split<;>assumption
theorem Keeps.wpAny{t:Sem α}(k:Keeps P t){M:Model}{A:Around}{Q:α→Shared→Prop}{E:Value→Shared→Prop}{s:Shared}(hp:P s)(h:wpAny M A t Q E s):wpAny M A t (fun a s'=>Q a s'∧P s') (fun e s'=>E e s'∧P s') s :=
 fun Γ p hΓ=>k M Γ _ _ p s hp (h Γ p hΓ)
def DictIs(x:Addr)(d:Option Addr)(s:Shared):Prop:=∃ob,s.heap.get? x=some ob∧ob.dict=d
variable{x:Addr}{d:Option Addr}
theorem Keeps.up{a:Addr}{f:Obj→Obj}(hf:∀o:Obj,o.isFreed=false→(f o).dict=o.dict∧(f o).isFreed=false):Keeps (DictIs x d) (update a f):=fun _ _ _ _ _ s h q=>by
 refine⟨q.1,q.2,?_⟩
 obtain⟨ob,e,hd⟩:=h
 have hfr:=(Heap.get?_some_iff.mp e).2
 by_cases hx:a=x
 ·subst hx
  exact⟨_,Heap.get?_update_self f e (hf ob hfr).2,(hf ob hfr).1.trans hd⟩
 ·exact⟨ob,(Heap.get?_update_other _ f hx).trans e,hd⟩
theorem Keeps.new{o:Obj}:Keeps (DictIs x d) (alloc o):=fun _ _ _ _ _ s h q=>by
 obtain⟨ob,e,hd⟩:=h
 exact⟨q,ob,Heap.get?_push_of_some _ e,hd⟩
theorem Keeps.flds{v:Value}:Keeps P (fieldsOf v):=by
 unfold fieldsOf
 split
 ·refine Keeps.then (Keeps.ld _) fun o=>?_
  split
  ·exact Keeps.ret _
  ·exact Keeps.no _
 ·exact Keeps.no _
theorem Keeps.fld{v:Value}{i:Nat}:Keeps P (field v i):=by
 unfold field
 refine Keeps.then Keeps.flds fun vs=>?_
 split
 ·exact Keeps.ret _
 ·exact Keeps.no _
theorem Keeps.setF{v u:Value}{i:Nat}:Keeps (DictIs x d) (setField v i u):=by
 unfold setField
 split
 ·unfold updateField
  refine Keeps.then (Keeps.ld _) fun o=>?_
  split
  ·refine Keeps.ite (Keeps.up fun o ho=>?_) (Keeps.no _)
   obtain⟨c,dd,dt,sl⟩:=o
   cases dt<;>exact⟨rfl,ho⟩
  ·exact Keeps.no _
 ·exact Keeps.no _
theorem Keeps.flight{e:Value}{f:Option Addr}:Keeps (DictIs x d) (setFlight e f):=by
 unfold setFlight
 exact Keeps.then Keeps.fld fun tb=>Keeps.ite Keeps.setF (Keeps.ret _)
theorem Keeps.ready:∀l:List Env,Keeps (DictIs x d) (readyFrames l)
 |[]=>Keeps.ret _
 |env::outer=>by
  unfold readyFrames
  split
  ·refine Keeps.then (Keeps.ld _) fun o=>Keeps.ite (Keeps.ret _) (Keeps.then ?_ fun im=>Keeps.then ?_ fun bk=>Keeps.then (Keeps.up fun o ho=>⟨rfl,by obtain⟨c,dd,dt,sl⟩:=o;cases dt<;>first|rfl|exact ho⟩) fun _=>Keeps.ready outer)
   ·unfold behindIsImport
    exact Keeps.ite (Keeps.ret _) (Keeps.ite (Keeps.ret _) (Keeps.then Keeps.fld fun _=>Keeps.ret _))
   ·cases outer with
    |nil =>
     unfold keptBack
     refine Keeps.ite (Keeps.ret _) (Keeps.then ?_ fun _=>Keeps.ret _)
     unfold underTheClaimsCaller
     exact Keeps.then Keeps.stk fun _=>Keeps.ret _
    |cons c r=>exact Keeps.ret _
  ·exact Keeps.no _
theorem Keeps.frame{env:Env}:Keeps (DictIs x d) (PySem.frameOf env):=by
 unfold PySem.frameOf
 refine Keeps.then (Keeps.then Keeps.stk fun _=>Keeps.ret _) fun l=>Keeps.then ?_ fun r=>?_
 ·generalize l.dropWhile (fun y=>y.frame != env.frame)=l2
  cases l2 with
  |nil=>exact Keeps.ret _
  |cons e r=>exact Keeps.then (Keeps.ready (e::r)) fun _=>Keeps.ret _
 ·split
  ·exact Keeps.ret _
  ·exact Keeps.no _
theorem Keeps.entry{a b c e f:Value}{pl:List Value}:Keeps (DictIs x d) (EntryCells.newEntry a b c e f pl):=by
 unfold EntryCells.newEntry newFields newObj
 have st:∀(dt:Data) (dd:Option Addr),Keeps (DictIs x d) (newObjAsIs (.type "traceback") dt dd):=fun dt dd=>by
  unfold newObjAsIs
  exact Keeps.then Keeps.new fun a=>Keeps.ret _
 exact Keeps.ite (Keeps.then (Keeps.no _) fun _=>st _ _) (st _ _)
theorem Keeps.note{e:Value}{env:Env}:Keeps (DictIs x d) (noteFrame e env):=by
 unfold noteFrame
 split
 ·rename_i fr _
  refine Keeps.then Keeps.fld fun hd=>?_
  have go:Keeps (DictIs x d) (do setField e 1 (←EntryCells.newEntry hd (←PySem.frameOf env) .none (rawInt fr) .none (←entryPlaceOf fr (hd != .none)))) :=
   Keeps.then Keeps.frame fun _=>Keeps.then (by
    unfold entryPlaceOf
    refine Keeps.then Keeps.stk fun _=>?_
    split
    ·exact Keeps.ret _
    ·exact Keeps.ret _) fun _=>Keeps.then Keeps.entry fun _=>Keeps.setF
  exact Keeps.ite (Keeps.then Keeps.fld fun _=>Keeps.ite (Keeps.ret _) (Keeps.then Keeps.setF fun _=>go)) go
 ·exact Keeps.no _
theorem Keeps.leave{e:Value}{env:Env}:Keeps (DictIs x d) (leaving env e):=by
 unfold leaving
 exact Keeps.then Keeps.note fun _=>Keeps.flight
end
end L2
namespace L2
open PySem PySem.Spec PyProof.Rows
section
variable{P:Program}{w:World}
theorem ObjOk.there{H:Hp}{h:Heap}{a:Addr}{o:HO}(x:ObjOk P w H h a o):∃u,h.get? a=some u:=by
 cases o with
 |lst xs=>obtain⟨_,_,_,_,e⟩:=x;exact⟨_,e⟩
 |tup xs=>obtain⟨_,_,_,ob,e,_⟩:=x;exact⟨_,e⟩
 |dK kvs=>obtain⟨_,_,_,_,o,_,_,e,_⟩:=x;exact⟨_,e⟩
 |dT kvs=>obtain⟨_,_,_,_,o,_,_,e,_⟩:=x;exact⟨_,e⟩
 |set S n=>obtain⟨o,_,_,_,e,_⟩:=x;exact⟨_,e⟩
 |ins C dx fs=>obtain⟨_,_,_,e,_⟩:=x;exact⟨_,e⟩
 |own y=>exact x
 |xd fs=>obtain⟨_,⟨_,_,_,e,_⟩,_⟩:=x;exact⟨_,e⟩
 |rng lo hi=>obtain⟨_,_,_,e⟩:=x;exact⟨_,e⟩
 |frz ob u=>obtain⟨e,_⟩:=x;exact⟨_,e⟩
 |tbl ps=>obtain⟨_,e,_⟩:=x;exact⟨_,e⟩
 |cod q=>obtain⟨_,_,_,_,e0,e,_⟩:=x;cases e0;exact⟨_,e⟩
 |cel v=>obtain⟨_,_,_,e,_⟩:=x;exact⟨_,e⟩
 |fnc fd=>obtain⟨_,_,_,e⟩:=x;exact⟨_,e⟩
 |met f y=>exact⟨_,(show h.get? a=some _ from x)⟩
 |ext φ=>obtain⟨_,e,_⟩:=x;exact e
structure Fly(P:Program)(w:World)(outer:List Env)(H:Hp)(s:Shared)(x:Addr)(cls:Value)(H':Hp)(s':Shared):Prop where
 os:s'.os=s.os
 bare:AllBare s'.gens
 un:Un (frs outer) [] H H' s.heap s'.heap
 hok:HOk P w H' s'.heap
 fl:∃B a0,Heap.FlyingW B outer x cls a0 s'.heap∧(∀b o,H' b=some o→∃u,B.get? b=some u)∧∀b o,s.heap.get? b=some o→b∉frs outer→∃u,B.get? b=some u
 free:H' x=none
def CX1(P:Program)(w:World):CXT:=fun outer H s E e s'=>∃x cls d H',e=.ref x∧Fly P w outer H s x cls H' s'∧DictIs x d s'∧E cls d H'
end
section
variable{X:Cx}{pins:List (Addr × Obj)}{σ:St}{H H':Hp}{s s':Shared}{x:Addr}{cls:Value}{E:Value→Shared→Prop}{Q:Unit→Shared→Prop}
theorem Inv.notSt(I:Inv X pins σ H s){b:Addr}(h1:b≠X.env.locals)(h2:b∉X.fs):b∉frs X.stack:=fun z=>(List.mem_cons.mp (I.stkSub b z)).elim h1 h2
theorem Inv.oldL(I:Inv X pins σ H s){b:Addr}{o:Obj}(e:X.s₀.heap.get? b=some o):b≠X.env.locals:=Nat.ne_of_lt (Nat.lt_of_lt_of_le (Heap.lt_size e) I.ok.above)
theorem Fly.first{oe:Obj}{vs:Array Value}{a0:Value}(I:Inv X pins σ H s)(hst:X.stack=X.env::X.outer)(hfr:X.env.frame=some X.env.locals)(hex:X.ex=[])(hx:s.heap.get? x=some oe)(hcl:oe.cls=cls)(hdt:oe.data=.fields vs)
  (h1:vs[1]?=some .none) (h0:vs[0]?=some a0) (hn:X.s₀.heap.get? x=none) (hH:H x=none)
  (hQ:∀s'',Fly X.prog X.w X.outer X.H₀ X.s₀ x cls H s''→DictIs x oe.dict s''→Q () s''):wpAny (model X.prog X.w) X.A (leaving X.env (.ref x)) Q E s:=by
 have nx:∀b:Addr,b∉X.ex:=fun b=>by rw [hex];simp
 refine wpAny_mono (Keeps.leave.wpAny (E:=E) (Q:=fun _ s''=>Fly X.prog X.w X.outer X.H₀ X.s₀ x cls H s'') ⟨oe,hx,rfl⟩ ?_) (fun _ s'' z=>hQ s'' z.1 z.2) fun _ _ z=>z.1
 have hl:s.heap.FunFrames (PySem.W.hideAll s.heap (x::frs X.stack)) (X.env::X.outer) :=
  PySem.W.funFrames_hide (base:=X.base) (by rw [←hst];exact I.stack) fun env he a hf=>by
   rw [hst]
   exact .tail _ (List.mem_filterMap.mpr ⟨env,he,hf⟩)
 have hen:(PySem.W.hideAll s.heap (x::frs X.stack)).get? x=none:=PySem.W.hideAll_none _ (.head _)
 refine wpAny_leaving_firstW (a0:=a0) (by rw [I.ok.frames,hst]) hl hfr hx (fun b o q=>PySem.W.of_hideAll _ q) hen hdt h1 h0 fun h' hL=>?_
 obtain⟨k1,⟨_,_,k2⟩,k3,up⟩:=hL
 rw [hcl] at k3
 have st:∀b o,s.heap.get? b=some o→b∉frs X.stack→b≠x→h'.get? b=some o:=fun b o e hb hbx=>k1 b o (PySem.W.hideAll_get _ e fun z=>(List.mem_cons.mp z).elim hbx hb)
 have old:∀b o,X.s₀.heap.get? b=some o→b≠x:=fun b o e z=>by rw [z,hn] at e;cases e
 have slot:∀b o,X.s₀.heap.get? b=some o→X.H₀ b=none→b∈X.fs→∃sl,h'.get? b=some { o with slots:=sl }:=fun b o e n hb=>by
  obtain⟨sl,e1⟩:=I.base.slot b o e n hb (nx b)
  obtain⟨_,of,ho,hnf⟩:=I.ok.funs.mem hb
  rw [e] at ho
  cases ho
  obtain⟨sl3,e3⟩:=up b _ e1 hnf
  exact⟨sl3,e3⟩
 have trk:∀b o,H b=some o→b∉frs X.stack∧b≠x:=fun b o e=>⟨fun z=>(by rw [I.stkFree b z] at e;cases e),fun z=>(by rw [z,hH] at e;cases e)⟩
 refine⟨I.os,I.bare,⟨fun b o e n hb _=>st b o (I.base.keep b o e n hb (nx b)) (I.notSt (I.oldL e) hb) (old b o e),fun b o e n hb _=>slot b o e n hb,fun b o e n _=>I.base.free b o e n (nx b),fun b o e _=>?_,I.base.tups,I.base.frzs,I.base.tbls⟩,fun a o e=>?_,⟨_,_,⟨k1,hen,k2,k3⟩,fun b o e=>?_,fun b o e hb=>?_⟩,hH⟩
 ·by_cases hb:b∈X.fs
  ·obtain⟨sl,e1⟩:=slot b o e (I.ok.frf b hb) hb
   exact⟨_,e1⟩
  ·obtain⟨o',e1⟩:=I.base.there b o e (nx b)
   exact⟨o',st b o' e1 (I.notSt (I.oldL e) hb) (old b o e)⟩
 ·refine(I.hok a o e).stay (fun b u hb q=>?_) (fun _ q=>q) fun _ _ q=>q
  have hb':∃o',H b=some o':=by
   rcases hb with z|z
   ·exact⟨o,by rw [z];exact e⟩
   ·exact⟨_,z⟩
  obtain⟨o',e'⟩:=hb'
  exact st b u q (trk b o' e').1 (trk b o' e').2
 ·obtain⟨u,hu⟩:=(I.hok b o e).there
  exact⟨u,PySem.W.hideAll_get _ hu fun z=>(List.mem_cons.mp z).elim (trk b o e).2 (trk b o e).1⟩
 ·obtain⟨o',e1⟩:=I.base.there b o e (nx b)
  exact⟨o',PySem.W.hideAll_get _ e1 fun z=>(List.mem_cons.mp z).elim (old b o e) (I.notSt (I.oldL e) hb)⟩
end
section
variable{P:Program}{w:World}{K:PySem.W.Frag}{mg:Str→Option Value}{base:Heap}{N:List Str}{qual:Str}{scope:Scope}{f:Addr}{cd:Value}{A:Around}{outer:List Env}{s:Shared}{H:Hp}{E:XK}
end
abbrev bmVE:List Value:=[.type "ValueError",.type "Exception",.type "BaseException",.type "object"]
section
variable{P:Program}{w:World}{K:PySem.W.Frag}{mg:Str→Option Value}{base:Heap}
end
end L2
namespace L2
open PySem PySem.Spec PyProof.Rows
section
variable{X:Cx}{pins:List (Addr × Obj)}{σ:St}{H H':Hp}{s s':Shared}{x:Addr}{cls:Value}
theorem Fly.on{h':Heap}(f:Fly X.prog X.w X.stack H s x cls H' s')(I:Inv X pins σ H s){B:Heap}{a0 a1:Value}(fl:Heap.FlyingW B X.stack x cls a0 s'.heap)(c1:∀b o,H' b=some o→∃u,B.get? b=some u)
  (c2:∀b o,s.heap.get? b=some o→b∉frs X.stack→∃u,B.get? b=some u) (fl':Heap.FlyingW B X.stack x cls a1 h') (up:s'.heap.UpToSlots h'):Fly X.prog X.w X.stack H s x cls H' { s' with heap:=h' }:=by
 have st:∀b o,B.get? b=some o→h'.get? b=some o:=fl'.1
 have same:∀b u v,B.get? b=some u→s'.heap.get? b=some v→u=v:=fun b u v h1 h2=>by
  have h3:=fl.1 b u h1
  rw [h2] at h3
  exact(Option.some.inj h3).symm
 have slot:∀b o,s.heap.get? b=some o→H b=none→b∈frs X.stack→∃sl,h'.get? b=some { o with slots:=sl }:=fun b o e n hb=>by
  obtain⟨sl2,e2⟩:=f.un.any e n (by simp)
  obtain⟨_,of,ho,hnf⟩:=I.stack.mem hb
  rw [e] at ho
  cases ho
  obtain⟨sl3,e3⟩:=up b _ e2 hnf
  exact⟨sl3,e3⟩
 refine⟨f.os,f.bare,⟨fun b o e n hb _=>?_,fun b o e n hb _=>slot b o e n hb,f.un.free,fun b o e _=>?_,f.un.tups,f.un.frzs,f.un.tbls⟩,fun a o e=>?_,⟨B,a1,fl',c1,c2⟩,f.free⟩
 ·have e2:=f.un.keep b o e n hb (by simp)
  obtain⟨u,hu⟩:=c2 b o e hb
  exact same b u o hu e2▸st b u hu
 ·by_cases hb:b∈frs X.stack
  ·obtain⟨sl,e1⟩:=slot b o e (I.stkFree b hb) hb
   exact⟨_,e1⟩
  ·obtain⟨u,hu⟩:=c2 b o e hb
   exact⟨u,st b u hu⟩
 ·refine(f.hok a o e).stay (fun b u hb q=>?_) (fun _ q=>q) fun _ _ q=>q
  have t:∃o',H' b=some o':=by
   rcases hb with z|z
   ·exact⟨o,by rw [z];exact e⟩
   ·exact⟨_,z⟩
  obtain⟨o',e'⟩:=t
  obtain⟨v,hv⟩:=c1 b o' e'
  exact same b v u hv q▸st b v hv
theorem Fly.inv(f:Fly X.prog X.w X.stack H s x cls H' s')(I:Inv X pins σ H s):Inv X pins σ H' s':=I.call' (ch:=[]) f.os f.un f.hok f.bare fun b z=>absurd z (by simp)
theorem Fly.there(f:Fly X.prog X.w X.stack H s x cls H' s'):∃ob,s'.heap.get? x=some ob∧ob.cls=cls:=by
 obtain⟨B,a0,fl,_⟩:=f.fl
 exact fl.there
theorem Fly.again{A:Around}{E:Value→Shared→Prop}{Q:Unit→Shared→Prop}(f:Fly X.prog X.w X.stack H s x cls H' s')(I:Inv X pins σ H s){d:Option Addr}(hdi:DictIs x d s')(hQ:∀s'',Fly X.prog X.w X.stack H s x cls H' s''→DictIs x d s''→Q () s'') :
  wpAny (model X.prog X.w) A (setFlight (.ref x) none) Q E s':=by
 refine wpAny_mono (Keeps.flight.wpAny (E:=E) (Q:=fun _ s''=>Fly X.prog X.w X.stack H s x cls H' s'') hdi ?_) (fun _ s'' z=>hQ s'' z.1 z.2) fun _ _ z=>z.1
 obtain⟨B,a0,fl,c1,c2⟩:=f.fl
 exact lands_againW fl fun h' fl' up=>f.on I fl c1 c2 fl' up
theorem Fly.look{E E2:Value→Shared→Prop}{Q:Unit→Shared→Prop}(f:Fly X.prog X.w X.stack H s x cls H' s')(I:Inv X pins σ H s)(hst:X.stack=X.env::X.outer)(hfr:X.env.frame=some X.env.locals){d:Option Addr}(hdi:DictIs x d s')
  (hQ:∀s'',Fly X.prog X.w X.stack H s x cls H' s''→DictIs x d s''→Q () s''):wpAny (model X.prog X.w) X.A (noteFrame (.ref x) X.env) (fun _ s2=>wpAny (model X.prog X.w) X.A (setFlight (.ref x) none) Q E2 s2) E s':=by
 obtain⟨B,a0,fl,c1,c2⟩:=f.fl
 have fl0:=fl
 rw [hst] at fl
 refine wpAny_mono (Keeps.note.wpAny (E:=E) (Q:=fun _ s2=>wpAny (model X.prog X.w) X.A (setFlight (.ref x) none) (fun _ s''=>Fly X.prog X.w X.stack H s x cls H' s'') E2 s2) hdi ?_) (fun _ s2 z=>?_) fun _ _ z=>z.1
 ·refine wpAny_looks_onW (by rw [I.ok.frames,hst]) hfr fl fun h' hd up=>?_
  refine wpAny_landsW hd fun h2 fl2 up2=>?_
  rw [←hst] at fl2
  exact f.on I fl0 c1 c2 fl2 (up.trans up2)
 ·exact wpAny_mono (Keeps.flight.wpAny z.2 z.1) (fun _ s'' y=>hQ s'' y.1 y.2) fun _ _ y=>y.1
end
abbrev Cx.inE(X:Cx)(e:Addr):Cx:={ X with A:=X.A.mark (some (.ref e)),calm:=false }
section
variable{X:Cx}{pins:List (Addr × Obj)}{σ:St}{H:Hp}{s:Shared}
theorem Cx.Ok.inE{e:Addr}(ok:X.Ok):(X.inE e).Ok:=⟨ok.mod,ok.kind,ok.glob,ok.blt,ok.above,ok.inj,ok.has,ok.cab,fun z=>absurd z (by simp),ok.frames,ok.stk,ok.exf,ok.bs,ok.bsz,ok.noex,ok.exfs,ok.funs,ok.frf⟩
theorem Inv.inE{e:Addr}(I:Inv X pins σ H s):Inv (X.inE e) pins σ H s:=⟨I.ok.inE,I.os,I.bare,I.base,I.loc,I.cell,I.free,I.freeC,I.pin,I.hok,I.len⟩
theorem Inv.outE{e:Addr}{E:Value→Shared→Prop}(ok:X.Ok)(I:Inv ((X.inE e).wish E) pins σ H s):Inv X pins σ H s:=⟨ok,I.os,I.bare,I.base,I.loc,I.cell,I.free,I.freeC,I.pin,I.hok,I.len⟩
theorem SP.outE{e:Addr}{E:Value→Shared→Prop}{D:Ends}{f:Flow}{s':Shared}(ok:X.Ok)(h:SP ((X.inE e).wish E) pins D f s'):SP X pins D f s':=by
 cases f with
 |next=>obtain⟨σ',H',I,q⟩:=h;exact⟨σ',H',I.outE ok,q⟩
 |brk=>obtain⟨σ',H',I,q⟩:=h;exact⟨σ',H',I.outE ok,q⟩
 |cont=>obtain⟨σ',H',I,q⟩:=h;exact⟨σ',H',I.outE ok,q⟩
 |ret u=>obtain⟨v,σ',H',I,r,q⟩:=h;exact⟨v,σ',H',I.outE ok,r,q⟩
end
abbrev TH:=Ends→Value→Option Addr→Addr→St→Hp→Prop
def PH(X:Cx)(hs:List ExceptHandler)(t:TH):Prop :=
 ∀(pins:List (Addr × Obj)) (σ:St) (H H':Hp) (s s':Shared) (D:Ends) (cls:Value) (d:Option Addr) (e:Addr),Inv X pins σ H s→Fly X.prog X.w X.stack H s e cls H' s'→DictIs e d s'→t D cls d e σ H' →
  wpAny (model X.prog X.w) X.A (handleBy (.ref e) X.env hs) (SP X pins D) X.xe s'
theorem ph_nil{X:Cx}:PH X [] (fun _ _ _ _ _ _=>False):=fun _ _ _ _ _ _ _ _ _ _ _ _ _ h=>h.elim
theorem ph_cons{X:Cx}{d:Str}{vd:Value}{np pos:Pos}{b₀:Stmt}{suite:List Stmt}{rest:List ExceptHandler}{th:TS}{tr:TH}(hg:Gl X d)(hm:X.mg d=some vd)(hb:∀e,PSs (X.inE e).nox (b₀::suite) th)(hr:PH X rest tr)
  (hd:(d==("__debug__":Str))=false:=by decide) :
  PH X (.ExceptHandler (some (.Name d np)) none (b₀::suite) pos::rest) (fun D cls dd e σ H=>∃b,PySem.W.exmOne X.K cls vd=some b∧if b=true then th D σ H else tr D cls dd e σ H):=by
 intro pins σ H H' s s' D cls dd e I f hdi h
 obtain⟨b,hx,h⟩:=h
 have I1:=f.inv I
 obtain⟨ob,hob,hcl⟩:=f.there
 have LT:PySem.W.Looks (model X.prog X.w) s'.heap (typeOf (.ref e)) cls:=by
  rw [←hcl]
  exact(PySem.W.Looks.ld hob).andThen .now
 refine wpAny_handleBy_cons (codeAny_handlers_test (Calls.Name_function_global I1.ok.kind hg (Calls.loadGlobal_global (by rw [I1.ok.glob];exact I1.mod.glob.keeps I1.bk) hm ?_) hd)) (by intro q;cases q)
 refine(PySem.W.exm_one I1.kIn LT hx).here ?_
 cases b with
 |false=>exact hr pins σ H H' s s' D cls dd e I f hdi h
 |true =>
  refine codeAny_handlers_suite (f.again I hdi fun s2 f2 _=>?_)
  have I2:=(f2.inv I).inE (e:=e)
  exact wpAny_mono (hb e pins s2 σ H' D (I2.wish _) h) (fun fl s3 q=>SP.outE I1.ok q) fun _ _ z=>False.elim z
def etry(X:Cx)(hs:List ExceptHandler)(pins:List (Addr × Obj))(D:Ends):Value→Shared→Prop:=fun e s1 =>
 wpAny (model X.prog X.w) X.A (noteFrame e X.env) (fun _ s2=>wpAny (model X.prog X.w) X.A (setFlight e none) (fun _ s3=>wpAny (model X.prog X.w) X.A (handleBy e X.env hs) (SP X pins D) X.xe s3) X.xe s2) X.xe s1
abbrev Cx.tryIn(X:Cx)(hs:List ExceptHandler)(pins:List (Addr × Obj))(D:Ends):Cx:={ X with pn:=X.pn++pins,xe:=etry X hs pins D }
section
variable{X:Cx}{hs:List ExceptHandler}{pins pins':List (Addr × Obj)}{D D':Ends}{σ:St}{H:Hp}{s:Shared}
theorem Cx.Ok.tryIn(ok:X.Ok):(X.tryIn hs pins D).Ok:=⟨ok.mod,ok.kind,ok.glob,ok.blt,ok.above,ok.inj,ok.has,ok.cab,ok.hd,ok.frames,ok.stk,ok.exf,ok.bs,ok.bsz,ok.noex,ok.exfs,ok.funs,ok.frf⟩
theorem Cx.Ok.tryOut(ok:(X.tryIn hs pins D).Ok):X.Ok:=⟨ok.mod,ok.kind,ok.glob,ok.blt,ok.above,ok.inj,ok.has,ok.cab,ok.hd,ok.frames,ok.stk,ok.exf,ok.bs,ok.bsz,ok.noex,ok.exfs,ok.funs,ok.frf⟩
theorem Inv.tryIn(I:Inv X pins σ H s):Inv (X.tryIn hs pins D) [] σ H s:=⟨I.ok.tryIn,I.os,I.bare,I.base,I.loc,I.cell,I.free,I.freeC,fun p hp=>I.pin p (by simpa using hp),I.hok,I.len⟩
theorem Inv.tryOut(I:Inv (X.tryIn hs pins D) pins' σ H s):Inv X pins σ H s:=⟨I.ok.tryOut,I.os,I.bare,I.base,I.loc,I.cell,I.free,I.freeC,fun p hp=>I.pin p (List.mem_append_left _ hp),I.hok,I.len⟩
theorem SP.tryOut{f:Flow}{s':Shared}(h:SP (X.tryIn hs pins D') [] D f s'):SP X pins D f s':=by
 cases f with
 |next=>obtain⟨σ',H',I,q⟩:=h;exact⟨σ',H',I.tryOut,q⟩
 |brk=>obtain⟨σ',H',I,q⟩:=h;exact⟨σ',H',I.tryOut,q⟩
 |cont=>obtain⟨σ',H',I,q⟩:=h;exact⟨σ',H',I.tryOut,q⟩
 |ret u=>obtain⟨v,σ',H',I,r,q⟩:=h;exact⟨v,σ',H',I.tryOut,r,q⟩
end
theorem ps_try{X:Cx}{body:List Stmt}{h₀:ExceptHandler}{hs:List ExceptHandler}{pos:Pos}{tb:Ends→TS}(hb:∀pins D,PSs (X.tryIn (h₀::hs) pins D) body (tb D)):PS X (.Try body (h₀::hs) [] [] pos) (fun D σ H=>tb D D σ H):=by
 intro pins s σ H D I h
 refine wpAny_Try_except (wpAny_mono (hb pins D [] s σ H D I.tryIn h) (fun f s1 q=>?_) fun _ _ z=>z)
 have q':=SP.tryOut q
 cases f with
 |next=>exact wpAny_execs_nil q'
 |brk=>exact q'
 |cont=>exact q'
 |ret u=>exact q'
theorem passT{X:Cx}{hs:List ExceptHandler}{pins:List (Addr × Obj)}{D:Ends}{th:TH}(hst:X.stack=X.env::X.outer)(hfr:X.env.frame=some X.env.locals)(hh:PH X hs th) :
  ∀(pins':List (Addr × Obj)) (σ:St) (H:Hp) (s:Shared) (e:Value) (s':Shared),Inv (X.tryIn hs pins D) pins' σ H s→CX1 X.prog X.w X.stack H s (fun cls d H'=>∀x,H' x=none→th D cls d x σ H') e s'→(X.tryIn hs pins D).xe e s':=by
 intro pins' σ H s e s' I h
 obtain⟨x,cls,d,H',rfl,f,hdi,hE⟩:=h
 have I0:Inv X pins σ H s:=I.tryOut
 exact Fly.look f I0 hst hfr hdi fun s'' f2 d2=>hh pins σ H H' s s'' D cls d x I0 f2 d2 (hE x f.free)
section
variable{X:Cx}{CX:CXT}{k:Nat}{f C:Addr}{fd:FuncData}{ps:List Str}{sp:Sp}{dvs:List V}{ds:List Value}{E:St→XK}{x m:Str}{p pos apos:Pos}{e o:Expr}{es:List Expr}{ta:TE}{t:TA}
theorem pe_callE(F:FnOk X.prog X.w X.K X.mg X.base CX k f fd ps sp)(hr:Room k X.A)(hg:Gl X x)(hm:X.mg x=some (.ref f))(hk:PySem.W.keepIn X.K (.ref f)=true)(hb:Binds X.K fd ps ds)(hd:Vals dvs ds)
  (hx:∀(pins:List (Addr × Obj)) (σ:St) (H:Hp) (s:Shared) (e:Value) (s':Shared),Inv X pins σ H s→CX X.stack H s (E σ) e s'→X.xe e s') (ha:PA X (e::es) t)
  (hdb:(x==("__debug__":Str))=false:=by decide) (he:starEach (e::es) X.env=(false,eval e X.env)::starEach es X.env:=by rfl) (hpl:(backTo pos (starEach es X.env)).any (·.1)=false:=by rfl) :
  PE X (.Call (.Name x p) (e::es) [] pos) (fun σ H Q=>t σ H fun vs H1=>sp (vs++dvs) H1 Q (E σ)):=by
 intro pins s σ H Q I h
 refine wpAny_Call_Name_kw (ld_glob I hg hm ?_ hdb)
 refine PySem.W.callWith_K (h₀:=X.base) I.ok.mod.kin hk (thn (ha pos pins s σ H _ I h) fun us s1 ⟨vs,H1,I1,r,q⟩=>⟨I1.kIn,?_⟩) he hpl
 have r2:Vals (vs++dvs) (us++ds):=r.append hd
 have hl:(us++ds).length=ps.length:=by rw [←r2.length];exact F.len _ _ _ _ q
 refine wpAny_call (codeAny_mono (F.run X.A X.stack s1 H1 ⟨us,[]⟩ (us++ds) (vs++dvs) Q (E σ) hr I1.env0 (hb s1 us I1.kIn hl) r2 q) fun r s' hq=>?_)
 cases r with
 |error e=>exact hx pins σ H1 s1 e s' I1 hq
 |ok fl =>
  cases fl with
  |ret u=>exact I1.after hq
  |next=>exact False.elim hq
  |brk=>exact False.elim hq
  |cont=>exact False.elim hq
end
end L2
namespace L2
open PySem PySem.Spec PyProof.Rows
section
variable{X:Cx}{pos:Pos}{e:Expr}{es:List Expr}{te:TE}
abbrev TJ:=St→Hp→(Hp→Prop)→Prop
def PJ(X:Cx)(es:List Expr)(t:TJ):Prop :=
 ∀(pins:List (Addr × Obj)) (s:Shared) (σ:St) (H:Hp) (acc:Str) (Z:Hp→Prop),acc.length+2000000*es.length≤sizeLine→Inv X pins σ H s→t σ H Z →
  Joins (model X.prog X.w) X.A X.xe (evalEach es X.env) acc (fun out s1=>out.length≤sizeLine∧∃H1,Inv X pins σ H1 s1∧Z H1) s
theorem pj_nil:PJ X [] (fun _ H Z=>Z H):=fun _ _ _ H _ _ hz I h=>⟨Nat.le_trans (Nat.le_add_right _ _) hz,H,I,h⟩
theorem pj_cons{tj:TJ}(he:PE X e te)(hr:PJ X es tj):PJ X (e::es) (fun σ H Z=>te σ H fun v H1=>∃y:Str,v=.str y∧y.length≤2000000∧tj σ H1 Z):=by
 intro pins s σ H acc Z hz I h
 refine thn (he pins s σ H _ I h) fun u s1 ⟨v,H1,I1,r,y,hv,hy,q⟩=>?_
 subst hv
 obtain⟨t,rfl⟩:=r
 have e1:(acc++y).length=acc.length+y.length:=by
  show Array.size (acc.cps++y.cps)=_
  rw [Array.size_append]
  rfl
 have e2:(e::es).length=es.length+1:=rfl
 rw [e2] at hz
 refine⟨y,t,rfl,by omega,hr pins s1 σ H1 (acc++y) Z (by omega) I1 q⟩
theorem pe_fstr{v1 v2:Expr}{rest:List Expr}{tj:TJ}(hj:PJ X (v1::v2::rest) tj)(hl:(v1::v2::rest).length≤8) :
  PE X (.JoinedStr (v1::v2::rest) pos) (fun σ H Q=>tj σ H fun H1=>∀z:Str,z.length≤sizeLine→Q (.str z) H1):=by
 intro pins s σ H Q I h
 have hz:Str.empty.length+2000000*(v1::v2::rest).length≤sizeLine:=by
  have e0:Str.empty.length=0:=rfl
  rw [sizeLine_eq,e0]
  rw [Nat.zero_add]
  exact Nat.le_trans (Nat.mul_le_mul_left _ hl) (Nat.le_of_ble_eq_true rfl)
 refine wpAny_JoinedStr ?_
 have j:=hj pins s σ H Str.empty _ hz I h
 exact joins_mono _ _ (fun out s1 ⟨h1,H1,I1,q⟩=>⟨h1,.str out,H1,I1.tok _,⟨_,rfl⟩,q out h1⟩) _ j
where joins_mono {M:Model} {A:Around} {E:Value→Shared→Prop}:∀(parts:List (Sem Value)) (acc:Str) {Q Q':Str→Shared→Prop},(∀out s,Q out s→Q' out s)→∀s,Joins M A E parts acc Q s→Joins M A E parts acc Q' s
 |[],acc,_,_,hq,s,h=>hq _ _ h
 |x::rest,acc,_,_,hq,s,h=>thn (show wpAny _ _ _ _ _ _ from h) fun v s1 ⟨y,t,e1,e2,e3⟩=>⟨y,t,e1,e2,joins_mono rest (acc++y) hq s1 e3⟩
end
end L2
namespace L2
open PySem PySem.Spec PyProof.Rows
section
variable{prog:Program}{w:World}{A:Around}{s:Shared}{E:Value→Shared→Prop}{K:Type}[DecidableEq K]{knd:KeyKind prog w K}
theorem setdef_pairs{d:Addr}{kvs:List (K × Value)}{k:K}{key dflt:Value}{Q:Value→Shared→Prop}(hkey:knd.is k key=true)(hm:s.heap.DictOf knd d kvs)(hz:kvs.length≤sizeLine)
  (h1:∀old,valueAt kvs k=some old→Q old { s with toks:=s.toks+1 })
  (h2:valueAt kvs k=none→∀h',h'.DictOf knd d (kvs++[(k,dflt)])→Heap.SameBut d s.heap h'→Q dflt { s with heap:=h',toks:=s.toks+1 }):wpAny (model prog w) A (dictSetDefault d key dflt) Q E s:=by
 obtain⟨ob,es,ep,hob,hex,hdt,hks,hpr,hnd⟩:=hm
 have hes:es.size≤sizeLine:=by
  have z1:=hpr.length
  have z2:es.toList.length=es.size:=by simp
  omega
 have hval:findBy knd.is es k=valueAt kvs k:=by
  rw [←hpr.find k]
  clear hes hpr hks hdt hob
  obtain⟨l⟩:=es
  simp [findBy]
 unfold dictSetDefault
 try with_reducible refine wpAny_holding ?_
 refine wpAny_bind (knd.pyHash hkey (wpAny_bind (wpAny_dictFind_of (s:={ s with toks:=s.toks+1 }) hkey hob hdt hks ?_)))
 cases hi:es.findIdx? (fun en=>knd.is k en.key) with
 |some i =>
  obtain⟨hlt,_,_⟩:=Array.findIdx?_eq_some_iff_getElem.mp hi
  refine wpAny_bind (wpAny_dictEntries (s:={ s with toks:=s.toks+1 }) hob hdt ?_)
  rw [Array.getElem?_eq_getElem (h:=hlt)]
  refine wpAny_bind (wpAny_rule (wpAny_pure (h1 _ ?_)))
  rw [←hval,findBy_of_findIdx?,hi]
  show(es[i]?).map (·.val)=_
  rw [Array.getElem?_eq_getElem hlt]<;>rfl
 |none =>
  have hno:valueAt kvs k=none:=by rw [←hval,findBy_of_findIdx?,hi]<;>rfl
  have hidx:(kvs.findIdx? fun kv=>decide (kv.1=k))=none:=by
   rw [←hpr.findIdx k]
   clear hes hpr hks hdt hob hval
   obtain⟨l⟩:=es
   simpa using hi
  have hnk:k∉kvs.map (·.1):=not_mem_of_findIdx_none hidx
  refine wpAny_bind (wpAny_rule (wpAny_bind (wpAny_updateDictKeys (hz:=hes) (s:={ s with toks:=s.toks+1 }) hob hdt (wpAny_pure (h2 hno _ ?_ (Heap.SameBut.update ..))))))
  refine⟨_,_,ep+1,Heap.get?_update_self _ hob (Obj.isFreed_of_dict (Obj.data_mapDictKeys hdt _)),hex.mapDictKeys _,Obj.data_mapDictKeys hdt _,hks.push hkey _,?_,?_⟩
  ·have z:=hpr.append hkey (knd.hash k) dflt
   clear hes hks hdt hob hval hi
   obtain⟨l⟩:=es
   simpa using z
  ·rw [List.map_append]
   refine List.nodup_append.mpr ⟨hnd,by simp,fun a ha b hb=>?_⟩
   have eb:b=k:=by simpa using hb
   rw [eb]
   exact fun e=>hnk (e▸ha)
end
section
variable{X:Cx}
theorem valV_nodup{kvs:List (Key × V)}(hn:(kvs.map (·.1)).Nodup):∀p∈kvs,valV kvs p.1=some p.2:=by
 intro p hp
 induction kvs with
 |nil=>cases hp
 |cons q r ih =>
  have hn:=List.nodup_cons.mp (List.map_cons▸hn)
  unfold valV
  rw [List.find?_cons]
  by_cases e:q.1=p.1
  ·have eq:q=p:=by
    rcases List.mem_cons.mp hp with z|z
    ·exact z.symm
    ·exact absurd (List.mem_map.mpr ⟨p,z,e.symm⟩) hn.1
   rw [decide_eq_true e,eq]<;>rfl
  ·rw [decide_eq_false e]
   have hp':p∈r:=(List.mem_cons.mp hp).resolve_left fun z=>e (by rw [z])
   exact ih hn.2 hp'
theorem call_dict_dK:CallR X (.type "dict") (fun xs H Q=>∃a kvs,xs=[.ref a]∧H a=some (.dK kvs)∧∀l,H l=none→Q (.ref l) (upd H l (.dK kvs))):=by
 intro pins s σ H xs us Q I r h
 obtain⟨a,kvs,rfl,ha,q⟩:=h
 obtain⟨u,rfl,ru⟩:=vals1 r
 cases ru
 obtain⟨z,hd,vs,rel,dd⟩:=dk_of I.hok ha
 refine PySem.kt_call_dict hd dd (by rw [←rel.length];exact z) fun h' dd' hs=>?_
 have keep:∀b o,s.heap.get? b=some o→h'.get? b=some o:=fun b o e=>(hs.2 b (Nat.ne_of_lt (Heap.lt_size e))).trans (Heap.get?_push_of_some _ e)
 refine⟨.ref s.heap.objs.size,_,I.laid (o:=.dK kvs) (t':=s.toks) keep (Nat.le_refl _) ⟨z,beq_eq_false_iff_ne.mpr (Ne.symm (Nat.ne_of_lt I.big)),vs,rel,dd'⟩,rfl,q _ (I.hok.fresh (Nat.le_refl _))⟩
theorem dK_nodup{pins:List (Addr × Obj)}{σ:St}{H:Hp}{s:Shared}{a:Addr}{kvs:List (Key × V)}(I:Inv X pins σ H s)(e:H a=some (.dK kvs)):(kvs.map (·.1)).Nodup:=by
 obtain⟨_,_,vs,rel,dd⟩:=dk_of I.hok e
 obtain⟨_,_,_,_,_,_,_,_,hn⟩:=dd
 have ek:∀{l:List (Key × V)} {m:List (Key × Value)},KV l m→l.map (·.1)=m.map (·.1):=fun {l m} p=>by
  unfold KV at p
  induction p with
  |nil=>rfl
  |cons h _ ih=>rw [List.map_cons,List.map_cons,ih,h.1]
 rw [ek rel]
 exact hn
def tDSetd(td ty tx:TE):TE:=fun σ H Q=>td σ H fun x H1=>∃a,x=.ref a∧IsD H1 a∧ty σ H1 fun y H2=>tx σ H2 fun z H3=>∃kvs k,H3 a=some (.dK kvs)∧y=kV k∧kvs.length < sizeLine ∧
 ((∃v,valV kvs k=some v∧Q v H3)∨(valV kvs k=none∧Q z (upd H3 a (.dK (putK kvs k z)))))
theorem pe_dsetd{o e f:Expr}{apos cpos:Pos}{td ty tx:TE}(ho:PE X o td)(he:PE X e ty)(hf:PE X f tx) (m:M2 X o "setdefault" apos e f cpos):PE X (.Call (.Attribute o "setdefault" apos) [e,f] [] cpos) (tDSetd td ty tx):=by
 intro pins s σ H Q I h
 refine wpAny_Call_method m.base m.few m.line PySem.F.plainAttrs_dict PySem.F.slot_dict_setdefault PySem.F.type_dict_setdefault (thn (ho pins s σ H _ I h) fun u s1 ⟨x,H1,I1,rx,a,ex,d,q1⟩=>?_)
 subst ex
 obtain rfl:u=Value.ref a:=rx
 obtain⟨t1,t2,_⟩:=isD_at I1 d
 refine⟨t1,t2,?_⟩
 rw [m.trees]
 refine Calls.callWith_builtin rfl (Calls.evalArgs_plain (Calls.spliced_cons (thn (he pins s1 σ H1 _ I1 q1) fun iv s2 ⟨y,H2,I2,ry,q2⟩ =>
  Calls.spliced_cons (thn (hf pins s2 σ H2 _ I2 q2) fun fv s3 ⟨z,H3,I3,rz,kvs,k,ea,ey,hz,q3⟩=>Calls.spliced_nil ?_))))
 subst ey
 obtain⟨hzl,hd,vs,rel,dd⟩:=dk_of I3.hok ea
 refine wpAny_call (codeAny_call_builtin PySem.F.slot_dict_setdefault.plain PySem.F.entry_dict_setdefault (PySem.F.slot_dict_setdefault.check _ _ _ _ _ _ _ _ dd.typeIs (PySem.F.args_dict_setdefault_3 _ _ _) ?_))
 unfold Builtin.«dict.setdefault» Builtin.Dict.keyAndDefault
 refine wpAny_bind ?_
 refine wpAny_bind (wpAny_notOrdered_dict dd.typeIs ?_)
 show wpAny _ _ (pure (a,iv,some fv)) _ _ s3
 refine wpAny_pure ?_
 show wpAny _ _ (if (a==sysModules)=true then _ else (dictSetDefault a iv fv >>= _)) _ _ s3
 rw [if_neg (by rw [hd];exact Bool.false_ne_true)]
 refine wpAny_bind (setdef_pairs (kV_is ry) dd (by rw [←rel.length];exact hzl) (fun v hv=>wpAny_pure ?_) fun hn h' dd' hs=>wpAny_pure ?_)
 ·rcases q3 with ⟨v',hv',q⟩|⟨hv',_⟩
  ·obtain⟨w',hw,rw'⟩:=RelO.some_of (v:=v') (o:=valueAt vs k) (by rw [←hv'];exact rel.val k)
   rw [hw] at hv
   cases hv
   exact⟨v',H3,I3.tok _,rw',q⟩
  ·have z:=rel.val k
   rw [hv',hv] at z
   exact absurd z (by intro z;cases z)
 ·rcases q3 with ⟨v',hv',_⟩|⟨hv',q⟩
  ·have z:=rel.val k
   rw [hv',hn] at z
   exact absurd z (by intro z;cases z)
  ·have hl:(putK kvs k z).length≤sizeLine:=by have:=length_putK kvs k z;omega
   have es:stored vs k fv=vs++[(k,fv)]:=by
    unfold stored
    rw [if_neg]
    rw [List.any_eq_true]
    rintro⟨kv,hkv,he⟩
    have e0:kv.1=k:=of_decide_eq_true he
    unfold valueAt at hn
    cases hf:vs.find? (fun kv=>decide (kv.1=k)) with
    |none=>exact absurd (decide_eq_true e0) (by simpa using List.find?_eq_none.mp hf kv hkv)
    |some u=>rw [hf] at hn;cases hn
   rw [←es] at dd'
   have he:∃q,h'.get? a=some q:=let ⟨q,_,_,hq,_⟩:=dd';⟨q,hq⟩
   exact⟨z,_,d_write I3 (by rw [ea];exact True.intro) hs he (dk_new hl hd (rel.put k rz) dd'),rz,q⟩
end
end L2
namespace L2
open PySem PySem.Spec PyProof.Rows
structure ExcCls(K:PySem.W.Frag)(D:Addr):Prop where
 is:(match K.lookup D with|some ⟨_,_,.cls _,_⟩=>true|_=>false)=true
 ga:PySem.W.findIn K (.ref D) "__getattribute__"=some (some (.builtin "BaseException.__getattribute__"))
 gh:PySem.W.findIn K (.ref D) "__getattr__"=some none
 cl:PySem.W.findIn K (.ref D) "__class__"=some (some (.builtin "object.__class__"))
 sp:PySem.W.specialIn K (.builtin "object.__class__") "__get__"=some (some (.builtin "getset_descriptor.__get__"))
 tk:PySem.W.takesIn K (.builtin "object.__class__")=some true
 ob:PySem.W.mroIn K D (.type "object")=some true
 be:PySem.W.mroIn K D (.type "BaseException")=some true
section
variable{prog:Program}{w:World}{A:Around}{E:Value→Shared→Prop}{s:Shared}{K:PySem.W.Frag}{x D:Addr}
end
section
variable{X:Cx}
end
section
variable{X:Cx}{pins:List (Addr × Obj)}{σ:St}{H H':Hp}{s s':Shared}{x:Addr}{cls:Value}
theorem Inv.track{o:HO}(I:Inv X pins σ H s)(hn:X.s₀.heap.get? x=none)(hl:x≠X.env.locals)(hc:∀y c,X.env.cells.lookup y=some c→c≠x)(hp:∀p∈X.pn++pins,p.1≠x)(hx:H x=none)(ho:ObjOk X.prog X.w (upd H x o) s.heap x o) :
  Inv X pins σ (upd H x o) s:=by
 have ne:∀b u,H b=some u→b≠x:=fun b u e z=>by rw [z,hx] at e;cases e
 have old:∀b ob,X.s₀.heap.get? b=some ob→b≠x:=fun b ob e z=>by rw [z,hn] at e;cases e
 refine⟨I.ok,I.os,I.bare,⟨I.base.keep,I.base.slot,fun b ob e n hb=>by rw [upd_ne (old b ob e)];exact I.base.free b ob e n hb,I.base.there,fun b xs e=>?_,fun b ob u e=>?_,fun b ps e=>?_⟩,I.loc,I.cell,by rw [upd_ne (Ne.symm hl)];exact I.free,fun y c e=>by rw [upd_ne (hc y c e)];exact I.freeC y c e,fun p hpp=>?_,fun b u e=>?_,I.len⟩
 ·have z:=I.base.tups b xs e
  rw [upd_ne (ne _ _ z)]
  exact z
 ·have z:=I.base.frzs b ob u e
  rw [upd_ne (ne _ _ z)]
  exact z
 ·obtain⟨m,z⟩:=I.base.tbls b ps e
  exact⟨m,by rw [upd_ne (ne _ _ z)];exact z⟩
 ·obtain⟨a1,a2,a3,a4,a5⟩:=I.pin p hpp
  exact⟨a1,by rw [upd_ne (hp p hpp)];exact a2,a3,a4,a5⟩
 ·by_cases eb:b=x
  ·subst eb
   rw [upd_same] at e
   cases e
   exact ho
  ·rw [upd_ne eb] at e
   refine(I.hok b u e).stay (fun _ _ _ q=>q) (fun c q=>?_) fun c xs q=>?_
   ·rw [upd_ne (ne _ _ q)];exact q
   ·rw [upd_ne (ne _ _ q)];exact q
def Ends.gone(D:Ends)(i:Nat):Ends:={ nx:=fun σ H=>D.nx (σ.set i none) H,rt:=D.rt,bk:=fun σ H=>D.bk (σ.set i none) H,ct:=fun σ H=>D.ct (σ.set i none) H }
end
end L2
namespace L2
open PySem PySem.Spec PyProof.Rows
structure FunD(K:PySem.W.Frag)(x qual:Str)(st:Stmt)(dV:Value)(f:Addr)(fd:FuncData):Prop where
 ex:∃(oc:Value) (od:Option Addr) (kV doc pm:Value) (an:Option Addr) (cdv ct:Value) (osl:Array (Option Value)),
  fd=PySem.W.fnOf x qual (defArgs st) (defBody st) (defScope st) dV kV doc pm an cdv ct∧K.lookup f=some ⟨oc,od,.func fd,osl⟩∧PySem.W.codeIn K cdv qual=true
 kp:PySem.W.keepIn K (.ref f)=true
section
variable{P:Program}{w:World}{K:PySem.W.Frag}{mg:Str→Option Value}{base:Heap}
theorem FunD.okX{x qual:Str}{st:Stmt}{dV:Value}{f:Addr}{fd:FuncData}{N ps:List Str}{k:Nat}{sp:Sp}(F:FunD K x qual st dV f fd)(S:FnScope N ps (defScope st))(len:∀vs H Q E,sp vs H Q E→vs.length=ps.length)
  (hbody:∀(cdv:Value) (A:Around) (outer:List Env) (s:Shared) (H:Hp) (vs:List V) (Q:VK) (E:XK),Room k (A.deeper (envOfC qual (defScope st) s.heap.objs.size f cdv))→sp vs H Q E →
   ∃t,PSs (cxOf (CX1 P w) P w K mg base N qual (defScope st) f cdv A outer s H E) (defBody st) t∧t { nx:=fun _ H'=>Q .non H',rt:=Q } (start N vs) H):FnOk P w K mg base (CX1 P w) (k+1) f fd ps sp:=by
 obtain⟨oc,od,kV,doc,pm,an,cdv,ct,osl,rfl,lk,hcd⟩:=F.ex
 exact fn_of lk hcd S len fun A outer s H vs Q E hr hsp=>hbody cdv A outer s H vs Q E hr hsp
theorem FunD.binds{x qual:Str}{st:Stmt}{T:Addr}{f:Addr}{fd:FuncData}{ps:List Str}{oT:Value}{dT:Option Addr}{its:Array Value}{nT:Nat}{sT:Array (Option Value)}{ds:List Value}(F:FunD K x qual st (.ref T) f fd)(lT:K.lookup T=some ⟨oT,dT,.seq its nT,sT⟩)
  (h:∀(kV doc pm:Value) (an:Option Addr) (cdv ct:Value) (us:List Value),(us++ds).length=ps.length→∃k:Option (Array Value)→Sem (List (Str × Value)),
   bindArgs (PySem.W.fnOf x qual (defArgs st) (defBody st) (defScope st) (.ref T) kV doc pm an cdv ct) ⟨us,[]⟩=seqItems? (.ref T) >>= k∧k (some its)=pure (ps.zip (us++ds))):Binds K fd ps ds:=by
 obtain⟨oc,od,kV,doc,pm,an,cdv,ct,osl,rfl,lk,hcd⟩:=F.ex
 intro s us kin hl
 obtain⟨k,h1,h2⟩:=h kV doc pm an cdv ct us hl
 exact BindsTo.of_defaults rfl (kin _ _ lT) rfl h1 h2
end
end L2
namespace L2
open PySem PySem.Spec PyProof.Rows
section
variable{X:Cx}
theorem ps_compG{i0:Nat}{y0:Str}{py0 spos:Pos}{tg elt iter:Expr}{ifs:List Expr}{own caps:List Str}{κ:List Nat}{sc:Scope}{cl:List (Str × Addr)}{pos:Pos}{wi:TI}{g:TG}{tc:TT}{te:TE}(hN:X.N.Nodup)(hi0:X.N[i0]?=some y0)(hy0:Loc X.env.scope y0)(hcalm:X.calm=true)(S:BlkSc X caps sc cl)(hκ:κ.map (fun k=>X.N[k]?)=caps.map some)
  (hi:PI X tg iter wi) (hg:∀s₀ H₀ C ex,PG (blk X (own++caps) sc cl s₀ H₀ C ex) tg g)
  (hc:∀s₀ H₀ C ex (pins:List (Addr × Obj)) (s:Shared) (σ:St) (H:Hp) (Q:Bool→Hp→Prop),Inv (blk X (own++caps) sc cl s₀ H₀ C ex) pins σ H s→tc σ H Q →
   wpAny (model X.prog X.w) X.A (forIn ifs true fun c r=>if r=true then do let ok ←isTrue c (compEnvC sc cl C X.env) (eval c (compEnvC sc cl C X.env));pure (ForInStep.yield ok) else pure (ForInStep.yield r)) (TP (blk X (own++caps) sc cl s₀ H₀ C ex) pins σ Q) (fun _ _=>False) s)
  (he:∀s₀ H₀ C ex,PE (blk X (own++caps) sc cl s₀ H₀ C ex) elt te)
  (hs:∀x,foldedSetIterable iter X.env x=pure x:=by intro _;rfl) (hsw:swapsWith (.ListComp elt [⟨tg,iter,ifs,0⟩] sc pos) (some (.Name y0 py0)) spos.line X.env=pure true:=by rfl)
  (hf0:X.fn y0=true∨X.env.scope.names.lookup y0=some .local:=by first|exact .inl rfl|exact .inr rfl|assumption) :
  PS X (.Assign [.Name y0 py0] (.ListComp elt [⟨tg,iter,ifs,0⟩] sc pos) spos) (tAsg (tComp own.length κ wi g tc te) (gName i0)):=by
 intro pins s σ H D0 I h
 rw [exec_Assign_Name_used _ _ _ _ hsw]
 refine wpAny_bind (wpAny_standAt (wpAny_bind ?_))
 show wpAny _ X.A (do let _ ←comprehension (.ListComp elt [⟨tg,iter,ifs,0⟩] sc pos) sc X.env _ (newList []) false (eval iter X.env) (some (assign (.Name y0 py0) X.env))) _ _ s
 refine wpAny_bind (wpAny_mono (wpAny_comprehension_free (use:=some (assign (.Name y0 py0) X.env)) (Q:=fun _ s'=>SP X pins D0 .next s') rfl hs S.clos S.kind S.names (thn (hi pins s σ H _ I h) fun v s1 h1=>thn h1 fun itv s2 h2=>?_))
  (fun _ s' hq=>wpAny_pure (wpAny_pure hq)) fun _ _ e=>e)
 obtain⟨it,fp,tn,J,H2,e,I2,T,st2,f2,W,⟨m0,w0⟩,turn⟩:=h2
 subst e
 have hfp:∀b∈fp,b < s2.heap.objs.size:=fun b hb=>by
  obtain⟨o,e,_⟩:=T.obj _ _ st2 b hb
  exact Heap.lt_size e
 refine wpAny_newObj_type (wpAny_newFunctionEnv S.nocell (fun y hy=>nomatch hy) (fun h₁ hns hsb=>?_) S.kind)
 generalize ehp:s2.heap.push { cls:=.type "list",dict:=none,data:=.seq ([]:List Value).toArray }=hp at hns hsb ⊢
 have hsz:hp.objs.size=s2.heap.objs.size+1:=by rw [←ehp,Heap.size_push]
 have hDC:s2.heap.objs.size≠hp.objs.size:=by rw [hsz];exact Nat.ne_of_lt (Nat.lt_succ_self _)
 have old:∀b o,hp.get? b=some o→h₁.get? b=some o:=fun b o e=>(hsb.2 b (Nat.ne_of_lt (Heap.lt_size e))).trans (Heap.get?_push_of_some _ e)
 have eD:h₁.get? s2.heap.objs.size=some { cls:=.type "list",data:=.seq ([]:List Value).toArray }:=old _ _ (by rw [←ehp];exact Heap.get?_push_size _ rfl)
 have I0:=Inv.block (own:=own) (h₁:=h₁) (tk:=s2.toks+([]:List (Str × Value)).length) S hκ I2 f2 hfp ehp.symm hns old
 have stkD:s2.heap.objs.size∉frs X.stack:=fun z=>(List.mem_cons.mp (I2.stkSub _ z)).elim (Nat.ne_of_gt I2.lt) (I2.nofs (Nat.le_refl _))
 have cellD:∀x c,cl.lookup x=some c→c≠s2.heap.objs.size:=fun x c q=>by
  obtain⟨v,z⟩:=I2.cell x c (S.subc q)
  exact Nat.ne_of_lt z.lt
 have pinD:∀p∈X.pn++pins,p.1≠s2.heap.objs.size:=fun p hp=>Nat.ne_of_lt (Heap.lt_size (I2.pin p hp).1)
 have stkF:∀b∈fp,b∉frs X.stack:=fun b hb z=>(List.mem_cons.mp (I2.stkSub _ z)).elim (f2 b hb).2.1 (f2 b hb).2.2.1
 have loop:codeAny (model X.prog X.w) X.A (.compLoop (.ListComp elt [⟨tg,iter,ifs,0⟩] sc pos) 0 (.ref it) (.ref s2.heap.objs.size) (compEnvC sc cl hp.objs.size X.env))
   (compPost (model X.prog X.w) X.A X.xe (some (assign (.Name y0 py0) X.env)) (fun _ s'=>SP X pins D0 .next s') (.ref s2.heap.objs.size) hp.objs.size) { s2 with heap:=h₁,toks:=s2.toks+([]:List (Str × Value)).length }:=by
  refine codeAny_loop rfl (fun n s'=>∃(i:Nat) (ys:List V) (its:List Value) (cap:Nat) (H':Hp),Inv (blk X (own++caps) sc cl { s2 with heap:=hp } H2 hp.objs.size (s2.heap.objs.size::fp)) pins (blkSt own.length κ σ) H' s'∧tn i s'.heap∧(∀b∈fp,H' b=none) ∧
   s'.heap.get? s2.heap.objs.size=some { cls:=.type "list",data:=.seq its.toArray cap }∧H' s2.heap.objs.size=none∧Vals ys its∧ys.length≤sizeLine∧W i n ys H') (fun n s3 hI=>?_) m0
   ⟨0,[],[],0,H2,I0,T.keep _ _ _ st2 fun b hb o e=>old _ _ (by rw [←ehp];exact Heap.get?_push_of_some _ e),fun b hb=>(f2 b hb).1,eD,I2.hok.fresh (Nat.le_refl _),.nil,Nat.zero_le _,w0⟩
  obtain⟨i,ys,its,cap,H3,I3,st3,fr3,eD3,nD3,rv,hz,w3⟩:=hI
  show wpAny _ X.A ((compTurn (.ListComp elt [⟨tg,iter,ifs,0⟩] sc pos) 0 (.ref it) (.ref s2.heap.objs.size) (compEnvC sc cl hp.objs.size X.env)).onRaise fun x=>do noteFrame x (compEnvC sc cl hp.objs.size X.env);theTreesLotGoes x) _ _ s3
  refine wpAny_noted ?_
  rw [compTurn_list]
  have I3':Inv (blk X (own++caps) sc cl { s2 with heap:=hp } H2 hp.objs.size (s2.heap.objs.size::fp)) (pins++[(s2.heap.objs.size,{ cls:=.type "list",data:=.seq its.toArray cap })]) (blkSt own.length κ σ) H3 s3:=by
   refine I3.pins_of fun p hp=>(List.mem_append.mp hp).elim (fun z=>I3.pin p (List.mem_append_right _ z)) fun z=>?_
   obtain rfl:=List.mem_singleton.mp z
   exact⟨eD3,nD3,hDC,stkD,fun v q=>by cases q⟩
  have fpk:∀{H':Hp},(∀b∈fp,H' b=none)→∀b∈fp,FpOk (blk X (own++caps) sc cl { s2 with heap:=hp } H2 hp.objs.size (s2.heap.objs.size::fp)) (pins++[(s2.heap.objs.size,{ cls:=.type "list",data:=.seq its.toArray cap })]) H' b:=fun {H'} hn b hb =>
   ⟨hn b hb,by show b≠hp.objs.size;rw [hsz];exact Nat.ne_of_lt (Nat.lt_succ_of_lt (hfp b hb)),stkF b hb,.inl (List.mem_cons_of_mem _ hb),fun x c q=>(f2 b hb).2.2.2.2.1 x c (S.subc q),fun p hp=>by
    rw [←List.append_assoc] at hp
    rcases List.mem_append.mp hp with z|z
    ·exact(f2 b hb).2.2.2.2.2 p z
    ·obtain rfl:=List.mem_singleton.mp z
     exact Nat.ne_of_gt (hfp b hb)⟩
  rcases turn i n ys H3 w3 with ⟨stop,fin⟩|⟨go,hlt,step⟩
  ·refine wpAny_bind (wpAny_standAt (wpAny_bind (thn (T.done (blk X (own++caps) sc cl { s2 with heap:=hp } H2 hp.objs.size (s2.heap.objs.size::fp)) rfl rfl rfl hcalm i _ s3 _ H3 _ I3' (fpk fr3) st3 stop) fun r s4 ⟨hr,I4⟩=>?_)))
   subst hr
   refine wpAny_pure ?_
   obtain⟨m,hm,_⟩:=I4.loc
   have eD4:=(I4.pin (s2.heap.objs.size,{ cls:=.type "list",data:=.seq its.toArray cap }) (List.mem_append_right _ (List.mem_append_right _ (List.mem_singleton.mpr rfl)))).1
   have I5:Inv X pins σ (upd H3 s2.heap.objs.size (.lst ys)) { s4 with heap:=s4.heap }:=Inv.unblock I2 f2 ehp.symm I4 eD4 nD3 rv hz (Heap.SameBut.refl ..)
   have neL:hp.objs.size≠X.env.locals:=by rw [hsz];exact Nat.ne_of_gt (Nat.lt_succ_of_lt I2.lt)
   have neC:∀x c,X.env.cells.lookup x=some c→c≠hp.objs.size:=fun x c q=>by
    obtain⟨v,z⟩:=I2.cell x c q
    rw [hsz]
    exact Nat.ne_of_lt (Nat.lt_succ_of_lt z.lt)
   have frC:upd H3 s2.heap.objs.size (.lst ys) hp.objs.size=none:=by rw [upd_ne (Ne.symm hDC)];exact I4.free
   show wpAny (model X.prog X.w) X.A (assign (.Name y0 py0) X.env (.ref s2.heap.objs.size)) _ X.xe s4
   refine wpAny_assign_Name (store_ok2 (v:=.ref s2.heap.objs.size) I5 hN hi0 hy0 rfl (fun s5 I6 ⟨a,sb,ha⟩=>?_) hf0)
   have hCa:hp.objs.size≠a:=by
    rcases ha with ha|ha
    ·rw [ha];exact neL
    ·exact Ne.symm (neC _ _ ha)
   refine⟨m,hm.sameBut sb hCa,fun h' sb'=>⟨_,_,I6.turned (t':=s5.toks) (fun b o hb e=>(sb'.2 b hb).trans e) frC neL (.inr ?_) neC (fun p hp'=>?_),fin _ nD3⟩⟩
   ·exact Nat.le_trans I2.sz (by rw [hsz];exact Nat.le_succ _)
   ·have:=Heap.lt_size (I2.pin p hp').1
    rw [hsz]
    exact Nat.ne_of_lt (Nat.lt_succ_of_lt this)
  ·refine wpAny_bind (wpAny_standAt (wpAny_bind (thn (T.item (blk X (own++caps) sc cl { s2 with heap:=hp } H2 hp.objs.size (s2.heap.objs.size::fp)) rfl rfl rfl hcalm i _ s3 _ H3 _ I3' (fpk fr3) st3 go) fun r s4 ⟨u,hr,h4⟩=>?_)))
   subst hr
   refine wpAny_bind (thn h4 fun _ s5 ⟨x,H5,I5,r5,y5,st5,fr5⟩=>?_)
   have I5':=I5.pinned (fpk fr5) (T.obj _ _ st5)
   refine wpAny_bind (wpAny_mono (hg _ _ _ _ _ s5 _ H5 x u _ I5' r5 (step x H5 y5)) (fun _ s6 ⟨σ6,H6,I6,eσ,q6⟩=>?_) fun _ _ z=>z.elim)
   refine wpAny_bind (wpAny_mono (hc _ _ _ _ _ s6 σ6 H6 _ I6 q6) (fun ok s7 ⟨H7,I7,q7⟩=>?_) fun _ _ z=>z.elim)
   have back:∀{s8:Shared} {H8:Hp},Inv (blk X (own++caps) sc cl { s2 with heap:=hp } H2 hp.objs.size (s2.heap.objs.size::fp)) ((pins++[(s2.heap.objs.size,{ cls:=.type "list",data:=.seq its.toArray cap })])++pinsAt fp s5.heap) σ6 H8 s8 →
     Inv (blk X (own++caps) sc cl { s2 with heap:=hp } H2 hp.objs.size (s2.heap.objs.size::fp)) pins (blkSt own.length κ σ) H8 s8∧tn (i+1) s8.heap∧(∀b∈fp,H8 b=none)∧s8.heap.get? s2.heap.objs.size=some { cls:=.type "list",data:=.seq its.toArray cap }∧H8 s2.heap.objs.size=none:=by
    intro s8 H8 I8
    have pk:∀b∈fp,∀o,s5.heap.get? b=some o→s8.heap.get? b=some o∧H8 b=none:=fun b hb o e=>by
     have z:=I8.pin (b,o) (List.mem_append_right _ (List.mem_append_right _ (mem_pinsAt hb e)))
     exact⟨z.1,z.2.1⟩
    have zD:=I8.pin (s2.heap.objs.size,{ cls:=.type "list",data:=.seq its.toArray cap }) (List.mem_append_right _ (List.mem_append_left _ (List.mem_append_right _ (List.mem_singleton.mpr rfl))))
    refine⟨(I8.pins_of fun p hp=>I8.pin p (List.mem_append_right _ (List.mem_append_left _ (List.mem_append_left _ hp)))).weak ?_ fun j v e=>?_,T.keep _ _ _ st5 fun b hb o e=>(pk b hb o e).1,fun b hb=>?_,zD.1,zD.2.1⟩
    ·exact I3.len.trans I8.len.symm
    ·have hge:own.length≤j:=by
      refine Nat.le_of_not_lt fun q=>?_
      unfold blkSt at e
      rw [List.getElem?_append_left (by rw [List.length_replicate];exact q),List.getElem?_replicate,if_pos q] at e
      cases e
     have z:=congrArg (fun l=>l[j - own.length]?) eσ
     simp only [List.getElem?_drop] at z
     rw [show own.length+(j - own.length)=j by omega] at z
     rw [z]
     exact e
    ·obtain⟨o,e,_⟩:=T.obj _ _ st5 b hb
     exact(pk b hb o e).2
   cases ok with
   |false =>
    obtain⟨m',hm,w7⟩:=(if_neg Bool.false_ne_true)▸q7
    obtain⟨I8,st8,fr8,e8,n8⟩:=back I7
    exact wpAny_pure ⟨rfl,m',hm,i+1,ys,its,cap,H7,I8,st8,fr8,e8,n8,rv,hz,w7⟩
   |true =>
    have q7':=(if_pos rfl)▸q7
    refine wpAny_bind (wpAny_bind (wpAny_mono (he _ _ _ _ _ s7 σ6 H7 _ I7 q7') (fun y s8 ⟨v8,H8,I8,r8,m',hm,w8⟩=>?_) fun _ _ z=>z.elim))
    obtain⟨I9,st9,fr9,e9,n9⟩:=back I8
    have hl:=rv.length
    refine wpAny_bind (wpAny_list_append_plain (items:=its.toArray) ⟨cap,e9⟩ (fun h' hl' sb=>?_) (by rw [List.size_toArray,←hl];exact hz))
    obtain⟨cap',e'⟩:=hl'
    refine wpAny_pure (wpAny_pure ⟨rfl,m',hm,i+1,ys++[v8],its++[y],cap',H8,?_,?_,fr9,?_,n9,Vals.append rv (.cons r8 .nil),?_,w8⟩)
    ·exact I9.turned (t':=s8.toks) (fun b o hb e=>(sb.2 b hb).trans e) n9 hDC (.inl List.mem_cons_self) cellD pinD
    ·exact T.keep _ _ _ st9 fun b hb o e=>(sb.2 b (Nat.ne_of_lt (hfp b hb))).trans e
    ·rw [e']
     congr 3
     simp
    ·rw [List.length_append]
     exact hlt
 exact codeAny_compStart_list loop (T.self _ 0 _ _ _ (T.keep _ _ _ st2 fun b hb o e=>old _ _ (by rw [←ehp];exact Heap.get?_push_of_some _ e)) loop)
theorem ps_comp{i0:Nat}{y0:Str}{py0 spos:Pos}{tg elt iter:Expr}{own caps:List Str}{κ:List Nat}{sc:Scope}{cl:List (Str × Addr)}{pos:Pos}{wi:TI}{g:TG}{te:TE}(hN:X.N.Nodup)(hi0:X.N[i0]?=some y0)(hy0:Loc X.env.scope y0)(hcalm:X.calm=true)(S:BlkSc X caps sc cl)(hκ:κ.map (fun k=>X.N[k]?)=caps.map some)
  (hi:PI X tg iter wi) (hg:∀s₀ H₀ C ex,PG (blk X (own++caps) sc cl s₀ H₀ C ex) tg g) (he:∀s₀ H₀ C ex,PE (blk X (own++caps) sc cl s₀ H₀ C ex) elt te)
  (hs:∀x,foldedSetIterable iter X.env x=pure x:=by intro _;rfl) (hsw:swapsWith (.ListComp elt [⟨tg,iter,[],0⟩] sc pos) (some (.Name y0 py0)) spos.line X.env=pure true:=by rfl)
  (hf0:X.fn y0=true∨X.env.scope.names.lookup y0=some .local:=by first|exact .inl rfl|exact .inr rfl|assumption) :
  PS X (.Assign [.Name y0 py0] (.ListComp elt [⟨tg,iter,[],0⟩] sc pos) spos) (tAsg (tComp own.length κ wi g tYes te) (gName i0)) :=
 ps_compG hN hi0 hy0 hcalm S hκ hi hg (fun s₀ H₀ C ex pins s σ H Q I h=>wpAny_tests_nil ⟨H,I,h⟩) he hs hsw hf0
theorem ps_comp_if{i0:Nat}{y0:Str}{py0 spos:Pos}{tg elt iter c:Expr}{own caps:List Str}{κ:List Nat}{sc:Scope}{cl:List (Str × Addr)}{pos:Pos}{wi:TI}{g:TG}{tc:TT}{te:TE}(hN:X.N.Nodup)(hi0:X.N[i0]?=some y0)(hy0:Loc X.env.scope y0)(hcalm:X.calm=true)(S:BlkSc X caps sc cl)(hκ:κ.map (fun k=>X.N[k]?)=caps.map some)
  (hi:PI X tg iter wi) (hg:∀s₀ H₀ C ex,PG (blk X (own++caps) sc cl s₀ H₀ C ex) tg g) (hc:∀s₀ H₀ C ex,PT (blk X (own++caps) sc cl s₀ H₀ C ex) c tc) (he:∀s₀ H₀ C ex,PE (blk X (own++caps) sc cl s₀ H₀ C ex) elt te)
  (hs:∀x,foldedSetIterable iter X.env x=pure x:=by intro _;rfl) (hsw:swapsWith (.ListComp elt [⟨tg,iter,[c],0⟩] sc pos) (some (.Name y0 py0)) spos.line X.env=pure true:=by rfl)
  (hf0:X.fn y0=true∨X.env.scope.names.lookup y0=some .local:=by first|exact .inl rfl|exact .inr rfl|assumption) :
  PS X (.Assign [.Name y0 py0] (.ListComp elt [⟨tg,iter,[c],0⟩] sc pos) spos) (tAsg (tComp own.length κ wi g tc te) (gName i0)) :=
 ps_compG hN hi0 hy0 hcalm S hκ hi hg (fun s₀ H₀ C ex pins s σ H Q I h=>wpAny_tests_one (hc s₀ H₀ C ex pins s σ H Q I h)) he hs hsw hf0
end
end L2
namespace L2
open PySem PySem.Spec PyProof.Rows
section
variable{X:Cx}{pins:List (Addr × Obj)}{σ:St}{H:Hp}{s:Shared}{h':Heap}
theorem Inv.turned2{t':Nat}{e j p:Addr}{o:HO}(I:Inv X pins σ H s)(k:∀b ob,b≠e→b≠j→s.heap.get? b=some ob→h'.get? b=some ob)(fe:FpOk X pins H e)(fj:FpOk X pins H j)(hp:s.heap.objs.size≤p)
  (new:ObjOk X.prog X.w (upd H p o) h' p o):Inv X pins σ (upd H p o) { s with heap:=h',toks:=t' }:=by
 have hn:H p=none:=I.hok.fresh hp
 have nn:∀b u,H b=some u→b≠e∧b≠j:=fun b u q=>⟨fun z=>(by rw [z,fe.1] at q;cases q),fun z=>(by rw [z,fj.1] at q;cases q)⟩
 have nc:∀b,b∉[e,j]→b≠e∧b≠j:=fun b hb=>⟨fun z=>hb (by simp [z]),fun z=>hb (by simp [z])⟩
 have lt:∀b ob,s.heap.get? b=some ob→b≠p:=fun b ob q z=>absurd (Nat.lt_of_lt_of_le (Heap.lt_size q) (by rw [z];exact hp)) (Nat.lt_irrefl _)
 refine I.step (g':=s.gens) (d':=s.drawn) (ch:=[e,j]) (fun b hb=>?_) (fun b ob _ _ hc q _=>k b ob (nc b hc).1 (nc b hc).2 q) (fun b ob _ _ hc q _=>⟨ob.slots,k b ob (nc b hc).1 (nc b hc).2 q⟩) (fun b ob hc q n=>by rw [upd_ne (lt b ob q)];exact n)
  (fun b ob hc q=>⟨ob,k b ob (nc b hc).1 (nc b hc).2 q⟩) (fun b xs q=>by rw [upd_ne (ne_of_none q hn)];exact q) (fun b ob u q=>by rw [upd_ne (ne_of_none q hn)];exact q) (fun b ps q=>⟨#[],by rw [upd_ne (ne_of_none q hn),q];simp⟩) (fun m hm=>?_) (fun b u q=>?_) I.bare
 ·rcases List.mem_cons.mp hb with rfl|hb
  ·exact⟨fe.2.2.2.1,fe.2.1,fe.2.2.2.2.1,fe.2.2.2.2.2⟩
  ·obtain rfl:=List.mem_singleton.mp hb
   exact⟨fj.2.2.2.1,fj.2.1,fj.2.2.2.2.1,fj.2.2.2.2.2⟩
 ·obtain⟨ob,es,ep,q,r⟩:=hm
  exact⟨ob,es,ep,k _ ob (Ne.symm fe.2.1) (Ne.symm fj.2.1) q,r⟩
 ·by_cases hb:b=p
  ·subst hb
   rw [upd_same] at q
   cases q
   exact new
  ·rw [upd_ne hb] at q
   refine(I.hok b u q).stay (fun c v hc z=>?_) (fun c z=>by rw [upd_ne (ne_of_none z hn)];exact z) fun c xs z=>by rw [upd_ne (ne_of_none z hn)];exact z
   rcases hc with hc|hc
   ·rw [hc] at z ⊢
    exact k b v (nn b u q).1 (nn b u q).2 z
   ·exact k c v (nn c _ hc).1 (nn c _ hc).2 z
end
section
variable{X:Cx}{tg:Expr}
end
section
variable{prog:Program}{w:World}{A:Around}{E:Value→Shared→Prop}{s:Shared}
open AutoSeq1 (wpAny_loadPart') in
end
section
variable{X:Cx}
end
end L2
namespace L2
open PySem PySem.Spec PyProof.Rows
theorem key_rel{P:Program}{w:World}{k:Key}{u:Value}(h:(mixKind P w).is k u=true):RelV (kV k) u:=by
 rw [mixKind_is] at h
 rcases keyIs_shape h with ⟨i,t,rfl,rfl⟩|⟨x,t,rfl,rfl⟩
 ·exact⟨t,rfl⟩
 ·exact⟨t,rfl⟩
section
variable{X:Cx}{pins:List (Addr × Obj)}{σ:St}{H H':Hp}{s:Shared}{h':Heap}
theorem Inv.laids{t':Nat}(I:Inv X pins σ H s)(k:∀b u,s.heap.get? b=some u→h'.get? b=some u)(old:∀b,b < s.heap.objs.size→H' b=H b)
  (new:∀b u,s.heap.objs.size≤b→H' b=some u→ObjOk X.prog X.w H' h' b u):Inv X pins σ H' { s with heap:=h',toks:=t' }:=by
 have lt:∀b u,H b=some u→b < s.heap.objs.size:=fun b u q=>Nat.lt_of_not_le fun z=>by rw [I.hok.fresh z] at q;cases q
 refine I.step (g':=s.gens) (d':=s.drawn) (ch:=[]) (fun _ z=>nomatch z) (fun b ob _ _ _ q _=>k b ob q) (fun b ob _ _ _ q _=>⟨ob.slots,k b ob q⟩) (fun b ob _ q n=>by rw [old b (Heap.lt_size q)];exact n)
  (fun b ob _ q=>⟨ob,k b ob q⟩) (fun b xs q=>by rw [old b (lt _ _ q)];exact q) (fun b ob u q=>by rw [old b (lt _ _ q)];exact q) (fun b ps q=>⟨#[],by rw [old b (lt _ _ q),q];simp⟩) (fun m hm=>?_) (fun b u q=>?_) I.bare
 ·obtain⟨ob,es,ep,q,r⟩:=hm
  exact⟨ob,es,ep,k _ ob q,r⟩
 ·by_cases hb:b < s.heap.objs.size
  ·rw [old b hb] at q
   exact(I.hok b u q).stay (fun c v _ z=>k c v z) (fun c z=>by rw [old c (lt _ _ z)];exact z) fun c xs z=>by rw [old c (lt _ _ z)];exact z
  ·exact new b u (Nat.le_of_not_lt hb) q
end
def layT(H:Hp):List Addr→List (Key × V)→Hp
 |a::as,p::ps=>upd (layT H as ps) a (.tup [kV p.1,p.2])
 |_,_=>H
theorem layT_old{H:Hp}{b:Addr}:∀{as:List Addr} {ps:List (Key × V)},b∉as→layT H as ps b=H b
 |[],_,_=>rfl
 |_::_,[],_=>rfl
 |a::as,p::ps,h=>by
  show upd (layT H as ps) a _ b=H b
  rw [upd_ne (fun e=>h (by rw [e];exact List.mem_cons_self))]
  exact layT_old fun z=>h (List.mem_cons_of_mem _ z)
theorem layT_at{H:Hp}:∀{as:List Addr} {ps:List (Key × V)} {b:Addr} {u:HO},b∈as→as.length=ps.length→layT H as ps b=some u→∃(j:Nat) (p:Key × V),as[j]?=some b∧ps[j]?=some p∧u=.tup [kV p.1,p.2]
 |[],_,_,_,h,_,_=>nomatch h
 |_::_,[],_,_,_,h,_=>nomatch h
 |a::as,p::ps,b,u,hb,hl,h=>by
  by_cases e:b=a
  ·subst e
   have h':upd (layT H as ps) b (.tup [kV p.1,p.2]) b=some u:=h
   rw [upd_same] at h'
   cases h'
   exact⟨0,p,rfl,rfl,rfl⟩
  ·have h':upd (layT H as ps) a (.tup [kV p.1,p.2]) b=some u:=h
   rw [upd_ne e] at h'
   have hb':b∈as:=(List.mem_cons.mp hb).resolve_left e
   obtain⟨j,p',h1,h2,h3⟩:=layT_at hb' (Nat.succ.inj hl) h'
   exact⟨j+1,p',h1,h2,h3⟩
theorem layT_pairs{H:Hp}:∀{as:List Addr} {ps:List (Key × V)},as.Pairwise (· < ·)→as.length=ps.length→Paired (fun(p:Key × V) (k:Addr)=>layT H as ps k=some (.tup [kV p.1,p.2])) ps as
 |[],[],_,_=>.nil
 |_::_,[],_,h=>nomatch h
 |[],_::_,_,h=>nomatch h
 |a::as,p::ps,hr,hl=>by
  cases hr with
  |cons h1 h2 =>
  refine .cons upd_same ?_
  have ih:=layT_pairs (H:=H) h2 (Nat.succ.inj hl)
  have go:∀{qs:List (Key × V)} {bs:List Addr},(∀b∈bs,a < b)→Paired (fun(p:Key × V) (k:Addr)=>layT H as ps k=some (.tup [kV p.1,p.2])) qs bs→Paired (fun(q:Key × V) (k:Addr)=>layT H (a::as) (p::ps) k=some (.tup [kV q.1,q.2])) qs bs:=fun {qs bs} hb z=>by
   induction z with
   |nil=>exact .nil
   |@cons x y xs ys e _ ih =>
    refine .cons ?_ (ih fun b hb'=>hb b (List.mem_cons_of_mem _ hb'))
    show upd (layT H as ps) a _ y=_
    rw [upd_ne (Nat.ne_of_gt (hb y List.mem_cons_self))]
    exact e
  exact go h1 ih
theorem pair_get{α β:Type}{F:α→β→Prop}:∀{as:List α} {bs:List β},Paired F as bs→∀{j:Nat} {a:α},as[j]?=some a→∃b,bs[j]?=some b∧F a b
 |_,_,.nil,j,a,h=>by simp at h
 |_,_,.cons x t,0,a,h=>by
  simp at h
  subst h
  exact⟨_,rfl,x⟩
 |_,_,.cons x t,j+1,a,h=>by
  simp at h
  obtain⟨b,hb,r⟩:=pair_get t h
  exact⟨b,by simpa using hb,r⟩
def itemsAt(v d:Addr)(h:Heap):Prop:=h.IsItemsView v d
section
variable{X:Cx}
def rItems:V→List V→Hp→VK→Prop:=fun x vs H Q=>∃d kvs,x=.ref d∧vs=[]∧H d=some (.dK kvs)∧∀v,H v=none→Q (.ref v) (upd H v (.ext (itemsAt v d)))
theorem mt_items:MtR X "dict.items" rItems:=by
 intro pins s σ H x vs v us Q I rx rv h
 obtain⟨d,kvs,rfl,rfl,hd,q⟩:=h
 cases rx
 cases rv
 obtain⟨z,hs,ys,rel,dd⟩:=dk_of I.hok hd
 refine call_meetsIn PySem.F.slot_dict_items dd.typeIs PySem.F.entry_dict_items (PySem.F.args_dict_items_1 _) (meets_dict_items (mixKind X.prog X.w) d hs) ⟨⟨ys,dd⟩,?_⟩
 have hv:(s.heap.push { cls:=.type "dict_items",data:=.fields #[.ref d] }).IsItemsView s.heap.objs.size d:=⟨_,Heap.get?_push_size _ rfl,rfl,rfl⟩
 refine⟨.ref s.heap.objs.size,_,I.laid (t':=s.toks) (o:=.ext (itemsAt s.heap.objs.size d)) (fun b o e=>Heap.get?_push_of_some _ e) (Nat.le_refl _) ⟨hv,⟨_,Heap.get?_push_size _ rfl⟩,fun h1 h2 p k=>?_⟩,rfl,q _ (I.hok.fresh (Nat.le_refl _))⟩
 obtain⟨o,ho,r⟩:=p
 exact⟨o,k o ho,r⟩
theorem call_list_items(hc:X.calm=true):CallR X (.type "list") (fun xs H Q=>∃v d kvs,xs=[.ref v]∧H v=some (.ext (itemsAt v d))∧H d=some (.dK kvs) ∧
  ∀(H2:Hp) (as:List Addr) (l:Addr),(∀b u,H b=some u→H2 b=some u)→H l=none→(∀a∈as,H a=none)→H2 l=some (.lst (as.map V.ref))→Paired (fun(p:Key × V) (k:Addr)=>H2 k=some (.tup [kV p.1,p.2])) kvs as→Q (.ref l) H2):=by
 intro pins s σ H xs us Q I r h
 obtain⟨v,d,kvs,rfl,hv,hd,q⟩:=h
 obtain⟨u,rfl,ru⟩:=vals1 r
 cases ru
 obtain⟨z,hs,ys,rel,dd⟩:=dk_of I.hok hd
 obtain⟨ep,dat⟩:=dd.dictAt
 have hview:s.heap.IsItemsView v d:=(I.hok v _ hv).1
 have hl2:kvs.length=ys.length:=rel.length
 refine PySem.W.kdx_call (knd:=mixKind X.prog X.w) (I.ok.hd hc) hview dat (by rw [←hl2];exact z) fun h' tk acc c as hk hS hlen hG hacc=>?_
 have hlen':as.length=kvs.length:=by rw [hlen,hl2]
 have hge:∀a∈as,s.heap.objs.size≤a:=fun a ha=>Nat.le_of_lt (hG.above a ha)
 have hnS:s.heap.objs.size∉as:=fun ha=>Nat.lt_irrefl _ (hG.above _ ha)
 have vr:∀ks:List Addr,Vals (ks.map V.ref) (ks.map Value.ref):=fun ks=>by
  induction ks with
  |nil=>exact .nil
  |cons k ks ih=>exact .cons rfl ih
 have old:∀b,b < s.heap.objs.size→upd (layT H as kvs) s.heap.objs.size (.lst (as.map V.ref)) b=H b:=fun b hb=>by
  rw [upd_ne (Nat.ne_of_lt hb)]
  exact layT_old fun ha=>absurd (hge b ha) (Nat.not_le_of_lt hb)
 have I2:Inv X pins σ (upd (layT H as kvs) s.heap.objs.size (.lst (as.map V.ref))) { s with heap:=h',toks:=tk }:=by
  refine I.laids (t':=tk) hk old fun b u hb hu=>?_
  by_cases e:b=s.heap.objs.size
  ·subst e
   rw [upd_same] at hu
   cases hu
   refine⟨by rw [List.length_map,hlen'];exact z,as.map Value.ref,c,vr as,?_⟩
   rw [hS,←hacc]
  ·rw [upd_ne e] at hu
   by_cases ha:b∈as
   ·obtain⟨j,p,h1,h2,rfl⟩:=layT_at ha hlen' hu
    obtain⟨key,k,x,h3,h4,h5⟩:=hG.pairs j b h1
    have hp:p.1=k∧RelV p.2 x:=by
     have:=pair_get rel h2
     obtain⟨y,hy,e1,e2⟩:=this
     rw [h3] at hy
     cases hy
     exact⟨e1,e2⟩
    refine⟨by show 2≤sizeLine;decide,[key,x],.cons (by rw [hp.1];exact key_rel h4) (.cons hp.2 .nil),_,h5,rfl,_,rfl⟩
   ·rw [layT_old ha] at hu
    rw [I.hok.fresh hb] at hu
    cases hu
 refine⟨.ref s.heap.objs.size,_,I2,rfl,q _ as s.heap.objs.size (fun b u hb=>?_) (I.hok.fresh (Nat.le_refl _)) (fun a ha=>I.hok.fresh (hge a ha)) upd_same ?_⟩
 ·have lt:b < s.heap.objs.size:=Nat.lt_of_not_le fun z=>by rw [I.hok.fresh z] at hb;cases hb
  rw [old b lt]
  exact hb
 ·have go:∀{qs:List (Key × V)} {bs:List Addr},(∀b∈bs,b∈as)→Paired (fun(p:Key × V) (k:Addr)=>layT H as kvs k=some (.tup [kV p.1,p.2])) qs bs→Paired (fun(q:Key × V) (k:Addr)=>upd (layT H as kvs) s.heap.objs.size (.lst (as.map V.ref)) k=some (.tup [kV q.1,q.2])) qs bs:=fun {qs bs} hb z=>by
   induction z with
   |nil=>exact .nil
   |@cons x y xs ys e _ ih =>
    refine .cons ?_ (ih fun b hb'=>hb b (List.mem_cons_of_mem _ hb'))
    rw [upd_ne (fun z=>hnS (by rw [←z];exact hb y List.mem_cons_self))]
    exact e
  exact go (fun _ z=>z) (layT_pairs hG.rise hlen')
end
end L2
namespace L2
open PySem PySem.Spec PyProof.Rows
section
variable{X:Cx}{pins:List (Addr × Obj)}{σ:St}{H:Hp}{s:Shared}{d:Addr}{o:Obj}{u:HO}
theorem Inv.thaw(I:Inv X pins σ H s)(e:H d=some (.frz o u))(h0:∀o' u',X.H₀ d≠some (.frz o' u')):Inv X pins σ (upd H d u) s:=by
 have nd:∀b,H b=none→b≠d:=fun b n z=>by rw [z,e] at n;cases n
 have no:∀b v,H b=some v→(∀o u,v≠.frz o u)→b≠d:=fun b v q n z=>by rw [z,e] at q;cases q;exact n _ _ rfl
 refine⟨I.ok,I.os,I.bare,⟨I.base.keep,I.base.slot,fun b ob q n hx=>?_,I.base.there,fun b xs q=>?_,fun b ob v q=>?_,fun b ps q=>?_⟩,I.loc,I.cell,?_,fun x c q=>?_,fun p hp=>?_,fun b v q=>?_,I.len⟩
 ·have z:=I.base.free b ob q n hx
  rw [upd_ne (nd b z)]
  exact z
 ·have z:=I.base.tups b xs q
  rw [upd_ne (no b _ z (fun _ _=>nofun))]
  exact z
 ·have z:=I.base.frzs b ob v q
  rw [upd_ne (fun w=>h0 ob v (by rw [←w];exact q))]
  exact z
 ·obtain⟨more,z⟩:=I.base.tbls b ps q
  exact⟨more,by rw [upd_ne (no b _ z (fun _ _=>nofun))];exact z⟩
 ·rw [upd_ne (nd _ I.free)]
  exact I.free
 ·rw [upd_ne (nd _ (I.freeC x c q))]
  exact I.freeC x c q
 ·obtain⟨h1,h2,h3⟩:=I.pin p hp
  exact⟨h1,by rw [upd_ne (nd _ h2)];exact h2,h3⟩
 ·have own:∀a b,H b=some (.own a)→upd H d u b=some (.own a):=fun a b z=>by rw [upd_ne (no b _ z (fun _ _=>nofun))];exact z
  have tup:∀b (xs:FxO),H b=some xs.ho→upd H d u b=some xs.ho:=fun b xs z=>by rw [upd_ne (no b _ z (by cases xs<;>exact(fun _ _=>nofun)))];exact z
  by_cases hb:b=d
  ·subst hb
   rw [upd_same] at q
   cases q
   exact(I.hok b _ e).2.stay (fun _ _ _ z=>z) (own b) tup
  ·rw [upd_ne hb] at q
   exact(I.hok b v q).stay (fun _ _ _ z=>z) (own b) tup
end
def thawD(H₀:Hp)(D:Ends):Ends where
 nx:=fun σ H=>∃d o u,H d=some (.frz o u)∧(∀o' u',H₀ d≠some (.frz o' u'))∧D.nx σ (upd H d u)
 rt:=fun v H=>∃d o u,H d=some (.frz o u)∧(∀o' u',H₀ d≠some (.frz o' u'))∧D.rt v (upd H d u)
 bk:=D.bk
 ct:=D.ct
theorem ps_thaw{X:Cx}{st:Stmt}{t:TS}(h:PS X st t):PS X st (fun D σ H=>t (thawD X.H₀ D) σ H):=by
 intro pins s σ H D I q
 refine thn (h pins s σ H _ I q) fun f s1 z=>?_
 cases f with
 |next =>
  obtain⟨σ',H',I',d,o,u,e,h0,q'⟩:=z
  exact⟨σ',_,I'.thaw e h0,q'⟩
 |ret v =>
  obtain⟨σ',x,H',I',r,d,o,u,e,h0,q'⟩:=z
  exact⟨σ',x,_,I'.thaw e h0,r,q'⟩
 |brk=>exact z
 |cont=>exact z
def Itd(d:Addr)(o:Obj)(kvs:List (Key × V)):It :=
 ⟨fun i H=>H d=some (.frz o (.dK kvs))∧i < kvs.length,fun i H x H'=>∃a p,H a=none∧x=.ref a∧H'=upd H a (.tup [kV p.1,p.2])∧kvs[i]?=some p,fun i H=>H d=some (.frz o (.dK kvs))∧kvs.length≤i⟩
theorem turn_items{P:Program}{w:World}{K:PySem.W.Frag}{es:List Expr}{k:Nat}{pos:Pos}{d it:Addr}{o:Obj}{kvs:List (Key × V)}{ys:List (Key × Value)}{ep:Nat}(rel:KV kvs ys)(hat:∀h:Heap,h.get? d=some o→h.DictAt (mixKind P w) d ys ep) :
  Turn P w K (.Tuple es k pos) (Itd d o kvs) [it] it (fun i h=>∃ok ov,IsItemIter h it d i ys.length ep ok ov) where
 mem:=by simp
 obj:=fun i h st b hb=>by
  obtain rfl:b=it:=by simpa using hb
  obtain⟨ok,ov,e⟩:=st
  exact⟨_,e,fun v z=>by cases z⟩
 keep:=fun i h h' st k=>by
  obtain⟨ok,ov,e⟩:=st
  exact⟨ok,ov,k it (by simp) _ e⟩
 item:=by
  intro X hP hw hK hc i pins s σ H E I hf st hg
  subst hP hw hK
  obtain⟨ok,ov,st⟩:=st
  obtain⟨hd,hi⟩:=hg
  have fe:=hf it (by simp)
  obtain⟨f0,f1,f2,f3,f4,f5⟩:=id fe
  have ex:kvs[i]?=some kvs[i]:=List.getElem?_eq_getElem hi
  obtain⟨⟨k1,y⟩,hy,ek,ry⟩:=pair_get rel ex
  replace ek:kvs[i].1=k1:=ek
  replace ry:RelV kvs[i].2 y:=ry
  have lt:it < s.heap.objs.size:=Heap.lt_size st
  refine wpAny_pyNext_items_item st (hat _ (I.hok d _ hd).1) hy fun key h1 hkey io t1 hz k1'=>⟨_,rfl,?_⟩
  refine wpAny_letOwnedTupleGo_items io fun h2 i2 b2=>?_
  have t2:h2.get? s.heap.objs.size=some { cls:=.type "tuple",data:=.seq #[key,y] }:=(b2.2 _ (Nat.ne_of_gt lt)).trans t1
  have hn:H s.heap.objs.size=none:=I.hok.fresh (Nat.le_refl _)
  have I2:Inv X pins σ (upd H s.heap.objs.size (.tup [kV kvs[i].1,kvs[i].2])) { s with heap:=h2 } :=
   I.turned2 (t':=s.toks) (e:=it) (j:=it) (fun b ob x1 _ z=>(b2.2 b x1).trans (k1' b ob x1 z)) fe fe (Nat.le_refl _) ⟨by show 2≤sizeLine;decide,[key,y],.cons (by rw [ek];exact key_rel hkey) (.cons ry .nil),_,t2,rfl,_,rfl⟩
  refine⟨.ref s.heap.objs.size,_,I2,rfl,⟨_,kvs[i],hn,rfl,rfl,ex⟩,⟨_,_,i2⟩,fun b hb=>?_⟩
  obtain rfl:b=it:=by simpa using hb
  rw [upd_ne (Nat.ne_of_lt lt)]
  exact f0
 done:=by
  intro X hP hw hK hc i pins s σ H E I hf st hg
  subst hP hw hK
  obtain⟨ok,ov,st⟩:=st
  obtain⟨hd,hi⟩:=hg
  obtain⟨f0,f1,f2,f3,f4,f5⟩:=hf it (by simp)
  have hl:kvs.length=ys.length:=rel.length
  exact wpAny_pyNext_items_end (I.ok.hd hc) st (hat _ (I.hok d _ hd).1) (List.getElem?_eq_none (by omega)) fun h' eb=>⟨rfl,I.turned (t':=s.toks) (fun b o hb q=>eb b o hb q) f0 f1 f3 f4 f5⟩
 self:=fun _ _ _ _ _ st h=>by
  obtain⟨ok,ov,st⟩:=st
  exact PySem.W.kcp_self st h
section
variable{X:Cx}
def iItems(to:TE):TI:=fun σ H R=>to σ H fun x H1=>∃d kvs,x=.ref d∧H1 d=some (.dK kvs)∧∀o,R (Itd d o kvs) (upd H1 d (.frz o (.dK kvs)))
theorem pi_items{o:Expr}{to:TE}{es:List Expr}{k:Nat}{tp apos cpos:Pos}(ho:PE X o to) (hbase:attributeBase o "items" X.env (eval o X.env)=eval o X.env:=by rfl) (hline:(apos.endLine==cpos.line)=true:=by rfl) :
  PI X (.Tuple es k tp) (.Call (.Attribute o "items" apos) [] [] cpos) (iItems to):=by
 intro pins s σ H R I h
 refine wpAny_Call_method0_late hbase hline (thn (ho pins s σ H _ I h) fun v s1 ⟨x,H1,I1,r1,d,kvs,ex,hd,q⟩=>?_)
 subst ex
 obtain⟨h1,h2⟩:=tyV_is (T:="dict") I1 r1 (.inr (.inr (.inl ⟨rfl,.inl ⟨kvs,hd⟩⟩)))
 cases r1
 obtain⟨z,hs,ys,rel,dd⟩:=dk_of I1.hok hd
 refine⟨"dict","dict.items",PySem.F.plainAttrs_dict,PySem.F.slot_dict_items,PySem.F.type_dict_items,h1,h2,Calls.callWith_builtin rfl (PySem.evalArgs_none (call_meetsIn PySem.F.slot_dict_items dd.typeIs PySem.F.entry_dict_items (PySem.F.args_dict_items_1 _) (meets_dict_items (mixKind X.prog X.w) d hs) ⟨⟨ys,dd⟩,?_⟩))⟩
 have hv:(s1.heap.push { cls:=.type "dict_items",data:=.fields #[.ref d] }).IsItemsView s1.heap.objs.size d:=⟨_,Heap.get?_push_size _ rfl,rfl,rfl⟩
 obtain⟨ep,ob,en,e1,r1⟩:=dd.dictAt
 have hat:∀h:Heap,h.get? d=some ob→h.DictAt (mixKind X.prog X.w) d ys ep:=fun h e=>⟨ob,en,e,r1⟩
 refine wpAny_pyIter_items (s:={ s1 with heap:=s1.heap.push { cls:=.type "dict_items",data:=.fields #[.ref d] } }) hv (hat _ (Heap.get?_push_of_some _ e1)) ?_
 have hd2:((s1.heap.push { cls:=.type "dict_items",data:=.fields #[.ref d] }).push { cls:=.type "dict_itemiterator",data:=.fields #[.none,.bool false,.ref d,.int 0 0,.int ys.length 0,.int ep 0,.none,.none] }).get? d=some ob:=Heap.get?_push_of_some _ (Heap.get?_push_of_some _ e1)
 have I2:=I1.kept (t':=s1.toks) (h':=(s1.heap.push { cls:=.type "dict_items",data:=.fields #[.ref d] }).push { cls:=.type "dict_itemiterator",data:=.fields #[.none,.bool false,.ref d,.int 0 0,.int ys.length 0,.int ep 0,.none,.none] }) fun b u e=>Heap.get?_push_of_some _ (Heap.get?_push_of_some _ e)
 have I3:=I2.write (x:=d) (e:=d) (o:=.frz ob (.dK kvs)) (t':=s1.toks) (h':=(s1.heap.push { cls:=.type "dict_items",data:=.fields #[.ref d] }).push { cls:=.type "dict_itemiterator",data:=.fields #[.none,.bool false,.ref d,.int 0 0,.int ys.length 0,.int ep 0,.none,.none] }) (by rw [hd];trivial) (.inl rfl) (fun _ _ _ e=>e) ⟨ob,hd2⟩
  ⟨hd2,z,hs,ys,rel,dd.at fun o e=>Heap.get?_push_of_some _ (Heap.get?_push_of_some _ e)⟩
 have hn:H1 ((s1.heap.push { cls:=.type "dict_items",data:=.fields #[.ref d] }).objs.size)=none:=I1.hok.fresh (by rw [Heap.size_push];exact Nat.le_succ _)
 refine⟨_,[(s1.heap.push { cls:=.type "dict_items",data:=.fields #[.ref d] }).objs.size],_,_,_,rfl,I3,turn_items rel hat,⟨_,_,Heap.get?_push_size _ rfl⟩,fun b hb=>?_,q ob⟩
 obtain rfl:b=(s1.heap.push { cls:=.type "dict_items",data:=.fields #[.ref d] }).objs.size:=by simpa using hb
 refine I1.fpOk (by rw [Heap.size_push];exact Nat.le_succ _) ?_
 rw [upd_ne (fun e=>by rw [e,hd] at hn;cases hn)]
 exact hn
end
theorem for_items{d:Addr}{o:Obj}{kvs:List (Key × V)}{g:TG}{tb:TS}{D:Ends}{σ:St}{H:Hp}(Pv:Nat→St→Hp→Prop)(h0:Pv 0 σ H)(hl:∀i σ H,i≤kvs.length→Pv i σ H→H d=some (.frz o (.dK kvs)))
  (hs:∀i p a σ H,kvs[i]?=some p→H a=none→Pv i σ H→g (.ref a) σ (upd H a (.tup [kV p.1,p.2])) fun σ2 H2=>tb { D with nx:=Pv (i+1),ct:=Pv (i+1),bk:=D.nx } σ2 H2) (hd:∀σ H,Pv kvs.length σ H→D.nx σ H) :
  ∃W:Nat→Nat→St→Hp→Prop,(∃m,W 0 m σ H)∧∀i m σ H,W i m σ H →
   ((Itd d o kvs).stop i H∧D.nx σ H)∨((Itd d o kvs).go i H∧∃N:St→Hp→Prop,(∀σ' H',N σ' H'→∃m',m' < m∧W (i+1) m' σ' H')∧∀x H',(Itd d o kvs).yld i H x H'→g x σ H' fun σ2 H2=>tb { D with nx:=N,ct:=N,bk:=D.nx } σ2 H2):=by
 refine⟨fun i m σ H=>m=kvs.length - i∧i≤kvs.length∧Pv i σ H,⟨kvs.length,by simp,Nat.zero_le _,h0⟩,?_⟩
 rintro i m σ H ⟨rfl,hi,p⟩
 have q:=hl i σ H hi p
 by_cases hlt:i < kvs.length
 ·refine .inr ⟨⟨q,hlt⟩,Pv (i+1),fun σ' H' p'=>⟨kvs.length - (i+1),by omega,rfl,hlt,p'⟩,fun x H' y=>?_⟩
  obtain⟨b,z,hb,rfl,rfl,hz⟩:=y
  exact hs i z b σ H hz hb p
 ·obtain rfl:i=kvs.length:=by omega
  exact .inl ⟨⟨q,Nat.le_refl _⟩,hd σ H p⟩
end L2
namespace L2
open PySem PySem.Spec PyProof.Rows
section
variable{X:Cx}{tg:Expr}
end
end L2
namespace L2
open PySem PySem.Spec PyProof.Rows
def Itk(d:Addr)(o:Obj)(kvs:List (Key × V)):It :=
 ⟨fun i H=>H d=some (.frz o (.dK kvs))∧i < kvs.length,fun i H x H'=>H'=H∧∃p,kvs[i]?=some p∧x=kV p.1,fun i H=>H d=some (.frz o (.dK kvs))∧kvs.length≤i⟩
theorem turn_keys{P:Program}{w:World}{K:PySem.W.Frag}{tg:Expr}{d it:Addr}{o:Obj}{kvs:List (Key × V)}{ys:List (Key × Value)}{ep:Nat}(rel:KV kvs ys)(hat:∀h:Heap,h.get? d=some o→h.DictAt (mixKind P w) d ys ep) :
  Turn P w K tg (Itk d o kvs) [it] it (fun i h=>h.IsKeyIter it d i ys.length ep) where
 mem:=by simp
 obj:=fun i h st b hb=>by
  obtain rfl:b=it:=by simpa using hb
  obtain⟨o,e,c,hd⟩:=st
  exact⟨o,e,fun v z=>by rw [hd] at z;cases z⟩
 keep:=fun i h h' st k=>by
  obtain⟨o,e,r⟩:=st
  exact⟨o,k it (by simp) _ e,r⟩
 item:=by
  intro X hP hw hK hc i pins s σ H E I hf st hg
  subst hP hw hK
  obtain⟨hd,hi⟩:=hg
  obtain⟨f0,f1,f2,f3,f4,f5⟩:=hf it (by simp)
  have ex:kvs[i]?=some kvs[i]:=List.getElem?_eq_getElem hi
  obtain⟨⟨k1,y⟩,hy,ek,ry⟩:=pair_get rel ex
  replace ek:kvs[i].1=k1:=ek
  refine wpAny_pyNext_dict_item st (hat _ (I.hok d _ hd).1) hy fun key h' hkey st' sb=>?_
  have I1:Inv X pins σ H { s with heap:=h' }:=I.turned (t':=s.toks) (fun b o hb e=>(sb.2 b hb).trans e) f0 f1 f3 f4 f5
  obtain⟨o',e,c,dt⟩:=id st'
  exact⟨key,rfl,go_of (s:={ s with heap:=h' }) e c dt (by decide) ⟨kV kvs[i].1,H,I1,by rw [ek];exact key_rel hkey,⟨rfl,_,ex,rfl⟩,st',fun b hb=>(hf b hb).1⟩⟩
 done:=by
  intro X hP hw hK hc i pins s σ H E I hf st hg
  subst hP hw hK
  obtain⟨hd,hi⟩:=hg
  obtain⟨f0,f1,f2,f3,f4,f5⟩:=hf it (by simp)
  have hl:kvs.length=ys.length:=rel.length
  exact wpAny_pyNext_dict_end (I.ok.hd hc) st (hat _ (I.hok d _ hd).1) (List.getElem?_eq_none (by omega)) fun h' eb=>⟨rfl,I.turned (t':=s.toks) (fun b o hb q=>eb b o hb q) f0 f1 f3 f4 f5⟩
 self:=fun _ _ _ _ _ st h=>wpAny_pyIter_keyiter st h
section
variable{X:Cx}{tg:Expr}
def iKeys(to:TE):TI:=fun σ H R=>to σ H fun x H1=>∃d kvs,x=.ref d∧H1 d=some (.dK kvs)∧∀o,R (Itk d o kvs) (upd H1 d (.frz o (.dK kvs)))
theorem pi_keys{o:Expr}{to:TE}(ho:PE X o to):PI X tg o (iKeys to):=by
 intro pins s σ H R I h
 refine thn (ho pins s σ H _ I h) fun v s1 ⟨x,H1,I1,r1,d,kvs,ex,hd,q⟩=>?_
 subst ex
 cases r1
 obtain⟨z,hs,ys,rel,dd⟩:=dk_of I1.hok hd
 obtain⟨ep,ob,en,e1,r1⟩:=dd.dictAt
 have hat:∀h:Heap,h.get? d=some ob→h.DictAt (mixKind X.prog X.w) d ys ep:=fun h e=>⟨ob,en,e,r1⟩
 refine wpAny_pyIter_dict hs (hat _ e1) ?_
 have hd2:(s1.heap.push { cls:=.type "dict_keyiterator",data:=.fields #[.ref d,.int 0 0,.int ys.length 0,.int ep 0] }).get? d=some ob:=Heap.get?_push_of_some _ e1
 have I2:=I1.kept (t':=s1.toks) (h':=s1.heap.push { cls:=.type "dict_keyiterator",data:=.fields #[.ref d,.int 0 0,.int ys.length 0,.int ep 0] }) fun b u e=>Heap.get?_push_of_some _ e
 have I3:=I2.write (x:=d) (e:=d) (o:=.frz ob (.dK kvs)) (t':=s1.toks) (h':=s1.heap.push { cls:=.type "dict_keyiterator",data:=.fields #[.ref d,.int 0 0,.int ys.length 0,.int ep 0] }) (by rw [hd];trivial) (.inl rfl) (fun _ _ _ e=>e) ⟨ob,hd2⟩
  ⟨hd2,z,hs,ys,rel,dd.at fun o e=>Heap.get?_push_of_some _ e⟩
 have hn:H1 s1.heap.objs.size=none:=I1.hok.fresh (Nat.le_refl _)
 refine⟨_,[s1.heap.objs.size],_,_,_,rfl,I3,turn_keys rel hat,⟨_,Heap.get?_push_size _ rfl,rfl,rfl⟩,fun b hb=>?_,q ob⟩
 obtain rfl:b=s1.heap.objs.size:=by simpa using hb
 refine I1.fpOk (Nat.le_refl _) ?_
 rw [upd_ne (fun e=>by rw [e,hd] at hn;cases hn)]
 exact hn
end
theorem for_keys{d:Addr}{o:Obj}{kvs:List (Key × V)}{g:TG}{tb:TS}{D:Ends}{σ:St}{H:Hp}(Pv:Nat→St→Hp→Prop)(h0:Pv 0 σ H)(hl:∀i σ H,i≤kvs.length→Pv i σ H→H d=some (.frz o (.dK kvs)))
  (hs:∀i p σ H,kvs[i]?=some p→Pv i σ H→g (kV p.1) σ H fun σ2 H2=>tb { D with nx:=Pv (i+1),ct:=Pv (i+1),bk:=D.nx } σ2 H2) (hd:∀σ H,Pv kvs.length σ H→D.nx σ H) :
  ∃W:Nat→Nat→St→Hp→Prop,(∃m,W 0 m σ H)∧∀i m σ H,W i m σ H →
   ((Itk d o kvs).stop i H∧D.nx σ H)∨((Itk d o kvs).go i H∧∃N:St→Hp→Prop,(∀σ' H',N σ' H'→∃m',m' < m∧W (i+1) m' σ' H')∧∀x H',(Itk d o kvs).yld i H x H'→g x σ H' fun σ2 H2=>tb { D with nx:=N,ct:=N,bk:=D.nx } σ2 H2):=by
 refine⟨fun i m σ H=>m=kvs.length - i∧i≤kvs.length∧Pv i σ H,⟨kvs.length,by simp,Nat.zero_le _,h0⟩,?_⟩
 rintro i m σ H ⟨rfl,hi,p⟩
 have q:=hl i σ H hi p
 by_cases hlt:i < kvs.length
 ·refine .inr ⟨⟨q,hlt⟩,Pv (i+1),fun σ' H' p'=>⟨kvs.length - (i+1),by omega,rfl,hlt,p'⟩,fun x H' y=>?_⟩
  obtain⟨rfl,z,hz,rfl⟩:=y
  exact hs i z σ _ hz p
 ·obtain rfl:i=kvs.length:=by omega
  exact .inl ⟨⟨q,Nat.le_refl _⟩,hd σ H p⟩
theorem pe_thaw{X:Cx}{e:Expr}{t:TE}(h:PE X e t):PE X e (fun σ H Q=>t σ H fun v H'=>∃d o u,H' d=some (.frz o u)∧(∀o' u',X.H₀ d≠some (.frz o' u'))∧Q v (upd H' d u)) :=
 fun pins s σ H _ I q=>thn (h pins s σ H _ I q) fun _ _ ⟨x,_,I',r,_,_,_,e,h0,q'⟩=>⟨x,_,I'.thaw e h0,r,q'⟩
end L2
namespace L2
open PySem PySem.Spec PyProof.Rows
theorem comp_items{d:Addr}{o:Obj}{kvs:List (Key × V)}{n:Nat}{κ:List Nat}{g:TG}{tc:TT}{te:TE}{σ:St}{H:Hp}{Q:VK}(Pv:Nat→List V→Hp→Prop)(h0:Pv 0 [] H)(hz:kvs.length≤sizeLine)(hlen:∀i ys H2,Pv i ys H2→ys.length≤i)
  (hl:∀i ys H2,Pv i ys H2→H2 d=some (.frz o (.dK kvs)))
  (hs:∀i p a ys H2 (N:List V→Hp→Prop),(∀ys' H',Pv (i+1) ys' H'→N ys' H')→kvs[i]?=some p→H2 a=none→Pv i ys H2→g (.ref a) (blkSt n κ σ) (upd H2 a (.tup [kV p.1,p.2])) fun σ4 H4=>σ4.drop n=(blkSt n κ σ).drop n∧tc σ4 H4 fun b H5=>if b=true then te σ4 H5 fun v H6=>N (ys++[v]) H6 else N ys H5)
  (hQ:∀ys H2 D,Pv kvs.length ys H2→H2 D=none→Q (.ref D) (upd H2 D (.lst ys))) :
  CompRun n κ g tc te σ (Itd d o kvs) H Q:=by
 refine⟨fun i m ys H2=>m=kvs.length - i∧i≤kvs.length∧Pv i ys H2,⟨kvs.length,rfl,Nat.zero_le _,h0⟩,?_⟩
 rintro i m ys H2 ⟨rfl,hi,p⟩
 have hd:=hl i ys H2 p
 by_cases hlt:i < kvs.length
 ·refine .inr ⟨⟨hd,hlt⟩,Nat.lt_of_le_of_lt (hlen i ys H2 p) (Nat.lt_of_lt_of_le hlt hz),fun x H3 y=>?_⟩
  obtain⟨a,z,ha,rfl,rfl,hz'⟩:=y
  exact hs i z a ys H2 (fun ys' H'=>∃m',m' < kvs.length - i∧m'=kvs.length - (i+1)∧i+1≤kvs.length∧Pv (i+1) ys' H') (fun ys' H' p'=>⟨kvs.length - (i+1),by omega,rfl,hlt,p'⟩) hz' ha p
 ·obtain rfl:i=kvs.length:=by omega
  exact .inl ⟨⟨hd,Nat.le_refl _⟩,fun D hD=>hQ ys H2 D p hD⟩
section
variable{X:Cx}
end
end L2
namespace L2
open PySem PySem.Spec PyProof.Rows
section
variable{X:Cx}{K:PySem.W.Frag}
theorem eqK(h:X.K=K)(hu:X.A.units+64 < cLine):OpR X (compareOp .Eq) (rEqD K false):=by subst h;exact op_eqD hu
theorem neK(h:X.K=K)(hu:X.A.units+64 < cLine):OpR X (compareOp .NotEq) (rEqD K true):=by subst h;exact op_neD hu
def rCatA(K:PySem.W.Frag):R2:=fun x y H Q=>∃a b xs ys,x=.ref a∧y=.ref b∧SqT K H a xs∧SqT K H b ys∧ys≠[]∧xs.length+ys.length≤sizeLine ∧
 ∀p H',Same H H'→SqT K H' p (xs++ys)→Q (.ref p) H'
theorem op_catA:OpR X (binaryOp .Add) (rCatA X.K):=by
 intro pins s σ H x y v u Q I rx ry h
 obtain⟨a,b,xs,ys,rfl,rfl,ha,hb,hy,hz,q⟩:=h
 by_cases hx:xs=[]
 ·subst hx
  cases rx
  cases ry
  obtain⟨its,r1,p1,_⟩:=I.tuple ha
  obtain⟨its2,r2,p2,_⟩:=I.tuple hb
  cases r1
  obtain⟨o1,e1,c1,n1,d1⟩:=p1
  obtain⟨o2,e2,c2,n2,d2⟩:=p2
  obtain⟨oc1,od1,dt1,sl1⟩:=o1
  obtain⟨oc2,od2,dt2,sl2⟩:=o2
  dsimp only at c1 d1 c2 d2
  subst c1 d1 c2 d2
  exact concat_meets ⟨_,e1,rfl⟩ ⟨_,e2,rfl⟩ noFill_tuple_add seq_tuple_add PySem.F.slot_tuple_add PySem.F.entry_tuple_add (PySem.F.args_tuple_add_2 _ _)
   (tuple_addW0 a b _ its2.toArray n1 n2 od1 od2 sl1 sl2 rfl) ⟨e1,e2,.ref b,H,I,rfl,q b H (fun _ _ e=>e) hb⟩
 ·refine op_catT pins s σ H _ _ v u Q I rx ry ⟨a,b,xs,ys,rfl,rfl,ha,hb,hx,hz,fun z=>absurd z hy,fun _ p hp=>q p _ (fun b u e=>by rw [upd_ne (ne_of_none e hp)];exact e) (SqT.of upd_same)⟩
theorem pg_two{i j:Nat}{x y:Str}{k:Nat}{px py pt:Pos}(hK:X.K=K)(hc:X.calm=true)(hN:X.N.Nodup)(hi:X.N[i]?=some x)(hx:Loc X.env.scope x)(hfx:X.fn x=true∨X.env.scope.names.lookup x=some .local)
  (hj:X.N[j]?=some y) (hy:Loc X.env.scope y) (hfy:X.fn y=true∨X.env.scope.names.lookup y=some .local):PG X (.Tuple [.Name x px,.Name y py] k pt) (gTup K 2 (gCons (gName i) (gCons (gName j) gNil))):=by
 subst hK
 exact pg_tup hc (pgs_cons (pg_name hN hi hx hfx) (pgs_cons (pg_name hN hj hy hfy) pgs_nil))
end
end L2
namespace L2
open PySem PySem.Spec PyProof.Rows
end L2
namespace L2
open PySem PySem.Spec PyProof.Rows
def excInI(K:PySem.W.Frag)(C:Addr)(bmB:List Value)(newId:String):Bool:=match K.lookup C with|some ⟨.type "type",_,.cls cd,sl⟩=>(match cd.mro,sl.toList with|.ref C'::bm,[_,_,_,_,some (.builtin n),_]=>C'==C&&n==newId&&!cd.hasDel&&PySem.W.tailIn K bmB bm|_,_=>false)|_=>false
structure ExcI(h:Heap)(C:Addr)(bmB:List Value)(newId:String):Prop where
 obj:∃bm N nm q bs hdct sn sub ab col dd k0 k1 k2 k3 k5,h.get? C=some (excClassObj nm q C N bs bm hdct sn sub ab col dd k0 k1 k2 k3 k5 newId)∧OwnTail h bmB bm
theorem excI_of{K:PySem.W.Frag}{h:Heap}{C:Addr}{bmB:List Value}{newId:String}(kin:K.In h)(q:excInI K C bmB newId=true):ExcI h C bmB newId:=by
 refine⟨?_⟩
 unfold excInI at q
 split at q
 next ddx cdx slx look =>
  split at q
  next C2 tl z0 z1 z2 z3 nn z5 hmro hsl =>
   simp only [Bool.not_eq_true',Bool.and_eq_true,beq_iff_eq] at q
   obtain⟨⟨⟨e1,e2⟩,hdel⟩,htl⟩:=q
   obtain⟨nm,bs,mro,ns,qn,hd,sn,sub,ab,col,del⟩:=cdx
   obtain⟨sll⟩:=slx
   dsimp only at hmro hdel hsl
   subst e1 e2 hmro hdel hsl
   exact⟨tl,ns,nm,qn,bs,hd,sn,sub,ab,col,ddx,z0,z1,z2,z3,z5,kin _ _ look,PySem.W.tail_of_in kin htl⟩
  next=>cases q
 next=>cases q
abbrev rawExc(C:Addr)(d:Option Addr)(t:Addr):Obj:={ cls:=.ref C,dict:=d,data:=.fields #[.ref t,.none,.none,.none,.bool false,.none] }
abbrev madeHp(h:Heap)(C:Addr)(us:List Value):Heap:=(h.push { cls:=.type "tuple",data:=.seq us.toArray }).push (rawExc C none h.objs.size)
section
variable{prog:Program}{w:World}{A:Around}{E:Value→Shared→Prop}{h:Heap}{g:Array GenState}{d:Drawn}{t:Nat}{os:OsState}{K:PySem.W.Frag}{C fI:Addr}{us:List Value}
theorem made_at:(madeHp h C us).get? (h.objs.size+1)=some (rawExc C none h.objs.size):=by
 have:=Heap.get?_push_size (h.push { cls:=.type "tuple",data:=.seq us.toArray }) (o:=rawExc C none h.objs.size) rfl
 rwa [Heap.size_push] at this
theorem made_keeps:∀b o,h.get? b=some o→(madeHp h C us).get? b=some o:=fun b o e=>Heap.get?_push_of_some _ (Heap.get?_push_of_some _ e)
theorem exc_typeCall{Q:Fin→Shared→Prop}(X:K.In h) (q:excInI K C bmVE "ValueError.__new__"=true) (hi:PySem.W.findIn K (.ref C) "__init__"=some (some (.ref fI))) (hf:PySem.W.typeIn K (.ref fI)=some (.type "function")) (hl:us.length≤sizeLine)
  (hq:wpAny (model prog w) A (call (.ref fI) (.ref (h.objs.size+1)::us)) (fun r s'=>r=.none∧Q (.done (.ret (.ref (h.objs.size+1)))) s') E ⟨madeHp h C us,g,d,t,os⟩) :
  wpAny (model prog w) A (Builtin.«type.__call__» ⟨.ref C::us,[]⟩) Q E ⟨h,g,d,t,os⟩:=by
 have F:=PySem.F.excBase_ValueError
 have X1:K.In (madeHp h C us):=X.keeps made_keeps
 have hget:=made_at (h:=h) (C:=C) (us:=us)
 obtain⟨bm,N,nm,qq,bs,hdct,sn,sub,ab,col,dd,k0,k1,k2,k3,k5,hCl,T⟩:=(excI_of X q).obj
 have hC1:=made_keeps (h:=h) (C:=C) (us:=us) _ _ hCl
 have self:(Value.ref C::bm).contains (.ref C)=true:=by simp
 repeat (first|with_reducible refine wpAny_loadPart_at hCl ?_|with_reducible refine wpAny_madeBy_exc hCl ?_|wp_step)
 refine codeAny_call_builtin_code (Code.quiet_builtin _ F.quiet) (wpAny_check_new_subU F (by decide +kernel) T hCl (codeAny_exc_new_subU F (by decide +kernel) F T hCl ?_ hl))
 show wpAny _ _ _ _ _ ⟨madeHp h C us,g,d,t,os⟩
 unfold isInstance
 repeat (first|with_reducible refine wpAny_loadPart_at hget ?_|(with_reducible refine wpAny_isSubtype_exc hC1 ?_;rw [self])|wp_step)
 show wpAny (model prog w) A (typeLookup (.ref C) _) _ _ _
 refine(PySem.W.looks_findIn X1 hi).at ?_
 refine wpAny_holding (wpAny_bind ((PySem.W.bind_fn X1 _ hf).at ?_))
 refine wpAny_bind (wpAny_mono hq (fun r s' ⟨hr,hQ⟩=>?_) fun _ _ z=>z)
 subst hr
 wp_walk
 exact hQ
theorem exc_call{Q:Value→Shared→Prop}(X:K.In h) (q:excInI K C bmVE "ValueError.__new__"=true) (hi:PySem.W.findIn K (.ref C) "__init__"=some (some (.ref fI))) (hf:PySem.W.typeIn K (.ref fI)=some (.type "function")) (hl:us.length≤sizeLine)
  (hq:wpAny (model prog w) (A.under (.builtin "type.__call__" ⟨.ref C::us,[]⟩)) (call (.ref fI) (.ref (h.objs.size+1)::us)) (fun r s'=>r=.none∧Q (.ref (h.objs.size+1)) s') E ⟨madeHp h C us,g,d,t,os⟩) :
  wpAny (model prog w) A (call (.ref C) us) Q E ⟨h,g,d,t,os⟩:=by
 obtain⟨bm,N,nm,qq,bs,hdct,sn,sub,ab,col,dd,k0,k1,k2,k3,k5,hCl,T⟩:=(excI_of X q).obj
 have tl:=tc_lookup
 have tb:=tc_bind (.ref C)
 have ty:Shared.TypeIs ⟨h,g,d,t,os⟩ (.ref C) "type":=⟨_,hCl,rfl⟩
 refine wpAny_call (codeAny_of_tree (show wpAny (model prog w) _ (callAny (.ref C) _) _ _ _ from ?_))
 repeat (any_goals (first|assumption|with_reducible refine wpAny_loadPart_at hCl ?_|wp_step))
 exact⟨rfl,codeAny_call_builtin_at (Code.quiet_builtin _ (by decide +kernel)) entry_typeCall (wpAny_check_type_call_sub hCl (exc_typeCall X q hi hf hl hq))⟩
end
section
variable{prog:Program}{w:World}{A:Around}{E:Value→Shared→Prop}{s:Shared}{env:Env}{K:PySem.W.Frag}{C fI:Addr}
theorem exc_raiseStmt{m:Sem Value}{Q:Flow→Shared→Prop} (q:excInI K C bmVE "ValueError.__new__"=true) (hno:A.handled=none)
  (h:wpAny (model prog w) A m (fun v s1=>∃e d t,v=.ref e∧K.In s1.heap∧s1.heap.get? e=some (rawExc C d t)∧E (.ref e) s1) E s):wpAny (model prog w) A (raiseStmt env (some m) none) Q E s:=by
 unfold raiseStmt
 refine wpAny_bind (wpAny_mono h (fun v s1 ⟨e,d,t,hv,X,he,hE⟩=>?_) fun _ _ z=>z)
 subst hv
 obtain⟨bm,N,nm,qq,bs,hdct,sn,sub,ab,col,dd,k0,k1,k2,k3,k5,hCl,T⟩:=(excI_of X q).obj
 have be:(Value.ref C::bm).contains (.type "BaseException")=true:=by rw [List.contains_cons,T.hasType PySem.F.excBase_ValueError.hasBase,Bool.or_true]
 obtain⟨hp,gs,dr,tk,os⟩:=s1
 dsimp only at he hCl
 repeat (first|with_reducible refine wpAny_loadPart_at he ?_|with_reducible refine wpAny_loadPart_at hCl ?_|(with_reducible refine wpAny_isSubtype_exc hCl ?_;rw [be])|wp_step)
 exact wpAny_raiseNew_none hno hE
theorem exc_Raise{x:Str}{npos cpos pos:Pos}{args:List Expr}{Q:Flow→Shared→Prop} (q:excInI K C bmVE "ValueError.__new__"=true) (hi:PySem.W.findIn K (.ref C) "__init__"=some (some (.ref fI))) (hf:PySem.W.typeIn K (.ref fI)=some (.type "function"))
  (hno:A.handled=none) (hpl:(backTo cpos (starEach args env)).any (·.1)=false)
  (h:wpAny (model prog w) A (eval (.Name x npos) env) (fun f s1=>f=.ref C∧wpAny (model prog w) A (evalArgs (.ref C) true (backTo cpos (starEach args env)) [])
   (fun a s2=>a.kw=[]∧a.pos.length≤sizeLine∧K.In s2.heap∧wpAny (model prog w) (A.under (.builtin "type.__call__" ⟨.ref C::a.pos,[]⟩)) (call (.ref fI) (.ref (s2.heap.objs.size+1)::a.pos))
    (fun r s3=>r=.none∧K.In s3.heap∧(∃d t,s3.heap.get? (s2.heap.objs.size+1)=some (rawExc C d t))∧E (.ref (s2.heap.objs.size+1)) s3) E { s2 with heap:=madeHp s2.heap C a.pos }) E s1) E s) :
  wpAny (model prog w) A (exec (.Raise (some (.Call (.Name x npos) args [] cpos)) none pos) env) Q E s:=by
 rw [arm_exec_Raise]
 refine wpAny_bind (wpAny_standAt (exc_raiseStmt (env:=env) (K:=K) (C:=C) q hno ?_))
 refine wpAny_bind (wpAny_mono (wpAny_Call_ofName (wpAny_mono h (fun f s1 z=>?_) fun _ _ z=>z)) (fun v s3 z=>wpAny_bind (wpAny_standAt (wpAny_pure z))) fun _ _ z=>z)
 obtain⟨rfl,z⟩:=z
 unfold callWith
 refine wpAny_bind (wpAny_holding (wpAny_mono z (fun a s2 y=>wpAny_bind (wpAny_standAt ?_)) fun _ _ z=>z))
 obtain⟨us,kw⟩:=a
 obtain⟨hk,hl,X,y⟩:=y
 obtain rfl:kw=[]:=hk
 obtain⟨bm,N,nm,qq,bs,hdct,sn,sub,ab,col,dd,k0,k1,k2,k3,k5,hCl,T⟩:=(excI_of X q).obj
 obtain⟨hp,gs,dr,tk,os⟩:=s2
 simp only [hpl]
 refine wpAny_bind (wpAny_keeperOf_exc hCl ?_)
 refine wpAny_bind (exc_call X q hi hf hl (wpAny_mono y (fun r s3 ⟨y1,y2,⟨d,t,y3⟩,y4⟩=>⟨y1,wpAny_bind (wpAny_holding (wpAny_point (wpAny_pure ⟨_,d,t,rfl,y2,y3,y4⟩)))⟩) fun _ _ z=>z))
end
end L2
namespace L2
open PySem PySem.Spec PyProof.Rows
def cut(H:Hp)(x:Addr):Hp:=fun b=>if b=x then none else H b
theorem cut_same{H:Hp}{x:Addr}:cut H x x=none:=by unfold cut;rw [if_pos rfl]
theorem cut_ne{H:Hp}{x b:Addr}(h:b≠x):cut H x b=H b:=by unfold cut;rw [if_neg h]
def excRaw(e C:Addr)(d:Option Addr)(h:Heap):Prop:=∃t,h.get? e=some (rawExc C d t)
theorem excRaw_ok{P:Program}{w:World}{H:Hp}{h:Heap}{e C:Addr}{d:Option Addr}(p:excRaw e C d h):ObjOk P w H h e (.ext (excRaw e C d)):=⟨p,let ⟨_,q⟩:=p;⟨_,q⟩,fun _ _ ⟨t,q⟩ k=>⟨t,k _ q⟩⟩
section
variable{X:Cx}{pins:List (Addr × Obj)}{σ:St}{H:Hp}{s:Shared}{x:Addr}
theorem Inv.cut{φ:Heap→Prop}(I:Inv X pins σ H s)(hx:H x=some (.ext φ)):Inv X pins σ (L2.cut H x) s:=by
 have ne:∀b u,(∀ψ,u≠.ext ψ)→H b=some u→b≠x:=fun b u hu e z=>by rw [z,hx] at e;exact hu _ (Option.some.inj e).symm
 have le:∀b,H b=none→L2.cut H x b=none:=fun b e=>by unfold L2.cut;split<;>first|rfl|exact e
 refine⟨I.ok,I.os,I.bare,⟨I.base.keep,I.base.slot,fun b ob e n hb=>le b (I.base.free b ob e n hb),I.base.there,fun b xs e=>?_,fun b ob u e=>?_,fun b ps e=>?_⟩,I.loc,I.cell,le _ I.free,fun y c e=>le c (I.freeC y c e),fun p hp=>?_,fun b u e=>?_,I.len⟩
 ·have z:=I.base.tups b xs e
  rw [cut_ne (ne _ _ (fun _ q=>by cases q) z)]
  exact z
 ·have z:=I.base.frzs b ob u e
  rw [cut_ne (ne _ _ (fun _ q=>by cases q) z)]
  exact z
 ·obtain⟨m,z⟩:=I.base.tbls b ps e
  exact⟨m,by rw [cut_ne (ne _ _ (fun _ q=>by cases q) z)];exact z⟩
 ·obtain⟨a1,a2,a3⟩:=I.pin p hp
  exact⟨a1,le _ a2,a3⟩
 ·by_cases eb:b=x
  ·subst eb
   rw [cut_same] at e
   cases e
  ·rw [cut_ne eb] at e
   refine(I.hok b u e).stay (fun _ _ _ q=>q) (fun c q=>?_) fun c xs q=>?_
   ·rw [cut_ne (ne _ _ (fun _ q=>by cases q) q)];exact q
   ·rw [cut_ne (ne _ _ (fun _ z=>by cases xs<;>cases z) q)];exact q
end
section
variable{P:Program}{w:World}{K:PySem.W.Frag}{mg:Str→Option Value}{base:Heap}
structure MkX(K:PySem.W.Frag)(C fI:Addr):Prop where
 ex:excInI K C bmVE "ValueError.__new__"=true
 init:PySem.W.findIn K (.ref C) "__init__"=some (some (.ref fI))
 fn:PySem.W.typeIn K (.ref fI)=some (.type "function")
end
end L2
namespace L2
open PySem PySem.Spec PyProof.Rows Builtin Builtin.ObjectAttr
def refPass(l:List Value):Bool:=l.dropWhile (fun|.ref _=>true|_=>false)==bmVE
theorem refuse_exc(self:Value):∀{l:List Value},refPass l=true→refuseLoop self "__setattr__" l=pure ()
 |[],e=>by cases e
 |v::r,e=>by
  cases v with
  |ref c=>rw [refuseLoop_ref];exact refuse_exc self e
  |type n=>rw [beq_iff_eq.mp (show(Value.type n::r==bmVE)=true from e)];exact PySem.F.store_ValueError.passes self
  |_=>cases e
structure ExcSet(K:PySem.W.Frag)(C:Addr):Prop where
 sa:PySem.W.findIn K (.ref C) "__setattr__"=some (some (.builtin "object.__setattr__"))
 po:(PySem.W.clsIn K C).any (fun cd=>refPass cd.mro)=true
 hd:PySem.W.hasDictIn K C=true
 ob:PySem.W.mroIn K C (.type "object")=some true
section
variable{prog:Program}{w:World}{A:Around}{E:Value→Shared→Prop}{s:Shared}{K:PySem.W.Frag}{x C:Addr}{name:Str}{v:Value}
theorem osa_exc{ox:Obj}{od:Option Obj}{tk0:Tok}{R:Result→Shared→Prop}(X:K.In s.heap)(I:PySem.W.InstAt s.heap x ox C od)(c:ExcSet K C)(ht:PySem.W.takerIn K C name=some none)
  (h:∀b,wpAny (model prog w) A.in1 (storeInOwnDict (.ref x) (.ref C) (.str name tk0) name v b)
   (fun fx s'=>match fx with|.done f=>R (.ok f) s'|.again c'=>c'.quiet=true∧codeAny (model prog w) A c' R s') (fun e s'=>R (.error e) s') s) :
  codeAny (model prog w) A (.call (.builtin "object.__setattr__") ⟨[.ref x,.str name tk0,v],[]⟩) R s:=by
 have S:=PySem.F.store_object
 obtain⟨cd,hc,ho⟩:=PySem.W.any_some c.po
 have isO:PySem.W.Looks (model prog w) s.heap (isInstance (.ref x) (.type "object")) true:=I.type.andThen (PySem.W.looks_mroIn X c.ob)
 have mr:PySem.W.Looks (model prog w) s.heap (mroOf (.ref C)) cd.mro:=(PySem.W.looks_clsIn X hc).andThen .now
 refine codeAny_call_builtin S.slot.plain S.entry (@PySem.W.check_slot (model prog w) _ _ s "object.__setattr__" "object" "__setattr__" (.ref x) [.str name tk0,v] [] _ S.kind S.split isO (S.args (.ref x) (.str name tk0) v) ?_)
 obtain⟨at0,ha,hr⟩:=Option.bind_eq_some_iff.mp ht
 have tk3:PySem.W.Looks (model prog w) s.heap (storeTaker? at0) none:=by
  cases at0 with
  |none=>exact .now
  |some a =>
   obtain⟨b,hb,hn⟩:=Option.map_eq_some_iff.mp hr
   refine(PySem.W.looks_takesIn X hb).andThen ?_
   cases b with
   |true=>cases hn
   |false=>exact .now
 rw [PySem.W.osa_eq,refuse_eq]
 refine wpAny_bind (wpAny_bind (I.type.here (wpAny_bind (mr.here ?_))))
 rw [refuse_exc _ ho]
 exact wpAny_pure (wpAny_bind (I.type.here (wpAny_bind ((PySem.W.looks_findIn X ha).here (wpAny_bind (tk3.here (h _)))))))
def xdAt(dx:Addr)(fs:List (Str × V))(h:Heap):Prop:=∃mA,h.Ns1 dx mA∧(∀f,RelO (fs.lookup f) (mA f))∧PySem.Within mA (fs.map (·.1))
theorem set_exc0{t:Addr}{Q:Unit→Shared→Prop}(X:K.In s.heap)(c:ExcSet K C)(ht:PySem.W.takerIn K C name=some none)(hx:s.heap.get? x=some (rawExc C none t))
  (h:∀h',h'.get? x=some (rawExc C (some s.heap.objs.size) t)→h'.Ns1 s.heap.objs.size (fun y=>if y=name then some v else none)→(∀b o,b≠x→s.heap.get? b=some o→h'.get? b=some o)→Q () { s with heap:=h',toks:=s.toks+2 }) :
  wpAny (model prog w) A (setAttr (.ref x) name v) Q E s:=by
 have J:PySem.W.InstAt s.heap x (rawExc C none t) C none:=⟨hx,rfl,rfl,True.intro⟩
 obtain⟨cd,hc,hd⟩:=PySem.W.any_some c.hd
 refine PySem.W.set_plain X J c.sa (osa_exc (s:={ s with toks:=s.toks+1 }) X J c ht fun b=>?_)
 obtain⟨hh,gs,dr,tt,oss⟩:=s
 dsimp only at hx X h ⊢
 refine wpAny_bind (wpAny_pure (wpAny_bind (wpAny_bind (wpAny_loadPart hx (wpAny_bind ((PySem.W.looks_clsIn X hc).at ?_))))))
 rw [hd]
 have hx1:(hh.push { cls:=.type "dict",data:=.dict #[] }).get? x=some (rawExc C none t):=Heap.get?_push_of_some _ hx
 have nx:x≠hh.objs.size:=Nat.ne_of_lt (Heap.lt_size hx)
 refine wpAny_bind (wpAny_alloc' (wpAny_bind (wpAny_update' hx1 (wpAny_pure ?_))))
 have e1:((hh.push { cls:=.type "dict",data:=.dict #[] }).update x fun o=>{ cls:=o.cls,dict:=some hh.objs.size,data:=o.data,slots:=o.slots }).get? hh.objs.size=some { cls:=.type "dict",data:=.dict #[] } :=
  (Heap.get?_update_ne _ _ _ _ nx.symm).trans (Heap.get?_push_at rfl rfl)
 have e2:((hh.push { cls:=.type "dict",data:=.dict #[] }).update x fun o=>{ cls:=o.cls,dict:=some hh.objs.size,data:=o.data,slots:=o.slots }).Ns hh.objs.size (fun _=>none) :=
  ⟨_,#[],_,e1,rfl,fun e he=>absurd he (by simp),fun _=>rfl⟩
 refine wpAny_bind (wpAny_pure (wpAny_bind (wpAny_nsSet1 (Heap.Ns1.of_empty e2) fun h' hn' hs=>?_)))
 obtain⟨oD,esD,epD,hoD,hdD,hcD⟩:=hn'.count (PySem.Within.cons name v PySem.Within.nil)
 refine wpAny_bind (wpAny_lookBehind hoD (by rw [hdD];exact pastItsLine_dict (Nat.le_trans hcD (by rw [List.length_cons,List.length_nil,sizeLine_eq];omega))) (wpAny_pure ?_))
 exact h h' ((hs.2 x nx).trans (Heap.get?_update_self _ hx1 rfl)) hn' fun b o hb e=>(hs.2 b (Nat.ne_of_lt (Heap.lt_size e))).trans ((Heap.get?_update_ne _ _ _ _ hb).trans (Heap.get?_push_of_some _ e))
theorem set_exc1{t dx:Addr}{mA:Str→Option Value}{ns:List Str}{Q:Unit→Shared→Prop}(X:K.In s.heap)(c:ExcSet K C)(ht:PySem.W.takerIn K C name=some none)(hx:s.heap.get? x=some (rawExc C (some dx) t))(hn:s.heap.Ns1 dx mA)
  (hw:PySem.Within mA ns) (hsz:ns.length≤sizeLine) (h:∀h',h'.Ns1 dx (fun y=>if y=name then some v else mA y)→Heap.SameBut dx s.heap h'→Q () { s with heap:=h',toks:=s.toks+2 }) :
  wpAny (model prog w) A (setAttr (.ref x) name v) Q E s:=by
 have hdx:∃od,s.heap.get? dx=some od:=let ⟨o,_,_,e,_⟩:=hn;⟨o,e⟩
 obtain⟨od,hod⟩:=hdx
 have J:PySem.W.InstAt s.heap x (rawExc C (some dx) t) C (some od):=⟨hx,rfl,rfl,hod⟩
 obtain⟨cd,hc,hd⟩:=PySem.W.any_some c.hd
 refine PySem.W.set_plain X J c.sa (osa_exc (s:={ s with toks:=s.toks+1 }) X J c ht fun b=>?_)
 obtain⟨hh,gs,dr,tt,oss⟩:=s
 dsimp only at hx X h hn ⊢
 refine wpAny_bind (wpAny_pure (wpAny_bind (wpAny_bind (wpAny_loadPart hx (wpAny_bind ((PySem.W.looks_clsIn X hc).at ?_))))))
 rw [hd]
 refine wpAny_pure (a:=some dx) (wpAny_bind (wpAny_pure (wpAny_bind (wpAny_nsSet1 hn fun h' hn' hs=>?_))))
 obtain⟨oD,esD,epD,hoD,hdD,hcD⟩:=hn'.count (PySem.Within.cons name v hw)
 exact wpAny_bind (wpAny_lookBehind hoD (by rw [hdD];exact pastItsLine_dict (Nat.le_trans hcD (by rw [List.length_cons];omega))) (wpAny_pure (h h' hn' hs)))
end
theorem xdAt_ok{P:Program}{w:World}{H:Hp}{h:Heap}{dx:Addr}{fs:List (Str × V)}(p:xdAt dx fs h):ObjOk P w H h dx (.ext (xdAt dx fs)):=by
 refine⟨p,?_,fun h1 h2 q k=>?_⟩
 ·obtain⟨_,⟨o,_,_,e,_⟩,_⟩:=p
  exact⟨o,e⟩
 ·obtain⟨mA,⟨o,es,ep,e,r⟩,z⟩:=q
  exact⟨mA,⟨o,es,ep,k o e,r⟩,z⟩
section
variable{X:Cx}{pins:List (Addr × Obj)}{σ:St}{H H0:Hp}{s s0:Shared}{dx:Addr}
theorem Inv.trackNew{o:HO}(I0:Inv X pins σ H0 s0)(I:Inv X pins σ H s)(hd:s0.heap.objs.size≤dx)(hx:H dx=none)(ho:ObjOk X.prog X.w (upd H dx o) s.heap dx o):Inv X pins σ (upd H dx o) s:=by
 have ne:∀b ob,s0.heap.get? b=some ob→b≠dx:=fun b ob e=>Nat.ne_of_lt (Nat.lt_of_lt_of_le (Heap.lt_size e) hd)
 refine I.track (Heap.get?_none_of_le (Nat.le_trans I0.sz hd)) (Nat.ne_of_lt (Nat.lt_of_lt_of_le I0.lt hd)).symm (fun y c e=>?_) (fun p hp=>ne _ _ (I0.pin p hp).1) hx ho
 obtain⟨v,ob,h1,_⟩:=I0.cell y c e
 exact ne _ _ h1
end
section
variable{X:Cx}{o value:Expr}{f:Str}{pos pos':Pos}{ta tv:TE}
theorem ps_xfld0(ha:PE X o ta)(hv:PE X value tv)(hs:swapsWith value (some (.Attribute o f pos')) pos.line X.env=pure false):PS X (.Assign [.Attribute o f pos'] value pos)
  (fun D σ H=>tv σ H fun y H1=>ta σ H1 fun x H2=>∃e C,x=.ref e∧ExcSet X.K C∧PySem.W.takerIn X.K C f=some none∧H2 e=some (.ext (excRaw e C none))∧∀dx,H2 dx=none→D.nx σ (upd (upd H2 e (.ext (excRaw e C (some dx)))) dx (.ext (xdAt dx [(f,y)])))):=by
 intro pins s σ H D I h
 refine plainObj_wpAny_Assign_Attribute (thn (hv pins s σ H _ I h) fun u s1 ⟨y,H1,I1,ry,q⟩=>thn (ha pins s1 σ H1 _ I1 q) fun ov s2 ⟨x,H2,I2,rx,e,C,ex,c,ht,he,q2⟩=>?_) hs
 subst ex
 obtain rfl:ov=Value.ref e:=rx
 obtain⟨⟨t,p⟩,_,_⟩:=(show ObjOk X.prog X.w H2 s2.heap e (.ext (excRaw e C none)) from I2.hok e _ he)
 refine set_exc0 I2.kIn c ht p fun h' p' n' k'=>?_
 have hn:H2 s2.heap.objs.size=none:=I2.hok.fresh (Nat.le_refl _)
 have ne:s2.heap.objs.size≠e:=(ne_of_none he hn).symm
 have I3:=I2.write (x:=e) (e:=e) (o:=.ext (excRaw e C (some s2.heap.objs.size))) (h':=h') (t':=s2.toks+2) (by rw [he];exact True.intro) (.inl rfl) (fun b ob hb z=>k' b ob hb z) ⟨_,p'⟩ (excRaw_ok ⟨t,p'⟩)
 refine⟨σ,_,I2.trackNew I3 (Nat.le_refl _) (by rw [upd_ne ne];exact hn) (xdAt_ok ⟨_,n',fun g=>?_,fun g hg=>?_⟩),q2 _ hn⟩
 ·show RelO (List.lookup g [(f,y)]) (if g=f then some u else none)
  by_cases z:g=f
  ·subst z
   rw [if_pos rfl]
   show RelO (match g==g with|true=>some y|false=>none) (some u)
   rw [beq_self_eq_true]
   exact ry
  ·rw [if_neg z]
   show RelO (match g==f with|true=>some y|false=>none) none
   rw [beq_false_of_ne z]
   exact True.intro
 ·by_cases z:g=f
  ·subst z
   exact .head _
  ·exact absurd (show(if g=f then some u else none)=none by rw [if_neg z]) hg
theorem ps_xfld1(ha:PE X o ta)(hv:PE X value tv)(hs:swapsWith value (some (.Attribute o f pos')) pos.line X.env=pure false):PS X (.Assign [.Attribute o f pos'] value pos)
  (fun D σ H=>tv σ H fun y H1=>ta σ H1 fun x H2=>∃e C dx fs,x=.ref e∧ExcSet X.K C∧PySem.W.takerIn X.K C f=some none∧H2 e=some (.ext (excRaw e C (some dx)))∧H2 dx=some (.ext (xdAt dx fs))∧fs.length < 1000∧D.nx σ (upd H2 dx (.ext (xdAt dx (putF f y fs))))):=by
 intro pins s σ H D I h
 refine plainObj_wpAny_Assign_Attribute (thn (hv pins s σ H _ I h) fun u s1 ⟨y,H1,I1,ry,q⟩=>thn (ha pins s1 σ H1 _ I1 q) fun ov s2 ⟨x,H2,I2,rx,e,C,dx,fs,ex,c,ht,he,hdx,hl,q2⟩=>?_) hs
 subst ex
 obtain rfl:ov=Value.ref e:=rx
 obtain⟨⟨t,p⟩,_,_⟩:=(show ObjOk X.prog X.w H2 s2.heap e (.ext (excRaw e C (some dx))) from I2.hok e _ he)
 obtain⟨⟨mA,n,r,wi⟩,_,_⟩:=(show ObjOk X.prog X.w H2 s2.heap dx (.ext (xdAt dx fs)) from I2.hok dx _ hdx)
 have hz:(fs.map (·.1)).length≤sizeLine:=by rw [List.length_map,sizeLine_eq];omega
 refine set_exc1 I2.kIn c ht p n wi hz fun h' n' sb=>?_
 refine⟨σ,_,I2.write (x:=dx) (e:=dx) (o:=.ext (xdAt dx (putF f y fs))) (h':=h') (t':=s2.toks+2) (by rw [hdx];exact True.intro) (.inl rfl) (fun b ob hb z=>(sb.2 b hb).trans z) (let ⟨o,_,_,e,_⟩:=n';⟨o,e⟩) (xdAt_ok ⟨_,n',fun g=>?_,fun g hg=>?_⟩),q2⟩
 ·show RelO ((putF f y fs).lookup g) (if g=f then some u else mA g)
  rw [lookup_putF]
  by_cases z:g=f
  ·rw [if_pos z,if_pos z];exact ry
  ·rw [if_neg z,if_neg z];exact r g
 ·by_cases z:g=f
  ·rw [z];exact(keys_putF f y fs).1
  ·refine(keys_putF f y fs).2 g (wi g fun zz=>hg ?_)
   show(if g=f then some u else mA g)=none
   rw [if_neg z]
   exact zz
end
end L2
namespace L2
open PySem PySem.Spec PyProof.Rows Builtin Builtin.ObjectAttr
structure BaseI(K:PySem.W.Frag)(R:Addr):Prop where
 ga:PySem.W.specialIn K (.ref R) "__getattribute__"=some (some (.builtin "type.__getattribute__"))
 rd:PySem.W.readsIn K R (.type "type")=true
 fi:PySem.W.findCls K (.ref R) (.type "type") "__init__"=some (.val (.builtin "ValueError.__init__"))
theorem upd_id{H:Hp}{a:Addr}{o:HO}(h:H a=some o):upd H a o=H:=by
 funext b
 unfold upd
 split
 ·next e=>rw [e,h]
 ·rfl
section
variable{X:Cx}
theorem init_run{pins:List (Addr × Obj)}{σ:St}{H:Hp}{s:Shared}{e C:Addr}{d:Option Addr}{us:List Value}{Q:Value→Shared→Prop}(I:Inv X pins σ H s) (hx:excInI X.K C bmVE "ValueError.__new__"=true) (he:H e=some (.ext (excRaw e C d))) (hl:us.length≤sizeLine)
  (h:∀s',Inv X pins σ H s'→Q .none s'):wpAny (model X.prog X.w) X.A (call (.builtin "ValueError.__init__") (.ref e::us)) Q X.xe s:=by
 have F:=PySem.F.excBase_ValueError
 obtain⟨⟨t,p⟩,_,_⟩:=(show ObjOk X.prog X.w H s.heap e (.ext (excRaw e C d)) from I.hok e _ he)
 obtain⟨bm,N,nm,qq,bs,hdct,sn,sub,ab,col,dd,k0,k1,k2,k3,k5,hCl,T⟩:=(excI_of I.kIn hx).obj
 have fin:∀h' tk,h'.get? e=some (rawExc C d s.heap.objs.size)→(∀b o,b≠e→s.heap.get? b=some o→h'.get? b=some o)→Q .none { s with heap:=h',toks:=tk }:=fun h' tk p' k'=>by
  have I3:=I.write (x:=e) (e:=e) (o:=.ext (excRaw e C d)) (h':=h') (t':=tk) (by rw [he];exact True.intro) (.inl rfl) (fun b ob hb z=>k' b ob hb z) ⟨_,p'⟩ (excRaw_ok ⟨_,p'⟩)
  rw [upd_id he] at I3
  exact h _ I3
 obtain⟨hh,g,dr,tt,os⟩:=s
 dsimp only at p hCl fin
 refine wpAny_call (codeAny_call_builtin F.init.plain F.initEntry (wpAny_check_init_subU F T hCl p rfl ?_))
 have p1:(hh.push { cls:=.type "tuple",data:=.seq us.toArray }).get? e=some (rawExc C d t):=Heap.get?_push_of_some _ p
 wp_walk
 refine fin _ _ ?_ fun b o hb z=>?_
 ·rw [Heap.get?_update_self _ p1 rfl]
  rfl
 ·rw [Heap.get?_update_other _ _ (Ne.symm hb)]
  exact Heap.get?_push_of_some _ z
theorem pe_baseInit{c:Str}{R:Addr}{p apos pos:Pos}{e₀:Expr}{es:List Expr}{t:TA}{pl:Sem Bool}(b:BaseI X.K R)(hg:Gl X c)(hm:X.mg c=some (.ref R))(ha:PA X (e₀::es) t)
  (ht:eval (.Call (.Attribute (.Name c p) "__init__" apos) (e₀::es) [] pos) X.env=(do
   let ov ←eval (.Name c p) X.env
   standAt apos.atName
   let (f,first) ←holding [ov] (getMethod ov "__init__" pl)
   callWith pos f first (backTo pos (starEach (e₀::es) X.env)) (backToKw pos (keywordEach [] X.env))))
  (hd:(c==("__debug__":Str))=false:=by decide) (he:starEach (e₀::es) X.env=(false,eval e₀ X.env)::starEach es X.env:=by rfl) (hpl:(backTo pos (starEach es X.env)).any (·.1)=false:=by rfl) :
  PE X (.Call (.Attribute (.Name c p) "__init__" apos) (e₀::es) [] pos) (fun σ H Q=>t σ H fun vs H1=>∃e C d rest,vs=.ref e::rest∧excInI X.K C bmVE "ValueError.__new__"=true∧H1 e=some (.ext (excRaw e C d))∧rest.length≤sizeLine∧Q .non H1):=by
 intro pins s σ H Q I h
 refine PySem.W.methodCall_KW (pl:=pl) (ld_glob I hg hm (PySem.W.method_cls I.kIn b.ga (PySem.W.cls_value I.kIn b.rd b.fi rfl ?_)) hd) ht
 have hA:=ha pos pins { s with toks:=s.toks+1 } σ H _ (I.tok _) h
 rw [he] at hA ⊢
 refine Calls.callWith_builtin (by show(false||(backTo pos (starEach es X.env)).any (·.1))=false;rw [hpl]<;>rfl) (Calls.evalArgs_plain ?_)
 refine thn hA fun us s2 ⟨vs,H2,I2,r2,e,C,d,rest,ev,hx,hq,hl,q2⟩=>?_
 subst ev
 cases r2 with
 |cons r1 rr =>
  obtain rfl:_=Value.ref e:=r1
  exact init_run I2 hx hq (by rw [←rr.length];exact hl) fun s' I3=>⟨.non,H2,I3,rfl,q2⟩
end
section
variable{prog:Program}{w:World}{A:Around}{E:Value→Shared→Prop}{s:Shared}{K:PySem.W.Frag}{x D:Addr}{name:Str}{v:Value}
end
section
variable{X:Cx}{e:Expr}{f:Str}{pos:Pos}{ta:TE}
end
end L2
namespace L2
open PySem PySem.Spec PyProof.Rows
structure Shw(d:PyData)(n m:Nat):Prop where
 sh:d.showable=true
 nd:d.hasDict=false
 dp:d.depth≤m
 ln:d.shown.length≤n
structure Shws(ds:List PyData)(n m:Nat):Prop where
 sh:PyData.showableAll ds=true
 nd:PyData.hasDictAll ds=false
 dp:PyData.depthAll ds≤m
 ln:piled (PyData.shownAll ds)≤n
theorem Shw.le{d:PyData}{n m n' m':Nat}(h:Shw d n m)(hn:n≤n')(hm:m≤m'):Shw d n' m':=⟨h.sh,h.nd,Nat.le_trans h.dp hm,Nat.le_trans h.ln hn⟩
theorem shw_non(m:Nat):Shw .none 4 m:=⟨by simp only [PyData.showable],by simp only [PyData.hasDict],by simp only [PyData.depth];omega,by simp only [PyData.shown];exact Nat.le_refl 4⟩
theorem shw_str{y:Str}(h:PyData.strOk y=true)(m:Nat):Shw (.str y) (10*y.length+2) m:=by
 refine⟨by simp only [PyData.showable],by simp only [PyData.hasDict],by simp only [PyData.depth];omega,?_⟩
 simp only [PyData.shown]
 refine StrLaws.reprText_len y fun c hc=>?_
 have h1:y.cps.all (· < 0x110000)=true:=h
 rw [Array.all_eq_true_iff_forall_mem] at h1
 have h3:c < 0x110000:=by simpa using h1 c (by simpa using hc)
 exact Nat.lt_trans h3 (by decide)
theorem shw_int{i:Int}(h0:0≤i)(h1:i≤10 ^ 18)(m:Nat):Shw (.int i) 64 m:=by
 have hb:i.natAbs < 10 ^ 19:=by omega
 have hb2:i.natAbs < 2 ^ 64:=Nat.lt_of_le_of_lt (show i.natAbs≤10 ^ 18 by omega) (by decide)
 refine⟨?_,by simp only [PyData.hasDict],by simp only [PyData.depth];omega,?_⟩
 ·simp only [PyData.showable,decide_eq_true_eq]
  rcases Nat.eq_zero_or_pos i.natAbs with z|z
  ·rw [z];decide
  ·exact Nat.lt_trans ((Nat.log2_lt (by omega)).mpr hb2) (by decide)
 ·simp only [PyData.shown]
  have e:=int_text_length_le10 (k:=19) (by decide) hb
  show(Str.ofString (toString i)).length≤64
  rw [PySem.ofString_length]
  omega
theorem shws_nil(m:Nat):Shws [] 0 m:=⟨by simp only [PyData.showableAll],by simp only [PyData.hasDictAll],by simp only [PyData.depthAll];omega,by simp only [PyData.shownAll];exact Nat.le_refl 0⟩
theorem shws_cons{d:PyData}{ds:List PyData}{n n' m:Nat}(h:Shw d n m)(r:Shws ds n' m):Shws (d::ds) (n+2+n') m:=by
 refine⟨?_,?_,?_,?_⟩
 ·simp only [PyData.showableAll,h.sh,r.sh,Bool.and_self]
 ·simp only [PyData.hasDictAll,h.nd,r.nd,Bool.or_self]
 ·simp only [PyData.depthAll]
  exact Nat.max_le.mpr ⟨h.dp,r.dp⟩
 ·simp only [PyData.shownAll]
  rw [piled_cons]
  have:=h.ln
  have:=r.ln
  omega
theorem shw_tup{ds:List PyData}{n m:Nat}(h:Shws ds n m):Shw (.tuple ds) (n+3) (m+1):=by
 refine⟨by simp only [PyData.showable];exact h.sh,by simp only [PyData.hasDict];exact h.nd,by simp only [PyData.depth];exact Nat.succ_le_succ h.dp,?_⟩
 simp only [PyData.shown]
 have hl:=h.ln
 generalize PyData.shownAll ds=ts at hl
 unfold tupleText
 rw [strLen_append,strLen_append]
 have e1:(("(":Str)).length=1:=rfl
 have e3:((if ts.length==1 then ",)" else ")":String):Str).length≤2:=by split<;>decide
 have e2:(Str.join ", " ts).length≤piled ts:=by
  by_cases z:ts=[]
  ·subst z;exact Nat.zero_le _
  ·have:=join_length_add ts z;omega
 omega
section
variable{X:Cx}{k:Nat}{pos:Pos}{e:Expr}{te:TE}
theorem pe_frD(hr:Room k X.A)(he:PE X e te):PE X (.FormattedValue e 114 none pos) (fun σ H Q=>te σ H fun v H1=>∃d n,Dat X.K H1 v d∧Shw d n 60∧n≤2000000∧∀z:Str,z.length≤2000000→Q (.str z) H1):=by
 intro pins s σ H Q I h
 refine wpAny_FormattedValue_repr (thn (he pins s σ H _ I h) fun u s1 ⟨v,H1,I1,r,d,n,hd,sh,hn,q⟩=>?_)
 have hl:d.shown.length≤2000000:=Nat.le_trans sh.ln hn
 have hz:d.shown.length≤sizeLine:=Nat.le_trans hl (by rw [sizeLine_eq];omega)
 have fin:∀h' t tk,(∀b o,s1.heap.get? b=some o→h'.get? b=some o)→wpAny (model X.prog X.w) X.A (formatField (.str d.shown t) Str.empty) (EP X pins σ Q) X.xe { s1 with heap:=h',toks:=tk }:=fun h' t tk hk =>
  formatField_str (fun t' tk'=>⟨.str _,H1,(I1.kept (h':=h') (t':=tk) hk).tok _,⟨_,rfl⟩,q _ hl⟩) hz
 obtain⟨as,ra⟩:=Dat.reads I1 hd r
 have hu:=hr.units
 have ref:∀a,u=.ref a→wpAny (model X.prog X.w) X.A (pyReprObj u) (fun r s2=>wpAny (model X.prog X.w) X.A (formatField r Str.empty) (EP X pins σ Q) X.xe s2) X.xe s1:=fun a e=>by
  subst e
  exact pyReprObj_of_reads ra sh.sh (PyData.noDict_hsm sh.nd) hr.gd (by have:=sh.dp;omega) (fun _ _ z=>z) (fun h' u tk hk=>fin h' u tk hk) hz
 cases hd with
 |non =>
  cases r
  simp only [PyData.shown] at fin
  exact pyReprObj_none (fin s1.heap _ _ fun _ _ z=>z)
 |bl b =>
  cases r
  simp only [PyData.shown] at fin
  exact pyReprObj_bool (fin s1.heap _ _ fun _ _ z=>z)
 |int i =>
  obtain⟨t,rfl⟩:=r
  have hs:=sh.sh
  simp only [PyData.showable,decide_eq_true_eq] at hs
  simp only [PyData.shown] at fin
  exact pyReprObj_int hs (fin s1.heap _ _ fun _ _ z=>z)
 |str x =>
  obtain⟨t,rfl⟩:=r
  simp only [PyData.shown] at fin hz
  exact pyReprObj_str (fin s1.heap _ _ fun _ _ z=>z) hz
 |tup _ _=>cases r;exact ref _ rfl
 |lst _ _=>cases r;exact ref _ rfl
end
end L2
namespace L2
open PySem PySem.Spec PyProof.Rows
section
variable{α β:Type}
variable{P:Shared→Prop}
end
section
variable{X:Cx}{st:Stmt}{rest:List Stmt}{t u:TS}{pos:Pos}
end
section
variable{X:Cx}
end
end L2
local macro_rules
 |`(sortPriv% $n:ident)=>do
  if n.getId==`rn then return Lean.mkCIdent (Lean.mkPrivateNameCore `PySem.Builtin.Int.W0All `PySem.Builtin.readNumeral)
  if n.getId==`vl then return Lean.mkCIdent (Lean.mkPrivateNameCore `PySem.Builtin.Int.W0All `PySem.Builtin.Numeral.value)
  if n.getId==`nd then return Lean.mkCIdent (Lean.mkPrivateNameCore `PySem.Builtin.Int.W0All `PySem.Builtin.numeralDigits?)
  if n.getId==`bl then return Lean.mkCIdent (Lean.mkPrivateNameCore `PySem.Builtin.Int.W0All `PySem.Builtin.isBlank)
  Lean.Macro.throwUnsupported
namespace L2
open PySem
section
variable{prog:Program}{w:World}{A:Around}{E:Value→Shared→Prop}{s:Shared}
end
end L2
namespace L2
open PySem PySem.Spec PyProof.Rows
section
variable{X:Cx}{pos:Pos}{e:Expr}{es:List Expr}{te:TE}
end
end L2
namespace L2
open PySem PySem.Spec PyProof.Rows
section
variable{prog:Program}{w:World}{A:Around}{R:Result→Shared→Prop}{I S:Addr}{fp wr:List Addr}{n:Nat}{P:Nat→Value→Prop}{St:Nat→Heap→Prop}{d:Value}
end
section
variable{X:Cx}{e:Expr}{es:List Expr}{kws:List Keyword}{t tk:TA}{p pos:Pos}
end
end L2
namespace L2
open PySem PySem.Spec PyProof.Rows
structure DKt(K:PySem.W.Frag)(w:World)(a:Addr)(ps:List (Str × Int)):Prop where
 ns:(a==sysModules)=false
 at_:∀(P:Program) (h:Heap),K.In h→∃vs:List (Key × Value),KV (ps.map fun p=>((Sum.inr p.1:Key),V.int p.2)) vs∧h.DictOf (mixKind P w) a vs
section
variable{X:Cx}{o i:Expr}{pos:Pos}{td ty:TE}
end
end L2
namespace L2
open PySem PySem.Spec PyProof.Rows
section
variable{P:Program}{w:World}{K:PySem.W.Frag}{mg:Str→Option Value}{base:Heap}
theorem ps_raiseT{N:List Str}{qual:Str}{scope:Scope}{f:Addr}{cd:Value}{A:Around}{outer:List Env}{s:Shared}{H:Hp}{E:XK}{c:Str}{C fI:Addr}{k:Nat}{fd:FuncData}{ps:List Str}{sp:Sp}{e₀:Expr}{es:List Expr}{np cpos pos:Pos}{ta:TA}
  (M:MkX K C fI) (F:FnOk P w K mg base CX0 k fI fd ps sp) (hr:Room (k+1) (A.deeper (envOfC qual scope s.heap.objs.size f cd))) (hb:Binds K fd ps [])
  (hg:Gl (cxOf (CX1 P w) P w K mg base N qual scope f cd A outer s H E) c) (hm:mg c=some (.ref C)) (ha:PA (cxOf (CX1 P w) P w K mg base N qual scope f cd A outer s H E) (e₀::es) ta)
  (hd:(c==("__debug__":Str))=false:=by decide) (he:starEach (e₀::es) (envOfC qual scope s.heap.objs.size f cd)=(false,eval e₀ (envOfC qual scope s.heap.objs.size f cd))::starEach es (envOfC qual scope s.heap.objs.size f cd):=by rfl)
  (hpl:(backTo cpos (starEach es (envOfC qual scope s.heap.objs.size f cd))).any (·.1)=false:=by rfl) :
  PS (cxOf (CX1 P w) P w K mg base N qual scope f cd A outer s H E) (.Raise (some (.Call (.Name c np) (e₀::es) [] cpos)) none pos)
   (fun _ σ H'=>ta σ H' fun vs H1=>vs.length≤sizeLine∧∀e,H1 e=none→sp (.ref e::vs) (upd H1 e (.ext (excRaw e C none))) (fun v H2=>v=.non∧∃d dd o u,H2 e=some (.ext (excRaw e C d))∧H2 dd=some (.frz o u)∧(∀o' u',H dd≠some (.frz o' u'))∧E (.ref C) d (cut (upd H2 dd u) e)) E0):=by
 intro pins s1 σ H1 D I h
 refine exc_Raise (K:=K) M.ex M.init M.fn (I.ok.hd rfl) ?_ (ld_glob I hg hm ⟨rfl,?_⟩ hd)
 ·show(backTo cpos (starEach (e₀::es) (envOfC qual scope s.heap.objs.size f cd))).any (·.1)=false
  rw [he]
  show(false||(backTo cpos (starEach es (envOfC qual scope s.heap.objs.size f cd))).any (·.1))=false
  rw [hpl]
  rfl
 ·have h2:=ha cpos pins s1 σ H1 _ I h
  show wpAny _ _ (evalArgs (.ref C) true (backTo cpos (starEach (e₀::es) (envOfC qual scope s.heap.objs.size f cd))) []) _ _ _
  rw [show starEach (e₀::es) (cxOf (CX1 P w) P w K mg base N qual scope f cd A outer s H E).env=_ from he] at h2
  rw [he]
  refine Calls.evalArgs_plain (wpAny_mono h2 (fun us s2 ⟨vs,H2,I2,rv,hl,hw⟩=>⟨rfl,?_,I2.kIn,?_⟩) fun _ _ z=>z)
  ·show us.length≤sizeLine
   rw [←rv.length]
   exact hl
  have hn:H2 (s2.heap.objs.size+1)=none:=I2.hok.fresh (Nat.le_succ _)
  have hq:=hw _ hn
  have I3:=I2.laid (a:=s2.heap.objs.size+1) (o:=.ext (excRaw (s2.heap.objs.size+1) C none)) (h':=madeHp s2.heap C us) (t':=s2.toks) made_keeps (Nat.le_succ _) (excRaw_ok ⟨_,made_at⟩)
  have r2:Vals (V.ref (s2.heap.objs.size+1)::vs) (Value.ref (s2.heap.objs.size+1)::us):=.cons rfl rv
  have hlen:(Value.ref (s2.heap.objs.size+1)::us++[]).length=ps.length:=by
   rw [List.append_nil,←r2.length]
   exact F.len _ _ _ _ hq
  have bd:=hb { s2 with heap:=madeHp s2.heap C us,toks:=s2.toks } (Value.ref (s2.heap.objs.size+1)::us) I3.kIn hlen
  rw [List.append_nil] at bd
  refine wpAny_call (codeAny_mono (F.run _ _ _ _ ⟨Value.ref (s2.heap.objs.size+1)::us,[]⟩ _ _ _ _ (hr.make C us []) (I3.env0.make C us []) bd r2 hq) fun r s' hq'=>?_)
  cases r with
  |error e=>exact False.elim hq'
  |ok fl =>
   cases fl with
   |ret u =>
    obtain⟨v,H3,I4,rv4,ev,dd,df,of,uf,hx4,hf,h0,hE⟩:=I3.after hq'
    subst ev
    obtain⟨⟨tt,p4⟩,_,_⟩:=(show ObjOk P w H3 s'.heap _ (.ext (excRaw _ C dd)) from I4.hok _ _ hx4)
    refine⟨rv4,I4.kIn,⟨dd,tt,p4⟩,?_⟩
    have I5:=I4.thaw hf h0
    have hx5:upd H3 df uf (s2.heap.objs.size+1)=some (.ext (excRaw (s2.heap.objs.size+1) C dd)):=by
     rw [upd_ne (fun z=>by rw [z,hf] at hx4;cases hx4)]
     exact hx4
    exact Fly.first (I5.cut hx5) rfl rfl rfl p4 rfl rfl rfl rfl (Heap.get?_none_of_le (Nat.le_trans I2.sz (Nat.le_succ _))) cut_same fun s'' g gd=>⟨_,.ref C,dd,_,rfl,g,gd,hE⟩
   |next=>exact False.elim hq'
   |brk=>exact False.elim hq'
   |cont=>exact False.elim hq'
end
end L2
namespace L2
open PySem PySem.Spec PyProof.Rows
section
variable{prog:Program}{w:World}{A:Around}{E:Value→Shared→Prop}{s:Shared}
end
end L2
namespace L2
open PySem PySem.Spec PyProof.Rows
section
variable{X:Cx}
end
end L2
namespace L2
open PySem PySem.Spec PyProof.Rows
section
variable{X:Cx}
theorem call_list_dK(hc:X.calm=true):CallR X (.type "list") (fun xs H Q=>∃a kvs,xs=[.ref a]∧H a=some (.dK kvs)∧∀l,H l=none→Q (.ref l) (upd H l (.lst (kvs.map fun p=>kV p.1)))):=by
 intro pins s σ H xs us Q I r h
 obtain⟨a,kvs,rfl,ha,q⟩:=h
 obtain⟨u,rfl,ru⟩:=vals1 r
 cases ru
 obtain⟨z,hd,ys,rel,o,es,ep,e,ex,dt,_,prs,_⟩:=dk_of I.hok ha
 have hl1:=prs.length
 have hl2:kvs.length=ys.length:=rel.length
 have hlen:es.size=kvs.length:=by rw [hl2,←hl1];simp
 refine PySem.W.kdl_call (kdl_raw hd) (I.ok.hd hc) ⟨o,e,ex,dt⟩ (by rw [hlen];exact z) fun h' tk acc' c' hk hD hacc=>?_
 have al:acc'.toList.length=kvs.length:=by rw [Array.length_toList,hacc.1,hlen]
 have vr:Vals (kvs.map fun p=>kV p.1) acc'.toList:=by
  have:∀(ks:List V) (us:List Value),ks.length=us.length→(∀(j:Nat) (k:V) (u:Value),ks[j]?=some k→us[j]?=some u→RelV k u)→Vals ks us:=fun ks=>by
   induction ks with
   |nil =>
    intro us hl _
    cases us with
    |nil=>exact .nil
    |cons _ _=>cases hl
   |cons k ks ih =>
    intro us hl hh
    cases us with
    |nil=>cases hl
    |cons u us=>exact .cons (hh 0 k u rfl rfl) (ih us (Nat.succ.inj hl) fun j k' u' h1 h2=>hh (j+1) k' u' h1 h2)
  refine this _ _ (by rw [List.length_map,al]) fun j k u h1 h2=>?_
  rw [List.getElem?_map] at h1
  obtain⟨p,hp,rfl⟩:=Option.map_eq_some_iff.mp h1
  obtain⟨⟨k1,y⟩,hy,ek,_⟩:=pair_get rel hp
  replace ek:p.1=k1:=ek
  obtain⟨en,hen,hu⟩:=hacc.2 j u (by rw [←h2];simp)
  have e1:es.toList[j]?=some en:=by rw [←hen];simp
  rw [hu,ek]
  exact key_rel (prs.get? e1 hy).1
 refine⟨.ref s.heap.objs.size,_,I.laid (o:=.lst (kvs.map fun p=>kV p.1)) hk (Nat.le_refl _) ?_,rfl,q _ (I.hok.fresh (Nat.le_refl _))⟩
 refine⟨by rw [List.length_map];exact z,_,c',vr,?_⟩
 rw [hD]
end
end L2
namespace L2
open PySem PySem.Spec PyProof.Rows PySem.Calls
section
variable{prog:Program}{w:World}{K:Type}[DecidableEq K]{knd:HeapKind prog w K}{A:Around}{E:Value→Shared→Prop}{s:Shared}
end
section
variable{X:Cx}
end
end L2
namespace L2
open PySem PySem.Spec PyProof.Rows PySem.W
section
variable{prog:Program}{w:World}{A:Around}{E:Value→Shared→Prop}{s:Shared}
structure RawG(es:Array DictEntry)(lo:Addr)(h:Heap)(as:List Addr):Prop where
 rise:as.Pairwise (· < ·)
 up:∀a∈as,lo < a
 at':∀(j:Nat) (a:Addr),as[j]?=some a→∃en,es[j]?=some en∧h.get? a=some { cls:=.type "tuple",data:=.seq #[en.key,en.val] }
end
section
variable{prog:Program}{w:World}{A:Around}{s:Shared}{R:Result→Shared→Prop}{es:Array DictEntry}{ep:Nat}
end
section
variable{prog:Program}{w:World}{A:Around}{E:Value→Shared→Prop}{s:Shared}{r d:Addr}{es:Array DictEntry}{ep:Nat}
end
end L2
namespace L2
open PySem PySem.Spec PyProof.Rows
section
variable{X:Cx}
end
section
variable{prog:Program}{w:World}{A:Around}{E:Value→Shared→Prop}{s:Shared}
end
section
variable{X:Cx}{l:Expr}{tl:TE}{p p2 pos pos2:Pos}
end
end L2
namespace L2
open PySem PySem.Spec PyProof.Rows
def leS(a b:Str):Bool:=!ltCps b.cps.toList a.cps.toList
def srt(ks:List Str):List Str:=ks.mergeSort leS
theorem leS_iff{a b:Str}:leS a b=true↔a.cps.toList≤b.cps.toList:=by
 unfold leS
 rw [ltCps_eq]
 simp
theorem leS_trans{a b c:Str}(h:leS a b=true)(g:leS b c=true):leS a c=true:=leS_iff.mpr (List.le_trans (leS_iff.mp h) (leS_iff.mp g))
theorem leS_total(a b:Str):(leS a b||leS b a)=true:=by
 rcases List.le_total a.cps.toList b.cps.toList with h|h
 ·rw [leS_iff.mpr h];rfl
 ·rw [leS_iff.mpr h];simp
theorem leS_anti{a b:Str}(h:leS a b=true)(g:leS b a=true):a=b:=by
 have e:=List.le_antisymm (leS_iff.mp h) (leS_iff.mp g)
 obtain⟨⟨x⟩⟩:=a
 obtain⟨⟨y⟩⟩:=b
 exact congrArg (fun l:List Nat=>Str.mk ⟨l⟩) e
theorem srt_perm(ks:List Str):(srt ks).Perm ks:=List.mergeSort_perm ks leS
theorem srt_len(ks:List Str):(srt ks).length=ks.length:=(srt_perm ks).length_eq
theorem srt_mem{ks:List Str}{k:Str}:k∈srt ks↔k∈ks:=(srt_perm ks).mem_iff
theorem rising_pw:∀(p:Str) (l:List Str),risingS p l=true→(p::l).Pairwise (fun a b=>leS a b=true)
 |p,[],_=>by simp
 |p,x::r,h=>by
  have h':(leS p x&&risingS x r)=true:=h
  rw [Bool.and_eq_true] at h'
  have ih:=rising_pw x r h'.2
  refine List.pairwise_cons.mpr ⟨fun y hy=>?_,ih⟩
  rcases List.mem_cons.mp hy with rfl|hy
  ·exact h'.1
  ·exact leS_trans h'.1 (List.rel_of_pairwise_cons ih hy)
theorem sorted_pw:∀(l:List Str),sortedS l=true→l.Pairwise (fun a b=>leS a b=true)
 |[],_=>.nil
 |x::r,h=>rising_pw x r h
theorem srt_is{ks ks':List Str}(hp:ks'.Perm ks)(hs:sortedS ks'=true):ks'=srt ks :=
 (hp.trans (srt_perm ks).symm).eq_of_pairwise (le:=fun a b=>leS a b=true) (fun _ _ _ _ h g=>leS_anti h g) (sorted_pw _ hs) (List.pairwise_mergeSort (le:=leS) (fun _ _ _ h g=>leS_trans h g) leS_total ks)
theorem strs_vals:∀{vs:List Value} {ss:List Str},StrsAre vs ss→Vals (ss.map V.str) vs
 |_,_,.nil=>.nil
 |_,_,.cons y t h=>.cons ⟨t,rfl⟩ (strs_vals h)
theorem strsA_of:∀{ss:List Str} {vs:List Value},Vals (ss.map V.str) vs→StrsAre vs ss
 |[],_,.nil=>.nil
 |_::_,_,.cons ⟨t,e⟩ h=>by
  subst e
  exact .cons _ t (strsA_of h)
theorem gathered{prog:Program}{w:World}{A:Around}{E:Value→Shared→Prop}{s:Shared}{T:String}{r d:Addr}{n:Nat}{P:Nat→Value→Prop}{OK:Heap→Prop}{R:List Value→Shared→Prop}
  (K:PySem.W.KdlSrc prog w T r d n P OK) (hh:A.handled=none) (hok:OK s.heap) (hn:n≤sizeLine)
  (h:∀(g:Heap) (tk:Nat) (acc:Array Value),(∀b o,s.heap.get? b=some o→g.get? b=some o)→s.heap.objs.size≤g.objs.size→ItemsOf P acc n→R acc.toList { s with heap:=g,toks:=tk }) :
  wpAny (model prog w) A (collect (.ref r)) R E s:=by
 have lt:=K.there _ hok
 unfold collect
 refine wpAny_bind (wpAny_runValue (codeAny_builtin entry_proto_collect' ?_))
 rw [Around.under_plainId PySem.F.plain_proto_collect]
 refine(show wpAny _ A.in1 (newList [] >>= fun l=>again (.builtin "list.__iadd__" ⟨[l,.ref r],[]⟩)) _ _ s from wpAny_bind (wpAny_newObj_type (wpAny_pure ⟨plainId_quiet PySem.F.plain_list_iadd _,codeAny_builtin entry_list_iadd' ?_⟩)))
 rw [Around.under_plainId PySem.F.plain_list_iadd]
 have new:(s.heap.push { cls:=.type "list",data:=.seq ([]:List Value).toArray }).get? s.heap.objs.size=some { cls:=.type "list",data:=.seq #[] }:=Heap.get?_push_size _ rfl
 refine(show wpAny _ A.in1 (Builtin.List.listExtendWith (.ref s.heap.objs.size) (.ref r) (.ref s.heap.objs.size)) _ _ _ from wpAny_mono (PySem.W.kdl_extend (A:=A) (s:={ s with heap:=s.heap.push { cls:=.type "list",data:=.seq ([]:List Value).toArray } })
  (R:=fun(q:Result) (s':Shared)=>∃(g:Heap) (tk:Nat) (acc:Array Value) (c:Nat),q=.ok (.ret (.ref s.heap.objs.size))∧s'={ s with heap:=g,toks:=tk }∧(∀b o,s.heap.get? b=some o→g.get? b=some o)∧g.get? s.heap.objs.size=some { cls:=.type "list",dict:=none,data:=.seq acc c,slots:=#[] }∧ItemsOf P acc n)
  K hh (K.keep _ _ hok fun b _ o e=>Heap.get?_push_of_some _ e) s.heap.objs.size (Nat.ne_of_gt lt.1) (Nat.ne_of_gt lt.2) (.ref s.heap.objs.size) 0 new (fun g tk acc c hk hS ha=>⟨g,tk,acc,c,rfl,rfl,fun b o e=>hk b o (Nat.ne_of_lt (Heap.lt_size e)) (Heap.get?_push_of_some _ e),hS,ha⟩) hn) (fun fin s' x=>?_) fun e s' x=>?_)
 ·cases fin with
  |done f =>
   obtain⟨g,tk,acc,c,e,rfl,hk,hS,ha⟩:=x
   cases e
   exact(show wpAny _ A (load s.heap.objs.size >>= _) _ _ _ from wpAny_bind (wpAny_load hS (wpAny_pure (h g tk acc hk (Nat.le_of_lt (Heap.lt_size hS)) ha))))
  |again c1 =>
   refine⟨x.1,codeAny_mono x.2 fun q s2 y=>?_⟩
   obtain⟨g,tk,acc,c,rfl,rfl,hk,hS,ha⟩:=y
   exact(show wpAny _ A (load s.heap.objs.size >>= _) _ _ _ from wpAny_bind (wpAny_load hS (wpAny_pure (h g tk acc hk (Nat.le_of_lt (Heap.lt_size hS)) ha))))
 ·obtain⟨_,_,_,_,e',_⟩:=x
  cases e'
section
variable{X:Cx}
theorem call_sorted_dK(hc:X.calm=true):CallR X (.builtin "sorted") (fun xs H Q=>∃a kvs ks,xs=[.ref a]∧H a=some (.dK kvs)∧kvs.map (·.1)=ks.map Sum.inr∧ks.length < 64∧∀l,H l=none→Q (.ref l) (upd H l (.lst ((srt ks).map V.str)))):=by
 intro pins s σ H xs us Q I r h
 obtain⟨a,kvs,ks,rfl,ha,hks,h64,q⟩:=h
 obtain⟨u,rfl,ru⟩:=vals1 r
 cases ru
 obtain⟨z,hd,ys,rel,o,es,ep,e,ex,dt,_,prs,_⟩:=dk_of I.hok ha
 have hl1:=prs.length
 have hl2:kvs.length=ys.length:=rel.length
 have hlen:es.size=kvs.length:=by rw [hl2,←hl1];simp
 have hkl:kvs.length=ks.length:=by have:=congrArg List.length hks;rwa [List.length_map,List.length_map] at this
 refine Calls.call_function_entry kind_sorted plain_sorted entry_sorted (args_sorted1 _) ?_
 unfold Builtin.«sorted»
 refine wpAny_bind (m:=checkCount "sorted" 1 1 _) (wpAny_pure ?_)
 refine wpAny_bind (gathered (kdl_raw hd) (I.ok.hd hc) ⟨o,e,ex,dt⟩ (by rw [hlen];exact z) fun h' tk acc' hk le hacc=>?_)
 have al:acc'.toList.length=kvs.length:=by rw [Array.length_toList,hacc.1,hlen]
 have vr:Vals (ks.map V.str) acc'.toList:=by
  have:∀(ks:List V) (us:List Value),ks.length=us.length→(∀(j:Nat) (k:V) (u:Value),ks[j]?=some k→us[j]?=some u→RelV k u)→Vals ks us:=fun ks=>by
   induction ks with
   |nil =>
    intro us hl _
    cases us with
    |nil=>exact .nil
    |cons _ _=>cases hl
   |cons k ks ih =>
    intro us hl hh
    cases us with
    |nil=>cases hl
    |cons u us=>exact .cons (hh 0 k u rfl rfl) (ih us (Nat.succ.inj hl) fun j k' u' h1 h2=>hh (j+1) k' u' h1 h2)
  have e0:(ks.map V.str)=kvs.map fun p=>kV p.1:=by
   have t:ks.map V.str=(ks.map Sum.inr).map kV:=by rw [List.map_map];rfl
   rw [t,←hks,List.map_map]
   rfl
  rw [e0]
  refine this _ _ (by rw [List.length_map,al]) fun j k u h1 h2=>?_
  rw [List.getElem?_map] at h1
  obtain⟨p,hp,rfl⟩:=Option.map_eq_some_iff.mp h1
  obtain⟨⟨k1,y⟩,hy,ek,_⟩:=pair_get rel hp
  replace ek:p.1=k1:=ek
  obtain⟨en,hen,hu⟩:=hacc.2 j u (by rw [←h2];simp)
  have e1:es.toList[j]?=some en:=by rw [←hen];simp
  rw [hu,ek]
  exact key_rel (prs.get? e1 hy).1
 have hS:=strsA_of vr
 refine wpAny_bind (wpAny_newList ?_ (by rw [al];exact z))
 have hoL:(h'.push { cls:=.type "list",data:=.seq acc'.toList.toArray }).get? h'.objs.size=some (seqObj "list" acc'.toList.toArray 0):=Heap.get?_push_size _ rfl
 refine wpAny_bind (wpAny_holding (wpAny_call_entry slot_list_sort ⟨_,hoL,rfl⟩ entry_list_sort (list_sort_treeK strKind_oneLt hoL hS.keysOf (fun v₁ v₂ rest e=>keyKind_strs (by rw [←e];exact hS)) (by rw [al,hkl];exact h64) fun st' a1 a2=>⟨_,rfl,?_⟩) (args_list_sort _)))
 obtain⟨ss',b1,b2,b3⟩:=sorted_out_str hS a1 a2
 have es':=srt_is b2 b3
 subst es'
 obtain⟨ep2,at2⟩:=sortedHeap_at (out:=(arrOf st').map (·.2)) hoL
 have keep:∀b u,s.heap.get? b=some u→(sortedHeap (h'.push { cls:=.type "list",data:=.seq acc'.toList.toArray }) h'.objs.size acc'.toList ((arrOf st').map (·.2))).get? b=some u:=fun b u hb=>by
  have g:=hk b u hb
  have lt:=Heap.lt_size g
  rw [sortedHeap_old (Nat.ne_of_lt lt) (by rw [size_push'];exact Nat.lt_succ_of_lt lt)]
  exact Heap.get?_push_of_some _ g
 refine wpAny_pure ⟨_,rfl,.ref h'.objs.size,_,I.laid (o:=.lst ((srt ks).map V.str)) keep le ?_,rfl,q _ (I.hok.fresh le)⟩
 refine⟨by rw [List.length_map,srt_len,←hkl];exact z,_,ep2,strs_vals b1,?_⟩
 rw [at2]
end
end L2
namespace L2
open PySem PySem.Spec PyProof.Rows
section
variable{prog:Program}{w:World}{A:Around}{E:Value→Shared→Prop}{s:Shared}{a:Addr}{xs:Array Value}{k:Nat}{sl:Array (Option Value)}
end
section
variable{X:Cx}{pins:List (Addr × Obj)}{σ:St}
end
end L2
namespace L2
open PySem PySem.Spec PyProof.Rows
section
variable{prog:Program}{w:World}{A:Around}{E:Value→Shared→Prop}{s:Shared}{K:Type}[DecidableEq K]{knd:HeapKind prog w K}
theorem setdef_heap{d a:Addr}{xs:List (K × Addr × Value)}{k:K}{v:Value}{Q:Value→Shared→Prop}(hu:knd.room A)(hkey:knd.is s.heap k a)(hm:s.heap.DictOfH knd d xs)(hsz:xs.length≤sizeLine)
  (h1:∀old,(atKey xs k).map (·.2)=some old→Q old { s with toks:=s.toks+knd.draws k })
  (h2:atKey xs k=none→∀h',h'.DictOfH knd d (storedH xs k a v)→Heap.SameBut d s.heap h'→Q v { s with heap:=h',toks:=s.toks+knd.draws k }) :
  wpAny (model prog w) A (dictSetDefault d (.ref a) v) Q E s:=by
 obtain⟨o,es,ep,ho,hc,hd,he,his,hn⟩:=hm
 unfold dictSetDefault
 try with_reducible refine wpAny_holding ?_
 refine wpAny_bind (knd.pyHash hu hkey (wpAny_bind (wpAny_dictFind_heap (s:={ s with toks:=s.toks+knd.draws k }) hu hkey ho hd he his hn (fun hno=>?_) fun j p hj=>?_)))
 ·have hnot:k∉xs.map (·.1):=not_mem_keys_of_get hno
  have hat:=atKey_none_of_get hno
  refine wpAny_bind (wpAny_rule (wpAny_bind (wpAny_updateDictKeys (hz:=by have e:=size_of_entries he;omega) (s:={ s with toks:=s.toks+knd.draws k }) ho hd (wpAny_pure (h2 hat _ ⟨_,_,ep+1,Heap.get?_update_self _ ho (Obj.isFreed_of_dict (Obj.data_mapDictKeys hd _)),hc.mapDictKeys _,Obj.data_mapDictKeys hd _,?_,?_,?_⟩ (Heap.SameBut.update ..))))))
  ·rw [storedH_new hat]
   simp [he,entryOfKey]
  ·rw [storedH_new hat]
   intro x hx
   rcases List.mem_append.mp hx with hx|hx
   ·exact knd.keeps (his x hx) ho hd (Heap.SameBut.update ..)
   ·rw [List.mem_singleton.mp hx]
    exact knd.keeps hkey ho hd (Heap.SameBut.update ..)
  ·rw [storedH_new hat,List.map_append]
   refine List.nodup_append.mpr ⟨hn,by simp,fun x hx y hy z=>?_⟩
   have hy':y=k:=List.mem_singleton.mp hy
   rw [z,hy'] at hx
   exact hnot hx
 ·refine wpAny_bind (wpAny_dictEntries (s:={ s with toks:=s.toks+knd.draws k }) ho hd ?_)
  rw [entry_at he j,hj]
  exact wpAny_bind (wpAny_rule (wpAny_pure (h1 _ (by rw [atKey_of_get hn hj];rfl))))
end
section
variable{X:Cx}
def tDSetT(td ty tx:TE):TE:=fun σ H Q=>td σ H fun x H1=>∃a,x=.ref a∧IsD H1 a∧ty σ H1 fun y H2=>tx σ H2 fun z H3=>∃kvs k b,H3 a=some (.dT kvs)∧y=.ref b∧H3 b=some (.tup (k.map kV))∧kvs.length < sizeLine ∧
 ((∃v,valV kvs k=some v∧Q v H3)∨(valV kvs k=none∧Q z (upd H3 a (.dT (putK kvs k z)))))
theorem pe_dsetT(hu:X.A.units+1 < cLine){o e f:Expr}{apos cpos:Pos}{td ty tx:TE}(ho:PE X o td)(he:PE X e ty)(hf:PE X f tx) (m:M2 X o "setdefault" apos e f cpos):PE X (.Call (.Attribute o "setdefault" apos) [e,f] [] cpos) (tDSetT td ty tx):=by
 intro pins s σ H Q I h
 refine wpAny_Call_method m.base m.few m.line PySem.F.plainAttrs_dict PySem.F.slot_dict_setdefault PySem.F.type_dict_setdefault (thn (ho pins s σ H _ I h) fun u s1 ⟨x,H1,I1,rx,a,ex,d,q1⟩=>?_)
 subst ex
 obtain rfl:u=Value.ref a:=rx
 obtain⟨t1,t2,_⟩:=isD_at I1 d
 refine⟨t1,t2,?_⟩
 rw [m.trees]
 refine Calls.callWith_builtin rfl (Calls.evalArgs_plain (Calls.spliced_cons (thn (he pins s1 σ H1 _ I1 q1) fun iv s2 ⟨y,H2,I2,ry,q2⟩ =>
  Calls.spliced_cons (thn (hf pins s2 σ H2 _ I2 q2) fun fv s3 ⟨z,H3,I3,rz,kvs,k,b,ea,ey,eb,hz,q3⟩=>Calls.spliced_nil ?_))))
 subst ey
 cases (show iv=Value.ref b from ry)
 obtain⟨hzl,hd,xs,rel,dd⟩:=dt_of I3.hok ea
 have tI:s3.TypeIs (.ref a) "dict":=dd.typeIs
 refine wpAny_call (codeAny_call_builtin PySem.F.slot_dict_setdefault.plain PySem.F.entry_dict_setdefault (PySem.F.slot_dict_setdefault.check _ _ _ _ _ _ _ _ tI (PySem.F.args_dict_setdefault_3 _ _ _) ?_))
 unfold Builtin.«dict.setdefault» Builtin.Dict.keyAndDefault
 refine wpAny_bind (wpAny_bind (wpAny_notOrdered_dict tI (show wpAny _ _ (pure (a,Value.ref b,some fv)) _ _ s3 from wpAny_pure ?_)))
 show wpAny _ _ (if (a==sysModules)=true then _ else (dictSetDefault a (.ref b) fv >>= _)) _ _ s3
 rw [if_neg (by rw [hd];exact Bool.false_ne_true)]
 refine wpAny_bind (setdef_heap (tupleKind_room_in1 hu) (key_of I3.hok eb) dd (by rw [←Paired.length rel];exact hzl) (fun v hv=>wpAny_pure ?_) fun hn h' dd' hs=>wpAny_pure ?_)
 ·rcases q3 with ⟨v',hv',q⟩|⟨hv',_⟩
  ·obtain⟨w',hw,rw'⟩:=RelO.some_of (v:=v') (o:=(atKey xs k).map (·.2)) (by rw [←hv'];exact rel.val k)
   rw [hw] at hv
   cases hv
   exact⟨v',H3,I3.tok _,rw',q⟩
  ·have z:=rel.val k
   rw [hv',hv] at z
   exact absurd z (by intro z;cases z)
 ·rcases q3 with ⟨v',hv',_⟩|⟨hv',q⟩
  ·have z:=rel.val k
   rw [hv',hn] at z
   exact absurd z (by intro z;cases z)
  ·have hl:(putK kvs k z).length≤sizeLine:=by have:=length_putK kvs k z;omega
   obtain⟨q',es,ep,hq,g2,g3,g4,_,g5⟩:=dd'
   refine⟨z,_,d_write (ob:=.dT (putK kvs k z)) I3 (by rw [ea];exact True.intro) hs ⟨q',hq⟩ ⟨hl,hd,_,(rel.put k eb rz).keeps fun c ys ec=>?_,q',es,ep,hq,g2,g3,g4,g5⟩,rz,q⟩
   rw [upd_ne (ne_of ec ea (fun z=>nomatch z))]
   exact ec
end
end L2
namespace L2
open PySem PySem.Spec PyProof.Rows
section
variable{M:Model}{A:Around}{E:Value→Shared→Prop}{s:Shared}
end
section
variable{X:Cx}{pins:List (Addr × Obj)}{σ:St}{H H':Hp}{s s':Shared}{x C:Addr}{cls:Value}{d:Option Addr}
end
section
variable{X:Cx}
end
section
variable{P:Program}{w:World}{K:PySem.W.Frag}{mg:Str→Option Value}{base:Heap}{N:List Str}{qual:Str}{scope:Scope}{f:Addr}{cd:Value}{A:Around}{outer:List Env}{s:Shared}{H:Hp}{E:XK}
end
end L2
namespace L2
open PySem PySem.Spec PyProof.Rows
section
variable{X:Cx}
end
section
variable{X:Cx}{pins:List (Addr × Obj)}{σ:St}
end
end L2
namespace HT
open PySem PySem.Spec PyProof.Rows
section
variable{prog:Program}{w:World}{A:Around}{E:Value→Shared→Prop}{s:Shared}
end
end HT
namespace L2
open PySem PySem.Spec PyProof.Rows
section
variable{X:Cx}
end
end L2
namespace L2
open PySem PySem.Spec PyProof.Rows
end L2
namespace L2
open PySem PySem.Spec PyProof.Rows
section
variable{X:Cx}{tg:Expr}
end
end L2
namespace HT
open PySem PySem.Spec PyProof.Rows
section
variable{prog:Program}{w:World}{K:Type}[DecidableEq K]{knd:KeyKind prog w K}{A:Around}{E:Value→Shared→Prop}{s:Shared}{r d:Addr}{kvs:List (K × Value)}{ep:Nat}
end
end HT
namespace L2
open PySem PySem.Spec PyProof.Rows
section
variable{X:Cx}
end
end L2
namespace HT
open PySem PySem.Spec PyProof.Rows
section
variable{prog:Program}{w:World}{A:Around}{E:Value→Shared→Prop}{s:Shared}
end
end HT
namespace L2
open PySem PySem.Spec PyProof.Rows
section
variable{X:Cx}
end
end L2
namespace L2
open PySem PySem.Spec PyProof.Rows
section
variable{X:Cx}
end
end L2
namespace L2
open PySem PySem.Spec PyProof.Rows
section
variable{P:Program}{w:World}
variable{K:PySem.W.Frag}{mg:Str→Option Value}{base:Heap}{N:List Str}{qual:Str}{scope:Scope}{f:Addr}{cd:Value}{A:Around}{outer:List Env}{s:Shared}{H:Hp}{E:XK}
end
end L2
namespace L2
open PySem PySem.Spec PyProof.Rows
section
variable{X:Cx}{tg:Expr}
end
end L2
namespace L2
open PySem PySem.Spec PyProof.Rows
section
variable{X:Cx}{pins:List (Addr × Obj)}{σ:St}{H:Hp}{s:Shared}{h':Heap}
end
section
variable{X:Cx}{es:List Expr}{k:Nat}{ps:Pos}
end
end L2
namespace L2
open PySem PySem.Spec PyProof.Rows
section
variable{X:Cx}{pins:List (Addr × Obj)}{σ:St}{H:Hp}{s:Shared}{P c:Addr}{ps:Array Value}{pos:Pos}{q:Str}
end
end L2
namespace L2
open PySem PySem.Spec PyProof.Rows
def dropC(ads:List Addr)(H:Hp):Hp:=fun b=>if b∈ads then none else H b
def addC(ads:List Addr)(H H':Hp):Hp:=fun b=>if b∈ads then H b else H' b
def FrzAll(H:Hp)(ads:List Addr):Prop:=∀c∈ads,∃o v,H c=some (.frz o (.cel v))
section
variable{P:Program}{w:World}{H H':Hp}{h h':Heap}{ads:List Addr}{fs:List Addr}
end
structure CXF(P:Program)(w:World)(CX:CXT):Prop where
 drop:∀(outer:List Env) (H:Hp) (ads:List Addr) (s:Shared) (E:XK) (e:Value) (s':Shared),HOk P w H s.heap→FrzAll H ads→CX outer H s (fun c d H'=>E c d (dropC ads H')) e s'→CX outer (dropC ads H) s E e s'
 add:∀(outer:List Env) (H:Hp) (ads:List Addr) (s:Shared) (E:XK) (e:Value) (s':Shared),HOk P w H s.heap→FrzAll H ads→(∀b∈frs outer,H b=none)→CX outer (dropC ads H) s (fun c d H'=>(∀a∈ads,H' a=none)→E c d (addC ads H H')) e s'→CX outer H s E e s'
section
variable{X:Cx}{CX:CXT}{k:Nat}{f C:Addr}{fd:FuncData}{ps:List Str}{sp:Sp}{dvs:List V}{ds:List Value}{E:XK}{x m:Str}{p pos apos:Pos}{e o:Expr}{es:List Expr}{ta:TE}{t:TA}
end
end L2
namespace L2
open PySem PySem.Spec PyProof.Rows
structure CloScope(ps caps:List Str)(sc:Scope):Prop where
 kind:sc.kind=.function
 co:sc.isCoroutine=false
 gen:sc.isGenerator=false
 nd:(ps++caps).Nodup
 par:∀x∈ps,sc.names.lookup x=some .local
 cap:∀x∈caps,sc.names.lookup x=some .free
 nocell:∀y∈sc.names,y.2≠.cell
 free:∀y∈sc.names,y.2=.free→y.1∈caps
section
variable{CX:CXT}{P:Program}{w:World}{K:PySem.W.Frag}{mg:Str→Option Value}{base:Heap}{k:Nat}{f c:Addr}{name qual:Str}{params:Arguments}{scope:Scope}{ps caps:List Str}{ads:List Addr}{cvs:List V}{B:Sp}
end
end L2
namespace L2
open PySem PySem.Spec PyProof.Rows
structure FunT(K:PySem.W.Frag)(x qual:Str)(st:Stmt)(f:Addr)(fd:FuncData)(c P:Addr):Prop where
 ex:∃(oc:Value) (od:Option Addr) (kV doc pm:Value) (an:Option Addr) (ct:Value) (osl:Array (Option Value)),
  fd=PySem.W.fnOf x qual (defArgs st) (defBody st) (defScope st) .none kV doc pm an (.ref c) ct∧K.lookup f=some ⟨oc,od,.func fd,osl⟩∧PySem.W.codeIn K (.ref c) qual=true
 kp:PySem.W.keepIn K (.ref f)=true
 hd:PySem.W.codeHdIn K c P=true
section
variable{Pr:Program}{w:World}{K:PySem.W.Frag}{mg:Str→Option Value}{base:Heap}{x qual:Str}{st:Stmt}{f c P:Addr}{fd:FuncData}{N ps:List Str}{k:Nat}{sp:Sp}
end
end L2
namespace L2
open PySem PySem.Spec PyProof.Rows
section
variable{P:Program}{w:World}{A:Around}{E:Value→Shared→Prop}{s:Shared}{b c:Bool}{z TI TO i1 i2 l1 l2 j l:Addr}{n n2:Nat}{its jts:Array Value}{x y p q:Value}
end
section
variable{P:Program}{w:World}{A:Around}{E:Value→Shared→Prop}{s:Shared}{b c:Bool}{z TI TO i1 i2 l1 l2:Addr}{n:Nat}{its jts:Array Value}{x y p q:Value}
end
section
variable{X:Cx}{es:List Expr}{k:Nat}{ps:Pos}
end
end L2
namespace L2
open PySem PySem.Spec PyProof.Rows
end L2
namespace L2
open PySem PySem.Spec PyProof.Rows
section
variable{X:Cx}
end
end L2
namespace L2
open PySem PySem.Spec PyProof.Rows
section
variable{P:Program}{w:World}{A:Around}{E:Value→Shared→Prop}{s:Shared}{b c:Bool}{z TI TO i1 i2 l1 l2 j l:Addr}{n:Nat}{its jts:Array Value}{x y p q:Value}
end
section
variable{X:Cx}{pins:List (Addr × Obj)}{σ:St}
end
section
variable{X:Cx}{l m:Expr}{ta:TA}{p p2 pos pos2:Pos}
end
end L2
namespace L2
open PySem PySem.Spec PyProof.Rows
end L2
namespace L2
open PySem PySem.Spec PyProof.Rows
end L2
namespace L2
open PySem PySem.Spec PyProof.Rows
section
variable{X:Cx}
end
section
variable{P:Program}{w:World}{K:PySem.W.Frag}{mg:Str→Option Value}{base:Heap}{N:List Str}{qual:Str}{scope:Scope}{f:Addr}{cd:Value}{A:Around}{outer:List Env}{s:Shared}{H:Hp}{E:XK}
end
end L2
namespace L2
open PySem PySem.Spec PyProof.Rows
theorem keqDat{A:Around}{s:Shared}{kb:List (Key × V)}{us:List (Key × Value)}(r1:KV kb us)(hn:(kb.map (·.1)).Nodup):∀{l:List (Key × V)} {m:List (Key × Value)},KV l m→(∀p∈l,∀u,RelV p.2 u→∃q∈kb,q.1=p.1∧∀y,RelV q.2 y→SeqAt.EqAt A s u y true)→PySem.W.KeqHits A s us m true:=by
 intro l m p
 unfold KV at p
 induction p with
 |nil=>intro _;exact .nil
 |@cons a b as bs h t ih =>
  intro hm
  obtain⟨b1,b2⟩:=b
  obtain⟨f1,f2⟩:=h
  have f1':a.1=b1:=f1
  obtain⟨q,hq,eq,hy⟩:=hm a List.mem_cons_self b2 f2
  have hx:=r1.val q.1
  rw [valV_nodup hn q hq,eq,f1'] at hx
  obtain⟨y,hy',ry⟩:=RelO.some_of (v:=q.2) (o:=valueAt us b1) hx
  exact PySem.W.KeqHits.hit (e:=true) (b:=true) hy' (hy y ry) (ih fun p hp=>hm p (List.mem_cons_of_mem _ hp))
def DatSame(K:PySem.W.Frag)(H:Hp)(x y:V):Prop:=∃d d',Dat K H x d∧Dat K H y d'∧SeqAt.shaped d=true∧SeqAt.shaped d'=true∧PyData.eqv d d'=true
def rDatE(K:PySem.W.Frag)(neg:Bool):R2:=fun x y H Q=>∃a b ka kb,x=.ref a∧y=.ref b∧H a=some (.dK ka)∧H b=some (.dK kb)∧Paired (fun(p q:Key × V)=>p.1=q.1∧DatSame K H p.2 q.2) ka kb∧Q (.bl (!neg)) H
theorem mem_pair{α β:Type}{R:α→β→Prop}:∀{xs:List α} {ys:List β},Paired R xs ys→∀x∈xs,∃y∈ys,R x y
 |_,_,.cons h r,x,hx=>by
  rcases List.mem_cons.mp hx with rfl|hx
  ·exact⟨_,.head _,h⟩
  ·obtain⟨y,h1,h2⟩:=mem_pair r x hx
   exact⟨y,.tail _ h1,h2⟩
section
variable{X:Cx}
end
end L2
namespace L2
open PySem PySem.Spec PyProof.Rows
section
variable{X:Cx}
end
end L2
namespace L2
open PySem PySem.Spec PyProof.Rows
section
variable{X:Cx}
theorem mt_indexS:MtR X "str.index" (fun x vs H Q=>∃z y i rest,x=.str z∧vs=[.str y]∧Builtin.Str.occurrences z y 0 z.length 1=i::rest∧Q (.int (i:Nat)) H):=by
 intro pins s σ H x vs v us Q I rx rv h
 obtain⟨z,y,i,rest,rfl,rfl,ho,q⟩:=h
 obtain⟨t,rfl⟩:=rx
 obtain⟨u1,rfl,r1⟩:=vals1 rv
 obtain⟨t1,rfl⟩:=r1
 exact call_gives F.slot_str_index (typeIs_str _ _ _) F.entry_str_index (F.args_str_index_2 _ _) (gives_str_index z y t t1 i rest ho) ⟨.int i,H,I.tok _,⟨_,rfl⟩,q⟩
theorem call_sorted_L(hc:X.calm=true):CallR X (.builtin "sorted") (fun xs H Q=>∃a ks,xs=[.ref a]∧SqL X.K H a (ks.map V.str)∧ks.length < 64∧∀l,H l=none→Q (.ref l) (upd H l (.lst ((srt ks).map V.str)))):=by
 intro pins s σ H xs us Q I r h
 obtain⟨a,ks,rfl,ha,h64,q⟩:=h
 obtain⟨u,rfl,ru⟩:=vals1 r
 cases ru
 obtain⟨its,rv,pl,hz⟩:=I.list ha
 obtain⟨o,ho,hcl,n,hd⟩:=pl.isList
 have hlen:its.length=ks.length:=by rw [←rv.length,List.length_map]
 have hS:=strsA_of rv
 refine Calls.call_function_entry kind_sorted plain_sorted entry_sorted (args_sorted1 _) ?_
 unfold Builtin.«sorted»
 refine wpAny_bind (m:=checkCount "sorted" 1 1 _) (wpAny_pure ?_)
 refine wpAny_bind (wpAny_collect_seq a (.inl rfl) ho hcl hd (fun h' hk=>?_) (by simp only [List.size_toArray];rw [hlen];exact Nat.le_trans (Nat.le_of_lt h64) (by rw [sizeLine_eq];decide)))
 have I1:Inv X pins σ H { s with heap:=h' }:=I.kept (t':=s.toks) hk
 have z:ks.length≤sizeLine:=Nat.le_trans (Nat.le_of_lt h64) (by rw [sizeLine_eq];decide)
 rw [show its.toArray.toList=its by simp]
 refine wpAny_bind (wpAny_newList ?_ (by rw [hlen];exact z))
 have hoL:(h'.push { cls:=.type "list",data:=.seq its.toArray }).get? h'.objs.size=some (seqObj "list" its.toArray 0):=Heap.get?_push_size _ rfl
 refine wpAny_bind (wpAny_holding (wpAny_call_entry slot_list_sort ⟨_,hoL,rfl⟩ entry_list_sort (list_sort_treeK strKind_oneLt hoL hS.keysOf (fun v₁ v₂ rest e=>keyKind_strs (by rw [←e];exact hS)) (by rw [hlen];exact h64) fun st' a1 a2=>⟨_,rfl,?_⟩) (args_list_sort _)))
 obtain⟨ss',b1,b2,b3⟩:=sorted_out_str hS a1 a2
 have es':=srt_is b2 b3
 subst es'
 obtain⟨ep2,at2⟩:=sortedHeap_at (out:=(arrOf st').map (·.2)) hoL
 have keep:∀b u,h'.get? b=some u→(sortedHeap (h'.push { cls:=.type "list",data:=.seq its.toArray }) h'.objs.size its ((arrOf st').map (·.2))).get? b=some u:=fun b u g=>by
  have lt:=Heap.lt_size g
  rw [sortedHeap_old (Nat.ne_of_lt lt) (by rw [size_push'];exact Nat.lt_succ_of_lt lt)]
  exact Heap.get?_push_of_some _ g
 refine wpAny_pure ⟨_,rfl,.ref h'.objs.size,_,I1.laid (o:=.lst ((srt ks).map V.str)) keep (Nat.le_refl _) ?_,rfl,q _ (I1.hok.fresh (Nat.le_refl _))⟩
 refine⟨by rw [List.length_map,srt_len];exact z,_,ep2,strs_vals b1,?_⟩
 rw [at2]
theorem argBest_str(f:Nat→Str):∀k,argBest (fun i j=>decide ((f i).cps.toList < (f j).cps.toList)) k≤k∧∀j,j≤k→leS (f (argBest (fun i j=>decide ((f i).cps.toList < (f j).cps.toList)) k)) (f j)=true
 |0=>⟨Nat.le_refl _,fun j hj=>by
   obtain rfl:j=0:=by omega
   exact leS_iff.mpr (List.le_refl _)⟩
 |k+1=>by
  obtain⟨h1,h2⟩:=argBest_str f k
  simp only [argBest]
  by_cases hc:(f (k+1)).cps.toList < (f (argBest (fun i j=>decide ((f i).cps.toList < (f j).cps.toList)) k)).cps.toList
  ·rw [if_pos (by simpa using hc)]
   refine⟨Nat.le_refl _,fun j hj=>?_⟩
   rcases Nat.lt_or_ge j (k+1) with hlt|hge
   ·exact leS_trans (leS_iff.mpr (List.le_of_lt hc)) (h2 j (by omega))
   ·obtain rfl:j=k+1:=by omega
    exact leS_iff.mpr (List.le_refl _)
  ·rw [if_neg (by simpa using hc)]
   refine⟨by omega,fun j hj=>?_⟩
   rcases Nat.lt_or_ge j (k+1) with hlt|hge
   ·exact h2 j (by omega)
   ·obtain rfl:j=k+1:=by omega
    exact leS_iff.mpr (List.not_lt.mp hc)
theorem vals_strD:∀{ks:List Str} {us:List Value},Vals (ks.map V.str) us→∀(i:Nat) (v:Value),us[i]?=some v→∃t,v=Value.str (ks.getD i "") t
 |[],_,.nil,i,v,h=>by cases h
 |n::ns,_,.cons r1 r2,0,v,h=>by
  cases h
  obtain⟨t,rfl⟩:=r1
  exact⟨t,rfl⟩
 |n::ns,_,.cons r1 r2,i+1,v,h=>vals_strD r2 i v h
theorem call_minL(hc:X.calm=true):CallR X (.builtin "min") (fun xs H Q=>∃a ks,xs=[.ref a]∧SqL X.K H a (ks.map V.str)∧ks≠[]∧∀M,M∈ks→(∀x∈ks,leS M x=true)→Q (.str M) H):=by
 intro pins s σ H xs us Q I r h
 obtain⟨a,ks,rfl,ha,hne,q⟩:=h
 obtain⟨u,rfl,ru⟩:=vals1 r
 cases ru
 obtain⟨its,rv,pl,hz⟩:=I.list ha
 obtain⟨ob,cn,e1,e2,e3,e4⟩:=pl
 have hl:s.heap.IsList a its.toArray:=⟨ob,e1,e2,cn,e4⟩
 have len:its.length=ks.length:=by rw [←rv.length,List.length_map]
 have hk0:0 < ks.length:=List.length_pos_iff.mpr hne
 have hlt:a < s.heap.objs.size:=Heap.lt_size e1
 have hne2:a≠s.heap.objs.size:=Nat.ne_of_lt hlt
 refine call_min_walk (wpAny_pyIter_list hl ?_)
 refine⟨_,_,_,_,_,_,_,rfl,Walks.list (A:=X.A.in1) (I.ok.hd hc) s.heap.objs.size a hne2 its.toArray,⟨⟨_,Heap.get?_push_size _ rfl,rfl,rfl⟩,hl.push _⟩,fun b hb=>?_,by rw [List.size_toArray,len];exact hk0,
  (show CmpOf _ _ _ .Lt _ (fun i j=>decide ((ks.getD i "").cps.toList < (ks.getD j "").cps.toList)) from fun i j vi vj s' Q' E' hi hj hq=>?_),fun v h' tk hP hk=>?_⟩
 ·simp only [List.mem_cons,List.mem_nil_iff,or_false] at hb
  rw [Heap.size_push]
  rcases hb with rfl|rfl
  ·exact Nat.lt_succ_self _
  ·exact Nat.lt_succ_of_lt hlt
 ·obtain⟨t,rfl⟩:=vals_strD rv i vi (by rw [←hi];simp)
  obtain⟨t',rfl⟩:=vals_strD rv j vj (by rw [←hj];simp)
  exact richCompare_gives (op:=.Lt) (typeIs_str s' _ t) (typeIs_str s' _ t') F.slot_str_lt F.entry_str_lt (F.args_str_lt_2 _ _) (gives_str_lt _ _ t t') (fun x=>nomatch x) hq
 ·have old:∀b o,s.heap.get? b=some o→h'.get? b=some o:=fun b o e=>by
   refine hk b o (fun hm=>?_) (Heap.get?_push_of_some _ e)
   have:=Heap.lt_size e
   rw [List.mem_singleton.mp hm] at this
   exact Nat.lt_irrefl _ this
  have hsz:its.toArray.size=ks.length:=by rw [List.size_toArray,len]
  rw [hsz] at hP
  obtain⟨b1,b2⟩:=argBest_str (fun i=>ks.getD i "") (ks.length - 1)
  have hv':its.toArray[argBest (fun i j=>decide ((ks.getD i "").cps.toList < (ks.getD j "").cps.toList)) (ks.length - 1)]?=some v:=hP
  rw [List.getElem?_toArray] at hv'
  obtain⟨tv,rfl⟩:=vals_strD rv _ v hv'
  refine⟨.str _,H,I.kept (t':=tk) old,⟨tv,rfl⟩,q _ ?_ fun x hx=>?_⟩
  ·have hb:argBest (fun i j=>decide ((ks.getD i "").cps.toList < (ks.getD j "").cps.toList)) (ks.length - 1) < ks.length:=by
    have:=b1
    omega
   rw [List.getD_eq_getElem?_getD,List.getElem?_eq_getElem hb]
   exact List.getElem_mem _
  ·obtain⟨i,hi,rfl⟩:=List.getElem_of_mem hx
   have:=b2 i (by omega)
   have e5:ks.getD i (Str.ofString "")=ks[i]:=by rw [List.getD_eq_getElem?_getD,List.getElem?_eq_getElem hi];rfl
   simp only [e5] at this
   exact this
end
end L2
namespace L2
open PySem
theorem comp_fr{m:Nat}{n:Nat}{κ:List Nat}{g:TG}{tc:TT}{te:TE}{σ:St}{H:Hp}{Q:VK}(hz:m≤1000)(R:Nat→List V→Hp→Prop)(h0:R 0 [] H)(hlen:∀i ys H2,R i ys H2→ys.length≤i)
  (hs:∀i ys H2 (N:List V→Hp→Prop),(∀ys' H',R (i+1) ys' H'→N ys' H')→i < m→R i ys H2→g (.int i) (blkSt n κ σ) H2 fun σ4 H4=>σ4.drop n=(blkSt n κ σ).drop n∧tc σ4 H4 fun b H5=>if b=true then te σ4 H5 fun v H6=>N (ys++[v]) H6 else N ys H5)
  (hQ:∀ys H2 D,R m ys H2→H2 D=none→Q (.ref D) (upd H2 D (.lst ys))):CompRun n κ g tc te σ (Itr 0 m) H Q:=by
 refine comp_by (J:=Itr 0 m) (xs:=rangeV 0 m) R h0 (by rw [rangeV_len];exact Nat.le_of_lt (small1000 hz)) hlen ?_ ?_ ?_ ?_ ?_
 ·rintro i u ys H3 hu _
  exact itr_go hu
 ·rintro i ys u H3 H' hn _ hy
  rw [rangeV_len] at hn
  exact itr_yld' hn hy
 ·rintro ys H3 _
  rw [rangeV_len]
  exact Nat.le_refl _
 ·rintro i u ys H3 N hN hu h
  obtain⟨hi,rfl⟩:=rangeV_get.mp hu
  rw [Int.zero_add]
  exact hs i ys H3 N hN hi h
 ·rintro ys H3 D h hD
  rw [rangeV_len] at h
  exact hQ ys H3 D h hD
theorem comp_fT{K:PySem.W.Frag}{p:Addr}{xs:List V}{n:Nat}{κ:List Nat}{g:TG}{tc:TT}{te:TE}{σ:St}{H:Hp}{Q:VK}(hx:xs.length≤1000)(R:Nat→List V→Hp→Prop)(h0:R 0 [] H)(hp:∀i ys H2,R i ys H2→SqT K H2 p xs)(hlen:∀i ys H2,R i ys H2→ys.length≤i)
  (hs:∀i u ys H2 (N:List V→Hp→Prop),(∀ys' H',R (i+1) ys' H'→N ys' H')→xs[i]?=some u→R i ys H2→g u (blkSt n κ σ) H2 fun σ4 H4=>σ4.drop n=(blkSt n κ σ).drop n∧tc σ4 H4 fun b H5=>if b=true then te σ4 H5 fun v H6=>N (ys++[v]) H6 else N ys H5)
  (hQ:∀ys H2 D,R xs.length ys H2→H2 D=none→Q (.ref D) (upd H2 D (.lst ys))):CompRun n κ g tc te σ (Itt K p) H Q:=by
 refine comp_by (J:=Itt K p) (xs:=xs) R h0 (Nat.le_of_lt (small1000 hx)) hlen ?_ ?_ ?_ ?_ ?_
 ·rintro i u ys H3 hu h
  exact⟨_,_,hp _ _ _ h,hu⟩
 ·rintro i ys u H3 H' hn h hy
  exact⟨hy.1,hy.2 _ (hp _ _ _ h)⟩
 ·rintro ys H3 h
  exact⟨_,hp _ _ _ h,Nat.le_refl _⟩
 ·rintro i u ys H3 N hN hu h
  exact hs i u ys H3 N hN hu h
 ·rintro ys H3 D h hD
  exact hQ ys H3 D h hD
end L2
namespace L2
open PySem PySem.Spec PyProof.Rows
section
variable{X:Cx}
theorem op_eqDat(hu:X.A.units+70 < cLine):OpR X (compareOp .Eq) (rDatE X.K false):=by
 intro pins s σ H x y v u Q I rx ry h
 obtain⟨a,b,ka,kb,rfl,rfl,ha,hb,hp,q⟩:=h
 cases rx
 cases ry
 obtain⟨za,na,va,ra,da⟩:=dk_of I.hok ha
 obtain⟨zb,nb,vb,rb,db⟩:=dk_of I.hok hb
 refine PySem.W.keq_eq na nb da db (by omega) (fun _=>keqDat rb (dK_nodup I hb) ra fun p hp' u hu'=>?_) ?_
 ·obtain⟨q',hq',e1,d,d',D1,D2,s1,s2,e⟩:=mem_pair hp p hp'
  refine⟨q',hq',e1.symm,fun y hy=>?_⟩
  obtain⟨as,ra'⟩:=Dat.reads I D1 hu'
  obtain⟨bs,rb'⟩:=Dat.reads I D2 hy
  rw [←e]
  exact PySem.W.keq_at ra' rb' s1 s2 (by show X.A.units+1+64 < cLine;omega)
 ·have l1:=hp.length
  rw [←ra.length,←rb.length,l1,beq_self_eq_true]
  exact⟨.bl _,H,I,rfl,q⟩
end
end L2
namespace K27
open PySem L2 Kk
def top(i:Nat):Stmt:=PySem.Challenge.pw_sealhouse_k27_whole_least_forms.main.body.getD i (.Pass ⟨0,0,0,0⟩)
abbrev sPut:Stmt:=top 6
abbrev sOwn:Stmt:=top 10
abbrev sPutFun:Stmt:=top 12
abbrev sFitted:Stmt:=top 13
abbrev sUnder:Stmt:=top 14
abbrev sLeast:Stmt:=top 15
abbrev sDeal:Stmt:=top 17
abbrev sDraw:Stmt:=top 18
abbrev sWord:Stmt:=top 19
abbrev sNext:Stmt:=top 20
abbrev sWordsL:Stmt:=top 21
abbrev sAnyK:Stmt:=top 22
abbrev sSizeL:Stmt:=top 23
abbrev sFaceL:Stmt:=top 24
abbrev sPutL:Stmt:=top 25
abbrev sAllL:Stmt:=top 26
abbrev sClsL:Stmt:=top 27
abbrev sLeastL:Stmt:=top 28
abbrev sOther:Stmt:=top 29
abbrev sTurned:Stmt:=top 30
abbrev sChanged:Stmt:=top 31
abbrev sLaw:Stmt:=top 32
theorem small{n:Nat}(h:n≤1000):n≤sizeLine:=Nat.le_of_lt (small1000 h)
theorem same_new{H:Hp}{p:Addr}(h:H p=none)(o:HO):Same H (upd H p o):=fun b u q=>by rw [upd_ne (ne_of_none q h)];exact q
theorem words_pos(k:Kd):0 < k.words:=by
 have:=words_leaves k
 have:=leaves_pos k
 omega
theorem one{K:PySem.W.Frag}{H:Hp}{v:V}{k:Kd}(h:KdAt K H v k):KdsAt K H [v] [k]:=.cons h .nil
section
variable{P:Program}{w:World}{K:PySem.W.Frag}{mg:Str→Option Value}{base:Heap}
end
def Kd.names:Kd→List (Str × Str)
 |.num _=>[]
 |.name q t=>[(q,t)]
 |.pair a b=>Kd.names a++Kd.names b
def keyN(n:Str × Str):List Key:=[.inr n.1,.inr n.2]
theorem keyN_inj{m n:Str × Str}(h:keyN m=keyN n):m=n:=by
 cases m;cases n
 simp [keyN] at h
 exact Prod.ext h.1 h.2
theorem sput{H H2:Hp}{a:Addr}{o:HO}(e:Same H H2)(h:H a=none):Same H (upd H2 a o):=fun b u q=>by rw [upd_ne (ne_of_none q h)];exact e b u q
theorem bootList:bootBuiltins "list"=some (.type "list"):=by decide +kernel
section
variable{P:Program}{w:World}{K:PySem.W.Frag}{mg:Str→Option Value}{base:Heap}
end
end K27
namespace K27
open PySem L2 Kk
theorem at_int{ns:List Int}{i:Int}(h0:0≤i)(h1:i < ns.length):∃v:Int,atI (ns.map V.int) i=some (.int v):=by
 have hk:i.toNat < List.length ns:=by omega
 have e:i=((i.toNat:Nat):Int):=by omega
 have q:atI (ns.map V.int) ((i.toNat:Nat):Int)=some (.int ns[i.toNat]):=atI_nat (by simp [hk])
 rw [←e] at q
 exact⟨_,q⟩
theorem sok_iff(z:Str):PyData.strOk z=true↔∀c∈z.cps.toList,c < 0x110000:=by
 unfold PyData.strOk
 rw [Array.all_eq_true_iff_forall_mem]
 simp
def Kd.sok:Kd→Bool
 |.num _=>true
 |.name q t=>PyData.strOk q&&PyData.strOk t
 |.pair a b=>Kd.sok a&&Kd.sok b
def noWords:List Str:=["num","pair","lit","as","if","let","two","first","second"]
theorem noFlat:(noWords.map V.str).all flatV=true:=by decide +kernel
theorem len_app(a b:Str):(a++b).length=a.length+b.length:=by
 show Array.size (a.cps++b.cps)=_
 rw [Array.size_append]<;>rfl
section
variable{P:Program}{w:World}{K:PySem.W.Frag}{mg:Str→Option Value}{base:Heap}
theorem same_trans{H H1 H2:Hp}(a:Same H H1)(b:Same H1 H2):Same H H2:=fun x o e=>b x o (a x o e)
end
end K27
namespace K27
open PySem L2 Kk
theorem sqt_upd{K:PySem.W.Frag}{H:Hp}{l a:Addr}{ys xs:List V}{o:HO}(h:H l=some (.lst ys))(t:SqT K H a xs):SqT K (upd H l o) a xs:=by
 rcases t with (t|⟨o',t⟩)|t
 ·exact .inl (.inl (by rw [upd_ne (fun e=>by rw [e,h] at t;cases t)];exact t))
 ·exact .inl (.inr ⟨o',by rw [upd_ne (fun e=>by rw [e,h] at t;cases t)];exact t⟩)
 ·exact .inr t
theorem kd_keep{K:PySem.W.Frag}{H H':Hp}(e:∀a xs,SqT K H a xs→SqT K H' a xs):∀{x:V} {k:Kd},KdAt K H x k→KdAt K H' x k
 |_,_,.num h=>.num (e _ _ h)
 |_,_,.name h=>.name (e _ _ h)
 |_,_,.pair h a b=>.pair (e _ _ h) (kd_keep e a) (kd_keep e b)
theorem kds_keep{K:PySem.W.Frag}{H H':Hp}(e:∀a xs,SqT K H a xs→SqT K H' a xs):∀{xs:List V} {ks:List Kd},KdsAt K H xs ks→KdsAt K H' xs ks
 |_,_,.nil=>.nil
 |_,_,.cons a b=>.cons (kd_keep e a) (kds_keep e b)
theorem sql_same{K:PySem.W.Frag}{H H':Hp}{a:Addr}{xs:List V}(e:Same H H')(h:SqL K H a xs):SqL K H' a xs:=by
 rcases h with (h|⟨o,h⟩)|h
 ·exact .inl (.inl (e _ _ h))
 ·exact .inl (.inr ⟨o,e _ _ h⟩)
 ·exact .inr h
end K27
namespace K27
open PySem L2 Kk
def flat(ks:List Kd):List Kd:=(ks.map Kd.leaves).flatten
end K27
namespace K27
open PySem L2 Kk
theorem bootInt:bootBuiltins "int"=some (.type "int"):=by decide +kernel
theorem bootTuple:bootBuiltins "tuple"=some (.type "tuple"):=by decide +kernel
end K27
namespace K27
open PySem L2 Kk
def Kd.put(G:Str × Str→Option Kd):Kd→Kd
 |.num n=>.num n
 |.name q t=>(G (q,t)).getD (.name q t)
 |.pair a b=>.pair (Kd.put G a) (Kd.put G b)
def Kd.depth:Kd→Nat
 |.num _=>1
 |.name _ _=>1
 |.pair a b=>1+max (Kd.depth a) (Kd.depth b)
theorem depth_pos(k:Kd):1≤Kd.depth k:=by
 cases k with
 |num _=>exact Nat.le_refl _
 |name _ _=>exact Nat.le_refl _
 |pair a b=>exact Nat.le_add_right _ _
def GvAt(K:PySem.W.Frag)(H:Hp)(kvs:List (List Key × V))(G:Str × Str→Option Kd):Prop :=
 ∀n,(valV kvs (keyN n)=none∧G n=none)∨∃v k,valV kvs (keyN n)=some v∧G n=some k∧KdAt K H v k
theorem GvAt.same{K:PySem.W.Frag}{H H':Hp}{kvs:List (List Key × V)}{G:Str × Str→Option Kd}(e:Same H H')(h:GvAt K H kvs G):GvAt K H' kvs G:=fun n=>by
 rcases h n with h|⟨v,k,h1,h2,h3⟩
 ·exact .inl h
 ·exact .inr ⟨v,k,h1,h2,h3.same e⟩
def spPut(K:PySem.W.Frag)(n:Nat):Sp:=fun vs H Q _=>∃(x:V) (g:Addr) (k:Kd) (kvs:List (List Key × V)) (G:Str × Str→Option Kd),vs=[x,.ref g]∧KdAt K H x k∧Kd.depth k≤n∧H g=some (.dT kvs)∧GvAt K H kvs G ∧
 ∀H' v,Same H H'→KdAt K H' v (Kd.put G k)→Q v H'
section
variable{P:Program}{w:World}{K:PySem.W.Frag}{mg:Str→Option Value}{base:Heap}
theorem scPut:FnScope ["kind","given"] ["kind","given"] (defScope sPut):=⟨rfl,rfl,rfl,by decide +kernel,rfl,by decide +kernel,by decide +kernel⟩
theorem ok_put{f:Addr}{fd:FuncData} (F:Fun K "put" "put" sPut f fd) (bP:Binds K fd ["kind","given"] []) (kP:PySem.W.keepIn K (.ref f)=true) (mP:mg "put"=some (.ref f)) :
  ∀n,FnOk P w K mg base CX0 n f fd ["kind","given"] (spPut K n)
 |0=>⟨fun vs H Q E h=>by obtain⟨x,g,k,kvs,G,rfl,_⟩:=h;rfl,fun A outer s H args us vs Q E _ _ _ _ h=>by
   obtain⟨x,g,k,kvs,G,_,_,hd,_⟩:=h
   have:=depth_pos k
   omega⟩
 |n+1=>by
  have IH:=ok_put F bP kP mP n
  refine F.ok scPut (fun vs H Q E h=>?_) (fun cdv A outer s H vs Q E hr h=>?_)
  ·obtain⟨x,g,k,kvs,G,rfl,_⟩:=h
   rfl
  obtain⟨x,g,k,kvs,G,rfl,hk,hd,hg,hG,q⟩:=h
  have hu:=hu_of hr
  refine⟨_,pss_cons (ps_if (pt_cmpR op_eq (pe_ix ix_tup (pv 0) pe_int (fun _ _=>rfl)) pe_str (nomark _))
    (pss_one (ps_ret (pe_tup (pa_cons pe_str (pa_cons (pe_call IH hr rfl mP kP bP .nil pass0 (pa_cons (pe_ix ix_tup (pv 0) pe_int (fun _ _=>rfl)) (pa_cons (pv 1) pa_nil)))
     (pa_cons (pe_call IH hr rfl mP kP bP .nil pass0 (pa_cons (pe_ix ix_tup (pv 0) pe_int (fun _ _=>rfl)) (pa_cons (pv 1) pa_nil))) pa_nil)))))) pss_nil)
   (pss_cons (ps_if (pt_cmpR op_eq (pe_ix ix_tup (pv 0) pe_int (fun _ _=>rfl)) pe_str (nomark _))
    (pss_one (ps_ret (pe_dget2 hu (pv 1) (pe_tup (pa_cons (pe_ix ix_tup (pv 0) pe_int (fun _ _=>rfl)) (pa_cons (pe_ix ix_tup (pv 0) pe_int (fun _ _=>rfl)) pa_nil))) (pv 0) ⟨rfl,rfl,rfl,rfl⟩))) pss_nil)
   (pss_one (ps_ret (pv 0)))),?_⟩
  cases hk with
  |@num p m t =>
   refine⟨_,rfl,_,_,_,_,rfl,rfl,t,(show atI [V.str "num",.int m] 0=some (.str "num") from rfl),rfl,_,rfl,ite2 (fun c=>absurd c (by decide +kernel)) (fun _=>?_)⟩
   refine⟨_,rfl,_,_,_,_,rfl,rfl,t,(show atI [V.str "num",.int m] 0=some (.str "num") from rfl),rfl,_,rfl,ite2 (fun c=>absurd c (by decide +kernel)) (fun _=>?_)⟩
   exact⟨_,rfl,q _ _ (Same.refl _) (.num t)⟩
  |@name p a b t =>
   refine⟨_,rfl,_,_,_,_,rfl,rfl,t,(show atI [V.str "name",.str a,.str b] 0=some (.str "name") from rfl),rfl,_,rfl,ite2 (fun c=>absurd c (by decide +kernel)) (fun _=>?_)⟩
   refine⟨_,rfl,_,_,_,_,rfl,rfl,t,(show atI [V.str "name",.str a,.str b] 0=some (.str "name") from rfl),rfl,_,rfl,ite2 (fun _=>?_) (fun c=>absurd (by decide +kernel) c)⟩
   refine⟨_,rfl,g,rfl,.inr ⟨kvs,.inl hg⟩,_,rfl,_,_,_,_,rfl,rfl,t,(show atI [V.str "name",.str a,.str b] 1=some (.str a) from rfl),_,rfl,_,_,_,_,rfl,rfl,t,(show atI [V.str "name",.str a,.str b] 2=some (.str b) from rfl),(by show 2≤sizeLine;decide),fun y hy=>?_⟩
   have sy:=same_new hy (.tup [.str a,.str b])
   refine⟨_,rfl,_,DGet.t (k:=keyN (a,b)) (sy _ _ hg) upd_same,q _ _ sy ?_⟩
   show KdAt K _ ((valV kvs (keyN (a,b))).getD _) ((G (a,b)).getD (.name a b))
   rcases hG (a,b) with ⟨h1,h2⟩|⟨v,k',h1,h2,h3⟩
   ·rw [h1,h2]
    exact .name (sy.tup t)
   ·rw [h1,h2]
    exact h3.same sy
  |@pair p y z a b t ha hb =>
   have hd':1+max (Kd.depth a) (Kd.depth b)≤n+1:=hd
   refine⟨_,rfl,_,_,_,_,rfl,rfl,t,(show atI [V.str "pair",y,z] 0=some (.str "pair") from rfl),rfl,_,rfl,ite2 (fun _=>?_) (fun c=>absurd (by decide +kernel) c)⟩
   refine⟨_,rfl,_,_,_,_,rfl,rfl,t,(show atI [V.str "pair",y,z] 1=some y from rfl),_,rfl,y,g,a,kvs,G,rfl,ha,by omega,hg,hG,fun H1 v1 s1 k1=>?_⟩
   refine⟨_,rfl,_,_,_,_,rfl,rfl,s1.tup t,(show atI [V.str "pair",y,z] 2=some z from rfl),_,rfl,z,g,b,kvs,G,rfl,hb.same s1,by omega,s1 _ _ hg,hG.same s1,fun H2 v2 s2 k2=>?_⟩
   refine⟨(by show 3≤sizeLine;decide),fun c hc=>q _ _ (same_trans (same_trans s1 s2) (same_new hc _)) ?_⟩
   exact .pair (SqT.of upd_same) ((k1.same s2).same (same_new hc _)) (k2.same (same_new hc _))
end
end K27
namespace K27
open PySem L2 Kk Builtin.Str
theorem idx_to{n j:Nat}(h:j≤n):strSliceIndices none (some (j:Int)) 1 n=List.range j:=by
 have e:=StrLaws.strSliceIndices_plain (a:=0) (b:=j) (len:=n) (Nat.zero_le _) h
 have e2:strSliceIndices none (some (j:Int)) 1 n=strSliceIndices (some ((0:Nat):Int)) (some (j:Int)) 1 n:=by
  unfold strSliceIndices
  simp
  congr 1
  try omega
 rw [e2,e]
 simp
theorem idx_from{n j:Nat}(h:j≤n):strSliceIndices (some (j:Int)) none 1 n=(List.range (n - j)).map (j+·):=by
 have e:=StrLaws.strSliceIndices_plain (a:=j) (b:=n) (len:=n) h (Nat.le_refl _)
 have e2:strSliceIndices (some (j:Int)) none 1 n=strSliceIndices (some (j:Int)) (some (n:Int)) 1 n:=by
  unfold strSliceIndices
  simp
  congr 1
  split<;>omega
 rw [e2,e]
end K27
namespace K27
open PySem L2 Kk
theorem noWords_len:∀z∈noWords,z.length≤6:=by decide +kernel
theorem inV_str{z:Str}{ws:List Str}:inV (V.str z) (ws.map V.str)=true↔z∈ws:=by
 unfold inV
 rw [List.any_eq_true]
 constructor
 ·rintro⟨y,hy,e⟩
  obtain⟨u,hu,rfl⟩:=List.mem_map.mp hy
  have e':(u==z)=true:=e
  rw [←eq_of_beq e']
  exact hu
 ·intro h
  exact⟨V.str z,List.mem_map.mpr ⟨z,h,rfl⟩,(show(z==z)=true from beq_self_eq_true z)⟩
section
variable{P:Program}{w:World}{K:PySem.W.Frag}{mg:Str→Option Value}{base:Heap}
end
end K27
namespace K27
open PySem L2 Kk
def okW(z:Str):Prop:=PyData.strOk z=true∧z.length≤9000
abbrev sInit:Stmt:=inClass (top 9) 0
theorem kf':¬(("kinds":Str)="funs"):=by decide +kernel
def Kd.ok:Kd→Prop
 |.num _=>True
 |.name q t=>okW q∧okW t
 |.pair a b=>Kd.ok a∧Kd.ok b
section
variable{P:Program}{w:World}{K:PySem.W.Frag}{mg:Str→Option Value}{base:Heap}
theorem bootDict:bootBuiltins "dict"=some (.type "dict"):=by decide +kernel
theorem scInit:FnScope ["self","kinds","funs"] ["self","kinds","funs"] (defScope sInit):=⟨rfl,rfl,rfl,by decide +kernel,rfl,by decide +kernel,by decide +kernel⟩
end
end K27
namespace K27
open PySem L2 Kk
theorem out_of{α:Type}[DecidableEq α]:∀(ws l:List α),l.Nodup→ws.length < l.length→∃x∈l,x∉ws
 |[],[],_,h=>absurd h (by simp)
 |[],x::_,_,_=>⟨x,.head _,fun h=>nomatch h⟩
 |w::ws,l,hn,hl=>by
  have h1:ws.length < (l.erase w).length:=by
   have:=List.length_erase (a:=w) (l:=l)
   simp only [List.length_cons] at hl
   split at this<;>omega
  obtain⟨x,hx,hw⟩:=out_of ws (l.erase w) (hn.erase w) h1
  have hx2:=(hn.mem_erase_iff.mp hx)
  exact⟨x,hx2.2,fun z=>(List.mem_cons.mp z).elim hx2.1 hw⟩
section
variable{P:Program}{w:World}{K:PySem.W.Frag}{mg:Str→Option Value}{base:Heap}
theorem flat_strs(ws:List Str):(ws.map V.str).all flatV=true:=by
 induction ws with
 |nil=>rfl
 |cons z ws ih =>
  rw [List.map_cons,List.all_cons,ih]
  rfl
end
end K27
namespace K27
open PySem L2 Kk
def spPutFun(K:PySem.W.Frag)(n:Nat):Sp:=fun vs H Q _=>∃(p g ta:Addr) (x:V) (xs:List V) (ks:List Kd) (k:Kd) (kvs:List (List Key × V)) (G:Str × Str→Option Kd),vs=[.ref p,.ref g]∧SqT K H p [.ref ta,x]∧SqT K H ta xs∧KdsAt K H xs ks∧KdAt K H x k ∧
 (∀k'∈ks,Kd.depth k'≤n)∧Kd.depth k≤n∧ks.length≤100∧H g=some (.dT kvs)∧GvAt K H kvs G ∧
 ∀H' (p' ta':Addr) (xs':List V) (x':V),Same H H'→H' p'=some (.tup [.ref ta',x'])→H' ta'=some (.tup xs')→KdsAt K H' xs' (ks.map (Kd.put G))→KdAt K H' x' (Kd.put G k)→Q (.ref p') H'
section
variable{P:Program}{w:World}{K:PySem.W.Frag}{mg:Str→Option Value}{base:Heap}
theorem scPutFun:FnScope ["fun","given"] ["fun","given"] (defScope sPutFun):=⟨rfl,rfl,rfl,by decide +kernel,rfl,by decide +kernel,by decide +kernel⟩
theorem kds_get{H:Hp}:∀{xs:List V} {ks:List Kd},KdsAt K H xs ks→∀{i:Nat} {x:V},xs[i]?=some x→∃k,ks[i]?=some k∧KdAt K H x k
 |_,_,.nil,i,x,h=>by simp at h
 |_,_,.cons a t,0,x,h=>by
  simp at h
  subst h
  exact⟨_,rfl,a⟩
 |_,_,.cons a t,i+1,x,h=>by
  simp at h
  obtain⟨k,hk,r⟩:=kds_get t h
  exact⟨k,by simpa using hk,r⟩
set_option maxHeartbeats 0 in
theorem ok_putFun{n:Nat}{f fp:Addr}{fd fdp:FuncData} (F:Fun K "put_in_fun" "put_in_fun" sPutFun f fd) (GP:FnOk P w K mg base CX0 n fp fdp ["kind","given"] (spPut K n)) (bP:Binds K fdp ["kind","given"] []) (kP:PySem.W.keepIn K (.ref fp)=true) (mP:mg "put"=some (.ref fp)) (mt:mg "tuple"=none) :
  FnOk P w K mg base CX0 (n+1) f fd ["fun","given"] (spPutFun K n):=by
 refine F.ok scPutFun (fun vs H Q E h=>?_) (fun cdv A outer s H vs Q E hr h=>?_)
 ·obtain⟨p,g,ta,x,xs,ks,k,kvs,G,rfl,_⟩:=h
  rfl
 obtain⟨p,g,ta,x,xs,ks,k,kvs,G,rfl,hp,hta,hks,hk,hdk,hd,hl,hg,hG,q⟩:=h
 refine⟨_,pss_one (ps_ret (pe_tup (pa_cons (pe_callTy call_tuple_of (by rfl) mt bootTuple (pa_cons (pe_comp (own:=["kind"]) (caps:=["given"]) (κ:=[1]) rfl ⟨rfl,by decide +kernel,by decide +kernel,rfl,rfl,(fun y hy=>by obtain rfl:=List.mem_singleton.mp hy;rfl),(fun y hy=>by obtain rfl:=List.mem_singleton.mp hy;exact⟨.inl rfl,rfl,.inl rfl⟩)⟩ rfl
  (pi_tup (pe_ix ix_tup (pv 0) pe_int (fun _ _=>rfl))) (fun _ _ _ _=>pg_name (i:=0) (show(["kind","given"]:List Str).Nodup from by decide +kernel) rfl (Or.inl rfl)) (fun _ _ _ _=>pe_call GP hr rfl mP kP bP .nil pass0 (pa_cons (pv 0) (pa_cons (pv 1) pa_nil)))) pa_nil))
  (pa_cons (pe_call GP hr (by rfl) mP kP bP .nil pass0 (pa_cons (pe_ix ix_tup (pv 0) pe_int (fun _ _=>rfl)) (pa_cons (pv 1) pa_nil))) pa_nil)))),?_⟩
 have hlx:=hks.length
 refine⟨_,rfl,p,_,_,_,rfl,rfl,hp,(show atI [V.ref ta,x] 0=some (.ref ta) from rfl),ta,rfl,⟨_,hta⟩,?_⟩
 refine comp_by (xs:=xs) (fun i ys H3=>Same H H3∧KdsAt K H3 ys ((ks.take i).map (Kd.put G))∧ys.length=i) ⟨Same.refl _,.nil,rfl⟩ (small (by omega)) ?_ ?_ ?_ ?_ ?_ ?_
 ·rintro i ys H3 ⟨_,_,h⟩
  exact Nat.le_of_eq h
 ·rintro i u ys H3 hu ⟨s3,_⟩
  exact⟨_,_,s3.tup hta,hu⟩
 ·rintro i ys u H3 H' hn ⟨s3,_⟩ hy
  exact⟨hy.1,hy.2 _ (s3.tup hta)⟩
 ·rintro ys H3 ⟨s3,_⟩
  exact⟨_,s3.tup hta,Nat.le_refl _⟩
 ·rintro i u ys H3 N hN hu ⟨s3,hys,hz⟩
  obtain⟨k1,hk1,hku⟩:=kds_get hks hu
  have hm:k1∈ks:=List.mem_of_getElem? hk1
  refine⟨rfl,tYes_go ⟨_,rfl,_,rfl,u,g,k1,kvs,G,rfl,hku.same s3,hdk k1 hm,s3 _ _ hg,hG.same s3,fun H4 v s4 hv=>hN _ _ ⟨s3.trans s4,?_,?_⟩⟩⟩
  ·have e:(ks.take (i+1)).map (Kd.put G)=(ks.take i).map (Kd.put G)++[Kd.put G k1]:=by
    rw [List.take_add_one,hk1]
    simp
   rw [e]
   exact(hys.same s4).append (one hv)
  ·rw [List.length_append,hz]
   rfl
 ·rintro ys H3 D ⟨s3,hys,hz⟩ hD
  have eA:ks.take xs.length=ks:=by rw [hlx];exact List.take_length
  rw [eA] at hys
  have e1:=same_new hD (.lst ys)
  refine⟨D,ys,rfl,.inl ⟨SqL.of upd_same,fun ta' hta'=>?_⟩⟩
  have e2:=same_new hta' (.tup ys)
  have s5:=s3.trans (e1.trans e2)
  refine⟨_,rfl,p,_,_,_,rfl,rfl,s5.tup hp,(show atI [V.ref ta,x] 1=some x from rfl),_,rfl,x,g,k,kvs,G,rfl,hk.same s5,hd,s5 _ _ hg,hG.same s5,fun H6 x' s6 hx'=>?_⟩
  refine⟨(by show 2≤sizeLine;decide),fun p' hp'=>?_⟩
  have e7:=same_new hp' (.tup [.ref ta',x'])
  exact q _ p' ta' ys x' (s5.trans (s6.trans e7)) upd_same (e7 _ _ (s6 _ _ upd_same)) (hys.same (e1.trans (e2.trans (s6.trans e7)))) (hx'.same e7)
end
end K27
namespace K27
open PySem L2 Kk
section
variable{P:Program}{w:World}{K:PySem.W.Frag}{mg:Str→Option Value}{base:Heap}
end
end K27
namespace K27
open PySem L2 Kk
def spInitF(CF:Addr):Sp:=fun vs H Q _=>∃(p dx a b:Addr) (kvs fvs:List (Key × V)),vs=[.ref p,.ref a,.ref b]∧H p=some (.ins CF dx [])∧H a=some (.dK kvs)∧H b=some (.dK fvs) ∧
 ∀(d e:Addr) (fs:List (Str × V)) (H':Hp),H d=none→H e=none→d≠e→H' p=some (.ins CF dx fs)→fs.lookup ("kinds":Str)=some (.ref d)→fs.lookup ("funs":Str)=some (.ref e)→fs.lookup ("hidden":Str)=none→fs.lookup ("put":Str)=none→H' d=some (.dK kvs)→H' e=some (.dK fvs)→(∀c o,H c=some o→c≠p→H' c=some o)→Q .non H'
section
variable{P:Program}{w:World}{K:PySem.W.Frag}{mg:Str→Option Value}{base:Heap}
theorem ok_initF{f CF:Addr}{fd:FuncData} (F:Fun K "__init__" "Face.__init__" sInit f fd) (cF:Cls K CF) (nK:NoAttr K CF "kinds") (nF:NoAttr K CF "funs") (md:mg "dict"=none):FnOk P w K mg base CX0 1 f fd ["self","kinds","funs"] (spInitF CF):=by
 refine F.ok scInit (fun vs H Q E h=>?_) (fun cdv A outer s H vs Q E hr h=>?_)
 ·obtain⟨p,dx,a,b,kvs,fvs,rfl,_⟩:=h
  rfl
 obtain⟨p,dx,a,b,kvs,fvs,rfl,hp,ha,hb,q⟩:=h
 refine⟨_,pss_cons (ps_fld (pv 0) (pe_callTy call_dict_dK rfl md bootDict (pa_cons (pv 1) pa_nil)) rfl) (pss_one (ps_fld (pv 0) (pe_callTy call_dict_dK rfl md bootDict (pa_cons (pv 2) pa_nil)) rfl)),?_⟩
 refine⟨_,rfl,a,kvs,rfl,ha,fun d hd=>?_⟩
 have npd:p≠d:=ne_of_none hp hd
 refine⟨_,rfl,p,CF,dx,[],rfl,(by rw [upd_ne npd];exact hp),cF,nK,(by show 0 < 1000;decide),?_⟩
 have hb1:upd (upd H d (.dK kvs)) p (.ins CF dx (putF "kinds" (.ref d) [])) b=some (.dK fvs):=by
  rw [upd_ne (ne_of hb hp (by intro z;cases z)),upd_ne (ne_of_none hb hd)]
  exact hb
 refine⟨_,rfl,b,fvs,rfl,hb1,fun e he=>?_⟩
 have npe:p≠e:=fun z=>by rw [←z,upd_same] at he;cases he
 have nde:d≠e:=fun z=>by rw [←z,upd_ne npd.symm,upd_same] at he;cases he
 have he0:H e=none:=by
  rw [upd_ne npe.symm,upd_ne nde.symm] at he
  exact he
 refine⟨_,rfl,p,CF,dx,_,rfl,(by rw [upd_ne npe];exact upd_same),cF,nF,(by show 1 < 1000;decide),?_⟩
 refine q d e _ _ hd he0 nde upd_same (by rw [lookup_putF,if_neg kf',lookup_putF,if_pos rfl]) (by rw [lookup_putF,if_pos rfl]) (by rw [lookup_putF,if_neg (by decide +kernel),lookup_putF,if_neg (by decide +kernel)];rfl) (by rw [lookup_putF,if_neg (by decide +kernel),lookup_putF,if_neg (by decide +kernel)];rfl) ?_ ?_ fun c o ec hc=>?_
 ·rw [upd_ne npd.symm,upd_ne nde,upd_ne npd.symm,upd_same]
 ·rw [upd_ne npe.symm,upd_same]
 ·have hce:c≠e:=fun z=>by
   rw [z] at ec hc
   rw [he0] at ec
   cases ec
  rw [upd_ne hc,upd_ne hce,upd_ne hc,upd_ne (ne_of_none ec hd)]
  exact ec
end
end K27
namespace K27
open PySem L2 Kk
def PkAt{α:Type}(R:V→α→Prop)(kvs:List (Key × V))(m:List (Str × α)):Prop:=Paired (fun(p:Key × V) (q:Str × α)=>p.1=.inr q.1∧R p.2 q.2) kvs m
theorem PkAt.snoc{α:Type}{R:V→α→Prop}{kvs:List (Key × V)}{m:List (Str × α)}{z:Str}{v:V}{x:α}(h:PkAt R kvs m)(hv:R v x):PkAt R (kvs++[(.inr z,v)]) (m++[(z,x)]):=by
 unfold PkAt at h ⊢
 induction h with
 |nil=>exact .cons ⟨rfl,hv⟩ .nil
 |cons a _ ih=>exact .cons a ih
theorem PkAt.imp{α:Type}{R S:V→α→Prop}{kvs:List (Key × V)}{m:List (Str × α)}(f:∀v x,R v x→S v x)(h:PkAt R kvs m):PkAt S kvs m:=Paired.mapP h fun _ _ ⟨e,r⟩=>⟨e,f _ _ r⟩
theorem PkAt.keys{α:Type}{R:V→α→Prop}{kvs:List (Key × V)}{m:List (Str × α)}(h:PkAt R kvs m):kvs.map (·.1)=m.map fun q=>(Sum.inr q.1:Key):=by
 unfold PkAt at h
 induction h with
 |nil=>rfl
 |cons a _ ih=>rw [List.map_cons,List.map_cons,ih,a.1]
theorem valV_out{kvs:List (Key × V)}{k:Key}(h:k∉kvs.map (·.1)):valV kvs k=none:=by
 cases e:valV kvs k with
 |none=>rfl
 |some v =>
  exfalso
  apply h
  unfold valV at e
  obtain⟨p,hp,_⟩:=Option.map_eq_some_iff.mp e
  have h1:=List.mem_of_find?_eq_some hp
  have h2:=List.find?_some hp
  have h3:p.1=k:=by simpa using h2
  rw [←h3]
  exact List.mem_map_of_mem h1
theorem PkAt.put{α:Type}{R:V→α→Prop}{kvs:List (Key × V)}{m:List (Str × α)}{z:Str}{v:V}{x:α}(h:PkAt R kvs m)(hz:z∉m.map (·.1))(hv:R v x):PkAt R (putK kvs (.inr z) v) (m++[(z,x)]):=by
 rw [putK_new v (valV_out ?_)]
 ·exact h.snoc hv
 ·rw [h.keys]
  intro hm
  obtain⟨q,hq,e⟩:=List.mem_map.mp hm
  exact hz (by rw [←Sum.inr.inj e];exact List.mem_map_of_mem hq)
def FunAt(K:PySem.W.Frag)(H:Hp)(v:V)(f:List Kd × Kd):Prop:=∃(p ta:Addr) (x:V) (xs:List V),v=.ref p∧SqT K H p [.ref ta,x]∧SqT K H ta xs∧KdsAt K H xs f.1∧KdAt K H x f.2
theorem FunAt.keep{K:PySem.W.Frag}{H H':Hp}{v:V}{f:List Kd × Kd}(e:∀a xs,SqT K H a xs→SqT K H' a xs)(h:FunAt K H v f):FunAt K H' v f:=by
 obtain⟨p,ta,x,xs,h1,h2,h3,h4,h5⟩:=h
 exact⟨p,ta,x,xs,h1,e _ _ h2,e _ _ h3,kds_keep e h4,kd_keep e h5⟩
end K27
namespace K27
open PySem L2 Kk
theorem sqt_dk{H:Hp}{l a:Addr}{kvs:List (Key × V)}{xs:List V}{o:HO}(h:H l=some (.dK kvs))(t:SqT K H a xs):SqT K (upd H l o) a xs:=by
 rcases t with (t|⟨o',t⟩)|t
 ·exact .inl (.inl (by rw [upd_ne (fun e=>by rw [e,h] at t;cases t)];exact t))
 ·exact .inl (.inr ⟨o',by rw [upd_ne (fun e=>by rw [e,h] at t;cases t)];exact t⟩)
 ·exact .inr t
def FaceF(K:PySem.W.Frag)(H:Hp)(CF fa:Addr)(m1:List (Str × Kd))(m2:List (Str × (List Kd × Kd))):Prop :=
 ∃(dx d1 d2:Addr) (fs:List (Str × V)) (kv1 kv2:List (Key × V)),H fa=some (.ins CF dx fs)∧fs.lookup ("kinds":Str)=some (.ref d1)∧fs.lookup ("funs":Str)=some (.ref d2)∧H d1=some (.dK kv1)∧H d2=some (.dK kv2)∧PkAt (KdAt K H) kv1 m1∧PkAt (FunAt K H) kv2 m2∧fs.lookup ("hidden":Str)=none∧fs.lookup ("put":Str)=none
end K27
namespace K27
open PySem L2 Kk
def Kd.dat:Kd→PyData
 |.num n=>.tuple [.str "num",.int n]
 |.name q t=>.tuple [.str "name",.str q,.str t]
 |.pair a b=>.tuple [.str "pair",Kd.dat a,Kd.dat b]
theorem kd_dat{K:PySem.W.Frag}{H:Hp}:∀{x:V} {k:Kd},KdAt K H x k→Dat K H x (Kd.dat k)
 |_,_,.num t=>.tup t (.cons (.str _) (.cons (.int _) .nil))
 |_,_,.name t=>.tup t (.cons (.str _) (.cons (.str _) (.cons (.str _) .nil)))
 |_,_,.pair t a b=>.tup t (.cons (.str _) (.cons (kd_dat a) (.cons (kd_dat b) .nil)))
theorem eqv_tup(xs ys:List PyData):PyData.eqv (.tuple xs) (.tuple ys)=PyData.eqvAll xs ys:=by simp [PyData.eqv]
theorem eqv_lst(xs ys:List PyData):PyData.eqv (.list xs) (.list ys)=PyData.eqvAll xs ys:=by simp [PyData.eqv]
theorem eqvA_cons(x y:PyData)(xs ys:List PyData):PyData.eqvAll (x::xs) (y::ys)=(PyData.eqv x y&&PyData.eqvAll xs ys):=by simp [PyData.eqvAll]
theorem eqvA_nil:PyData.eqvAll [] []=true:=by simp [PyData.eqvAll]
theorem eqv_str(x y:Str):PyData.eqv (.str x) (.str y)=decide (x=y):=by
 rw [show PyData.eqv (.str x) (.str y)=(x==y) by simp [PyData.eqv]]
 rfl
theorem eqv_int(x y:Int):PyData.eqv (.int x) (.int y)=decide (x=y):=by
 rw [show PyData.eqv (.int x) (.int y)=(x==y) by simp [PyData.eqv]]
 rfl
theorem eqv_dat(a:Kd):∀b:Kd,PyData.eqv (Kd.dat a) (Kd.dat b)=decide (a=b):=by
 induction a with
 |num n =>
  intro b
  cases b with
  |num m =>
   show PyData.eqv (.tuple [.str "num",.int n]) (.tuple [.str "num",.int m])=_
   rw [eqv_tup,eqvA_cons,eqvA_cons,eqvA_nil,eqv_str,eqv_int]
   simp
  |name q t =>
   show PyData.eqv (.tuple (.str "num"::_)) (.tuple (.str "name"::_))=_
   rw [eqv_tup,eqvA_cons,eqv_str,decide_eq_false (by decide +kernel),decide_eq_false (by intro e;cases e)]
   rfl
  |pair c d =>
   show PyData.eqv (.tuple (.str "num"::_)) (.tuple (.str "pair"::_))=_
   rw [eqv_tup,eqvA_cons,eqv_str,decide_eq_false (by decide +kernel),decide_eq_false (by intro e;cases e)]
   rfl
 |name q t =>
  intro b
  cases b with
  |num m =>
   show PyData.eqv (.tuple (.str "name"::_)) (.tuple (.str "num"::_))=_
   rw [eqv_tup,eqvA_cons,eqv_str,decide_eq_false (by decide +kernel),decide_eq_false (by intro e;cases e)]
   rfl
  |name q' t' =>
   show PyData.eqv (.tuple [.str "name",.str q,.str t]) (.tuple [.str "name",.str q',.str t'])=_
   rw [eqv_tup,eqvA_cons,eqvA_cons,eqvA_cons,eqvA_nil,eqv_str,eqv_str,eqv_str]
   simp
  |pair c d =>
   show PyData.eqv (.tuple (.str "name"::_)) (.tuple (.str "pair"::_))=_
   rw [eqv_tup,eqvA_cons,eqv_str,decide_eq_false (by decide +kernel),decide_eq_false (by intro e;cases e)]
   rfl
 |pair a1 a2 h1 h2 =>
  intro b
  cases b with
  |num m =>
   show PyData.eqv (.tuple (.str "pair"::_)) (.tuple (.str "num"::_))=_
   rw [eqv_tup,eqvA_cons,eqv_str,decide_eq_false (by decide +kernel),decide_eq_false (by intro e;cases e)]
   rfl
  |name q' t' =>
   show PyData.eqv (.tuple (.str "pair"::_)) (.tuple (.str "name"::_))=_
   rw [eqv_tup,eqvA_cons,eqv_str,decide_eq_false (by decide +kernel),decide_eq_false (by intro e;cases e)]
   rfl
  |pair c d =>
   show PyData.eqv (.tuple [.str "pair",Kd.dat a1,Kd.dat a2]) (.tuple [.str "pair",Kd.dat c,Kd.dat d])=_
   rw [eqv_tup,eqvA_cons,eqvA_cons,eqvA_cons,eqvA_nil,eqv_str,h1,h2]
   simp
theorem lay_kd:∀{k:Kd},Kd.ok k→PyData.canLay0 (Kd.dat k)=true
 |.num n,_=>by
  have h:PyData.strOk "num"=true:=by decide +kernel
  simp [Kd.dat,PyData.canLay0,PyData.canLayAll0,h]
 |.name q t,⟨h1,h2⟩=>by
  have h:PyData.strOk "name"=true:=by decide +kernel
  simp [Kd.dat,PyData.canLay0,PyData.canLayAll0,h,h1.1,h2.1]
 |.pair a b,⟨h1,h2⟩=>by
  have h:PyData.strOk "pair"=true:=by decide +kernel
  simp [Kd.dat,PyData.canLay0,PyData.canLayAll0,h,lay_kd h1,lay_kd h2]
theorem deep_kd:∀k:Kd,PyData.depth (Kd.dat k)≤Kd.depth k
 |.num n=>by simp [Kd.dat,PyData.depth,PyData.depthAll,Kd.depth]
 |.name q t=>by simp [Kd.dat,PyData.depth,PyData.depthAll,Kd.depth]
 |.pair a b=>by
  have h1:=deep_kd a
  have h2:=deep_kd b
  simp only [Kd.dat,PyData.depth,PyData.depthAll,Kd.depth]
  omega
theorem kd_shaped{k:Kd}(h:Kd.ok k)(hd:Kd.depth k≤60):SeqAt.shaped (Kd.dat k)=true:=by
 have h1:=lay_kd h
 have h2:=deep_kd k
 unfold SeqAt.shaped
 rw [h1,decide_eq_true (show PyData.depth (Kd.dat k)≤64 by omega)]
 rfl
theorem depth_words:∀k:Kd,Kd.depth k≤k.words
 |.num n=>Nat.le_refl _
 |.name q t=>Nat.le_refl _
 |.pair a b=>by
  have h1:=depth_words a
  have h2:=depth_words b
  simp only [Kd.depth,Kd.words]
  omega
abbrev sHidden:Stmt:=inClass (top 9) 2
def ownK(z:Str):Kd:=.name "" z
def spOwn(K:PySem.W.Frag):Sp:=fun vs H Q _=>∃z:Str,vs=[.str z]∧∀H' x,Same H H'→KdAt K H' x (ownK z)→Q x H'
def hidB(q:Str × Kd):Bool:=decide (q.2=ownK q.1)
def hidL(m:List (Str × Kd)):List Str:=(m.filter hidB).map (·.1)
def spHidden(K:PySem.W.Frag)(CF:Addr):Sp:=fun vs H Q _=>∃(fa:Addr) (m1:List (Str × Kd)) (m2:List (Str × (List Kd × Kd))),vs=[.ref fa]∧FaceF K H CF fa m1 m2∧m1.length≤100∧(∀q∈m1,okW q.1∧Kd.ok q.2∧Kd.depth q.2≤60) ∧
 ∀H' (l:Addr),Same H H'→H l=none→H' l=some (.lst ((hidL m1).map V.str))→Q (.ref l) H'
theorem ok_empty:okW "":=⟨by decide +kernel,by decide +kernel⟩
section
variable{P:Program}{w:World}{K:PySem.W.Frag}{mg:Str→Option Value}{base:Heap}
theorem scOwn:FnScope ["word"] ["word"] (defScope sOwn):=⟨rfl,rfl,rfl,by decide +kernel,rfl,by decide +kernel,by decide +kernel⟩
theorem ok_own{f:Addr}{fd:FuncData} (F:Fun K "own_name" "own_name" sOwn f fd):FnOk P w K mg base CX0 1 f fd ["word"] (spOwn K):=by
 refine F.ok scOwn (fun vs H Q E h=>?_) (fun cdv A outer s H vs Q E hr h=>?_)
 ·obtain⟨z,rfl,_⟩:=h
  rfl
 obtain⟨z,rfl,q⟩:=h
 refine⟨_,pss_one (ps_ret (pe_tup (pa_cons pe_str (pa_cons pe_str (pa_cons (pv 0) pa_nil))))),?_⟩
 exact⟨_,rfl,(by show 3≤sizeLine;decide),fun p hp=>q _ _ (same_new hp _) (.name (SqT.of upd_same))⟩
theorem scHidden:FnScope ["self"] ["self"] (defScope sHidden):=⟨rfl,rfl,rfl,by decide +kernel,rfl,by decide +kernel,by decide +kernel⟩
set_option maxHeartbeats 0 in
theorem ok_hidden{f fo CF:Addr}{fd fdo:FuncData} (F:Fun K "hidden" "Face.hidden" sHidden f fd) (GO:FnOk P w K mg base CX0 1 fo fdo ["word"] (spOwn K)) (bO:Binds K fdo ["word"] []) (kO:PySem.W.keepIn K (.ref fo)=true) (mO:mg "own_name"=some (.ref fo)) (cF:Cls K CF) (nK:NoAttr K CF "kinds") :
  FnOk P w K mg base CX0 2 f fd ["self"] (spHidden K CF):=by
 refine F.ok scHidden (fun vs H Q E h=>?_) (fun cdv A outer s H vs Q E hr h=>?_)
 ·obtain⟨fa,m1,m2,rfl,_⟩:=h
  rfl
 obtain⟨fa,m1,m2,rfl,hF,h100,hok,q⟩:=h
 have hu:=hr.units
 refine⟨_,pss_one (ps_ret (pe_thaw (pe_comp_if (own:=["word","kind"]) (caps:=[]) (κ:=[]) rfl ⟨rfl,by decide +kernel,by decide +kernel,rfl,rfl,(fun y hy=>nomatch hy),(fun y hy=>nomatch hy)⟩ rfl
  (pi_items (pe_fld (pv 0) rfl)) (fun _ _ _ _=>pg_two (K:=K) (i:=0) (j:=1) rfl rfl (show(["word","kind"]:List Str).Nodup from by decide +kernel) rfl (Or.inl rfl) (Or.inr rfl) rfl (Or.inl rfl) (Or.inr rfl))
  (fun _ _ _ _=>pt_cmpR (eqK (K:=K) rfl hu) (pv 1) (pe_call GO hr rfl mO kO bO .nil pass0 (pa_cons (pv 0) pa_nil)) (nomark _)) (fun _ _ _ _=>pv 0)))),?_⟩
 obtain⟨dx,d1,d2,fs,kv1,kv2,hfa,hl1,hl2,hd1,hd2,hk1,hk2,_,_⟩:=hF
 have hlen:kv1.length=m1.length:=Paired.length hk1
 refine⟨_,rfl,fa,CF,dx,fs,_,rfl,hfa,cF,nK,hl1,d1,kv1,rfl,hd1,fun o=>?_⟩
 refine comp_items (fun i ys H3=>(∀b u,H b=some u→b≠d1→H3 b=some u)∧H3 d1=some (.frz o (.dK kv1))∧ys=(hidL (m1.take i)).map V.str∧ys.length≤i∧(∀a xs,SqT K H a xs→SqT K H3 a xs)) ?_ (small (by omega)) ?_ ?_ ?_ ?_
 ·exact⟨fun b u hb nb=>by rw [upd_ne nb];exact hb,upd_same,rfl,Nat.le_refl _,fun a xs h=>sqt_dk hd1 h⟩
 ·rintro i ys H3 ⟨_,_,_,h,_⟩
  exact h
 ·rintro i ys H3 ⟨_,h,_⟩
  exact h
 ·rintro i p a ys H3 N hN hp ha ⟨old,hd3,rfl,hys,keep⟩
  obtain⟨⟨z,k⟩,hq,ez,hkz⟩:=pair_get hk1 hp
  obtain⟨pk,pw⟩:=p
  replace ez:pk=.inr z:=ez
  replace hkz:KdAt K H pw k:=hkz
  subst ez
  obtain⟨oz,ok,od⟩:=hok (z,k) (List.mem_of_getElem? hq)
  have ea:=same_new ha (.tup [kV (.inr z),pw])
  refine⟨a,_,rfl,SqT.of upd_same,rfl,_,_,rfl,_,_,rfl,rfl,rfl,?_⟩
  have keepA:∀b xs,SqT K H b xs→SqT K (upd H3 a (.tup [kV (.inr z),pw])) b xs:=fun b xs h=>ea.tup (keep b xs h)
  refine⟨_,rfl,_,rfl,z,rfl,fun H4 x4 s4 hx4=>?_⟩
  have hkz4:=(kd_keep keepA hkz).same s4
  refine⟨_,_,kd_dat hkz4,kd_dat hx4,kd_shaped ok od,kd_shaped ⟨ok_empty,oz⟩ (by show 1≤60;decide),_,rfl,?_⟩
  have eT:hidL (m1.take (i+1))=hidL (m1.take i)++(if hidB (z,k)=true then [z] else []):=by
   rw [List.take_add_one,hq]
   unfold hidL
   rw [List.filter_append,List.map_append]
   congr 1
   show((([(z,k)]:List (Str × Kd)).filter hidB).map (·.1))=_
   rw [List.filter_cons]
   by_cases c:hidB (z,k)=true
   ·rw [if_pos c,if_pos c];rfl
   ·rw [if_neg c,if_neg c];rfl
  have old4:∀b u,H b=some u→b≠d1→H4 b=some u:=fun b u hb nb=>s4 _ _ (ea _ _ (old b u hb nb))
  have eb:PyData.eqv (Kd.dat k) (Kd.dat (ownK z))=hidB (z,k):=eqv_dat _ _
  refine ite2 (fun c=>?_) (fun c=>?_)
  ·have c':hidB (z,k)=true:=by rw [←eb];exact c
   rw [if_pos c'] at eT
   refine⟨_,rfl,hN _ _ ⟨old4,s4 _ _ (ea _ _ hd3),?_,?_,fun b xs t=>s4.tup (keepA b xs t)⟩⟩
   ·rw [eT,List.map_append];rfl
   ·rw [List.length_append];show _+1≤_;omega
  ·have c':¬hidB (z,k)=true:=by rw [←eb];exact c
   rw [if_neg c',List.append_nil] at eT
   refine hN _ _ ⟨old4,s4 _ _ (ea _ _ hd3),by rw [eT],by omega,fun b xs t=>s4.tup (keepA b xs t)⟩
 ·rintro ys H3 D ⟨old,hd3,rfl,hys,keep⟩ hD
  have nD:d1≠D:=ne_of_none hd3 hD
  have nofz:∀o' u',H d1≠some (.frz o' u'):=fun o' u' e=>by
   rw [e] at hd1
   cases hd1
  refine⟨d1,o,.dK kv1,(by rw [upd_ne nD];exact hd3),nofz,?_⟩
  have hs:Same H (upd (upd H3 D (.lst ((hidL (m1.take kv1.length)).map V.str))) d1 (.dK kv1)):=fun b u hb=>by
   by_cases e:b=d1
   ·rw [e] at hb ⊢
    rw [hd1] at hb
    cases hb
    exact upd_same
   ·rw [upd_ne e]
    have h3:=old b u hb e
    rw [upd_ne (ne_of_none h3 hD)]
    exact h3
  have hD0:H D=none:=by
   cases e:H D with
   |none=>rfl
   |some u=>rw [old D u e (Ne.symm nD)] at hD;cases hD
  refine q _ D hs hD0 ?_
  rw [upd_ne (Ne.symm nD),upd_same,hlen,List.take_length]
end
end K27
namespace K27
open PySem L2 Kk
def Fits(K:PySem.W.Frag)(H:Hp)(x:V):Prop:=∃d n,Dat K H x d∧Shw d n 60∧n≤1900000
theorem Fits.same{K:PySem.W.Frag}{H H':Hp}{x:V}(s:Same H H')(h:Fits K H x):Fits K H' x:=let ⟨d,n,a,b⟩:=h;⟨d,n,a.same s,b⟩
def Kd.sm:Kd→Prop
 |.num n=>0≤n∧n≤10 ^ 18
 |.name q t=>(PyData.strOk q=true∧q.length≤14)∧PyData.strOk t=true∧t.length≤14
 |.pair a b=>Kd.sm a∧Kd.sm b
theorem sm_ok:∀{k:Kd},Kd.sm k→Kd.ok k
 |.num _,_=>True.intro
 |.name _ _,⟨⟨a,b⟩,c,d⟩=>⟨⟨a,by omega⟩,c,by omega⟩
 |.pair _ _,⟨a,b⟩=>⟨sm_ok a,sm_ok b⟩
theorem shw_kd:∀{k:Kd},Kd.sm k→Shw (Kd.dat k) (400*k.words) (Kd.depth k)
 |.num n,h=>by
  have h1:=shws_cons (shw_str (y:="num") (by decide +kernel) 0) (shws_cons (shw_int h.1 h.2 0) (shws_nil 0))
  have e:(Str.ofString "num").length=3:=by decide +kernel
  refine(shw_tup h1).le ?_ (by show 0+1≤1;decide)
  rw [e]
  show _≤400*1
  omega
 |.name q t,⟨⟨a,b⟩,c,d⟩=>by
  have h1:=shws_cons (shw_str (y:="name") (by decide +kernel) 0) (shws_cons (shw_str a 0) (shws_cons (shw_str c 0) (shws_nil 0)))
  have e:(Str.ofString "name").length=4:=by decide +kernel
  refine(shw_tup h1).le ?_ (by show 0+1≤1;decide)
  rw [e]
  show _≤400*1
  omega
 |.pair k l,⟨a,b⟩=>by
  have m1:Kd.depth k≤max (Kd.depth k) (Kd.depth l):=Nat.le_max_left _ _
  have m2:Kd.depth l≤max (Kd.depth k) (Kd.depth l):=Nat.le_max_right _ _
  have h1:=shws_cons (shw_str (y:="pair") (by decide +kernel) (max (Kd.depth k) (Kd.depth l))) (shws_cons ((shw_kd a).le (Nat.le_refl _) m1) (shws_cons ((shw_kd b).le (Nat.le_refl _) m2) (shws_nil _)))
  have e:(Str.ofString "pair").length=4:=by decide +kernel
  refine(shw_tup h1).le ?_ ?_
  ·rw [e]
   show _≤400*(1+k.words+l.words)
   omega
  ·simp only [Kd.depth]
   omega
theorem fits_kd{K:PySem.W.Frag}{H:Hp}{x:V}{k:Kd}(h:KdAt K H x k)(s:Kd.sm k)(hw:k.words≤4000)(hd:Kd.depth k≤60):Fits K H x:=⟨_,_,kd_dat h,(shw_kd s).le (Nat.le_refl _) hd,by omega⟩
theorem fits_str{K:PySem.W.Frag}{H:Hp}{z:Str}(h:PyData.strOk z=true)(hl:z.length≤1000):Fits K H (.str z):=⟨_,_,.str z,shw_str h 60,by omega⟩
theorem fits_non{K:PySem.W.Frag}{H:Hp}:Fits K H .non:=⟨_,_,.non,shw_non 60,by omega⟩
def sumK(ks:List Kd):Nat:=(ks.map Kd.words).sum
def Fn.dat(f:List Kd × Kd):PyData:=.tuple [.tuple (f.1.map Kd.dat),Kd.dat f.2]
theorem kds_dat{K:PySem.W.Frag}{H:Hp}:∀{xs:List V} {ks:List Kd},KdsAt K H xs ks→Dats K H xs (ks.map Kd.dat)
 |_,_,.nil=>.nil
 |_,_,.cons h r=>.cons (kd_dat h) (kds_dat r)
theorem fn_dat{K:PySem.W.Frag}{H:Hp}{v:V}{f:List Kd × Kd}(h:FunAt K H v f):Dat K H v (Fn.dat f):=by
 obtain⟨p,ta,x,xs,rfl,h1,h2,h3,h4⟩:=h
 exact .tup h1 (.cons (.tup h2 (kds_dat h3)) (.cons (kd_dat h4) .nil))
theorem shws_kds:∀{ks:List Kd} {m:Nat},(∀k∈ks,Kd.sm k∧Kd.depth k≤m)→Shws (ks.map Kd.dat) (402*sumK ks) m
 |[],m,_=>shws_nil m
 |k::ks,m,h=>by
  obtain⟨h1,h2⟩:=h k (.head _)
  have r:=shws_kds (ks:=ks) fun j hj=>h j (.tail _ hj)
  have c:=shws_cons ((shw_kd h1).le (Nat.le_refl _) h2) r
  have p:=words_pos k
  refine⟨c.sh,c.nd,c.dp,Nat.le_trans c.ln ?_⟩
  show _≤402*(k.words+(ks.map Kd.words).sum)
  have:sumK ks=(ks.map Kd.words).sum:=rfl
  omega
theorem fits_fn{K:PySem.W.Frag}{H:Hp}{v:V}{f:List Kd × Kd}(h:FunAt K H v f)(s:∀k∈f.2::f.1,Kd.sm k∧Kd.depth k≤50)(hw:sumK (f.2::f.1)≤4600):Fits K H v:=by
 obtain⟨s1,s2⟩:=s f.2 (.head _)
 have h1:=shw_tup (shws_kds (ks:=f.1) (m:=50) fun k hk=>s k (.tail _ hk))
 have h2:=shw_tup (shws_cons h1 (shws_cons ((shw_kd s1).le (Nat.le_refl _) (Nat.le_trans s2 (by decide:50≤51))) (shws_nil 51)))
 refine⟨_,_,fn_dat h,h2.le (Nat.le_refl _) (by decide),?_⟩
 have e:sumK (f.2::f.1)=f.2.words+sumK f.1:=rfl
 omega
end K27
namespace K27
open PySem L2 Kk
abbrev sInitN:Stmt:=inClass (top 3) 0
def nfs(p n u f:V):List (Str × V):=putF "found" f (putF "due" u (putF "name" n [("part",p)]))
def spInitN(K:PySem.W.Frag)(C:Addr):Sp:=fun vs H Q _=>∃(e:Addr) (p n u f:V),vs=[.ref e,p,n,u,f]∧H e=some (.ext (excRaw e C none))∧Fits K H p∧Fits K H n∧Fits K H u∧Fits K H f ∧
 ∀dx H',dx≠e→(∀b o,b≠e→H b=some o→H' b=some o)→H' e=some (.ext (excRaw e C (some dx)))→H' dx=some (.ext (xdAt dx (nfs p n u f)))→Q .non H'
section
variable{P:Program}{w:World}{K:PySem.W.Frag}{mg:Str→Option Value}{base:Heap}
theorem scInitN:FnScope ["self","part","name","due","found"] ["self","part","name","due","found"] (defScope sInitN):=⟨rfl,rfl,rfl,by decide +kernel,rfl,by decide +kernel,by decide +kernel⟩
set_option maxHeartbeats 0 in
theorem ok_initN{f C R:Addr}{fd:FuncData} (F:Fun K "__init__" "NoFit.__init__" sInitN f fd) (mR:mg "Refused"=some (.ref R)) (bR:BaseI K R) (ex:excInI K C bmVE "ValueError.__new__"=true) (st:ExcSet K C)
  (t1:PySem.W.takerIn K C "part"=some none) (t2:PySem.W.takerIn K C "name"=some none) (t3:PySem.W.takerIn K C "due"=some none) (t4:PySem.W.takerIn K C "found"=some none) :
  FnOk P w K mg base CX0 1 f fd ["self","part","name","due","found"] (spInitN K C):=by
 refine F.ok scInitN (fun vs H Q E h=>?_) (fun cdv A outer s H vs Q E hr h=>?_)
 ·obtain⟨e,p,n,u,f,rfl,_⟩:=h
  rfl
 obtain⟨e,p,n,u,f,rfl,he,⟨dp,np,hp,sp,lp⟩,⟨dn,nn,hn,sn,ln⟩,⟨du,nu,hu,su,lu⟩,⟨df,nf,hf,sf,lf⟩,q⟩:=h
 refine⟨_,pss_cons (ps_expr (pe_baseInit bR rfl mR (pa_cons (pv 0) (pa_cons (pe_fstr (pj_cons pe_str (pj_cons (pe_frD hr (pv 1)) (pj_cons pe_str (pj_cons (pe_frD hr (pv 2)) (pj_cons pe_str (pj_cons (pe_frD hr (pv 3)) (pj_cons pe_str (pj_cons (pe_frD hr (pv 4)) pj_nil)))))))) (by decide)) pa_nil)) rfl))
  (pss_cons (ps_xfld0 (pv 0) (pv 1) rfl) (pss_cons (ps_xfld1 (pv 0) (pv 2) rfl) (pss_cons (ps_xfld1 (pv 0) (pv 3) rfl) (pss_one (ps_xfld1 (pv 0) (pv 4) rfl))))),?_⟩
 refine⟨_,rfl,_,rfl,by decide +kernel,_,rfl,dp,np,hp,sp,by omega,fun z1 l1=>⟨z1,rfl,l1,?_⟩⟩
 refine⟨_,rfl,by decide +kernel,_,rfl,dn,nn,hn,sn,by omega,fun z2 l2=>⟨z2,rfl,l2,?_⟩⟩
 refine⟨_,rfl,by decide +kernel,_,rfl,du,nu,hu,su,by omega,fun z3 l3=>⟨z3,rfl,l3,?_⟩⟩
 refine⟨_,rfl,by decide +kernel,_,rfl,df,nf,hf,sf,by omega,fun z4 l4=>⟨z4,rfl,l4,fun z lz=>?_⟩⟩
 refine⟨e,C,none,_,rfl,ex,he,(by show 1≤sizeLine;decide),?_⟩
 refine⟨_,rfl,_,rfl,e,C,rfl,st,t1,he,fun dx hdx=>?_⟩
 have ne:e≠dx:=ne_of_none he hdx
 have e1:∀o,upd (upd H e (.ext (excRaw e C (some dx)))) dx o e=some (.ext (excRaw e C (some dx))):=fun o=>by rw [upd_ne ne,upd_same]
 refine⟨_,rfl,_,rfl,e,C,dx,_,rfl,st,t2,e1 _,upd_same,(by show 1 < 1000;decide),?_⟩
 rw [upd_upd]
 refine⟨_,rfl,_,rfl,e,C,dx,_,rfl,st,t3,e1 _,upd_same,?_,?_⟩
 ·have:=length_putF "name" n [(("part":Str),p)]
  simp only [List.length_cons,List.length_nil] at this
  omega
 rw [upd_upd]
 refine⟨_,rfl,_,rfl,e,C,dx,_,rfl,st,t4,e1 _,upd_same,?_,?_⟩
 ·have h1:=length_putF "name" n [(("part":Str),p)]
  have h2:=length_putF "due" u (putF "name" n [(("part":Str),p)])
  simp only [List.length_cons,List.length_nil] at h1
  omega
 rw [upd_upd]
 refine q dx _ ne.symm (fun b o hb hbo=>?_) (e1 _) upd_same
 rw [upd_ne (ne_of_none hbo hdx),upd_ne hb]
 exact hbo
end
def look{α:Type}(m:List (Str × α))(z:Str):Option α:=(m.find? fun q=>decide (q.1=z)).map (·.2)
theorem look_val{α:Type}{R:V→α→Prop}:∀{kvs:List (Key × V)} {m:List (Str × α)},PkAt R kvs m→∀z:Str,(valV kvs (.inr z)=none∧look m z=none)∨∃v x,valV kvs (.inr z)=some v∧look m z=some x∧R v x
 |_,_,.nil,z=>.inl ⟨rfl,rfl⟩
 |p::ps,q::qs,.cons ⟨h1,h2⟩ r,z=>by
  unfold look valV
  rw [List.find?_cons,List.find?_cons]
  by_cases e:q.1=z
  ·rw [decide_eq_true (show p.1=Sum.inr z by rw [h1,e]),decide_eq_true e]
   exact .inr ⟨_,_,rfl,rfl,h2⟩
  ·rw [decide_eq_false (show ¬p.1=Sum.inr z by rw [h1];exact fun z'=>e (Sum.inr.inj z')),decide_eq_false e]
   exact look_val r z
def givenF(m1:List (Str × Kd))(hs:List Str):Str × Str→Option Kd:=fun n=>if n.1=""∧n.2∈hs then look m1 n.2 else none
def putFn(G:Str × Str→Option Kd)(f:List Kd × Kd):List Kd × Kd:=(f.1.map (Kd.put G),Kd.put G f.2)
abbrev Gf(m1 n1:List (Str × Kd)):Str × Str→Option Kd:=givenF m1 (hidL n1)
def no1(m1 n1:List (Str × Kd)):Option (Str × PyData × PyData):=(n1.find? fun q=>(look m1 q.1).isNone).map fun q=>(q.1,Kd.dat q.2,.none)
def no3(G:Str × Str→Option Kd)(m1 n1:List (Str × Kd)):Option (Str × PyData × PyData):=(n1.find? fun q=>decide (look m1 q.1≠some (Kd.put G q.2))).map fun q=>(q.1,Kd.dat (Kd.put G q.2),((look m1 q.1).map Kd.dat).getD .none)
def no4(G:Str × Str→Option Kd)(m2 n2:List (Str × (List Kd × Kd))):Option (Str × PyData × PyData):=(n2.find? fun q=>decide (look m2 q.1≠some (putFn G q.2))).map fun q=>(q.1,Fn.dat (putFn G q.2),((look m2 q.1).map Fn.dat).getD .none)
def fitR(m1 n1:List (Str × Kd))(m2 n2:List (Str × (List Kd × Kd))):Option (Str × PyData × PyData):=(no1 m1 n1).or ((no3 (Gf m1 n1) m1 n1).or (no4 (Gf m1 n1) m2 n2))
def XOk(K:PySem.W.Frag)(H:Hp)(d:Option Addr)(part:V)(r:Str × PyData × PyData):Prop:=∃dx u f,d=some dx∧H dx=some (.ext (xdAt dx (nfs part (.str r.1) u f)))∧Dat K H u r.2.1∧Dat K H f r.2.2
theorem find_take{α:Type}{p:α→Bool}:∀{l:List α} {i:Nat} {x:α},l[i]?=some x→p x=true→(∀y∈l.take i,p y=false)→l.find? p=some x
 |a::l,0,x,h,hp,_=>by
  cases h
  rw [List.find?_cons,hp]
 |a::l,i+1,x,h,hp,hn=>by
  rw [List.find?_cons,hn a (by rw [List.take_succ_cons];exact .head _)]
  exact find_take (l:=l) (i:=i) h hp fun y hy=>hn y (by rw [List.take_succ_cons];exact .tail _ hy)
theorem find_no{α:Type}{p:α→Bool}{l:List α}(h:∀y∈l,p y=false):l.find? p=none:=List.find?_eq_none.mpr fun x hx=>by rw [h x hx];decide
structure FaceA(K:PySem.W.Frag)(H:Hp)(CF fa:Addr)(dx d1 d2:Addr)(fs:List (Str × V))(kv1 kv2:List (Key × V))(m1:List (Str × Kd))(m2:List (Str × (List Kd × Kd))):Prop where
 obj:H fa=some (.ins CF dx fs)
 fk:fs.lookup ("kinds":Str)=some (.ref d1)
 ff:fs.lookup ("funs":Str)=some (.ref d2)
 h1:H d1=some (.dK kv1)
 h2:H d2=some (.dK kv2)
 p1:PkAt (KdAt K H) kv1 m1
 p2:PkAt (FunAt K H) kv2 m2
 nh:fs.lookup ("hidden":Str)=none
 np:fs.lookup ("put":Str)=none
theorem FaceA.same{K:PySem.W.Frag}{H H':Hp}{CF fa dx d1 d2:Addr}{fs:List (Str × V)}{kv1 kv2:List (Key × V)}{m1:List (Str × Kd)}{m2:List (Str × (List Kd × Kd))}(F:FaceA K H CF fa dx d1 d2 fs kv1 kv2 m1 m2)(s:Same H H'):FaceA K H' CF fa dx d1 d2 fs kv1 kv2 m1 m2 :=
 ⟨s _ _ F.obj,F.fk,F.ff,s _ _ F.h1,s _ _ F.h2,F.p1.imp fun _ _ h=>h.same s,F.p2.imp fun _ _ h=>h.keep fun _ _ t=>s.tup t,F.nh,F.np⟩
structure Walk(K:PySem.W.Frag)(H H3:Hp)(d:Addr)(o:Obj)(kv:List (Key × V)):Prop where
 old:∀b u,H b=some u→b≠d→H3 b=some u
 fz:H3 d=some (.frz o (.dK kv))
 tup:∀a xs,SqT K H a xs→SqT K H3 a xs
theorem Walk.start{K:PySem.W.Frag}{H:Hp}{d:Addr}{o:Obj}{kv:List (Key × V)}(h:H d=some (.dK kv)):Walk K H (upd H d (.frz o (.dK kv))) d o kv:=⟨fun b u hb nb=>by rw [upd_ne nb];exact hb,upd_same,fun a xs t=>sqt_dk h t⟩
theorem Walk.go{K:PySem.W.Frag}{H H3 H4:Hp}{d:Addr}{o:Obj}{kv:List (Key × V)}(w:Walk K H H3 d o kv)(s:Same H3 H4):Walk K H H4 d o kv:=⟨fun b u hb nb=>s _ _ (w.old b u hb nb),s _ _ w.fz,fun a xs t=>s.tup (w.tup a xs t)⟩
theorem Walk.rd{K:PySem.W.Frag}{H H3:Hp}{d:Addr}{o:Obj}{kv:List (Key × V)}(w:Walk K H H3 d o kv)(h:H d=some (.dK kv)){a:Addr}{kw:List (Key × V)}(ha:H a=some (.dK kw)):Rd H3 a (.dK kw):=by
 by_cases e:a=d
 ·subst e
  rw [h] at ha
  cases ha
  exact .inr ⟨o,w.fz⟩
 ·exact .inl (w.old a _ ha e)
theorem Walk.thaw{K:PySem.W.Frag}{H H3:Hp}{d:Addr}{o:Obj}{kv:List (Key × V)}(w:Walk K H H3 d o kv)(h:H d=some (.dK kv)):Same H (upd H3 d (.dK kv)):=fun b u hb=>by
 by_cases e:b=d
 ·rw [e] at hb ⊢
  rw [h] at hb
  cases hb
  exact upd_same
 ·rw [upd_ne e]
  exact w.old b u hb e
theorem nofz{H:Hp}{d:Addr}{kv:List (Key × V)}(h:H d=some (.dK kv)):∀o' u',H d≠some (.frz o' u'):=fun o' u' e=>by
 rw [h] at e
 cases e
theorem flown{K:PySem.W.Frag}{H H3 H5:Hp}{d e dx:Addr}{o:Obj}{kv:List (Key × V)}{part u f:V}{r:Str × PyData × PyData}(w:Walk K H H3 d o kv)(h:H d=some (.dK kv))(he:H3 e=none)(ne:dx≠e)
  (k5:∀b o',b≠e→upd H3 e (.ext (excRaw e CN none)) b=some o'→H5 b=some o') (hx:H5 dx=some (.ext (xdAt dx (nfs part (.str r.1) u f)))) (hu:∀H',(∀a xs,SqT K H3 a xs→SqT K H' a xs)→Dat K H' u r.2.1) (hf:∀H',(∀a xs,SqT K H3 a xs→SqT K H' a xs)→Dat K H' f r.2.2) :
  H5 d=some (.frz o (.dK kv))∧Same H (cut (upd H5 d (.dK kv)) e)∧XOk K (cut (upd H5 d (.dK kv)) e) (some dx) part r:=by
 have old:∀b o',H3 b=some o'→H5 b=some o':=fun b o' hb=>k5 b o' (fun z=>by rw [z,he] at hb;cases hb) (by rw [upd_ne (fun z=>by rw [z,he] at hb;cases hb)];exact hb)
 have hd5:=old _ _ w.fz
 have hxd:dx≠d:=fun z=>by rw [z,hd5] at hx;cases hx
 have s5:Same H3 H5:=fun b o' hb=>old b o' hb
 have w5:=w.go s5
 have sm:Same H (cut (upd H5 d (.dK kv)) e):=fun b o' hb=>by
  have nb:b≠e:=fun z=>by
   subst z
   by_cases q:b=d
   ·rw [q,w.fz] at he
    cases he
   ·rw [w.old b o' hb q] at he
    cases he
  rw [cut_ne nb]
  exact w5.thaw h b o' hb
 have kt:∀a xs,SqT K H3 a xs→SqT K (cut (upd H5 d (.dK kv)) e) a xs:=fun a xs t=>by
  rcases t with (t|⟨o',t⟩)|t
  ·refine .inl (.inl ?_)
   rw [cut_ne (fun z=>by rw [z,he] at t;cases t),upd_ne (fun z=>by rw [z,w.fz] at t;cases t)]
   exact old _ _ t
  ·refine .inl (.inr ⟨o',?_⟩)
   rw [cut_ne (fun z=>by rw [z,he] at t;cases t),upd_ne (fun z=>by rw [z,w.fz] at t;cases t)]
   exact old _ _ t
  ·exact .inr t
 refine⟨hd5,sm,dx,u,f,rfl,?_,hu _ kt,hf _ kt⟩
 rw [cut_ne ne,upd_ne hxd]
 exact hx
end K27
namespace K27
open PySem L2 Kk
theorem nofz'{H H1:Hp}{d:Addr}{kv:List (Key × V)}(s:Same H H1)(h:H1 d=some (.dK kv)):∀o' u',H d≠some (.frz o' u'):=fun o' u' e=>by
 rw [s _ _ e] at h
 cases h
def SmK(q:Str × Kd):Prop:=(PyData.strOk q.1=true∧q.1.length≤14)∧Kd.sm q.2∧q.2.words≤60∧Kd.depth q.2≤20
def SmF(q:Str × (List Kd × Kd)):Prop:=(PyData.strOk q.1=true∧q.1.length≤14)∧q.2.1.length≤4∧∀k∈q.2.2::q.2.1,Kd.sm k∧k.words≤60∧Kd.depth k≤20
abbrev ftN:List Str:=["had","wanted","part","word","kind","given","due","fun","found"]
abbrev ftP:List Str:=["had","wanted","part"]
abbrev nfP:List Str:=["self","part","name","due","found"]
section
variable{P:Program}{w:World}{K:PySem.W.Frag}{mg:Str→Option Value}{base:Heap}
theorem scFitted:FnScope ftN ftP (defScope sFitted):=⟨rfl,rfl,rfl,by decide +kernel,rfl,by decide +kernel,by decide +kernel⟩
set_option maxHeartbeats 0 in
theorem ft1{f CF CN fi:Addr}{fdi:FuncData}(MN:MkX K CN fi)(GI:FnOk P w K mg base CX0 1 fi fdi nfP (spInitN K CN))(bI:Binds K fdi nfP []) (mN:mg "NoFit"=some (.ref CN)) (cF:Cls K CF) (nK:NoAttr K CF "kinds")
  {cdv:Value} {A:Around} {outer:List Env} {s:Shared} {H:Hp} {E:XK} (hr:Room 2 (A.deeper (PyProof.Rows.envOfC "fitted" (defScope sFitted) s.heap.objs.size f cdv))) :
  ∃t,PS (cxOf (CX1 P w) P w K mg base ftN "fitted" (defScope sFitted) f cdv A outer s H E) ((defBody sFitted).getD 0 (.Pass ⟨0,0,0,0⟩)) t ∧
   ∀(D:Ends) (H1:Hp) (ha wa dxh dh1 dh2 dxw dw1 dw2:Addr) (fsh fsw:List (Str × V)) (kh1 kh2 kw1 kw2:List (Key × V)) (m1 n1:List (Str × Kd)) (m2 n2:List (Str × (List Kd × Kd))) (pz:Str),Same H H1 →
    FaceA K H1 CF ha dxh dh1 dh2 fsh kh1 kh2 m1 m2→FaceA K H1 CF wa dxw dw1 dw2 fsw kw1 kw2 n1 n2→n1.length≤100→(∀q∈n1,SmK q)→PyData.strOk pz=true∧pz.length≤14 →
    (∀r,no1 m1 n1=some r→∀d H',Same H1 H'→XOk K H' d (.str pz) r→E (.ref CN) d H') →
    (no1 m1 n1=none→∀(H4:Hp) (y3 y4:Option V),Same H1 H4→D.nx [some (.ref ha),some (.ref wa),some (.str pz),y3,y4,none,none,none,none] H4) →
    t D [some (.ref ha),some (.ref wa),some (.str pz),none,none,none,none,none,none] H1:=by
 have hu:=hu_of hr
 refine⟨_,ps_thaw (ps_for PassesOwn.leaving rfl (pi_items (pe_fld (pv 1) rfl)) (pg_tup rfl (pgs_cons (pg_name (i:=3) scFitted.nd rfl (Or.inl rfl)) (pgs_cons (pg_name (i:=4) scFitted.nd rfl (Or.inl rfl)) pgs_nil)))
   (pss_one (ps_if (pt_cmp (pc_dnotin hu (pv 3) (pe_fld (pv 0) rfl)) (by with_unfolding_all rfl)) (pss_one (ps_raiseT MN GI hr bI rfl mN (pa_cons (pv 2) (pa_cons (pv 3) (pa_cons (pv 4) (pa_cons pe_non pa_nil)))))) pss_nil))),?_⟩
 intro D H1 ha wa dxh dh1 dh2 dxw dw1 dw2 fsh fsw kh1 kh2 kw1 kw2 m1 n1 m2 n2 pz s1 FH FW h100 hsm hpt qE q
 have hlen:kw1.length=n1.length:=Paired.length FW.p1
 refine⟨_,rfl,wa,CF,dxw,fsw,_,rfl,FW.obj,cF,nK,FW.fk,dw1,kw1,rfl,FW.h1,fun o=>?_⟩
 refine for_items (fun i σ H3=>∃(y3 y4:Option V),σ=[some (.ref ha),some (.ref wa),some (.str pz),y3,y4,none,none,none,none]∧Walk K H1 H3 dw1 o kw1∧∀y∈n1.take i,(look m1 y.1).isNone=false) ?_ ?_ ?_ ?_
 ·exact⟨none,none,rfl,Walk.start FW.h1,fun y hy=>by cases hy⟩
 ·rintro i σ H3 _ ⟨_,_,_,h,_⟩
  exact h.fz
 ·rintro i p a σ H3 hp hna ⟨y3,y4,rfl,wk,hall⟩
  obtain⟨⟨z,k⟩,hq,ez,hkz⟩:=pair_get FW.p1 hp
  obtain⟨pk,pw⟩:=p
  replace ez:pk=.inr z:=ez
  replace hkz:KdAt K H1 pw k:=hkz
  subst ez
  obtain⟨⟨z1,z2⟩,k1,k2,k3⟩:(PyData.strOk z=true∧z.length≤14)∧Kd.sm k∧k.words≤60∧Kd.depth k≤20:=hsm (z,k) (List.mem_of_getElem? hq)
  have ea:=same_new hna (.tup [kV (.inr z),pw])
  have wk4:=wk.go ea
  refine⟨a,_,rfl,SqT.of upd_same,rfl,_,_,rfl,_,_,rfl,rfl,?_⟩
  have haw:ha≠dw1:=fun e=>by
   have:=FH.obj
   rw [e,FW.h1] at this
   cases this
  refine⟨_,rfl,_,rfl,ha,CF,dxh,fsh,_,rfl,wk4.old _ _ FH.obj haw,cF,nK,FH.fk,dh1,_,rfl,.inl ⟨kh1,.inr z,wk4.rd FW.h1 FH.h1,rfl,rfl⟩,_,rfl,ite2 (fun c=>?_) (fun c=>?_)⟩
  ·have c':(!(valV kh1 (.inr z)).isSome)=true:=c
   have hno:look m1 z=none:=by
    rcases look_val FH.p1 z with ⟨_,h2⟩|⟨v,x,h1,_⟩
    ·exact h2
    ·rw [h1] at c'
     cases c'
   have hR:no1 m1 n1=some (z,Kd.dat k,.none):=by
    unfold no1
    rw [find_take hq (by show(look m1 z).isNone=true;rw [hno];rfl) hall]
    rfl
   refine⟨_,rfl,_,rfl,_,rfl,(by show 4≤sizeLine;decide),fun e he=>?_⟩
   have kz4:KdAt K (upd H3 a (.tup [kV (.inr z),pw])) pw k:=kd_keep wk4.tup hkz
   have se:=same_new he (.ext (excRaw e CN none))
   refine⟨e,.str pz,.str z,pw,.non,rfl,upd_same,fits_str hpt.1 (by omega),fits_str z1 (by omega),(fits_kd kz4 k1 (by omega) (by omega)).same se,fits_non,fun dx H5 ne k5 he5 hx5=>⟨rfl,some dx,dw1,o,.dK kw1,he5,?_⟩⟩
   obtain⟨g1,g2,g3⟩:=flown (CN:=CN) (r:=(z,Kd.dat k,.none)) wk4 FW.h1 he ne k5 hx5 (fun H' kt=>kd_dat (kd_keep kt kz4)) (fun H' _=>.non)
   exact⟨g1,nofz' s1 FW.h1,qE _ hR _ _ g2 g3⟩
  ·refine⟨_,_,rfl,wk4,fun y hy=>?_⟩
   rw [List.take_add_one,hq] at hy
   rcases List.mem_append.mp hy with h|h
   ·exact hall y h
   ·obtain rfl:y=(z,k):=by simpa using h
    have c':¬(!(valV kh1 (.inr z)).isSome)=true:=c
    rcases look_val FH.p1 z with ⟨h1,_⟩|⟨v,x,_,h2,_⟩
    ·rw [h1] at c'
     exact absurd rfl c'
    ·show(look m1 z).isNone=false
     rw [h2]
     rfl
 ·rintro σ H3 ⟨y3,y4,rfl,wk,hall⟩
  refine⟨dw1,o,.dK kw1,wk.fz,nofz' s1 FW.h1,q ?_ _ y3 y4 (wk.thaw FW.h1)⟩
  rw [hlen,List.take_length] at hall
  unfold no1
  rw [find_no hall]
  rfl
end
end K27
namespace K27
open PySem L2 Kk
theorem sm_put{G:Str × Str→Option Kd}(hG:∀n k,G n=some k→Kd.sm k):∀{k:Kd},Kd.sm k→Kd.sm (Kd.put G k)
 |.num _,h=>h
 |.name q t,h=>by
  show Kd.sm ((G (q,t)).getD (.name q t))
  cases e:G (q,t) with
  |none=>exact h
  |some k=>exact hG _ _ e
 |.pair a b,⟨h1,h2⟩=>⟨sm_put hG h1,sm_put hG h2⟩
theorem GvAt.keep{K:PySem.W.Frag}{H H':Hp}{kvs:List (List Key × V)}{G:Str × Str→Option Kd}(e:∀a xs,SqT K H a xs→SqT K H' a xs)(h:GvAt K H kvs G):GvAt K H' kvs G:=fun nn=>by
 rcases h nn with h|⟨v,k',h1,h2,h3⟩
 ·exact .inl h
 ·exact .inr ⟨v,k',h1,h2,kd_keep e h3⟩
section
variable{P:Program}{w:World}{K:PySem.W.Frag}{mg:Str→Option Value}{base:Heap}
set_option maxHeartbeats 0 in
theorem ft3{n:Nat}{f fp CF CN fi:Addr}{fdp fdi:FuncData} (GP:FnOk P w K mg base CX0 n fp fdp ["kind","given"] (spPut K n)) (bP:Binds K fdp ["kind","given"] []) (kP:PySem.W.keepIn K (.ref fp)=true) (mP:mg "put"=some (.ref fp))
  (MN:MkX K CN fi) (GI:FnOk P w K mg base CX0 1 fi fdi nfP (spInitN K CN)) (bI:Binds K fdi nfP []) (mN:mg "NoFit"=some (.ref CN)) (cF:Cls K CF) (nK:NoAttr K CF "kinds")
  {cdv:Value} {A:Around} {outer:List Env} {s:Shared} {H:Hp} {E:XK} (hr:Room (n+2) (A.deeper (PyProof.Rows.envOfC "fitted" (defScope sFitted) s.heap.objs.size f cdv))) :
  ∃t,PS (cxOf (CX1 P w) P w K mg base ftN "fitted" (defScope sFitted) f cdv A outer s H E) ((defBody sFitted).getD 3 (.Pass ⟨0,0,0,0⟩)) t ∧
   ∀(D:Ends) (H1:Hp) (ha wa dxh dh1 dh2 dxw dw1 dw2 g:Addr) (fsh fsw:List (Str × V)) (kh1 kh2 kw1 kw2:List (Key × V)) (m1 n1:List (Str × Kd)) (m2 n2:List (Str × (List Kd × Kd))) (kvs:List (List Key × V)) (G:Str × Str→Option Kd) (pz:Str) (x3 x4:Option V),Same H H1 →
    FaceA K H1 CF ha dxh dh1 dh2 fsh kh1 kh2 m1 m2→FaceA K H1 CF wa dxw dw1 dw2 fsw kw1 kw2 n1 n2→n1.length≤100→(∀q∈m1,SmK q)→(∀q∈n1,SmK q)→(∀q∈n1,Kd.depth q.2≤n)→(∀n k,G n=some k→Kd.sm k)→(∀q∈n1,(Kd.put G q.2).words≤4000∧Kd.depth (Kd.put G q.2)≤50)→PyData.strOk pz=true∧pz.length≤14 →
    H1 g=some (.dT kvs)→GvAt K H1 kvs G→no1 m1 n1=none →
    (∀r,no3 G m1 n1=some r→∀d H',Same H1 H'→XOk K H' d (.str pz) r→E (.ref CN) d H') →
    (no3 G m1 n1=none→∀(H4:Hp) (y3 y4 y6:Option V),Same H1 H4→D.nx [some (.ref ha),some (.ref wa),some (.str pz),y3,y4,some (.ref g),y6,none,none] H4) →
    t D [some (.ref ha),some (.ref wa),some (.str pz),x3,x4,some (.ref g),none,none,none] H1:=by
 have hu:=hu_of hr
 have hu64:=hr.units
 have hr0:Room n _:=hr.mono (by omega)
 have hr2:Room 2 _:=hr.mono (by omega)
 refine⟨_,ps_thaw (ps_for PassesOwn.leaving rfl (pi_items (pe_fld (pv 1) rfl)) (pg_tup rfl (pgs_cons (pg_name (i:=3) scFitted.nd rfl (Or.inl rfl)) (pgs_cons (pg_name (i:=4) scFitted.nd rfl (Or.inl rfl)) pgs_nil)))
   (pss_cons (ps_set (i:=6) scFitted.nd rfl (Or.inl rfl) (pe_call GP hr0 rfl mP kP bP .nil pass0 (pa_cons (pv 4) (pa_cons (pv 5) pa_nil))))
   (pss_one (ps_if (pt_cmpR (neK (K:=K) rfl hu64) (pv 6) (pe_dget hu (pe_fld (pv 0) rfl) (pv 3) (fun _ _=>rfl)) (nomark _)) (pss_one (ps_raiseT MN GI hr2 bI rfl mN (pa_cons (pv 2) (pa_cons (pv 3) (pa_cons (pv 6) (pa_cons (pe_dget hu (pe_fld (pv 0) rfl) (pv 3) (fun _ _=>rfl)) pa_nil)))))) pss_nil)))),?_⟩
 intro D H1 ha wa dxh dh1 dh2 dxw dw1 dw2 g fsh fsw kh1 kh2 kw1 kw2 m1 n1 m2 n2 kvs G pz x3 x4 s1 FH FW h100 hsmM hsm hdn hGs hGw hpt hg hgv hn1 qE q
 have hlen:kw1.length=n1.length:=Paired.length FW.p1
 have gne:g≠dw1:=fun e=>by rw [e,FW.h1] at hg;cases hg
 have haw:ha≠dw1:=fun e=>by
  have:=FH.obj
  rw [e,FW.h1] at this
  cases this
 refine⟨_,rfl,wa,CF,dxw,fsw,_,rfl,FW.obj,cF,nK,FW.fk,dw1,kw1,rfl,FW.h1,fun o=>?_⟩
 refine for_items (fun i σ H3=>∃(y3 y4 y6:Option V),σ=[some (.ref ha),some (.ref wa),some (.str pz),y3,y4,some (.ref g),y6,none,none]∧Walk K H1 H3 dw1 o kw1∧∀y∈n1.take i,decide (look m1 y.1≠some (Kd.put G y.2))=false) ?_ ?_ ?_ ?_
 ·exact⟨x3,x4,none,rfl,Walk.start FW.h1,fun y hy=>by cases hy⟩
 ·rintro i σ H3 _ ⟨_,_,_,_,h,_⟩
  exact h.fz
 ·rintro i p a σ H3 hp hna ⟨y3,y4,y6,rfl,wk,hall⟩
  obtain⟨⟨z,k⟩,hq,ez,hkz⟩:=pair_get FW.p1 hp
  obtain⟨pk,pw⟩:=p
  replace ez:pk=.inr z:=ez
  replace hkz:KdAt K H1 pw k:=hkz
  subst ez
  have hm:=List.mem_of_getElem? hq
  obtain⟨⟨z1,z2⟩,k1,k2,k3⟩:(PyData.strOk z=true∧z.length≤14)∧Kd.sm k∧k.words≤60∧Kd.depth k≤20:=hsm (z,k) hm
  have hdk:Kd.depth k≤n:=hdn (z,k) hm
  obtain⟨w1,w2⟩:(Kd.put G k).words≤4000∧Kd.depth (Kd.put G k)≤50:=hGw (z,k) hm
  have smP:=sm_put hGs k1
  obtain⟨v,x,hv,hx,hvx⟩:∃v x,valV kh1 (.inr z)=some v∧look m1 z=some x∧KdAt K H1 v x:=by
   rcases look_val FH.p1 z with ⟨_,h2⟩|h
   ·unfold no1 at hn1
    rw [Option.map_eq_none_iff,List.find?_eq_none] at hn1
    exact absurd (by show(look m1 z).isNone=true;rw [h2];rfl) (hn1 _ hm)
   ·exact h
  have hxm:∃q∈m1,q.2=x:=by
   unfold look at hx
   obtain⟨q,hq1,hq2⟩:=Option.map_eq_some_iff.mp hx
   exact⟨q,List.mem_of_find?_eq_some hq1,hq2⟩
  obtain⟨qx,hqx,rfl⟩:=hxm
  obtain⟨_,sx,_,dx20⟩:=hsmM qx hqx
  have ea:=same_new hna (.tup [kV (.inr z),pw])
  have wk4:=wk.go ea
  refine⟨a,_,rfl,SqT.of upd_same,rfl,_,_,rfl,_,_,rfl,rfl,?_⟩
  refine⟨_,rfl,_,rfl,pw,g,k,kvs,G,rfl,kd_keep wk4.tup hkz,hdk,wk4.old _ _ hg gne,GvAt.keep wk4.tup hgv,fun H5 u s5 hu5=>?_⟩
  have wk5:=wk4.go s5
  have hvx5:KdAt K H5 v qx.2:=kd_keep wk5.tup hvx
  refine⟨_,rfl,_,rfl,ha,CF,dxh,fsh,_,rfl,wk5.old _ _ FH.obj haw,cF,nK,FH.fk,_,rfl,dh1,v,rfl,.inl ⟨kh1,.inr z,wk5.rd FW.h1 FH.h1,rfl,hv.symm⟩,_,_,kd_dat hu5,kd_dat hvx5,kd_shaped (sm_ok smP) (by omega),kd_shaped (sm_ok sx) (by omega),_,rfl,ite2 (fun c=>?_) (fun c=>?_)⟩
  ·have c':(!PyData.eqv (Kd.dat (Kd.put G k)) (Kd.dat qx.2))=true:=c
   rw [eqv_dat,Bool.not_eq_true',decide_eq_false_iff_not] at c'
   have hR:no3 G m1 n1=some (z,Kd.dat (Kd.put G k),Kd.dat qx.2):=by
    unfold no3
    rw [find_take hq (decide_eq_true (by show look m1 z≠some (Kd.put G k);rw [hx];exact fun z'=>c' (Option.some.inj z').symm)) hall]
    show some (z,Kd.dat (Kd.put G k),((look m1 z).map Kd.dat).getD .none)=_
    rw [hx]
    rfl
   refine⟨_,rfl,_,rfl,_,rfl,_,rfl,ha,CF,dxh,fsh,_,rfl,wk5.old _ _ FH.obj haw,cF,nK,FH.fk,_,rfl,dh1,v,rfl,.inl ⟨kh1,.inr z,wk5.rd FW.h1 FH.h1,rfl,hv.symm⟩,(by show 4≤sizeLine;decide),fun e he=>?_⟩
   have se:=same_new he (.ext (excRaw e CN none))
   refine⟨e,.str pz,.str z,u,v,rfl,upd_same,fits_str hpt.1 (by omega),fits_str z1 (by omega),(fits_kd hu5 smP w1 (by omega)).same se,(fits_kd hvx5 sx (by omega) (by omega)).same se,fun dx H6 ne k6 he6 hx6=>⟨rfl,some dx,dw1,o,.dK kw1,he6,?_⟩⟩
   obtain⟨g1,g2,g3⟩:=flown (CN:=CN) (r:=(z,Kd.dat (Kd.put G k),Kd.dat qx.2)) wk5 FW.h1 he ne k6 hx6 (fun H' kt=>kd_dat (kd_keep kt hu5)) (fun H' kt=>kd_dat (kd_keep kt hvx5))
   exact⟨g1,nofz' s1 FW.h1,qE _ hR _ _ g2 g3⟩
  ·refine⟨_,_,_,rfl,wk5,fun y hy=>?_⟩
   rw [List.take_add_one,hq] at hy
   rcases List.mem_append.mp hy with h|h
   ·exact hall y h
   ·obtain rfl:y=(z,k):=by simpa using h
    have c':¬(!PyData.eqv (Kd.dat (Kd.put G k)) (Kd.dat qx.2))=true:=c
    rw [eqv_dat,Bool.not_eq_true',Bool.not_eq_false,decide_eq_true_iff] at c'
    refine decide_eq_false fun hne=>hne ?_
    show look m1 z=some (Kd.put G k)
    rw [hx,c']
 ·rintro σ H3 ⟨y3,y4,y6,rfl,wk,hall⟩
  refine⟨dw1,o,.dK kw1,wk.fz,nofz' s1 FW.h1,q ?_ _ y3 y4 y6 (wk.thaw FW.h1)⟩
  rw [hlen,List.take_length] at hall
  unfold no3
  rw [find_no hall]
  rfl
end
end K27
namespace K27
open PySem L2 Kk
theorem fn_shaped{f:List Kd × Kd}(h:∀k∈f.2::f.1,Kd.ok k∧Kd.depth k≤50)(hl:f.1.length≤4):SeqAt.shaped (Fn.dat f)=true:=by
 obtain⟨h1,h2⟩:=h f.2 (.head _)
 have c1:PyData.canLayAll0 (f.1.map Kd.dat)=true:=by
  have:∀ks:List Kd,(∀k∈ks,Kd.ok k)→PyData.canLayAll0 (ks.map Kd.dat)=true:=fun ks=>by
   induction ks with
   |nil=>intro _;simp [PyData.canLayAll0]
   |cons k ks ih =>
    intro hk
    rw [List.map_cons]
    simp only [PyData.canLayAll0,Bool.and_eq_true]
    exact⟨lay_kd (hk k (.head _)),ih fun j hj=>hk j (.tail _ hj)⟩
  exact this _ fun k hk=>(h k (.tail _ hk)).1
 have d1:PyData.depthAll (f.1.map Kd.dat)≤50:=by
  have:∀ks:List Kd,(∀k∈ks,Kd.depth k≤50)→PyData.depthAll (ks.map Kd.dat)≤50:=fun ks=>by
   induction ks with
   |nil=>intro _;simp [PyData.depthAll]
   |cons k ks ih =>
    intro hk
    rw [List.map_cons]
    simp only [PyData.depthAll]
    exact Nat.max_le.mpr ⟨Nat.le_trans (deep_kd k) (hk k (.head _)),ih fun j hj=>hk j (.tail _ hj)⟩
  exact this _ fun k hk=>(h k (.tail _ hk)).2
 have h3:=lay_kd h1
 have h4:=deep_kd f.2
 unfold SeqAt.shaped
 have e1:PyData.canLay0 (Fn.dat f)=true:=by
  unfold Fn.dat
  simp only [PyData.canLay0,PyData.canLayAll0,c1,h3,Bool.and_self]
 have e2:PyData.depth (Fn.dat f)≤64:=by
  unfold Fn.dat
  simp only [PyData.depth,PyData.depthAll]
  omega
 rw [e1,decide_eq_true e2]
 rfl
theorem eqv_kds:∀(a b:List Kd),PyData.eqvAll (a.map Kd.dat) (b.map Kd.dat)=decide (a=b)
 |[],[]=>by simp [PyData.eqvAll]
 |[],_::_=>by simp [PyData.eqvAll]
 |_::_,[]=>by simp [PyData.eqvAll]
 |a::as,b::bs=>by
  rw [List.map_cons,List.map_cons,eqvA_cons,eqv_dat,eqv_kds as bs]
  by_cases h:a=b
  ·by_cases h2:as=bs
   ·simp [h,h2]
   ·simp [h2]
  ·simp [h]
theorem eqv_fn(f g:List Kd × Kd):PyData.eqv (Fn.dat f) (Fn.dat g)=decide (f=g):=by
 unfold Fn.dat
 rw [eqv_tup,eqvA_cons,eqvA_cons,eqvA_nil,eqv_tup,eqv_kds,eqv_dat]
 obtain⟨a,b⟩:=f
 obtain⟨c,d⟩:=g
 by_cases h:a=c
 ·by_cases h2:b=d
  ·simp [h,h2]
  ·simp [h2]
 ·simp [h]
theorem eqv_fn_none(f:List Kd × Kd):PyData.eqv (Fn.dat f) .none=false:=by
 unfold Fn.dat
 simp [PyData.eqv]
theorem none_shaped:SeqAt.shaped .none=true:=by decide +kernel
section
variable{P:Program}{w:World}{K:PySem.W.Frag}{mg:Str→Option Value}{base:Heap}
set_option maxHeartbeats 0 in
theorem ft4{n:Nat}{f fp CF CN fi:Addr}{fdp fdi:FuncData} (GP:FnOk P w K mg base CX0 (n+1) fp fdp ["fun","given"] (spPutFun K n)) (bP:Binds K fdp ["fun","given"] []) (kP:PySem.W.keepIn K (.ref fp)=true) (mP:mg "put_in_fun"=some (.ref fp))
  (MN:MkX K CN fi) (GI:FnOk P w K mg base CX0 1 fi fdi nfP (spInitN K CN)) (bI:Binds K fdi nfP []) (mN:mg "NoFit"=some (.ref CN)) (cF:Cls K CF) (nF:NoAttr K CF "funs")
  {cdv:Value} {A:Around} {outer:List Env} {s:Shared} {H:Hp} {E:XK} (hr:Room (n+2) (A.deeper (PyProof.Rows.envOfC "fitted" (defScope sFitted) s.heap.objs.size f cdv))) :
  ∃t,PS (cxOf (CX1 P w) P w K mg base ftN "fitted" (defScope sFitted) f cdv A outer s H E) ((defBody sFitted).getD 4 (.Pass ⟨0,0,0,0⟩)) t ∧
   ∀(D:Ends) (H1:Hp) (ha wa dxh dh1 dh2 dxw dw1 dw2 g:Addr) (fsh fsw:List (Str × V)) (kh1 kh2 kw1 kw2:List (Key × V)) (m1 n1:List (Str × Kd)) (m2 n2:List (Str × (List Kd × Kd))) (kvs:List (List Key × V)) (G:Str × Str→Option Kd) (pz:Str) (x3 x4 x6:Option V),Same H H1 →
    FaceA K H1 CF ha dxh dh1 dh2 fsh kh1 kh2 m1 m2→FaceA K H1 CF wa dxw dw1 dw2 fsw kw1 kw2 n1 n2→n2.length≤100→(∀q∈m2,SmF q)→(∀q∈n2,SmF q)→(∀q∈n2,∀k∈q.2.2::q.2.1,Kd.depth k≤n)→(∀n k,G n=some k→Kd.sm k)→(∀q∈n2,sumK ((putFn G q.2).2::(putFn G q.2).1)≤4600∧∀k∈(putFn G q.2).2::(putFn G q.2).1,Kd.depth k≤50)→PyData.strOk pz=true∧pz.length≤14 →
    H1 g=some (.dT kvs)→GvAt K H1 kvs G →
    (∀r,no4 G m2 n2=some r→∀d H',Same H1 H'→XOk K H' d (.str pz) r→E (.ref CN) d H') →
    (no4 G m2 n2=none→∀(H4:Hp) (y3 y6 y7 y8:Option V),Same H1 H4→D.nx [some (.ref ha),some (.ref wa),some (.str pz),y3,x4,some (.ref g),y6,y7,y8] H4) →
    t D [some (.ref ha),some (.ref wa),some (.str pz),x3,x4,some (.ref g),x6,none,none] H1:=by
 have hu:=hu_of hr
 have hu64:=hr.units
 have hr1:Room (n+1) _:=hr.mono (by omega)
 have hr2:Room 2 _:=hr.mono (by omega)
 refine⟨_,ps_thaw (ps_for PassesOwn.leaving rfl (pi_items (pe_fld (pv 1) rfl)) (pg_tup rfl (pgs_cons (pg_name (i:=3) scFitted.nd rfl (Or.inl rfl)) (pgs_cons (pg_name (i:=7) scFitted.nd rfl (Or.inl rfl)) pgs_nil)))
   (pss_cons (ps_set (i:=6) scFitted.nd rfl (Or.inl rfl) (pe_call GP hr1 rfl mP kP bP .nil pass0 (pa_cons (pv 7) (pa_cons (pv 5) pa_nil))))
   (pss_cons (ps_set (i:=8) scFitted.nd rfl (Or.inl rfl) (pe_dget1 hu (pe_fld (pv 0) rfl) (pv 3) ⟨rfl,rfl,rfl,rfl⟩))
   (pss_one (ps_if (pt_cmpR (neK (K:=K) rfl hu64) (pv 6) (pv 8) (nomark _)) (pss_one (ps_raiseT MN GI hr2 bI rfl mN (pa_cons (pv 2) (pa_cons (pv 3) (pa_cons (pv 6) (pa_cons (pv 8) pa_nil)))))) pss_nil))))),?_⟩
 intro D H1 ha wa dxh dh1 dh2 dxw dw1 dw2 g fsh fsw kh1 kh2 kw1 kw2 m1 n1 m2 n2 kvs G pz x3 x4 x6 s1 FH FW h100 hsmM hsm hdn hGs hGw hpt hg hgv qE q
 have hlen:kw2.length=n2.length:=Paired.length FW.p2
 have gne:g≠dw2:=fun e=>by rw [e,FW.h2] at hg;cases hg
 have haw:ha≠dw2:=fun e=>by
  have:=FH.obj
  rw [e,FW.h2] at this
  cases this
 refine⟨_,rfl,wa,CF,dxw,fsw,_,rfl,FW.obj,cF,nF,FW.ff,dw2,kw2,rfl,FW.h2,fun o=>?_⟩
 refine for_items (fun i σ H3=>∃(y3 y6 y7 y8:Option V),σ=[some (.ref ha),some (.ref wa),some (.str pz),y3,x4,some (.ref g),y6,y7,y8]∧Walk K H1 H3 dw2 o kw2∧∀y∈n2.take i,decide (look m2 y.1≠some (putFn G y.2))=false) ?_ ?_ ?_ ?_
 ·exact⟨x3,x6,none,none,rfl,Walk.start FW.h2,fun y hy=>by cases hy⟩
 ·rintro i σ H3 _ ⟨_,_,_,_,_,h,_⟩
  exact h.fz
 ·rintro i p a σ H3 hp hna ⟨y3,y6,y7,y8,rfl,wk,hall⟩
  obtain⟨⟨z,fn⟩,hq,ez,hkz⟩:=pair_get FW.p2 hp
  obtain⟨pk,pw⟩:=p
  replace ez:pk=.inr z:=ez
  replace hkz:FunAt K H1 pw fn:=hkz
  subst ez
  have hm:=List.mem_of_getElem? hq
  obtain⟨⟨z1,z2⟩,l4,hks⟩:(PyData.strOk z=true∧z.length≤14)∧fn.1.length≤4∧∀k∈fn.2::fn.1,Kd.sm k∧k.words≤60∧Kd.depth k≤20:=hsm (z,fn) hm
  have hdk:∀k∈fn.2::fn.1,Kd.depth k≤n:=hdn (z,fn) hm
  obtain⟨w1,w2⟩:sumK ((putFn G fn).2::(putFn G fn).1)≤4600∧∀k∈(putFn G fn).2::(putFn G fn).1,Kd.depth k≤50:=hGw (z,fn) hm
  have smP:∀k∈(putFn G fn).2::(putFn G fn).1,Kd.sm k:=fun k hk=>by
   rcases List.mem_cons.mp hk with rfl|hk
   ·exact sm_put hGs (hks _ (.head _)).1
   ·obtain⟨j,hj,rfl⟩:=List.mem_map.mp hk
    exact sm_put hGs (hks j (.tail _ hj)).1
  have ea:=same_new hna (.tup [kV (.inr z),pw])
  have wk4:=wk.go ea
  refine⟨a,_,rfl,SqT.of upd_same,rfl,_,_,rfl,_,_,rfl,rfl,?_⟩
  obtain⟨pf,ta,xf,xsf,rfl,f1,f2,f3,f4⟩:=FunAt.keep wk4.tup hkz
  refine⟨_,rfl,_,rfl,pf,g,ta,xf,xsf,fn.1,fn.2,kvs,G,rfl,f1,f2,f3,f4,fun k hk=>hdk k (.tail _ hk),hdk _ (.head _),by omega,wk4.old _ _ hg gne,GvAt.keep wk4.tup hgv,fun H5 p5 ta5 xs5 x5 s5 hp5 hta5 hxs5 hx5=>?_⟩
  have wk5:=wk4.go s5
  have hdue:FunAt K H5 (.ref p5) (putFn G fn):=⟨p5,ta5,x5,xs5,rfl,SqT.of hp5,SqT.of hta5,hxs5,hx5⟩
  have rdh:=wk5.rd FW.h2 FH.h2
  refine⟨_,rfl,ha,CF,dxh,fsh,_,rfl,wk5.old _ _ FH.obj haw,cF,nF,FH.ff,dh2,rfl,.inl ⟨kh2,rdh⟩,_,rfl,_,.inl ⟨kh2,.inr z,rdh,rfl,rfl⟩,?_⟩
  obtain⟨u,fo,hu8,hfo,hsh,hfi,hkeep,hne⟩:∃(u:V) (fo:PyData),(valV kh2 (.inr z)).getD .non=u∧((look m2 z).map Fn.dat).getD .none=fo∧SeqAt.shaped fo=true∧Fits K H5 u∧(∀H',(∀a xs,SqT K H5 a xs→SqT K H' a xs)→Dat K H' u fo)∧PyData.eqv (Fn.dat (putFn G fn)) fo=decide (look m2 z=some (putFn G fn)):=by
   rcases look_val FH.p2 z with ⟨h1,h2⟩|⟨v,x,h1,h2,h3⟩
   ·refine⟨_,_,rfl,rfl,?_⟩
    rw [h1,h2]
    refine⟨none_shaped,fits_non,fun H' _=>.non,?_⟩
    show PyData.eqv _ .none=_
    rw [eqv_fn_none,decide_eq_false (by simp)]
   ·obtain⟨qx,hqx,rfl⟩:∃q∈m2,q.2=x:=by
     unfold look at h2
     obtain⟨q,hq1,hq2⟩:=Option.map_eq_some_iff.mp h2
     exact⟨q,List.mem_of_find?_eq_some hq1,hq2⟩
    obtain⟨_,sl,sx⟩:=hsmM qx hqx
    have h35:FunAt K H5 v qx.2:=FunAt.keep wk5.tup h3
    refine⟨_,_,rfl,rfl,?_⟩
    rw [h1,h2]
    refine⟨fn_shaped (fun k hk=>⟨sm_ok (sx k hk).1,by have:=(sx k hk).2.2;omega⟩) sl,fits_fn h35 (fun k hk=>⟨(sx k hk).1,by have:=(sx k hk).2.2;omega⟩) ?_,fun H' kt=>fn_dat (FunAt.keep kt h35),?_⟩
    ·have:∀ks:List Kd,(∀k∈ks,k.words≤60)→sumK ks≤60*ks.length:=fun ks=>by
      induction ks with
      |nil=>intro _;exact Nat.le_refl _
      |cons k ks ih =>
       intro hk
       have a1:=hk k (.head _)
       have a2:=ih fun j hj=>hk j (.tail _ hj)
       show k.words+sumK ks≤60*(ks.length+1)
       omega
     have t:=this (qx.2.2::qx.2.1) fun k hk=>(sx k hk).2.1
     rw [List.length_cons] at t
     omega
    ·show PyData.eqv (Fn.dat (putFn G fn)) (Fn.dat qx.2)=_
     rw [eqv_fn]
     exact decide_eq_decide.mpr ⟨fun e=>by rw [e],fun e=>(Option.some.inj e).symm⟩
  rw [hu8]
  refine⟨_,rfl,_,rfl,_,_,fn_dat hdue,hkeep _ (fun _ _ t=>t),fn_shaped (fun k hk=>⟨sm_ok (smP k hk),w2 k hk⟩) (by show(fn.1.map _).length≤4;rw [List.length_map];exact l4),hsh,_,rfl,ite2 (fun c=>?_) (fun c=>?_)⟩
  ·have c':(!PyData.eqv (Fn.dat (putFn G fn)) fo)=true:=c
   rw [hne,Bool.not_eq_true',decide_eq_false_iff_not] at c'
   have hR:no4 G m2 n2=some (z,Fn.dat (putFn G fn),fo):=by
    unfold no4
    rw [find_take hq (decide_eq_true (show look m2 z≠some (putFn G fn) from c')) hall]
    show some (z,Fn.dat (putFn G fn),((look m2 z).map Fn.dat).getD .none)=_
    rw [hfo]
   refine⟨_,rfl,_,rfl,_,rfl,_,rfl,(by show 4≤sizeLine;decide),fun e he=>?_⟩
   have se:=same_new he (.ext (excRaw e CN none))
   refine⟨e,.str pz,.str z,.ref p5,u,rfl,upd_same,fits_str hpt.1 (by omega),fits_str z1 (by omega),(fits_fn hdue (fun k hk=>⟨smP k hk,w2 k hk⟩) w1).same se,hfi.same se,fun dx H6 ne k6 he6 hx6=>⟨rfl,some dx,dw2,o,.dK kw2,he6,?_⟩⟩
   obtain⟨g1,g2,g3⟩:=flown (CN:=CN) (r:=(z,Fn.dat (putFn G fn),fo)) wk5 FW.h2 he ne k6 hx6 (fun H' kt=>fn_dat (FunAt.keep kt hdue)) (fun H' kt=>hkeep H' kt)
   exact⟨g1,nofz' s1 FW.h2,qE _ hR _ _ g2 g3⟩
  ·refine⟨_,_,_,_,rfl,wk5,fun y hy=>?_⟩
   rw [List.take_add_one,hq] at hy
   rcases List.mem_append.mp hy with h|h
   ·exact hall y h
   ·obtain rfl:y=(z,fn):=by simpa using h
    have c':¬(!PyData.eqv (Fn.dat (putFn G fn)) fo)=true:=c
    rw [hne,Bool.not_eq_true',Bool.not_eq_false,decide_eq_true_iff] at c'
    exact decide_eq_false fun hne'=>hne' c'
 ·rintro σ H3 ⟨y3,y6,y7,y8,rfl,wk,hall⟩
  refine⟨dw2,o,.dK kw2,wk.fz,nofz' s1 FW.h2,q ?_ _ y3 y6 y7 y8 (wk.thaw FW.h2)⟩
  rw [hlen,List.take_length] at hall
  unfold no4
  rw [find_no hall]
  rfl
end
end K27
namespace K27
open PySem L2 Kk
def PtAt(K:PySem.W.Frag)(H:Hp)(kvs:List (List Key × V))(gl:List (Str × Kd)):Prop:=Paired (fun(p:List Key × V) (q:Str × Kd)=>p.1=keyN ("",q.1)∧KdAt K H p.2 q.2) kvs gl
theorem PtAt.keep{K:PySem.W.Frag}{H H':Hp}{kvs:List (List Key × V)}{gl:List (Str × Kd)}(e:∀a xs,SqT K H a xs→SqT K H' a xs)(h:PtAt K H kvs gl):PtAt K H' kvs gl:=Paired.mapP h fun _ _ ⟨a,b⟩=>⟨a,kd_keep e b⟩
theorem PtAt.same{K:PySem.W.Frag}{H H':Hp}{kvs:List (List Key × V)}{gl:List (Str × Kd)}(e:Same H H')(h:PtAt K H kvs gl):PtAt K H' kvs gl:=h.keep fun _ _ t=>e.tup t
theorem pt_val{K:PySem.W.Frag}{H:Hp}{kvs:List (List Key × V)}{gl:List (Str × Kd)}(h:PtAt K H kvs gl)(n:Str × Str):(valV kvs (keyN n)=none∧(n.1=""→n.2∉gl.map (·.1)))∨∃v k,valV kvs (keyN n)=some v∧n.1=""∧(n.2,k)∈gl∧KdAt K H v k:=by
 unfold PtAt at h
 induction h with
 |nil=>exact .inl ⟨rfl,fun _ hm=>by cases hm⟩
 |@cons p q ps qs hpq r ih =>
  obtain⟨h1,h2⟩:=hpq
  by_cases e:n=(("":Str),q.1)
  ·refine .inr ⟨p.2,q.2,?_,by rw [e],by rw [e];exact .head _,h2⟩
   exact valV_pos (by rw [h1,e])
  ·have ne:p.1≠keyN n:=fun z=>e (keyN_inj (by rw [←z,h1]))
   have ev:valV (p::ps) (keyN n)=valV ps (keyN n):=by
    unfold valV
    rw [List.find?_cons,decide_eq_false ne]
   rw [ev]
   rcases ih with ⟨a,b⟩|⟨v,k,a,b,c,d⟩
   ·refine .inl ⟨a,fun h0 hm=>?_⟩
    rw [List.map_cons] at hm
    rcases List.mem_cons.mp hm with z|z
    ·exact e (by rw [←h0,←z])
    ·exact b h0 z
   ·exact .inr ⟨v,k,a,b,.tail _ c,d⟩
theorem pt_gv{K:PySem.W.Frag}{H:Hp}{kvs:List (List Key × V)}{gl m1:List (Str × Kd)}{hs:List Str}(h:PtAt K H kvs gl)(e:gl.map (·.1)=hs)(hl:∀q∈gl,look m1 q.1=some q.2):GvAt K H kvs (givenF m1 hs):=fun n=>by
 rcases pt_val h n with ⟨a,b⟩|⟨v,k,a,b,c,d⟩
 ·refine .inl ⟨a,?_⟩
  unfold givenF
  rw [if_neg]
  rintro⟨h0,hm⟩
  rw [←e] at hm
  exact b h0 hm
 ·refine .inr ⟨v,k,a,?_,d⟩
  unfold givenF
  rw [if_pos ⟨b,by rw [←e];exact List.mem_map_of_mem (f:=(·.1)) c⟩]
  exact hl _ c
theorem pt_put{K:PySem.W.Frag}{H:Hp}{kvs:List (List Key × V)}{gl:List (Str × Kd)}{z:Str}{v:V}{k:Kd}(h:PtAt K H kvs gl)(hz:z∉gl.map (·.1))(hv:KdAt K H v k):PtAt K H (putK kvs (keyN ("",z)) v) (gl++[(z,k)]):=by
 have e:¬(kvs.any fun kv=>decide (kv.1=keyN ("",z)))=true:=fun c=>by
  rcases pt_val h ("",z) with ⟨a,_⟩|⟨v',k',a,b,c',d⟩
  ·rw [List.any_eq_true] at c
   obtain⟨p,hp,he⟩:=c
   unfold valV at a
   rw [Option.map_eq_none_iff,List.find?_eq_none] at a
   exact a p hp he
  ·exact hz (List.mem_map_of_mem (f:=(·.1)) c')
 unfold putK
 rw [if_neg e]
 exact Paired.snoc h ⟨rfl,hv⟩
theorem hid_mem{m:List (Str × Kd)}{z:Str}(h:z∈hidL m):∃k,(z,k)∈m:=by
 unfold hidL at h
 obtain⟨q,hq,rfl⟩:=List.mem_map.mp h
 exact⟨q.2,(List.mem_filter.mp hq).1⟩
theorem hid_nodup{m:List (Str × Kd)}(h:(m.map (·.1)).Nodup):(hidL m).Nodup:=h.sublist (List.Sublist.map _ List.filter_sublist)
theorem out_take{l:List Str}{i:Nat}{z:Str}(hn:l.Nodup)(h:l[i]?=some z):z∉l.take i:=fun hm=>by
 have e:l=l.take i++l.drop i:=(List.take_append_drop i l).symm
 rw [e,List.nodup_append] at hn
 have hd:z∈l.drop i:=List.mem_of_getElem? (i:=0) (by rw [List.getElem?_drop];exact h)
 exact hn.2.2 z hm z hd rfl
theorem sqt_dt{K:PySem.W.Frag}{H:Hp}{l a:Addr}{kvs:List (List Key × V)}{xs:List V}{o:HO}(h:H l=some (.dT kvs))(t:SqT K H a xs):SqT K (upd H l o) a xs:=by
 rcases t with (t|⟨o',t⟩)|t
 ·exact .inl (.inl (by rw [upd_ne (fun e=>by rw [e,h] at t;cases t)];exact t))
 ·exact .inl (.inr ⟨o',by rw [upd_ne (fun e=>by rw [e,h] at t;cases t)];exact t⟩)
 ·exact .inr t
section
variable{P:Program}{w:World}{K:PySem.W.Frag}{mg:Str→Option Value}{base:Heap}
set_option maxHeartbeats 0 in
theorem ft2{f fh CF:Addr}{fdh:FuncData} (MH:Meth K CF "hidden" fh) (GH:FnOk P w K mg base CX0 2 fh fdh ["self"] (spHidden K CF)) (bH:Binds K fdh ["self"] []) (cF:Cls K CF) (nK:NoAttr K CF "kinds")
  {cdv:Value} {A:Around} {outer:List Env} {s:Shared} {H:Hp} {E:XK} (hr:Room 2 (A.deeper (PyProof.Rows.envOfC "fitted" (defScope sFitted) s.heap.objs.size f cdv))) :
  ∃t,PS (cxOf (CX1 P w) P w K mg base ftN "fitted" (defScope sFitted) f cdv A outer s H E) ((defBody sFitted).getD 2 (.Pass ⟨0,0,0,0⟩)) t ∧
   ∀(D:Ends) (H1 H2:Hp) (ha wa dxh dh1 dh2 dxw dw1 dw2 g:Addr) (fsh fsw:List (Str × V)) (kh1 kh2 kw1 kw2:List (Key × V)) (m1 n1:List (Str × Kd)) (m2 n2:List (Str × (List Kd × Kd))) (pz:Str) (x3 x4:Option V),
    FaceA K H1 CF ha dxh dh1 dh2 fsh kh1 kh2 m1 m2→FaceA K H1 CF wa dxw dw1 dw2 fsw kw1 kw2 n1 n2→n1.length≤100→(∀q∈n1,SmK q)→(n1.map (·.1)).Nodup→no1 m1 n1=none→H1 g=none→Same H1 H2→H2 g=some (.dT []) →
    (∀(H4:Hp) (y3:Option V) (kvs:List (List Key × V)) (gl:List (Str × Kd)),Same H1 H4→H4 g=some (.dT kvs)→PtAt K H4 kvs gl→gl.map (·.1)=hidL n1→(∀q∈gl,look m1 q.1=some q.2)→D.nx [some (.ref ha),some (.ref wa),some (.str pz),y3,x4,some (.ref g),none,none,none] H4) →
    t D [some (.ref ha),some (.ref wa),some (.str pz),x3,x4,some (.ref g),none,none,none] H2:=by
 have hu:=hu_of hr
 refine⟨_,ps_for PassesOwn.leaving rfl (pi_list (pe_meth0 (pv 1) cF MH GH hr bH .nil pass0)) (pg_name (i:=3) scFitted.nd rfl (Or.inl rfl))
   (pss_one (ps_dput hu (pv 5) (pe_tup (pa_cons pe_str (pa_cons (pv 3) pa_nil))) (pe_dget hu (pe_fld (pv 0) rfl) (pv 3) (fun _ _=>rfl)) rfl)),?_⟩
 intro D H1 H2 ha wa dxh dh1 dh2 dxw dw1 dw2 g fsh fsw kh1 kh2 kw1 kw2 m1 n1 m2 n2 pz x3 x4 FH FW h100 hsm hnd hn1 hgn s2 hg2 q
 have FW2:=FW.same s2
 refine⟨_,rfl,wa,dxw,fsw,rfl,FW2.obj,FW2.nh,wa,n1,n2,rfl,⟨dxw,dw1,dw2,fsw,kw1,kw2,FW2.obj,FW2.fk,FW2.ff,FW2.h1,FW2.h2,FW2.p1,FW2.p2,FW2.nh,FW2.np⟩,h100,(fun qq hq=>by
  obtain⟨⟨a1,a2⟩,a3,_,a5⟩:=hsm qq hq
  exact⟨⟨a1,by omega⟩,sm_ok a3,by omega⟩),fun H3 l s3 hl2 hl3=>⟨l,rfl,⟨_,SqL.of hl3⟩,?_⟩⟩
 have hg3:=s3 _ _ hg2
 have lg:l≠g:=fun e=>by rw [e,hg2] at hl2;cases hl2
 have hsl:(hidL n1).length≤100:=by
  unfold hidL
  rw [List.length_map]
  exact Nat.le_trans (List.length_filter_le _ _) h100
 refine for_list (K:=K) (xs:=(hidL n1).map V.str) (fun i σ H4=>∃(y3:Option V) (kvs:List (List Key × V)) (gl:List (Str × Kd)),σ=[some (.ref ha),some (.ref wa),some (.str pz),y3,x4,some (.ref g),none,none,none]∧Same H1 H4∧H4 l=some (.lst ((hidL n1).map V.str))∧H4 g=some (.dT kvs)∧PtAt K H4 kvs gl∧gl.map (·.1)=(hidL n1).take i∧∀q∈gl,look m1 q.1=some q.2)
  ⟨x3,[],[],rfl,s2.trans s3,hl3,hg3,.nil,rfl,fun q hq=>by cases hq⟩ ?_ ?_ ?_
 ·rintro i σ H4 _ ⟨_,_,_,_,_,h,_⟩
  exact SqL.of h
 ·rintro i y σ H4 hy ⟨y3,kvs,gl,rfl,s4,hl4,hg4,hpt,hgl,hlk⟩
  rw [List.getElem?_map] at hy
  obtain⟨z,hz,rfl⟩:=Option.map_eq_some_iff.mp hy
  have hi:i < (hidL n1).length:=(List.getElem?_eq_some_iff.mp hz).1
  obtain⟨k0,hk0⟩:=hid_mem (List.mem_of_getElem? hz)
  have FH4:=FH.same s4
  obtain⟨v,x,hv,hx,hvx⟩:∃v x,valV kh1 (.inr z)=some v∧look m1 z=some x∧KdAt K H4 v x:=by
   rcases look_val FH4.p1 z with ⟨_,h2⟩|h
   ·unfold no1 at hn1
    rw [Option.map_eq_none_iff,List.find?_eq_none] at hn1
    exact absurd (by show(look m1 z).isNone=true;rw [h2];rfl) (hn1 _ hk0)
   ·exact h
  refine⟨_,rfl,ha,CF,dxh,fsh,_,rfl,FH4.obj,cF,nK,FH4.fk,_,rfl,dh1,v,rfl,.inl ⟨kh1,.inr z,.inl FH4.h1,rfl,hv.symm⟩,_,rfl,_,rfl,(by show 2≤sizeLine;decide),fun p hp=>?_⟩
  have s5:=same_new hp (.tup [.str "",.str z])
  have kl:kvs.length=i:=by
   have e1:kvs.length=gl.length:=Paired.length hpt
   have e2:=congrArg List.length hgl
   rw [List.length_map,List.length_take] at e2
   omega
  have hg5:=s5 _ _ hg4
  refine⟨g,_,rfl,DPut.t (k:=keyN ("",z)) hg5 (by rw [upd_same]<;>rfl) (Nat.lt_of_lt_of_le (Nat.lt_succ_self _) (small (by omega))),?_⟩
  have kt:∀a xs,SqT K (upd H4 p (.tup [.str "",.str z])) a xs→SqT K (upd (upd H4 p (.tup [.str "",.str z])) g (.dT (putK kvs (keyN ("",z)) v))) a xs:=fun a xs t=>sqt_dt hg5 t
  have ht:(hidL n1).take (i+1)=(hidL n1).take i++[z]:=by rw [List.take_add_one,hz];rfl
  refine⟨_,_,gl++[(z,x)],rfl,sput (s4.trans s5) hgn,?_,upd_same,?_,?_,fun qq hq=>?_⟩
  ·rw [upd_ne lg]
   exact s5 _ _ hl4
  ·refine pt_put ((hpt.same s5).keep kt) ?_ (kd_keep kt (hvx.same s5))
   rw [hgl]
   exact out_take (hid_nodup hnd) hz
  ·rw [List.map_append,hgl,ht]
   rfl
  ·rcases List.mem_append.mp hq with h|h
   ·exact hlk qq h
   ·rw [List.mem_singleton.mp h]
    exact hx
 ·rintro σ H4 ⟨y3,kvs,gl,rfl,s4,hl4,hg4,hpt,hgl,hlk⟩
  rw [List.length_map,List.take_length] at hgl
  exact q _ y3 kvs gl s4 hg4 hpt hgl hlk
end
end K27
namespace K27
open PySem L2 Kk
structure Two(m1 n1:List (Str × Kd))(m2 n2:List (Str × (List Kd × Kd)))(n:Nat):Prop where
 l1:n1.length≤100
 l2:n2.length≤100
 sm1:∀q∈m1,SmK q
 sn1:∀q∈n1,SmK q
 sm2:∀q∈m2,SmF q
 sn2:∀q∈n2,SmF q
 nd:(n1.map (·.1)).Nodup
 dp1:∀q∈n1,Kd.depth q.2≤n
 dp2:∀q∈n2,∀k∈q.2.2::q.2.1,Kd.depth k≤n
 w1:∀q∈n1,(Kd.put (Gf m1 n1) q.2).words≤4000∧Kd.depth (Kd.put (Gf m1 n1) q.2)≤50
 w2:∀q∈n2,sumK ((putFn (Gf m1 n1) q.2).2::(putFn (Gf m1 n1) q.2).1)≤4600∧∀k∈(putFn (Gf m1 n1) q.2).2::(putFn (Gf m1 n1) q.2).1,Kd.depth k≤50
def FaceAt(K:PySem.W.Frag)(H:Hp)(CF fa:Addr)(m1:List (Str × Kd))(m2:List (Str × (List Kd × Kd))):Prop:=∃dx d1 d2 fs kv1 kv2,FaceA K H CF fa dx d1 d2 fs kv1 kv2 m1 m2
theorem FaceAt.same{K:PySem.W.Frag}{H H':Hp}{CF fa:Addr}{m1:List (Str × Kd)}{m2:List (Str × (List Kd × Kd))}(s:Same H H')(h:FaceAt K H CF fa m1 m2):FaceAt K H' CF fa m1 m2:=let ⟨a,b,c,d,e,f,g⟩:=h;⟨a,b,c,d,e,f,g.same s⟩
def spFitted(K:PySem.W.Frag)(CF CN:Addr)(n:Nat):Sp:=fun vs H Q E=>∃(ha wa:Addr) (pz:Str) (m1 n1:List (Str × Kd)) (m2 n2:List (Str × (List Kd × Kd))),vs=[.ref ha,.ref wa,.str pz]∧FaceAt K H CF ha m1 m2∧FaceAt K H CF wa n1 n2∧Two m1 n1 m2 n2 n∧(PyData.strOk pz=true∧pz.length≤14) ∧
 (∀r,fitR m1 n1 m2 n2=some r→∀d H',Same H H'→XOk K H' d (.str pz) r→E (.ref CN) d H') ∧
 (fitR m1 n1 m2 n2=none→∀H' (g:Addr) (kvs:List (List Key × V)) (gl:List (Str × Kd)),Same H H'→H g=none→H' g=some (.dT kvs)→PtAt K H' kvs gl→gl.map (·.1)=hidL n1→(∀q∈gl,look m1 q.1=some q.2)→Q (.ref g) H')
theorem given_sm{m1:List (Str × Kd)}{hs:List Str}(h:∀q∈m1,SmK q):∀n k,givenF m1 hs n=some k→Kd.sm k:=fun n k e=>by
 unfold givenF at e
 split at e
 ·unfold look at e
  obtain⟨q,hq1,rfl⟩:=Option.map_eq_some_iff.mp e
  exact(h q (List.mem_of_find?_eq_some hq1)).2.1
 ·cases e
section
variable{P:Program}{w:World}{K:PySem.W.Frag}{mg:Str→Option Value}{base:Heap}
set_option maxHeartbeats 0 in
theorem ok_fitted{n:Nat}{f fp fq fh fi CF CN:Addr}{dV:Value}{fd fdp fdq fdh fdi:FuncData} (F:FunD K "fitted" "fitted" sFitted dV f fd)
  (GP:FnOk P w K mg base CX0 n fp fdp ["kind","given"] (spPut K n)) (bP:Binds K fdp ["kind","given"] []) (kP:PySem.W.keepIn K (.ref fp)=true) (mP:mg "put"=some (.ref fp))
  (GF:FnOk P w K mg base CX0 (n+1) fq fdq ["fun","given"] (spPutFun K n)) (bF:Binds K fdq ["fun","given"] []) (kF:PySem.W.keepIn K (.ref fq)=true) (mF:mg "put_in_fun"=some (.ref fq))
  (MH:Meth K CF "hidden" fh) (GH:FnOk P w K mg base CX0 2 fh fdh ["self"] (spHidden K CF)) (bH:Binds K fdh ["self"] [])
  (MN:MkX K CN fi) (GI:FnOk P w K mg base CX0 1 fi fdi nfP (spInitN K CN)) (bI:Binds K fdi nfP []) (mN:mg "NoFit"=some (.ref CN)) (cF:Cls K CF) (nK:NoAttr K CF "kinds") (nF:NoAttr K CF "funs") :
  FnOk P w K mg base (CX1 P w) (n+2+1) f fd ftP (spFitted K CF CN n):=by
 refine F.okX scFitted (fun vs H Q E h=>?_) (fun cdv A outer s H vs Q E hr h=>?_)
 ·obtain⟨ha,wa,pz,m1,n1,m2,n2,rfl,_⟩:=h
  rfl
 obtain⟨ha,wa,pz,m1,n1,m2,n2,rfl,⟨dxh,dh1,dh2,fsh,kh1,kh2,FH⟩,⟨dxw,dw1,dw2,fsw,kw1,kw2,FW⟩,T,hpt,qE,qN⟩:=h
 have hr2:Room 2 _:=hr.mono (by omega)
 obtain⟨t0,e0,k0⟩:=ft1 (outer:=outer) (H:=H) (E:=E) MN GI bI mN cF nK hr2
 obtain⟨t2,e2,k2⟩:=ft2 (outer:=outer) (H:=H) (E:=E) MH GH bH cF nK hr2
 obtain⟨t3,e3,k3⟩:=ft3 (outer:=outer) (H:=H) (E:=E) GP bP kP mP MN GI bI mN cF nK hr
 obtain⟨t4,e4,k4⟩:=ft4 (outer:=outer) (H:=H) (E:=E) GF bF kF mF MN GI bI mN cF nF hr
 refine⟨_,(@pss_cons _ _ _ _ _ @e0
  (@pss_cons _ _ _ _ _ (@ps_set _ _ 5 _ _ _ _ scFitted.nd rfl (Or.inl rfl) (@pe_dnewT _ _) rfl (Or.inl rfl))
  (@pss_cons _ _ _ _ _ @e2
  (@pss_cons _ _ _ _ _ @e3
  (@pss_cons _ _ _ _ _ @e4
  (pss_one (ps_ret (pv 5))))))):PSs (cxOf (CX1 P w) P w K mg base ftN "fitted" (defScope sFitted) f cdv A outer s H E) (defBody sFitted) _),?_⟩
 refine k0 _ _ ha wa dxh dh1 dh2 dxw dw1 dw2 fsh fsw kh1 kh2 kw1 kw2 m1 n1 m2 n2 pz (Same.refl _) FH FW T.l1 T.sn1 hpt (fun r hr' d H' s' x'=>qE r ?_ d H' s' x') fun hn1 H1 y3 y4 s1=>?_
 ·unfold fitR
  rw [hr']
  rfl
 intro g hg
 have sg:=same_new hg (.dT [])
 refine k2 _ H1 _ ha wa dxh dh1 dh2 dxw dw1 dw2 g fsh fsw kh1 kh2 kw1 kw2 m1 n1 m2 n2 pz y3 y4 (FH.same s1) (FW.same s1) T.l1 T.sn1 T.nd hn1 hg sg upd_same fun H3 y3' kvs gl s3 hg3 hpt3 hgl hlk=>?_
 have s13:=s1.trans s3
 have gv:=pt_gv hpt3 hgl hlk
 have hGs:=given_sm (hs:=hidL n1) T.sm1
 refine k3 _ H3 ha wa dxh dh1 dh2 dxw dw1 dw2 g fsh fsw kh1 kh2 kw1 kw2 m1 n1 m2 n2 kvs _ pz y3' y4 s13 (FH.same s13) (FW.same s13) T.l1 T.sm1 T.sn1 T.dp1 hGs T.w1 hpt hg3 gv hn1 (fun r hr' d H' s' x'=>qE r ?_ d H' (s13.trans s') x') fun hn3 H4 y34 y44 y64 s4=>?_
 ·unfold fitR
  rw [hn1]
  show(no3 (Gf m1 n1) m1 n1).or _=_
  rw [hr']
  rfl
 have s14:=s13.trans s4
 refine k4 _ H4 ha wa dxh dh1 dh2 dxw dw1 dw2 g fsh fsw kh1 kh2 kw1 kw2 m1 n1 m2 n2 kvs _ pz y34 y44 y64 s14 (FH.same s14) (FW.same s14) T.l2 T.sm2 T.sn2 T.dp2 hGs T.w2 hpt (s4 _ _ hg3) (gv.same s4) (fun r hr' d H' s' x'=>qE r ?_ d H' (s14.trans s') x') fun hn4 H5 y35 y65 y75 y85 s5=>?_
 ·unfold fitR
  rw [hn1]
  show(no3 (Gf m1 n1) m1 n1).or _=_
  rw [hn3]
  exact hr'
 refine⟨_,rfl,qN ?_ H5 g kvs gl (s14.trans s5) (Same.free s1 hg) (s5 _ _ (s4 _ _ hg3)) ((hpt3.same s4).same s5) hgl hlk⟩
 unfold fitR
 rw [hn1]
 show(no3 (Gf m1 n1) m1 n1).or _=_
 rw [hn3]
 exact hn4
end
end K27
namespace K27
open PySem L2 Kk
def spUnder(K:PySem.W.Frag)(CF:Addr)(n:Nat):Sp:=fun vs H Q _=>∃(ha wa:Addr) (m1 n1:List (Str × Kd)) (m2 n2:List (Str × (List Kd × Kd))),vs=[.ref ha,.ref wa]∧FaceAt K H CF ha m1 m2∧FaceAt K H CF wa n1 n2∧Two m1 n1 m2 n2 n∧∀H',Same H H'→Q (.bl (fitR m1 n1 m2 n2).isNone) H'
section
variable{P:Program}{w:World}{K:PySem.W.Frag}{mg:Str→Option Value}{base:Heap}
theorem bindF2{f T:Addr}{fd:FuncData}{oT:Value}{dT:Option Addr}{nT:Nat}{sT:Array (Option Value)}{tk:Tok} (F:FunD K "fitted" "fitted" sFitted (.ref T) f fd) (lT:K.lookup T=some ⟨oT,dT,.seq #[.str "" tk] nT,sT⟩):Binds K fd ftP [.str "" tk] :=
 F.binds lT fun _ _ _ _ _ _ us hl=>by
  have hl':us.length=2:=by simpa using hl
  match us,hl' with
  |[_,_],_=>exact⟨_,rfl,rfl⟩
theorem scUnder:FnScope ["one","other"] ["one","other"] (defScope sUnder):=⟨rfl,rfl,rfl,by decide +kernel,rfl,by decide +kernel,by decide +kernel⟩
def tryHs:List Stmt→List ExceptHandler
 |.Try _ hs _ _ _::_=>hs
 |_=>[]
set_option maxHeartbeats 0 in
theorem ok_under{n:Nat}{f ff CF CN T:Addr}{fd fdf:FuncData}{oT:Value}{dT:Option Addr}{nT:Nat}{sT:Array (Option Value)}{tk:Tok} (F:Fun K "under" "under" sUnder f fd) (FF:FunD K "fitted" "fitted" sFitted (.ref T) ff fdf) (lT:K.lookup T=some ⟨oT,dT,.seq #[.str "" tk] nT,sT⟩)
  (GF:FnOk P w K mg base (CX1 P w) (n+3) ff fdf ftP (spFitted K CF CN n)) (kF:PySem.W.keepIn K (.ref ff)=true) (mF:mg "fitted"=some (.ref ff)) (mN:mg "NoFit"=some (.ref CN)) (x1:PySem.W.exmOne K (.ref CN) (.ref CN)=some true) :
  FnOk P w K mg base CX0 (n+4) f fd ["one","other"] (spUnder K CF n):=by
 refine F.ok scUnder (fun vs H Q E h=>?_) (fun cdv A outer s H vs Q E hr h=>?_)
 ·obtain⟨ha,wa,m1,n1,m2,n2,rfl,_⟩:=h
  rfl
 obtain⟨ha,wa,m1,n1,m2,n2,rfl,FH,FW,T2,q⟩:=h
 obtain⟨th,hh,hN⟩:∃th,PH (cxOf CX0 P w K mg base ["one","other"] "under" (defScope sUnder) f cdv A outer s H E).nox (tryHs (defBody sUnder)) th ∧
   (∀D d e H',D.rt (.bl false) H'→th D (.ref CN) d e [some (.ref ha),some (.ref wa)] H'):=by
  refine⟨_,ph_cons rfl mN (fun e=>pss_one (ps_ret pe_bl)) ph_nil,fun D d e H' h=>?_⟩
  exact⟨true,x1,iteT h⟩
 refine⟨_,pss_cons (ps_try fun pins D=>pss_one (ps_expr (pe_callE GF hr rfl mF kF (bindF2 FF lT) (.cons (show RelV (.str "") (.str "" tk) from⟨tk,rfl⟩) .nil) (passT rfl rfl hh) (pa_cons (pv 0) (pa_cons (pv 1) pa_nil))))) (pss_one (ps_ret pe_bl)),?_⟩
 refine⟨_,rfl,_,rfl,ha,wa,"",m1,n1,m2,n2,rfl,FH,FW,T2,⟨by decide +kernel,by decide +kernel⟩,fun r hr' d H' s' _ e he=>?_,fun hn H' g kvs gl s' _ _ _ _ _=>?_⟩
 ·refine hN _ _ _ _ ?_
  have:=q H' s'
  rw [hr'] at this
  exact this
 ·have:=q H' s'
  rw [hn] at this
  exact this
end
end K27
namespace K27
open PySem L2 Kk
section
variable{P:Program}{w:World}{K:PySem.W.Frag}{mg:Str→Option Value}{base:Heap}
abbrev strE(q:Str × Nat × Pos):Expr:=.Constant (.str q.1) q.2.1 q.2.2
theorem pa_strs{X:Cx}:∀(l:List (Str × Nat × Pos)),PA X (l.map strE) (fun _ H Q=>Q ((l.map (·.1)).map V.str) H)
 |[]=>pa_nil
 |q::l=>pa_cons (pe_str (x:=q.1)) (pa_strs l)
end
end K27
namespace K27
open PySem L2 Kk
def ownG(gl:List (Str × Kd)):Str × Str→Option Kd:=fun n=>if n.1="" then look gl n.2 else none
theorem look_in{α:Type}{m:List (Str × α)}{z:Str}{x:α}(h:look m z=some x):(z,x)∈m:=by
 unfold look at h
 obtain⟨q,hq,rfl⟩:=Option.map_eq_some_iff.mp h
 have e0:=List.find?_some hq
 have e:q.1=z:=of_decide_eq_true e0
 rw [←e]
 exact List.mem_of_find?_eq_some hq
theorem in_look{α:Type}:∀{m:List (Str × α)} {z:Str} {x:α},(m.map (·.1)).Nodup→(z,x)∈m→look m z=some x
 |[],_,_,_,h=>nomatch h
 |(y,w)::m,z,x,hn,h=>by
  have hn':=List.nodup_cons.mp (List.map_cons▸hn)
  unfold look
  rw [List.find?_cons]
  by_cases e:y=z
  ·have hy:(y,w)=(z,x):=by
    rcases List.mem_cons.mp h with q|q
    ·exact q.symm
    ·exact absurd (List.mem_map.mpr ⟨_,q,e.symm⟩) hn'.1
   rw [show decide ((y,w).1=z)=true from decide_eq_true e]
   cases hy
   rfl
  ·rw [show decide ((y,w).1=z)=false from decide_eq_false e]
   refine in_look hn'.2 ((List.mem_cons.mp h).resolve_left fun q=>e ?_)
   cases q
   rfl
theorem nd_snoc{α:Type}{l:List (Str × α)}{z:Str}{x:α}(h:(l.map (·.1)).Nodup)(hz:z∉l.map (·.1)):((l++[(z,x)]).map (·.1)).Nodup:=by
 rw [List.map_append,List.nodup_append]
 refine⟨h,by simp,fun a ha b hb e=>?_⟩
 have hb':b=z:=List.mem_singleton.mp hb
 rw [e,hb'] at ha
 exact hz ha
theorem look_ex{α:Type}{m:List (Str × α)}{z:Str}(h:z∈m.map (·.1)):∃x,look m z=some x:=by
 cases hh:look m z with
 |some x=>exact⟨x,rfl⟩
 |none =>
  unfold look at hh
  rw [Option.map_eq_none_iff,List.find?_eq_none] at hh
  obtain⟨q,hq,e⟩:=List.mem_map.mp h
  exact absurd (decide_eq_true e) (hh q hq)
end K27
namespace K27
open PySem L2 Kk
def lstep(m:List (Str × Kd))(acc:List (Str × Kd))(z:Str):List (Str × Kd) :=
 match look m z with
 |some (.name q t)=>if q=""∧look acc t=none then acc++[(t,ownK z)] else acc
 |_=>acc
def lgivL(m:List (Str × Kd))(zs:List Str):List (Str × Kd):=zs.foldl (lstep m) []
abbrev keysL{α:Type}(m:List (Str × α)):List Str:=srt (m.map (·.1))
def lgiv(m:List (Str × Kd)):List (Str × Kd):=lgivL m (keysL m)
theorem lgivL_take{m:List (Str × Kd)}{zs:List Str}{i:Nat}{z:Str}(h:zs[i]?=some z):lgivL m (zs.take (i+1))=lstep m (lgivL m (zs.take i)) z:=by
 unfold lgivL
 rw [List.take_add_one,h,List.foldl_append]
 rfl
theorem lstep_name{m acc:List (Str × Kd)}{z t:Str} (h:look m z=some (.name "" t)):lstep m acc z=if look acc t=none then acc++[(t,ownK z)] else acc:=by
 unfold lstep
 rw [h]
 simp only [true_and]
theorem lstep_far{m acc:List (Str × Kd)}{z q t:Str}(h:look m z=some (.name q t)) (hq:q≠""):lstep m acc z=acc:=by
 unfold lstep
 rw [h]
 exact if_neg fun z=>hq z.1
theorem lstep_num{m acc:List (Str × Kd)}{z:Str}{n:Int}(h:look m z=some (.num n)):lstep m acc z=acc:=by
 unfold lstep
 rw [h]
theorem lstep_pair{m acc:List (Str × Kd)}{z:Str}{a b:Kd}(h:look m z=some (.pair a b)):lstep m acc z=acc:=by
 unfold lstep
 rw [h]
def rowKD(g m:List (Str × Kd))(z:Str):PyData:=.tuple [.str z,((look m z).map fun k=>Kd.dat (Kd.put (ownG g) k)).getD .none]
def rowFD(g:List (Str × Kd))(m:List (Str × (List Kd × Kd)))(z:Str):PyData:=((look m z).map fun f=>PyData.tuple [.str z,.tuple ((putFn (ownG g) f).1.map Kd.dat),Kd.dat (putFn (ownG g) f).2]).getD .none
def leastD(m1:List (Str × Kd))(m2:List (Str × (List Kd × Kd))):PyData:=.tuple [.tuple ((keysL m1).map (rowKD (lgiv m1) m1)),.tuple ((keysL m2).map (rowFD (lgiv m1) m2))]
theorem look_none{α:Type}{m:List (Str × α)}{z:Str}(h:look m z=none):z∉m.map (·.1):=fun hz=>by
 obtain⟨x,e⟩:=look_ex hz
 rw [h] at e
 cases e
theorem pt_own{K:PySem.W.Frag}{H:Hp}{kvs:List (List Key × V)}{gl:List (Str × Kd)}(h:PtAt K H kvs gl)(nd:(gl.map (·.1)).Nodup):GvAt K H kvs (ownG gl):=fun n=>by
 rcases pt_val h n with ⟨h1,h2⟩|⟨v,k,h1,h2,h3,h4⟩
 ·refine .inl ⟨h1,?_⟩
  unfold ownG
  by_cases e:n.1=""
  ·rw [if_pos e]
   cases hh:look gl n.2 with
   |none=>rfl
   |some k=>exact absurd (List.mem_map.mpr ⟨_,look_in hh,rfl⟩) (h2 e)
  ·exact if_neg e
 ·refine .inr ⟨v,k,h1,?_,h4⟩
  unfold ownG
  rw [if_pos h2]
  exact in_look nd h3
theorem pk_keys{α:Type}{R:V→α→Prop}:∀{kvs:List (Key × V)} {m:List (Str × α)},PkAt R kvs m→kvs.map (·.1)=(m.map (·.1)).map Sum.inr
 |_,_,.nil=>rfl
 |_,_,.cons ⟨h,_⟩ t=>by rw [List.map_cons,List.map_cons,List.map_cons,h,pk_keys t]
theorem pt_len{K:PySem.W.Frag}{H:Hp}{kvs:List (List Key × V)}{gl:List (Str × Kd)}(h:PtAt K H kvs gl):kvs.length=gl.length:=Paired.length h
theorem lstep_len(m acc:List (Str × Kd))(z:Str):(lstep m acc z).length≤acc.length+1:=by
 unfold lstep
 split
 ·split
  ·rw [List.length_append]
   exact Nat.le_refl _
  ·omega
 ·omega
theorem lstep_nd{m acc:List (Str × Kd)}{z:Str}(h:(acc.map (·.1)).Nodup):((lstep m acc z).map (·.1)).Nodup:=by
 unfold lstep
 split
 ·split
  ·rename_i c
   exact nd_snoc h (look_none c.2)
  ·exact h
 ·exact h
theorem lgivL_ok{m:List (Str × Kd)}:∀(zs:List Str) (i:Nat),((lgivL m (zs.take i)).map (·.1)).Nodup∧(lgivL m (zs.take i)).length≤i
 |zs,0=>⟨List.nodup_nil,Nat.le_refl _⟩
 |zs,i+1=>by
  obtain⟨h1,h2⟩:=lgivL_ok (m:=m) zs i
  cases h:zs[i]? with
  |none =>
   have e:=List.getElem?_eq_none_iff.mp h
   rw [List.take_of_length_le (Nat.le_succ_of_le e)]
   rw [List.take_of_length_le e] at h1 h2
   exact⟨h1,Nat.le_succ_of_le h2⟩
  |some z =>
   rw [lgivL_take h]
   have:=lstep_len m (lgivL m (zs.take i)) z
   exact⟨lstep_nd h1,by omega⟩
def spLeast(K:PySem.W.Frag)(CF:Addr)(n:Nat):Sp:=fun vs H Q _=>∃(fa:Addr) (m1:List (Str × Kd)) (m2:List (Str × (List Kd × Kd))),vs=[.ref fa]∧FaceAt K H CF fa m1 m2∧m1.length≤16∧m2.length≤16∧(∀q∈m1,Kd.depth q.2≤n)∧(∀q∈m2,q.2.1.length≤4∧∀k∈q.2.2::q.2.1,Kd.depth k≤n) ∧
 ∀H' v,Same H H'→Dat K H' v (leastD m1 m2)→Q v H'
section
variable{P:Program}{w:World}{K:PySem.W.Frag}{mg:Str→Option Value}{base:Heap}
theorem bootSorted:bootBuiltins "sorted"=some (.builtin "sorted"):=by decide +kernel
theorem fldK{X:Cx}{e:Expr}{f:Str}{pos:Pos}{ta:TE}(h:X.K=K)(he:PE X e ta)(hb:attributeBase e f X.env (eval e X.env)=eval e X.env):PE X (.Attribute e f pos) (tFld K ta f):=by
 subst h
 exact pe_fld he hb
theorem catK{X:Cx}(h:X.K=K):OpR X (binaryOp .Add) (rCatA K):=by
 subst h
 exact op_catA
abbrev leN:List Str:=["face","given","word","kind","kinds","funs"]
theorem scLeast:FnScope leN ["face"] (defScope sLeast):=⟨rfl,rfl,rfl,by decide +kernel,rfl,by decide +kernel,by decide +kernel⟩
theorem dats_snoc{H:Hp}:∀{xs:List V} {ds:List PyData} {x:V} {d:PyData},Dats K H xs ds→Dat K H x d→Dats K H (xs++[x]) (ds++[d])
 |_,_,_,_,.nil,h=>.cons h .nil
 |_,_,_,_,.cons a t,h=>.cons a (dats_snoc t h)
set_option maxHeartbeats 0 in
theorem ok_least{n:Nat}{f fp fq fo CF:Addr}{fd fdp fdq fdo:FuncData} (F:Fun K "least" "least" sLeast f fd) (GP:FnOk P w K mg base CX0 n fp fdp ["kind","given"] (spPut K n)) (bP:Binds K fdp ["kind","given"] []) (kP:PySem.W.keepIn K (.ref fp)=true) (mP:mg "put"=some (.ref fp))
  (GF:FnOk P w K mg base CX0 (n+1) fq fdq ["fun","given"] (spPutFun K n)) (bF:Binds K fdq ["fun","given"] []) (kF:PySem.W.keepIn K (.ref fq)=true) (mF:mg "put_in_fun"=some (.ref fq))
  (GO:FnOk P w K mg base CX0 1 fo fdo ["word"] (spOwn K)) (bO:Binds K fdo ["word"] []) (kO:PySem.W.keepIn K (.ref fo)=true) (mO:mg "own_name"=some (.ref fo)) (ms:mg "sorted"=none) (mt:mg "tuple"=none) (cF:Cls K CF) (nK:NoAttr K CF "kinds") (nF:NoAttr K CF "funs") :
  FnOk P w K mg base CX0 (n+2) f fd ["face"] (spLeast K CF n):=by
 refine F.ok scLeast (fun vs H Q E h=>?_) (fun cdv A outer s H vs Q E hr h=>?_)
 ·obtain⟨fa,m1,m2,rfl,_⟩:=h
  rfl
 obtain⟨fa,m1,m2,rfl,⟨dx,d1,d2,fs,kv1,kv2,FA⟩,l1,l2,dp1,dp2,q⟩:=h
 have hu:=hu_of hr
 have hr0:Room n _:=hr.mono (by omega)
 have hr1:Room 1 _:=hr.mono (by omega)
 refine⟨_,(@pss_cons _ _ _ _ _ (ps_set (i:=1) scLeast.nd rfl (Or.inr rfl) pe_dnewT)
  (@pss_cons _ _ _ _ _ (ps_for PassesOwn.never rfl (pi_list (pe_callB (call_sorted_dK rfl) rfl ms bootSorted (pa_cons (pe_fld (pv 0) rfl) pa_nil))) (pg_name (i:=2) scLeast.nd rfl (Or.inl rfl))
   (pss_cons (ps_set (i:=3) scLeast.nd rfl (Or.inl rfl) (pe_dget hu (pe_fld (pv 0) rfl) (pv 2) (fun _ _=>rfl)))
   (pss_one (ps_if (PW.pt (pw_and (pt_cmpR op_eq (pe_ix ix_tup (pv 3) pe_int (fun _ _=>rfl)) pe_str (nomark _)) (pw_and1 (pt_cmpR op_eq (pe_ix ix_tup (pv 3) pe_int (fun _ _=>rfl)) pe_str (nomark _)))))
    (pss_one (ps_expr (pe_dsetT hu (pv 1) (pe_tup (pa_cons pe_str (pa_cons (pe_ix ix_tup (pv 3) pe_int (fun _ _=>rfl)) pa_nil))) (pe_call GO hr1 rfl mO kO bO .nil pass0 (pa_cons (pv 2) pa_nil)) ⟨rfl,rfl,rfl,rfl⟩))) pss_nil))))
  (@pss_cons _ _ _ _ _ (ps_comp (i0:=4) (own:=["word"]) (caps:=["face","given"]) (κ:=[0,1]) scLeast.nd rfl (Or.inl rfl) rfl ⟨rfl,by decide +kernel,by decide +kernel,rfl,rfl,(fun y hy=>by simp only [List.mem_cons,List.not_mem_nil,or_false] at hy;rcases hy with rfl|rfl<;>rfl),(fun y hy=>by simp only [List.mem_cons,List.not_mem_nil,or_false] at hy;rcases hy with rfl|rfl<;>exact⟨.inl rfl,rfl,.inl rfl⟩)⟩ rfl
    (pi_list (pe_callB (call_sorted_dK rfl) rfl ms bootSorted (pa_cons (pe_fld (pv 0) rfl) pa_nil))) (fun _ _ _ _=>pg_name (i:=0) (show(["word","face","given"]:List Str).Nodup from by decide +kernel) rfl (Or.inl rfl))
    (fun _ _ _ _=>pe_tup (pa_cons (pv 0) (pa_cons (pe_call GP hr0 rfl mP kP bP .nil pass0 (pa_cons (pe_dget hu (fldK (K:=K) rfl (pv 1) rfl) (pv 0) (fun _ _=>rfl)) (pa_cons (pv 2) pa_nil))) pa_nil))))
  (@pss_cons _ _ _ _ _ (ps_comp (i0:=5) (own:=["word"]) (caps:=["face","given"]) (κ:=[0,1]) scLeast.nd rfl (Or.inl rfl) rfl ⟨rfl,by decide +kernel,by decide +kernel,rfl,rfl,(fun y hy=>by simp only [List.mem_cons,List.not_mem_nil,or_false] at hy;rcases hy with rfl|rfl<;>rfl),(fun y hy=>by simp only [List.mem_cons,List.not_mem_nil,or_false] at hy;rcases hy with rfl|rfl<;>exact⟨.inl rfl,rfl,.inl rfl⟩)⟩ rfl
    (pi_list (pe_callB (call_sorted_dK rfl) rfl ms bootSorted (pa_cons (pe_fld (pv 0) rfl) pa_nil))) (fun _ _ _ _=>pg_name (i:=0) (show(["word","face","given"]:List Str).Nodup from by decide +kernel) rfl (Or.inl rfl))
    (fun _ _ _ _=>pe_op (catK (K:=K) rfl) (pe_tup (pa_cons (pv 0) pa_nil)) (pe_call GF hr rfl mF kF bF .nil pass0 (pa_cons (pe_dget hu (fldK (K:=K) rfl (pv 1) rfl) (pv 0) (fun _ _=>rfl)) (pa_cons (pv 2) pa_nil)))))
  (@pss_one _ _ _ (ps_ret (pe_tup (pa_cons (pe_callTy call_tuple_of rfl mt bootTuple (pa_cons (pv 4) pa_nil)) (pa_cons (pe_callTy call_tuple_of rfl mt bootTuple (pa_cons (pv 5) pa_nil)) pa_nil)))))))):PSs (cxOf CX0 P w K mg base leN "least" (defScope sLeast) f cdv A outer s H E).nox (defBody sLeast) _),?_⟩
 intro gd hgd0
 have sg:=same_new hgd0 (.dT [])
 have FA0:=FA.same sg
 have ks1:=pk_keys FA.p1
 have ks2:=pk_keys FA.p2
 have h64:(m1.map (·.1)).length < 64:=by rw [List.length_map];omega
 have h642:(m2.map (·.1)).length < 64:=by rw [List.length_map];omega
 have zl:(keysL m1).length≤16:=by rw [srt_len,List.length_map];exact l1
 have zl2:(keysL m2).length≤16:=by rw [srt_len,List.length_map];exact l2
 have getK:∀z∈keysL m1,∃v k,valV kv1 (.inr z)=some v∧look m1 z=some k∧KdAt K H v k:=fun z hz=>by
  obtain⟨k,hk⟩:=look_ex (srt_mem.mp hz)
  rcases look_val FA.p1 z with ⟨_,h2⟩|h
  ·rw [hk] at h2
   cases h2
  ·exact h
 have getF:∀z∈keysL m2,∃v k,valV kv2 (.inr z)=some v∧look m2 z=some k∧FunAt K H v k:=fun z hz=>by
  obtain⟨k,hk⟩:=look_ex (srt_mem.mp hz)
  rcases look_val FA.p2 z with ⟨_,h2⟩|h
  ·rw [hk] at h2
   cases h2
  ·exact h
 refine⟨_,rfl,fa,CF,dx,fs,_,rfl,FA0.obj,cF,nK,FA0.fk,d1,kv1,_,rfl,FA0.h1,ks1,h64,fun l hl=>?_⟩
 have sl:=same_new hl (.lst ((keysL m1).map V.str))
 have ngl:gd≠l:=fun e=>by rw [←e,upd_same] at hl;cases hl
 have hl0:H l=none:=sg.free hl
 refine⟨l,rfl,⟨_,SqL.of upd_same⟩,for_list (K:=K) (xs:=(keysL m1).map V.str) (fun i σ H3=>∃(x2 x3:Option V) (kvs:List (List Key × V)),σ=[some (.ref fa),some (.ref gd),x2,x3,none,none]∧Same H H3∧H3 l=some (.lst ((keysL m1).map V.str))∧H3 gd=some (.dT kvs)∧PtAt K H3 kvs (lgivL m1 ((keysL m1).take i)))
  ⟨none,none,[],rfl,sg.trans sl,upd_same,sl _ _ upd_same,.nil⟩ ?_ ?_ ?_⟩
 ·rintro i σ H3 _ ⟨_,_,_,_,_,h,_⟩
  exact SqL.of h
 ·rintro i y σ H3 hy ⟨x2,x3,kvs,rfl,s3,hL3,hg3,hpt⟩
  rw [List.getElem?_map] at hy
  obtain⟨z,hz,rfl⟩:=Option.map_eq_some_iff.mp hy
  obtain⟨nd,ln⟩:=lgivL_ok (m:=m1) (keysL m1) i
  obtain⟨v,k,hv,hk,hkd⟩:=getK z (List.mem_of_getElem? hz)
  have hi:i < (keysL m1).length:=(List.getElem?_eq_some_iff.mp hz).1
  have FA3:=FA.same s3
  have pl:=pt_len hpt
  rw [lgivL_take hz]
  refine⟨_,rfl,fa,CF,dx,fs,_,rfl,FA3.obj,cF,nK,FA3.fk,_,rfl,d1,v,rfl,?_,?_⟩
  ·rw [←hv]
   exact DGet.k (k:=.inr z) FA3.h1
  replace hkd:=hkd.same s3
  cases hkd with
  |@num p m t =>
   refine⟨_,rfl,_,_,_,_,rfl,rfl,t,(show atI [V.str "num",.int m] 0=some (.str "num") from rfl),rfl,_,rfl,ite2 (fun c=>absurd c (by decide +kernel)) (fun _=>iteF ?_)⟩
   rw [lstep_num hk]
   exact⟨_,_,kvs,rfl,s3,hL3,hg3,hpt⟩
  |@pair p y z' a b t ha hb =>
   refine⟨_,rfl,_,_,_,_,rfl,rfl,t,(show atI [V.str "pair",y,z'] 0=some (.str "pair") from rfl),rfl,_,rfl,ite2 (fun c=>absurd c (by decide +kernel)) (fun _=>iteF ?_)⟩
   rw [lstep_pair hk]
   exact⟨_,_,kvs,rfl,s3,hL3,hg3,hpt⟩
  |@name p a b t =>
   refine⟨_,rfl,_,_,_,_,rfl,rfl,t,(show atI [V.str "name",.str a,.str b] 0=some (.str "name") from rfl),rfl,_,rfl,ite2 (fun _=>?_) (fun c=>absurd (by decide +kernel) c)⟩
   refine⟨_,rfl,_,_,_,_,rfl,rfl,t,(show atI [V.str "name",.str a,.str b] 1=some (.str a) from rfl),rfl,_,rfl,ite2 (fun c=>?_) (fun c=>?_)⟩
   ·have e:a="":=V.str.inj (of_decide_eq_true c)
    subst e
    rw [lstep_name hk]
    refine⟨_,rfl,gd,rfl,.inr ⟨kvs,.inl hg3⟩,_,rfl,_,_,_,_,rfl,rfl,t,(show atI [V.str "name",.str "",.str b] 2=some (.str b) from rfl),(by show 2≤sizeLine;decide),fun c2 hc2=>?_⟩
    have sc:=same_new hc2 (.tup [.str "",.str b])
    refine⟨_,rfl,z,rfl,fun H5 x s5 hx=>?_⟩
    have s35:=sc.trans s5
    have hg5:=s35 _ _ hg3
    refine⟨kvs,keyN ("",b),c2,hg5,rfl,s5 _ _ upd_same,Nat.lt_of_lt_of_le (Nat.lt_succ_self _) (small (by omega)),?_⟩
    rcases pt_val hpt ("",b) with ⟨h1,h2⟩|⟨v',k',h1,_,h3,h4⟩
    ·have no:look (lgivL m1 ((keysL m1).take i)) b=none:=by
      cases hh:look (lgivL m1 ((keysL m1).take i)) b with
      |none=>rfl
      |some k=>exact absurd (List.mem_map.mpr ⟨_,look_in hh,rfl⟩) (h2 rfl)
     rw [if_pos no]
     have kp:∀a xs,SqT K H5 a xs→SqT K (upd H5 gd (.dT (putK kvs (keyN ("",b)) x))) a xs:=fun a xs t=>by
      rcases t with (t|⟨o',t⟩)|t
      ·exact .inl (.inl (by rw [upd_ne (fun e=>by rw [e,hg5] at t;cases t)];exact t))
      ·exact .inl (.inr ⟨o',by rw [upd_ne (fun e=>by rw [e,hg5] at t;cases t)];exact t⟩)
      ·exact .inr t
     refine .inr ⟨h1,_,_,_,rfl,sput (s3.trans s35) hgd0,by rw [upd_ne (Ne.symm ngl)];exact s35 _ _ hL3,upd_same,?_⟩
     exact pt_put (hpt.keep fun a xs t=>kp a xs (s35.tup t)) (look_none no) (kd_keep kp hx)
    ·have yes:¬look (lgivL m1 ((keysL m1).take i)) b=none:=fun e=>by
      rw [in_look nd h3] at e
      cases e
     rw [if_neg yes]
     exact .inl ⟨v',h1,_,_,kvs,rfl,s3.trans s35,s35 _ _ hL3,hg5,hpt.same s35⟩
   ·have e:a≠"":=fun z=>c (decide_eq_true (by rw [z]))
    rw [lstep_far hk e]
    exact⟨_,_,kvs,rfl,s3,hL3,hg3,hpt⟩
 ·rintro σ H3 ⟨x2,x3,kvs,rfl,s3,hL3,hg3,hpt⟩
  have gnd:=(lgivL_ok (m:=m1) (keysL m1) (keysL m1).length).1
  rw [List.length_map] at hpt
  rw [List.take_length] at hpt gnd
  replace hpt:PtAt K H3 kvs (lgiv m1):=hpt
  replace gnd:((lgiv m1).map (·.1)).Nodup:=gnd
  have hG:=pt_own hpt gnd
  have FA3:=FA.same s3
  refine⟨_,rfl,fa,CF,dx,fs,_,rfl,FA3.obj,cF,nK,FA3.fk,d1,kv1,_,rfl,FA3.h1,ks1,h64,fun l4 hl4=>?_⟩
  have s4:=same_new hl4 (.lst ((keysL m1).map V.str))
  have hL4:upd H3 l4 (.lst ((keysL m1).map V.str)) l4=some (.lst ((keysL m1).map V.str)):=upd_same
  generalize upd H3 l4 (.lst ((keysL m1).map V.str))=H4 at s4 hL4 ⊢
  refine⟨l4,rfl,⟨_,SqL.of hL4⟩,?_⟩
  refine comp_by (xs:=(keysL m1).map V.str) (fun j us H5=>Same H4 H5∧Dats K H5 us (((keysL m1).take j).map (rowKD (lgiv m1) m1))∧us.length=j) ⟨Same.refl _,.nil,rfl⟩ (by rw [List.length_map];exact small (by omega)) ?_ ?_ ?_ ?_ ?_ ?_
  ·rintro j us H5 ⟨_,_,h⟩
   exact Nat.le_of_eq h
  ·rintro j u us H5 hu ⟨s5,_⟩
   exact⟨_,_,SqL.of (s5 _ _ hL4),hu⟩
  ·rintro j us u H5 H' hn ⟨s5,_⟩ hy
   exact⟨hy.1,hy.2 _ (SqL.of (s5 _ _ hL4))⟩
  ·rintro us H5 ⟨s5,_⟩
   exact⟨_,SqL.of (s5 _ _ hL4),Nat.le_refl _⟩
  ·rintro j u us H5 N hN hu ⟨s5,hus,hz⟩
   rw [List.getElem?_map] at hu
   obtain⟨z,hz',rfl⟩:=Option.map_eq_some_iff.mp hu
   obtain⟨v,k,hv,hk,hkd⟩:=getK z (List.mem_of_getElem? hz')
   have s45:=s4.trans s5
   have s05:=s3.trans s45
   have FA5:=FA.same s05
   refine⟨rfl,tYes_go ⟨_,rfl,_,rfl,fa,CF,dx,fs,_,rfl,FA5.obj,cF,nK,FA5.fk,_,rfl,d1,v,rfl,?_,_,rfl,v,gd,k,kvs,ownG (lgiv m1),rfl,hkd.same s05,dp1 _ (look_in hk),s45 _ _ hg3,hG.same s45,fun H6 v6 s6 hv6=>⟨(by show 2≤sizeLine;decide),fun p hp=>hN _ _ ⟨s5.trans (s6.trans (same_new hp _)),?_,?_⟩⟩⟩⟩
   ·rw [←hv]
    exact DGet.k (k:=.inr z) FA5.h1
   ·have e:((keysL m1).take (j+1)).map (rowKD (lgiv m1) m1)=((keysL m1).take j).map (rowKD (lgiv m1) m1)++[rowKD (lgiv m1) m1 z]:=by
     rw [List.take_add_one,hz']
     simp
    rw [e]
    have s7:=same_new hp (.tup [.str z,v6])
    refine dats_snoc (hus.same (s6.trans s7)) ?_
    have er:rowKD (lgiv m1) m1 z=.tuple [.str z,Kd.dat (Kd.put (ownG (lgiv m1)) k)]:=by
     unfold rowKD
     rw [hk]
     rfl
    rw [er]
    exact .tup (SqT.of upd_same) (.cons (.str _) (.cons (kd_dat (hv6.same s7)) .nil))
   ·rw [List.length_append,hz]
    rfl
  ·rintro us H5 D ⟨s5,hus,hz⟩ hD
   have eA:(keysL m1).take ((keysL m1).map V.str).length=keysL m1:=by rw [List.length_map];exact List.take_length
   rw [eA] at hus
   have e1:=same_new hD (.lst us)
   have hD':upd H5 D (.lst us) D=some (.lst us):=upd_same
   have hus':=hus.same e1
   have s36:=s4.trans (s5.trans e1)
   generalize upd H5 D (.lst us)=H6 at e1 hD' hus' s36 ⊢
   have s06:=s3.trans s36
   have FA6:=FA.same s06
   refine⟨_,rfl,fa,CF,dx,fs,_,rfl,FA6.obj,cF,nF,FA6.ff,d2,kv2,_,rfl,FA6.h2,ks2,h642,fun l7 hl7=>?_⟩
   have s7:=same_new hl7 (.lst ((keysL m2).map V.str))
   have hL7:upd H6 l7 (.lst ((keysL m2).map V.str)) l7=some (.lst ((keysL m2).map V.str)):=upd_same
   generalize upd H6 l7 (.lst ((keysL m2).map V.str))=H7 at s7 hL7 ⊢
   refine⟨l7,rfl,⟨_,SqL.of hL7⟩,?_⟩
   refine comp_by (xs:=(keysL m2).map V.str) (fun j ws H8=>Same H7 H8∧Dats K H8 ws (((keysL m2).take j).map (rowFD (lgiv m1) m2))∧ws.length=j) ⟨Same.refl _,.nil,rfl⟩ (by rw [List.length_map];exact small (by omega)) ?_ ?_ ?_ ?_ ?_ ?_
   ·rintro j ws H8 ⟨_,_,h⟩
    exact Nat.le_of_eq h
   ·rintro j u ws H8 hu ⟨s8,_⟩
    exact⟨_,_,SqL.of (s8 _ _ hL7),hu⟩
   ·rintro j ws u H8 H' hn ⟨s8,_⟩ hy
    exact⟨hy.1,hy.2 _ (SqL.of (s8 _ _ hL7))⟩
   ·rintro ws H8 ⟨s8,_⟩
    exact⟨_,SqL.of (s8 _ _ hL7),Nat.le_refl _⟩
   ·rintro j u ws H8 N hN hu ⟨s8,hws,hz8⟩
    rw [List.getElem?_map] at hu
    obtain⟨z,hz',rfl⟩:=Option.map_eq_some_iff.mp hu
    obtain⟨v,fn,hv,hk,hfn⟩:=getF z (List.mem_of_getElem? hz')
    obtain⟨fl4,fdp'⟩:=dp2 _ (look_in hk)
    have s38:=s36.trans (s7.trans s8)
    have s08:=s3.trans s38
    have FA8:=FA.same s08
    obtain⟨pp,ta,x,xs,rfl,f1,f2,f3,f4⟩:=hfn
    refine⟨rfl,tYes_go ⟨_,rfl,(by show 1≤sizeLine;decide),fun p1 hp1=>?_⟩⟩
    have s9:=same_new hp1 (.tup [.str z])
    have s09:=s08.trans s9
    have FA9:=FA.same s09
    refine⟨_,rfl,fa,CF,dx,fs,_,rfl,FA9.obj,cF,nF,FA9.ff,_,rfl,d2,.ref pp,rfl,?_,_,rfl,pp,gd,ta,x,xs,fn.1,fn.2,kvs,ownG (lgiv m1),rfl,s09.tup f1,s09.tup f2,f3.same s09,f4.same s09,fun k hk=>fdp' k (.tail _ hk),fdp' _ (.head _),Nat.le_trans fl4 (by decide),(s38.trans s9) _ _ hg3,hG.same (s38.trans s9),fun H10 p4 ta4 xs4 x4 s10 v1 v2 v3 v4=>?_⟩
    ·rw [←hv]
     exact DGet.k (k:=.inr z) FA9.h2
    refine⟨p1,p4,[.str z],[.ref ta4,x4],rfl,rfl,SqT.of (s10 _ _ upd_same),SqT.of v1,(by intro z;cases z),(by show 1+2≤sizeLine;decide),fun p11 H11 s11 h11=>hN _ _ ⟨s8.trans (s9.trans (s10.trans s11)),?_,?_⟩⟩
    ·have e:((keysL m2).take (j+1)).map (rowFD (lgiv m1) m2)=((keysL m2).take j).map (rowFD (lgiv m1) m2)++[rowFD (lgiv m1) m2 z]:=by
      rw [List.take_add_one,hz']
      simp
     rw [e]
     refine dats_snoc (hws.same (s9.trans (s10.trans s11))) ?_
     have er:rowFD (lgiv m1) m2 z=.tuple [.str z,.tuple ((putFn (ownG (lgiv m1)) fn).1.map Kd.dat),Kd.dat (putFn (ownG (lgiv m1)) fn).2]:=by
      unfold rowFD
      rw [hk]
      rfl
     rw [er]
     exact .tup h11 (.cons (.str _) (.cons (.tup (s11.tup (SqT.of v2)) (kds_dat (v3.same s11))) (.cons (kd_dat (v4.same s11)) .nil)))
    ·rw [List.length_append,hz8]
     rfl
   ·rintro ws H8 D8 ⟨s8,hws,hz8⟩ hD8
    have eB:(keysL m2).take ((keysL m2).map V.str).length=keysL m2:=by rw [List.length_map];exact List.take_length
    rw [eB] at hws
    have e8:=same_new hD8 (.lst ws)
    have s69:=s7.trans (s8.trans e8)
    refine⟨_,rfl,D,us,rfl,.inl ⟨SqL.of (s69 _ _ hD'),fun t1 ht1=>?_⟩⟩
    have e9:=same_new ht1 (.tup us)
    refine⟨_,rfl,D8,ws,rfl,.inl ⟨SqL.of (e9 _ _ upd_same),fun t2 ht2=>?_⟩⟩
    have e10:=same_new ht2 (.tup ws)
    refine⟨(by show 2≤sizeLine;decide),fun t3 ht3=>?_⟩
    have e11:=same_new ht3 (.tup [.ref t1,.ref t2])
    have sZ:=s69.trans (e9.trans (e10.trans e11))
    exact q _ _ (s06.trans sZ) (.tup (SqT.of upd_same) (.cons (.tup (SqT.of ((e10.trans e11) _ _ upd_same)) (hus'.same sZ)) (.cons (.tup (SqT.of (e11 _ _ upd_same)) (hws.same (e8.trans (e9.trans (e10.trans e11))))) .nil)))
end
end K27
namespace L2
open PySem PySem.Spec PyProof.Rows
theorem op_fdivM{X:Cx}:OpR X (binaryOp .FloorDiv) (rI (fun _ j=>0 < j∧j≤10 ^ 18) fun i j=>.int (i / j)):=opI fun i j _ _ _ _ _ hc q=>by
 have h1:(0:Int) < j:=hc.1
 have h2:j≤10 ^ 18:=hc.2
 refine floordiv_int (by omega) (by rw [Int.fdiv_eq_ediv_of_nonneg i (by omega)];exact q) (.inl (PyProof.noPylong_of_log2 ?_))
 have h64:j.natAbs.log2 < 64:=(Nat.log2_lt (by omega)).mpr (by
  have:j.natAbs≤10 ^ 18:=by omega
  exact Nat.lt_of_le_of_lt this (by decide))
 omega
end L2
namespace K27
open PySem L2 Kk
def zo(H:Hp)(S:List Addr):Hp:=fun b=>if b∈S then none else H b
theorem zo_ne{H:Hp}{S:List Addr}{b:Addr}(h:b∉S):zo H S b=H b:=if_neg h
theorem zo_at{H:Hp}{S:List Addr}{b:Addr}(h:b∈S):zo H S b=none:=if_pos h
theorem zo_same{H:Hp}{S:List Addr}:Same (zo H S) H:=fun b u q=>by
 by_cases e:b∈S
 ·rw [zo_at e] at q;cases q
 ·rw [zo_ne e] at q;exact q
theorem zo_mono{H H':Hp}{S:List Addr}(s:Same H H'):Same (zo H S) (zo H' S):=fun b u q=>by
 by_cases e:b∈S
 ·rw [zo_at e] at q;cases q
 ·rw [zo_ne e] at q ⊢;exact s _ _ q
theorem zo_upd{H:Hp}{S:List Addr}{a:Addr}{o:HO}(h:a∈S):zo (upd H a o) S=zo H S:=by
 funext b
 by_cases e:b∈S
 ·rw [zo_at e,zo_at e]
 ·rw [zo_ne e,zo_ne e,upd_ne (fun z:b=a=>e (by rw [z];exact h))]
theorem zo_sub{H H':Hp}{S T:List Addr}(h:∀b∈S,b∈T)(s:Same (zo H S) (zo H' S)):Same (zo H T) (zo H' T):=fun b u q=>by
 by_cases e:b∈T
 ·rw [zo_at e] at q;cases q
 ·have e':b∉S:=fun z=>e (h b z)
  rw [zo_ne e] at q ⊢
  have:=s b u (by rw [zo_ne e'];exact q)
  rw [zo_ne e'] at this
  exact this
abbrev Kt(K:PySem.W.Frag)(H H':Hp):Prop:=∀a xs,SqT K H a xs→SqT K H' a xs
abbrev DL(H:Hp)(d:Addr):Prop:=∃a b:Int,H d=some (.lst [.int a,.int b])
structure Go(d:Addr)(H H':Hp):Prop where
 s:Same (zo H [d]) (zo H' [d])
 d:DL H' d
theorem Go.refl{d:Addr}{H:Hp}(h:DL H d):Go d H H:=⟨Same.refl _,h⟩
theorem Go.trans{d:Addr}{H H1 H2:Hp}(a:Go d H H1)(b:Go d H1 H2):Go d H H2:=⟨a.s.trans b.s,b.d⟩
theorem Go.at{d:Addr}{H H':Hp}(g:Go d H H'){b:Addr}{o:HO}(n:b≠d)(h:H b=some o):H' b=some o:=by
 have n':b∉[d]:=by simpa using n
 have:=g.s b o (by rw [zo_ne n'];exact h)
 rw [zo_ne n'] at this
 exact this
theorem Go.of{d:Addr}{H H':Hp}(h:DL H d)(s:Same H H'):Go d H H':=⟨zo_mono s,let ⟨a,b,e⟩:=h;⟨a,b,s _ _ e⟩⟩
theorem Go.new{d p:Addr}{H:Hp}(h:DL H d)(hp:H p=none)(o:HO):Go d H (upd H p o):=.of h (same_new hp o)
theorem Go.upd{d:Addr}{H:Hp}{a b:Int}:Go d H (upd H d (.lst [.int a,.int b])):=⟨by rw [zo_upd (by simp)];exact Same.refl _,_,_,upd_same⟩
theorem Go.kt{K:PySem.W.Frag}{d:Addr}{H H':Hp}(h:DL H d)(g:Go d H H'):Kt K H H':=fun a xs t=>by
 obtain⟨x,y,e⟩:=h
 rcases t with (t|⟨o',t⟩)|t
 ·exact .inl (.inl (g.at (fun z=>by rw [z,e] at t;cases t) t))
 ·exact .inl (.inr ⟨o',g.at (fun z=>by rw [z,e] at t;cases t) t⟩)
 ·exact .inr t
theorem dl_ne{d b:Addr}{H:Hp}{o:HO}(h:DL H d)(e:H b=some o)(n:∀ys,o≠.lst ys):b≠d:=fun z=>by
 obtain⟨x,y,e'⟩:=h
 rw [z,e'] at e
 exact n _ (Option.some.inj e).symm
theorem Go.free{d b:Addr}{H H':Hp}(g:Go d H H')(h:H' b=none):H b=none:=by
 cases e:H b with
 |none=>rfl
 |some o =>
  obtain⟨x,y,e'⟩:=g.d
  have n:b≠d:=fun z=>by rw [z,e'] at h;cases h
  rw [g.at n e] at h
  cases h
theorem Go.nd{d b:Addr}{H H':Hp}(g:Go d H H')(h:H' b=none):b≠d:=fun z=>by
 obtain⟨x,y,e'⟩:=g.d
 rw [z,e'] at h;cases h
def spDeal(K:PySem.W.Frag):Sp:=fun vs H Q _=>∃(a:Addr) (ns:List Int) (k:Int),vs=[.ref a,.int k]∧SqL K H a (ns.map V.int)∧ns.length≤63∧0≤k∧k≤1000∧∀H' d,Same H H'→H d=none→DL H' d→Q (.ref d) H'
def spDraw:Sp:=fun vs H Q _=>∃(d:Addr) (m:Int),vs=[.ref d,.int m]∧DL H d∧0 < m∧m≤10 ^ 18∧∀(H':Hp) (r:Int),Go d H H'→0≤r→r < m→Q (.int r) H'
theorem at0{α:Type}{x:α}{xs:List α}:atI (x::xs) 0=some x:=atI_nat (j:=0) rfl
theorem at1{α:Type}{x y:α}{xs:List α}:atI (x::y::xs) 1=some y:=atI_nat (j:=1) rfl
theorem at2{α:Type}{x y z:α}{xs:List α}:atI (x::y::z::xs) 2=some z:=atI_nat (j:=2) rfl
theorem md_small{x:Int}{m:Int}(h0:0 < m)(h1:m≤2 ^ 31):-(2 ^ 64) < x%m∧x%m < 2 ^ 64:=by
 have:=Int.emod_nonneg x (show m≠0 by omega)
 have:=Int.emod_lt_of_pos x h0
 omega
section
variable{P:Program}{w:World}{K:PySem.W.Frag}{mg:Str→Option Value}{base:Heap}
theorem scDeal:FnScope ["_law_script","_law_k","_law_number","_law_mixed"] ["_law_script","_law_k"] (defScope sDeal):=⟨rfl,rfl,rfl,by decide +kernel,rfl,by decide +kernel,by decide +kernel⟩
set_option maxHeartbeats 0 in
theorem ok_deal{f:Addr}{fd:FuncData} (F:Fun K "_law_deal" "_law_deal" sDeal f fd) (ml:mg "len"=none):FnOk P w K mg base CX0 1 f fd ["_law_script","_law_k"] (spDeal K):=by
 refine F.ok scDeal (fun vs H Q E h=>?_) (fun cdv A outer s H vs Q E hr h=>?_)
 ·obtain⟨_,_,_,rfl,_⟩:=h
  rfl
 obtain⟨a,ns,k,rfl,hS,h63,k0,k1,q⟩:=h
 have hl:(ns.map V.int).length=ns.length:=List.length_map _
 obtain⟨t4,d4,q4⟩:∃t,PSs (cxOf CX0 P w K mg base ["_law_script","_law_k","_law_number","_law_mixed"] "_law_deal" (defScope sDeal) f cdv A outer s H E).nox (List.drop 3 (defBody sDeal)) t ∧
   ∀x y:Int,t { nx:=fun _ H'=>Q .non H',rt:=Q } [some (.ref a),some (.int k),some (.int x),some (.int y)] H:=by
  refine⟨_,@pss_cons _ _ _ _ _ (ps_if (PW.pt (pw_and (pt_cmpR op_lt (pv 1) (pe_callB call_len_seq rfl ml PySem.boot_len (@pa_cons _ _ _ _ _ (pv 0) pa_nil rfl)) (nomark _)) (pw_and1 (pt_cmpR op_eq (pv 3) pe_int (nomark _))))) (@pss_one _ _ _ (ps_set (i:=2) scDeal.nd rfl (Or.inl rfl) (pe_ix ix_list (pv 0) (pv 1) (fun _ _=>rfl)))) pss_nil) (@pss_one _ _ _ (@ps_ret _ _ _ _ (pe_lst (@pa_cons _ _ _ _ _ (pv 3) (@pa_cons _ _ _ _ _ (pv 2) pa_nil rfl) rfl)))),fun x y=>?_⟩
  have fin:∀x:Int,∀l,H l=none→Q (.ref l) (upd H l (.lst [.int y,.int x])):=fun x l hl=>q _ _ (same_new hl _) hl ⟨_,_,upd_same⟩
  refine⟨_,rfl,_,rfl,a,_,rfl,.inl hS,_,_,rfl,rfl,_,rfl,ite2 (fun c=>?_) (fun _=>?_)⟩
  ·refine⟨_,rfl,rfl,_,rfl,ite2 (fun _=>?_) (fun _=>?_)⟩
   ·have c':k < (((ns.map V.int).length:Nat):Int):=of_decide_eq_true c
    rw [hl] at c'
    obtain⟨v,hv⟩:=at_int k0 c'
    exact⟨_,rfl,_,rfl,a,_,_,_,rfl,rfl,hS,hv,_,rfl,_,rfl,(by show 2≤sizeLine;decide),fun l hl=>fin _ l hl⟩
   ·exact⟨_,rfl,_,rfl,(by show 2≤sizeLine;decide),fun l hl=>fin _ l hl⟩
  ·exact⟨_,rfl,_,rfl,(by show 2≤sizeLine;decide),fun l hl=>fin _ l hl⟩
 refine⟨_,@pss_cons _ _ _ _ _ (ps_set (i:=2) scDeal.nd rfl (Or.inl rfl) (pe_op op_add (pe_op op_mul pe_int (pv 1)) pe_int)) (@pss_cons _ _ _ _ _ (ps_set (i:=3) scDeal.nd rfl (Or.inl rfl) pe_int) (@pss_cons _ _ _ _ _ (ps_if (pt_cmpR op_gt (pe_callB call_len_seq rfl ml PySem.boot_len (@pa_cons _ _ _ _ _ (pv 0) pa_nil rfl)) pe_int (nomark _)) (@pss_cons _ _ _ _ _ (ps_set (i:=2) scDeal.nd rfl (Or.inl rfl) (pe_op op_add (pe_op op_mul (pe_ix ix_list (pv 0) (pe_op op_mod (pv 1) (pe_callB call_len_seq rfl ml PySem.boot_len (@pa_cons _ _ _ _ _ (pv 0) pa_nil rfl))) (fun _ _=>rfl)) pe_int) (pe_op op_mul (pe_op op_mul pe_int (pv 1)) (pv 1)))) (@pss_one _ _ _ (ps_set (i:=3) scDeal.nd rfl (Or.inl rfl) (pe_op op_mod (pe_ix ix_list (pv 0) pe_int (fun _ _=>rfl)) pe_int)))) pss_nil) d4)),?_⟩
 refine⟨_,rfl,_,_,rfl,rfl,.inl ⟨by decide,by decide⟩,_,_,rfl,rfl,?_⟩
 refine⟨_,rfl,a,_,rfl,.inl hS,_,_,rfl,rfl,_,rfl,ite2 (fun c=>?_) (fun _=>q4 _ _)⟩
 have c':(0:Int) < (((ns.map V.int).length:Nat):Int):=of_decide_eq_true c
 rw [hl] at c'
 obtain⟨v,hv⟩:=at_int (ns:=ns) (i:=k%(ns.length:Int)) (Int.emod_nonneg _ (by omega)) (Int.emod_lt_of_pos _ c')
 obtain⟨u,hu⟩:=at_int (ns:=ns) (i:=0) (by decide) (by omega)
 have hv':atI (ns.map V.int) (k%(((ns.map V.int).length:Nat):Int))=some (.int v):=by rw [hl];exact hv
 refine⟨_,rfl,_,rfl,_,rfl,a,_,rfl,.inl hS,_,_,rfl,rfl,(by show(0:Int) < _;rw [hl];exact c'),a,_,_,_,rfl,rfl,hS,hv',_,_,rfl,rfl,.inr ⟨by decide,by decide⟩,_,rfl,_,_,rfl,rfl,.inl ⟨by decide,by decide⟩,_,rfl,_,_,rfl,rfl,.inr ⟨by omega,by omega⟩,_,_,rfl,rfl,?_⟩
 exact⟨_,rfl,a,_,_,_,rfl,rfl,hS,hu,_,_,rfl,rfl,(by show(0:Int) < 2;decide),q4 _ _⟩
theorem scDraw:FnScope ["_law_deal_here","_law_many","_law_number","_law_one","_law_two"] ["_law_deal_here","_law_many"] (defScope sDraw):=⟨rfl,rfl,rfl,by decide +kernel,rfl,by decide +kernel,by decide +kernel⟩
theorem ix1{n:Nat}:ixN (n+2) 1=some 1:=by
 unfold ixN
 rw [if_pos (by decide),if_pos (by omega)]
 rfl
set_option maxHeartbeats 0 in
theorem ok_draw{f:Addr}{fd:FuncData} (F:Fun K "_law_draw" "_law_draw" sDraw f fd):FnOk P w K mg base CX0 1 f fd ["_law_deal_here","_law_many"] spDraw:=by
 refine F.ok scDraw (fun vs H Q E h=>?_) (fun cdv A outer s H vs Q E hr h=>?_)
 ·obtain⟨_,_,rfl,_⟩:=h
  rfl
 obtain⟨d,m,rfl,⟨a,b,hd⟩,m0,m1,q⟩:=h
 obtain⟨t2,d2,q2⟩:∃t,PSs (cxOf CX0 P w K mg base ["_law_deal_here","_law_many","_law_number","_law_one","_law_two"] "_law_draw" (defScope sDraw) f cdv A outer s H E).nox (List.drop 2 (defBody sDraw)) t ∧
   ∀x y z:Option V,t { nx:=fun _ H'=>Q .non H',rt:=Q } [some (.ref d),some (.int m),some (.int b),x,y] H:=by
  refine⟨_,@pss_cons _ _ _ _ _ (ps_set (i:=2) scDraw.nd rfl (Or.inl rfl) (pe_op op_mod (pe_op op_add (pe_op op_mul (pv 2) pe_int) pe_int) pe_int)) (@pss_cons _ _ _ _ _ (ps_asg (pe_op op_mod (pe_op op_add (pe_op op_mul (pv 2) pe_int) pe_int) pe_int) (pg_sub (pv 0) pe_int set_list)) (@pss_cons _ _ _ _ _ (ps_set (i:=3) scDraw.nd rfl (Or.inl rfl) (pe_op op_mod (pe_op op_mul (pv 2) (pv 2)) pe_int)) (@pss_cons _ _ _ _ _ (ps_set (i:=4) scDraw.nd rfl (Or.inl rfl) (pe_op op_mod (pe_op op_mul (pe_ix ix_list (pv 0) pe_int (fun _ _=>rfl)) (pe_ix ix_list (pv 0) pe_int (fun _ _=>rfl))) pe_int)) (@pss_one _ _ _ (@ps_ret _ _ _ _ (pe_op op_mod (pe_op op_add (pe_op op_mul (pv 3) pe_int) (pv 4)) (pv 1))))))),fun x y z=>?_⟩
  have hb:=md_small (x:=b*48271+7919) (m:=2147483647) (by decide) (by decide)
  refine⟨_,rfl,_,_,rfl,rfl,.inr ⟨by decide,by decide⟩,_,_,rfl,rfl,_,_,rfl,rfl,(by show(0:Int) < 2147483647;decide),?_⟩
  refine⟨_,rfl,_,_,rfl,rfl,.inr ⟨by decide,by decide⟩,_,_,rfl,rfl,_,_,rfl,rfl,(by show(0:Int) < 2147483399;decide),?_⟩
  refine⟨_,rfl,d,_,1,1,rfl,rfl,hd,ix1,?_⟩
  generalize (b*48271+7919)%2147483647=n at hb ⊢
  have hc:=md_small (x:=n*40692+104729) (m:=2147483399) (by decide) (by decide)
  generalize (n*40692+104729)%2147483399=c at hc ⊢
  have h5:upd H d (.lst [.int a,.int c]) d=some (.lst [.int a,.int c]):=upd_same
  show _
  refine⟨_,rfl,_,rfl,_,_,rfl,rfl,.inl hb,_,_,rfl,rfl,(by show(0:Int) < 2147483629;decide),?_⟩
  refine⟨_,rfl,d,_,_,_,rfl,rfl,SqL.of h5,at1,_,rfl,d,_,_,_,rfl,rfl,SqL.of h5,at1,_,_,rfl,rfl,.inl hc,_,_,rfl,rfl,(by show(0:Int) < 2147483563;decide),?_⟩
  refine⟨_,rfl,_,_,rfl,rfl,.inr ⟨by decide,by decide⟩,_,rfl,_,_,rfl,rfl,_,rfl,_,_,rfl,rfl,m0,?_⟩
  exact q _ _ Go.upd (Int.emod_nonneg _ (by omega)) (Int.emod_lt_of_pos _ m0)
 refine⟨_,@pss_cons _ _ _ _ _ (ps_set (i:=2) scDraw.nd rfl (Or.inl rfl) (pe_ix ix_list (pv 0) pe_int (fun _ _=>rfl))) (@pss_cons _ _ _ _ _ (ps_if (pt_cmpR op_eq (pe_ix ix_list (pv 0) pe_int (fun _ _=>rfl)) pe_int (nomark _)) (@pss_cons _ _ _ _ _ (ps_asg (pe_op op_fdivM (pv 2) (pv 1)) (pg_sub (pv 0) pe_int set_list)) (@pss_one _ _ _ (@ps_ret _ _ _ _ (pe_op op_mod (pv 2) (pv 1))))) pss_nil) d2),?_⟩
 refine⟨_,rfl,d,_,_,_,rfl,rfl,SqL.of hd,at1,?_⟩
 refine⟨_,rfl,d,_,_,_,rfl,rfl,SqL.of hd,at0,rfl,_,rfl,ite2 (fun _=>?_) (fun _=>q2 none none none)⟩
 refine⟨_,rfl,_,rfl,_,_,rfl,rfl,⟨m0,m1⟩,_,rfl,d,_,1,1,rfl,rfl,hd,ix1,?_⟩
 exact⟨_,rfl,_,rfl,_,_,rfl,rfl,m0,q _ _ Go.upd (Int.emod_nonneg _ (by omega)) (Int.emod_lt_of_pos _ m0)⟩
end
end K27
namespace K27
open PySem L2 Kk
abbrev cs(z:Str):List Nat:=z.cps.toList
theorem cs_len(z:Str):z.length=(cs z).length:=by show z.cps.size=_;simp
def Chs(L:List Nat):Prop:=∀c∈L,97≤c∧c≤122
def VW(z:Str):Prop:=1≤z.length∧z.length≤12∧Chs (cs z)
theorem str_ext{a b:Str}(h:cs a=cs b):a=b:=by
 obtain⟨⟨x⟩⟩:=a
 obtain⟨⟨y⟩⟩:=b
 exact congrArg (fun l:List Nat=>Str.mk ⟨l⟩) h
theorem VW.sok{z:Str}(h:VW z):PyData.strOk z=true:=(sok_iff z).mpr fun c hc=>Nat.lt_of_le_of_lt (h.2.2 c hc).2 (by decide)
theorem cs_app(a b:Str):cs (a++b)=cs a++cs b:=by
 show(a.cps++b.cps).toList=_
 exact Array.toList_append
theorem fm_take(L:List Nat):∀j,j≤L.length→(List.range j).filterMap (fun i=>L[i]?)=L.take j
 |0,_=>rfl
 |j+1,h=>by
  rw [List.range_succ,List.filterMap_append,fm_take L j (by omega),List.take_add_one]
  simp [List.getElem?_eq_getElem (show j < L.length by omega)]
theorem fm_all(M:List Nat):(List.range M.length).filterMap (fun i=>M[i]?)=M:=by
 rw [fm_take M M.length (Nat.le_refl _),List.take_length]
theorem get_cs(z:Str)(i:Nat):z.cps[i]?=(cs z)[i]?:=by simp
theorem cs_to{z:Str}{j:Nat}(h:j≤z.length):cs (Txt.slice z none (some (j:Int)))=(cs z).take j:=by
 have h2:j≤(cs z).length:=by rw [←cs_len];exact h
 unfold Txt.slice
 rw [idx_to h,List.length_range]
 by_cases e:j=z.length
 ·rw [if_pos (by rw [e];simp),e,cs_len,List.take_length]
 ·rw [if_neg (by simpa using e)]
  show(List.filterMap (fun i=>z.cps[i]?) (List.range j)).toArray.toList=_
  have e2:(fun i=>z.cps[i]?)=fun i=>(cs z)[i]?:=funext fun i=>get_cs z i
  rw [e2,fm_take _ j h2]
theorem cs_from{z:Str}{j:Nat}(h:j≤z.length):cs (Txt.slice z (some (j:Int)) none)=(cs z).drop j:=by
 unfold Txt.slice
 rw [idx_from h,List.length_map,List.length_range]
 by_cases e:j=0
 ·rw [if_pos (by rw [e];simp),e,List.drop_zero]
 ·have hz:¬z.length - j=z.length:=by omega
  rw [if_neg (by simpa using hz)]
  show(List.filterMap (fun i=>z.cps[i]?) ((List.range (z.length - j)).map (j+·))).toArray.toList=_
  have e2:(fun i=>z.cps[i]?)=fun i=>(cs z)[i]?:=funext fun i=>get_cs z i
  rw [e2,List.filterMap_map]
  have e3:((fun i=>(cs z)[i]?)∘fun x=>j+x)=fun i=>((cs z).drop j)[i]?:=funext fun i=>by
   show(cs z)[j+i]?=_
   rw [List.getElem?_drop]
  rw [e3]
  have e4:z.length - j=((cs z).drop j).length:=by rw [List.length_drop,cs_len]
  rw [e4,fm_all]
theorem chs_rep{g:Nat}(h:97≤g∧g≤122):∀(n:Nat) (acc:Array Nat),Chs acc.toList→Chs ((List.replicate n #[g]).foldl (·++·) acc).toList
 |0,acc,ha=>ha
 |n+1,acc,ha=>by
  rw [List.replicate_succ,List.foldl_cons]
  refine chs_rep h n _ fun c hc=>?_
  rw [Array.toList_append] at hc
  rcases List.mem_append.mp hc with q|q
  ·exact ha c q
  ·rw [List.mem_singleton.mp (show c∈[g] from q)]
   exact h
theorem mul_vw{g:Nat}{n:Int}(h:97≤g∧g≤122)(n0:1≤n)(n1:n≤12):((Txt.mul ⟨#[g]⟩ n).length:Int)=n∧Chs (cs (Txt.mul ⟨#[g]⟩ n)):=by
 refine⟨?_,?_⟩
 ·have e:=PyProof.Rows.len_mul ⟨#[g]⟩ n
  rw [if_neg (by rw [decide_eq_true_iff];omega)] at e
  have e1:((Str.length ⟨#[g]⟩:Nat):Int)=1:=rfl
  rw [e1] at e
  omega
 ·unfold Txt.mul
  rw [if_neg (by omega)]
  split
  ·intro c hc
   rw [List.mem_singleton.mp (show c∈[g] from hc)]
   exact h
  ·exact chs_rep h _ _ fun c hc=>by simp at hc
abbrev lets:Str:="abcdefghijklmnopqrstuvwxyz"
theorem lets_get:∀i:Nat,i < 26→(cs lets)[i]?=some (97+i):=by decide +kernel
theorem lets_lt:lets.length≤sizeLine:=by decide +kernel
theorem lets_at{r:Int}(h0:0≤r)(h1:r < 26):∃g,atI (cs lets) r=some g∧97≤g∧g≤122∧(g:Int)=97+r:=by
 have e:r=((r.toNat:Nat):Int):=by omega
 have h:=lets_get r.toNat (by omega)
 refine⟨97+r.toNat,?_,by omega,by omega,by omega⟩
 rw [e]
 exact atI_nat (by rw [h];rfl)
theorem lets_ix:∀i:Nat,i < 26→(Builtin.Str.occurrences lets ⟨#[97+i]⟩ 0 lets.length 1)=[i]:=by decide +kernel
def rkL(L:List Nat):Nat:=(L.map (· - 96)).sum
abbrev rk(z:Str):Nat:=rkL (cs z)
theorem rkL_app(a b:List Nat):rkL (a++b)=rkL a+rkL b:=by
 unfold rkL
 rw [List.map_append,List.sum_append]
theorem rkL_le{L:List Nat}(h:Chs L):rkL L≤26*L.length:=by
 induction L with
 |nil=>exact Nat.le_refl _
 |cons c L ih =>
  have h1:=h c (.head _)
  have h2:=ih fun c hc=>h c (.tail _ hc)
  have e:rkL (c::L)=(c - 96)+rkL L:=rfl
  rw [e,List.length_cons]
  omega
theorem rkL_z{L:List Nat}(h:∀c∈L,c=122):rkL L=26*L.length:=by
 induction L with
 |nil=>rfl
 |cons c L ih =>
  have h1:=h c (.head _)
  have h2:=ih fun c hc=>h c (.tail _ hc)
  have e:rkL (c::L)=(c - 96)+rkL L:=rfl
  rw [e,List.length_cons,h2,h1]
  omega
theorem cut_at{L:List Nat}{i g:Nat}(h:L[i]?=some g):L=L.take i++([g]++L.drop (i+1)):=by
 have hi:i < L.length:=(List.getElem?_eq_some_iff.mp h).1
 conv=>lhs;rw [←List.take_append_drop i L]
 congr 1
 rw [List.drop_eq_getElem_cons hi,(List.getElem?_eq_some_iff.mp h).2]
 rfl
def stp(r:Nat):Nat:=if r=312 then 287 else r+1
def stpN(r:Nat):Nat→Nat
 |0=>r
 |n+1=>stp (stpN r n)
theorem stp_nd:∀r:Nat,r < 313→((List.range 25).map (stpN r)).Nodup:=by decide +kernel
theorem rk_lt{z:Str}(h:VW z):rk z < 313:=by
 have h1:=rkL_le h.2.2
 have h2:=h.2.1
 rw [cs_len] at h2
 show rkL (cs z) < 313
 omega
theorem come_out{z:Str}(h:VW z){ws:List Str}(hl:ws.length≤24):∃J:Nat,stpN (rk z) J∉ws.map rk:=by
 obtain⟨x,hx,hn⟩:=out_of (ws.map rk) _ (stp_nd (rk z) (rk_lt h)) (by rw [List.length_map,List.length_map,List.length_range];omega)
 obtain⟨J,_,rfl⟩:=List.mem_map.mp hx
 exact⟨J,hn⟩
def spWord:Sp:=fun vs H Q _=>∃(d:Addr),vs=[.ref d]∧DL H d∧∀H' z,Go d H H'→VW z→Q (.str z) H'
def spNext:Sp:=fun vs H Q _=>∃(z:Str),vs=[.str z]∧VW z∧∀H' z',Same H H'→VW z'→rk z'=stp (rk z)→Q (.str z') H'
def spWordsL(K:PySem.W.Frag):Sp:=fun vs H Q _=>∃(d:Addr) (m:Int),vs=[.ref d,.int m]∧DL H d∧0≤m∧m≤16∧∀H' l (ws:List Str),Go d H H'→H l=none→H' l=some (.lst (ws.map V.str))→(ws.length:Int)=m→ws.Nodup→(∀z∈ws,VW z)→Q (.ref l) H'
theorem mid_ok{z:Str}{g:Nat}{r:Int}(hz:Chs (cs z))(h0:0≤r)(h1:r < z.length)(hg:97≤g∧g≤122):(Txt.slice z none (some r)++⟨#[g]⟩++Txt.slice z (some (r+1)) none).length=z.length∧cs (Txt.slice z none (some r)++⟨#[g]⟩++Txt.slice z (some (r+1)) none)=(cs z).take r.toNat++([g]++(cs z).drop (r.toNat+1))∧Chs (cs (Txt.slice z none (some r)++⟨#[g]⟩++Txt.slice z (some (r+1)) none)):=by
 obtain⟨n,rfl⟩:∃n:Nat,r=n:=⟨r.toNat,by omega⟩
 have hn:n < z.length:=by omega
 have e1:((n:Int)+1)=((n+1:Nat):Int):=by omega
 have e:cs (Txt.slice z none (some (n:Int))++⟨#[g]⟩++Txt.slice z (some ((n:Int)+1)) none)=(cs z).take n++([g]++(cs z).drop (n+1)):=by
  rw [cs_app,cs_app,e1,cs_to (Nat.le_of_lt hn),cs_from (by omega),List.append_assoc]
 refine⟨?_,e,?_⟩
 ·rw [cs_len,e,List.length_append,List.length_append,List.length_take,List.length_drop,cs_len]
  rw [cs_len] at hn
  show min n _+(1+_)=_
  omega
 ·rw [e]
  intro c hc
  rcases List.mem_append.mp hc with q|q
  ·exact hz c (List.mem_of_mem_take q)
  ·rcases List.mem_append.mp q with q|q
   ·rw [List.mem_singleton.mp q];exact hg
   ·exact hz c (List.mem_of_mem_drop q)
section
variable{P:Program}{w:World}{K:PySem.W.Frag}{mg:Str→Option Value}{base:Heap}
theorem scWord:FnScope ["_law_deal_here","_law_letters","_law_size_here","_law_word_here","_law_k","_law_at","_law_sign"] ["_law_deal_here"] (defScope sWord):=⟨rfl,rfl,rfl,by decide +kernel,rfl,by decide +kernel,by decide +kernel⟩
set_option maxHeartbeats 0 in
theorem ok_word{f fD:Addr}{fd fdD:FuncData} (F:Fun K "_law_word" "_law_word" sWord f fd) (mr:mg "range"=none) (GD:FnOk P w K mg base CX0 1 fD fdD ["_law_deal_here","_law_many"] spDraw) (bD:Binds K fdD ["_law_deal_here","_law_many"] []) (kD:PySem.W.keepIn K (.ref fD)=true) (mD:mg "_law_draw"=some (.ref fD)):FnOk P w K mg base CX0 2 f fd ["_law_deal_here"] spWord:=by
 refine F.ok (k:=1) scWord (fun vs H Q E h=>?_) (fun cdv A outer s H vs Q E hrD h=>?_)
 ·obtain⟨_,rfl,_⟩:=h
  rfl
 obtain⟨d,rfl,hd,q⟩:=h
 obtain⟨t4,d4,k4⟩:∃t,PSs (cxOf CX0 P w K mg base ["_law_deal_here","_law_letters","_law_size_here","_law_word_here","_law_k","_law_at","_law_sign"] "_law_word" (defScope sWord) f cdv A outer s H E).nox (List.drop 4 (defBody sWord)) t ∧
   ∀(H1:Hp) (z:Str) (y1 y2 y4 y5 y6:Option V),Go d H H1→VW z→t { nx:=fun _ H'=>Q .non H',rt:=Q } [some (.ref d),y1,y2,some (.str z),y4,y5,y6] H1:=by
  refine⟨_,@pss_cons _ _ _ _ _ (ps_if (pt_cmpR op_in_seq (pv 3) (pe_lst (pa_strs [(_,_,_),(_,_,_),(_,_,_),(_,_,_),(_,_,_),(_,_,_),(_,_,_),(_,_,_),(_,_,_)]):PE _ _ _) (by with_unfolding_all rfl)) (@pss_one _ _ _ (@ps_ret _ _ _ _ (pe_op op_add_str (pv 3) pe_str))) pss_nil) (@pss_one _ _ _ (@ps_ret _ _ _ _ (pv 3))),?_⟩
  intro H1 z y1 y2 y4 y5 y6 g1 hz
  refine⟨_,rfl,(by show 9≤sizeLine;decide),fun l hl=>⟨l,_,rfl,.inl (SqL.of upd_same),rfl,noFlat,_,rfl,?_⟩⟩
  have gl:=g1.trans (.new g1.d hl (.lst (noWords.map V.str)))
  refine ite2 (fun c1=>?_) (fun _=>⟨_,rfl,q _ _ gl hz⟩)
  have c1':inV (V.str z) (noWords.map V.str)=true:=c1
  have:=noWords_len _ (inV_str.mp c1')
  have hx:(Str.ofString "x").length=1:=by decide +kernel
  refine⟨_,rfl,_,_,rfl,rfl,small (by omega),q _ _ gl ⟨by rw [len_app];omega,by rw [len_app];omega,?_⟩⟩
  rw [cs_app]
  intro c hc
  rcases List.mem_append.mp hc with h|h
  ·exact hz.2.2 c h
  ·rw [List.mem_singleton.mp (show c∈[120] from h)]
   decide
 refine⟨_,@pss_cons _ _ _ _ _ (ps_set (i:=1) scWord.nd rfl (Or.inl rfl) pe_str) (@pss_cons _ _ _ _ _ (ps_set (i:=2) scWord.nd rfl (Or.inl rfl) (pe_op op_add pe_int (pe_call GD hrD rfl mD kD bD .nil pass0 (@pa_cons _ _ _ _ _ (pv 0) (@pa_cons _ _ _ _ _ pe_int pa_nil rfl) rfl)))) (@pss_cons _ _ _ _ _ (ps_set (i:=3) scWord.nd rfl (Or.inl rfl) (pe_op op_mulS (pe_ix ix_str (pv 1) (pe_call GD hrD rfl mD kD bD .nil pass0 (@pa_cons _ _ _ _ _ (pv 0) (@pa_cons _ _ _ _ _ pe_int pa_nil rfl) rfl)) (fun _ _=>rfl)) (pv 2))) (@pss_cons _ _ _ _ _ (ps_for PassesOwn.never rfl (pi_range1 rfl mr (@pa_cons _ _ _ _ _ (pe_call GD hrD rfl mD kD bD .nil pass0 (@pa_cons _ _ _ _ _ (pv 0) (@pa_cons _ _ _ _ _ pe_int pa_nil rfl) rfl)) pa_nil rfl)) (pg_name (i:=4) scWord.nd rfl (Or.inl rfl)) (@pss_cons _ _ _ _ _ (ps_set (i:=5) scWord.nd rfl (Or.inl rfl) (pe_call GD hrD rfl mD kD bD .nil pass0 (@pa_cons _ _ _ _ _ (pv 0) (@pa_cons _ _ _ _ _ (pv 2) pa_nil rfl) rfl))) (@pss_cons _ _ _ _ _ (ps_set (i:=6) scWord.nd rfl (Or.inl rfl) (pe_ix ix_str (pv 1) (pe_call GD hrD rfl mD kD bD .nil pass0 (@pa_cons _ _ _ _ _ (pv 0) (@pa_cons _ _ _ _ _ pe_int pa_nil rfl) rfl)) (fun _ _=>rfl))) (@pss_one _ _ _ (ps_set (i:=3) scWord.nd rfl (Or.inl rfl) (pe_op op_add_str (pe_op op_add_str (pe_slice sl_str (pv 3) po_none (po_some (pv 5))) (pv 6)) (pe_slice sl_str (pv 3) (po_some (pe_op op_add (pv 5) pe_int)) po_none))))))) d4))),?_⟩
 refine⟨_,rfl,d,12,rfl,hd,by decide,by decide,fun H1 r g1 r0 r1=>⟨_,_,rfl,rfl,?_⟩⟩
 refine⟨_,rfl,_,rfl,d,26,rfl,g1.d,by decide,by decide,fun H2 r2 g2 a0 a1=>?_⟩
 obtain⟨g,hg,hg1,hg2,_⟩:=lets_at a0 a1
 obtain⟨hm,hmc⟩:=mul_vw (n:=1+r) ⟨hg1,hg2⟩ (by omega) (by omega)
 refine⟨_,_,_,rfl,rfl,lets_lt,hg,_,rfl,_,_,rfl,rfl,mulOk_small (by omega) (by omega) (by show 1≤1000;decide),?_⟩
 have g12:=g1.trans g2
 refine⟨_,rfl,d,3,rfl,g2.d,by decide,by decide,fun H3 r3 g3 b0 b1=>?_⟩
 refine⟨_,rfl,by omega,by omega,for_range (fun i σ H4=>∃(z:Str) (y4 y5 y6:Option V),σ=[some (.ref d),some (.str lets),some (.int (1+r)),some (.str z),y4,y5,y6]∧Go d H H4∧(z.length:Int)=1+r∧Chs (cs z)) ⟨_,_,_,_,rfl,g12.trans g3,hm,hmc⟩ ?_ ?_⟩
 ·rintro i σ H4 hi ⟨z,y4,y5,y6,rfl,g4,hz,hzc⟩
  refine⟨_,rfl,_,rfl,d,_,rfl,g4.d,by omega,by omega,fun H5 r5 g5 c0 c1=>?_⟩
  refine⟨_,rfl,_,rfl,d,26,rfl,g5.d,by decide,by decide,fun H6 r6 g6 e0 e1=>?_⟩
  obtain⟨gg,hgg,hgg1,hgg2,_⟩:=lets_at e0 e1
  have hr5:r5 < z.length:=by omega
  obtain⟨m1,m2,m3⟩:=mid_ok hzc c0 hr5 ⟨hgg1,hgg2⟩
  refine⟨_,_,_,rfl,rfl,lets_lt,hgg,?_⟩
  have s1:=Txt.slice_le z none (some r5)
  have s2:=Txt.slice_le z (some (r5+1)) none
  have o1:Str.length ⟨#[gg]⟩=1:=rfl
  refine⟨_,rfl,_,rfl,_,rfl,_,rfl,small (by omega),_,rfl,_,_,rfl,rfl,small (by omega),?_⟩
  refine⟨_,rfl,_,rfl,_,_,rfl,rfl,_,rfl,_,rfl,small (by omega),_,_,rfl,rfl,small (by rw [len_app];omega),?_⟩
  exact⟨_,_,_,_,rfl,g4.trans (g5.trans g6),by rw [m1];exact hz,m3⟩
 ·rintro σ H4 ⟨z,y4,y5,y6,rfl,g4,hz,hzc⟩
  exact k4 _ _ _ _ _ _ _ g4 ⟨by omega,by omega,hzc⟩
end
end K27
namespace K27
open PySem L2 Kk
theorem nx_rank{z:Str}(h:VW z){i g:Nat}(hi:(cs z)[i]?=some g)(hg:g≠122){z':Str}(e:cs z'=(cs z).take i++([g+1]++(cs z).drop (i+1))):rk z'=stp (rk z)∧VW z':=by
 have e0:=cut_at hi
 have hgc:=h.2.2 g (List.mem_of_getElem? hi)
 have hil:i < (cs z).length:=(List.getElem?_eq_some_iff.mp hi).1
 have r1:rkL [g]=g - 96:=Nat.add_zero _
 have r2:rkL [g+1]=g+1 - 96:=Nat.add_zero _
 have t0:rk z=rkL ((cs z).take i)+((g - 96)+rkL ((cs z).drop (i+1))):=by
  show rkL (cs z)=_
  conv=>lhs;rw [e0]
  rw [rkL_app,rkL_app,r1]
 have t1:rk z'=rkL ((cs z).take i)+((g+1 - 96)+rkL ((cs z).drop (i+1))):=by
  show rkL (cs z')=_
  rw [e,rkL_app,rkL_app,r2]
 have b1:=rkL_le (L:=(cs z).take i) fun c hc=>h.2.2 c (List.mem_of_mem_take hc)
 have b2:=rkL_le (L:=(cs z).drop (i+1)) fun c hc=>h.2.2 c (List.mem_of_mem_drop hc)
 have hl:=h.2.1
 rw [cs_len] at hl
 rw [List.length_take] at b1
 rw [List.length_drop] at b2
 have hm:min i (cs z).length=i:=by omega
 rw [hm] at b1
 refine⟨?_,?_,?_,?_⟩
 ·unfold stp
  rw [if_neg (by omega)]
  omega
 ·rw [cs_len,e,List.length_append,List.length_append,List.length_take,List.length_drop]
  show 1≤_+(1+_)
  omega
 ·rw [cs_len,e,List.length_append,List.length_append,List.length_take,List.length_drop,hm]
  show i+(1+_)≤12
  omega
 ·rw [e]
  intro c hc
  rcases List.mem_append.mp hc with q|q
  ·exact h.2.2 c (List.mem_of_mem_take q)
  ·rcases List.mem_append.mp q with q|q
   ·rw [List.mem_singleton.mp q];omega
   ·exact h.2.2 c (List.mem_of_mem_drop q)
theorem zz{z:Str}(h:VW z)(hz:∀c∈cs z,c=122):rk z=26*z.length:=by
 rw [cs_len]
 exact rkL_z hz
theorem nx_more{z z':Str}(h:VW z)(hz:∀c∈cs z,c=122)(hl:z.length≤11)(e:cs z'=cs z++[97]):rk z'=stp (rk z)∧VW z':=by
 have t0:=zz h hz
 have t1:rk z'=rk z+1:=by
  show rkL (cs z')=_
  rw [e,rkL_app]
  rfl
 have l1:z'.length=z.length+1:=by rw [cs_len,cs_len,e,List.length_append];rfl
 refine⟨by unfold stp;rw [if_neg (by omega)];exact t1,by omega,by omega,?_⟩
 rw [e]
 intro c hc
 rcases List.mem_append.mp hc with q|q
 ·exact h.2.2 c q
 ·rw [List.mem_singleton.mp q];decide
theorem nx_back{z z':Str}(h:VW z)(hz:∀c∈cs z,c=122)(hl:¬z.length≤11)(e:cs z'=[97]++(cs z).drop 1):rk z'=stp (rk z)∧VW z':=by
 have t0:=zz h hz
 have h12:=h.2.1
 have e12:z.length=12:=by omega
 have cl:=cs_len z
 have t1:rk z'=1+26*((cs z).drop 1).length:=by
  show rkL (cs z')=_
  rw [e,rkL_app,rkL_z (L:=(cs z).drop 1) fun c hc=>hz c (List.mem_of_mem_drop hc)]
  rfl
 rw [List.length_drop] at t1
 have l1:z'.length=1+(z.length - 1):=by rw [cs_len,cs_len,e,List.length_append,List.length_drop];rfl
 refine⟨by unfold stp;rw [if_pos (by omega)];omega,by omega,by omega,?_⟩
 rw [e]
 intro c hc
 rcases List.mem_append.mp hc with q|q
 ·rw [List.mem_singleton.mp q];decide
 ·exact h.2.2 c (List.mem_of_mem_drop q)
theorem cs_z:cs (Str.ofString "z")=[122]:=by decide +kernel
theorem cs_a:cs (Str.ofString "a")=[97]:=by decide +kernel
theorem is_z{g:Nat}:decide (V.str ⟨#[g]⟩=V.str (Str.ofString "z"))=true↔g=122:=by
 rw [decide_eq_true_iff]
 constructor
 ·intro e
  have e2:(⟨#[g]⟩:Str)=Str.ofString "z":=by injection e
  have e3:[g]=[122]:=by
   have:=congrArg cs e2
   rw [cs_z] at this
   exact this
  exact(List.cons.inj e3).1
 ·intro e
  rw [e,str_ext (a:=⟨#[122]⟩) (b:=Str.ofString "z") (by rw [cs_z])]
section
variable{P:Program}{w:World}{K:PySem.W.Frag}{mg:Str→Option Value}{base:Heap}
theorem scNext:FnScope ["_law_word_here","_law_letters","_law_at","_law_more"] ["_law_word_here"] (defScope sNext):=⟨rfl,rfl,rfl,by decide +kernel,rfl,by decide +kernel,by decide +kernel⟩
set_option maxHeartbeats 0 in
theorem ok_next{f:Addr}{fd:FuncData} (F:Fun K "_law_next" "_law_next" sNext f fd) (ml:mg "len"=none) (mi:mg "int"=none):FnOk P w K mg base CX0 1 f fd ["_law_word_here"] spNext:=by
 refine F.ok scNext (fun vs H Q E h=>?_) (fun cdv A outer s H vs Q E hr h=>?_)
 ·obtain⟨_,rfl,_⟩:=h
  rfl
 obtain⟨z,rfl,hz,q⟩:=h
 have zl:z.length≤sizeLine:=small (by have:=hz.2.1;omega)
 have hL:(cs z).length=z.length:=(cs_len z).symm
 have z1:=hz.1
 have z2:=hz.2.1
 have getz:∀i:Nat,i < z.length→∃g,(cs z)[i]?=some g∧atI (cs z) (i:Int)=some g:=fun i hi=>by
  have hi':i < (cs z).length:=by omega
  exact⟨(cs z)[i],List.getElem?_eq_getElem hi',atI_nat (List.getElem?_eq_getElem hi')⟩
 obtain⟨t3,d3,k3⟩:∃t,PSs (cxOf CX0 P w K mg base ["_law_word_here","_law_letters","_law_at","_law_more"] "_law_next" (defScope sNext) f cdv A outer s H E).nox (List.drop 3 (defBody sNext)) t ∧
   ∀(i g:Nat),i < z.length→(cs z)[i]?=some g→(∀j,i < j→j < z.length→(cs z)[j]?=some 122)→(i=0∨g≠122)→t { nx:=fun _ H'=>Q .non H',rt:=Q } [some (.str z),some (.str lets),some (.int i),none] H:=by
  refine⟨_,@pss_cons _ _ _ _ _ (ps_if (pt_cmpR op_eq (pe_ix ix_str (pv 0) (pv 2) (fun _ _=>rfl)) pe_str (nomark _)) (@pss_one _ _ _ (@ps_ret _ _ _ _ (pe_ix ix_list (pe_lst (@pa_cons _ _ _ _ _ (pe_op op_add_str (pv 0) pe_str) (@pa_cons _ _ _ _ _ (pe_op op_add_str pe_str (pe_slice sl_str (pv 0) (po_some pe_int) po_none)) pa_nil rfl) rfl)) (pe_callTy call_int1 rfl mi bootInt (@pa_cons _ _ _ _ _ (pe_cmpR op_gt (pe_callB call_len_str rfl ml PySem.boot_len (@pa_cons _ _ _ _ _ (pv 0) pa_nil rfl)) pe_int (nomark _)) pa_nil rfl)) (fun _ _=>rfl)))) pss_nil) (@pss_cons _ _ _ _ _ (ps_set (i:=3) scNext.nd rfl (Or.inl rfl) (pe_ix ix_str (pv 1) (pe_op op_add (pe_bm PySem.F.plainAttrs_str PySem.F.slot_str_index PySem.F.type_str_index mt_indexS (pv 1) (@pa_cons _ _ _ _ _ (pe_ix ix_str (pv 0) (pv 2) (fun _ _=>rfl)) pa_nil rfl)) pe_int) (fun _ _=>rfl))) (@pss_one _ _ _ (@ps_ret _ _ _ _ (pe_op op_add_str (pe_op op_add_str (pe_slice sl_str (pv 0) po_none (po_some (pv 2))) (pv 3)) (pe_slice sl_str (pv 0) (po_some (pe_op op_add (pv 2) pe_int)) po_none))))),?_⟩
  intro i g hi hg hall h0
  have ha:atI (cs z) (i:Int)=some g:=atI_nat hg
  have hgc:=hz.2.2 g (List.mem_of_getElem? hg)
  refine⟨_,rfl,_,rfl,_,_,_,rfl,rfl,zl,ha,rfl,_,rfl,ite2 (fun c=>?_) (fun c=>?_)⟩
  ·have g122:g=122:=is_z.mp c
   have i0:i=0:=by rcases h0 with h0|h0;exact h0;exact absurd g122 h0
   subst i0
   have hall':∀c∈cs z,c=122:=fun c hc=>by
    obtain⟨j,hj⟩:=List.getElem?_of_mem hc
    have hjl:j < (cs z).length:=(List.getElem?_eq_some_iff.mp hj).1
    by_cases e:j=0
    ·rw [e,hg] at hj
     rw [←Option.some.inj hj]
     exact g122
    ·rw [hall j (by omega) (by omega)] at hj
     exact(Option.some.inj hj).symm
   have la:(Str.ofString "a").length=1:=by decide +kernel
   have s1:=Txt.slice_le z (some (1:Int)) none
   refine⟨_,rfl,_,_,rfl,rfl,small (by omega),_,rfl,_,rfl,_,rfl,zl,_,_,rfl,rfl,small (by omega),?_⟩
   refine⟨(by show 2≤sizeLine;decide),fun l hl=>?_⟩
   have sl:=same_new hl (.lst [.str (z++Str.ofString "a"),.str (Str.ofString "a"++Txt.slice z (some 1) none)])
   by_cases h11:z.length≤11
   ·obtain⟨e1,e2⟩:=nx_more (z':=z++Str.ofString "a") hz hall' h11 (by rw [cs_app,cs_a])
    refine⟨_,rfl,z,rfl,zl,_,_,rfl,rfl,?_⟩
    refine .inr ⟨_,rfl,l,_,_,_,rfl,rfl,SqL.of upd_same,(show atI _ (if decide ((z.length:Int) > 11)=true then 1 else 0)=some (.str (z++Str.ofString "a")) by rw [decide_eq_false (by omega)];exact at0),q _ _ sl e2 e1⟩
   ·obtain⟨e1,e2⟩:=nx_back (z':=Str.ofString "a"++Txt.slice z (some ((1:Nat):Int)) none) hz hall' h11 (by rw [cs_app,cs_a,cs_from (by omega)])
    refine⟨_,rfl,z,rfl,zl,_,_,rfl,rfl,?_⟩
    refine .inr ⟨_,rfl,l,_,_,_,rfl,rfl,SqL.of upd_same,(show atI _ (if decide ((z.length:Int) > 11)=true then 1 else 0)=some (.str (Str.ofString "a"++Txt.slice z (some 1) none)) by rw [decide_eq_true (by omega)];exact at1),q _ _ sl e2 e1⟩
  ·have gn:g≠122:=fun e=>c (is_z.mpr e)
   have hix:=lets_ix (g - 97) (by omega)
   rw [show 97+(g - 97)=g by omega] at hix
   have hlt:atI (cs lets) (((g - 97:Nat):Int)+1)=some (g+1):=by
    have e1:(((g - 97:Nat):Int)+1)=((g - 97+1:Nat):Int):=by omega
    rw [e1]
    refine atI_nat ?_
    rw [lets_get _ (by omega)]
    congr 1
    omega
   obtain⟨m1,m2,_⟩:=mid_ok (z:=z) (g:=g+1) (r:=(i:Int)) hz.2.2 (by omega) (by omega) (by omega)
   obtain⟨e1,e2⟩:=nx_rank hz hg gn (z':=Txt.slice z none (some (i:Int))++⟨#[g+1]⟩++Txt.slice z (some ((i:Int)+1)) none) m2
   refine⟨_,rfl,_,rfl,rfl,_,rfl,_,rfl,_,_,_,rfl,rfl,zl,ha,_,_,_,_,rfl,rfl,hix,_,_,rfl,rfl,_,_,_,rfl,rfl,lets_lt,hlt,?_⟩
   have s1:=Txt.slice_le z none (some (i:Int))
   have s2:=Txt.slice_le z (some ((i:Int)+1)) none
   have o1:Str.length ⟨#[g+1]⟩=1:=rfl
   refine⟨_,rfl,_,rfl,_,rfl,_,rfl,zl,_,rfl,_,_,rfl,rfl,small (by omega),?_⟩
   exact⟨_,rfl,_,rfl,_,_,rfl,rfl,_,rfl,_,rfl,zl,_,_,rfl,rfl,small (by rw [len_app];omega),q _ _ (Same.refl _) e2 e1⟩
 refine⟨_,@pss_cons _ _ _ _ _ (ps_set (i:=1) scNext.nd rfl (Or.inl rfl) pe_str) (@pss_cons _ _ _ _ _ (ps_set (i:=2) scNext.nd rfl (Or.inl rfl) (pe_op op_sub (pe_callB call_len_str rfl ml PySem.boot_len (@pa_cons _ _ _ _ _ (pv 0) pa_nil rfl)) pe_int)) (@pss_cons _ _ _ _ _ (ps_while PassesOwn.never (PW.pt (pw_and (pt_cmpR op_gt (pv 2) pe_int (nomark _)) (pw_and1 (pt_cmpR op_eq (pe_ix ix_str (pv 0) (pv 2) (fun _ _=>rfl)) pe_str (nomark _))))) (@pss_one _ _ _ (ps_set (i:=2) scNext.nd rfl (Or.inl rfl) (pe_op op_sub (pv 2) pe_int)))) d3)),?_⟩
 refine⟨_,rfl,z,rfl,zl,_,_,rfl,rfl,?_⟩
 refine⟨fun m σ H2=>H2=H∧m < z.length∧σ=[some (.str z),some (.str lets),some (.int (m:Int)),none]∧∀j,m < j→j < z.length→(cs z)[j]?=some 122,
  ⟨z.length - 1,rfl,by omega,by rw [show(((z.length - 1:Nat)):Int)=(z.length:Int) - 1 by omega]<;>rfl,fun j h1 h2=>absurd h1 (by omega)⟩,?_⟩
 rintro m σ H2 ⟨rfl,hm,rfl,hall⟩
 obtain⟨g,hg,ha⟩:=getz m hm
 refine⟨_,rfl,_,_,rfl,rfl,_,rfl,ite2 (fun c=>?_) (fun c=>?_)⟩
 ·have c':(0:Int) < (m:Int):=of_decide_eq_true c
  refine⟨_,rfl,_,rfl,_,_,_,rfl,rfl,zl,ha,rfl,_,rfl,?_⟩
  refine ite2 (fun c2=>?_) (fun c2=>?_)
  ·have g122:g=122:=is_z.mp c2
   refine⟨_,fun _ _ h=>h,_,rfl,_,_,rfl,rfl,m - 1,by omega,rfl,by omega,by rw [show(((m - 1:Nat)):Int)=(m:Int) - 1 by omega]<;>rfl,fun j h1 h2=>?_⟩
   by_cases e:j=m
   ·rw [e,hg,g122]
   ·exact hall j (by omega) h2
  ·exact k3 m g hm hg hall (.inr fun e=>c2 (is_z.mpr e))
 ·have c':¬(0:Int) < (m:Int):=fun z=>c (decide_eq_true z)
  exact k3 m g hm hg hall (.inl (by omega))
end
end K27
namespace K27
open PySem L2 Kk
theorem Go.put{d l:Addr}{H H2:Hp}(g:Go d H H2)(hl:H l=none)(n:l≠d)(o:HO):Go d H (L2.upd H2 l o):=by
 refine⟨fun b u q=>?_,?_⟩
 ·have nb:b≠l:=fun z=>by
   rw [z,zo_ne (by simpa using n),hl] at q
   cases q
  have:=g.s b u q
  by_cases e:b∈[d]
  ·rw [zo_at e] at this;cases this
  ·rw [zo_ne e] at this ⊢
   rw [upd_ne nb];exact this
 ·obtain⟨a,b,e⟩:=g.d
  exact⟨a,b,by rw [upd_ne (Ne.symm n)];exact e⟩
section
variable{P:Program}{w:World}{K:PySem.W.Frag}{mg:Str→Option Value}{base:Heap}
theorem scWordsL:FnScope ["_law_deal_here","_law_many","_law_words_here","_law_k","_law_word_here"] ["_law_deal_here","_law_many"] (defScope sWordsL):=⟨rfl,rfl,rfl,by decide +kernel,rfl,by decide +kernel,by decide +kernel⟩
set_option maxHeartbeats 0 in
theorem ok_wordsL{f fW fN:Addr}{fd fdW fdN:FuncData} (F:Fun K "_law_words" "_law_words" sWordsL f fd) (mr:mg "range"=none) (GW:FnOk P w K mg base CX0 2 fW fdW ["_law_deal_here"] spWord) (bW:Binds K fdW ["_law_deal_here"] []) (kW:PySem.W.keepIn K (.ref fW)=true) (mW:mg "_law_word"=some (.ref fW))
  (GN:FnOk P w K mg base CX0 1 fN fdN ["_law_word_here"] spNext) (bN:Binds K fdN ["_law_word_here"] []) (kN:PySem.W.keepIn K (.ref fN)=true) (mN:mg "_law_next"=some (.ref fN)):FnOk P w K mg base CX0 3 f fd ["_law_deal_here","_law_many"] (spWordsL K):=by
 refine F.ok (k:=2) scWordsL (fun vs H Q E h=>?_) (fun cdv A outer s H vs Q E hrW h=>?_)
 ·obtain⟨_,_,rfl,_⟩:=h
  rfl
 obtain⟨d,m,rfl,hd,m0,m1,q⟩:=h
 have hrN:Room 1 _:=hrW.mono (by decide)
 refine⟨_,@pss_cons _ _ _ _ _ (ps_set (i:=2) scWordsL.nd rfl (Or.inl rfl) (pe_lst pa_nil)) (@pss_cons _ _ _ _ _ (ps_for PassesOwn.never rfl (pi_range1 rfl mr (@pa_cons _ _ _ _ _ (pv 1) pa_nil rfl)) (pg_name (i:=3) scWordsL.nd rfl (Or.inl rfl)) (@pss_cons _ _ _ _ _ (ps_set (i:=4) scWordsL.nd rfl (Or.inl rfl) (pe_call GW hrW rfl mW kW bW .nil pass0 (@pa_cons _ _ _ _ _ (pv 0) pa_nil rfl))) (@pss_cons _ _ _ _ _ (ps_while PassesOwn.never (pt_cmpR op_in_seq (pv 4) (pe_op op_cat (pv 2) (pe_lst (pa_strs [(_,_,_),(_,_,_),(_,_,_),(_,_,_),(_,_,_),(_,_,_),(_,_,_),(_,_,_),(_,_,_)]):PE _ _ _)) (by with_unfolding_all rfl)) (@pss_one _ _ _ (ps_set (i:=4) scWordsL.nd rfl (Or.inl rfl) (pe_call GN hrN rfl mN kN bN .nil pass0 (@pa_cons _ _ _ _ _ (pv 4) pa_nil rfl))))) (@pss_one _ _ _ (ps_expr (pe_bm PySem.F.plainAttrs_list PySem.F.slot_list_append PySem.F.type_list_append mt_append (pv 2) (@pa_cons _ _ _ _ _ (pv 4) pa_nil rfl))))))) (@pss_one _ _ _ (@ps_ret _ _ _ _ (pv 2)))),?_⟩
 refine⟨(by show 0≤sizeLine;decide),fun l hl=>?_⟩
 have nl:l≠d:=fun z=>by
  obtain⟨x,y,e⟩:=hd
  rw [z,e] at hl;cases hl
 refine⟨_,rfl,_,rfl,by omega,by omega,for_range (fun i σ H2=>∃(ws:List Str) (v c:Option V),σ=[some (.ref d),some (.int m),some (.ref l),v,c]∧Go d H H2∧H2 l=some (.lst (ws.map V.str))∧ws.length=i∧ws.Nodup∧∀z∈ws,VW z)
  ⟨[],none,none,rfl,.new hd hl _,upd_same,rfl,List.nodup_nil,fun z hz=>nomatch hz⟩ ?_ ?_⟩
 ·rintro i σ H2 hi ⟨ws,v,c,rfl,g2,hL,hlen,hnd,hok⟩
  refine⟨_,rfl,d,rfl,g2.d,fun H3 z g3 hz=>?_⟩
  obtain⟨J,hJ⟩:=come_out hz (ws:=ws++noWords) (by rw [List.length_append];show _+9≤24;omega)
  refine⟨fun m' σ H4=>∃(j:Nat) (y:Str),σ=[some (.ref d),some (.int m),some (.ref l),some (.int (0+(i:Int))),some (.str y)]∧Go d H3 H4∧VW y∧rk y=stpN (rk z) j∧j≤J∧m'=J - j,⟨J - 0,0,z,rfl,.refl g3.d,hz,rfl,Nat.zero_le _,rfl⟩,?_⟩
  rintro m' σ H4 ⟨j,y,rfl,g4,hy,hr,hj,rfl⟩
  have g34:=g3.trans g4
  have hL4:=g34.at nl hL
  refine⟨_,rfl,_,rfl,(by show 9≤sizeLine;decide),fun p1 hp1=>?_⟩
  have n1:=same_new hp1 (.lst (noWords.map V.str))
  have hp0:upd H4 p1 (.lst (noWords.map V.str)) p1=some (.lst (noWords.map V.str)):=upd_same
  refine⟨l,p1,_,_,rfl,rfl,n1 _ _ hL4,hp0,small (by rw [List.length_map];show _+9≤1000;omega),fun p2 hp2=>?_⟩
  have n2:=same_new hp2 (.lst (ws.map V.str++noWords.map V.str))
  have g5:Go d H4 _:=(Go.of g4.d (n1.trans n2))
  rw [←List.map_append]
  rw [←List.map_append] at n2 g5
  refine⟨p2,_,rfl,.inl (SqL.of upd_same),rfl,flat_strs _,_,rfl,ite2 (fun c=>?_) (fun c=>?_)⟩
  ·have c':y∈ws++noWords:=inV_str.mp c
   have hne:j≠J:=fun e=>hJ (by rw [←e,←hr];exact List.mem_map_of_mem c')
   refine⟨_,fun _ _ h=>h,_,rfl,y,rfl,hy,fun H6 y' s6 hy' hr'=>⟨J - (j+1),by omega,j+1,y',rfl,g4.trans (g5.trans (.of g5.d s6)),hy',?_,by omega,rfl⟩⟩
   rw [hr',hr]
   rfl
  ·have c':y∉ws++noWords:=fun z=>c (inV_str.mpr z)
   have hy2:y∉ws:=fun z=>c' (List.mem_append_left _ z)
   have g25:=g2.trans (g34.trans g5)
   have hL5:=g5.at nl hL4
   refine⟨_,rfl,.inl ⟨rfl,_,SqL.of hL5⟩,_,rfl,l,_,_,rfl,rfl,hL5,Nat.lt_of_lt_of_le (Nat.lt_succ_self _) (small (by rw [List.length_map];omega)),?_⟩
   refine⟨ws++[y],_,_,rfl,g25.put hl nl _,?_,?_,?_,?_⟩
   ·rw [upd_same,List.map_append]
    rfl
   ·rw [List.length_append,hlen]
    rfl
   ·rw [List.nodup_append]
    refine⟨hnd,by simp,fun x hx y' hy'=>?_⟩
    rw [List.mem_singleton.mp hy']
    exact fun e=>hy2 (e▸hx)
   ·intro x hx
    rcases List.mem_append.mp hx with hx|hx
    ·exact hok x hx
    ·rw [List.mem_singleton.mp hx]
     exact hy
 ·rintro σ H2 ⟨ws,v,c,rfl,g2,hL,hlen,hnd,hok⟩
  exact⟨_,rfl,q _ l ws g2 hl hL (by omega) hnd hok⟩
end
def spSizeL(K:PySem.W.Frag)(n:Nat):Sp:=fun vs H Q _=>∃(x:V) (k:Kd),vs=[x]∧KdAt K H x k∧Kd.depth k≤n∧Q (.int k.words) H
def KN(ns:List Str)(k:Kd):Prop:=Kd.sm k∧∀n∈Kd.names k,n.1=""→n.2∈ns
def spAnyK(K:PySem.W.Frag)(n:Nat):Sp:=fun vs H Q _=>∃(d nl:Addr) (room:Int) (ns:List Str),vs=[.ref d,.ref nl,.int room]∧DL H d∧nl≠d∧H nl=some (.lst (ns.map V.str))∧ns.length≤16∧(∀z∈ns,VW z)∧1≤room∧room≤n∧n≤9 ∧
 ∀H' v k,Go d H H'→KdAt K H' v k→KN ns k→(k.words:Int)≤room→(room≤2→k.leaf=true)→Q v H'
theorem str_get{ws:List Str}{r:Int}(h0:0≤r)(h1:r < ws.length):∃z,z∈ws∧atI (ws.map V.str) r=some (.str z):=by
 have e:r=((r.toNat:Nat):Int):=by omega
 have hk:r.toNat < ws.length:=by omega
 refine⟨ws[r.toNat],List.getElem_mem hk,?_⟩
 have q:atI (ws.map V.str) ((r.toNat:Nat):Int)=some (.str ws[r.toNat]):=atI_nat (by rw [List.getElem?_map,List.getElem?_eq_getElem hk];rfl)
 rw [←e] at q
 exact q
def ifT:Stmt→List Stmt
 |.If _ b _ _=>b
 |_=>[]
def forB:Stmt→List Stmt
 |.For _ _ b _ _=>b
 |_=>[]
def ifE:Stmt→List Stmt
 |.If _ _ e _=>e
 |_=>[]
abbrev dS:Stmt:=.Pass ⟨0,0,0,0⟩
theorem away_ok:∀z∈([Str.ofString "away",Str.ofString "far"]:List Str),(PyData.strOk z=true∧z.length≤14)∧z≠"":=by decide +kernel
theorem t_ok:PyData.strOk (Str.ofString "t")=true∧(Str.ofString "t").length≤14:=by decide +kernel
theorem e_ok:PyData.strOk (Str.ofString "")=true∧(Str.ofString "").length≤14:=by decide +kernel
section
variable{P:Program}{w:World}{K:PySem.W.Frag}{mg:Str→Option Value}{base:Heap}
theorem scSizeL:FnScope ["_law_kind"] ["_law_kind"] (defScope sSizeL):=⟨rfl,rfl,rfl,by decide +kernel,rfl,by decide +kernel,by decide +kernel⟩
theorem ok_sizeL{f:Addr}{fd:FuncData} (F:Fun K "_law_size" "_law_size" sSizeL f fd) (bZ:Binds K fd ["_law_kind"] []) (kZ:PySem.W.keepIn K (.ref f)=true) (mZ:mg "_law_size"=some (.ref f)):∀n,FnOk P w K mg base CX0 n f fd ["_law_kind"] (spSizeL K n)
 |0=>⟨fun vs H Q E h=>by obtain⟨x,k,rfl,_⟩:=h;rfl,fun A outer s H args us vs Q E _ _ _ _ h=>by
   obtain⟨x,k,_,_,hd,_⟩:=h
   have:=depth_pos k
   omega⟩
 |n+1=>by
  have GZ:=ok_sizeL F bZ kZ mZ n
  refine F.ok scSizeL (fun vs H Q E h=>?_) (fun cdv A outer s H vs Q E hrZ h=>?_)
  ·obtain⟨x,k,rfl,_⟩:=h
   rfl
  obtain⟨x,k,rfl,hk,hd,q⟩:=h
  refine⟨_,@pss_cons _ _ _ _ _ (ps_if (pt_cmpR op_eq (pe_ix ix_tup (pv 0) pe_int (fun _ _=>rfl)) pe_str (nomark _)) (@pss_one _ _ _ (@ps_ret _ _ _ _ (pe_op op_add (pe_op op_add pe_int (pe_call GZ hrZ rfl mZ kZ bZ .nil pass0 (@pa_cons _ _ _ _ _ (pe_ix ix_tup (pv 0) pe_int (fun _ _=>rfl)) pa_nil rfl))) (pe_call GZ hrZ rfl mZ kZ bZ .nil pass0 (@pa_cons _ _ _ _ _ (pe_ix ix_tup (pv 0) pe_int (fun _ _=>rfl)) pa_nil rfl))))) pss_nil) (@pss_one _ _ _ (@ps_ret _ _ _ _ pe_int)),?_⟩
  cases hk with
  |@num p m t=>exact⟨_,rfl,_,_,_,_,rfl,rfl,t,at0,rfl,_,rfl,ite2 (fun c=>absurd c (by decide +kernel)) (fun _=>q)⟩
  |@name p a b t=>exact⟨_,rfl,_,_,_,_,rfl,rfl,t,at0,rfl,_,rfl,ite2 (fun c=>absurd c (by decide +kernel)) (fun _=>q)⟩
  |@pair p y z a b t ha hb =>
   have hd':1+max (Kd.depth a) (Kd.depth b)≤n+1:=hd
   refine⟨_,rfl,_,_,_,_,rfl,rfl,t,at0,rfl,_,rfl,ite2 (fun _=>?_) (fun c=>absurd (by decide +kernel) c)⟩
   refine⟨_,rfl,_,_,_,_,rfl,rfl,t,at1,_,a,rfl,ha,by omega,_,_,rfl,rfl,_,rfl,_,_,_,_,rfl,rfl,t,at2,_,b,rfl,hb,by omega,_,_,rfl,rfl,?_⟩
   have e:((1:Int)+(a.words:Int)+(b.words:Int))=((Kd.pair a b).words:Int):=by
    show _=((1+a.words+b.words:Nat):Int)
    omega
   rw [e]
   exact q
theorem scAnyK:FnScope ["_law_deal_here","_law_names","_law_room","_law_form","_law_one"] ["_law_deal_here","_law_names","_law_room"] (defScope sAnyK):=⟨rfl,rfl,rfl,by decide +kernel,rfl,by decide +kernel,by decide +kernel⟩
set_option maxHeartbeats 0 in
theorem ok_anyK{f fD fZ:Addr}{fd fdD fdZ:FuncData} (F:Fun K "_law_any_kind" "_law_any_kind" sAnyK f fd) (bK:Binds K fd ["_law_deal_here","_law_names","_law_room"] []) (kK:PySem.W.keepIn K (.ref f)=true) (mK:mg "_law_any_kind"=some (.ref f)) (ml:mg "len"=none)
  (GD:FnOk P w K mg base CX0 1 fD fdD ["_law_deal_here","_law_many"] spDraw) (bD:Binds K fdD ["_law_deal_here","_law_many"] []) (kD:PySem.W.keepIn K (.ref fD)=true) (mD:mg "_law_draw"=some (.ref fD))
  (GZ:FnOk P w K mg base CX0 9 fZ fdZ ["_law_kind"] (spSizeL K 9)) (bZ:Binds K fdZ ["_law_kind"] []) (kZ:PySem.W.keepIn K (.ref fZ)=true) (mZ:mg "_law_size"=some (.ref fZ)):∀n,FnOk P w K mg base CX0 (n+10) f fd ["_law_deal_here","_law_names","_law_room"] (spAnyK K n)
 |0=>⟨fun vs H Q E h=>by obtain⟨_,_,_,_,rfl,_⟩:=h;rfl,fun A outer s H args us vs Q E _ _ _ _ h=>by
   obtain⟨_,_,_,_,_,_,_,_,_,_,h1,h2,_⟩:=h
   omega⟩
 |n+1=>by
  have GK:=ok_anyK F bK kK mK ml GD bD kD mD GZ bZ kZ mZ n
  refine F.ok (k:=n+10) scAnyK (fun vs H Q E h=>?_) (fun cdv A outer s H vs Q E hrK h=>?_)
  ·obtain⟨_,_,_,_,rfl,_⟩:=h
   rfl
  obtain⟨d,nl,room,ns,rfl,hd,hnd,hnl,h16,hns,r1,rn,n9,q⟩:=h
  have hrD:Room 1 _:=hrK.mono (by omega)
  have hrZ:Room 9 _:=hrK.mono (by omega)
  obtain⟨t2,d2,k2⟩:∃t,PSs (cxOf CX0 P w K mg base ["_law_deal_here","_law_names","_law_room","_law_form","_law_one"] "_law_any_kind" (defScope sAnyK) f cdv A outer s H E).nox (List.drop 2 (defBody sAnyK)) t ∧
    ∀(H1:Hp) (fo:Int),Go d H H1→t { nx:=fun _ H'=>Q .non H',rt:=Q } [some (.ref d),some (.ref nl),some (.int room),some (.int fo),none] H1:=by
   have fin:∀{H0 H2:Hp} {p:Addr} {xs:List V} {k:Kd},Go d H H0→Go d H0 H2→H2 p=none→KdAt K (upd H2 p (.tup xs)) (.ref p) k→KN ns k→k.words=1→k.leaf=true→Q (.ref p) (upd H2 p (.tup xs)):=fun g1 g2 hp hk hkn hw hlf =>
    q _ _ _ (g1.trans (g2.trans (.new g2.d hp _))) hk hkn (by rw [hw];exact r1) (fun _=>hlf)
   obtain⟨tN,dN,kN⟩:∃t,PSs (cxOf CX0 P w K mg base ["_law_deal_here","_law_names","_law_room","_law_form","_law_one"] "_law_any_kind" (defScope sAnyK) f cdv A outer s H E).nox (ifT ((defBody sAnyK).getD 2 dS)) t ∧
     ∀(D:Ends) (H1:Hp) (fo:Int),D.rt=Q→Go d H H1→t D [some (.ref d),some (.ref nl),some (.int room),some (.int fo),none] H1:=by
    refine⟨_,@pss_one _ _ _ (@ps_ret _ _ _ _ (@pe_tup _ _ _ _ _ (@pa_cons _ _ _ _ _ pe_str (@pa_cons _ _ _ _ _ (pe_op op_add pe_int (pe_call GD hrD rfl mD kD bD .nil pass0 (@pa_cons _ _ _ _ _ (pv 0) (@pa_cons _ _ _ _ _ (pe_ix ix_list (pe_lst (@pa_cons _ _ _ _ _ pe_int (@pa_cons _ _ _ _ _ (pe_op op_pow pe_int pe_int) pa_nil rfl) rfl)) (pe_call GD hrD rfl mD kD bD .nil pass0 (@pa_cons _ _ _ _ _ (pv 0) (@pa_cons _ _ _ _ _ pe_int pa_nil rfl) rfl)) (fun _ _=>rfl)) pa_nil rfl) rfl))) pa_nil rfl) rfl))),?_⟩
    intro D H1 fo hD g1
    refine⟨_,rfl,_,_,rfl,rfl,⟨by decide,by decide,by decide⟩,(by show 2≤sizeLine;decide),fun l hl=>?_⟩
    have nl':=g1.nd hl
    have n1:Go d H1 _:=.new g1.d hl (.lst [.int 9,.int (10 ^ (18:Int).toNat)])
    refine⟨_,rfl,d,2,rfl,n1.d,by decide,by decide,fun H2 r g2 r0 r1'=>?_⟩
    have hs:=g2.at nl' (b:=l) upd_same
    obtain⟨m,hm,m0,m1⟩:∃m:Int,atI [V.int 9,.int (10 ^ (18:Int).toNat)] r=some (.int m)∧0 < m∧m≤10 ^ 18:=by
     have:r=0∨r=1:=by omega
     rcases this with rfl|rfl
     ·exact⟨9,at0,by decide,by decide⟩
     ·exact⟨10 ^ (18:Int).toNat,at1,by decide,by decide⟩
    refine⟨l,_,_,_,rfl,rfl,SqL.of hs,hm,d,m,rfl,g2.d,m0,m1,fun H3 r3 g3 a0 a1=>⟨_,_,rfl,rfl,(by show 2≤sizeLine;decide),fun p hp=>?_⟩⟩
    rw [hD]
    exact fin g1 (n1.trans (g2.trans g3)) hp (k:=.num (1+r3)) (.num (SqT.of upd_same)) ⟨⟨by omega,by omega⟩,fun n hn=>nomatch hn⟩ rfl rfl
   obtain⟨t3,d3,k3⟩:∃t,PSs (cxOf CX0 P w K mg base ["_law_deal_here","_law_names","_law_room","_law_form","_law_one"] "_law_any_kind" (defScope sAnyK) f cdv A outer s H E).nox (List.drop 3 (defBody sAnyK)) t ∧
     ∀(D:Ends) (H1:Hp) (fo:Int),D.rt=Q→(fo=3∨ns≠[])→Go d H H1→t D [some (.ref d),some (.ref nl),some (.int room),some (.int fo),none] H1:=by
    refine⟨_,@pss_cons _ _ _ _ _ (ps_if (pt_cmpR op_eq (pv 3) pe_int (nomark _)) (@pss_one _ _ _ (@ps_ret _ _ _ _ (@pe_tup _ _ _ _ _ (@pa_cons _ _ _ _ _ pe_str (@pa_cons _ _ _ _ _ (pe_ix ix_list (pe_lst (@pa_cons _ _ _ _ _ pe_str (@pa_cons _ _ _ _ _ pe_str pa_nil rfl) rfl)) (pe_call GD hrD rfl mD kD bD .nil pass0 (@pa_cons _ _ _ _ _ (pv 0) (@pa_cons _ _ _ _ _ pe_int pa_nil rfl) rfl)) (fun _ _=>rfl)) (@pa_cons _ _ _ _ _ (pe_ix ix_list (pe_op op_cat (pv 1) (pe_lst (@pa_cons _ _ _ _ _ pe_str pa_nil rfl))) (pe_call GD hrD rfl mD kD bD .nil pass0 (@pa_cons _ _ _ _ _ (pv 0) (@pa_cons _ _ _ _ _ (pe_op op_add (pe_callB call_len_seq rfl ml PySem.boot_len (@pa_cons _ _ _ _ _ (pv 1) pa_nil rfl)) pe_int) pa_nil rfl) rfl)) (fun _ _=>rfl)) pa_nil rfl) rfl) rfl)))) pss_nil) (@pss_one _ _ _ (@ps_ret _ _ _ _ (@pe_tup _ _ _ _ _ (@pa_cons _ _ _ _ _ pe_str (@pa_cons _ _ _ _ _ pe_str (@pa_cons _ _ _ _ _ (pe_ix ix_list (pv 1) (pe_call GD hrD rfl mD kD bD .nil pass0 (@pa_cons _ _ _ _ _ (pv 0) (@pa_cons _ _ _ _ _ (pe_callB call_len_seq rfl ml PySem.boot_len (@pa_cons _ _ _ _ _ (pv 1) pa_nil rfl)) pa_nil rfl) rfl)) (fun _ _=>rfl)) pa_nil rfl) rfl) rfl)))),?_⟩
    intro D H1 fo hD hfo g1
    have hn1:=g1.at hnd hnl
    have hl:(ns.map V.str).length=ns.length:=List.length_map _
    refine⟨_,rfl,rfl,_,rfl,ite2 (fun _=>?_) (fun c3=>?_)⟩
    ·refine⟨(by show 2≤sizeLine;decide),fun l hl=>?_⟩
     have nl':=g1.nd hl
     have n1:Go d H1 _:=.new g1.d hl (.lst [.str "away",.str "far"])
     refine⟨_,rfl,d,2,rfl,n1.d,by decide,by decide,fun H2 r g2 r0 r1'=>?_⟩
     have hs:=g2.at nl' (b:=l) upd_same
     obtain⟨zp,hzp,hap⟩:=str_get (ws:=[Str.ofString "away",Str.ofString "far"]) r0 (by show r < 2;exact r1')
     refine⟨l,_,_,_,rfl,rfl,SqL.of hs,hap,?_⟩
     have hn2:=(n1.trans g2).at hnd hn1
     refine⟨_,rfl,(by show 1≤sizeLine;decide),fun l3 hl3=>?_⟩
     have n3:Go d H2 _:=.new g2.d hl3 (.lst [.str "t"])
     have hl3':upd H2 l3 (.lst [.str "t"]) l3=some (.lst [.str "t"]):=upd_same
     refine⟨nl,l3,_,_,rfl,rfl,n3.at hnd hn2,hl3',small (by show _+1≤1000;omega),fun l4 hl4=>?_⟩
     have n4:Go d _ _:=.new n3.d hl4 (.lst (ns.map V.str++[.str "t"]))
     have nl4:=n3.nd hl4
     refine⟨_,rfl,_,rfl,nl,_,rfl,.inl (SqL.of (n4.at hnd (n3.at hnd hn2))),_,_,rfl,rfl,d,_,rfl,n4.d,by omega,by omega,fun H5 r5 g5 a0 a1=>?_⟩
     obtain⟨zt,hzt,hat⟩:=str_get (ws:=ns++[Str.ofString "t"]) (r:=r5) a0 (by rw [List.length_append];show _ < ((_+1:Nat):Int);omega)
     rw [List.map_append] at hat
     have hs5:=g5.at nl4 (b:=l4) upd_same
     refine⟨l4,_,_,_,rfl,rfl,SqL.of hs5,hat,(by show 3≤sizeLine;decide),fun p hp=>?_⟩
     rw [hD]
     obtain⟨b1,b2⟩:=away_ok zp hzp
     refine fin g1 (n1.trans (g2.trans (n3.trans (n4.trans g5)))) hp (k:=.name zp zt) (.name (SqT.of upd_same)) ⟨⟨b1,?_⟩,fun n hn e=>?_⟩ rfl rfl
     ·rcases List.mem_append.mp hzt with z|z
      ·exact⟨(hns zt z).sok,Nat.le_trans (hns zt z).2.1 (by decide)⟩
      ·rw [List.mem_singleton.mp z];exact t_ok
     ·rw [List.mem_singleton.mp hn] at e
      exact absurd e b2
    ·have hne:ns≠[]:=by
      rcases hfo with rfl|h
      ·exact absurd rfl c3
      ·exact h
     have hpos:=List.length_pos_iff.mpr hne
     refine⟨_,rfl,_,rfl,_,rfl,nl,_,rfl,.inl (SqL.of hn1),d,_,rfl,g1.d,by omega,by omega,fun H2 r g2 r0 r1'=>?_⟩
     obtain⟨zt,hzt,hat⟩:=str_get (ws:=ns) (r:=r) r0 (by omega)
     refine⟨nl,_,_,_,rfl,rfl,SqL.of (g2.at hnd hn1),hat,(by show 3≤sizeLine;decide),fun p hp=>?_⟩
     rw [hD]
     refine fin g1 g2 hp (k:=.name "" zt) (.name (SqT.of upd_same)) ⟨⟨e_ok,(hns zt hzt).sok,Nat.le_trans (hns zt hzt).2.1 (by decide)⟩,fun n hn _=>?_⟩ rfl rfl
     rw [List.mem_singleton.mp hn]
     exact hzt
   refine⟨_,@pss_cons _ _ _ _ _ (ps_if (PW.pt (pw_or (pt_cmpR op_eq (pv 3) pe_int (nomark _)) (pw_or1 (PW.pt (pw_and (pt_cmpR op_eq (pe_callB call_len_seq rfl ml PySem.boot_len (@pa_cons _ _ _ _ _ (pv 1) pa_nil rfl)) pe_int (nomark _)) (pw_and1 (pt_cmpR op_ne (pv 3) pe_int (nomark _)))))))) dN pss_nil) d3,?_⟩
   intro H1 fo g1
   have hn1:=g1.at hnd hnl
   refine⟨_,rfl,rfl,_,rfl,ite2 (fun _=>kN _ H1 fo rfl g1) (fun c2=>?_)⟩
   refine⟨_,rfl,nl,_,rfl,.inl (SqL.of hn1),rfl,_,rfl,ite2 (fun c0=>?_) (fun c0=>iteF (A:=True) (k3 _ H1 fo rfl (.inr fun e=>c0 (by rw [e]<;>rfl)) g1))⟩
   refine⟨_,rfl,rfl,_,rfl,ite2 (fun _=>kN _ H1 fo rfl g1) (fun c3=>k3 _ H1 fo rfl (.inl ?_) g1)⟩
   exact Classical.byContradiction fun e=>c3 (by
    show(!decide (V.int fo=V.int 3))=true
    rw [decide_eq_false (fun z=>e (by injection z))]
    rfl)
  refine⟨_,@pss_cons _ _ _ _ _ (ps_set (i:=3) scAnyK.nd rfl (Or.inl rfl) (pe_call GD hrD rfl mD kD bD .nil pass0 (@pa_cons _ _ _ _ _ (pv 0) (@pa_cons _ _ _ _ _ pe_int pa_nil rfl) rfl))) (@pss_cons _ _ _ _ _ (ps_if (PW.pt (pw_and (pt_cmpR op_ge (pv 2) pe_int (nomark _)) (pw_and1 (pt_cmpR op_lt (pv 3) pe_int (nomark _))))) (@pss_cons _ _ _ _ _ (ps_set (i:=4) scAnyK.nd rfl (Or.inl rfl) (pe_call GK hrK rfl mK kK bK .nil pass0 (@pa_cons _ _ _ _ _ (pv 0) (@pa_cons _ _ _ _ _ (pv 1) (@pa_cons _ _ _ _ _ (pe_op op_sub (pv 2) pe_int) pa_nil rfl) rfl) rfl))) (@pss_one _ _ _ (@ps_ret _ _ _ _ (@pe_tup _ _ _ _ _ (@pa_cons _ _ _ _ _ pe_str (@pa_cons _ _ _ _ _ (pv 4) (@pa_cons _ _ _ _ _ (pe_call GK hrK rfl mK kK bK .nil pass0 (@pa_cons _ _ _ _ _ (pv 0) (@pa_cons _ _ _ _ _ (pv 1) (@pa_cons _ _ _ _ _ (pe_op op_sub (pe_op op_sub (pv 2) pe_int) (pe_call GZ hrZ rfl mZ kZ bZ .nil pass0 (@pa_cons _ _ _ _ _ (pv 4) pa_nil rfl))) pa_nil rfl) rfl) rfl)) pa_nil rfl) rfl) rfl))))) pss_nil) d2),?_⟩
  refine⟨_,rfl,d,6,rfl,hd,by decide,by decide,fun H1 fo g1 f0 f1=>?_⟩
  have kt1:=g1.kt (K:=K) hd
  have hn1:=g1.at hnd hnl
  refine⟨_,rfl,_,_,rfl,rfl,_,rfl,ite2 (fun c=>?_) (fun c=>?_)⟩
  ·have c3:room≥3:=of_decide_eq_true c
   refine⟨_,rfl,_,_,rfl,rfl,_,rfl,ite2 (fun _=>?_) (fun _=>k2 _ _ g1)⟩
   refine⟨_,rfl,_,rfl,_,rfl,_,_,rfl,rfl,d,nl,_,ns,rfl,g1.d,hnd,hn1,h16,hns,by omega,by omega,by omega,fun H2 v1 a g2 hv1 ha wa _=>?_⟩
   have dw:=depth_words a
   have wp:=words_pos a
   have hn2:=g2.at hnd hn1
   refine⟨_,rfl,_,rfl,_,rfl,_,rfl,_,_,rfl,rfl,_,rfl,v1,a,rfl,hv1,by omega,_,_,rfl,rfl,d,nl,_,ns,rfl,g2.d,hnd,hn2,h16,hns,by omega,by omega,by omega,fun H3 v2 b g3 hv2 hb wb _=>⟨(by show 3≤sizeLine;decide),fun p hp=>?_⟩⟩
   have g4:Go d H3 _:=.new g3.d hp (.tup [.str "pair",v1,v2])
   refine q _ _ (.pair a b) (g1.trans (g2.trans (g3.trans g4))) (.pair (SqT.of upd_same) (kd_keep ((g3.trans g4).kt g2.d) hv1) (kd_keep (g4.kt g3.d) hv2)) ⟨⟨ha.1,hb.1⟩,fun n hn=>?_⟩ ?_ (fun h=>absurd h (by omega))
   ·rcases List.mem_append.mp hn with z|z
    ·exact ha.2 n z
    ·exact hb.2 n z
   ·show((1+a.words+b.words:Nat):Int)≤room
    omega
  ·exact iteF (k2 _ _ g1)
end
end K27
namespace K27
open PySem L2 Kk
abbrev Rows1:=List (Str × Kd)
abbrev Rows2:=List (Str × (List Kd × Kd))
def FcAt(K:PySem.W.Frag)(H:Hp)(kd fd:Addr)(m1:Rows1)(m2:Rows2):Prop:=∃kv1 kv2,H kd=some (.dK kv1)∧H fd=some (.dK kv2)∧PkAt (KdAt K H) kv1 m1∧PkAt (FunAt K H) kv2 m2
theorem fn_keep{K:PySem.W.Frag}{H H':Hp}{v:V}{f:List Kd × Kd}(e:Kt K H H')(h:FunAt K H v f):FunAt K H' v f:=h.keep e
theorem FcAt.go{K:PySem.W.Frag}{H H':Hp}{d kd fd:Addr}{m1:Rows1}{m2:Rows2}(hd:DL H d)(g:Go d H H')(h:FcAt K H kd fd m1 m2):FcAt K H' kd fd m1 m2:=by
 obtain⟨kv1,kv2,h1,h2,h3,h4⟩:=h
 have kt:=g.kt (K:=K) hd
 exact⟨kv1,kv2,g.at (dl_ne hd h1 nofun) h1,g.at (dl_ne hd h2 nofun) h2,h3.imp fun _ _ t=>kd_keep kt t,h4.imp fun _ _ t=>fn_keep kt t⟩
theorem FcAt.same{K:PySem.W.Frag}{H H':Hp}{kd fd:Addr}{m1:Rows1}{m2:Rows2}(s:Same H H')(h:FcAt K H kd fd m1 m2):FcAt K H' kd fd m1 m2:=by
 obtain⟨kv1,kv2,h1,h2,h3,h4⟩:=h
 have kt:Kt K H H':=fun a xs t=>s.tup t
 exact⟨kv1,kv2,s _ _ h1,s _ _ h2,h3.imp fun _ _ t=>kd_keep kt t,h4.imp fun _ _ t=>fn_keep kt t⟩
def KW(m1:Rows1)(k:Kd):Prop:=Kd.sm k∧k.words≤9∧∀n∈Kd.names k,n.1=""→look m1 n.2=some (ownK n.2)
structure WF(m1:Rows1)(m2:Rows2):Prop where
 n1:m1.length≤16
 n2:m2.length≤16
 nd1:(m1.map (·.1)).Nodup
 nd2:(m2.map (·.1)).Nodup
 w1:∀q∈m1,VW q.1
 w2:∀q∈m2,VW q.1
 k1:∀q∈m1,KW m1 q.2
 k2:∀q∈m2,q.2.1.length≤4∧∀k∈q.2.2::q.2.1,KW m1 k
theorem look_app{m:Rows1}{w z:Str}{k x:Kd}(h:look m z=some x):look (m++[(w,k)]) z=some x:=by
 unfold look at h ⊢
 rw [List.find?_append]
 obtain⟨q,hq,e⟩:=Option.map_eq_some_iff.mp h
 rw [hq]
 simp [e]
theorem look_new{m:Rows1}{w:Str}{k:Kd}(h:w∉m.map (·.1)):look (m++[(w,k)]) w=some k:=by
 unfold look
 rw [List.find?_append]
 have:m.find? (fun q=>decide (q.1=w))=none:=by
  rw [List.find?_eq_none]
  intro q hq e
  exact h (by rw [←of_decide_eq_true e];exact List.mem_map_of_mem hq)
 rw [this]
 simp
theorem KW.app{m:Rows1}{w:Str}{k x:Kd}(h:KW m x):KW (m++[(w,k)]) x:=⟨h.1,h.2.1,fun n hn e=>look_app (h.2.2 n hn e)⟩
theorem kw_of{m:Rows1}{hs:List Str}{k:Kd}(hh:∀z∈hs,look m z=some (ownK z))(h:KN hs k)(hw:k.words≤9):KW m k:=⟨h.1,hw,fun n hn e=>hh _ (h.2 n hn e)⟩
theorem take_snoc{ws:List Str}{i:Nat}{z:Str}(h:ws[i]?=some z):ws.take (i+1)=ws.take i++[z]:=by
 rw [List.take_add_one,h]
 rfl
theorem not_take{ws:List Str}{i:Nat}{z:Str}(nd:ws.Nodup)(h:ws[i]?=some z):z∉ws.take i:=fun m=>by
 obtain⟨j,hj,e⟩:=List.getElem_of_mem m
 have hj':j < i:=by rw [List.length_take] at hj;omega
 rw [List.getElem_take] at e
 obtain⟨hi,e2⟩:=List.getElem?_eq_some_iff.mp h
 have:=(List.getElem_inj nd).mp (e.trans e2.symm)
 omega
abbrev StF(d wl cl kd hl:Addr)(y:Option V):St:=[some (.ref d),some (.ref wl),some (.ref cl),some (.int 9),some (.ref kd),some (.ref hl),y,none,none,none]
def IvF(K:PySem.W.Frag)(H:Hp)(d wl cl kd hl:Addr)(ws:List Str)(i:Nat)(σ:St)(H4:Hp):Prop:=∃(kv1:List (Key × V)) (m1:Rows1) (hs:List Str) (y6:Option V),σ=StF d wl cl kd hl y6∧Go d H H4∧H4 kd=some (.dK kv1)∧H4 hl=some (.lst (hs.map V.str))∧hs.length≤i∧(∀z∈hs,VW z∧look m1 z=some (ownK z))∧PkAt (KdAt K H4) kv1 m1∧m1.map (·.1)=ws.take i∧∀q∈m1,KW m1 q.2
def Tn(K:PySem.W.Frag)(H H4:Hp)(d wl cl kd hl:Addr)(ws:List Str)(i:Nat)(z:Str):Prop:=∃(kv1:List (Key × V)) (m1:Rows1) (hs:List Str),Go d H H4∧H4 kd=some (.dK kv1)∧H4 hl=some (.lst (hs.map V.str))∧hs.length≤i∧(∀z∈hs,VW z∧look m1 z=some (ownK z))∧PkAt (KdAt K H4) kv1 m1∧VW z∧wl≠hl∧wl≠kd∧kv1.length < sizeLine∧i < 16∧z∉m1.map (·.1) ∧
 ∀(H5:Hp) (v:V) (k:Kd) (hs':List Str),Go d H H5→Kt K H4 H5→H5 hl=some (.lst (hs'.map V.str))→H5 kd=some (.dK kv1)→KdAt K H5 v k→KW (m1++[(z,k)]) k→hs'.length≤i+1→(∀x∈hs',VW x∧look (m1++[(z,k)]) x=some (ownK x))→IvF K H d wl cl kd hl ws (i+1) (StF d wl cl kd hl (some (.int (0+(i:Int))))) (upd H5 kd (.dK (putK kv1 (.inr z) v)))
def spFaceL(K:PySem.W.Frag):Sp:=fun vs H Q _=>∃(d wl cl:Addr) (ws fs:List Str),vs=[.ref d,.ref wl,.ref cl,.int 9]∧DL H d∧wl≠d∧cl≠d∧H wl=some (.lst (ws.map V.str))∧H cl=some (.lst (fs.map V.str))∧ws.length≤16∧fs.length≤16∧ws.Nodup∧fs.Nodup∧(∀z∈ws,VW z)∧(∀z∈fs,VW z) ∧
 ∀H' p kd fd m1 m2,Go d H H'→H kd=none→H fd=none→kd≠fd→H' p=some (.tup [.ref kd,.ref fd])→FcAt K H' kd fd m1 m2→WF m1 m2→Q (.ref p) H'
section
variable{P:Program}{w:World}{K:PySem.W.Frag}{mg:Str→Option Value}{base:Heap}
theorem scFaceL:FnScope ["_law_deal_here","_law_words_here","_law_calls","_law_room","_law_kinds","_law_hidden","_law_k","_law_funs","_law_f","_law_args"] ["_law_deal_here","_law_words_here","_law_calls","_law_room"] (defScope sFaceL):=⟨rfl,rfl,rfl,by decide +kernel,rfl,by decide +kernel,by decide +kernel⟩
set_option maxHeartbeats 0 in
theorem ok_faceL{f fD fK:Addr}{fd' fdD fdK:FuncData} (F:Fun K "_law_face" "_law_face" sFaceL f fd') (mr:mg "range"=none) (ml:mg "len"=none) (mt:mg "tuple"=none) (GD:FnOk P w K mg base CX0 1 fD fdD ["_law_deal_here","_law_many"] spDraw) (bD:Binds K fdD ["_law_deal_here","_law_many"] []) (kD:PySem.W.keepIn K (.ref fD)=true) (mD:mg "_law_draw"=some (.ref fD))
  (GK:FnOk P w K mg base CX0 19 fK fdK ["_law_deal_here","_law_names","_law_room"] (spAnyK K 9)) (bK:Binds K fdK ["_law_deal_here","_law_names","_law_room"] []) (kK:PySem.W.keepIn K (.ref fK)=true) (mK:mg "_law_any_kind"=some (.ref fK)):FnOk P w K mg base CX0 20 f fd' ["_law_deal_here","_law_words_here","_law_calls","_law_room"] (spFaceL K):=by
 refine F.ok (k:=19) scFaceL (fun vs H Q E h=>?_) (fun cdv A outer s H vs Q E hrK h=>?_)
 ·obtain⟨_,_,_,_,_,rfl,_⟩:=h
  rfl
 obtain⟨d,wl,cl,ws,fs,rfl,hd,nw,nc,hwl,hcl,lw,lc,ndw,ndc,vw,vc,q⟩:=h
 have hrD:Room 1 _:=hrK.mono (by decide)
 have hu:=hu_of hrK
 obtain⟨t3,d3,k3⟩:∃t,PSs (cxOf CX0 P w K mg base ["_law_deal_here","_law_words_here","_law_calls","_law_room","_law_kinds","_law_hidden","_law_k","_law_funs","_law_f","_law_args"] "_law_face" (defScope sFaceL) f cdv A outer s H E).nox (List.drop 3 (defBody sFaceL)) t ∧
   ∀(H1:Hp) (kd hl:Addr) (kv1:List (Key × V)) (m1:Rows1) (hs:List Str) (y6:Option V),Go d H H1→H kd=none→hl≠d→H1 kd=some (.dK kv1)→H1 hl=some (.lst (hs.map V.str))→hs.length≤16→(∀z∈hs,VW z∧look m1 z=some (ownK z))→PkAt (KdAt K H1) kv1 m1→WF m1 []→t { nx:=fun _ H'=>Q .non H',rt:=Q } [some (.ref d),some (.ref wl),some (.ref cl),some (.int 9),some (.ref kd),some (.ref hl),y6,none,none,none] H1:=by
  refine⟨_,@pss_cons _ _ _ _ _ (ps_set (i:=7) scFaceL.nd rfl (Or.inl rfl) pe_dnewK) (@pss_cons _ _ _ _ _ (ps_for PassesOwn.never rfl (pi_list (pv 2)) (pg_name (i:=8) scFaceL.nd rfl (Or.inl rfl)) (@pss_cons _ _ _ _ _ (ps_comp (i0:=9) scFaceL.nd rfl (Or.inl rfl) (own:=["_law_j"]) (caps:=["_law_deal_here","_law_hidden","_law_room"]) (κ:=[0,5,3]) rfl ⟨rfl,by decide +kernel,by decide +kernel,rfl,rfl,(fun y hy=>by simp only [List.mem_cons,List.not_mem_nil,or_false] at hy;rcases hy with rfl|rfl|rfl<;>rfl),(fun y hy=>by simp only [List.mem_cons,List.not_mem_nil,or_false] at hy;rcases hy with rfl|rfl|rfl<;>exact⟨.inl rfl,rfl,.inl rfl⟩)⟩ rfl (pi_range1 rfl mr (@pa_cons _ _ _ _ _ (pe_call GD hrD rfl mD kD bD .nil pass0 (@pa_cons _ _ _ _ _ (pv 0) (@pa_cons _ _ _ _ _ pe_int pa_nil rfl) rfl)) pa_nil rfl)) (fun _ _ _ _=>(pg_name (i:=0) (show(["_law_j","_law_deal_here","_law_hidden","_law_room"]:List Str).Nodup from by decide +kernel) rfl (Or.inl rfl))) (fun _ _ _ _=>(pe_call GK hrK rfl mK kK bK .nil pass0 (@pa_cons _ _ _ _ _ (pv 1) (@pa_cons _ _ _ _ _ (pv 2) (@pa_cons _ _ _ _ _ (pv 3) pa_nil rfl) rfl) rfl)))) (@pss_one _ _ _ (ps_dput hu (pv 7) (pv 8) (@pe_tup _ _ _ _ _ (@pa_cons _ _ _ _ _ (pe_callTy call_tuple_of rfl mt bootTuple (@pa_cons _ _ _ _ _ (pv 9) pa_nil rfl)) (@pa_cons _ _ _ _ _ (pe_call GK hrK rfl mK kK bK .nil pass0 (@pa_cons _ _ _ _ _ (pv 0) (@pa_cons _ _ _ _ _ (pv 5) (@pa_cons _ _ _ _ _ (pv 3) pa_nil rfl) rfl) rfl)) pa_nil rfl) rfl)) rfl)))) (@pss_one _ _ _ (@ps_ret _ _ _ _ (@pe_tup _ _ _ _ _ (@pa_cons _ _ _ _ _ (pv 4) (@pa_cons _ _ _ _ _ (pv 7) pa_nil rfl) rfl))))),?_⟩
  intro H1 kd hl kv1 m1 hs y6 g1 hkd0 nhl hkd hhl hs16 hhs hp1 W1
  intro fd hfd
  have g2:Go d H1 _:=.new g1.d hfd (.dK [])
  have nfd:=g1.nd hfd
  have kfd:kd≠fd:=fun z=>by rw [←z,hkd] at hfd;cases hfd
  have nkd:kd≠d:=dl_ne g1.d hkd nofun
  refine⟨_,rfl,cl,rfl,⟨_,SqL.of ((g1.trans g2).at nc hcl)⟩,for_list (K:=K) (xs:=fs.map V.str) (fun i σ H4=>∃(kv2:List (Key × V)) (m2:Rows2) (y8 y9:Option V),σ=[some (.ref d),some (.ref wl),some (.ref cl),some (.int 9),some (.ref kd),some (.ref hl),y6,some (.ref fd),y8,y9]∧Go d H1 H4∧H4 fd=some (.dK kv2)∧PkAt (FunAt K H4) kv2 m2∧m2.map (·.1)=fs.take i∧∀q∈m2,q.2.1.length≤4∧∀k∈q.2.2::q.2.1,KW m1 k)
   ⟨[],[],none,none,rfl,g2,upd_same,.nil,rfl,fun q hq=>nomatch hq⟩ ?_ ?_ ?_⟩
  ·rintro i σ H4 _ ⟨_,_,_,_,_,g4,_⟩
   exact SqL.of ((g1.trans g4).at nc hcl)
  ·rintro i y σ H4 hy ⟨kv2,m2,y8,y9,rfl,g4,hf4,hp2,hk2,hw2⟩
   rw [List.getElem?_map] at hy
   obtain⟨z,hz,rfl⟩:=Option.map_eq_some_iff.mp hy
   have hi:i < fs.length:=(List.getElem?_eq_some_iff.mp hz).1
   have l2:m2.length=i:=by
    have:=congrArg List.length hk2
    rw [List.length_map,List.length_take] at this
    omega
   refine⟨_,rfl,d,5,rfl,g4.d,by decide,by decide,fun H5 r g5 r0 r1=>⟨_,rfl,by omega,by omega,?_⟩⟩
   have hh5:=(g4.trans g5).at nhl hhl
   refine comp_fr (by omega) (fun j us H6=>Go d H5 H6∧∃ks:List Kd,KdsAt K H6 us ks∧(∀k∈ks,KW m1 k)∧ks.length=j) ⟨.refl g5.d,[],.nil,(fun k hk=>nomatch hk),rfl⟩ (fun j us H6 ⟨_,ks,h1,_,h3⟩=>by have:=h1.length;omega) ?_ ?_
   ·rintro j us H6 N hN hj ⟨g6,ks,hks,hkw,hkl⟩
    refine⟨rfl,tYes_go ⟨_,rfl,_,rfl,_,rfl,d,hl,9,hs,rfl,g6.d,nhl,g6.at nhl hh5,hs16,fun z hz=>(hhs z hz).1,by decide,by decide,by decide,fun H7 v k g7 hv hk hw _=>hN _ _ ⟨g6.trans g7,ks++[k],?_,?_,?_⟩⟩⟩
    ·exact(kds_keep (g7.kt g6.d) hks).append (one hv)
    ·intro x hx
     rcases List.mem_append.mp hx with h|h
     ·exact hkw x h
     ·rw [List.mem_singleton.mp h]
      exact kw_of (fun z hz=>(hhs z hz).2) hk (by omega)
    ·rw [List.length_append,hkl];rfl
   ·rintro us H6 D ⟨g6,ks,hks,hkw,hkl⟩ hD
    have n6:Go d H6 _:=.new g6.d hD (.lst us)
    have hks6:=kds_keep (n6.kt (K:=K) g6.d) hks
    refine⟨_,rfl,D,_,rfl,.inl ⟨SqL.of upd_same,fun ta hta=>?_⟩⟩
    have n7:Go d _ _:=.new n6.d hta (.tup us)
    have hks7:=kds_keep (n7.kt (K:=K) n6.d) hks6
    have g57:=g6.trans (n6.trans n7)
    refine⟨_,rfl,_,rfl,_,rfl,d,hl,9,hs,rfl,n7.d,nhl,g57.at nhl hh5,hs16,fun z hz=>(hhs z hz).1,by decide,by decide,by decide,fun H8 v k g8 hv hk hw _=>⟨(by show 2≤sizeLine;decide),fun pf hpf=>?_⟩⟩
    have n9:Go d H8 _:=.new g8.d hpf (.tup [.ref ta,v])
    have nta:ta≠d:=n6.nd hta
    have g49:=g5.trans (g57.trans (g8.trans n9))
    have hf9:=g49.at nfd hf4
    have hkf:FunAt K _ (.ref pf) (ks,k):=⟨pf,ta,v,us,rfl,SqT.of upd_same,SqT.of ((g8.trans n9).at nta upd_same),kds_keep ((g8.trans n9).kt n7.d) hks7,kd_keep (n9.kt g8.d) hv⟩
    have kt9:=g49.kt (K:=K) g4.d
    have hlen2:kv2.length=m2.length:=Paired.length hp2
    refine⟨_,rfl,_,rfl,fd,_,rfl,DPut.k (k:=.inr z) hf9 (Nat.lt_of_lt_of_le (Nat.lt_succ_self _) (small (by omega))),?_⟩
    have ktf:Kt K _ (upd _ fd (.dK (putK kv2 (.inr z) (.ref pf)))):=fun a xs t=>sqt_dk hf9 t
    have hfd0:H1 fd=none:=hfd
    refine⟨_,m2++[(z,(ks,k))],_,_,rfl,(g4.trans g49).put hfd0 nfd _,upd_same,?_,?_,?_⟩
    ·refine PkAt.put ((hp2.imp fun _ _ t=>fn_keep kt9 t).imp fun _ _ t=>fn_keep ktf t) ?_ (fn_keep ktf hkf)
     rw [hk2]
     exact not_take ndc hz
    ·rw [List.map_append,hk2,take_snoc hz];rfl
    ·intro qq hq
     rcases List.mem_append.mp hq with h|h
     ·exact hw2 qq h
     ·rw [List.mem_singleton.mp h]
      refine⟨by show ks.length≤4;omega,fun x hx=>?_⟩
      rcases List.mem_cons.mp hx with rfl|hx
      ·exact kw_of (fun z hz=>(hhs z hz).2) hk (by omega)
      ·exact hkw x hx
  ·rintro σ H4 ⟨kv2,m2,y8,y9,rfl,g4,hf4,hp2,hk2,hw2⟩
   rw [List.length_map,List.take_length] at hk2
   have l2:m2.length=fs.length:=by
    have:=congrArg List.length hk2
    rwa [List.length_map] at this
   refine⟨_,rfl,_,rfl,(by show 2≤sizeLine;decide),fun p hp=>?_⟩
   have n5:Go d H4 _:=.new g4.d hp (.tup [.ref kd,.ref fd])
   have g15:=g4.trans n5
   refine q _ p kd fd m1 m2 (g1.trans g15) hkd0 (g1.free hfd) kfd upd_same ⟨kv1,kv2,g15.at nkd hkd,n5.at nfd hf4,hp1.imp fun _ _ t=>kd_keep (g15.kt g1.d) t,hp2.imp fun _ _ t=>fn_keep (n5.kt g4.d) t⟩ ⟨W1.n1,by omega,W1.nd1,by rw [hk2];exact ndc,W1.w1,fun qq hq=>vc _ (by rw [←hk2];exact List.mem_map_of_mem hq),W1.k1,hw2⟩
 have turn:∀{kd hl:Addr} {i:Nat} {z:Str} {H4:Hp} {y:Option V},H kd=none→H hl=none→kd≠d→hl≠d→kd≠hl→ws[i]?=some z→IvF K H d wl cl kd hl ws i (StF d wl cl kd hl y) H4→Tn K H H4 d wl cl kd hl ws i z:=fun {kd hl i z H4 y} hkd hhl0 nkd nhl khl hz ⟨kv1,m1,hs,y6,e,g4,hk4,hh4,hsl,hhs,hp1,hkeys,hkw⟩=>by
  have hi':i < ws.length:=(List.getElem?_eq_some_iff.mp hz).1
  have hzn:z∉m1.map (·.1):=by rw [hkeys];exact not_take ndw hz
  have l1:m1.length=i:=by
   have:=congrArg List.length hkeys
   rw [List.length_map,List.length_take] at this
   omega
  have hlen:kv1.length=m1.length:=Paired.length hp1
  refine⟨kv1,m1,hs,g4,hk4,hh4,hsl,hhs,hp1,vw z (List.mem_of_getElem? hz),(fun e=>by rw [e,hhl0] at hwl;cases hwl),(fun e=>by rw [e,hkd] at hwl;cases hwl),Nat.lt_of_lt_of_le (Nat.lt_succ_self _) (small (by omega)),by omega,hzn,fun H5 v k hs' g5 kt5 hh5 hk5 hv hkw' hsl' hhs'=>?_⟩
  have ktf:Kt K H5 (upd H5 kd (.dK (putK kv1 (.inr z) v))):=fun a xs t=>sqt_dk hk5 t
  refine⟨_,m1++[(z,k)],hs',_,rfl,g5.put hkd nkd _,upd_same,by rw [upd_ne (Ne.symm khl)];exact hh5,hsl',hhs',?_,by rw [List.map_append,hkeys,take_snoc hz];rfl,fun qq hq=>?_⟩
  ·exact PkAt.put ((hp1.imp fun _ _ t=>kd_keep kt5 t).imp fun _ _ t=>kd_keep ktf t) hzn (kd_keep ktf hv)
  ·rcases List.mem_append.mp hq with h|h
   ·exact(hkw qq h).app
   ·rw [List.mem_singleton.mp h];exact hkw'
 obtain⟨tA,dA,kA⟩:∃t,PSs (cxOf CX0 P w K mg base ["_law_deal_here","_law_words_here","_law_calls","_law_room","_law_kinds","_law_hidden","_law_k","_law_funs","_law_f","_law_args"] "_law_face" (defScope sFaceL) f cdv A outer s H E).nox (ifT ((forB ((defBody sFaceL).getD 2 dS)).getD 0 dS)) t ∧
   ∀(D:Ends) (kd hl:Addr) (i:Nat) (z:Str) (H4 H5:Hp),kd≠d→hl≠d→kd≠hl→H hl=none→ws[i]?=some z→Tn K H H4 d wl cl kd hl ws i z→Go d H4 H5→(∀σ H6,IvF K H d wl cl kd hl ws (i+1) σ H6→D.nx σ H6)→t D (StF d wl cl kd hl (some (.int (0+(i:Int))))) H5:=by
  refine⟨_,@pss_cons _ _ _ _ _ (ps_expr (pe_bm PySem.F.plainAttrs_list PySem.F.slot_list_append PySem.F.type_list_append mt_append (pv 5) (@pa_cons _ _ _ _ _ (pe_ix ix_list (pv 1) (pv 6) (fun _ _=>rfl)) pa_nil rfl))) (@pss_one _ _ _ (ps_dput hu (pv 4) (pe_ix ix_list (pv 1) (pv 6) (fun _ _=>rfl)) (@pe_tup _ _ _ _ _ (@pa_cons _ _ _ _ _ pe_str (@pa_cons _ _ _ _ _ pe_str (@pa_cons _ _ _ _ _ (pe_ix ix_list (pv 1) (pv 6) (fun _ _=>rfl)) pa_nil rfl) rfl) rfl)) rfl)),?_⟩
  intro D kd hl i z H4 H5 nkd nhl khl hhl0 hz ⟨kv1,m1,hs,g4,hk4,hh4,hsl,hhs,hp1,hvz,nwh,nwk,small2,hi16,hzn,fin⟩ g5 hD
  have hat:atI (ws.map V.str) (0+(i:Int))=some (.str z):=by
   rw [Int.zero_add]
   exact atI_nat (by rw [List.getElem?_map,hz];rfl)
  have hk5:=g5.at nkd hk4
  have hh5:=g5.at nhl hh4
  have hw5:=(g4.trans g5).at nw hwl
  refine⟨_,rfl,.inl ⟨rfl,_,SqL.of hh5⟩,_,rfl,_,rfl,wl,_,_,_,rfl,rfl,SqL.of hw5,hat,hl,_,_,rfl,rfl,hh5,Nat.lt_of_lt_of_le (Nat.lt_succ_self _) (small (by rw [List.length_map];omega)),?_⟩
  have e1:hs.map V.str++[V.str z]=(hs++[z]).map V.str:=by rw [List.map_append];rfl
  rw [e1]
  have g6:Go d H (upd H5 hl (.lst ((hs++[z]).map V.str))):=(g4.trans g5).put hhl0 nhl _
  have kt6:Kt K H4 (upd H5 hl (.lst ((hs++[z]).map V.str))):=fun a xs t=>sqt_upd hh5 (g5.kt g4.d a xs t)
  have hw6:=g6.at nw hwl
  have hh6:upd H5 hl (.lst ((hs++[z]).map V.str)) hl=some (.lst ((hs++[z]).map V.str)):=upd_same
  have hk6:upd H5 hl (.lst ((hs++[z]).map V.str)) kd=some (.dK kv1):=by rw [upd_ne khl];exact hk5
  generalize upd H5 hl (.lst ((hs++[z]).map V.str))=H6 at g6 kt6 hw6 hh6 hk6
  refine⟨_,rfl,_,rfl,wl,_,_,_,rfl,rfl,SqL.of hw6,hat,(by show 3≤sizeLine;decide),fun p hp=>?_⟩
  have n7:Go d H6 _:=.new g6.d hp (.tup [.str "name",.str "",.str z])
  have g7:=g6.trans n7
  refine⟨_,rfl,_,rfl,_,rfl,wl,_,_,_,rfl,rfl,SqL.of (g7.at nw hwl),hat,kd,_,rfl,DPut.k (k:=.inr z) (n7.at nkd hk6) small2,hD _ _ ?_⟩
  refine fin _ (.ref p) (ownK z) (hs++[z]) g7 (fun a xs t=>n7.kt g6.d a xs (kt6 a xs t)) (n7.at nhl hh6) (n7.at nkd hk6) (.name (SqT.of upd_same)) ⟨⟨e_ok,hvz.sok,Nat.le_trans hvz.2.1 (by decide)⟩,(by show 1≤9;decide),fun n hn _=>?_⟩ (by rw [List.length_append];show hs.length+1≤_;omega) fun x hx=>?_
  ·rw [List.mem_singleton.mp hn]
   exact look_new hzn
  ·rcases List.mem_append.mp hx with h|h
   ·exact⟨(hhs x h).1,look_app (hhs x h).2⟩
   ·rw [List.mem_singleton.mp h]
    exact⟨hvz,look_new hzn⟩
 obtain⟨tB,dB,kB⟩:∃t,PSs (cxOf CX0 P w K mg base ["_law_deal_here","_law_words_here","_law_calls","_law_room","_law_kinds","_law_hidden","_law_k","_law_funs","_law_f","_law_args"] "_law_face" (defScope sFaceL) f cdv A outer s H E).nox (ifE ((forB ((defBody sFaceL).getD 2 dS)).getD 0 dS)) t ∧
   ∀(D:Ends) (kd hl:Addr) (i:Nat) (z:Str) (H4 H5:Hp),kd≠d→hl≠d→kd≠hl→H hl=none→ws[i]?=some z→Tn K H H4 d wl cl kd hl ws i z→Go d H4 H5→(∀σ H6,IvF K H d wl cl kd hl ws (i+1) σ H6→D.nx σ H6)→t D (StF d wl cl kd hl (some (.int (0+(i:Int))))) H5:=by
  refine⟨_,@pss_one _ _ _ (ps_dput hu (pv 4) (pe_ix ix_list (pv 1) (pv 6) (fun _ _=>rfl)) (pe_call GK hrK rfl mK kK bK .nil pass0 (@pa_cons _ _ _ _ _ (pv 0) (@pa_cons _ _ _ _ _ (pv 5) (@pa_cons _ _ _ _ _ (pv 3) pa_nil rfl) rfl) rfl)) rfl),?_⟩
  intro D kd hl i z H4 H5 nkd nhl khl hhl0 hz ⟨kv1,m1,hs,g4,hk4,hh4,hsl,hhs,hp1,hvz,nwh,nwk,small2,hi16,hzn,fin⟩ g5 hD
  have hat:atI (ws.map V.str) (0+(i:Int))=some (.str z):=by
   rw [Int.zero_add]
   exact atI_nat (by rw [List.getElem?_map,hz];rfl)
  have hk5:=g5.at nkd hk4
  have hh5:=g5.at nhl hh4
  refine⟨_,rfl,_,rfl,_,rfl,d,hl,9,hs,rfl,g5.d,nhl,hh5,by omega,fun z hz=>(hhs z hz).1,by decide,by decide,by decide,fun H6 v k g6 hv hk hw _=>?_⟩
  have g46:=g5.trans g6
  have g7:=g4.trans g46
  refine⟨_,rfl,_,rfl,_,rfl,wl,_,_,_,rfl,rfl,SqL.of (g7.at nw hwl),hat,kd,_,rfl,DPut.k (k:=.inr z) (g6.at nkd hk5) small2,hD _ _ ?_⟩
  exact fin _ v k hs g7 (g46.kt g4.d) (g6.at nhl hh5) (g6.at nkd hk5) hv (kw_of (fun x hx=>(hhs x hx).2) hk (by omega)).app (by omega) fun x hx=>⟨(hhs x hx).1,look_app (hhs x hx).2⟩
 refine⟨_,@pss_cons _ _ _ _ _ (ps_set (i:=4) scFaceL.nd rfl (Or.inl rfl) pe_dnewK) (@pss_cons _ _ _ _ _ (ps_set (i:=5) scFaceL.nd rfl (Or.inr rfl) (pe_lst pa_nil)) (@pss_cons _ _ _ _ _ (ps_for PassesOwn.never rfl (pi_range1 rfl mr (@pa_cons _ _ _ _ _ (pe_callB call_len_seq rfl ml PySem.boot_len (@pa_cons _ _ _ _ _ (pv 1) pa_nil rfl)) pa_nil rfl)) (pg_name (i:=6) scFaceL.nd rfl (Or.inl rfl)) (@pss_one _ _ _ (ps_if (PW.pt (pw_or (pt_cmpR op_eq (pv 6) pe_int (nomark _)) (pw_or1 (pt_cmpR op_eq (pe_call GD hrD rfl mD kD bD .nil pass0 (@pa_cons _ _ _ _ _ (pv 0) (@pa_cons _ _ _ _ _ pe_int pa_nil rfl) rfl)) pe_int (nomark _))))) dA dB))) d3)),?_⟩
 intro kd hkd
 have g1:Go d H _:=.new hd hkd (.dK [])
 refine⟨(by show 0≤sizeLine;decide),fun hl hhl=>?_⟩
 have g2:Go d _ _:=.new g1.d hhl (.lst [])
 have nhl:=g1.nd hhl
 have nkd:kd≠d:=(Go.refl hd).nd hkd
 have khl:kd≠hl:=fun z=>by rw [←z,upd_same] at hhl;cases hhl
 have hhl0:=g1.free hhl
 have hkd2:=g2.at nkd (b:=kd) upd_same
 refine⟨_,rfl,wl,_,rfl,.inl (SqL.of ((g1.trans g2).at nw hwl)),_,rfl,(by show -(2 ^ 62)≤((ws.map V.str).length:Int);omega),(by show((ws.map V.str).length:Int) < 2 ^ 62;rw [List.length_map];omega),?_⟩
 have g12:=g1.trans g2
 refine for_range (IvF K H d wl cl kd hl ws)
  ⟨[],[],[],none,rfl,g12,hkd2,upd_same,Nat.le_refl _,(fun z hz=>nomatch hz),.nil,rfl,fun q hq=>nomatch hq⟩ ?_ ?_
 ·rintro i σ H4 hi ⟨kv1,m1,hs,y6,rfl,hI⟩
  have hi':i < ws.length:=by rw [List.length_map] at hi;omega
  have hz:ws[i]?=some ws[i]:=List.getElem?_eq_getElem hi'
  have T:=turn (y:=y6) hkd hhl0 nkd nhl khl hz ⟨kv1,m1,hs,y6,rfl,hI⟩
  have g4:=hI.1
  refine⟨_,rfl,rfl,_,rfl,ite2 (fun _=>kA _ kd hl i _ H4 H4 nkd nhl khl hhl0 hz T (.refl g4.d) fun _ _ h=>h) (fun _=>?_)⟩
  refine⟨_,rfl,d,3,rfl,g4.d,by decide,by decide,fun H5 r g5 _ _=>⟨rfl,_,rfl,ite2 (fun _=>kA _ kd hl i _ H4 H5 nkd nhl khl hhl0 hz T g5 fun _ _ h=>h) (fun _=>kB _ kd hl i _ H4 H5 nkd nhl khl hhl0 hz T g5 fun _ _ h=>h)⟩⟩
 ·rintro σ H4 ⟨kv1,m1,hs,y6,rfl,g4,hk4,hh4,hsl,hhs,hp1,hkeys,hkw⟩
  have hl2:((ws.map V.str).length:Int).toNat=ws.length:=by rw [List.length_map];omega
  rw [hl2] at hkeys hsl
  rw [List.take_length] at hkeys
  have l1:m1.length=ws.length:=by
   have:=congrArg List.length hkeys
   rwa [List.length_map] at this
  exact k3 H4 kd hl kv1 m1 hs y6 g4 hkd nhl hk4 hh4 (by omega) hhs hp1 ⟨by omega,by decide,by rw [hkeys];exact ndw,List.nodup_nil,fun qq hq=>vw _ (by rw [←hkeys];exact List.mem_map_of_mem hq),fun q hq=>(nomatch hq),hkw,fun q hq=>(nomatch hq)⟩
end
end K27
namespace K27
open PySem L2 Kk
def spPutL(K:PySem.W.Frag)(n:Nat):Sp:=fun vs H Q _=>∃(x:V) (g:Addr) (k:Kd) (gkv:List (Key × V)) (gl:Rows1),vs=[x,.ref g]∧KdAt K H x k∧Kd.depth k≤n∧H g=some (.dK gkv)∧PkAt (KdAt K H) gkv gl ∧
 ∀H' v,Same H H'→KdAt K H' v (Kd.put (ownG gl) k)→Q v H'
def putP(G:Str × Str→Option Kd)(q:Str × Kd):Str × Kd:=(q.1,Kd.put G q.2)
def putQ(G:Str × Str→Option Kd)(q:Str × (List Kd × Kd)):Str × (List Kd × Kd):=(q.1,putFn G q.2)
def spAllL(K:PySem.W.Frag):Sp:=fun vs H Q _=>∃(kd fd g:Addr) (m1:Rows1) (m2:Rows2) (gkv:List (Key × V)) (gl:Rows1),vs=[.ref kd,.ref fd,.ref g]∧FcAt K H kd fd m1 m2∧WF m1 m2∧H g=some (.dK gkv)∧PkAt (KdAt K H) gkv gl∧g≠kd∧g≠fd ∧
 ∀H' p kd' fd',Same H H'→H kd'=none→H fd'=none→kd'≠fd'→H' p=some (.tup [.ref kd',.ref fd'])→FcAt K H' kd' fd' (m1.map (putP (ownG gl))) (m2.map (putQ (ownG gl)))→Q (.ref p) H'
theorem KW.depth{m:Rows1}{k:Kd}(h:KW m k):Kd.depth k≤9:=Nat.le_trans (depth_words k) h.2.1
theorem own_no{gl:Rows1}{q t:Str} (h:q≠""):ownG gl (q,t)=none:=if_neg h
theorem own_yes{gl:Rows1}{t:Str}:ownG gl ("",t)=look gl t:=if_pos rfl
theorem Walk.base{K:PySem.W.Frag}{H0 H H3:Hp}{d:Addr}{o:Obj}{kv:List (Key × V)}(s:Same H0 H)(w:Walk K H H3 d o kv):Walk K H0 H3 d o kv:=⟨fun b u hb nb=>w.old b u (s _ _ hb) nb,w.fz,fun a xs t=>w.tup a xs (s.tup t)⟩
theorem Walk.put{K:PySem.W.Frag}{H H3:Hp}{d c:Addr}{o:Obj}{kv ckv:List (Key × V)}{x:HO}(w:Walk K H H3 d o kv)(hc:H c=none)(n:c≠d)(hd:H3 c=some (.dK ckv)):Walk K H (upd H3 c x) d o kv :=
 ⟨fun b u hb nb=>by rw [upd_ne (fun z=>by rw [z,hc] at hb;cases hb)];exact w.old b u hb nb,by rw [upd_ne (Ne.symm n)];exact w.fz,fun a xs t=>sqt_dk hd (w.tup a xs t)⟩
section
variable{P:Program}{w:World}{K:PySem.W.Frag}{mg:Str→Option Value}{base:Heap}
theorem scPutL:FnScope ["_law_kind","_law_given"] ["_law_kind","_law_given"] (defScope sPutL):=⟨rfl,rfl,rfl,by decide +kernel,rfl,by decide +kernel,by decide +kernel⟩
theorem ok_putL{f:Addr}{fd:FuncData} (F:Fun K "_law_put" "_law_put" sPutL f fd) (bP:Binds K fd ["_law_kind","_law_given"] []) (kP:PySem.W.keepIn K (.ref f)=true) (mP:mg "_law_put"=some (.ref f)) :
  ∀n,FnOk P w K mg base CX0 n f fd ["_law_kind","_law_given"] (spPutL K n)
 |0=>⟨fun vs H Q E h=>by obtain⟨x,g,k,kvs,G,rfl,_⟩:=h;rfl,fun A outer s H args us vs Q E _ _ _ _ h=>by
   obtain⟨x,g,k,kvs,G,_,_,hd,_⟩:=h
   have:=depth_pos k
   omega⟩
 |n+1=>by
  have GP:=ok_putL F bP kP mP n
  refine F.ok scPutL (fun vs H Q E h=>?_) (fun cdv A outer s H vs Q E hrP h=>?_)
  ·obtain⟨x,g,k,kvs,G,rfl,_⟩:=h
   rfl
  obtain⟨x,g,k,kvs,gl,rfl,hk,hd,hg,hG,q⟩:=h
  have hu:=hu_of hrP
  refine⟨_,@pss_cons _ _ _ _ _ (ps_if (pt_cmpR op_eq (pe_ix ix_tup (pv 0) pe_int (fun _ _=>rfl)) pe_str (nomark _)) (@pss_one _ _ _ (@ps_ret _ _ _ _ (@pe_tup _ _ _ _ _ (@pa_cons _ _ _ _ _ pe_str (@pa_cons _ _ _ _ _ (pe_call GP hrP rfl mP kP bP .nil pass0 (@pa_cons _ _ _ _ _ (pe_ix ix_tup (pv 0) pe_int (fun _ _=>rfl)) (@pa_cons _ _ _ _ _ (pv 1) pa_nil rfl) rfl)) (@pa_cons _ _ _ _ _ (pe_call GP hrP rfl mP kP bP .nil pass0 (@pa_cons _ _ _ _ _ (pe_ix ix_tup (pv 0) pe_int (fun _ _=>rfl)) (@pa_cons _ _ _ _ _ (pv 1) pa_nil rfl) rfl)) pa_nil rfl) rfl) rfl)))) pss_nil) (@pss_cons _ _ _ _ _ (ps_if (PW.pt (pw_and (pt_cmpR op_eq (pe_ix ix_tup (pv 0) pe_int (fun _ _=>rfl)) pe_str (nomark _)) (pw_and1 (pt_cmpR op_eq (pe_ix ix_tup (pv 0) pe_int (fun _ _=>rfl)) pe_str (nomark _))))) (@pss_one _ _ _ (@ps_ret _ _ _ _ (pe_dget2 hu (pv 1) (pe_ix ix_tup (pv 0) pe_int (fun _ _=>rfl)) (pv 0) ⟨rfl,rfl,rfl,rfl⟩))) pss_nil) (@pss_one _ _ _ (@ps_ret _ _ _ _ (pv 0)))),?_⟩
  cases hk with
  |@num p m t =>
   refine⟨_,rfl,_,_,_,_,rfl,rfl,t,at0,rfl,_,rfl,ite2 (fun c=>absurd c (by decide +kernel)) (fun _=>?_)⟩
   refine⟨_,rfl,_,_,_,_,rfl,rfl,t,at0,rfl,_,rfl,ite2 (fun c=>absurd c (by decide +kernel)) (fun _=>iteF ?_)⟩
   exact⟨_,rfl,q _ _ (Same.refl _) (.num t)⟩
  |@name p a b t =>
   refine⟨_,rfl,_,_,_,_,rfl,rfl,t,at0,rfl,_,rfl,ite2 (fun c=>absurd c (by decide +kernel)) (fun _=>?_)⟩
   refine⟨_,rfl,_,_,_,_,rfl,rfl,t,at0,rfl,_,rfl,ite2 (fun _=>?_) (fun c=>absurd (by decide +kernel) c)⟩
   refine⟨_,rfl,_,_,_,_,rfl,rfl,t,at1,rfl,_,rfl,ite2 (fun c=>?_) (fun c=>?_)⟩
   ·have e:a="":=V.str.inj (of_decide_eq_true c)
    subst e
    refine⟨_,rfl,g,rfl,.inl ⟨_,.inl hg⟩,_,rfl,_,_,_,_,rfl,rfl,t,at2,_,rfl,_,.inl ⟨_,.inr b,.inl hg,rfl,rfl⟩,q _ _ (Same.refl _) ?_⟩
    show KdAt K _ _ ((ownG gl ("",b)).getD (.name "" b))
    rw [own_yes]
    rcases look_val hG b with ⟨h1,h2⟩|⟨v,k',h1,h2,h3⟩
    ·rw [h1,h2]
     exact .name t
    ·rw [h1,h2]
     exact h3
   ·have e:a≠"":=fun z=>c (decide_eq_true (by rw [z]))
    refine⟨_,rfl,q _ _ (Same.refl _) ?_⟩
    show KdAt K _ _ ((ownG gl (a,b)).getD (.name a b))
    rw [own_no e]
    exact .name t
  |@pair p y z a b t ha hb =>
   have hd':1+max (Kd.depth a) (Kd.depth b)≤n+1:=hd
   refine⟨_,rfl,_,_,_,_,rfl,rfl,t,at0,rfl,_,rfl,ite2 (fun _=>?_) (fun c=>absurd (by decide +kernel) c)⟩
   refine⟨_,rfl,_,_,_,_,rfl,rfl,t,at1,_,rfl,y,g,a,kvs,gl,rfl,ha,by omega,hg,hG,fun H1 v1 s1 k1=>?_⟩
   refine⟨_,rfl,_,_,_,_,rfl,rfl,s1.tup t,at2,_,rfl,z,g,b,kvs,gl,rfl,hb.same s1,by omega,s1 _ _ hg,hG.imp fun _ _ t=>t.same s1,fun H2 v2 s2 k2=>?_⟩
   refine⟨(by show 3≤sizeLine;decide),fun c hc=>q _ _ (same_trans (same_trans s1 s2) (same_new hc _)) ?_⟩
   exact .pair (SqT.of upd_same) ((k1.same s2).same (same_new hc _)) (k2.same (same_new hc _))
theorem scAllL:FnScope ["_law_kinds","_law_funs","_law_given","_law_some","_law_t","_law_calls","_law_f"] ["_law_kinds","_law_funs","_law_given"] (defScope sAllL):=⟨rfl,rfl,rfl,by decide +kernel,rfl,by decide +kernel,by decide +kernel⟩
set_option maxHeartbeats 0 in
theorem ok_allL{f fP:Addr}{fd' fdP:FuncData} (F:Fun K "_law_all" "_law_all" sAllL f fd') (mt:mg "tuple"=none) (GP:FnOk P w K mg base CX0 9 fP fdP ["_law_kind","_law_given"] (spPutL K 9)) (bP:Binds K fdP ["_law_kind","_law_given"] []) (kP:PySem.W.keepIn K (.ref fP)=true) (mP:mg "_law_put"=some (.ref fP)):FnOk P w K mg base CX0 10 f fd' ["_law_kinds","_law_funs","_law_given"] (spAllL K):=by
 refine F.ok (k:=9) scAllL (fun vs H Q E h=>?_) (fun cdv A outer s H vs Q E hrP h=>?_)
 ·obtain⟨_,_,_,_,_,_,_,rfl,_⟩:=h
  rfl
 obtain⟨kd,fd,g,m1,m2,gkv,gl,rfl,⟨kv1,kv2,hkd,hfd,hp1,hp2⟩,W,hg,hG,ngk,ngf,q⟩:=h
 have hu:=hu_of hrP
 obtain⟨t2,d2,k2⟩:∃t,PSs (cxOf CX0 P w K mg base ["_law_kinds","_law_funs","_law_given","_law_some","_law_t","_law_calls","_law_f"] "_law_all" (defScope sAllL) f cdv A outer s H E).nox (List.drop 2 (defBody sAllL)) t ∧
   ∀(H1:Hp) (sd:Addr) (kvs:List (Key × V)) (y4:Option V),Same H H1→H sd=none→H1 sd=some (.dK kvs)→PkAt (KdAt K H1) kvs (m1.map (putP (ownG gl)))→t { nx:=fun _ H'=>Q .non H',rt:=Q } [some (.ref kd),some (.ref fd),some (.ref g),some (.ref sd),y4,none,none] H1:=by
  refine⟨_,@pss_cons _ _ _ _ _ (ps_set (i:=5) scAllL.nd rfl (Or.inl rfl) pe_dnewK) (@pss_cons _ _ _ _ _ (ps_thaw (ps_for PassesOwn.never rfl (pi_keys (pv 1)) (pg_name (i:=6) scAllL.nd rfl (Or.inl rfl)) (@pss_one _ _ _ (ps_dput hu (pv 5) (pv 6) (@pe_tup _ _ _ _ _ (@pa_cons _ _ _ _ _ (pe_callTy call_tuple_of rfl mt bootTuple (@pa_cons _ _ _ _ _ (pe_comp (own:=["_law_kind"]) (caps:=["_law_given"]) (κ:=[2]) rfl ⟨rfl,by decide +kernel,by decide +kernel,rfl,rfl,(fun y hy=>by simp only [List.mem_cons,List.not_mem_nil,or_false] at hy;rcases hy with rfl<;>rfl),(fun y hy=>by simp only [List.mem_cons,List.not_mem_nil,or_false] at hy;rcases hy with rfl<;>exact⟨.inl rfl,rfl,.inl rfl⟩)⟩ rfl (pi_tup (pe_ix ix_tup (pe_dget hu (pv 1) (pv 6) (fun _ _=>rfl)) pe_int (fun _ _=>rfl))) (fun _ _ _ _=>(pg_name (i:=0) (show(["_law_kind","_law_given"]:List Str).Nodup from by decide +kernel) rfl (Or.inl rfl))) (fun _ _ _ _=>(pe_call GP hrP rfl mP kP bP .nil pass0 (@pa_cons _ _ _ _ _ (pv 0) (@pa_cons _ _ _ _ _ (pv 1) pa_nil rfl) rfl)))) pa_nil rfl)) (@pa_cons _ _ _ _ _ (pe_call GP hrP rfl mP kP bP .nil pass0 (@pa_cons _ _ _ _ _ (pe_ix ix_tup (pe_dget hu (pv 1) (pv 6) (fun _ _=>rfl)) pe_int (fun _ _=>rfl)) (@pa_cons _ _ _ _ _ (pv 2) pa_nil rfl) rfl)) pa_nil rfl) rfl)) rfl)))) (@pss_one _ _ _ (@ps_ret _ _ _ _ (@pe_tup _ _ _ _ _ (@pa_cons _ _ _ _ _ (pv 3) (@pa_cons _ _ _ _ _ (pv 5) pa_nil rfl) rfl))))),?_⟩
  intro H1 sd kvs y4 s1 hsd0 hsd hps cd hcd
  have s2:=same_new hcd (.dK [])
  have hcd0:=Same.free s1 hcd
  have nsc:sd≠cd:=fun z=>by rw [←z,hsd] at hcd;cases hcd
  have hf2:=s2 _ _ (s1 _ _ hfd)
  have ncf:cd≠fd:=fun z=>by rw [z,s1 _ _ hfd] at hcd;cases hcd
  refine⟨_,rfl,fd,kv2,rfl,hf2,fun o=>?_⟩
  have hlen:kv2.length=m2.length:=Paired.length hp2
  refine for_keys (fun i σ H4=>∃(y6:Option V) (ckv:List (Key × V)),σ=[some (.ref kd),some (.ref fd),some (.ref g),some (.ref sd),y4,some (.ref cd),y6]∧Walk K H1 H4 fd o kv2∧H4 cd=some (.dK ckv)∧PkAt (FunAt K H4) ckv ((m2.take i).map (putQ (ownG gl)))) ?_ ?_ ?_ ?_
  ·exact⟨none,[],rfl,(Walk.start hf2).base s2,by rw [upd_ne ncf];exact upd_same,.nil⟩
  ·rintro i σ H4 _ ⟨_,_,_,wk,_⟩
   exact wk.fz
  ·rintro i pr σ H4 hpr ⟨y6,ckv,rfl,wk,hc4,hpc⟩
   obtain⟨⟨z,fn⟩,hq,ez,_⟩:=pair_get hp2 hpr
   obtain⟨pk,pw⟩:=pr
   replace ez:pk=.inr z:=ez
   subst ez
   have hmem:=List.mem_of_getElem? hq
   have hi:i < m2.length:=(List.getElem?_eq_some_iff.mp hq).1
   obtain⟨hl4,hkw⟩:fn.1.length≤4∧∀k∈fn.2::fn.1,KW m1 k:=W.k2 _ hmem
   obtain⟨v,hv,hfv⟩:∃v,valV kv2 (.inr z)=some v∧FunAt K H v fn:=by
    rcases look_val hp2 z with ⟨_,h2⟩|⟨v,x,h1,h2,h3⟩
    ·exact absurd h2 (by rw [in_look W.nd2 hmem];nofun)
    ·rw [in_look W.nd2 hmem] at h2
     rw [Option.some.inj h2]
     exact⟨v,h1,h3⟩
   have kt4:Kt K H H4:=fun a xs t=>wk.tup a xs (s1.tup t)
   obtain⟨pf,ta,xf,xsf,rfl,hpf,hta,hks,hk⟩:=fn_keep kt4 hfv
   have hg4:H4 g=some (.dK gkv):=wk.old _ _ (s1 _ _ hg) ngf
   have hG4:PkAt (KdAt K H4) gkv gl:=hG.imp fun _ _ t=>kd_keep kt4 t
   have hlx:=hks.length
   refine⟨_,rfl,_,rfl,fd,_,rfl,.inl ⟨kv2,.inr z,.inr ⟨o,wk.fz⟩,rfl,hv.symm⟩,_,_,_,_,rfl,rfl,hpf,at0,ta,rfl,⟨_,hta⟩,?_⟩
   refine comp_fT (xs:=xsf) (by omega) (fun j us H5=>Same H4 H5∧KdsAt K H5 us ((fn.1.take j).map (Kd.put (ownG gl)))∧us.length=j) ⟨Same.refl _,.nil,rfl⟩ (fun j us H5 h=>h.1.tup hta) (fun j us H5 h=>Nat.le_of_eq h.2.2) ?_ ?_
   ·rintro j u us H5 N hN hu ⟨s5,hus,hz⟩
    obtain⟨k1,hk1,hku⟩:=kds_get hks hu
    refine⟨rfl,tYes_go ⟨_,rfl,_,rfl,u,g,k1,gkv,gl,rfl,hku.same s5,(hkw k1 (.tail _ (List.mem_of_getElem? hk1))).depth,s5 _ _ hg4,hG4.imp fun _ _ t=>t.same s5,fun H6 v6 s6 hv6=>hN _ _ ⟨s5.trans s6,?_,?_⟩⟩⟩
    ·have e:(fn.1.take (j+1)).map (Kd.put (ownG gl))=(fn.1.take j).map (Kd.put (ownG gl))++[Kd.put (ownG gl) k1]:=by
      rw [List.take_add_one,hk1]
      simp
     rw [e]
     exact(hus.same s6).append (one hv6)
    ·rw [List.length_append,hz]
     rfl
   ·rintro us H5 D ⟨s5,hus,hz⟩ hD
    have eA:fn.1.take xsf.length=fn.1:=by rw [hlx];exact List.take_length
    rw [eA] at hus
    have e1:=same_new hD (.lst us)
    refine⟨D,us,rfl,.inl ⟨SqL.of upd_same,fun ta' hta'=>?_⟩⟩
    have e2:=same_new hta' (.tup us)
    have s7:=s5.trans (e1.trans e2)
    have hta7:upd (upd H5 D (.lst us)) ta' (.tup us) ta'=some (.tup us):=upd_same
    have hus7:=hus.same (e1.trans e2)
    generalize upd (upd H5 D (.lst us)) ta' (.tup us)=H7 at s7 hta7 hus7 ⊢
    refine⟨_,rfl,_,rfl,fd,_,rfl,.inl ⟨kv2,.inr z,.inr ⟨o,s7 _ _ wk.fz⟩,rfl,hv.symm⟩,_,_,_,_,rfl,rfl,s7.tup hpf,at1,_,rfl,xf,g,fn.2,gkv,gl,rfl,hk.same s7,(hkw _ (.head _)).depth,s7 _ _ hg4,hG4.imp fun _ _ t=>t.same s7,fun H8 v8 s8 hv8=>⟨(by show 2≤sizeLine;decide),fun p hp=>?_⟩⟩
    have s9:=same_new hp (.tup [.ref ta',v8])
    have hp9:upd H8 p (.tup [.ref ta',v8]) p=some (.tup [.ref ta',v8]):=upd_same
    have hf9:FunAt K (upd H8 p (.tup [.ref ta',v8])) (.ref p) (putFn (ownG gl) fn):=⟨p,ta',v8,us,rfl,SqT.of hp9,SqT.of (s9 _ _ (s8 _ _ hta7)),hus7.same (s8.trans s9),hv8.same s9⟩
    have s49:=s7.trans (s8.trans s9)
    generalize upd H8 p (.tup [.ref ta',v8])=H9 at s49 hf9 ⊢
    have hc9:=s49 _ _ hc4
    have hlc:ckv.length=i:=by
     have:=Paired.length hpc
     rw [List.length_map,List.length_take] at this
     omega
    refine⟨_,rfl,_,rfl,cd,_,rfl,DPut.k (k:=.inr z) hc9 (Nat.lt_of_lt_of_le (Nat.lt_succ_self _) (small (by have:=W.n2;omega))),?_⟩
    have ktf:Kt K H9 (upd H9 cd (.dK (putK ckv (.inr z) (.ref p)))):=fun a xs t=>sqt_dk hc9 t
    refine⟨_,_,rfl,(wk.go s49).put hcd ncf hc9,upd_same,?_⟩
    have e:(m2.take (i+1)).map (putQ (ownG gl))=(m2.take i).map (putQ (ownG gl))++[(z,putFn (ownG gl) fn)]:=by
     rw [List.take_add_one,hq]
     simp [putQ]
    rw [e]
    refine PkAt.put ((hpc.imp fun _ _ t=>fn_keep (fun a xs t=>s49.tup t) t).imp fun _ _ t=>fn_keep ktf t) ?_ (fn_keep ktf hf9)
    rw [List.map_map]
    intro hm
    obtain⟨q2,hq2,e2⟩:=List.mem_map.mp hm
    have hz2:z∈(m2.map (·.1)).take i:=by
     rw [←List.map_take]
     exact List.mem_map.mpr ⟨q2,hq2,e2⟩
    exact not_take W.nd2 (by rw [List.getElem?_map,hq];rfl) hz2
  ·rintro σ H4 ⟨y6,ckv,rfl,wk,hc4,hpc⟩
   rw [hlen,List.take_length] at hpc
   have sT:=wk.thaw (s1 _ _ hfd)
   refine⟨fd,o,.dK kv2,wk.fz,nofz' (s1.trans s2) hf2,?_⟩
   have hcT:upd H4 fd (.dK kv2) cd=some (.dK ckv):=by rw [upd_ne ncf];exact hc4
   have ktT:Kt K H4 (upd H4 fd (.dK kv2)):=fun a xs t=>by
    rcases t with (t|⟨o',t⟩)|t
    ·exact .inl (.inl (by rw [upd_ne (fun e=>by rw [e,wk.fz] at t;cases t)];exact t))
    ·exact .inl (.inr ⟨o',by rw [upd_ne (fun e=>by rw [e,wk.fz] at t;cases t)];exact t⟩)
    ·exact .inr t
   have hpT:=hpc.imp fun _ _ t=>fn_keep ktT t
   generalize upd H4 fd (.dK kv2)=H5 at sT hcT hpT ⊢
   refine⟨_,rfl,_,rfl,(by show 2≤sizeLine;decide),fun p hp=>?_⟩
   have s6:=same_new hp (.tup [.ref sd,.ref cd])
   have s06:=s1.trans (sT.trans s6)
   exact q _ p sd cd s06 hsd0 hcd0 nsc upd_same ⟨kvs,ckv,s6 _ _ (sT _ _ hsd),s6 _ _ hcT,hps.imp fun _ _ t=>t.same (sT.trans s6),hpT.imp fun _ _ t=>fn_keep (fun a xs t=>s6.tup t) t⟩
 refine⟨_,@pss_cons _ _ _ _ _ (ps_set (i:=3) scAllL.nd rfl (Or.inl rfl) pe_dnewK) (@pss_cons _ _ _ _ _ (ps_thaw (ps_for PassesOwn.never rfl (pi_keys (pv 0)) (pg_name (i:=4) scAllL.nd rfl (Or.inl rfl)) (@pss_one _ _ _ (ps_dput hu (pv 3) (pv 4) (pe_call GP hrP rfl mP kP bP .nil pass0 (@pa_cons _ _ _ _ _ (pe_dget hu (pv 0) (pv 4) (fun _ _=>rfl)) (@pa_cons _ _ _ _ _ (pv 2) pa_nil rfl) rfl)) rfl)))) d2),?_⟩
 intro sd hsd
 have s1:=same_new hsd (.dK [])
 have nsk:sd≠kd:=fun z=>by rw [z,hkd] at hsd;cases hsd
 have hk1:=s1 _ _ hkd
 have hlen:kv1.length=m1.length:=Paired.length hp1
 refine⟨_,rfl,kd,kv1,rfl,hk1,fun o=>?_⟩
 refine for_keys (fun i σ H4=>∃(y4:Option V) (skv:List (Key × V)),σ=[some (.ref kd),some (.ref fd),some (.ref g),some (.ref sd),y4,none,none]∧Walk K H H4 kd o kv1∧H4 sd=some (.dK skv)∧PkAt (KdAt K H4) skv ((m1.take i).map (putP (ownG gl)))) ?_ ?_ ?_ ?_
 ·exact⟨none,[],rfl,(Walk.start hk1).base s1,by rw [upd_ne nsk];exact upd_same,.nil⟩
 ·rintro i σ H4 _ ⟨_,_,_,wk,_⟩
  exact wk.fz
 ·rintro i pr σ H4 hpr ⟨y4,skv,rfl,wk,hs4,hps⟩
  obtain⟨⟨z,k⟩,hq,ez,_⟩:=pair_get hp1 hpr
  obtain⟨pk,pw⟩:=pr
  replace ez:pk=.inr z:=ez
  subst ez
  have hmem:=List.mem_of_getElem? hq
  have hi:i < m1.length:=(List.getElem?_eq_some_iff.mp hq).1
  obtain⟨v,hv,hkv⟩:∃v,valV kv1 (.inr z)=some v∧KdAt K H v k:=by
   rcases look_val hp1 z with ⟨_,h2⟩|⟨v,x,h1,h2,h3⟩
   ·exact absurd h2 (by rw [in_look W.nd1 hmem];nofun)
   ·rw [in_look W.nd1 hmem] at h2
    rw [Option.some.inj h2]
    exact⟨v,h1,h3⟩
  have kt4:Kt K H H4:=wk.tup
  have hg4:H4 g=some (.dK gkv):=wk.old _ _ hg ngk
  refine⟨_,rfl,_,rfl,kd,_,rfl,.inl ⟨kv1,.inr z,.inr ⟨o,wk.fz⟩,rfl,hv.symm⟩,_,rfl,v,g,k,gkv,gl,rfl,kd_keep kt4 hkv,(W.k1 _ hmem).depth,hg4,hG.imp fun _ _ t=>kd_keep kt4 t,fun H5 v5 s5 hv5=>?_⟩
  have hs5:=s5 _ _ hs4
  have hlc:skv.length=i:=by
   have:=Paired.length hps
   rw [List.length_map,List.length_take] at this
   omega
  refine⟨_,rfl,_,rfl,sd,_,rfl,DPut.k (k:=.inr z) hs5 (Nat.lt_of_lt_of_le (Nat.lt_succ_self _) (small (by have:=W.n1;omega))),?_⟩
  have ktf:Kt K H5 (upd H5 sd (.dK (putK skv (.inr z) v5))):=fun a xs t=>sqt_dk hs5 t
  refine⟨_,_,rfl,(wk.go s5).put hsd nsk hs5,upd_same,?_⟩
  have e:(m1.take (i+1)).map (putP (ownG gl))=(m1.take i).map (putP (ownG gl))++[(z,Kd.put (ownG gl) k)]:=by
   rw [List.take_add_one,hq]
   simp [putP]
  rw [e]
  refine PkAt.put ((hps.imp fun _ _ t=>kd_keep (fun a xs t=>s5.tup t) t).imp fun _ _ t=>kd_keep ktf t) ?_ (kd_keep ktf hv5)
  rw [List.map_map]
  intro hm
  obtain⟨q2,hq2,e2⟩:=List.mem_map.mp hm
  have hz2:z∈(m1.map (·.1)).take i:=by
   rw [←List.map_take]
   exact List.mem_map.mpr ⟨q2,hq2,e2⟩
  exact not_take W.nd1 (by rw [List.getElem?_map,hq];rfl) hz2
 ·rintro σ H4 ⟨y4,skv,rfl,wk,hs4,hps⟩
  rw [hlen,List.take_length] at hps
  have sT:=wk.thaw hkd
  refine⟨kd,o,.dK kv1,wk.fz,nofz' s1 hk1,?_⟩
  have hsT:upd H4 kd (.dK kv1) sd=some (.dK skv):=by rw [upd_ne nsk];exact hs4
  have ktT:Kt K H4 (upd H4 kd (.dK kv1)):=fun a xs t=>by
   rcases t with (t|⟨o',t⟩)|t
   ·exact .inl (.inl (by rw [upd_ne (fun e=>by rw [e,wk.fz] at t;cases t)];exact t))
   ·exact .inl (.inr ⟨o',by rw [upd_ne (fun e=>by rw [e,wk.fz] at t;cases t)];exact t⟩)
   ·exact .inr t
  exact k2 _ sd skv y4 sT hsd hsT (hps.imp fun _ _ t=>kd_keep ktT t)
end
end K27
namespace K27
open PySem L2 Kk
abbrev Cls:=List (Str × List Str)
def appC(acc:Cls)(t w:Str):Cls:=if t∈acc.map (·.1) then acc.map (fun p=>if p.1=t then (p.1,p.2++[w]) else p) else acc++[(t,[w])]
def stC(acc:Cls)(q:Str × Kd):Cls:=match q.2 with
 |.name p t=>if p="" then appC acc t q.1 else acc
 |_=>acc
def cls(m:Rows1):Cls:=m.foldl stC []
def own(m:Rows1)(t:Str):List Str:=(m.filter fun q=>decide (q.2=ownK t)).map (·.1)
theorem cls_snoc(m:Rows1)(q:Str × Kd):cls (m++[q])=stC (cls m) q:=by
 unfold cls
 rw [List.foldl_append]
 rfl
theorem own_snoc(m:Rows1)(q:Str × Kd)(t:Str):own (m++[q]) t=own m t++(if q.2=ownK t then [q.1] else []):=by
 unfold own
 rw [List.filter_append,List.map_append]
 congr 1
 rw [List.filter_cons]
 by_cases c:q.2=ownK t
 ·rw [if_pos (decide_eq_true c),if_pos c];rfl
 ·rw [if_neg (by rw [decide_eq_true_iff];exact c),if_neg c];rfl
theorem keys_appC(acc:Cls)(t w:Str):(appC acc t w).map (·.1)=if t∈acc.map (·.1) then acc.map (·.1) else acc.map (·.1)++[t]:=by
 unfold appC
 by_cases c:t∈acc.map (·.1)
 ·rw [if_pos c,if_pos c,List.map_map]
  refine List.map_congr_left fun p _=>?_
  show(if p.1=t then (p.1,p.2++[w]) else p).1=p.1
  split<;>rfl
 ·rw [if_neg c,if_neg c,List.map_append];rfl
theorem look_map{acc:Cls}{t w s:Str}:look (acc.map fun p=>if p.1=t then (p.1,p.2++[w]) else p) s=(look acc s).map fun ws=>if s=t then ws++[w] else ws:=by
 induction acc with
 |nil=>rfl
 |cons p acc ih =>
  unfold look at ih ⊢
  rw [List.map_cons,List.find?_cons,List.find?_cons]
  have e:(if p.1=t then (p.1,p.2++[w]) else p).1=p.1:=by split<;>rfl
  rw [e]
  by_cases c:p.1=s
  ·rw [decide_eq_true c]
   subst c
   by_cases c2:p.1=t
   ·simp [c2]
   ·simp [c2]
  ·rw [decide_eq_false c]
   exact ih
theorem look_appC{acc:Cls}{t w s:Str}:look (appC acc t w) s=if s=t then some ((look acc t).getD []++[w]) else look acc s:=by
 unfold appC
 by_cases c:t∈acc.map (·.1)
 ·rw [if_pos c,look_map]
  obtain⟨ws,e⟩:=look_ex c
  by_cases c2:s=t
  ·subst c2
   rw [if_pos rfl,e]
   simp
  ·rw [if_neg c2]
   cases look acc s with
   |none=>rfl
   |some ws=>simp [c2]
 ·rw [if_neg c]
  have n:look acc t=none:=by
   cases e:look acc t with
   |none=>rfl
   |some x=>exact absurd (List.mem_map.mpr ⟨_,look_in e,rfl⟩) c
  by_cases c2:s=t
  ·subst c2
   rw [if_pos rfl,n]
   unfold look at n ⊢
   rw [List.find?_append]
   rw [Option.map_eq_none_iff] at n
   rw [n]
   simp
  ·rw [if_neg c2]
   unfold look
   rw [List.find?_append]
   cases acc.find? (fun q=>decide (q.1=s)) with
   |some x=>rfl
   |none=>simp [Ne.symm c2]
theorem cls_ok(m:Rows1):((cls m).map (·.1)).Nodup∧(cls m).length≤m.length∧∀t,look (cls m) t=if own m t=[] then none else some (own m t):=by
 have key:∀(n:Nat) (m:Rows1),m.length=n→((cls m).map (·.1)).Nodup∧(cls m).length≤m.length∧∀t,look (cls m) t=if own m t=[] then none else some (own m t):=by
  intro n
  induction n with
  |zero =>
   intro m hm
   rw [List.length_eq_zero_iff.mp hm]
   exact⟨List.nodup_nil,Nat.le_refl _,fun t=>rfl⟩
  |succ n ih =>
   intro m hm
   have hne:m≠[]:=fun e=>by rw [e] at hm;cases hm
   obtain⟨m',q,rfl⟩:∃m' q,m=m'++[q]:=⟨_,_,(List.dropLast_concat_getLast hne).symm⟩
   obtain⟨h1,h2,h3⟩:=ih m' (by rw [List.length_append] at hm;exact Nat.succ.inj hm)
   rw [cls_snoc]
   have other:(∀t,q.2≠ownK t)→stC (cls m') q=cls m'→((stC (cls m') q).map (·.1)).Nodup∧(stC (cls m') q).length≤(m'++[q]).length∧∀t,look (stC (cls m') q) t=if own (m'++[q]) t=[] then none else some (own (m'++[q]) t):=fun hn e=>by
    rw [e,List.length_append]
    refine⟨h1,by omega,fun t=>?_⟩
    rw [own_snoc,if_neg (hn t),List.append_nil]
    exact h3 t
   obtain⟨z,k⟩:=q
   cases k with
   |num _=>exact other (fun t e=>nomatch e) rfl
   |pair _ _=>exact other (fun t e=>nomatch e) rfl
   |name p t =>
    by_cases c:p=""
    ·subst c
     have e:stC (cls m') (z,.name "" t)=appC (cls m') t z:=by
      simp [stC]
     rw [e]
     refine⟨?_,?_,fun s=>?_⟩
     ·rw [keys_appC]
      split
      ·exact h1
      ·rename_i c
       rw [List.nodup_append]
       refine⟨h1,by simp,fun x hx y hy=>?_⟩
       rw [List.mem_singleton.mp hy]
       exact fun e=>c (e▸hx)
     ·unfold appC
      rw [List.length_append]
      split
      ·rw [List.length_map];omega
      ·rw [List.length_append];exact Nat.succ_le_succ h2
     ·rw [look_appC,own_snoc]
      by_cases c:s=t
      ·subst c
       rw [if_pos rfl,if_pos (show Kd.name "" s=ownK s from rfl)]
       show some ((look (cls m') s).getD []++[z])=if own m' s++[z]=[] then none else some (own m' s++[z])
       rw [if_neg (show ¬own m' s++[z]=[] by simp),h3]
       by_cases c0:own m' s=[]
       ·rw [if_pos c0,c0];rfl
       ·rw [if_neg c0];rfl
      ·rw [if_neg c,if_neg (show ¬(z,Kd.name "" t).2=ownK s from fun e=>c (Kd.name.inj (show Kd.name "" t=Kd.name "" s from e)).2.symm),List.append_nil]
       exact h3 s
    ·exact other (fun t' e=>c (Kd.name.inj (show Kd.name p t=Kd.name "" t' from e)).1) (by simp only [stC];rw [if_neg c])
 exact key _ m rfl
abbrev LsR(H0 H:Hp)(c:Addr)(v:V)(ws:List Str):Prop:=∃a,v=.ref a∧a≠c∧H0 a=none∧H a=some (.lst (ws.map V.str))
def ClAt(H0 H:Hp)(c:Addr)(cl:Cls):Prop:=∃kvs,H c=some (.dK kvs)∧PkAt (LsR H0 H c) kvs cl
theorem paired_mapR{α β:Type}{R S:α→β→Prop}{f:β→β}:∀{xs:List α} {ys:List β},Paired R xs ys→(∀x∈xs,∀y∈ys,R x y→S x (f y))→Paired S xs (ys.map f)
 |_,_,.nil,_=>.nil
 |_,_,.cons a t,h=>.cons (h _ (.head _) _ (.head _) a) (paired_mapR t fun x hx y hy=>h x (.tail _ hx) y (.tail _ hy))
theorem nodup_fst{kvs:List (Key × V)}{p q:Key × V}(h:(kvs.map (·.1)).Nodup)(hp:p∈kvs)(hq:q∈kvs)(e:p.1=q.1):p=q:=by
 induction kvs with
 |nil=>cases hp
 |cons x xs ih =>
  rw [List.map_cons,List.nodup_cons] at h
  rcases List.mem_cons.mp hp with e1|hp2
  ·rcases List.mem_cons.mp hq with e2|hq2
   ·rw [e1,e2]
   ·exact absurd (by rw [←e1,e];exact List.mem_map_of_mem hq2) h.1
  ·rcases List.mem_cons.mp hq with e2|hq2
   ·exact absurd (by rw [←e2,←e];exact List.mem_map_of_mem hp2) h.1
   ·exact ih h.2 hp2 hq2
theorem nodup_snd{kvs:List (Key × V)}{p q:Key × V}(h:(kvs.map (·.2)).Nodup)(hp:p∈kvs)(hq:q∈kvs)(e:p.2=q.2):p=q:=by
 induction kvs with
 |nil=>cases hp
 |cons x xs ih =>
  rw [List.map_cons,List.nodup_cons] at h
  rcases List.mem_cons.mp hp with e1|hp2
  ·rcases List.mem_cons.mp hq with e2|hq2
   ·rw [e1,e2]
   ·exact absurd (by rw [←e1,e];exact List.mem_map_of_mem hq2) h.1
  ·rcases List.mem_cons.mp hq with e2|hq2
   ·exact absurd (by rw [←e2,←e];exact List.mem_map_of_mem hp2) h.1
   ·exact ih h.2 hp2 hq2
theorem valV_in{kvs:List (Key × V)}{k:Key}{v:V}(h:valV kvs k=some v):(k,v)∈kvs:=by
 unfold valV at h
 obtain⟨p,hp,rfl⟩:=Option.map_eq_some_iff.mp h
 have:=List.find?_some hp
 have e:p.1=k:=of_decide_eq_true this
 rw [←e]
 exact List.mem_of_find?_eq_some hp
theorem sum_nodup{ks:List Str}(h:ks.Nodup):(ks.map fun z=>(Sum.inr z:Key)).Nodup:=by
 induction ks with
 |nil=>exact List.nodup_nil
 |cons z ks ih =>
  rw [List.nodup_cons] at h
  rw [List.map_cons,List.nodup_cons]
  refine⟨fun hm=>?_,ih h.2⟩
  obtain⟨y,hy,e⟩:=List.mem_map.mp hm
  rw [Sum.inr.inj e] at hy
  exact h.1 hy
theorem cl_app{H0 H:Hp}{c a:Addr}{kvs:List (Key × V)}{cl:Cls}{t w:Str}{ws:List Str}(h:PkAt (LsR H0 H c) kvs cl)(nk:(cl.map (·.1)).Nodup)(nv:(kvs.map (·.2)).Nodup)(hv:valV kvs (.inr t)=some (.ref a))(hws:look cl t=some ws) :
  PkAt (LsR H0 (upd H a (.lst ((ws++[w]).map V.str))) c) kvs (appC cl t w):=by
 have nk':(kvs.map (·.1)).Nodup:=by rw [h.keys,show(cl.map fun q=>(Sum.inr q.1:Key))=(cl.map (·.1)).map fun z=>(Sum.inr z:Key) by rw [List.map_map];rfl];exact sum_nodup nk
 have hm:=valV_in hv
 unfold appC
 rw [if_pos (List.mem_map.mpr ⟨_,look_in hws,rfl⟩)]
 refine paired_mapR (f:=fun p=>if p.1=t then (p.1,p.2++[w]) else p) h fun p hp q hq ⟨e1,b,e2,nb,h0,hb⟩=>?_
 by_cases e:q.1=t
 ·have ep:p=(.inr t,.ref a):=nodup_fst nk' hp hm (by rw [e1,e])
  have eb:b=a:=by rw [ep] at e2;injection e2 with e2;exact e2.symm
  have e5:ws=q.2:=by
   have:=in_look (z:=q.1) (x:=q.2) nk hq
   rw [e,hws] at this
   exact Option.some.inj this
  rw [if_pos e,←e5]
  exact⟨e1,a,by rw [ep],by rw [←eb];exact nb,by rw [←eb];exact h0,upd_same⟩
 ·rw [if_neg e]
  have nba:b≠a:=fun z=>by
   have:p=(.inr t,.ref a):=nodup_snd nv hp hm (by rw [e2,z])
   rw [this] at e1
   exact e (Sum.inr.inj e1).symm
  exact⟨e1,b,e2,nb,h0,by rw [upd_ne nba];exact hb⟩
theorem Walk.putL{K:PySem.W.Frag}{H H3:Hp}{d c:Addr}{o:Obj}{kv:List (Key × V)}{xs:List V}{x:HO}(w:Walk K H H3 d o kv)(hc:H c=none)(n:c≠d)(hd:H3 c=some (.lst xs)):Walk K H (upd H3 c x) d o kv :=
 ⟨fun b u hb nb=>by rw [upd_ne (fun z=>by rw [z,hc] at hb;cases hb)];exact w.old b u hb nb,by rw [upd_ne (Ne.symm n)];exact w.fz,fun a xs t=>sqt_upd hd (w.tup a xs t)⟩
theorem Walk.free{K:PySem.W.Frag}{H H3:Hp}{d c:Addr}{o:Obj}{kv:List (Key × V)}(w:Walk K H H3 d o kv)(h:H3 c=none):H c=none:=by
 cases e:H c with
 |none=>rfl
 |some u =>
  by_cases n:c=d
  ·rw [n,w.fz] at h;cases h
  ·rw [w.old c u e n] at h;cases h
theorem PkAt.len{α:Type}{R:V→α→Prop}{kvs:List (Key × V)}{m:List (Str × α)}(h:PkAt R kvs m):kvs.length=m.length:=Paired.length h
def spClsL(K:PySem.W.Frag):Sp:=fun vs H Q _=>∃(kd:Addr) (kv1:List (Key × V)) (m1:Rows1),vs=[.ref kd]∧H kd=some (.dK kv1)∧PkAt (KdAt K H) kv1 m1∧m1.length≤16∧∀H' c,Same H H'→H c=none→ClAt H H' c (cls m1)→Q (.ref c) H'
section
variable{P:Program}{w:World}{K:PySem.W.Frag}{mg:Str→Option Value}{base:Heap}
theorem scClsL:FnScope ["_law_kinds","_law_found","_law_t","_law_kind"] ["_law_kinds"] (defScope sClsL):=⟨rfl,rfl,rfl,by decide +kernel,rfl,by decide +kernel,by decide +kernel⟩
set_option maxHeartbeats 0 in
theorem ok_clsL{f:Addr}{fd':FuncData} (F:Fun K "_law_classes" "_law_classes" sClsL f fd'):FnOk P w K mg base CX0 1 f fd' ["_law_kinds"] (spClsL K):=by
 refine F.ok scClsL (fun vs H Q E h=>?_) (fun cdv A outer s H vs Q E hr h=>?_)
 ·obtain⟨_,_,_,rfl,_⟩:=h
  rfl
 obtain⟨kd,kv1,m1,rfl,hkd,hp1,h16,q⟩:=h
 have hu:=hu_of hr
 refine⟨_,@pss_cons _ _ _ _ _ (ps_set (i:=1) scClsL.nd rfl (Or.inl rfl) pe_dnewK) (@pss_cons _ _ _ _ _ (ps_thaw (ps_for PassesOwn.never rfl (pi_items (pv 0)) (pg_tup rfl (pgs_cons (pg_name (i:=2) scClsL.nd rfl (Or.inl rfl)) (pgs_cons (pg_name (i:=3) scClsL.nd rfl (Or.inl rfl)) pgs_nil))) (@pss_one _ _ _ (ps_if (PW.pt (pw_and (pt_cmpR op_eq (pe_ix ix_tup (pv 3) pe_int (fun _ _=>rfl)) pe_str (nomark _)) (pw_and1 (pt_cmpR op_eq (pe_ix ix_tup (pv 3) pe_int (fun _ _=>rfl)) pe_str (nomark _))))) (@pss_one _ _ _ (ps_expr (pe_bm PySem.F.plainAttrs_list PySem.F.slot_list_append PySem.F.type_list_append mt_append (pe_dsetd (pv 1) (pe_ix ix_tup (pv 3) pe_int (fun _ _=>rfl)) (pe_lst pa_nil) ⟨rfl,rfl,rfl,rfl⟩) (@pa_cons _ _ _ _ _ (pv 2) pa_nil rfl)))) pss_nil)))) (@pss_one _ _ _ (@ps_ret _ _ _ _ (pv 1)))),?_⟩
 intro c hc
 have s1:=same_new hc (.dK [])
 have nck:c≠kd:=fun z=>by rw [z,hkd] at hc;cases hc
 have hk1:=s1 _ _ hkd
 have hlen:kv1.length=m1.length:=Paired.length hp1
 refine⟨_,rfl,kd,kv1,rfl,hk1,fun o=>?_⟩
 refine for_items (fun i σ H4=>∃(y2 y3:Option V) (kvs:List (Key × V)),σ=[some (.ref kd),some (.ref c),y2,y3]∧Walk K H H4 kd o kv1∧H4 c=some (.dK kvs)∧PkAt (LsR H H4 c) kvs (cls (m1.take i))∧(kvs.map (·.2)).Nodup) ?_ ?_ ?_ ?_
 ·exact⟨none,none,[],rfl,(Walk.start hk1).base s1,by rw [upd_ne nck];exact upd_same,.nil,List.nodup_nil⟩
 ·rintro i σ H4 _ ⟨_,_,_,_,wk,_⟩
  exact wk.fz
 ·rintro i pr a σ H4 hpr hna ⟨y2,y3,kvs,rfl,wk,hc4,hpc,hnv⟩
  obtain⟨⟨z,k⟩,hq,ez,hkz⟩:=pair_get hp1 hpr
  obtain⟨pk,pw⟩:=pr
  replace ez:pk=.inr z:=ez
  subst ez
  replace hkz:KdAt K H pw k:=hkz
  have ea:=same_new hna (.tup [kV (.inr z),pw])
  have wk5:=wk.go ea
  have hc5:=ea _ _ hc4
  have hp5:PkAt (LsR H (upd H4 a (.tup [kV (.inr z),pw])) c) kvs (cls (m1.take i)):=hpc.imp fun _ _ ⟨b,e1,e2,e3,e4⟩=>⟨b,e1,e2,e3,ea _ _ e4⟩
  refine⟨a,_,rfl,SqT.of upd_same,rfl,_,_,rfl,_,_,rfl,rfl,?_⟩
  have et:m1.take (i+1)=m1.take i++[(z,k)]:=by rw [List.take_add_one,hq];rfl
  have hkz5:=kd_keep wk5.tup hkz
  generalize upd H4 a (.tup [kV (.inr z),pw])=H5 at wk5 hc5 hp5 hkz5 ⊢
  cases hkz5 with
  |@num p m t =>
   refine⟨_,rfl,_,_,_,_,rfl,rfl,t,at0,rfl,_,rfl,ite2 (fun c=>absurd c (by decide +kernel)) (fun _=>iteF ?_)⟩
   exact⟨_,_,kvs,rfl,wk5,hc5,by rw [et,cls_snoc];exact hp5,hnv⟩
  |@pair p y z' a' b' t ha hb =>
   refine⟨_,rfl,_,_,_,_,rfl,rfl,t,at0,rfl,_,rfl,ite2 (fun c=>absurd c (by decide +kernel)) (fun _=>iteF ?_)⟩
   exact⟨_,_,kvs,rfl,wk5,hc5,by rw [et,cls_snoc];exact hp5,hnv⟩
  |@name p q t ht =>
   refine⟨_,rfl,_,_,_,_,rfl,rfl,ht,at0,rfl,_,rfl,ite2 (fun _=>?_) (fun c=>absurd (by decide +kernel) c)⟩
   refine⟨_,rfl,_,_,_,_,rfl,rfl,ht,at1,rfl,_,rfl,ite2 (fun cq=>?_) (fun cq=>?_)⟩
   ·have e:q="":=V.str.inj (of_decide_eq_true cq)
    subst e
    obtain⟨c1,c2,c3⟩:=cls_ok (m1.take i)
    have hl16:kvs.length < 1000:=by
     rw [hp5.len]
     rw [List.length_take] at c2
     omega
    refine⟨_,rfl,c,rfl,.inl ⟨_,.inl hc5⟩,_,rfl,_,_,_,_,rfl,rfl,ht,at2,(by show 0≤sizeLine;decide),fun l hl=>?_⟩
    have sl:=same_new hl (.lst [])
    have hc6:=sl _ _ hc5
    have wk6:=wk5.go sl
    have ncl:c≠l:=fun z=>by rw [←z,hc5] at hl;cases hl
    have nlk:l≠kd:=fun z=>by rw [z,wk5.fz] at hl;cases hl
    have hp6:PkAt (LsR H (upd H5 l (.lst [])) c) kvs (cls (m1.take i)):=hp5.imp fun _ _ ⟨b,e1,e2,e3,e4⟩=>⟨b,e1,e2,e3,sl _ _ e4⟩
    have hl6:upd H5 l (.lst []) l=some (.lst []):=upd_same
    have hl0:H l=none:=wk5.free hl
    have hst:stC (cls (m1.take i)) (z,.name "" t)=appC (cls (m1.take i)) t z:=by simp [stC]
    refine⟨kvs,.inr t,hc6,rfl,Nat.lt_of_lt_of_le hl16 (small (Nat.le_refl _)),?_⟩
    rcases look_val hp6 t with ⟨h1,h2⟩|⟨v,ws,h1,h2,b,e1,e2,e3,e4⟩
    ·have hc7:upd (upd H5 l (.lst [])) c (.dK (putK kvs (.inr t) (.ref l))) c=some (.dK (putK kvs (.inr t) (.ref l))):=upd_same
     have hl7:upd (upd H5 l (.lst [])) c (.dK (putK kvs (.inr t) (.ref l))) l=some (.lst []):=by rw [upd_ne (Ne.symm ncl)];exact hl6
     have wk7:=wk6.put hc nck hc6 (x:=.dK (putK kvs (.inr t) (.ref l)))
     have hp7:PkAt (LsR H (upd (upd H5 l (.lst [])) c (.dK (putK kvs (.inr t) (.ref l)))) c) (putK kvs (.inr t) (.ref l)) (cls (m1.take i)++[(t,[])]):=by
      have hl7':=hl7
      rw [putK_new _ h1] at hl7' ⊢
      refine PkAt.snoc (hp6.imp fun _ _ ⟨b,e1,e2,e3,e4⟩=>⟨b,e1,e2,e3,by rw [upd_ne e2];exact e4⟩) ⟨l,rfl,Ne.symm ncl,hl0,hl7'⟩
     have nv7:((putK kvs (.inr t) (.ref l)).map (·.2)).Nodup:=by
      rw [putK_new _ h1,List.map_append,List.nodup_append]
      refine⟨hnv,by simp,fun x hx y hy=>?_⟩
      obtain⟨p',hp',rfl⟩:=List.mem_map.mp hx
      obtain⟨j,hj,ej⟩:=List.getElem_of_mem hp'
      obtain⟨q',hq',_,b,e1,_,_,e4⟩:=pair_get hp5 (show kvs[j]?=some p' by rw [←ej];exact List.getElem?_eq_getElem hj)
      rw [List.mem_singleton.mp hy,e1]
      intro e
      have e:V.ref b=V.ref l:=e
      injection e with e
      rw [e,hl] at e4
      cases e4
     have hnk:t∉(cls (m1.take i)).map (·.1):=fun hm=>by
      obtain⟨x,e⟩:=look_ex hm
      rw [h2] at e;cases e
     have nk7:((cls (m1.take i)++[(t,([]:List Str))]).map (·.1)).Nodup:=by
      rw [List.map_append,List.nodup_append]
      refine⟨c1,by simp,fun x hx y hy=>?_⟩
      rw [List.mem_singleton.mp hy]
      exact fun e=>hnk (by rw [←(show x=t from e)];exact hx)
     have hv7:valV (putK kvs (.inr t) (.ref l)) (.inr t)=some (.ref l):=by rw [valV_put,if_pos rfl]
     have hlk:look (cls (m1.take i)++[(t,([]:List Str))]) t=some []:=by
      refine in_look nk7 (List.mem_append_right _ (List.mem_singleton.mpr rfl))
     refine .inr ⟨h1,.inl ⟨rfl,_,SqL.of hl7⟩,_,rfl,l,[],_,rfl,rfl,hl7,(by show 0 < sizeLine;decide),?_⟩
     refine⟨_,_,putK kvs (.inr t) (.ref l),rfl,wk7.putL hl0 nlk hl7,by rw [upd_ne ncl];exact hc7,?_,nv7⟩
     have:=cl_app (w:=z) hp7 nk7 nv7 hv7 hlk
     rw [et,cls_snoc,hst]
     have e8:appC (cls (m1.take i)++[(t,([]:List Str))]) t z=appC (cls (m1.take i)) t z:=by
      unfold appC
      rw [if_pos (by simp),if_neg hnk,List.map_append]
      congr 1
      ·conv=>rhs;rw [←List.map_id (cls (m1.take i))]
       refine List.map_congr_left fun p hp=>?_
       rw [if_neg (fun e=>hnk (by rw [←e];exact List.mem_map_of_mem hp))]
       rfl
      ·simp
     rw [e8] at this
     exact this
    ·subst e1
     have hb6:=e4
     refine .inl ⟨_,h1,.inl ⟨rfl,_,SqL.of hb6⟩,_,rfl,b,_,_,rfl,rfl,hb6,?_,?_⟩
     ·have:=c3 t
      rw [h2] at this
      have hne:¬own (m1.take i) t=[]:=fun e=>by rw [if_pos e] at this;cases this
      rw [if_neg hne] at this
      have e9:=Option.some.inj this
      have hlw:ws.length≤16:=by
       rw [e9]
       unfold own
       rw [List.length_map]
       have l1:=List.length_filter_le (fun q:Str × Kd=>decide (q.2=ownK t)) (m1.take i)
       rw [List.length_take] at l1
       omega
      exact Nat.lt_of_lt_of_le (Nat.lt_succ_self _) (small (by rw [List.length_map];omega))
     ·have nbk:b≠kd:=fun z=>by rw [z,hkd] at e3;cases e3
      have e10:ws.map V.str++[V.str z]=(ws++[z]).map V.str:=by rw [List.map_append];rfl
      refine⟨_,_,kvs,rfl,wk6.putL e3 nbk hb6,by rw [upd_ne (Ne.symm e2)];exact hc6,?_,hnv⟩
      have:=cl_app (w:=z) hp6 c1 hnv h1 h2
      rw [et,cls_snoc,hst]
      rw [←e10] at this
      exact this
   ·have e:q≠"":=fun z=>cq (decide_eq_true (by rw [z]))
    refine⟨_,_,kvs,rfl,wk5,hc5,?_,hnv⟩
    rw [et,cls_snoc]
    have:stC (cls (m1.take i)) (z,.name q t)=cls (m1.take i):=by simp only [stC];rw [if_neg e]
    rw [this]
    exact hp5
 ·rintro σ H4 ⟨y2,y3,kvs,rfl,wk,hc4,hpc,hnv⟩
  rw [hlen,List.take_length] at hpc
  refine⟨kd,o,.dK kv1,wk.fz,nofz' s1 hk1,⟨_,rfl,q _ c (wk.thaw hkd) hc ⟨kvs,by rw [upd_ne nck];exact hc4,?_⟩⟩⟩
  exact hpc.imp fun _ _ ⟨b,e1,e2,e3,e4⟩=>⟨b,e1,e2,e3,by rw [upd_ne (fun z=>by rw [z,wk.fz] at e4;cases e4)];exact e4⟩
end
end K27
namespace K27
open PySem L2 Kk
theorem own_mem{m:Rows1}{t x:Str}:x∈own m t↔(x,ownK t)∈m:=by
 unfold own
 rw [List.mem_map]
 constructor
 ·rintro⟨⟨z,k⟩,h1,rfl⟩
  obtain⟨h2,h3⟩:=List.mem_filter.mp h1
  have h4:k=ownK t:=of_decide_eq_true h3
  subst h4
  exact h2
 ·intro h
  exact⟨(x,ownK t),List.mem_filter.mpr ⟨h,decide_eq_true rfl⟩,rfl⟩
theorem lgivL_snoc(m:Rows1)(zs:List Str)(z:Str):lgivL m (zs++[z])=lstep m (lgivL m zs) z:=by
 unfold lgivL
 rw [List.foldl_append]
 rfl
abbrev pOwn(m:Rows1)(t:Str)(z:Str):Bool:=decide (look m z=some (ownK t))
theorem lgivL_look(m:Rows1)(t:Str)(zs:List Str):look (lgivL m zs) t=(zs.find? (pOwn m t)).map ownK:=by
 have key:∀(n:Nat) (zs:List Str),zs.length=n→look (lgivL m zs) t=(zs.find? (pOwn m t)).map ownK:=by
  intro n
  induction n with
  |zero =>
   intro zs hz
   rw [List.length_eq_zero_iff.mp hz]
   rfl
  |succ n ih =>
   intro zs hz
   have hne:zs≠[]:=fun e=>by rw [e] at hz;cases hz
   obtain⟨ys,z,rfl⟩:∃ys z,zs=ys++[z]:=⟨_,_,(List.dropLast_concat_getLast hne).symm⟩
   have h:=ih ys (by rw [List.length_append] at hz;exact Nat.succ.inj hz)
   rw [lgivL_snoc,List.find?_append]
   have no:pOwn m t z=false→lstep m (lgivL m ys) z=lgivL m ys→look (lstep m (lgivL m ys) z) t=((ys.find? (pOwn m t)).or ([z].find? (pOwn m t))).map ownK:=fun hp e=>by
    rw [e,h,List.find?_cons,hp]
    simp
   cases hk:look m z with
   |none =>
    refine no (by unfold pOwn;rw [hk];rfl) ?_
    unfold lstep
    rw [hk]
   |some k =>
    cases k with
    |num n=>exact no (decide_eq_false (by rw [hk];nofun)) (lstep_num hk)
    |pair a b=>exact no (decide_eq_false (by rw [hk];nofun)) (lstep_pair hk)
    |name p s =>
     by_cases hp:p=""
     ·subst hp
      rw [lstep_name hk]
      by_cases hs:s=t
      ·subst hs
       have hy:pOwn m s z=true:=decide_eq_true hk
       rw [List.find?_cons,hy]
       by_cases c:look (lgivL m ys) s=none
       ·rw [if_pos c]
        have c':=c
        rw [h,Option.map_eq_none_iff] at c'
        rw [c',look_new (look_none c)]
        rfl
       ·rw [if_neg c,h]
        rw [h,Option.map_eq_none_iff] at c
        cases e:ys.find? (pOwn m s) with
        |none=>exact absurd e c
        |some y=>rfl
      ·have hy:pOwn m t z=false:=decide_eq_false (by rw [hk];exact fun e=>hs (Kd.name.inj (Option.some.inj e)).2)
       rw [List.find?_cons,hy]
       have e0:look (if look (lgivL m ys) s=none then lgivL m ys++[(s,ownK z)] else lgivL m ys) t=look (lgivL m ys) t:=by
        split
        ·unfold look
         rw [List.find?_append]
         cases (lgivL m ys).find? (fun q=>decide (q.1=t)) with
         |some x=>rfl
         |none=>simp [hs]
        ·rfl
       rw [e0,h]
       simp
     ·exact no (decide_eq_false (by rw [hk];exact fun e=>hp (Kd.name.inj (Option.some.inj e)).1)) (lstep_far hk hp)
 exact key _ zs rfl
theorem keys_sorted{α:Type}(m:List (Str × α)):(keysL m).Pairwise (fun a b=>leS a b=true):=List.pairwise_mergeSort (le:=leS) (fun _ _ _ h g=>leS_trans h g) leS_total _
theorem lgiv_of{m:Rows1}(nd:(m.map (·.1)).Nodup){t M:Str}(hM:M∈own m t)(hl:∀x∈own m t,leS M x=true):look (lgiv m) t=some (ownK M):=by
 unfold lgiv
 rw [lgivL_look]
 have hm:=own_mem.mp hM
 have hp:pOwn m t M=true:=decide_eq_true (in_look nd hm)
 have hk:M∈keysL m:=srt_mem.mpr (List.mem_map.mpr ⟨_,hm,rfl⟩)
 cases e:(keysL m).find? (pOwn m t) with
 |none=>exact absurd hp (List.find?_eq_none.mp e M hk)
 |some z =>
  obtain⟨h1,as,bs,h2,h3⟩:=List.find?_eq_some_iff_append.mp e
  have hz:z∈own m t:=own_mem.mpr (look_in (of_decide_eq_true h1))
  have h4:=hl z hz
  have h5:leS z M=true:=by
   have hs:=keys_sorted m
   rw [h2] at hk hs
   rcases List.mem_append.mp hk with h|h
   ·have:=h3 M h
    rw [hp] at this
    cases this
   ·rcases List.mem_cons.mp h with rfl|h
    ·exact leS_iff.mpr (List.le_refl _)
    ·exact(List.pairwise_cons.mp (List.pairwise_append.mp hs).2.1).1 M h
  rw [leS_anti h5 h4]
  rfl
theorem lgiv_no{m:Rows1}{t:Str}(h:own m t=[]):look (lgiv m) t=none:=by
 unfold lgiv
 rw [lgivL_look,Option.map_eq_none_iff,List.find?_eq_none]
 intro z _ hp
 have:z∈own m t:=own_mem.mpr (look_in (of_decide_eq_true hp))
 rw [h] at this
 cases this
def GlOk(m:Rows1)(cl:Cls)(gl:Rows1):Prop:=gl.map (·.1)=cl.map (·.1)∧∀q∈gl,∃M,q.2=ownK M∧∀ws,look (cls m) q.1=some ws→M∈ws∧∀x∈ws,leS M x=true
theorem gl_own{m gl:Rows1}(nd:(m.map (·.1)).Nodup)(h:GlOk m (cls m) gl):ownG gl=ownG (lgiv m):=by
 obtain⟨c1,c2,c3⟩:=cls_ok m
 funext n
 unfold ownG
 by_cases e:n.1=""
 ·rw [if_pos e,if_pos e]
  have ndg:(gl.map (·.1)).Nodup:=by rw [h.1];exact c1
  have:=c3 n.2
  by_cases c0:own m n.2=[]
  ·rw [if_pos c0] at this
   rw [lgiv_no c0]
   cases e2:look gl n.2 with
   |none=>rfl
   |some k =>
    have hm:n.2∈(cls m).map (·.1):=by rw [←h.1];exact List.mem_map.mpr ⟨_,look_in e2,rfl⟩
    exact absurd hm (look_none this)
  ·rw [if_neg c0] at this
   have hm:n.2∈gl.map (·.1):=by rw [h.1];exact List.mem_map.mpr ⟨_,look_in this,rfl⟩
   obtain⟨k,hk⟩:=look_ex hm
   obtain⟨M,e3,hM⟩:=h.2 _ (look_in hk)
   obtain⟨h1,h2⟩:=hM _ this
   have e3:k=ownK M:=e3
   rw [hk,e3,lgiv_of nd h1 h2]
 ·rw [if_neg e,if_neg e]
theorem look_mapP{m:Rows1}{G:Str × Str→Option Kd}{z:Str}:look (m.map (putP G)) z=(look m z).map (Kd.put G):=by
 induction m with
 |nil=>rfl
 |cons q m ih =>
  unfold look at ih ⊢
  rw [List.map_cons,List.find?_cons,List.find?_cons]
  have e:(putP G q).1=q.1:=rfl
  rw [e]
  by_cases c:q.1=z
  ·rw [decide_eq_true c];rfl
  ·rw [decide_eq_false c];exact ih
theorem look_mapQ{m:Rows2}{G:Str × Str→Option Kd}{z:Str}:look (m.map (putQ G)) z=(look m z).map (putFn G):=by
 induction m with
 |nil=>rfl
 |cons q m ih =>
  unfold look at ih ⊢
  rw [List.map_cons,List.find?_cons,List.find?_cons]
  have e:(putQ G q).1=q.1:=rfl
  rw [e]
  by_cases c:q.1=z
  ·rw [decide_eq_true c];rfl
  ·rw [decide_eq_false c];exact ih
theorem keys_mapP{m:Rows1}{G:Str × Str→Option Kd}:(m.map (putP G)).map (·.1)=m.map (·.1):=by rw [List.map_map];rfl
theorem keys_mapQ{m:Rows2}{G:Str × Str→Option Kd}:(m.map (putQ G)).map (·.1)=m.map (·.1):=by rw [List.map_map];rfl
def spLeastL(K:PySem.W.Frag):Sp:=fun vs H Q _=>∃(kd fd:Addr) (m1:Rows1) (m2:Rows2),vs=[.ref kd,.ref fd]∧FcAt K H kd fd m1 m2∧WF m1 m2∧∀H' v,Same H H'→Dat K H' v (leastD m1 m2)→Q v H'
theorem bootMin:bootBuiltins "min"=some (.builtin "min"):=by decide +kernel
theorem zo_of{H H':Hp}{S:List Addr}(s:Same H H')(h:∀b∈S,H b=none):Same H (zo H' S):=fun b u q=>by
 rw [zo_ne (fun z=>by rw [h b z] at q;cases q)]
 exact s _ _ q
section
variable{P:Program}{w:World}{K:PySem.W.Frag}{mg:Str→Option Value}{base:Heap}
theorem scLeastL:FnScope ["_law_kinds","_law_funs","_law_given","_law_t","_law_words_here","_law_some","_law_calls","_law_rows"] ["_law_kinds","_law_funs"] (defScope sLeastL):=⟨rfl,rfl,rfl,by decide +kernel,rfl,by decide +kernel,by decide +kernel⟩
set_option maxHeartbeats 0 in
theorem ok_leastL{f fC fQ:Addr}{fd' fdC fdQ:FuncData} (F:Fun K "_law_least" "_law_least" sLeastL f fd') (mt:mg "tuple"=none) (ms:mg "sorted"=none) (mmin:mg "min"=none)
  (GC:FnOk P w K mg base CX0 1 fC fdC ["_law_kinds"] (spClsL K)) (bC:Binds K fdC ["_law_kinds"] []) (kC:PySem.W.keepIn K (.ref fC)=true) (mC:mg "_law_classes"=some (.ref fC))
  (GQ:FnOk P w K mg base CX0 10 fQ fdQ ["_law_kinds","_law_funs","_law_given"] (spAllL K)) (bQ:Binds K fdQ ["_law_kinds","_law_funs","_law_given"] []) (kQ:PySem.W.keepIn K (.ref fQ)=true) (mQ:mg "_law_all"=some (.ref fQ)):FnOk P w K mg base CX0 11 f fd' ["_law_kinds","_law_funs"] (spLeastL K):=by
 refine F.ok (k:=10) scLeastL (fun vs H Q E h=>?_) (fun cdv A outer s H vs Q E hrQ h=>?_)
 ·obtain⟨_,_,_,_,rfl,_⟩:=h
  rfl
 obtain⟨kd,fd,m1,m2,rfl,hF,W,q⟩:=h
 have hu:=hu_of hrQ
 have hrC:Room 1 _:=hrQ.mono (by decide)
 obtain⟨t2,d2,k2⟩:∃t,PSs (cxOf CX0 P w K mg base ["_law_kinds","_law_funs","_law_given","_law_t","_law_words_here","_law_some","_law_calls","_law_rows"] "_law_least" (defScope sLeastL) f cdv A outer s H E).nox (List.drop 2 (defBody sLeastL)) t ∧
   ∀(H1:Hp) (g:Addr) (gkv:List (Key × V)) (gl:Rows1) (y3 y4:Option V),Same H H1→H g=none→H1 g=some (.dK gkv)→PkAt (KdAt K H1) gkv gl→GlOk m1 (cls m1) gl→t { nx:=fun _ H'=>Q .non H',rt:=Q } [some (.ref kd),some (.ref fd),some (.ref g),y3,y4,none,none,none] H1:=by
  refine⟨_,@pss_cons _ _ _ _ _ (ps_asg (pe_call GQ hrQ rfl mQ kQ bQ .nil pass0 (@pa_cons _ _ _ _ _ (pv 0) (@pa_cons _ _ _ _ _ (pv 1) (@pa_cons _ _ _ _ _ (pv 2) pa_nil rfl) rfl) rfl)) (pg_tup rfl (pgs_cons (pg_name (i:=5) scLeastL.nd rfl (Or.inr rfl)) (pgs_cons (pg_name (i:=6) scLeastL.nd rfl (Or.inr rfl)) pgs_nil)))) (@pss_cons _ _ _ _ _ (ps_comp (i0:=7) scLeastL.nd rfl (Or.inl rfl) (own:=["_law_t"]) (caps:=["_law_some"]) (κ:=[5]) rfl ⟨rfl,by decide +kernel,by decide +kernel,rfl,rfl,(fun y hy=>by simp only [List.mem_cons,List.not_mem_nil,or_false] at hy;rcases hy with rfl<;>rfl),(fun y hy=>by simp only [List.mem_cons,List.not_mem_nil,or_false] at hy;rcases hy with rfl<;>exact⟨.inl rfl,rfl,.inl rfl⟩)⟩ rfl (pi_list (pe_callB (call_sorted_dK rfl) rfl ms bootSorted (@pa_cons _ _ _ _ _ (pv 5) pa_nil rfl))) (fun _ _ _ _=>(pg_name (i:=0) (show(["_law_t","_law_some"]:List Str).Nodup from by decide +kernel) rfl (Or.inl rfl))) (fun _ _ _ _=>(@pe_tup _ _ _ _ _ (@pa_cons _ _ _ _ _ (pv 0) (@pa_cons _ _ _ _ _ (pe_dget hu (pv 1) (pv 0) (fun _ _=>rfl)) pa_nil rfl) rfl)))) (@pss_one _ _ _ (@ps_ret _ _ _ _ (@pe_tup _ _ _ _ _ (@pa_cons _ _ _ _ _ (pe_callTy call_tuple_of rfl mt bootTuple (@pa_cons _ _ _ _ _ (pv 7) pa_nil rfl)) (@pa_cons _ _ _ _ _ (pe_callTy call_tuple_of rfl mt bootTuple (@pa_cons _ _ _ _ _ (pe_comp (own:=["_law_f"]) (caps:=["_law_calls"]) (κ:=[6]) rfl ⟨rfl,by decide +kernel,by decide +kernel,rfl,rfl,(fun y hy=>by simp only [List.mem_cons,List.not_mem_nil,or_false] at hy;rcases hy with rfl<;>rfl),(fun y hy=>by simp only [List.mem_cons,List.not_mem_nil,or_false] at hy;rcases hy with rfl<;>exact⟨.inl rfl,rfl,.inl rfl⟩)⟩ rfl (pi_list (pe_callB (call_sorted_dK rfl) rfl ms bootSorted (@pa_cons _ _ _ _ _ (pv 6) pa_nil rfl))) (fun _ _ _ _=>(pg_name (i:=0) (show(["_law_f","_law_calls"]:List Str).Nodup from by decide +kernel) rfl (Or.inl rfl))) (fun _ _ _ _=>(@pe_tup _ _ _ _ _ (@pa_cons _ _ _ _ _ (pv 0) (@pa_cons _ _ _ _ _ (pe_ix (r:=rIxT K) ix_tup (pe_dget hu (pv 1) (pv 0) (fun _ _=>rfl)) pe_int (fun _ _=>rfl)) (@pa_cons _ _ _ _ _ (pe_ix (r:=rIxT K) ix_tup (pe_dget hu (pv 1) (pv 0) (fun _ _=>rfl)) pe_int (fun _ _=>rfl)) pa_nil rfl) rfl) rfl)))) pa_nil rfl)) pa_nil rfl) rfl))))),?_⟩
  intro H1 g gkv gl y3 y4 s1 hg0 hg hpg hgl
  have eG:=gl_own W.nd1 hgl
  have ngk:g≠kd:=fun z=>by
   obtain⟨_,_,e,_⟩:=hF
   rw [←z,hg0] at e;cases e
  have ngf:g≠fd:=fun z=>by
   obtain⟨_,_,_,e,_⟩:=hF
   rw [←z,hg0] at e;cases e
  refine⟨_,rfl,_,rfl,_,rfl,kd,fd,g,m1,m2,gkv,gl,rfl,hF.same s1,W,hg,hpg,ngk,ngf,fun H2 p sd cd s2 hsd0 hcd0 nsc hp hF2=>?_⟩
  rw [eG] at hF2
  obtain⟨skv,ckv,hsd,hcd,hps,hpc⟩:=hF2
  refine⟨p,_,rfl,SqT.of hp,rfl,_,_,rfl,_,_,rfl,rfl,?_⟩
  have ks1:skv.map (·.1)=(m1.map (·.1)).map Sum.inr:=by rw [pk_keys hps,keys_mapP]
  have ks2:ckv.map (·.1)=(m2.map (·.1)).map Sum.inr:=by rw [pk_keys hpc,keys_mapQ]
  have l1:=W.n1
  have l2:=W.n2
  have h64:(m1.map (·.1)).length < 64:=by rw [List.length_map];omega
  have h642:(m2.map (·.1)).length < 64:=by rw [List.length_map];omega
  have zl:(keysL m1).length≤16:=by rw [srt_len,List.length_map];exact l1
  have zl2:(keysL m2).length≤16:=by rw [srt_len,List.length_map];exact l2
  have getK:∀z∈keysL m1,∃v k,valV skv (.inr z)=some v∧look m1 z=some k∧KdAt K H2 v (Kd.put (ownG (lgiv m1)) k):=fun z hz=>by
   obtain⟨k,hk⟩:=look_ex (srt_mem.mp hz)
   rcases look_val hps z with ⟨_,h2⟩|⟨v,x,h1,h2,h3⟩
   ·rw [look_mapP,hk] at h2
    cases h2
   ·rw [look_mapP,hk] at h2
    rw [←Option.some.inj h2] at h3
    exact⟨v,k,h1,hk,h3⟩
  have getF:∀z∈keysL m2,∃v k,valV ckv (.inr z)=some v∧look m2 z=some k∧FunAt K H2 v (putFn (ownG (lgiv m1)) k):=fun z hz=>by
   obtain⟨k,hk⟩:=look_ex (srt_mem.mp hz)
   rcases look_val hpc z with ⟨_,h2⟩|⟨v,x,h1,h2,h3⟩
   ·rw [look_mapQ,hk] at h2
    cases h2
   ·rw [look_mapQ,hk] at h2
    rw [←Option.some.inj h2] at h3
    exact⟨v,k,h1,hk,h3⟩
  refine⟨_,rfl,sd,skv,_,rfl,hsd,ks1,h64,fun l hl=>?_⟩
  have sl:=same_new hl (.lst ((keysL m1).map V.str))
  have hl3:upd H2 l (.lst ((keysL m1).map V.str)) l=some (.lst ((keysL m1).map V.str)):=upd_same
  generalize upd H2 l (.lst ((keysL m1).map V.str))=H3 at sl hl3 ⊢
  refine⟨l,rfl,⟨_,SqL.of hl3⟩,?_⟩
  refine comp_by (xs:=(keysL m1).map V.str) (fun j us H5=>Same H3 H5∧Dats K H5 us (((keysL m1).take j).map (rowKD (lgiv m1) m1))∧us.length=j) ⟨Same.refl _,.nil,rfl⟩ (by rw [List.length_map];exact small (by omega)) ?_ ?_ ?_ ?_ ?_ ?_
  ·rintro j us H5 ⟨_,_,h⟩
   exact Nat.le_of_eq h
  ·rintro j u us H5 hu ⟨s5,_⟩
   exact⟨_,_,SqL.of (s5 _ _ hl3),hu⟩
  ·rintro j us u H5 H' hn ⟨s5,_⟩ hy
   exact⟨hy.1,hy.2 _ (SqL.of (s5 _ _ hl3))⟩
  ·rintro us H5 ⟨s5,_⟩
   exact⟨_,SqL.of (s5 _ _ hl3),Nat.le_refl _⟩
  ·rintro j u us H5 N hN hu ⟨s5,hus,hz⟩
   rw [List.getElem?_map] at hu
   obtain⟨z,hz',rfl⟩:=Option.map_eq_some_iff.mp hu
   obtain⟨v,k,hv,hk,hkd⟩:=getK z (List.mem_of_getElem? hz')
   have s25:=sl.trans s5
   refine⟨rfl,tYes_go ⟨_,rfl,_,rfl,_,rfl,sd,v,rfl,.inl ⟨skv,.inr z,.inl (s25 _ _ hsd),rfl,hv.symm⟩,(by show 2≤sizeLine;decide),fun pr hpr=>hN _ _ ⟨s5.trans (same_new hpr _),?_,?_⟩⟩⟩
   ·have e:((keysL m1).take (j+1)).map (rowKD (lgiv m1) m1)=((keysL m1).take j).map (rowKD (lgiv m1) m1)++[rowKD (lgiv m1) m1 z]:=by
     rw [List.take_add_one,hz']
     simp
    rw [e]
    have s7:=same_new hpr (.tup [.str z,v])
    refine dats_snoc (hus.same s7) ?_
    have er:rowKD (lgiv m1) m1 z=.tuple [.str z,Kd.dat (Kd.put (ownG (lgiv m1)) k)]:=by
     unfold rowKD
     rw [hk]
     rfl
    rw [er]
    exact .tup (SqT.of upd_same) (.cons (.str _) (.cons (kd_dat ((hkd.same s25).same s7)) .nil))
   ·rw [List.length_append,hz]
    rfl
  ·rintro us H5 D ⟨s5,hus,hz⟩ hD
   have eA:(keysL m1).take ((keysL m1).map V.str).length=keysL m1:=by rw [List.length_map];exact List.take_length
   rw [eA] at hus
   have e1:=same_new hD (.lst us)
   have hD':upd H5 D (.lst us) D=some (.lst us):=upd_same
   have hus':=hus.same e1
   have s26:=sl.trans (s5.trans e1)
   generalize upd H5 D (.lst us)=H6 at e1 hD' hus' s26 ⊢
   refine⟨_,rfl,D,us,rfl,.inl ⟨SqL.of hD',fun t1 ht1=>?_⟩⟩
   have e9:=same_new ht1 (.tup us)
   have ht1':upd H6 t1 (.tup us) t1=some (.tup us):=upd_same
   have s27:=s26.trans e9
   have hus7:=hus'.same e9
   generalize upd H6 t1 (.tup us)=H7 at e9 ht1' s27 hus7 ⊢
   refine⟨_,rfl,cd,ckv,_,rfl,s27 _ _ hcd,ks2,h642,fun l7 hl7=>?_⟩
   have s7:=same_new hl7 (.lst ((keysL m2).map V.str))
   have hL7:upd H7 l7 (.lst ((keysL m2).map V.str)) l7=some (.lst ((keysL m2).map V.str)):=upd_same
   generalize upd H7 l7 (.lst ((keysL m2).map V.str))=H8 at s7 hL7 ⊢
   refine⟨l7,rfl,⟨_,SqL.of hL7⟩,?_⟩
   refine comp_by (xs:=(keysL m2).map V.str) (fun j ws H9=>Same H8 H9∧Dats K H9 ws (((keysL m2).take j).map (rowFD (lgiv m1) m2))∧ws.length=j) ⟨Same.refl _,.nil,rfl⟩ (by rw [List.length_map];exact small (by omega)) ?_ ?_ ?_ ?_ ?_ ?_
   ·rintro j ws H9 ⟨_,_,h⟩
    exact Nat.le_of_eq h
   ·rintro j u ws H9 hu ⟨s9,_⟩
    exact⟨_,_,SqL.of (s9 _ _ hL7),hu⟩
   ·rintro j ws u H9 H' hn ⟨s9,_⟩ hy
    exact⟨hy.1,hy.2 _ (SqL.of (s9 _ _ hL7))⟩
   ·rintro ws H9 ⟨s9,_⟩
    exact⟨_,SqL.of (s9 _ _ hL7),Nat.le_refl _⟩
   ·rintro j u ws H9 N hN hu ⟨s9,hws,hz9⟩
    rw [List.getElem?_map] at hu
    obtain⟨z,hz',rfl⟩:=Option.map_eq_some_iff.mp hu
    obtain⟨v,fn,hv,hk,hfn⟩:=getF z (List.mem_of_getElem? hz')
    have s29:=s27.trans (s7.trans s9)
    obtain⟨pp,ta,x,xs,rfl,f1,f2,f3,f4⟩:=fn_keep (fun a xs t=>s29.tup t) hfn
    refine⟨rfl,tYes_go ⟨_,rfl,_,rfl,_,rfl,cd,_,rfl,.inl ⟨ckv,.inr z,.inl (s29 _ _ hcd),rfl,hv.symm⟩,_,_,_,_,rfl,rfl,f1,at0,_,rfl,_,rfl,cd,_,rfl,.inl ⟨ckv,.inr z,.inl (s29 _ _ hcd),rfl,hv.symm⟩,_,_,_,_,rfl,rfl,f1,at1,(by show 3≤sizeLine;decide),fun pr hpr=>hN _ _ ⟨s9.trans (same_new hpr _),?_,?_⟩⟩⟩
    ·have e:((keysL m2).take (j+1)).map (rowFD (lgiv m1) m2)=((keysL m2).take j).map (rowFD (lgiv m1) m2)++[rowFD (lgiv m1) m2 z]:=by
      rw [List.take_add_one,hz']
      simp
     rw [e]
     have s10:=same_new hpr (.tup [.str z,.ref ta,x])
     refine dats_snoc (hws.same s10) ?_
     have er:rowFD (lgiv m1) m2 z=.tuple [.str z,.tuple ((putFn (ownG (lgiv m1)) fn).1.map Kd.dat),Kd.dat (putFn (ownG (lgiv m1)) fn).2]:=by
      unfold rowFD
      rw [hk]
      rfl
     rw [er]
     exact .tup (SqT.of upd_same) (.cons (.str _) (.cons (.tup (s10.tup f2) (kds_dat (f3.same s10))) (.cons (kd_dat (f4.same s10)) .nil)))
    ·rw [List.length_append,hz9]
     rfl
   ·rintro ws H9 D8 ⟨s9,hws,hz9⟩ hD8
    have eB:(keysL m2).take ((keysL m2).map V.str).length=keysL m2:=by rw [List.length_map];exact List.take_length
    rw [eB] at hws
    have e8:=same_new hD8 (.lst ws)
    refine⟨D8,ws,rfl,.inl ⟨SqL.of upd_same,fun t2 ht2=>?_⟩⟩
    have e10:=same_new ht2 (.tup ws)
    refine⟨(by show 2≤sizeLine;decide),fun t3 ht3=>?_⟩
    have e11:=same_new ht3 (.tup [.ref t1,.ref t2])
    have sZ:=s7.trans (s9.trans (e8.trans (e10.trans e11)))
    exact q _ _ (s1.trans (s2.trans (s27.trans sZ))) (.tup (SqT.of upd_same) (.cons (.tup (SqT.of (sZ _ _ ht1')) (hus7.same sZ)) (.cons (.tup (SqT.of (e11 _ _ upd_same)) (hws.same (e8.trans (e10.trans e11)))) .nil)))
 refine⟨_,@pss_cons _ _ _ _ _ (ps_set (i:=2) scLeastL.nd rfl (Or.inl rfl) pe_dnewK) (@pss_cons _ _ _ _ _ (ps_thaw (ps_for PassesOwn.never rfl (pi_items (pe_call GC hrC rfl mC kC bC .nil pass0 (@pa_cons _ _ _ _ _ (pv 0) pa_nil rfl))) (pg_tup rfl (pgs_cons (pg_name (i:=3) scLeastL.nd rfl (Or.inl rfl)) (pgs_cons (pg_name (i:=4) scLeastL.nd rfl (Or.inl rfl)) pgs_nil))) (@pss_one _ _ _ (ps_dput hu (pv 2) (pv 3) (@pe_tup _ _ _ _ _ (@pa_cons _ _ _ _ _ pe_str (@pa_cons _ _ _ _ _ pe_str (@pa_cons _ _ _ _ _ (pe_callB (call_minL rfl) rfl mmin bootMin (@pa_cons _ _ _ _ _ (pv 4) pa_nil rfl)) pa_nil rfl) rfl) rfl)) rfl)))) d2),?_⟩
 intro g hg
 have s1:=same_new hg (.dK [])
 have hg1:upd H g (.dK []) g=some (.dK []):=upd_same
 generalize upd H g (.dK [])=H1 at s1 hg1 ⊢
 obtain⟨kv1,kv2,hkd,hfd,hp1,hp2⟩:=hF.same s1
 refine⟨_,rfl,kd,kv1,m1,rfl,hkd,hp1,W.n1,fun H2 c s2 hc0 ⟨kvs,hc,hpc⟩=>⟨c,kvs,rfl,hc,fun o=>?_⟩⟩
 obtain⟨c1,c2,c3⟩:=cls_ok m1
 have hg2:=s2 _ _ hg1
 have ngc:g≠c:=fun z=>by rw [←z,hg1] at hc0;cases hc0
 have hz:zo H2 [g] c=some (.dK kvs):=by rw [zo_ne (by simpa using Ne.symm ngc)];exact hc
 have hlen:=hpc.len
 have nf:∀{H4:Hp},Walk K (zo H2 [g]) H4 c o kvs→Same H (upd H4 c (.dK kvs)):=fun wk=>(zo_of (s1.trans s2) (fun b hb=>by rw [List.mem_singleton.mp hb];exact hg)).trans (wk.thaw hz)
 refine for_items (fun i σ H4=>∃(y3 y4:Option V) (gkv:List (Key × V)) (gl:Rows1),σ=[some (.ref kd),some (.ref fd),some (.ref g),y3,y4,none,none,none]∧Walk K (zo H2 [g]) H4 c o kvs∧H4 g=some (.dK gkv)∧PkAt (KdAt K H4) gkv gl∧gl.map (·.1)=((cls m1).map (·.1)).take i∧∀q∈gl,∃M,q.2=ownK M∧∀ws,look (cls m1) q.1=some ws→M∈ws∧∀x∈ws,leS M x=true) ?_ ?_ ?_ ?_
 ·exact⟨none,none,[],[],rfl,(Walk.start hc).base zo_same,by rw [upd_ne ngc];exact hg2,.nil,rfl,fun q hq=>nomatch hq⟩
 ·rintro i σ H4 _ ⟨_,_,_,_,_,wk,_⟩
  exact wk.fz
 ·rintro i pr a σ H4 hpr hna ⟨y3,y4,gkv,gl,rfl,wk,hg4,hpg,hkg,hmg⟩
  obtain⟨⟨t,ws⟩,hq,ez,b,eb,nbc,hb1,hb2⟩:=pair_get hpc hpr
  obtain⟨pk,pw⟩:=pr
  replace ez:pk=.inr t:=ez
  replace eb:pw=.ref b:=eb
  subst ez
  subst eb
  have hmem:=List.mem_of_getElem? hq
  have hi:i < (cls m1).length:=(List.getElem?_eq_some_iff.mp hq).1
  have hlk:look (cls m1) t=some ws:=in_look c1 hmem
  have hne:ws≠[]:=fun e=>by
   have:=c3 t
   rw [hlk] at this
   split at this
   ·cases this
   ·rename_i c0
    exact c0 (by rw [←Option.some.inj this];exact e)
  have nbg:b≠g:=fun z=>by rw [z,hg1] at hb1;cases hb1
  have ea:=same_new hna (.tup [kV (.inr t),.ref b])
  have wk5:=wk.go ea
  have hg5:=ea _ _ hg4
  have hb5:=wk5.old b _ (by rw [zo_ne (by simpa using nbg)];exact hb2) nbc
  refine⟨a,_,rfl,SqT.of upd_same,rfl,_,_,rfl,_,_,rfl,rfl,?_⟩
  have hpg5:=hpg.imp fun _ _ t=>t.same ea
  generalize upd H4 a (.tup [kV (.inr t),.ref b])=H5 at wk5 hg5 hb5 hpg5 ⊢
  refine⟨_,rfl,b,ws,rfl,SqL.of hb5,hne,fun M hM hl=>⟨(by show 3≤sizeLine;decide),fun p hp=>?_⟩⟩
  have s6:=same_new hp (.tup [.str "name",.str "",.str M])
  have wk6:=wk5.go s6
  have hg6:=s6 _ _ hg5
  have hpg6:=hpg5.imp fun _ _ t=>t.same s6
  have hk6:KdAt K (upd H5 p (.tup [.str "name",.str "",.str M])) (.ref p) (ownK M):=.name (SqT.of upd_same)
  generalize upd H5 p (.tup [.str "name",.str "",.str M])=H6 at wk6 hg6 hpg6 hk6 ⊢
  have lg:gkv.length=i:=by
   rw [hpg.len]
   have:=congrArg List.length hkg
   rw [List.length_map,List.length_take,List.length_map] at this
   omega
  have l16:=W.n1
  have ktf:Kt K H6 (upd H6 g (.dK (putK gkv (.inr t) (.ref p)))):=fun a xs t=>sqt_dk hg6 t
  refine⟨_,rfl,_,rfl,g,_,rfl,DPut.k (k:=.inr t) hg6 (Nat.lt_of_lt_of_le (Nat.lt_succ_self _) (small (by omega))),?_⟩
  refine⟨_,_,_,gl++[(t,ownK M)],rfl,wk6.put (zo_at (.head _)) ngc hg6,upd_same,PkAt.put (hpg6.imp fun _ _ t=>kd_keep ktf t) ?_ (kd_keep ktf hk6),?_,fun q hq=>?_⟩
  ·rw [hkg]
   exact not_take c1 (by rw [List.getElem?_map,hq];rfl)
  ·rw [List.map_append,hkg,take_snoc (z:=t) (by rw [List.getElem?_map,hq];rfl)]
   rfl
  ·rcases List.mem_append.mp hq with h|h
   ·exact hmg q h
   ·rw [List.mem_singleton.mp h]
    refine⟨M,rfl,fun ws' hws'=>?_⟩
    have:look (cls m1) t=some ws':=hws'
    rw [hlk] at this
    rw [←Option.some.inj this]
    exact⟨hM,hl⟩
 ·rintro σ H4 ⟨y3,y4,gkv,gl,rfl,wk,hg4,hpg,hkg,hmg⟩
  rw [hlen,←List.length_map (f:=(·.1)),List.take_length] at hkg
  have ktT:Kt K H4 (upd H4 c (.dK kvs)):=fun a xs t=>by
   rcases t with (t|⟨o',t⟩)|t
   ·exact .inl (.inl (by rw [upd_ne (fun e=>by rw [e,wk.fz] at t;cases t)];exact t))
   ·exact .inl (.inr ⟨o',by rw [upd_ne (fun e=>by rw [e,wk.fz] at t;cases t)];exact t⟩)
   ·exact .inr t
  exact⟨c,o,.dK kvs,wk.fz,nofz' (s1.trans s2) hc,k2 _ g gkv gl y3 y4 (nf wk) hg (by rw [upd_ne ngc];exact hg4) (hpg.imp fun _ _ t=>kd_keep ktT t) ⟨hkg,hmg⟩⟩
end
end K27
namespace K27
open PySem L2 Kk
def ordK(kvs:List (Key × V))(zs:List Str):List (Key × V):=zs.map fun z=>(Sum.inr z,(valV kvs (.inr z)).getD .non)
def spOther:Sp:=fun vs H Q _=>∃(d sd:Addr) (kvs:List (Key × V)) (ks:List Str),vs=[.ref d,.ref sd]∧DL H d∧H sd=some (.dK kvs)∧kvs.map (·.1)=ks.map Sum.inr∧ks.Nodup∧ks.length≤16 ∧
 ∀H' fo zs,Go d H H'→H fo=none→zs.Perm ks→H' fo=some (.dK (ordK kvs zs))→Q (.ref fo) H'
theorem pk_ord{α:Type}{R:V→α→Prop}{kvs:List (Key × V)}{m:List (Str × α)}(h:PkAt R kvs m)(x0:α):∀{zs:List Str},(∀z∈zs,z∈m.map (·.1))→PkAt R (ordK kvs zs) (zs.map fun z=>(z,(look m z).getD x0))
 |[],_=>.nil
 |z::zs,hz=>by
  refine .cons ⟨rfl,?_⟩ (pk_ord h x0 fun y hy=>hz y (.tail _ hy))
  obtain⟨x,e⟩:=look_ex (hz z (.head _))
  rcases look_val h z with ⟨_,h2⟩|⟨v,x',h1,h2,h3⟩
  ·rw [e] at h2;cases h2
  ·show R ((valV kvs (.inr z)).getD .non) ((look m z).getD x0)
   rw [h1,h2]
   exact h3
theorem ord_perm{α:Type}{m:List (Str × α)}(nd:(m.map (·.1)).Nodup)(x0:α){zs:List Str}(hp:zs.Perm (m.map (·.1))):(zs.map fun z=>(z,(look m z).getD x0)).Perm m:=by
 have h1:=hp.map fun z=>(z,(look m z).getD x0)
 have h2:(m.map (·.1)).map (fun z=>(z,(look m z).getD x0))=m:=by
  rw [List.map_map]
  conv=>rhs;rw [←List.map_id m]
  refine List.map_congr_left fun q hq=>?_
  show(q.1,(look m q.1).getD x0)=q
  rw [in_look nd hq]
  rfl
 rw [h2] at h1
 exact h1
section
variable{P:Program}{w:World}{K:PySem.W.Frag}{mg:Str→Option Value}{base:Heap}
theorem scOther:FnScope ["_law_deal_here","_law_some","_law_names","_law_found","_law_name"] ["_law_deal_here","_law_some"] (defScope sOther):=⟨rfl,rfl,rfl,by decide +kernel,rfl,by decide +kernel,by decide +kernel⟩
set_option maxHeartbeats 0 in
theorem ok_other{f fD:Addr}{fd' fdD:FuncData} (F:Fun K "_law_other_order" "_law_other_order" sOther f fd') (ms:mg "sorted"=none) (GD:FnOk P w K mg base CX0 1 fD fdD ["_law_deal_here","_law_many"] spDraw) (bD:Binds K fdD ["_law_deal_here","_law_many"] []) (kD:PySem.W.keepIn K (.ref fD)=true) (mD:mg "_law_draw"=some (.ref fD)):FnOk P w K mg base CX0 2 f fd' ["_law_deal_here","_law_some"] spOther:=by
 refine F.ok (k:=1) scOther (fun vs H Q E h=>?_) (fun cdv A outer s H vs Q E hrD h=>?_)
 ·obtain⟨_,_,_,_,rfl,_⟩:=h
  rfl
 obtain⟨d,sd,kvs,ks,rfl,hd,hsd,hks,hnd,h16,q⟩:=h
 have hu:=hu_of hrD
 have nsd:=dl_ne hd hsd nofun
 obtain⟨t2,d2,k2⟩:∃t,PSs (cxOf CX0 P w K mg base ["_law_deal_here","_law_some","_law_names","_law_found","_law_name"] "_law_other_order" (defScope sOther) f cdv A outer s H E).nox (List.drop 2 (defBody sOther)) t ∧
   ∀(H1:Hp) (l:Addr) (zs:List Str),Go d H H1→l≠d→H1 l=some (.lst (zs.map V.str))→zs.Perm ks→t { nx:=fun _ H'=>Q .non H',rt:=Q } [some (.ref d),some (.ref sd),some (.ref l),none,none] H1:=by
  refine⟨_,@pss_cons _ _ _ _ _ (ps_set (i:=3) scOther.nd rfl (Or.inl rfl) pe_dnewK) (@pss_cons _ _ _ _ _ (ps_for PassesOwn.never rfl (pi_list (pv 2)) (pg_name (i:=4) scOther.nd rfl (Or.inl rfl)) (@pss_one _ _ _ (ps_dput hu (pv 3) (pv 4) (pe_dget hu (pv 1) (pv 4) (fun _ _=>rfl)) rfl))) (@pss_one _ _ _ (@ps_ret _ _ _ _ (pv 3)))),?_⟩
  intro H1 l zs g1 nl hl hp fo hfo
  have n2:Go d H1 _:=.new g1.d hfo (.dK [])
  have nfo:=g1.nd hfo
  have hfo0:=g1.free hfo
  have nlf:l≠fo:=fun z=>by rw [z,hfo] at hl;cases hl
  have nsf:sd≠fo:=fun z=>by rw [z,hfo0] at hsd;cases hsd
  have hl2:=n2.at nl hl
  have zn:zs.Nodup:=hp.nodup_iff.mpr hnd
  have zl:zs.length≤16:=by rw [hp.length_eq];exact h16
  refine⟨_,rfl,l,rfl,⟨_,SqL.of hl2⟩,for_list (K:=K) (xs:=zs.map V.str) (fun i σ H3=>∃y4:Option V,σ=[some (.ref d),some (.ref sd),some (.ref l),some (.ref fo),y4]∧Go d H H3∧H3 l=some (.lst (zs.map V.str))∧H3 fo=some (.dK (ordK kvs (zs.take i)))) ⟨none,rfl,g1.trans n2,hl2,upd_same⟩ ?_ ?_ ?_⟩
  ·rintro i σ H3 _ ⟨_,_,_,h,_⟩
   exact SqL.of h
  ·rintro i y σ H3 hy ⟨y4,rfl,g3,hl3,hf3⟩
   rw [List.getElem?_map] at hy
   obtain⟨z,hz,rfl⟩:=Option.map_eq_some_iff.mp hy
   have hmz:z∈ks:=hp.mem_iff.mp (List.mem_of_getElem? hz)
   obtain⟨v,hv⟩:∃v,valV kvs (.inr z)=some v:=by
    cases e:valV kvs (.inr z) with
    |some v=>exact⟨v,rfl⟩
    |none =>
     exfalso
     have hm:(Sum.inr z:Key)∈kvs.map (·.1):=by rw [hks];exact List.mem_map_of_mem hmz
     obtain⟨p,hp1,hp2⟩:=List.mem_map.mp hm
     unfold valV at e
     rw [Option.map_eq_none_iff,List.find?_eq_none] at e
     exact e p hp1 (decide_eq_true hp2)
   refine⟨_,rfl,_,rfl,sd,v,rfl,.inl ⟨kvs,.inr z,.inl (g3.at nsd hsd),rfl,hv.symm⟩,_,rfl,_,rfl,fo,_,rfl,DPut.k (k:=.inr z) hf3 (Nat.lt_of_lt_of_le (Nat.lt_succ_self _) (small (by unfold ordK;rw [List.length_map,List.length_take];omega))),?_⟩
   have e:putK (ordK kvs (zs.take i)) (.inr z) v=ordK kvs (zs.take (i+1)):=by
    rw [putK_new]
    ·unfold ordK
     rw [take_snoc hz,List.map_append]
     show _=_++[(Sum.inr z,(valV kvs (.inr z)).getD .non)]
     rw [hv]
     rfl
    ·refine valV_out fun hm=>?_
     unfold ordK at hm
     rw [List.map_map] at hm
     obtain⟨y,hy,ey⟩:=List.mem_map.mp hm
     have ey:(Sum.inr y:Key)=Sum.inr z:=ey
     rw [Sum.inr.inj ey] at hy
     exact not_take zn hz hy
   rw [e]
   exact⟨_,rfl,g3.put hfo0 nfo _,by rw [upd_ne nlf];exact hl3,upd_same⟩
  ·rintro σ H3 ⟨y4,rfl,g3,hl3,hf3⟩
   rw [List.length_map,List.take_length] at hf3
   exact⟨_,rfl,q _ fo zs g3 hfo0 hp hf3⟩
 refine⟨_,@pss_cons _ _ _ _ _ (ps_set (i:=2) scOther.nd rfl (Or.inl rfl) (pe_callB (call_sorted_dK rfl) rfl ms bootSorted (@pa_cons _ _ _ _ _ (pv 1) pa_nil rfl))) (@pss_cons _ _ _ _ _ (ps_if (pt_cmpR op_eq (pe_call GD hrD rfl mD kD bD .nil pass0 (@pa_cons _ _ _ _ _ (pv 0) (@pa_cons _ _ _ _ _ pe_int pa_nil rfl) rfl)) pe_int (nomark _)) (@pss_one _ _ _ (ps_expr (pe_bm0 PySem.F.plainAttrs_list PySem.F.slot_list_reverse PySem.F.type_list_reverse mt_reverse (pv 2)))) pss_nil) d2),?_⟩
 refine⟨_,rfl,sd,kvs,ks,rfl,hsd,hks,by omega,fun l hl=>?_⟩
 have n1:Go d H _:=.new hd hl (.lst ((srt ks).map V.str))
 have nl:=(Go.refl hd).nd hl
 have hp:=srt_perm ks
 refine⟨_,rfl,d,2,rfl,n1.d,by decide,by decide,fun H2 r g2 _ _=>?_⟩
 have g12:=n1.trans g2
 have hl2:=g2.at nl (b:=l) upd_same
 refine⟨rfl,_,rfl,ite2 (fun _=>?_) (fun _=>k2 _ l _ g12 nl hl2 hp)⟩
 refine⟨_,rfl,.inl ⟨rfl,_,SqL.of hl2⟩,l,_,rfl,rfl,hl2,?_⟩
 refine k2 _ l (srt ks).reverse (g12.put hl nl _) nl ?_ ((List.reverse_perm _).trans hp)
 rw [upd_same,←List.map_reverse]
def TrOk(m1:Rows1)(m2:Rows2)(n1:Rows1)(n2:Rows2):Prop:=∃gl:Rows1,gl.map (·.1)=(cls m1).map (·.1)∧(∀q∈gl,∃M,q.2=ownK M∧M∈own m1 q.1)∧n1.Perm (m1.map (putP (ownG gl)))∧n2.Perm (m2.map (putQ (ownG gl)))
def spTurned(K:PySem.W.Frag):Sp:=fun vs H Q _=>∃(d kd fd:Addr) (m1:Rows1) (m2:Rows2),vs=[.ref d,.ref kd,.ref fd]∧DL H d∧FcAt K H kd fd m1 m2∧WF m1 m2 ∧
 ∀H' p kd' fd' n1 n2,Go d H H'→H kd'=none→H fd'=none→kd'≠fd'→H' p=some (.tup [.ref kd',.ref fd'])→FcAt K H' kd' fd' n1 n2→TrOk m1 m2 n1 n2→Q (.ref p) H'
theorem Walk.goD{B H4 H5:Hp}{c d:Addr}{o:Obj}{kv:List (Key × V)}(w:Walk K B H4 c o kv)(hB:B d=none)(n:c≠d)(hd:DL H4 d)(g:Go d H4 H5):Walk K B H5 c o kv :=
 ⟨fun b u hb nb=>g.at (fun z=>by rw [z,hB] at hb;cases hb) (w.old b u hb nb),g.at n w.fz,fun a xs t=>g.kt hd a xs (w.tup a xs t)⟩
theorem scTurned:FnScope ["_law_deal_here","_law_kinds","_law_funs","_law_given","_law_t","_law_words_here","_law_some","_law_calls"] ["_law_deal_here","_law_kinds","_law_funs"] (defScope sTurned):=⟨rfl,rfl,rfl,by decide +kernel,rfl,by decide +kernel,by decide +kernel⟩
set_option maxHeartbeats 0 in
theorem ok_turned{f fD fC fQ fO:Addr}{fd' fdD fdC fdQ fdO:FuncData} (F:Fun K "_law_turned" "_law_turned" sTurned f fd') (ml:mg "len"=none) (GD:FnOk P w K mg base CX0 1 fD fdD ["_law_deal_here","_law_many"] spDraw) (bD:Binds K fdD ["_law_deal_here","_law_many"] []) (kD:PySem.W.keepIn K (.ref fD)=true) (mD:mg "_law_draw"=some (.ref fD))
  (GC:FnOk P w K mg base CX0 1 fC fdC ["_law_kinds"] (spClsL K)) (bC:Binds K fdC ["_law_kinds"] []) (kC:PySem.W.keepIn K (.ref fC)=true) (mC:mg "_law_classes"=some (.ref fC))
  (GQ:FnOk P w K mg base CX0 10 fQ fdQ ["_law_kinds","_law_funs","_law_given"] (spAllL K)) (bQ:Binds K fdQ ["_law_kinds","_law_funs","_law_given"] []) (kQ:PySem.W.keepIn K (.ref fQ)=true) (mQ:mg "_law_all"=some (.ref fQ))
  (GO:FnOk P w K mg base CX0 2 fO fdO ["_law_deal_here","_law_some"] spOther) (bO:Binds K fdO ["_law_deal_here","_law_some"] []) (kO:PySem.W.keepIn K (.ref fO)=true) (mO:mg "_law_other_order"=some (.ref fO)):FnOk P w K mg base CX0 11 f fd' ["_law_deal_here","_law_kinds","_law_funs"] (spTurned K):=by
 refine F.ok (k:=10) scTurned (fun vs H Q E h=>?_) (fun cdv A outer s H vs Q E hrQ h=>?_)
 ·obtain⟨_,_,_,_,_,rfl,_⟩:=h
  rfl
 obtain⟨d,kd,fd,m1,m2,rfl,hd,hF,W,q⟩:=h
 have hu:=hu_of hrQ
 have hrC:Room 1 _:=hrQ.mono (by decide)
 have hrD:Room 1 _:=hrQ.mono (by decide)
 have hrO:Room 2 _:=hrQ.mono (by decide)
 obtain⟨t2,d2,k2⟩:∃t,PSs (cxOf CX0 P w K mg base ["_law_deal_here","_law_kinds","_law_funs","_law_given","_law_t","_law_words_here","_law_some","_law_calls"] "_law_turned" (defScope sTurned) f cdv A outer s H E).nox (List.drop 2 (defBody sTurned)) t ∧
   ∀(H1:Hp) (g:Addr) (gkv:List (Key × V)) (gl:Rows1) (y4 y5:Option V),Go d H H1→H g=none→H1 g=some (.dK gkv)→PkAt (KdAt K H1) gkv gl→gl.map (·.1)=(cls m1).map (·.1)→(∀q∈gl,∃M,q.2=ownK M∧M∈own m1 q.1)→t { nx:=fun _ H'=>Q .non H',rt:=Q } [some (.ref d),some (.ref kd),some (.ref fd),some (.ref g),y4,y5,none,none] H1:=by
  refine⟨_,@pss_cons _ _ _ _ _ (ps_asg (pe_call GQ hrQ rfl mQ kQ bQ .nil pass0 (@pa_cons _ _ _ _ _ (pv 1) (@pa_cons _ _ _ _ _ (pv 2) (@pa_cons _ _ _ _ _ (pv 3) pa_nil rfl) rfl) rfl)) (pg_tup rfl (pgs_cons (pg_name (i:=6) scTurned.nd rfl (Or.inl rfl)) (pgs_cons (pg_name (i:=7) scTurned.nd rfl (Or.inl rfl)) pgs_nil)))) (@pss_one _ _ _ (@ps_ret _ _ _ _ (@pe_tup _ _ _ _ _ (@pa_cons _ _ _ _ _ (pe_call GO hrO rfl mO kO bO .nil pass0 (@pa_cons _ _ _ _ _ (pv 0) (@pa_cons _ _ _ _ _ (pv 6) pa_nil rfl) rfl)) (@pa_cons _ _ _ _ _ (pe_call GO hrO rfl mO kO bO .nil pass0 (@pa_cons _ _ _ _ _ (pv 0) (@pa_cons _ _ _ _ _ (pv 7) pa_nil rfl) rfl)) pa_nil rfl) rfl)))),?_⟩
  intro H1 g gkv gl y4 y5 g1 hg0 hg hpg hgl hgm
  have ngk:g≠kd:=fun z=>by
   obtain⟨_,_,e,_⟩:=hF
   rw [←z,hg0] at e;cases e
  have ngf:g≠fd:=fun z=>by
   obtain⟨_,_,_,e,_⟩:=hF
   rw [←z,hg0] at e;cases e
  refine⟨_,rfl,_,rfl,_,rfl,kd,fd,g,m1,m2,gkv,gl,rfl,hF.go hd g1,W,hg,hpg,ngk,ngf,fun H2 p sd cd s2 hsd0 hcd0 nsc hp hF2=>?_⟩
  have g2:Go d H1 H2:=.of g1.d s2
  obtain⟨skv,ckv,hsd,hcd,hps,hpc⟩:=hF2
  refine⟨p,_,rfl,SqT.of hp,rfl,_,_,rfl,_,_,rfl,rfl,?_⟩
  have ks1:skv.map (·.1)=(m1.map (·.1)).map Sum.inr:=by rw [pk_keys hps,keys_mapP]
  have ks2:ckv.map (·.1)=(m2.map (·.1)).map Sum.inr:=by rw [pk_keys hpc,keys_mapQ]
  have l1:=W.n1
  have l2:=W.n2
  refine⟨_,rfl,_,rfl,d,sd,skv,m1.map (·.1),rfl,g2.d,hsd,ks1,W.nd1,by rw [List.length_map];exact l1,fun H3 fo zs g3 hfo hzp hf3=>?_⟩
  have ncd:=dl_ne g2.d hcd nofun
  have hpc3:=hpc.imp fun _ _ t=>fn_keep (g3.kt g2.d) t
  have hps3:=hps.imp fun _ _ t=>kd_keep (g3.kt (K:=K) g2.d) t
  refine⟨_,rfl,_,rfl,d,cd,ckv,m2.map (·.1),rfl,g3.d,g3.at ncd hcd,ks2,W.nd2,by rw [List.length_map];exact l2,fun H4 fo2 zs2 g4 hfo2 hzp2 hf4=>?_⟩
  have nfo:=dl_ne g3.d hf3 nofun
  have nff:fo≠fo2:=fun z=>by rw [z,hfo2] at hf3;cases hf3
  refine⟨(by show 2≤sizeLine;decide),fun p5 hp5=>?_⟩
  have n5:Go d H4 _:=.new g4.d hp5 (.tup [.ref fo,.ref fo2])
  have g12:=g1.trans g2
  have kt35:=(g4.trans n5).kt (K:=K) g3.d
  have nd1':((m1.map (putP (ownG gl))).map (·.1)).Nodup:=by rw [keys_mapP];exact W.nd1
  have nd2':((m2.map (putQ (ownG gl))).map (·.1)).Nodup:=by rw [keys_mapQ];exact W.nd2
  have nfo2:=dl_ne g4.d hf4 nofun
  refine q _ p5 fo fo2 _ _ (g12.trans (g3.trans (g4.trans n5))) (g12.free hfo) ((g12.trans g3).free hfo2) nff upd_same ⟨_,_,(g4.trans n5).at nfo hf3,n5.at nfo2 hf4,(pk_ord hps3 (.num 0) fun z hz=>?_).imp fun _ _ t=>kd_keep kt35 t,(pk_ord hpc3 ([],.num 0) fun z hz=>?_).imp fun _ _ t=>fn_keep kt35 t⟩ ⟨gl,hgl,hgm,ord_perm nd1' (.num 0) (by rw [keys_mapP];exact hzp),ord_perm nd2' ([],.num 0) (by rw [keys_mapQ];exact hzp2)⟩
  ·rw [keys_mapP];exact hzp.mem_iff.mp hz
  ·rw [keys_mapQ];exact hzp2.mem_iff.mp hz
 refine⟨_,@pss_cons _ _ _ _ _ (ps_set (i:=3) scTurned.nd rfl (Or.inl rfl) pe_dnewK) (@pss_cons _ _ _ _ _ (ps_thaw (ps_for PassesOwn.never rfl (pi_items (pe_call GC hrC rfl mC kC bC .nil pass0 (@pa_cons _ _ _ _ _ (pv 1) pa_nil rfl))) (pg_tup rfl (pgs_cons (pg_name (i:=4) scTurned.nd rfl (Or.inl rfl)) (pgs_cons (pg_name (i:=5) scTurned.nd rfl (Or.inl rfl)) pgs_nil))) (@pss_one _ _ _ (ps_dput hu (pv 3) (pv 4) (@pe_tup _ _ _ _ _ (@pa_cons _ _ _ _ _ pe_str (@pa_cons _ _ _ _ _ pe_str (@pa_cons _ _ _ _ _ (pe_ix ix_list (pv 5) (pe_call GD hrD rfl mD kD bD .nil pass0 (@pa_cons _ _ _ _ _ (pv 0) (@pa_cons _ _ _ _ _ (pe_callB call_len_seq rfl ml PySem.boot_len (@pa_cons _ _ _ _ _ (pv 5) pa_nil rfl)) pa_nil rfl) rfl)) (fun _ _=>rfl)) pa_nil rfl) rfl) rfl)) rfl)))) d2),?_⟩
 intro g hg
 have s1:=same_new hg (.dK [])
 have hg1:upd H g (.dK []) g=some (.dK []):=upd_same
 have g1:Go d H _:=.of hd s1
 have ngd:=(Go.refl hd).nd hg
 generalize upd H g (.dK [])=H1 at s1 hg1 g1 ⊢
 obtain⟨kv1,kv2,hkd,hfd,hp1,hp2⟩:=hF.same s1
 refine⟨_,rfl,kd,kv1,m1,rfl,hkd,hp1,W.n1,fun H2 c s2 hc0 ⟨kvs,hc,hpc⟩=>⟨c,kvs,rfl,hc,fun o=>?_⟩⟩
 obtain⟨c1,c2,c3⟩:=cls_ok m1
 have g2:Go d H1 H2:=.of g1.d s2
 have hg2:=s2 _ _ hg1
 have ngc:g≠c:=fun z=>by rw [←z,hg1] at hc0;cases hc0
 have ncd:c≠d:=g1.nd hc0
 have hz:zo H2 [g,d] c=some (.dK kvs):=by
  rw [zo_ne (by
   intro z
   rcases List.mem_cons.mp z with z|z
   ·exact ngc z.symm
   ·exact ncd (List.mem_singleton.mp z))]
  exact hc
 have hBd:zo H2 [g,d] d=none:=zo_at (by simp)
 have hlen:=hpc.len
 refine for_items (fun i σ H4=>∃(y4 y5:Option V) (gkv:List (Key × V)) (gl:Rows1),σ=[some (.ref d),some (.ref kd),some (.ref fd),some (.ref g),y4,y5,none,none]∧Walk K (zo H2 [g,d]) H4 c o kvs∧DL H4 d∧H4 g=some (.dK gkv)∧PkAt (KdAt K H4) gkv gl∧gl.map (·.1)=((cls m1).map (·.1)).take i∧∀q∈gl,∃M,q.2=ownK M∧M∈own m1 q.1) ?_ ?_ ?_ ?_
 ·obtain⟨x,y,e⟩:=g2.d
  exact⟨none,none,[],[],rfl,(Walk.start hc).base zo_same,⟨x,y,by rw [upd_ne (Ne.symm ncd)];exact e⟩,by rw [upd_ne ngc];exact hg2,.nil,rfl,fun q hq=>nomatch hq⟩
 ·rintro i σ H4 _ ⟨_,_,_,_,_,wk,_⟩
  exact wk.fz
 ·rintro i pr a σ H4 hpr hna ⟨y4,y5,gkv,gl,rfl,wk,hd4,hg4,hpg,hkg,hmg⟩
  obtain⟨⟨t,ws⟩,hq,ez,b,eb,nbc,hb1,hb2⟩:=pair_get hpc hpr
  obtain⟨pk,pw⟩:=pr
  replace ez:pk=.inr t:=ez
  replace eb:pw=.ref b:=eb
  subst ez
  subst eb
  have hmem:=List.mem_of_getElem? hq
  have hi:i < (cls m1).length:=(List.getElem?_eq_some_iff.mp hq).1
  have hlk:look (cls m1) t=some ws:=in_look c1 hmem
  have hown:own m1 t=ws∧ws≠[]:=by
   have:=c3 t
   rw [hlk] at this
   split at this
   ·cases this
   ·rename_i c0
    have e:=Option.some.inj this
    exact⟨e.symm,fun z=>c0 (by rw [←e];exact z)⟩
  have nbg:b≠g:=fun z=>by rw [z,hg1] at hb1;cases hb1
  have nbd:b≠d:=g1.nd hb1
  have n5:Go d H4 _:=.new hd4 hna (.tup [kV (.inr t),.ref b])
  have wk5:=wk.goD hBd ncd hd4 n5
  have hg5:=n5.at ngd hg4
  have hb5:=wk5.old b _ (by
   rw [zo_ne (by
    intro z
    rcases List.mem_cons.mp z with z|z
    ·exact nbg z
    ·exact nbd (List.mem_singleton.mp z))]
   exact hb2) nbc
  refine⟨a,_,rfl,SqT.of upd_same,rfl,_,_,rfl,_,_,rfl,rfl,?_⟩
  have hpg5:=hpg.imp fun _ _ t=>kd_keep (n5.kt (K:=K) hd4) t
  have hd5:=n5.d
  generalize upd H4 a (.tup [kV (.inr t),.ref b])=H5 at wk5 hg5 hb5 hpg5 hd5 ⊢
  have hwl:ws.length≤16:=by
   rw [←hown.1]
   unfold own
   rw [List.length_map]
   exact Nat.le_trans (List.length_filter_le _ _) W.n1
  have hwl2:(ws.map V.str).length=ws.length:=List.length_map _
  have hpos:=List.length_pos_iff.mpr hown.2
  refine⟨_,rfl,_,rfl,_,rfl,b,_,rfl,.inl (SqL.of hb5),d,_,rfl,hd5,(by rw [hwl2];omega),(by rw [hwl2];omega),fun H6 r g6 r0 r1=>?_⟩
  rw [hwl2] at r1
  obtain⟨M,hM,hat⟩:=str_get (ws:=ws) r0 (by omega)
  refine⟨b,_,_,_,rfl,rfl,SqL.of (g6.at nbd hb5),hat,(by show 3≤sizeLine;decide),fun p hp=>?_⟩
  have n7:Go d H6 _:=.new g6.d hp (.tup [.str "name",.str "",.str M])
  have g67:=g6.trans n7
  have wk7:=wk5.goD hBd ncd hd5 g67
  have hg7:=g67.at ngd hg5
  have hpg7:=hpg5.imp fun _ _ t=>kd_keep (g67.kt (K:=K) hd5) t
  have hk7:KdAt K (upd H6 p (.tup [.str "name",.str "",.str M])) (.ref p) (ownK M):=.name (SqT.of upd_same)
  have hd7:=n7.d
  generalize upd H6 p (.tup [.str "name",.str "",.str M])=H7 at wk7 hg7 hpg7 hk7 hd7 ⊢
  have lg:gkv.length=i:=by
   rw [hpg.len]
   have:=congrArg List.length hkg
   rw [List.length_map,List.length_take,List.length_map] at this
   omega
  have l16:=W.n1
  have ktf:Kt K H7 (upd H7 g (.dK (putK gkv (.inr t) (.ref p)))):=fun a xs t=>sqt_dk hg7 t
  refine⟨_,rfl,_,rfl,g,_,rfl,DPut.k (k:=.inr t) hg7 (Nat.lt_of_lt_of_le (Nat.lt_succ_self _) (small (by omega))),?_⟩
  obtain⟨x7,y7,e7⟩:=hd7
  refine⟨_,_,_,gl++[(t,ownK M)],rfl,wk7.put (zo_at (.head _)) ngc hg7,⟨x7,y7,by rw [upd_ne (Ne.symm ngd)];exact e7⟩,upd_same,PkAt.put (hpg7.imp fun _ _ t=>kd_keep ktf t) ?_ (kd_keep ktf hk7),?_,fun q hq=>?_⟩
  ·rw [hkg]
   exact not_take c1 (by rw [List.getElem?_map,hq];rfl)
  ·rw [List.map_append,hkg,take_snoc (z:=t) (by rw [List.getElem?_map,hq];rfl)]
   rfl
  ·rcases List.mem_append.mp hq with h|h
   ·exact hmg q h
   ·rw [List.mem_singleton.mp h]
    exact⟨M,rfl,by show M∈own m1 t;rw [hown.1];exact hM⟩
 ·rintro σ H4 ⟨y4,y5,gkv,gl,rfl,wk,hd4,hg4,hpg,hkg,hmg⟩
  rw [hlen,←List.length_map (f:=(·.1)),List.take_length] at hkg
  have ktT:Kt K H4 (upd H4 c (.dK kvs)):=fun a xs t=>by
   rcases t with (t|⟨o',t⟩)|t
   ·exact .inl (.inl (by rw [upd_ne (fun e=>by rw [e,wk.fz] at t;cases t)];exact t))
   ·exact .inl (.inr ⟨o',by rw [upd_ne (fun e=>by rw [e,wk.fz] at t;cases t)];exact t⟩)
   ·exact .inr t
  have sT:=wk.thaw hz
  have dT:DL (upd H4 c (.dK kvs)) d:=by
   obtain⟨x,y,e⟩:=hd4
   exact⟨x,y,by rw [upd_ne (Ne.symm ncd)];exact e⟩
  have gT:Go d H (upd H4 c (.dK kvs)):=by
   refine⟨fun b u hb=>?_,dT⟩
   have nb:b∉[d]:=fun z=>by rw [zo_at z] at hb;cases hb
   rw [zo_ne nb] at hb ⊢
   refine sT b u ?_
   rw [zo_ne]
   ·exact s2 _ _ (s1 _ _ hb)
   ·intro z
    rcases List.mem_cons.mp z with z|z
    ·rw [z,hg] at hb;cases hb
    ·exact nb z
  exact⟨c,o,.dK kvs,wk.fz,nofz' (s1.trans s2) hc,k2 _ g gkv gl y4 y5 gT hg (by rw [upd_ne ngc];exact hg4) (hpg.imp fun _ _ t=>kd_keep ktT t) hkg hmg⟩
end
end K27
namespace L2
open PySem
theorem comp_keysR{d:Addr}{o:Obj}{kvs:List (Key × V)}{n:Nat}{κ:List Nat}{g:TG}{tc:TT}{te:TE}{σ:St}{H:Hp}{Q:VK}(hz:kvs.length≤1000)(R:Nat→List V→Hp→Prop)(h0:R 0 [] H)(hd:∀i ys H2,R i ys H2→H2 d=some (.frz o (.dK kvs)))(hlen:∀i ys H2,R i ys H2→ys.length≤i)
  (hs:∀i kv ys H2 (N:List V→Hp→Prop),kvs[i]?=some kv→R i ys H2→(∀ys' H',R (i+1) ys' H'→N ys' H')→g (kV kv.1) (blkSt n κ σ) H2 fun σ4 H4=>σ4.drop n=(blkSt n κ σ).drop n∧tc σ4 H4 fun b H5=>if b=true then te σ4 H5 fun v H6=>N (ys++[v]) H6 else N ys H5)
  (hQ:∀ys H2 D,R kvs.length ys H2→H2 D=none→Q (.ref D) (upd H2 D (.lst ys))):CompRun n κ g tc te σ (Itk d o kvs) H Q:=by
 have hl:(kvs.map fun p=>kV p.1).length=kvs.length:=List.length_map _
 refine comp_by (J:=Itk d o kvs) (xs:=kvs.map fun p=>kV p.1) R h0 (by rw [hl];exact Nat.le_of_lt (small1000 hz)) hlen ?_ ?_ ?_ ?_ ?_
 ·rintro i u ys H3 hu h
  refine⟨hd _ _ _ h,?_⟩
  have:=(List.getElem?_eq_some_iff.mp hu).1
  omega
 ·rintro i ys u H3 H' hn h ⟨e,p,hp,ex⟩
  refine⟨e,?_⟩
  rw [List.getElem?_map,hp,ex]
  rfl
 ·rintro ys H3 h
  exact⟨hd _ _ _ h,by omega⟩
 ·rintro i u ys H3 N hN hu h
  rw [List.getElem?_map] at hu
  cases e:kvs[i]? with
  |none=>rw [e] at hu;cases hu
  |some kv =>
   rw [e] at hu
   cases hu
   exact hs i kv ys H3 N e h hN
 ·rintro ys H3 D h hD
  rw [hl] at h
  exact hQ ys H3 D h hD
end L2
namespace K27
open PySem L2 Kk
def setR{α:Type}(m:List (Str × α))(t:Str)(x:α):List (Str × α):=m.map fun q=>if q.1=t then (q.1,x) else q
def dropR{α:Type}(m:List (Str × α))(t:Str):List (Str × α):=m.filter fun q=>decide (q.1≠t)
theorem keys_setR{α:Type}{m:List (Str × α)}{t:Str}{x:α}:(setR m t x).map (·.1)=m.map (·.1):=by
 unfold setR
 rw [List.map_map]
 refine List.map_congr_left fun q _=>?_
 show(if q.1=t then (q.1,x) else q).1=q.1
 split<;>rfl
theorem look_setR{α:Type}{m:List (Str × α)}{t z:Str}{x y:α}(ht:look m t=some y):look (setR m t x) z=if z=t then some x else look m z:=by
 induction m with
 |nil=>cases ht
 |cons q m ih =>
  unfold setR look at ih ⊢
  rw [List.map_cons,List.find?_cons,List.find?_cons]
  have e:(if q.1=t then (q.1,x) else q).1=q.1:=by split<;>rfl
  rw [e]
  by_cases c:q.1=z
  ·rw [decide_eq_true c]
   subst c
   by_cases c2:q.1=t
   ·rw [if_pos c2,if_pos c2];rfl
   ·rw [if_neg c2,if_neg c2]
  ·rw [decide_eq_false c]
   unfold look at ht
   rw [List.find?_cons] at ht
   by_cases c3:q.1=t
   ·-- the word stands here,and not asked
    have hz:¬z=t:=fun e=>c (c3.trans e.symm)
    rw [if_neg hz]
    clear ih ht
    show(List.find? _ _).map _=_
    induction m with
    |nil=>rfl
    |cons p m ih2 =>
     rw [List.map_cons,List.find?_cons,List.find?_cons]
     have e:(if p.1=t then (p.1,x) else p).1=p.1:=by split<;>rfl
     rw [e]
     by_cases c4:p.1=z
     ·rw [decide_eq_true c4,if_neg (fun z'=>hz (c4.symm.trans z'))]
     ·rw [decide_eq_false c4];exact ih2
   ·rw [decide_eq_false c3] at ht
    exact ih ht
theorem look_dropR{α:Type}{m:List (Str × α)}{t z:Str}:look (dropR m t) z=if z=t then none else look m z:=by
 induction m with
 |nil=>simp [dropR,look]
 |cons q m ih =>
  unfold dropR at ih ⊢
  rw [List.filter_cons]
  by_cases c:q.1=t
  ·rw [if_neg (by simpa using c),ih]
   by_cases c2:z=t
   ·rw [if_pos c2,if_pos c2]
   ·rw [if_neg c2,if_neg c2]
    unfold look
    rw [List.find?_cons,decide_eq_false (fun e=>c2 (e.symm.trans c))]
  ·rw [if_pos (by simpa using c)]
   unfold look at ih ⊢
   rw [List.find?_cons,List.find?_cons]
   by_cases c2:q.1=z
   ·rw [decide_eq_true c2,if_neg (fun e=>c (c2.trans e))]
   ·rw [decide_eq_false c2];exact ih
theorem pk_set{α:Type}{R:V→α→Prop}{kvs:List (Key × V)}{m:List (Str × α)}{t:Str}{v:V}{x:α}(h:PkAt R kvs m)(ht:t∈m.map (·.1))(hv:R v x):PkAt R (putK kvs (.inr t) v) (setR m t x):=by
 have hk:(Sum.inr t:Key)∈kvs.map (·.1):=by rw [pk_keys h];exact List.mem_map_of_mem ht
 obtain⟨p,hp,ep⟩:=List.mem_map.mp hk
 unfold putK
 rw [if_pos (List.any_eq_true.mpr ⟨p,hp,decide_eq_true ep⟩)]
 clear ht hk hp ep p
 unfold PkAt at h ⊢
 induction h with
 |nil=>exact .nil
 |@cons p q ps qs a _ ih =>
  refine .cons ?_ ih
  by_cases c:q.1=t
  ·have e1:(fun kv:Key × V=>if kv.1=Sum.inr t then (kv.1,v) else kv) p=(p.1,v):=if_pos (by rw [a.1,c])
   have e2:(fun q:Str × α=>if q.1=t then (q.1,x) else q) q=(q.1,x):=if_pos c
   rw [e1,e2]
   exact⟨a.1,hv⟩
  ·have e1:(fun kv:Key × V=>if kv.1=Sum.inr t then (kv.1,v) else kv) p=p:=if_neg (fun e=>c (Sum.inr.inj (a.1.symm.trans e)))
   have e2:(fun q:Str × α=>if q.1=t then (q.1,x) else q) q=q:=if_neg c
   rw [e1,e2]
   exact a
theorem pk_drop{α:Type}{R:V→α→Prop}{kvs:List (Key × V)}{m:List (Str × α)}{t:Str}(h:PkAt R kvs m):PkAt R (dropK kvs (.inr t)) (dropR m t):=by
 unfold PkAt dropK dropR at *
 induction h with
 |nil=>exact .nil
 |@cons p q ps qs a _ ih =>
  rw [List.filter_cons,List.filter_cons]
  by_cases c:q.1=t
  ·rw [if_neg (by simp [a.1,c]),if_neg (by simpa using c)]
   exact ih
  ·rw [if_pos (by simpa [a.1] using c),if_pos (by simpa using c)]
   exact .cons a ih
theorem nd_sub{α:Type}{m:List (Str × α)}{t:Str}(h:(m.map (·.1)).Nodup):((dropR m t).map (·.1)).Nodup:=h.sublist (List.filter_sublist.map _)
theorem mem_setR{α:Type}{m:List (Str × α)}{t:Str}{x:α}{q:Str × α}(h:q∈setR m t x):q∈m∨(q.2=x∧q.1∈m.map (·.1)):=by
 obtain⟨p,hp,rfl⟩:=List.mem_map.mp h
 by_cases c:p.1=t
 ·rw [if_pos c];exact .inr ⟨rfl,List.mem_map.mpr ⟨p,hp,rfl⟩⟩
 ·rw [if_neg c];exact .inl hp
theorem WF.pop{m1:Rows1}{m2:Rows2}{t:Str}{k:Kd}(W:WF m1 m2)(ht:look m1 t=some k)(hk:k≠ownK t):WF (dropR m1 t) m2:=by
 have up:∀{x:Kd},KW m1 x→KW (dropR m1 t) x:=fun h=>⟨h.1,h.2.1,fun n hn e=>by
  have h1:=h.2.2 n hn e
  rw [look_dropR,if_neg (fun z=>by rw [z,ht] at h1;exact hk (Option.some.inj h1))]
  exact h1⟩
 exact⟨Nat.le_trans (List.length_filter_le _ _) W.n1,W.n2,nd_sub W.nd1,W.nd2,fun q hq=>W.w1 q (List.mem_filter.mp hq).1,W.w2,fun q hq=>up (W.k1 q (List.mem_filter.mp hq).1),fun q hq=>⟨(W.k2 q hq).1,fun x hx=>up ((W.k2 q hq).2 x hx)⟩⟩
theorem kw_set{m1:Rows1}{t:Str}{k x j:Kd}(ht:look m1 t=some k)(hk:k≠ownK t)(h:KW m1 j):KW (setR m1 t x) j:=⟨h.1,h.2.1,fun n hn e=>by
 have h1:=h.2.2 n hn e
 rw [look_setR ht,if_neg (fun z=>by rw [z,ht] at h1;exact hk (Option.some.inj h1))]
 exact h1⟩
theorem WF.set{m1:Rows1}{m2:Rows2}{t:Str}{k x:Kd}(W:WF m1 m2)(ht:look m1 t=some k)(hk:k≠ownK t)(hx:KW (setR m1 t x) x):WF (setR m1 t x) m2:=by
 refine⟨by unfold setR;rw [List.length_map];exact W.n1,W.n2,by rw [keys_setR];exact W.nd1,W.nd2,fun q hq=>?_,W.w2,fun q hq=>?_,fun q hq=>⟨(W.k2 q hq).1,fun j hj=>kw_set ht hk ((W.k2 q hq).2 j hj)⟩⟩
 ·have:q.1∈(setR m1 t x).map (·.1):=List.mem_map_of_mem hq
  rw [keys_setR] at this
  obtain⟨p,hp,e⟩:=List.mem_map.mp this
  rw [←e]
  exact W.w1 p hp
 ·rcases mem_setR hq with h|⟨h,_⟩
  ·exact kw_set ht hk (W.k1 q h)
  ·rw [h];exact hx
theorem WF.popF{m1:Rows1}{m2:Rows2}{t:Str}(W:WF m1 m2):WF m1 (dropR m2 t) :=
 ⟨W.n1,Nat.le_trans (List.length_filter_le _ _) W.n2,W.nd1,nd_sub W.nd2,W.w1,fun q hq=>W.w2 q (List.mem_filter.mp hq).1,W.k1,fun q hq=>W.k2 q (List.mem_filter.mp hq).1⟩
theorem WF.setF{m1:Rows1}{m2:Rows2}{t:Str}{f:List Kd × Kd}(W:WF m1 m2)(hf:f.1.length≤4∧∀k∈f.2::f.1,KW m1 k):WF m1 (setR m2 t f):=by
 refine⟨W.n1,by unfold setR;rw [List.length_map];exact W.n2,W.nd1,by rw [keys_setR];exact W.nd2,W.w1,fun q hq=>?_,W.k1,fun q hq=>?_⟩
 ·have:q.1∈(setR m2 t f).map (·.1):=List.mem_map_of_mem hq
  rw [keys_setR] at this
  obtain⟨p,hp,e⟩:=List.mem_map.mp this
  rw [←e]
  exact W.w2 p hp
 ·rcases mem_setR hq with h|⟨h,_⟩
  ·exact W.k2 q h
  ·rw [h];exact hf
theorem names_put{G:Str × Str→Option Kd}{n:Str × Str}:∀{k:Kd},n∈Kd.names (Kd.put G k)→(n∈Kd.names k∧G n=none)∨∃m∈Kd.names k,∃k',G m=some k'∧n∈Kd.names k'
 |.num _,h=>nomatch h
 |.name q t,h=>by
  have h:n∈Kd.names ((G (q,t)).getD (.name q t)):=h
  cases e:G (q,t) with
  |none =>
   rw [e] at h
   have e2:=List.mem_singleton.mp h
   exact .inl ⟨h,by rw [e2];exact e⟩
  |some k' =>
   rw [e] at h
   exact .inr ⟨(q,t),.head _,k',e,h⟩
 |.pair a b,h=>by
  have h:n∈Kd.names (Kd.put G a)++Kd.names (Kd.put G b):=h
  rcases List.mem_append.mp h with h|h
  ·rcases names_put h with ⟨h1,h2⟩|⟨m,h1,h2⟩
   ·exact .inl ⟨List.mem_append_left _ h1,h2⟩
   ·exact .inr ⟨m,List.mem_append_left _ h1,h2⟩
  ·rcases names_put h with ⟨h1,h2⟩|⟨m,h1,h2⟩
   ·exact .inl ⟨List.mem_append_right _ h1,h2⟩
   ·exact .inr ⟨m,List.mem_append_right _ h1,h2⟩
theorem words_putL{G:Str × Str→Option Kd}(hG:∀n k,G n=some k→k.words=1):∀k:Kd,(Kd.put G k).words=k.words
 |.num _=>rfl
 |.name q t=>by
  show((G (q,t)).getD (.name q t)).words=1
  cases e:G (q,t) with
  |none=>rfl
  |some k=>exact hG _ _ e
 |.pair a b=>by
  show 1+(Kd.put G a).words+(Kd.put G b).words=1+a.words+b.words
  rw [words_putL hG a,words_putL hG b]
theorem WF.put{m1:Rows1}{m2:Rows2}{G:Str × Str→Option Kd}(W:WF m1 m2)(h1:∀n k,G n=some k→k.words=1∧Kd.sm k) (hn:∀n:Str × Str,n.1≠""→G n=none)
  (hc:∀t,look m1 t=some (ownK t)→(G ("",t)=none∧True)∨∃k,G ("",t)=some k∧∀n∈Kd.names k,n.1=""→Kd.put G <$> look m1 n.2=some (ownK n.2)):WF (m1.map (putP G)) (m2.map (putQ G)):=by
 have up:∀{x:Kd},KW m1 x→KW (m1.map (putP G)) (Kd.put G x):=fun {x} h=>by
  refine⟨sm_put (fun n k e=>(h1 n k e).2) h.1,by rw [words_putL fun n k e=>(h1 n k e).1];exact h.2.1,fun n hn' e=>?_⟩
  rw [look_mapP]
  rcases names_put hn' with ⟨a,b⟩|⟨m,a,k',b,c⟩
  ·rw [h.2.2 n a e]
   have e2:G ("",n.2)=none:=by rw [←e];exact b
   show some ((G ("",n.2)).getD (.name "" n.2))=_
   rw [e2]
   rfl
  ·by_cases e3:m.1=""
   ·have hl:=h.2.2 m a e3
    rcases hc m.2 hl with ⟨z,_⟩|⟨k,z1,z2⟩
    ·rw [←e3,b] at z;cases z
    ·rw [←e3,b] at z1
     rw [←Option.some.inj z1] at z2
     exact z2 n c e
   ·rw [hn m e3] at b;cases b
 refine⟨by rw [List.length_map];exact W.n1,by rw [List.length_map];exact W.n2,by rw [keys_mapP];exact W.nd1,by rw [keys_mapQ];exact W.nd2,fun q hq=>?_,fun q hq=>?_,fun q hq=>?_,fun q hq=>?_⟩
 ·obtain⟨p,hp,rfl⟩:=List.mem_map.mp hq;exact W.w1 p hp
 ·obtain⟨p,hp,rfl⟩:=List.mem_map.mp hq;exact W.w2 p hp
 ·obtain⟨p,hp,rfl⟩:=List.mem_map.mp hq;exact up (W.k1 p hp)
 ·obtain⟨p,hp,rfl⟩:=List.mem_map.mp hq
  obtain⟨a,b⟩:=W.k2 p hp
  refine⟨by show(p.2.1.map (Kd.put G)).length≤4;rw [List.length_map];exact a,fun x hx=>?_⟩
  rcases List.mem_cons.mp hx with rfl|hx
  ·exact up (b _ (.head _))
  ·obtain⟨y,hy,rfl⟩:=List.mem_map.mp hx
   exact up (b y (.tail _ hy))
theorem WF.perm{m1 n1:Rows1}{m2 n2:Rows2}(W:WF m1 m2)(p1:n1.Perm m1)(p2:n2.Perm m2):WF n1 n2:=by
 have nd1:(n1.map (·.1)).Nodup:=(p1.map _).nodup_iff.mpr W.nd1
 have lk:∀z k,look m1 z=some k→look n1 z=some k:=fun z k h=>in_look nd1 (p1.mem_iff.mpr (look_in h))
 have up:∀{x:Kd},KW m1 x→KW n1 x:=fun h=>⟨h.1,h.2.1,fun n hn e=>lk _ _ (h.2.2 n hn e)⟩
 exact⟨by rw [p1.length_eq];exact W.n1,by rw [p2.length_eq];exact W.n2,nd1,(p2.map _).nodup_iff.mpr W.nd2,fun q hq=>W.w1 q (p1.mem_iff.mp hq),fun q hq=>W.w2 q (p2.mem_iff.mp hq),fun q hq=>up (W.k1 q (p1.mem_iff.mp hq)),fun q hq=>let ⟨a,b⟩:=W.k2 q (p2.mem_iff.mp hq);⟨a,fun x hx=>up (b x hx)⟩⟩
theorem WF.one{m1:Rows1}{m2:Rows2}{t:Str}{g:Kd}{hs:List Str}(W:WF m1 m2)(hg:KN hs g)(hl:g.leaf=true)(hh:∀z∈hs,z≠t∧look m1 z=some (ownK z)):WF (m1.map (putP (ownG [(t,g)]))) (m2.map (putQ (ownG [(t,g)]))):=by
 have e1:∀s,ownG [(t,g)] ("",s)=if t=s then some g else none:=fun s=>by
  rw [own_yes]
  unfold look
  rw [List.find?_cons]
  by_cases c:t=s
  ·rw [if_pos c,decide_eq_true c];rfl
  ·rw [if_neg c,decide_eq_false c];rfl
 have gw:g.words=1:=by
  cases g with
  |num _=>rfl
  |name _ _=>rfl
  |pair _ _=>cases hl
 refine W.put (fun n k e=>?_) (fun n hn=>if_neg hn) fun s hs'=>?_
 ·unfold ownG at e
  split at e
  ·unfold look at e
   rw [List.find?_cons] at e
   split at e
   ·obtain rfl:=Option.some.inj e;exact⟨gw,hg.1⟩
   ·cases e
  ·cases e
 ·rw [e1]
  by_cases c:t=s
  ·rw [if_pos c]
   refine .inr ⟨g,rfl,fun n hn e=>?_⟩
   obtain⟨a,b⟩:=hh _ (hg.2 n hn e)
   rw [b]
   show some ((ownG [(t,g)] ("",n.2)).getD (.name "" n.2))=_
   rw [e1,if_neg (Ne.symm a)]
   rfl
  ·rw [if_neg c];exact .inl ⟨rfl,trivial⟩
end K27
namespace K27
open PySem L2 Kk
structure Ch(d kd fd:Addr)(H H':Hp):Prop where
 s:Same (zo H [d,kd,fd]) (zo H' [d,kd,fd])
 d:DL H' d
theorem Ch.refl{d kd fd:Addr}{H:Hp}(h:DL H d):Ch d kd fd H H:=⟨Same.refl _,h⟩
theorem Ch.go{d kd fd:Addr}{H H1 H2:Hp}(c:Ch d kd fd H H1)(g:Go d H1 H2):Ch d kd fd H H2:=⟨c.s.trans (zo_sub (fun b hb=>by rw [List.mem_singleton.mp hb];exact .head _) g.s),g.d⟩
theorem Ch.at{d kd fd:Addr}{H H':Hp}(g:Ch d kd fd H H'){b:Addr}{o:HO}(n1:b≠d)(n2:b≠kd)(n3:b≠fd)(h:H b=some o):H' b=some o:=by
 have n':b∉[d,kd,fd]:=by simp [n1,n2,n3]
 have:=g.s b o (by rw [zo_ne n'];exact h)
 rw [zo_ne n'] at this
 exact this
theorem Ch.put{d kd fd x:Addr}{H H1:Hp}(c:Ch d kd fd H H1)(hx:x∈[d,kd,fd])(n:x≠d)(o:HO):Ch d kd fd H (L2.upd H1 x o):=by
 refine⟨by rw [zo_upd hx];exact c.s,?_⟩
 obtain⟨a,b,e⟩:=c.d
 exact⟨a,b,by rw [upd_ne (Ne.symm n)];exact e⟩
theorem FcAt.setK{K:PySem.W.Frag}{H:Hp}{kd fd:Addr}{m1 n1:Rows1}{m2:Rows2}{kv:List (Key × V)}(h:FcAt K H kd fd m1 m2)(n:kd≠fd)(hp:PkAt (KdAt K H) kv n1):FcAt K (upd H kd (.dK kv)) kd fd n1 m2:=by
 obtain⟨kv1,kv2,h1,h2,h3,h4⟩:=h
 have kt:Kt K H (upd H kd (.dK kv)):=fun a xs t=>sqt_dk h1 t
 exact⟨kv,kv2,upd_same,by rw [upd_ne (Ne.symm n)];exact h2,hp.imp fun _ _ t=>kd_keep kt t,h4.imp fun _ _ t=>fn_keep kt t⟩
theorem FcAt.setF{K:PySem.W.Frag}{H:Hp}{kd fd:Addr}{m1:Rows1}{m2 n2:Rows2}{kv:List (Key × V)}(h:FcAt K H kd fd m1 m2)(n:kd≠fd)(hp:PkAt (FunAt K H) kv n2):FcAt K (upd H fd (.dK kv)) kd fd m1 n2:=by
 obtain⟨kv1,kv2,h1,h2,h3,h4⟩:=h
 have kt:Kt K H (upd H fd (.dK kv)):=fun a xs t=>sqt_dk h2 t
 exact⟨kv1,kv,by rw [upd_ne n];exact h1,upd_same,h3.imp fun _ _ t=>kd_keep kt t,hp.imp fun _ _ t=>fn_keep kt t⟩
def ValH(n1:Rows1)(hs:List Str):Prop:=∀z∈hs,VW z∧look n1 z=some (ownK z)
def ValT(n1:Rows1)(ts:List Str):Prop:=∀z∈ts,VW z∧∃k,look n1 z=some k∧k≠ownK z
def spChanged(K:PySem.W.Frag):Sp:=fun vs H Q _=>∃(d p kd fd:Addr) (m1:Rows1) (m2:Rows2),vs=[.ref d,.ref p]∧SqT K H p [.ref kd,.ref fd]∧DL H d∧kd≠fd∧FcAt K H kd fd m1 m2∧WF m1 m2 ∧
 ∀H' p' kd' fd' n1 n2,DL H' d→Same (zo H [d,kd,fd]) (zo H' [d,kd',fd'])→(kd'=kd∨H kd'=none)→(fd'=fd∨H fd'=none)→kd'≠fd'→SqT K H' p' [.ref kd',.ref fd']→FcAt K H' kd' fd' n1 n2→WF n1 n2→Q (.ref p') H'
structure Cst(K:PySem.W.Frag)(H:Hp)(d kd fd hl tl:Addr)(H1:Hp)(n1:Rows1)(n2:Rows2)(hs ts:List Str):Prop where
 ch:Ch d kd fd H H1
 fc:FcAt K H1 kd fd n1 n2
 wf:WF n1 n2
 hh:H1 hl=some (.lst (hs.map V.str))
 ht:H1 tl=some (.lst (ts.map V.str))
theorem Cst.go{K:PySem.W.Frag}{H:Hp}{d kd fd hl tl:Addr}{H1 H2:Hp}{n1:Rows1}{n2:Rows2}{hs ts:List Str}(c:Cst K H d kd fd hl tl H1 n1 n2 hs ts)(nh:hl≠d)(nt:tl≠d)(g:Go d H1 H2):Cst K H d kd fd hl tl H2 n1 n2 hs ts:=⟨c.ch.go g,c.fc.go c.ch.d g,c.wf,g.at nh c.hh,g.at nt c.ht⟩
theorem strs_len(ws:List Str):(ws.map V.str).length=ws.length:=List.length_map _
section
variable{P:Program}{w:World}{K:PySem.W.Frag}{mg:Str→Option Value}{base:Heap}
theorem scChanged:FnScope ["_law_deal_here","_law_face_here","_law_kinds","_law_funs","_law_hidden","_law_told","_law_form","_law_t","_law_given","_law_fs","_law_f","_law_args"] ["_law_deal_here","_law_face_here"] (defScope sChanged):=⟨rfl,rfl,rfl,by decide +kernel,rfl,by decide +kernel,by decide +kernel⟩
set_option maxHeartbeats 0 in
theorem ok_changed{f fD fC fQ fK:Addr}{fd' fdD fdC fdQ fdK:FuncData} (F:Fun K "_law_changed" "_law_changed" sChanged f fd') (ml:mg "len"=none) (ms:mg "sorted"=none) (mli:mg "list"=none) (mr:mg "range"=none) (mt:mg "tuple"=none) (GD:FnOk P w K mg base CX0 1 fD fdD ["_law_deal_here","_law_many"] spDraw) (bD:Binds K fdD ["_law_deal_here","_law_many"] []) (kD:PySem.W.keepIn K (.ref fD)=true) (mD:mg "_law_draw"=some (.ref fD))
  (GC:FnOk P w K mg base CX0 1 fC fdC ["_law_kinds"] (spClsL K)) (bC:Binds K fdC ["_law_kinds"] []) (kC:PySem.W.keepIn K (.ref fC)=true) (mC:mg "_law_classes"=some (.ref fC))
  (GQ:FnOk P w K mg base CX0 10 fQ fdQ ["_law_kinds","_law_funs","_law_given"] (spAllL K)) (bQ:Binds K fdQ ["_law_kinds","_law_funs","_law_given"] []) (kQ:PySem.W.keepIn K (.ref fQ)=true) (mQ:mg "_law_all"=some (.ref fQ))
  (GK:FnOk P w K mg base CX0 19 fK fdK ["_law_deal_here","_law_names","_law_room"] (spAnyK K 9)) (bK:Binds K fdK ["_law_deal_here","_law_names","_law_room"] []) (kK:PySem.W.keepIn K (.ref fK)=true) (mK:mg "_law_any_kind"=some (.ref fK)):FnOk P w K mg base CX0 20 f fd' ["_law_deal_here","_law_face_here"] (spChanged K):=by
 refine F.ok (k:=19) scChanged (fun vs H Q E h=>?_) (fun cdv A outer s H vs Q E hrK h=>?_)
 ·obtain⟨_,_,_,_,_,_,rfl,_⟩:=h
  rfl
 obtain⟨d,p,kd,fd,m1,m2,rfl,hp,hd,nkf,hF,W,q⟩:=h
 have hu:=hu_of hrK
 have hu64:=hrK.units
 have hrC:Room 1 _:=hrK.mono (by decide)
 have hrD:Room 1 _:=hrK.mono (by decide)
 have hrQ:Room 10 _:=hrK.mono (by decide)
 obtain⟨kv1,kv2,hkd,hfd,hp1,hp2⟩:=id hF
 have nkd:=dl_ne hd hkd nofun
 have nfd:=dl_ne hd hfd nofun
 obtain⟨tR,dR,kR⟩:∃t,PSs (cxOf CX0 P w K mg base ["_law_deal_here","_law_face_here","_law_kinds","_law_funs","_law_hidden","_law_told","_law_form","_law_t","_law_given","_law_fs","_law_f","_law_args"] "_law_changed" (defScope sChanged) f cdv A outer s H E).nox (List.drop 11 (defBody sChanged)) t ∧
   ∀(H1:Hp) (n1:Rows1) (n2:Rows2) (y4 y5 y6 y7 y8 y9 y10 y11:Option V),Ch d kd fd H H1→FcAt K H1 kd fd n1 n2→WF n1 n2→t { nx:=fun _ H'=>Q .non H',rt:=Q } [some (.ref d),some (.ref p),some (.ref kd),some (.ref fd),y4,y5,y6,y7,y8,y9,y10,y11] H1:=by
  refine⟨_,@pss_one _ _ _ (@ps_ret _ _ _ _ (@pe_tup _ _ _ _ _ (@pa_cons _ _ _ _ _ (pv 2) (@pa_cons _ _ _ _ _ (pv 3) pa_nil rfl) rfl))),?_⟩
  intro H1 n1 n2 y4 y5 y6 y7 y8 y9 y10 y11 c1 hF1 W1
  refine⟨_,rfl,_,rfl,(by show 2≤sizeLine;decide),fun p1 hp1=>?_⟩
  have n2':Go d H1 _:=.new c1.d hp1 (.tup [.ref kd,.ref fd])
  exact q _ p1 kd fd n1 n2 n2'.d (c1.go n2').s (.inl rfl) (.inl rfl) nkf (SqT.of upd_same) (hF1.go c1.d n2') W1
 obtain⟨tX,dX,kX⟩:∃t,PSs (cxOf CX0 P w K mg base ["_law_deal_here","_law_face_here","_law_kinds","_law_funs","_law_hidden","_law_told","_law_form","_law_t","_law_given","_law_fs","_law_f","_law_args"] "_law_changed" (defScope sChanged) f cdv A outer s H E).nox (List.drop 10 (defBody sChanged)) t ∧
   ∀(H1:Hp) (hl tl fl:Addr) (n1:Rows1) (n2:Rows2) (hs ts fs:List Str) (fo:Int) (y7 y8:Option V),H hl=none→H tl=none→H fl=none→Cst K H d kd fd hl tl H1 n1 n2 hs ts→H1 fl=some (.lst (fs.map V.str))→fs.length≤16→hs.length≤16→(fo=5→ValH n1 hs∧∀z∈fs,z∈n2.map (·.1))→t { nx:=fun _ H'=>Q .non H',rt:=Q } [some (.ref d),some (.ref p),some (.ref kd),some (.ref fd),some (.ref hl),some (.ref tl),some (.int fo),y7,y8,some (.ref fl),none,none] H1:=by
  refine⟨_,@pss_cons _ _ _ _ _ (ps_if (PW.pt (pw_and (pt_cmpR op_eq (pv 6) pe_int (nomark _)) (pw_and1 (pt_cmpR op_gt (pe_callB call_len_seq rfl ml PySem.boot_len (@pa_cons _ _ _ _ _ (pv 9) pa_nil rfl)) pe_int (nomark _))))) (@pss_cons _ _ _ _ _ (ps_set (i:=10) scChanged.nd rfl (Or.inl rfl) (pe_ix ix_list (pv 9) (pe_call GD hrD rfl mD kD bD .nil pass0 (@pa_cons _ _ _ _ _ (pv 0) (@pa_cons _ _ _ _ _ (pe_callB call_len_seq rfl ml PySem.boot_len (@pa_cons _ _ _ _ _ (pv 9) pa_nil rfl)) pa_nil rfl) rfl)) (fun _ _=>rfl))) (@pss_cons _ _ _ _ _ (ps_comp (i0:=11) scChanged.nd rfl (Or.inl rfl) (own:=["_law_k"]) (caps:=["_law_deal_here","_law_hidden"]) (κ:=[0,4]) rfl ⟨rfl,by decide +kernel,by decide +kernel,rfl,rfl,(fun y hy=>by simp only [List.mem_cons,List.not_mem_nil,or_false] at hy;rcases hy with rfl|rfl<;>rfl),(fun y hy=>by simp only [List.mem_cons,List.not_mem_nil,or_false] at hy;rcases hy with rfl|rfl<;>exact⟨.inl rfl,rfl,.inl rfl⟩)⟩ rfl (pi_range1 rfl mr (@pa_cons _ _ _ _ _ (pe_call GD hrD rfl mD kD bD .nil pass0 (@pa_cons _ _ _ _ _ (pv 0) (@pa_cons _ _ _ _ _ pe_int pa_nil rfl) rfl)) pa_nil rfl)) (fun _ _ _ _=>(pg_name (i:=0) (show(["_law_k","_law_deal_here","_law_hidden"]:List Str).Nodup from by decide +kernel) rfl (Or.inl rfl))) (fun _ _ _ _=>(pe_call GK hrK rfl mK kK bK .nil pass0 (@pa_cons _ _ _ _ _ (pv 1) (@pa_cons _ _ _ _ _ (pv 2) (@pa_cons _ _ _ _ _ pe_int pa_nil rfl) rfl) rfl)))) (@pss_one _ _ _ (ps_dput hu (pv 3) (pv 10) (@pe_tup _ _ _ _ _ (@pa_cons _ _ _ _ _ (pe_callTy call_tuple_of rfl mt bootTuple (@pa_cons _ _ _ _ _ (pv 11) pa_nil rfl)) (@pa_cons _ _ _ _ _ (pe_ix ix_tup (pe_dget hu (pv 3) (pv 10) (fun _ _=>rfl)) pe_int (fun _ _=>rfl)) pa_nil rfl) rfl)) rfl)))) pss_nil) dR,?_⟩
  intro H1 hl tl fl n1 n2 hs ts fs fo y7 y8 h0 t0 f0 C hfl lf16 lh16 hv
  refine⟨_,rfl,rfl,_,rfl,ite2 (fun c=>?_) (fun _=>iteF (A:=True) (kR H1 n1 n2 _ _ _ _ _ _ _ _ C.ch C.fc C.wf))⟩
  have e5:fo=5:=by have:=of_decide_eq_true c;injection this
  obtain⟨hvh,hvf⟩:=hv e5
  have nhd:=(Go.refl hd).nd h0
  have ntd:=(Go.refl hd).nd t0
  have nfl:=(Go.refl hd).nd f0
  have nhf:hl≠fd:=fun z=>by rw [z,hfd] at h0;cases h0
  have els:=kR H1 n1 n2 (some (.ref hl)) (some (.ref tl)) (some (.int fo)) y7 y8 (some (.ref fl)) none none C.ch C.fc C.wf
  refine⟨_,rfl,fl,_,rfl,.inl (SqL.of hfl),_,_,rfl,rfl,_,rfl,ite2 (fun c=>?_) (fun _=>els)⟩
  have hpos:(0:Int) < (((fs.map V.str).length:Nat):Int):=of_decide_eq_true c
  have hfl2:=strs_len fs
  refine⟨_,rfl,_,rfl,_,rfl,fl,_,rfl,.inl (SqL.of hfl),d,_,rfl,C.ch.d,hpos,(by rw [hfl2];omega),fun H2 r g2 r0 r1=>?_⟩
  obtain⟨z,hz,hat⟩:=str_get (ws:=fs) r0 (by rw [hfl2] at r1;exact r1)
  have C2:=C.go nhd ntd g2
  refine⟨fl,_,_,_,rfl,rfl,SqL.of (g2.at nfl hfl),hat,?_⟩
  refine⟨_,rfl,d,5,rfl,g2.d,by decide,by decide,fun H3 r3 g3 a0 a1=>⟨_,rfl,by omega,by omega,?_⟩⟩
  have C3:=C2.go nhd ntd g3
  refine comp_fr (by omega) (fun j us H6=>Go d H3 H6∧∃ks:List Kd,KdsAt K H6 us ks∧(∀k∈ks,KW n1 k)∧ks.length=j) ⟨.refl g3.d,[],.nil,(fun k hk=>nomatch hk),rfl⟩ (fun j us H6 ⟨_,ks,h1,_,h3⟩=>by have:=h1.length;omega) ?_ ?_
  ·rintro j us H6 N hN hj ⟨g6,ks,hks,hkw,hkl⟩
   have C6:=C3.go nhd ntd g6
   refine⟨rfl,tYes_go ⟨_,rfl,_,rfl,d,hl,5,hs,rfl,g6.d,nhd,C6.hh,lh16,fun z hz=>(hvh z hz).1,by decide,by decide,by decide,fun H7 v k g7 hv hk hw _=>hN _ _ ⟨g6.trans g7,ks++[k],?_,?_,?_⟩⟩⟩
   ·exact(kds_keep (g7.kt g6.d) hks).append (one hv)
   ·intro x hx
    rcases List.mem_append.mp hx with h|h
    ·exact hkw x h
    ·rw [List.mem_singleton.mp h]
     exact kw_of (fun z hz=>(hvh z hz).2) hk (by omega)
   ·rw [List.length_append,hkl];rfl
  ·rintro us H6 D ⟨g6,ks,hks,hkw,hkl⟩ hD
   have n6:Go d H6 _:=.new g6.d hD (.lst us)
   have hks6:=kds_keep (n6.kt (K:=K) g6.d) hks
   refine⟨_,rfl,D,_,rfl,.inl ⟨SqL.of upd_same,fun ta hta=>?_⟩⟩
   have n7:Go d _ _:=.new n6.d hta (.tup us)
   have hks7:=kds_keep (n7.kt (K:=K) n6.d) hks6
   have g37:=g6.trans (n6.trans n7)
   have C7:=C3.go nhd ntd g37
   obtain⟨kx1,kx2,hx1,hx2,px1,px2⟩:=id C7.fc
   obtain⟨fn,hfn⟩:=look_ex (hvf z hz)
   obtain⟨v,hv,hfv⟩:∃v,valV kx2 (.inr z)=some v∧FunAt K _ v fn:=by
    rcases look_val px2 z with ⟨_,h2⟩|⟨v,x,h1,h2,h3⟩
    ·rw [hfn] at h2;cases h2
    ·rw [hfn] at h2
     rw [Option.some.inj h2]
     exact⟨v,h1,h3⟩
   obtain⟨pf,ta2,xf,xsf,rfl,f1,f2,f3,f4⟩:=id hfv
   refine⟨_,rfl,_,rfl,fd,_,rfl,.inl ⟨kx2,.inr z,.inl hx2,rfl,hv.symm⟩,_,_,_,_,rfl,rfl,f1,at1,(by show 2≤sizeLine;decide),fun pr hpr=>?_⟩
   have n8:Go d _ _:=.new n7.d hpr (.tup [.ref ta,xf])
   have C8:=C7.go nhd ntd n8
   have nta:=n6.nd hta
   have hkf:FunAt K _ (.ref pr) (ks,fn.2):=⟨pr,ta,xf,us,rfl,SqT.of upd_same,SqT.of (n8.at nta upd_same),kds_keep (n8.kt n7.d) hks7,kd_keep (n8.kt n7.d) f4⟩
   have hx28:=n8.at nfd hx2
   have px8:=px2.imp fun _ _ t=>fn_keep (n8.kt n7.d) t
   have lk:kx2.length < 1000:=by
    rw [px2.len]
    have:=C.wf.n2
    omega
   refine⟨_,rfl,_,rfl,fd,_,rfl,DPut.k (k:=.inr z) hx28 (Nat.lt_of_lt_of_le lk (small (Nat.le_refl _))),?_⟩
   have hW:=C.wf.k2 _ (look_in hfn)
   refine kR _ n1 (setR n2 z (ks,fn.2)) _ _ _ _ _ _ _ _ (C8.ch.put (by simp) nfd _) (C8.fc.setF nkf (pk_set px8 (hvf z hz) hkf)) (C.wf.setF ⟨by show ks.length≤4;omega,fun x hx=>?_⟩)
   rcases List.mem_cons.mp hx with rfl|hx
   ·exact hW.2 _ (.head _)
   ·exact hkw x hx
 obtain⟨t8,d8,k8⟩:∃t,PSs (cxOf CX0 P w K mg base ["_law_deal_here","_law_face_here","_law_kinds","_law_funs","_law_hidden","_law_told","_law_form","_law_t","_law_given","_law_fs","_law_f","_law_args"] "_law_changed" (defScope sChanged) f cdv A outer s H E).nox (List.drop 8 (defBody sChanged)) t ∧
   ∀(H1:Hp) (hl tl:Addr) (n1:Rows1) (n2:Rows2) (hs ts:List Str) (fo:Int) (y7:Option V),H hl=none→H tl=none→Cst K H d kd fd hl tl H1 n1 n2 hs ts→hs.length≤16→(fo=5→ValH n1 hs)→t { nx:=fun _ H'=>Q .non H',rt:=Q } [some (.ref d),some (.ref p),some (.ref kd),some (.ref fd),some (.ref hl),some (.ref tl),some (.int fo),y7,none,none,none,none] H1:=by
  refine⟨_,@pss_cons _ _ _ _ _ (ps_set (i:=9) scChanged.nd rfl (Or.inl rfl) (pe_callTy (call_list_dK rfl) rfl mli bootList (@pa_cons _ _ _ _ _ (pv 3) pa_nil rfl))) (@pss_cons _ _ _ _ _ (ps_if (PW.pt (pw_and (pt_cmpR op_eq (pv 6) pe_int (nomark _)) (pw_and1 (pt_cmpR op_gt (pe_callB call_len_seq rfl ml PySem.boot_len (@pa_cons _ _ _ _ _ (pv 9) pa_nil rfl)) pe_int (nomark _))))) (@pss_one _ _ _ (ps_expr (pe_dpop1 (pv 3) (pe_ix ix_list (pv 9) (pe_call GD hrD rfl mD kD bD .nil pass0 (@pa_cons _ _ _ _ _ (pv 0) (@pa_cons _ _ _ _ _ (pe_callB call_len_seq rfl ml PySem.boot_len (@pa_cons _ _ _ _ _ (pv 9) pa_nil rfl)) pa_nil rfl) rfl)) (fun _ _=>rfl)) ⟨rfl,rfl,rfl,rfl⟩))) pss_nil) dX),?_⟩
  intro H1 hl tl n1 n2 hs ts fo y7 h0 t0 C lh16 hv
  have nhd:=(Go.refl hd).nd h0
  have ntd:=(Go.refl hd).nd t0
  have nhf:hl≠fd:=fun z=>by rw [z,hfd] at h0;cases h0
  have ntf:tl≠fd:=fun z=>by rw [z,hfd] at t0;cases t0
  obtain⟨kx1,kx2,hx1,hx2,px1,px2⟩:=id C.fc
  have ek:(kx2.map fun p=>kV p.1)=(n2.map (·.1)).map V.str:=by
   have:(kx2.map (·.1)).map kV=((n2.map (·.1)).map Sum.inr).map kV:=by rw [pk_keys px2]
   rw [List.map_map,List.map_map] at this
   exact this
  refine⟨_,rfl,fd,kx2,rfl,hx2,fun fl hfl=>?_⟩
  rw [ek]
  have n2':Go d H1 _:=.new C.ch.d hfl (.lst ((n2.map (·.1)).map V.str))
  have hfl2:upd H1 fl (.lst ((n2.map (·.1)).map V.str)) fl=some (.lst ((n2.map (·.1)).map V.str)):=upd_same
  have C2:=C.go nhd ntd n2'
  have nfl:=C.ch.d
  have f0:H fl=none:=by
   cases e:H fl with
   |none=>rfl
   |some o =>
    by_cases e1:fl=d
    ·obtain⟨a,b,z⟩:=C.ch.d
     rw [e1,z] at hfl;cases hfl
    ·by_cases e2:fl=kd
     ·rw [e2,hx1] at hfl;cases hfl
     ·by_cases e3:fl=fd
      ·rw [e3,hx2] at hfl;cases hfl
      ·rw [C.ch.at e1 e2 e3 e] at hfl;cases hfl
  have nfld:=(Go.refl hd).nd f0
  have nflf:fl≠fd:=fun z=>by rw [z,hx2] at hfl;cases hfl
  have lf16:(n2.map (·.1)).length≤16:=by rw [List.length_map];exact C.wf.n2
  generalize upd H1 fl (.lst ((n2.map (·.1)).map V.str))=H2 at n2' hfl2 C2 ⊢
  have els:∀fo':Int,fo'=fo→tX { nx:=fun _ H'=>Q .non H',rt:=Q } [some (.ref d),some (.ref p),some (.ref kd),some (.ref fd),some (.ref hl),some (.ref tl),some (.int fo'),y7,none,some (.ref fl),none,none] H2:=fun fo' e=>kX H2 hl tl fl n1 n2 hs ts _ fo' y7 none h0 t0 f0 C2 hfl2 lf16 lh16 fun e5=>⟨hv (e▸e5),fun z hz=>hz⟩
  refine⟨_,rfl,rfl,_,rfl,ite2 (fun c=>?_) (fun _=>iteF (A:=True) (els fo rfl))⟩
  have e4:fo=4:=by have:=of_decide_eq_true c;injection this
  refine⟨_,rfl,fl,_,rfl,.inl (SqL.of hfl2),_,_,rfl,rfl,_,rfl,ite2 (fun c=>?_) (fun _=>els fo rfl)⟩
  have hpos:(0:Int) < ((((n2.map (·.1)).map V.str).length:Nat):Int):=of_decide_eq_true c
  have hfl3:=strs_len (n2.map (·.1))
  obtain⟨kz1,kz2,hz1,hz2,pz1,pz2⟩:=id C2.fc
  refine⟨_,rfl,fd,rfl,.inl ⟨kz2,.inl hz2⟩,_,rfl,_,rfl,_,rfl,fl,_,rfl,.inl (SqL.of hfl2),d,_,rfl,C2.ch.d,hpos,(by rw [hfl3];omega),fun H3 r g3 r0 r1=>?_⟩
  obtain⟨z,hz,hat⟩:=str_get (ws:=n2.map (·.1)) r0 (by rw [hfl3] at r1;exact r1)
  have C3:=C2.go nhd ntd g3
  obtain⟨kw1,kw2,hw1,hw2,pw1,pw2⟩:=id C3.fc
  obtain⟨v,hv4⟩:∃v,valV kw2 (.inr z)=some v:=by
   obtain⟨x,hx⟩:=look_ex hz
   rcases look_val pw2 z with ⟨_,h2⟩|⟨v,x,h1,_⟩
   ·rw [hx] at h2;cases h2
   ·exact⟨v,h1⟩
  refine⟨fl,_,_,_,rfl,rfl,SqL.of (g3.at nfld hfl2),hat,kw2,.inr z,v,hw2,rfl,hv4,?_⟩
  refine kX _ hl tl fl n1 (dropR n2 z) hs ts _ fo y7 none h0 t0 f0 ⟨C3.ch.put (by simp) nfd _,C3.fc.setF nkf (pk_drop pw2),C3.wf.popF,by rw [upd_ne nhf];exact C3.hh,by rw [upd_ne ntf];exact C3.ht⟩ (by rw [upd_ne nflf];exact g3.at nfld hfl2) lf16 lh16 fun e5=>absurd (e4.symm.trans e5) (by decide)
 obtain⟨t7,d7,k7⟩:∃t,PSs (cxOf CX0 P w K mg base ["_law_deal_here","_law_face_here","_law_kinds","_law_funs","_law_hidden","_law_told","_law_form","_law_t","_law_given","_law_fs","_law_f","_law_args"] "_law_changed" (defScope sChanged) f cdv A outer s H E).nox (List.drop 7 (defBody sChanged)) t ∧
   ∀(H1:Hp) (hl tl:Addr) (n1:Rows1) (n2:Rows2) (hs ts:List Str) (fo:Int) (y7:Option V),H hl=none→H tl=none→Cst K H d kd fd hl tl H1 n1 n2 hs ts→hs.length≤16→(3≤fo→ValH n1 hs)→t { nx:=fun _ H'=>Q .non H',rt:=Q } [some (.ref d),some (.ref p),some (.ref kd),some (.ref fd),some (.ref hl),some (.ref tl),some (.int fo),y7,none,none,none,none] H1:=by
  refine⟨_,@pss_cons _ _ _ _ _ (ps_if (PW.pt (pw_and (pt_cmpR op_eq (pv 6) pe_int (nomark _)) (pw_and1 (pt_cmpR op_gt (pe_callB call_len_seq rfl ml PySem.boot_len (@pa_cons _ _ _ _ _ (pv 4) pa_nil rfl)) pe_int (nomark _))))) (@pss_cons _ _ _ _ _ (ps_set (i:=7) scChanged.nd rfl (Or.inr rfl) (pe_ix ix_list (pv 4) (pe_call GD hrD rfl mD kD bD .nil pass0 (@pa_cons _ _ _ _ _ (pv 0) (@pa_cons _ _ _ _ _ (pe_callB call_len_seq rfl ml PySem.boot_len (@pa_cons _ _ _ _ _ (pv 4) pa_nil rfl)) pa_nil rfl) rfl)) (fun _ _=>rfl))) (@pss_cons _ _ _ _ _ (ps_set (i:=8) scChanged.nd rfl (Or.inl rfl) (pe_disp (pps_cons (pv 7) (pe_call GK hrK rfl mK kK bK .nil pass0 (@pa_cons _ _ _ _ _ (pv 0) (@pa_cons _ _ _ _ _ (pe_comp_if (own:=["_law_one"]) (caps:=["_law_t"]) (κ:=[7]) rfl ⟨rfl,by decide +kernel,by decide +kernel,rfl,rfl,(fun y hy=>by simp only [List.mem_cons,List.not_mem_nil,or_false] at hy;rcases hy with rfl<;>rfl),(fun y hy=>by simp only [List.mem_cons,List.not_mem_nil,or_false] at hy;rcases hy with rfl<;>exact⟨.inl rfl,rfl,.inl rfl⟩)⟩ rfl (pi_list (pv 4)) (fun _ _ _ _=>(pg_name (i:=0) (show(["_law_one","_law_t"]:List Str).Nodup from by decide +kernel) rfl (Or.inl rfl))) (fun _ _ _ _=>(pt_cmpR op_ne (pv 0) (pv 1) (nomark _))) (fun _ _ _ _=>(pv 0))) (@pa_cons _ _ _ _ _ pe_int pa_nil rfl) rfl) rfl)) pps_nil) rfl rfl (by intro e;cases e) (by decide))) (@pss_one _ _ _ (@ps_ret _ _ _ _ (pe_call GQ hrQ rfl mQ kQ bQ .nil pass0 (@pa_cons _ _ _ _ _ (pv 2) (@pa_cons _ _ _ _ _ (pv 3) (@pa_cons _ _ _ _ _ (pv 8) pa_nil rfl) rfl) rfl)))))) pss_nil) d8,?_⟩
  intro H1 hl tl n1 n2 hs ts fo y7 h0 t0 C lh16 hv
  have nhd:=(Go.refl hd).nd h0
  have ntd:=(Go.refl hd).nd t0
  have els:=k8 H1 hl tl n1 n2 hs ts fo y7 h0 t0 C lh16 fun e=>hv (by omega)
  refine⟨_,rfl,rfl,_,rfl,ite2 (fun c=>?_) (fun _=>iteF (A:=True) els)⟩
  have e3:fo=3:=by have:=of_decide_eq_true c;injection this
  have hvh:=hv (by omega)
  refine⟨_,rfl,hl,_,rfl,.inl (SqL.of C.hh),_,_,rfl,rfl,_,rfl,ite2 (fun c=>?_) (fun _=>els)⟩
  have hpos:(0:Int) < (((hs.map V.str).length:Nat):Int):=of_decide_eq_true c
  have hh2:=strs_len hs
  refine⟨_,rfl,_,rfl,_,rfl,hl,_,rfl,.inl (SqL.of C.hh),d,_,rfl,C.ch.d,hpos,(by rw [hh2];omega),fun H2 r g2 r0 r1=>?_⟩
  obtain⟨z,hz,hat⟩:=str_get (ws:=hs) r0 (by rw [hh2] at r1;exact r1)
  have C2:=C.go nhd ntd g2
  refine⟨hl,_,_,_,rfl,rfl,SqL.of C2.hh,hat,?_⟩
  intro g hg
  have n3:Go d H2 _:=.new C2.ch.d hg (.dK [])
  have C3:=C2.go nhd ntd n3
  have ngd:=g2.nd (b:=g) |> fun _=>(Go.refl C2.ch.d).nd hg
  have hg3:upd H2 g (.dK []) g=some (.dK []):=upd_same
  refine⟨_,rfl,_,rfl,_,rfl,hl,rfl,⟨_,SqL.of C3.hh⟩,?_⟩
  refine comp_by (xs:=hs.map V.str) (fun j us H6=>H6=upd H2 g (.dK [])∧∃os:List Str,us=os.map V.str∧os.length≤j∧∀x∈os,x∈hs∧x≠z) ⟨rfl,[],rfl,Nat.le_refl _,fun x hx=>nomatch hx⟩ (by rw [hh2];exact small (by omega)) (fun j us H6 ⟨_,os,e,h,_⟩=>by rw [e,List.length_map];exact h) ?_ ?_ ?_ ?_ ?_
  ·rintro j u us H6 hu ⟨rfl,_⟩
   exact⟨_,_,SqL.of C3.hh,hu⟩
  ·rintro j us u H6 H' hn ⟨rfl,_⟩ hy
   exact⟨hy.1,hy.2 _ (SqL.of C3.hh)⟩
  ·rintro us H6 ⟨rfl,_⟩
   exact⟨_,SqL.of C3.hh,Nat.le_refl _⟩
  ·rintro j u us H6 N hN hu ⟨rfl,os,rfl,hol,hos⟩
   rw [List.getElem?_map] at hu
   obtain⟨x,hx,rfl⟩:=Option.map_eq_some_iff.mp hu
   refine⟨rfl,_,rfl,_,rfl,rfl,_,rfl,ite2 (fun c=>?_) (fun c=>?_)⟩
   ·refine⟨_,rfl,hN _ _ ⟨rfl,os++[x],by rw [List.map_append];rfl,by rw [List.length_append];exact Nat.succ_le_succ hol,fun y hy=>?_⟩⟩
    rcases List.mem_append.mp hy with h|h
    ·exact hos y h
    ·rw [List.mem_singleton.mp h]
     refine⟨List.mem_of_getElem? hx,fun e=>?_⟩
     have c':(!decide (V.str x=V.str z))=true:=c
     rw [e] at c'
     simp at c'
   ·exact hN _ _ ⟨rfl,os,rfl,by omega,hos⟩
  ·rintro us H6 D ⟨rfl,os,rfl,hol,hos⟩ hD
   rw [hh2] at hol
   have n4:Go d _ _:=.new n3.d hD (.lst (os.map V.str))
   have nDd:=n3.nd hD
   have ngD:g≠D:=fun e=>by rw [←e,hg3] at hD;cases hD
   refine⟨d,D,2,os,rfl,n4.d,nDd,upd_same,by omega,fun x hx=>(hvh x (hos x hx).1).1,by decide,by decide,by decide,fun H7 v k g7 hv7 hk _ hl7=>?_⟩
   have n47:=n4.trans g7
   have hg7:=n47.at ngd hg3
   refine⟨hg7,[(.inr z,v)],rfl,(by show 1≤15;decide),?_⟩
   have C7:=C3.go nhd ntd n47
   have hkt:Kt K H7 (upd H7 g (.dK (mergeK [] [(.inr z,v)]))):=fun a xs t=>sqt_dk hg7 t
   have g0:H g=none:=by
    have C1g:=C2
    cases e:H g with
    |none=>rfl
    |some o =>
     by_cases e2:g=kd
     ·obtain⟨_,_,y,_⟩:=C2.fc
      rw [e2,y] at hg;cases hg
     ·by_cases e3:g=fd
      ·obtain⟨_,_,_,y,_⟩:=C2.fc
       rw [e3,y] at hg;cases hg
      ·rw [C2.ch.at ngd e2 e3 e] at hg;cases hg
   have ngk:g≠kd:=fun e=>by rw [e,hkd] at g0;cases g0
   have ngf:g≠fd:=fun e=>by rw [e,hfd] at g0;cases g0
   have hF8:FcAt K (upd H7 g (.dK (mergeK [] [(.inr z,v)]))) kd fd n1 n2:=by
    obtain⟨a1,a2,b1,b2,b3,b4⟩:=C7.fc
    exact⟨a1,a2,by rw [upd_ne (Ne.symm ngk)];exact b1,by rw [upd_ne (Ne.symm ngf)];exact b2,b3.imp fun _ _ t=>kd_keep hkt t,b4.imp fun _ _ t=>fn_keep hkt t⟩
   have hg8:upd H7 g (.dK (mergeK [] [(.inr z,v)])) g=some (.dK (mergeK [] [(.inr z,v)])):=upd_same
   have d8':DL (upd H7 g (.dK (mergeK [] [(.inr z,v)]))) d:=by
    obtain⟨a,b,e⟩:=g7.d
    exact⟨a,b,by rw [upd_ne (Ne.symm ngd)];exact e⟩
   have c8:Ch d kd fd H (upd H7 g (.dK (mergeK [] [(.inr z,v)]))):=by
    refine⟨fun b u hb=>?_,d8'⟩
    have h7:=C7.ch.s b u hb
    by_cases e:b∈[d,kd,fd]
    ·rw [zo_at e] at hb;cases hb
    ·rw [zo_ne e] at hb h7 ⊢
     rw [upd_ne (fun e=>by rw [e,g0] at hb;cases hb)]
     exact h7
   generalize hM:upd H7 g (.dK (mergeK [] [(.inr z,v)]))=H8 at hF8 hg8 d8' c8 hkt ⊢
   have hG:PkAt (KdAt K H8) (mergeK [] [((.inr z:Key),v)]) [(z,k)]:=.cons ⟨rfl,kd_keep hkt hv7⟩ .nil
   refine⟨_,rfl,_,rfl,_,rfl,kd,fd,g,n1,n2,_,[(z,k)],rfl,hF8,C7.wf,hg8,hG,ngk,ngf,fun H9 p9 kd' fd' s9 k0 f0 nkf' hp9 hF9=>?_⟩
   have lf:k.leaf=true:=hl7 (by decide)
   have c9:=c8.go (.of d8' s9)
   have fr:∀{b:Addr},H8 b=none→b≠d∧b≠kd∧b≠fd∧H b=none:=fun {b} hb=>by
    have x1:b≠d:=(Go.refl d8').nd hb
    obtain⟨_,_,y1,y2,_⟩:=hF8
    have x2:b≠kd:=fun e=>by rw [e,y1] at hb;cases hb
    have x3:b≠fd:=fun e=>by rw [e,y2] at hb;cases hb
    refine⟨x1,x2,x3,?_⟩
    cases e:H b with
    |none=>rfl
    |some o=>rw [c8.at x1 x2 x3 e] at hb;cases hb
   obtain⟨a1,a2,a3,a4⟩:=fr k0
   obtain⟨b1,b2,b3,b4⟩:=fr f0
   refine q H9 p9 kd' fd' _ _ c9.d (fun b u hb=>?_) (.inr a4) (.inr b4) nkf' (SqT.of hp9) hF9 (C7.wf.one hk lf fun x hx=>⟨(hos x hx).2,(hvh x (hos x hx).1).2⟩)
   have h9:=c9.s b u hb
   by_cases e:b∈[d,kd,fd]
   ·rw [zo_at e] at hb;cases hb
   ·rw [zo_ne e] at hb h9
    rw [zo_ne]
    ·exact h9
    ·intro m
     rcases List.mem_cons.mp m with m|m
     ·exact e (by rw [m];exact .head _)
     ·rcases List.mem_cons.mp m with m|m
      ·rw [m,a4] at hb;cases hb
      ·rw [List.mem_singleton.mp m,b4] at hb;cases hb
 obtain⟨t6,d6,k6⟩:∃t,PSs (cxOf CX0 P w K mg base ["_law_deal_here","_law_face_here","_law_kinds","_law_funs","_law_hidden","_law_told","_law_form","_law_t","_law_given","_law_fs","_law_f","_law_args"] "_law_changed" (defScope sChanged) f cdv A outer s H E).nox (List.drop 6 (defBody sChanged)) t ∧
   ∀(H1:Hp) (hl tl:Addr) (n1:Rows1) (n2:Rows2) (hs ts:List Str) (fo:Int) (y7:Option V),H hl=none→H tl=none→Cst K H d kd fd hl tl H1 n1 n2 hs ts→hs.length≤16→ts.length≤16→(2≤fo→ValH n1 hs∧ValT n1 ts)→t { nx:=fun _ H'=>Q .non H',rt:=Q } [some (.ref d),some (.ref p),some (.ref kd),some (.ref fd),some (.ref hl),some (.ref tl),some (.int fo),y7,none,none,none,none] H1:=by
  refine⟨_,@pss_cons _ _ _ _ _ (ps_if (PW.pt (pw_and (pt_cmpR op_eq (pv 6) pe_int (nomark _)) (pw_and1 (pt_cmpR op_gt (pe_callB call_len_seq rfl ml PySem.boot_len (@pa_cons _ _ _ _ _ (pv 5) pa_nil rfl)) pe_int (nomark _))))) (@pss_one _ _ _ (ps_dput hu (pv 2) (pe_ix ix_list (pv 5) (pe_call GD hrD rfl mD kD bD .nil pass0 (@pa_cons _ _ _ _ _ (pv 0) (@pa_cons _ _ _ _ _ (pe_callB call_len_seq rfl ml PySem.boot_len (@pa_cons _ _ _ _ _ (pv 5) pa_nil rfl)) pa_nil rfl) rfl)) (fun _ _=>rfl)) (pe_call GK hrK rfl mK kK bK .nil pass0 (@pa_cons _ _ _ _ _ (pv 0) (@pa_cons _ _ _ _ _ (pv 4) (@pa_cons _ _ _ _ _ pe_int pa_nil rfl) rfl) rfl)) rfl)) pss_nil) d7,?_⟩
  intro H1 hl tl n1 n2 hs ts fo y7 h0 t0 C lh16 lt16 hv
  have nhd:=(Go.refl hd).nd h0
  have ntd:=(Go.refl hd).nd t0
  have nhk:hl≠kd:=fun z=>by rw [z,hkd] at h0;cases h0
  have ntk:tl≠kd:=fun z=>by rw [z,hkd] at t0;cases t0
  have els:=k7 H1 hl tl n1 n2 hs ts fo y7 h0 t0 C lh16 fun e=>(hv (by omega)).1
  refine⟨_,rfl,rfl,_,rfl,ite2 (fun c=>?_) (fun _=>iteF (A:=True) els)⟩
  have e5:fo=2:=by have:=of_decide_eq_true c;injection this
  obtain⟨hvh,hvt⟩:=hv (by omega)
  refine⟨_,rfl,tl,_,rfl,.inl (SqL.of C.ht),_,_,rfl,rfl,_,rfl,ite2 (fun c=>?_) (fun _=>els)⟩
  have hpos:(0:Int) < (((ts.map V.str).length:Nat):Int):=of_decide_eq_true c
  have ht2:=strs_len ts
  refine⟨_,rfl,_,rfl,d,hl,5,hs,rfl,C.ch.d,nhd,C.hh,lh16,fun z hz=>(hvh z hz).1,by decide,by decide,by decide,fun H2 v k g2 hv2 hk hw _=>?_⟩
  have C2:=C.go nhd ntd g2
  refine⟨_,rfl,_,rfl,_,rfl,_,rfl,tl,_,rfl,.inl (SqL.of C2.ht),d,_,rfl,C2.ch.d,hpos,(by rw [ht2];omega),fun H3 r g3 r0 r1=>?_⟩
  obtain⟨z,hz,hat⟩:=str_get (ws:=ts) r0 (by rw [ht2] at r1;exact r1)
  have C3:=C2.go nhd ntd g3
  obtain⟨kw1,kw2,hw1,hw2,pw1,pw2⟩:=id C3.fc
  obtain⟨_,kz,hkz,hne⟩:=hvt z hz
  have hmz:z∈n1.map (·.1):=List.mem_map.mpr ⟨_,look_in hkz,rfl⟩
  have lk:kw1.length < 1000:=by
   rw [pw1.len]
   have:=C.wf.n1
   omega
  refine⟨tl,_,_,_,rfl,rfl,SqL.of C3.ht,hat,kd,_,rfl,DPut.k (k:=.inr z) hw1 (Nat.lt_of_lt_of_le lk (small (Nat.le_refl _))),?_⟩
  have hkw:KW (setR n1 z k) k:=⟨hk.1,by omega,fun n hn e=>by
   have h1:=hvh _ (hk.2 n hn e)
   rw [look_setR hkz,if_neg (fun e2=>by rw [e2,hkz] at h1;exact hne (Option.some.inj h1.2))]
   exact h1.2⟩
  exact k7 _ hl tl (setR n1 z k) n2 hs ts fo y7 h0 t0 ⟨C3.ch.put (by simp) nkd _,C3.fc.setK nkf (pk_set pw1 hmz (kd_keep (g3.kt g2.d) hv2)),C3.wf.set hkz hne hkw,by rw [upd_ne nhk];exact C3.hh,by rw [upd_ne ntk];exact C3.ht⟩ lh16 fun e=>absurd (e5▸e) (by decide)
 obtain⟨t5,d5,k5⟩:∃t,PSs (cxOf CX0 P w K mg base ["_law_deal_here","_law_face_here","_law_kinds","_law_funs","_law_hidden","_law_told","_law_form","_law_t","_law_given","_law_fs","_law_f","_law_args"] "_law_changed" (defScope sChanged) f cdv A outer s H E).nox (List.drop 5 (defBody sChanged)) t ∧
   ∀(H1:Hp) (hl tl:Addr) (n1:Rows1) (n2:Rows2) (hs ts:List Str) (fo:Int) (y7:Option V),H hl=none→H tl=none→Cst K H d kd fd hl tl H1 n1 n2 hs ts→hs.length≤16→ts.length≤16→(1≤fo→ValH n1 hs∧ValT n1 ts)→t { nx:=fun _ H'=>Q .non H',rt:=Q } [some (.ref d),some (.ref p),some (.ref kd),some (.ref fd),some (.ref hl),some (.ref tl),some (.int fo),y7,none,none,none,none] H1:=by
  refine⟨_,@pss_cons _ _ _ _ _ (ps_if (PW.pt (pw_and (pt_cmpR op_eq (pv 6) pe_int (nomark _)) (pw_and1 (pt_cmpR op_gt (pe_callB call_len_seq rfl ml PySem.boot_len (@pa_cons _ _ _ _ _ (pv 5) pa_nil rfl)) pe_int (nomark _))))) (@pss_cons _ _ _ _ _ (ps_set (i:=7) scChanged.nd rfl (Or.inr rfl) (pe_ix ix_list (pv 5) (pe_call GD hrD rfl mD kD bD .nil pass0 (@pa_cons _ _ _ _ _ (pv 0) (@pa_cons _ _ _ _ _ (pe_callB call_len_seq rfl ml PySem.boot_len (@pa_cons _ _ _ _ _ (pv 5) pa_nil rfl)) pa_nil rfl) rfl)) (fun _ _=>rfl))) (@pss_one _ _ _ (ps_dput hu (pv 2) (pv 7) (@pe_tup _ _ _ _ _ (@pa_cons _ _ _ _ _ pe_str (@pa_cons _ _ _ _ _ pe_str (@pa_cons _ _ _ _ _ (pv 7) pa_nil rfl) rfl) rfl)) rfl))) pss_nil) d6,?_⟩
  intro H1 hl tl n1 n2 hs ts fo y7 h0 t0 C lh16 lt16 hv
  have nhd:=(Go.refl hd).nd h0
  have ntd:=(Go.refl hd).nd t0
  have nhk:hl≠kd:=fun z=>by rw [z,hkd] at h0;cases h0
  have ntk:tl≠kd:=fun z=>by rw [z,hkd] at t0;cases t0
  have els:=k6 H1 hl tl n1 n2 hs ts fo y7 h0 t0 C lh16 lt16 fun e=>hv (by omega)
  refine⟨_,rfl,rfl,_,rfl,ite2 (fun c=>?_) (fun _=>iteF (A:=True) els)⟩
  have e5:fo=1:=by have:=of_decide_eq_true c;injection this
  obtain⟨hvh,hvt⟩:=hv (by omega)
  refine⟨_,rfl,tl,_,rfl,.inl (SqL.of C.ht),_,_,rfl,rfl,_,rfl,ite2 (fun c=>?_) (fun _=>els)⟩
  have hpos:(0:Int) < (((ts.map V.str).length:Nat):Int):=of_decide_eq_true c
  have ht2:=strs_len ts
  refine⟨_,rfl,_,rfl,_,rfl,tl,_,rfl,.inl (SqL.of C.ht),d,_,rfl,C.ch.d,hpos,(by rw [ht2];omega),fun H3 r g3 r0 r1=>?_⟩
  obtain⟨z,hz,hat⟩:=str_get (ws:=ts) r0 (by rw [ht2] at r1;exact r1)
  have C3:=C.go nhd ntd g3
  obtain⟨hvz,kz,hkz,hne⟩:=hvt z hz
  have hmz:z∈n1.map (·.1):=List.mem_map.mpr ⟨_,look_in hkz,rfl⟩
  refine⟨tl,_,_,_,rfl,rfl,SqL.of C3.ht,hat,?_⟩
  refine⟨_,rfl,(by show 3≤sizeLine;decide),fun pn hpn=>?_⟩
  have n4:Go d H3 _:=.new C3.ch.d hpn (.tup [.str "name",.str "",.str z])
  have C4:=C3.go nhd ntd n4
  obtain⟨kw1,kw2,hw1,hw2,pw1,pw2⟩:=id C4.fc
  have lk:kw1.length < 1000:=by
   rw [pw1.len]
   have:=C.wf.n1
   omega
  refine⟨_,rfl,_,rfl,kd,_,rfl,DPut.k (k:=.inr z) hw1 (Nat.lt_of_lt_of_le lk (small (Nat.le_refl _))),?_⟩
  have hkw:KW (setR n1 z (ownK z)) (ownK z):=⟨⟨e_ok,hvz.sok,Nat.le_trans hvz.2.1 (by decide)⟩,(by show 1≤9;decide),fun n hn e=>by
   rw [List.mem_singleton.mp hn,look_setR hkz,if_pos rfl]⟩
  refine k6 _ hl tl (setR n1 z (ownK z)) n2 hs ts fo _ h0 t0 ⟨C4.ch.put (by simp) nkd _,C4.fc.setK nkf (pk_set pw1 hmz (.name (SqT.of upd_same))),C4.wf.set hkz hne hkw,by rw [upd_ne nhk];exact C4.hh,by rw [upd_ne ntk];exact C4.ht⟩ lh16 lt16 fun e=>absurd (e5▸e) (by decide)
 obtain⟨t4,d4,k4⟩:∃t,PSs (cxOf CX0 P w K mg base ["_law_deal_here","_law_face_here","_law_kinds","_law_funs","_law_hidden","_law_told","_law_form","_law_t","_law_given","_law_fs","_law_f","_law_args"] "_law_changed" (defScope sChanged) f cdv A outer s H E).nox (List.drop 4 (defBody sChanged)) t ∧
   ∀(H1:Hp) (hl tl:Addr) (n1:Rows1) (n2:Rows2) (hs ts:List Str) (fo:Int) (y7:Option V),H hl=none→H tl=none→Cst K H d kd fd hl tl H1 n1 n2 hs ts→hs.length≤16→ts.length≤16→(0≤fo→ValH n1 hs∧ValT n1 ts)→t { nx:=fun _ H'=>Q .non H',rt:=Q } [some (.ref d),some (.ref p),some (.ref kd),some (.ref fd),some (.ref hl),some (.ref tl),some (.int fo),y7,none,none,none,none] H1:=by
  refine⟨_,@pss_cons _ _ _ _ _ (ps_if (PW.pt (pw_and (pt_cmpR op_eq (pv 6) pe_int (nomark _)) (pw_and1 (pt_cmpR op_gt (pe_callB call_len_seq rfl ml PySem.boot_len (@pa_cons _ _ _ _ _ (pv 5) pa_nil rfl)) pe_int (nomark _))))) (@pss_one _ _ _ (ps_expr (pe_dpop1 (pv 2) (pe_ix ix_list (pv 5) (pe_call GD hrD rfl mD kD bD .nil pass0 (@pa_cons _ _ _ _ _ (pv 0) (@pa_cons _ _ _ _ _ (pe_callB call_len_seq rfl ml PySem.boot_len (@pa_cons _ _ _ _ _ (pv 5) pa_nil rfl)) pa_nil rfl) rfl)) (fun _ _=>rfl)) ⟨rfl,rfl,rfl,rfl⟩))) pss_nil) d5,?_⟩
  intro H1 hl tl n1 n2 hs ts fo y7 h0 t0 C lh16 lt16 hv
  have nhd:=(Go.refl hd).nd h0
  have ntd:=(Go.refl hd).nd t0
  have nhk:hl≠kd:=fun z=>by rw [z,hkd] at h0;cases h0
  have ntk:tl≠kd:=fun z=>by rw [z,hkd] at t0;cases t0
  have els:=k5 H1 hl tl n1 n2 hs ts fo y7 h0 t0 C lh16 lt16 fun e=>hv (by omega)
  refine⟨_,rfl,rfl,_,rfl,ite2 (fun c=>?_) (fun _=>iteF (A:=True) els)⟩
  have e5:fo=0:=by have:=of_decide_eq_true c;injection this
  obtain⟨hvh,hvt⟩:=hv (by omega)
  refine⟨_,rfl,tl,_,rfl,.inl (SqL.of C.ht),_,_,rfl,rfl,_,rfl,ite2 (fun c=>?_) (fun _=>els)⟩
  have hpos:(0:Int) < (((ts.map V.str).length:Nat):Int):=of_decide_eq_true c
  have ht2:=strs_len ts
  obtain⟨kz1,kz2,hz1,hz2,pz1,pz2⟩:=id C.fc
  refine⟨_,rfl,kd,rfl,.inl ⟨kz1,.inl hz1⟩,_,rfl,_,rfl,_,rfl,tl,_,rfl,.inl (SqL.of C.ht),d,_,rfl,C.ch.d,hpos,(by rw [ht2];omega),fun H3 r g3 r0 r1=>?_⟩
  obtain⟨z,hz,hat⟩:=str_get (ws:=ts) r0 (by rw [ht2] at r1;exact r1)
  have C3:=C.go nhd ntd g3
  obtain⟨kw1,kw2,hw1,hw2,pw1,pw2⟩:=id C3.fc
  obtain⟨_,kz,hkz,hne⟩:=hvt z hz
  obtain⟨v,hv4⟩:∃v,valV kw1 (.inr z)=some v:=by
   rcases look_val pw1 z with ⟨_,h2⟩|⟨v,x,h1,_⟩
   ·rw [hkz] at h2;cases h2
   ·exact⟨v,h1⟩
  refine⟨tl,_,_,_,rfl,rfl,SqL.of C3.ht,hat,kw1,.inr z,v,hw1,rfl,hv4,?_⟩
  exact k5 _ hl tl (dropR n1 z) n2 hs ts fo y7 h0 t0 ⟨C3.ch.put (by simp) nkd _,C3.fc.setK nkf (pk_drop pw1),C3.wf.pop hkz hne,by rw [upd_ne nhk];exact C3.hh,by rw [upd_ne ntk];exact C3.ht⟩ lh16 lt16 fun e=>absurd (e5▸e) (by decide)
 refine⟨_,@pss_cons _ _ _ _ _ (ps_asg (pv 1) (pg_tup rfl (pgs_cons (pg_name (i:=2) scChanged.nd rfl (Or.inr rfl)) (pgs_cons (pg_name (i:=3) scChanged.nd rfl (Or.inl rfl)) pgs_nil)))) (@pss_cons _ _ _ _ _ (ps_set (i:=4) scChanged.nd rfl (Or.inr rfl) (pe_callB (call_sorted_dK rfl) rfl ms bootSorted (@pa_cons _ _ _ _ _ (pe_call GC hrC rfl mC kC bC .nil pass0 (@pa_cons _ _ _ _ _ (pv 2) pa_nil rfl)) pa_nil rfl))) (@pss_cons _ _ _ _ _ (ps_thaw (ps_comp_if (i0:=5) scChanged.nd rfl (Or.inl rfl) (own:=["_law_t"]) (caps:=["_law_kinds"]) (κ:=[2]) rfl ⟨rfl,by decide +kernel,by decide +kernel,rfl,rfl,(fun y hy=>by simp only [List.mem_cons,List.not_mem_nil,or_false] at hy;rcases hy with rfl<;>rfl),(fun y hy=>by simp only [List.mem_cons,List.not_mem_nil,or_false] at hy;rcases hy with rfl<;>exact⟨.inl rfl,rfl,.inl rfl⟩)⟩ rfl (pi_keys (pv 2)) (fun _ _ _ _=>(pg_name (i:=0) (show(["_law_t","_law_kinds"]:List Str).Nodup from by decide +kernel) rfl (Or.inl rfl))) (fun _ _ _ _=>(pt_cmpR (r:=rEqD K true) (op_neD hu64) (pe_dget hu (pv 1) (pv 0) (fun _ _=>rfl)) (@pe_tup _ _ _ _ _ (@pa_cons _ _ _ _ _ pe_str (@pa_cons _ _ _ _ _ pe_str (@pa_cons _ _ _ _ _ (pv 0) pa_nil rfl) rfl) rfl)) (nomark _))) (fun _ _ _ _=>(pv 0)))) (@pss_cons _ _ _ _ _ (ps_set (i:=6) scChanged.nd rfl (Or.inl rfl) (pe_call GD hrD rfl mD kD bD .nil pass0 (@pa_cons _ _ _ _ _ (pv 0) (@pa_cons _ _ _ _ _ pe_int pa_nil rfl) rfl))) d4))),?_⟩
 refine⟨_,rfl,p,_,rfl,hp,rfl,_,_,rfl,_,_,rfl,rfl,?_⟩
 refine⟨_,rfl,kd,kv1,m1,rfl,hkd,hp1,W.n1,fun H1 c s1 hc0 ⟨kvs,hc,hpc⟩=>?_⟩
 obtain⟨c1,c2,c3⟩:=cls_ok m1
 have g1:Go d H H1:=.of hd s1
 have lcl:((cls m1).map (·.1)).length≤16:=by rw [List.length_map];exact Nat.le_trans c2 W.n1
 refine⟨c,kvs,(cls m1).map (·.1),rfl,hc,pk_keys hpc,by omega,fun hl hhl=>?_⟩
 have n2:Go d H1 _:=.new g1.d hhl (.lst ((srt ((cls m1).map (·.1))).map V.str))
 have hhl0:=g1.free hhl
 have g2:=g1.trans n2
 have hhl2:upd H1 hl (.lst ((srt ((cls m1).map (·.1))).map V.str)) hl=some (.lst ((srt ((cls m1).map (·.1))).map V.str)):=upd_same
 have nhd:=g1.nd hhl
 have hvalH:ValH m1 (srt ((cls m1).map (·.1))):=fun z hz=>by
  obtain⟨ws,hws⟩:=look_ex (srt_mem.mp hz)
  have:=c3 z
  rw [hws] at this
  split at this
  ·cases this
  ·rename_i c0
   obtain⟨x,r,e⟩:∃x r,own m1 z=x::r:=by
    cases h:own m1 z with
    |nil=>exact absurd h c0
    |cons x r=>exact⟨x,r,rfl⟩
   have hm:=own_mem.mp (show x∈own m1 z by rw [e];exact .head _)
   have hl:=(W.k1 _ hm).2.2 ("",z) (.head _) rfl
   exact⟨W.w1 _ (look_in hl),hl⟩
 have lh16:(srt ((cls m1).map (·.1))).length≤16:=by rw [srt_len];exact lcl
 generalize srt ((cls m1).map (·.1))=hs at n2 g2 hhl2 hvalH lh16 ⊢
 generalize upd H1 hl (.lst (hs.map V.str))=H2 at n2 g2 hhl2 ⊢
 have hF2:=hF.go hd g2
 have hk2:=g2.at nkd hkd
 refine⟨_,rfl,kd,kv1,rfl,hk2,fun o=>?_⟩
 have hl1:kv1.length=m1.length:=hp1.len
 have hp12:=hp1.imp fun _ _ t=>kd_keep (g2.kt (K:=K) hd) t
 refine comp_keysR (by have:=W.n1;omega) (fun j us H6=>Walk K H2 H6 kd o kv1∧∃ts:List Str,us=ts.map V.str∧ts.length≤j∧ValT m1 ts) ⟨Walk.start hk2,[],rfl,Nat.le_refl _,fun x hx=>nomatch hx⟩ (fun j us H6 h=>h.1.fz) (fun j us H6 ⟨_,ts,e,h,_⟩=>by rw [e,List.length_map];exact h) ?_ ?_
 ·rintro j kv us H6 N hkv ⟨wk,ts,rfl,htl,hts⟩ hN
  obtain⟨⟨z,k⟩,hq,ez,_⟩:=pair_get hp1 hkv
  obtain⟨pk,pw⟩:=kv
  replace ez:pk=.inr z:=ez
  subst ez
  have hmem:=List.mem_of_getElem? hq
  have hlk:=in_look W.nd1 hmem
  obtain⟨v,hv,hkv'⟩:∃v,valV kv1 (.inr z)=some v∧KdAt K H2 v k:=by
   rcases look_val hp12 z with ⟨_,h2⟩|⟨v,x,h1,h2,h3⟩
   ·rw [hlk] at h2;cases h2
   ·rw [hlk] at h2
    rw [Option.some.inj h2]
    exact⟨v,h1,h3⟩
  have hk6:=kd_keep wk.tup hkv'
  have hKW:KW m1 k:=W.k1 _ hmem
  have hvz:=W.w1 _ hmem
  refine⟨rfl,_,rfl,_,rfl,kd,v,rfl,.inl ⟨kv1,.inr z,.inr ⟨o,wk.fz⟩,rfl,hv.symm⟩,_,rfl,(by show 3≤sizeLine;decide),fun pn hpn=>?_⟩
  have s7:=same_new hpn (.tup [.str "name",.str "",.str z])
  have ow:Kd.sm (ownK z):=⟨e_ok,hvz.sok,Nat.le_trans hvz.2.1 (by decide)⟩
  refine⟨Kd.dat k,Kd.dat (ownK z),kd_dat (hk6.same s7),kd_dat (.name (SqT.of upd_same)),kd_shaped (sm_ok hKW.1) (by have:=KW.depth hKW;omega),kd_shaped (sm_ok ow) (by show 1≤60;decide),_,rfl,?_⟩
  show if (!PyData.eqv (Kd.dat k) (Kd.dat (ownK z)))=true then _ else _
  rw [eqv_dat]
  refine ite2 (fun c=>?_) (fun _=>hN _ _ ⟨wk.go s7,ts,rfl,by omega,hts⟩)
  have hne:k≠ownK z:=fun e=>by rw [e] at c;simp at c
  refine⟨_,rfl,hN _ _ ⟨wk.go s7,ts++[z],by rw [List.map_append];rfl,by rw [List.length_append];exact Nat.succ_le_succ htl,fun y hy=>?_⟩⟩
  rcases List.mem_append.mp hy with h|h
  ·exact hts y h
  ·rw [List.mem_singleton.mp h]
   exact⟨hvz,k,hlk,hne⟩
 ·rintro us H6 tl ⟨wk,ts,rfl,htl,hts⟩ htl6
  have nkt:kd≠tl:=fun e=>by rw [←e,wk.fz] at htl6;cases htl6
  refine⟨kd,o,.dK kv1,by rw [upd_ne nkt];exact wk.fz,nofz hkd,?_⟩
  have wk7:Walk K H2 (upd H6 tl (.lst (ts.map V.str))) kd o kv1:=wk.go (same_new htl6 _)
  have sT:=wk7.thaw hk2
  have htl7:upd (upd H6 tl (.lst (ts.map V.str))) kd (.dK kv1) tl=some (.lst (ts.map V.str)):=by rw [upd_ne (Ne.symm nkt)];exact upd_same
  have tl0:H tl=none:=g2.free (wk.free htl6)
  generalize upd (upd H6 tl (.lst (ts.map V.str))) kd (.dK kv1)=H7 at sT htl7 ⊢
  have gT:Go d H2 H7:=.of g2.d sT
  have ntd:tl≠d:=(Go.refl hd).nd tl0
  refine⟨_,rfl,d,6,rfl,gT.d,by decide,by decide,fun H8 fo g8 f0 f1=>?_⟩
  have g28:=gT.trans g8
  exact k4 H8 hl tl m1 m2 hs ts fo _ hhl0 tl0 ⟨(Ch.refl hd).go (g2.trans g28),hF2.go g2.d g28,W,g28.at nhd hhl2,g8.at ntd htl7⟩ lh16 (by have:=W.n1;omega) fun _=>⟨hvalH,hts⟩
end
end K27
namespace K27
open PySem L2 Kk
abbrev Gx:=Str × Str→Option Kd
def img(G:Gx)(n:Str × Str):Kd:=(G n).getD (.name n.1 n.2)
theorem put_ext{G G':Gx}:∀{k:Kd},(∀n∈Kd.names k,img G n=img G' n)→Kd.put G k=Kd.put G' k
 |.num _,_=>rfl
 |.name q t,h=>h (q,t) (.head _)
 |.pair a b,h=>by
  show Kd.pair (Kd.put G a) (Kd.put G b)=Kd.pair (Kd.put G' a) (Kd.put G' b)
  rw [put_ext fun n hn=>h n (List.mem_append_left _ hn),put_ext fun n hn=>h n (List.mem_append_right _ hn)]
theorem put_put{G G':Gx}:∀k:Kd,Kd.put G (Kd.put G' k)=Kd.put (fun n=>some (Kd.put G (img G' n))) k
 |.num _=>rfl
 |.name q t=>rfl
 |.pair a b=>by
  show Kd.pair _ _=Kd.pair _ _
  rw [put_put a,put_put b]
theorem put_id{G:Gx}:∀{k:Kd},(∀n∈Kd.names k,img G n=.name n.1 n.2)→Kd.put G k=k
 |.num _,_=>rfl
 |.name q t,h=>h (q,t) (.head _)
 |.pair a b,h=>by
  show Kd.pair (Kd.put G a) (Kd.put G b)=_
  rw [put_id fun n hn=>h n (List.mem_append_left _ hn),put_id fun n hn=>h n (List.mem_append_right _ hn)]
theorem fn_ext{G G':Gx}{f:List Kd × Kd}(h:∀k∈f.2::f.1,Kd.put G k=Kd.put G' k):putFn G f=putFn G' f:=by
 unfold putFn
 rw [h _ (.head _),List.map_congr_left fun k hk=>h k (.tail _ hk)]
theorem fn_put{G G':Gx}(f:List Kd × Kd):putFn G (putFn G' f)=putFn (fun n=>some (Kd.put G (img G' n))) f:=by
 unfold putFn
 rw [List.map_map,put_put]
 congr 1
 exact List.map_congr_left fun k _=>put_put k
theorem fn_id{G:Gx}{f:List Kd × Kd}(h:∀k∈f.2::f.1,Kd.put G k=k):putFn G f=f:=by
 unfold putFn
 rw [h _ (.head _)]
 have:f.1.map (Kd.put G)=f.1:=by
  conv=>rhs;rw [←List.map_id f.1]
  exact List.map_congr_left fun k hk=>h k (.tail _ hk)
 rw [this]
abbrev AA(m:Rows1):Gx:=ownG (lgiv m)
theorem own_here{m:Rows1}{t x:Str}(h:look m x=some (ownK t)):x∈own m t:=own_mem.mpr (look_in h)
theorem own_look{m:Rows1}{t x:Str}(nd:(m.map (·.1)).Nodup)(h:x∈own m t):look m x=some (ownK t):=in_look nd (own_mem.mp h)
theorem min_ex:∀(ws:List Str),ws≠[]→∃M∈ws,∀x∈ws,leS M x=true
 |[],h=>absurd rfl h
 |[z],_=>⟨z,.head _,fun x hx=>by rw [List.mem_singleton.mp hx];exact leS_iff.mpr (List.le_refl _)⟩
 |z::y::r,_=>by
  obtain⟨M,h1,h2⟩:=min_ex (y::r) nofun
  have ht:=leS_total z M
  rw [Bool.or_eq_true] at ht
  rcases ht with h|h
  ·exact⟨z,.head _,fun x hx=>by
    rcases List.mem_cons.mp hx with rfl|hx
    ·exact leS_iff.mpr (List.le_refl _)
    ·exact leS_trans h (h2 x hx)⟩
  ·exact⟨M,.tail _ h1,fun x hx=>by
    rcases List.mem_cons.mp hx with rfl|hx
    ·exact h
    ·exact h2 x hx⟩
theorem aa_of{m:Rows1}(nd:(m.map (·.1)).Nodup){t:Str}(h:look m t=some (ownK t)):∃M,look m M=some (ownK t)∧img (AA m) ("",t)=ownK M∧M∈own m t∧∀x∈own m t,leS M x=true:=by
 have ht:=own_here h
 obtain⟨M,h1,h2⟩:=min_ex (own m t) (fun e=>by rw [e] at ht;cases ht)
 refine⟨M,own_look nd h1,?_,h1,h2⟩
 unfold img AA
 rw [own_yes,lgiv_of nd h1 h2]
 rfl
theorem aa_far{m:Rows1}{q t:Str} (h:q≠""):img (AA m) (q,t)=.name q t:=by
 unfold img AA
 rw [own_no h]
 rfl
theorem hid_in{m:Rows1}{t:Str}(h:look m t=some (ownK t)):t∈hidL m:=by
 unfold hidL
 exact List.mem_map.mpr ⟨(t,ownK t),List.mem_filter.mpr ⟨look_in h,decide_eq_true rfl⟩,rfl⟩
theorem gf_own{m n:Rows1}{t:Str}(h:look n t=some (ownK t)):Gf m n ("",t)=look m t:=by
 unfold Gf givenF
 rw [if_pos ⟨rfl,hid_in h⟩]
theorem gf_far{m n:Rows1}{q t:Str} (h:q≠""):img (Gf m n) (q,t)=.name q t:=by
 unfold img Gf givenF
 rw [if_neg fun z=>h z.1]
 rfl
theorem back{m:Rows1}(nd:(m.map (·.1)).Nodup){k:Kd}(h:KW m k):Kd.put (ownG m) (Kd.put (AA m) k)=k:=by
 rw [put_put]
 refine put_id fun n hn=>?_
 obtain⟨q,t⟩:=n
 show Kd.put (ownG m) (img (AA m) (q,t))=.name q t
 by_cases e:q=""
 ·subst e
  obtain⟨M,h1,h2,_⟩:=aa_of nd (h.2.2 _ hn rfl)
  rw [h2]
  show(ownG m ("",M)).getD (.name "" M)=_
  rw [own_yes,h1]
  rfl
 ·rw [aa_far e]
  show(ownG m (q,t)).getD (.name q t)=_
  rw [own_no e]
  rfl
def Fit(m1:Rows1)(m2:Rows2)(n1:Rows1)(n2:Rows2):Prop:=(∀z k,look n1 z=some k→look m1 z=some (Kd.put (Gf m1 n1) k))∧∀z f,look n2 z=some f→look m2 z=some (putFn (Gf m1 n1) f)
def LEq(m1:Rows1)(m2:Rows2)(n1:Rows1)(n2:Rows2):Prop:=(∀z,(look m1 z).map (Kd.put (AA m1))=(look n1 z).map (Kd.put (AA n1)))∧∀z,(look m2 z).map (putFn (AA m1))=(look n2 z).map (putFn (AA n1))
theorem LEq.symm{m1 n1:Rows1}{m2 n2:Rows2}(h:LEq m1 m2 n1 n2):LEq n1 n2 m1 m2:=⟨fun z=>(h.1 z).symm,fun z=>(h.2 z).symm⟩
theorem WF.kw{m1:Rows1}{m2:Rows2}(W:WF m1 m2){z:Str}{k:Kd}(h:look m1 z=some k):KW m1 k:=W.k1 _ (look_in h)
theorem WF.kf{m1:Rows1}{m2:Rows2}(W:WF m1 m2){z:Str}{f:List Kd × Kd}(h:look m2 z=some f):∀k∈f.2::f.1,KW m1 k:=(W.k2 _ (look_in h)).2
theorem map_some{α β:Type}{o:Option α}{f:α→β}{y:β}(h:o.map f=some y):∃x,o=some x∧f x=y:=Option.map_eq_some_iff.mp h
theorem fit_of{m1 n1:Rows1}{m2 n2:Rows2}(Wm:WF m1 m2)(Wn:WF n1 n2)(h:LEq m1 m2 n1 n2):Fit m1 m2 n1 n2:=by
 have key:∀{k:Kd},KW n1 k→Kd.put (ownG m1) (Kd.put (AA n1) k)=Kd.put (Gf m1 n1) k:=fun {k} hk=>by
  rw [put_put]
  refine put_ext fun n hn=>?_
  obtain⟨q,t⟩:=n
  show Kd.put (ownG m1) (img (AA n1) (q,t))=img (Gf m1 n1) (q,t)
  by_cases e:q=""
  ·subst e
   have ht:=hk.2.2 _ hn rfl
   obtain⟨M,h1,h2,_⟩:=aa_of Wn.nd1 ht
   rw [h2]
   show(ownG m1 ("",M)).getD (.name "" M)=(Gf m1 n1 ("",t)).getD (.name "" t)
   rw [own_yes,gf_own ht]
   have a:=h.1 M
   have b:=h.1 t
   have ht':look n1 t=some (ownK t):=ht
   rw [h1] at a
   rw [ht'] at b
   obtain⟨j1,x1,y1⟩:=map_some a
   obtain⟨j2,x2,y2⟩:=map_some b
   have e1:=back Wm.nd1 (Wm.kw x1)
   have e2:=back Wm.nd1 (Wm.kw x2)
   rw [y1] at e1
   rw [y2] at e2
   rw [x1,x2,←e1,←e2]
   rfl
  ·rw [aa_far e,gf_far e]
   show(ownG m1 (q,t)).getD (.name q t)=_
   rw [own_no e]
   rfl
 refine⟨fun z k hz=>?_,fun z f hz=>?_⟩
 ·have a:=h.1 z
  rw [hz] at a
  obtain⟨j,x,y⟩:=map_some a
  have e:=back Wm.nd1 (Wm.kw x)
  rw [y,key (Wn.kw hz)] at e
  rw [x,←e]
 ·have a:=h.2 z
  rw [hz] at a
  obtain⟨j,x,y⟩:=map_some a
  have e:putFn (ownG m1) (putFn (AA m1) j)=j:=by
   rw [fn_put]
   refine fn_id fun k hk=>?_
   rw [←put_put]
   exact back Wm.nd1 (Wm.kf x k hk)
  rw [y,fn_put] at e
  rw [x,←e]
  congr 1
  refine fn_ext fun k hk=>?_
  rw [←put_put]
  exact key (Wn.kf hz k hk)
theorem leq_of{m1 n1:Rows1}{m2 n2:Rows2}(Wm:WF m1 m2)(Wn:WF n1 n2)(h:Fit m1 m2 n1 n2)(g:Fit n1 n2 m1 m2):LEq m1 m2 n1 n2:=by
 have key:∀{t:Str},look m1 t=some (ownK t)→Kd.put (AA n1) (img (Gf n1 m1) ("",t))=img (AA m1) ("",t):=fun {t} ht=>by
  have hb:=g.1 t _ ht
  generalize hβ:Kd.put (Gf n1 m1) (ownK t)=β at hb
  have e0:img (Gf n1 m1) ("",t)=β:=hβ
  rw [e0]
  have h1:=h.1 t β hb
  rw [ht] at h1
  have h1:=Option.some.inj h1
  obtain⟨w,rfl⟩:∃w,β=ownK w:=by
   cases β with
   |num n=>cases h1
   |pair a b=>cases h1
   |name p w =>
    by_cases e:p=""
    ·exact⟨w,by rw [e];rfl⟩
    ·have:Kd.put (Gf m1 n1) (.name p w)=.name p w:=gf_far e
     rw [this] at h1
     exact absurd (Kd.name.inj h1).1.symm e
  have hw:=(Wn.kw hb).2.2 ("",w) (.head _) rfl
  have hmw:look m1 w=some (ownK t):=by
   have:=h.1 w _ hw
   rw [this,←h1]
  have same:∀x,x∈own m1 t↔x∈own n1 w:=fun x=>by
   constructor
   ·intro hx
    have:=g.1 x _ (own_look Wm.nd1 hx)
    rw [hβ] at this
    exact own_here this
   ·intro hx
    have:=h.1 x _ (own_look Wn.nd1 hx)
    rw [←h1] at this
    exact own_here this
  obtain⟨M,a1,a2,a3,a4⟩:=aa_of Wm.nd1 ht
  rw [a2]
  show img (AA n1) ("",w)=ownK M
  unfold img AA
  rw [own_yes,lgiv_of Wn.nd1 ((same M).mp a3) fun x hx=>a4 x ((same x).mpr hx)]
  rfl
 have keyk:∀{k:Kd},KW m1 k→Kd.put (AA n1) (Kd.put (Gf n1 m1) k)=Kd.put (AA m1) k:=fun {k} hk=>by
  rw [put_put]
  refine put_ext fun n hn=>?_
  obtain⟨q,t⟩:=n
  show Kd.put (AA n1) (img (Gf n1 m1) (q,t))=img (AA m1) (q,t)
  by_cases e:q=""
  ·subst e
   exact key (hk.2.2 _ hn rfl)
  ·rw [gf_far e,aa_far e]
   exact aa_far e
 refine⟨fun z=>?_,fun z=>?_⟩
 ·cases hm:look m1 z with
  |none =>
   cases hn:look n1 z with
   |none=>rfl
   |some k=>rw [h.1 z k hn] at hm;cases hm
  |some j =>
   rw [g.1 z j hm]
   exact congrArg some (keyk (Wm.kw hm)).symm
 ·cases hm:look m2 z with
  |none =>
   cases hn:look n2 z with
   |none=>rfl
   |some k=>rw [h.2 z k hn] at hm;cases hm
  |some j =>
   rw [g.2 z j hm]
   refine congrArg some ?_
   rw [fn_put]
   refine fn_ext fun k hk=>?_
   rw [←put_put]
   exact(keyk (Wm.kf hm k hk)).symm
theorem fitR_none{m1 n1:Rows1}{m2 n2:Rows2}(Wn:WF n1 n2):fitR m1 n1 m2 n2=none↔Fit m1 m2 n1 n2:=by
 unfold fitR
 rw [Option.or_eq_none_iff,Option.or_eq_none_iff]
 unfold no1 no3 no4
 rw [Option.map_eq_none_iff,Option.map_eq_none_iff,Option.map_eq_none_iff,List.find?_eq_none,List.find?_eq_none,List.find?_eq_none]
 constructor
 ·rintro⟨_,h3,h4⟩
  refine⟨fun z k hz=>?_,fun z f hz=>?_⟩
  ·have:=h3 _ (look_in hz)
   rw [decide_eq_true_iff] at this
   exact Classical.byContradiction fun e=>this e
  ·have:=h4 _ (look_in hz)
   rw [decide_eq_true_iff] at this
   exact Classical.byContradiction fun e=>this e
 ·rintro⟨h1,h2⟩
  refine⟨fun q hq e=>?_,fun q hq e=>?_,fun q hq e=>?_⟩
  ·rw [h1 q.1 q.2 (in_look Wn.nd1 hq)] at e;cases e
  ·exact(of_decide_eq_true e) (h1 q.1 q.2 (in_look Wn.nd1 hq))
  ·exact(of_decide_eq_true e) (h2 q.1 q.2 (in_look Wn.nd2 hq))
theorem dat_inj{a b:Kd}(h:Kd.dat a=Kd.dat b):a=b:=by
 have:=eqv_dat a b
 rw [h,eqv_dat b b,decide_eq_true rfl] at this
 exact of_decide_eq_true this.symm
theorem srt_congr{a b:List Str}(h:a.Perm b):srt a=srt b :=
 (((srt_perm a).trans h).trans (srt_perm b).symm).eq_of_pairwise (le:=fun a b=>leS a b=true) (fun _ _ _ _ h g=>leS_anti h g) (List.pairwise_mergeSort (le:=leS) (fun _ _ _ h g=>leS_trans h g) leS_total a) (List.pairwise_mergeSort (le:=leS) (fun _ _ _ h g=>leS_trans h g) leS_total b)
theorem keys_eq{α:Type}{m n:List (Str × α)}(hm:(m.map (·.1)).Nodup)(hn:(n.map (·.1)).Nodup)(h:∀z,(look m z).isSome=(look n z).isSome):keysL m=keysL n:=by
 have mem:∀{m:List (Str × α)} {z:Str},z∈m.map (·.1)↔(look m z).isSome=true:=fun {m z}=>by
  constructor
  ·intro hz
   obtain⟨x,e⟩:=look_ex hz
   rw [e];rfl
  ·intro hz
   obtain⟨x,e⟩:=Option.isSome_iff_exists.mp hz
   exact List.mem_map.mpr ⟨_,look_in e,rfl⟩
 refine srt_congr ((List.perm_ext_iff_of_nodup hm hn).mpr fun z=>?_)
 rw [mem,mem,h z]
def fstD:PyData→Option Str
 |.tuple (.str z::_)=>some z
 |_=>none
theorem rowF_of{g:Rows1}{m:Rows2}{z:Str}{f:List Kd × Kd}(h:look m z=some f):rowFD g m z=.tuple [.str z,.tuple ((putFn (ownG g) f).1.map Kd.dat),Kd.dat (putFn (ownG g) f).2]:=by
 unfold rowFD
 rw [h]
 rfl
theorem rowK_of{g m:Rows1}{z:Str}{k:Kd}(h:look m z=some k):rowKD g m z=.tuple [.str z,Kd.dat (Kd.put (ownG g) k)]:=by
 unfold rowKD
 rw [h]
 rfl
theorem map_dat_inj:∀{a b:List Kd},a.map Kd.dat=b.map Kd.dat→a=b
 |[],[],_=>rfl
 |[],_::_,h=>nomatch h
 |_::_,[],h=>nomatch h
 |x::a,y::b,h=>by
  rw [List.map_cons,List.map_cons] at h
  rw [dat_inj (List.cons.inj h).1,map_dat_inj (List.cons.inj h).2]
theorem map_some_inj:∀{a b:List Str},a.map some=b.map some→a=b
 |[],[],_=>rfl
 |[],_::_,h=>nomatch h
 |_::_,[],h=>nomatch h
 |x::a,y::b,h=>by
  rw [List.map_cons,List.map_cons] at h
  rw [Option.some.inj (List.cons.inj h).1,map_some_inj (List.cons.inj h).2]
theorem look_not{α:Type}{m:List (Str × α)}{z:Str}(h:z∉keysL m):look m z=none:=by
 cases e:look m z with
 |none=>rfl
 |some x=>exact absurd (srt_mem.mpr (List.mem_map.mpr ⟨_,look_in e,rfl⟩)) h
theorem leastD_eq{m1 n1:Rows1}{m2 n2:Rows2}(Wm:WF m1 m2)(Wn:WF n1 n2):leastD m1 m2=leastD n1 n2↔LEq m1 m2 n1 n2:=by
 constructor
 ·intro h
  unfold leastD at h
  have h0:=PyData.tuple.inj h
  have ha:=PyData.tuple.inj (List.cons.inj h0).1
  have hb:=PyData.tuple.inj (List.cons.inj (List.cons.inj h0).2).1
  have k1:keysL m1=keysL n1:=by
   have:=congrArg (List.map fstD) ha
   rw [List.map_map,List.map_map] at this
   have e:∀g m:Rows1,fstD∘rowKD g m=some:=fun g m=>funext fun z=>rfl
   rw [e,e] at this
   exact map_some_inj this
  have e2:∀(g:Rows1) (m:Rows2),(keysL m).map (fstD∘rowFD g m)=(keysL m).map some:=fun g m=>List.map_congr_left fun z hz=>by
   obtain⟨f,hf⟩:=look_ex (srt_mem.mp hz)
   show fstD (rowFD g m z)=some z
   rw [rowF_of hf]
   rfl
  have k2:keysL m2=keysL n2:=by
   have:=congrArg (List.map fstD) hb
   rw [List.map_map,List.map_map,e2,e2] at this
   exact map_some_inj this
  rw [←k1,List.map_inj_left] at ha
  rw [←k2,List.map_inj_left] at hb
  refine⟨fun z=>?_,fun z=>?_⟩
  ·by_cases hz:z∈keysL m1
   ·obtain⟨j,hj⟩:=look_ex (srt_mem.mp hz)
    obtain⟨k,hk⟩:=look_ex (m:=n1) (srt_mem.mp (k1▸hz:z∈keysL n1))
    have:=ha z hz
    rw [rowK_of hj,rowK_of hk] at this
    have:=dat_inj (List.cons.inj (List.cons.inj (PyData.tuple.inj this)).2).1
    rw [hj,hk]
    exact congrArg some this
   ·rw [look_not hz,look_not (by rw [←k1];exact hz)]
    rfl
  ·by_cases hz:z∈keysL m2
   ·obtain⟨j,hj⟩:=look_ex (srt_mem.mp hz)
    obtain⟨k,hk⟩:=look_ex (m:=n2) (srt_mem.mp (k2▸hz:z∈keysL n2))
    have:=hb z hz
    rw [rowF_of hj,rowF_of hk] at this
    have r:=(List.cons.inj (PyData.tuple.inj this)).2
    have r1:=map_dat_inj (PyData.tuple.inj (List.cons.inj r).1)
    have r2:=dat_inj (List.cons.inj (List.cons.inj r).2).1
    rw [hj,hk]
    exact congrArg some (Prod.ext r1 r2)
   ·rw [look_not hz,look_not (by rw [←k2];exact hz)]
    rfl
 ·rintro⟨h1,h2⟩
  have k1:keysL m1=keysL n1:=keys_eq Wm.nd1 Wn.nd1 fun z=>by
   have:=congrArg Option.isSome (h1 z)
   rw [Option.isSome_map,Option.isSome_map] at this
   exact this
  have k2:keysL m2=keysL n2:=keys_eq Wm.nd2 Wn.nd2 fun z=>by
   have:=congrArg Option.isSome (h2 z)
   rw [Option.isSome_map,Option.isSome_map] at this
   exact this
  unfold leastD
  rw [←k1,←k2]
  congr 2
  ·congr 1
   refine List.map_congr_left fun z hz=>?_
   obtain⟨j,hj⟩:=look_ex (srt_mem.mp hz)
   obtain⟨k,hk⟩:=look_ex (m:=n1) (srt_mem.mp (k1▸hz:z∈keysL n1))
   have:=h1 z
   rw [hj,hk] at this
   rw [rowK_of hj,rowK_of hk,Option.some.inj (show some (Kd.put (AA m1) j)=some (Kd.put (AA n1) k) from this)]
  ·congr 2
   refine List.map_congr_left fun z hz=>?_
   obtain⟨j,hj⟩:=look_ex (srt_mem.mp hz)
   obtain⟨k,hk⟩:=look_ex (m:=n2) (srt_mem.mp (k2▸hz:z∈keysL n2))
   have:=h2 z
   rw [hj,hk] at this
   rw [rowF_of hj,rowF_of hk,Option.some.inj (show some (putFn (AA m1) j)=some (putFn (AA n1) k) from this)]
theorem least_fits{m1 n1:Rows1}{m2 n2:Rows2}(Wm:WF m1 m2)(Wn:WF n1 n2):leastD m1 m2=leastD n1 n2↔fitR m1 n1 m2 n2=none∧fitR n1 m1 n2 m2=none:=by
 rw [leastD_eq Wm Wn,fitR_none Wn,fitR_none Wm]
 exact⟨fun h=>⟨fit_of Wm Wn h,fit_of Wn Wm h.symm⟩,fun h=>leq_of Wm Wn h.1 h.2⟩
end K27
namespace K27
open PySem L2 Kk
theorem look_perm{α:Type}{m n:List (Str × α)}(nd:(m.map (·.1)).Nodup)(p:n.Perm m)(z:Str):look n z=look m z:=by
 have ndn:(n.map (·.1)).Nodup:=(p.map _).nodup_iff.mpr nd
 cases h:look m z with
 |some x=>exact in_look ndn (p.mem_iff.mpr (look_in h))
 |none =>
  cases h2:look n z with
  |none=>rfl
  |some x =>
   rw [in_look nd (p.mem_iff.mp (look_in h2))] at h
   cases h
theorem tr_ok{m1 n1:Rows1}{m2 n2:Rows2}(W:WF m1 m2)(h:TrOk m1 m2 n1 n2):WF n1 n2∧leastD n1 n2=leastD m1 m2:=by
 obtain⟨gl,hk,hM,p1,p2⟩:=h
 obtain⟨c1,c2,c3⟩:=cls_ok m1
 have ndg:(gl.map (·.1)).Nodup:=by rw [hk];exact c1
 have gt:∀{t:Str},look m1 t=some (ownK t)→∃M,ownG gl ("",t)=some (ownK M)∧look m1 M=some (ownK t):=fun {t} ht=>by
  have hw:look (cls m1) t=some (own m1 t):=by
   rw [c3 t,if_neg (fun e=>by have:=own_here ht;rw [e] at this;cases this)]
  have hm:t∈gl.map (·.1):=by rw [hk];exact List.mem_map.mpr ⟨_,look_in hw,rfl⟩
  obtain⟨k,e⟩:=look_ex hm
  obtain⟨M,e1,e2⟩:=hM _ (look_in e)
  have e1:k=ownK M:=e1
  subst e1
  exact⟨M,by rw [own_yes];exact e,own_look W.nd1 e2⟩
 have W1:WF (m1.map (putP (ownG gl))) (m2.map (putQ (ownG gl))):=by
  refine W.put (fun n k e=>?_) (fun n hn=>if_neg hn) fun t ht=>?_
  ·unfold ownG at e
   split at e
   ·obtain⟨M,e1,e2⟩:=hM _ (look_in e)
    have e1:k=ownK M:=e1
    subst e1
    have hv:=W.w1 _ (own_mem.mp e2)
    exact⟨rfl,e_ok,hv.sok,Nat.le_trans hv.2.1 (by decide)⟩
   ·cases e
  ·obtain⟨M,e1,e2⟩:=gt ht
   refine .inr ⟨ownK M,e1,fun n hn _=>?_⟩
   rw [List.mem_singleton.mp hn]
   show Kd.put (ownG gl) <$> look m1 M=some (ownK M)
   rw [e2]
   show some ((ownG gl ("",t)).getD (.name "" t))=_
   rw [e1]
   rfl
 have Wn:=W1.perm p1 p2
 refine⟨Wn,?_⟩
 have lk1:∀z,look n1 z=(look m1 z).map (Kd.put (ownG gl)):=fun z=>by rw [look_perm W1.nd1 p1,look_mapP]
 have lk2:∀z,look n2 z=(look m2 z).map (putFn (ownG gl)):=fun z=>by rw [look_perm W1.nd2 p2,look_mapQ]
 have far:∀{q t:Str},q≠""→img (ownG gl) (q,t)=.name q t:=fun h=>by unfold img;rw [own_no h];rfl
 have ka:∀{k:Kd},KW m1 k→Kd.put (Gf n1 m1) k=Kd.put (ownG gl) k:=fun {k} hk=>put_ext fun n hn=>by
  obtain⟨q,t⟩:=n
  by_cases e:q=""
  ·subst e
   have ht:=hk.2.2 _ hn rfl
   have ht:look m1 t=some (ownK t):=ht
   unfold img
   rw [gf_own ht,lk1,ht]
   rfl
  ·rw [gf_far e,far e]
 have kb:∀{k:Kd},KW m1 k→Kd.put (Gf m1 n1) (Kd.put (ownG gl) k)=k:=fun {k} hk=>by
  rw [put_put]
  refine put_id fun n hn=>?_
  obtain⟨q,t⟩:=n
  show Kd.put (Gf m1 n1) (img (ownG gl) (q,t))=.name q t
  by_cases e:q=""
  ·subst e
   obtain⟨M,e1,e2⟩:=gt (hk.2.2 _ hn rfl)
   have e3:look n1 M=some (ownK M):=by
    rw [lk1,e2]
    show some ((ownG gl ("",t)).getD (.name "" t))=_
    rw [e1]
    rfl
   unfold img
   rw [e1]
   show(Gf m1 n1 ("",M)).getD (.name "" M)=_
   rw [gf_own e3,e2]
   rfl
  ·rw [far e]
   exact gf_far e
 rw [least_fits Wn W,fitR_none W,fitR_none Wn]
 refine⟨⟨fun z k hz=>?_,fun z f hz=>?_⟩,⟨fun z k hz=>?_,fun z f hz=>?_⟩⟩
 ·rw [lk1,hz]
  exact congrArg some (ka (W.kw hz)).symm
 ·rw [lk2,hz]
  exact congrArg some (fn_ext fun k hk=>(ka (W.kf hz k hk)).symm)
 ·rw [lk1] at hz
  obtain⟨j,e1,rfl⟩:=map_some hz
  rw [kb (W.kw e1)]
  exact e1
 ·rw [lk2] at hz
  obtain⟨j,e1,rfl⟩:=map_some hz
  rw [e1,fn_put]
  refine congrArg some (fn_id fun k hk=>?_).symm
  rw [←put_put]
  exact kb (W.kf e1 k hk)
theorem words_put9{G:Gx}(hG:∀n k,G n=some k→k.words≤9):∀k:Kd,(Kd.put G k).words≤9*k.words
 |.num _=>by show 1≤9*1;decide
 |.name q t=>by
  show((G (q,t)).getD (.name q t)).words≤9*1
  cases e:G (q,t) with
  |none=>show 1≤9*1;decide
  |some k=>exact hG _ _ e
 |.pair a b=>by
  have h1:=words_put9 hG a
  have h2:=words_put9 hG b
  show 1+(Kd.put G a).words+(Kd.put G b).words≤9*(1+a.words+b.words)
  omega
theorem depth_put9{G:Gx}(hG:∀n k,G n=some k→k.words≤9):∀k:Kd,Kd.depth (Kd.put G k)≤Kd.depth k+9
 |.num _=>by show 1≤1+9;decide
 |.name q t=>by
  show Kd.depth ((G (q,t)).getD (.name q t))≤1+9
  cases e:G (q,t) with
  |none=>show 1≤1+9;decide
  |some k=>exact Nat.le_trans (depth_words k) (Nat.le_trans (hG _ _ e) (by decide))
 |.pair a b=>by
  have h1:=depth_put9 hG a
  have h2:=depth_put9 hG b
  show 1+max (Kd.depth (Kd.put G a)) (Kd.depth (Kd.put G b))≤1+max (Kd.depth a) (Kd.depth b)+9
  omega
theorem WF.smk{m1:Rows1}{m2:Rows2}(W:WF m1 m2):∀q∈m1,SmK q:=fun q hq=>by
 have h:=W.k1 q hq
 have hv:=W.w1 q hq
 have:=h.depth
 have h2:=h.2.1
 exact⟨⟨hv.sok,Nat.le_trans hv.2.1 (by decide)⟩,h.1,by omega,by omega⟩
theorem WF.smf{m1:Rows1}{m2:Rows2}(W:WF m1 m2):∀q∈m2,SmF q:=fun q hq=>by
 obtain⟨a,b⟩:=W.k2 q hq
 have hv:=W.w2 q hq
 refine⟨⟨hv.sok,Nat.le_trans hv.2.1 (by decide)⟩,a,fun k hk=>?_⟩
 have h:=b k hk
 have:=h.depth
 have h2:=h.2.1
 exact⟨h.1,by omega,by omega⟩
theorem gf9{m1 n1:Rows1}{m2:Rows2}(W:WF m1 m2):∀n k,Gf m1 n1 n=some k→k.words≤9:=fun n k e=>by
 unfold Gf givenF at e
 split at e
 ·exact(W.kw e).2.1
 ·cases e
theorem sumK_le(ks:List Kd)(h:∀k∈ks,k.words≤81):sumK ks≤81*ks.length:=by
 induction ks with
 |nil=>exact Nat.le_refl _
 |cons k ks ih =>
  have a1:=h k (.head _)
  have a2:=ih fun j hj=>h j (.tail _ hj)
  show k.words+sumK ks≤81*(ks.length+1)
  omega
theorem two_of{m1 n1:Rows1}{m2 n2:Rows2}(W:WF m1 m2)(V:WF n1 n2):Two m1 n1 m2 n2 9:=by
 have hG:=gf9 (n1:=n1) W
 refine⟨Nat.le_trans V.n1 (by decide),Nat.le_trans V.n2 (by decide),W.smk,V.smk,W.smf,V.smf,V.nd1,fun q hq=>(V.k1 q hq).depth,fun q hq k hk=>((V.k2 q hq).2 k hk).depth,fun q hq=>?_,fun q hq=>?_⟩
 ·have h:=V.k1 q hq
  have h1:=words_put9 hG q.2
  have h2:=depth_put9 hG q.2
  have h3:=h.2.1
  have h4:=h.depth
  exact⟨by omega,by omega⟩
 ·obtain⟨a,b⟩:=V.k2 q hq
  have each:∀k∈(putFn (Gf m1 n1) q.2).2::(putFn (Gf m1 n1) q.2).1,k.words≤81∧Kd.depth k≤50:=fun k hk=>by
   have one:∀j∈q.2.2::q.2.1,(Kd.put (Gf m1 n1) j).words≤81∧Kd.depth (Kd.put (Gf m1 n1) j)≤50:=fun j hj=>by
    have h1:=words_put9 hG j
    have h2:=depth_put9 hG j
    have h3:=(b j hj).2.1
    have h4:=(b j hj).depth
    exact⟨by omega,by omega⟩
   rcases List.mem_cons.mp hk with rfl|hk
   ·exact one _ (.head _)
   ·obtain⟨j,hj,rfl⟩:=List.mem_map.mp hk
    exact one j (.tail _ hj)
  refine⟨?_,fun k hk=>(each k hk).2⟩
  have:=sumK_le _ fun k hk=>(each k hk).1
  rw [List.length_cons] at this
  have hl:(putFn (Gf m1 n1) q.2).1.length=q.2.1.length:=List.length_map _
  omega
mutual
def plD:PyData→Bool
 |.str _=>true
 |.int _=>true
 |.tuple xs=>plAll xs
 |.list xs=>plAll xs
 |_=>false
def plAll:List PyData→Bool
 |[]=>true
 |x::xs=>plD x&&plAll xs
end
mutual
theorem eqv_pl:∀(a b:PyData),plD a=true→plD b=true→(PyData.eqv a b=true↔a=b)
 |.str x,b,_,hb=>by
  cases b with
  |str y=>rw [eqv_str];simp
  |int y=>simp [PyData.eqv]
  |tuple ys=>simp [PyData.eqv]
  |list ys=>simp [PyData.eqv]
  |_=>simp [plD] at hb
 |.int x,b,_,hb=>by
  cases b with
  |str y=>simp [PyData.eqv]
  |int y=>rw [eqv_int];simp
  |tuple ys=>simp [PyData.eqv]
  |list ys=>simp [PyData.eqv]
  |_=>simp [plD] at hb
 |.tuple xs,b,ha,hb=>by
  cases b with
  |str y=>simp [PyData.eqv]
  |int y=>simp [PyData.eqv]
  |tuple ys =>
   rw [eqv_tup,eqvA_pl xs ys ha hb]
   exact⟨fun e=>by rw [e],fun e=>PyData.tuple.inj e⟩
  |list ys=>simp [PyData.eqv]
  |_=>simp [plD] at hb
 |.list xs,b,ha,hb=>by
  cases b with
  |str y=>simp [PyData.eqv]
  |int y=>simp [PyData.eqv]
  |tuple ys=>simp [PyData.eqv]
  |list ys =>
   rw [eqv_lst,eqvA_pl xs ys ha hb]
   exact⟨fun e=>by rw [e],fun e=>PyData.list.inj e⟩
  |_=>simp [plD] at hb
theorem eqvA_pl:∀(a b:List PyData),plAll a=true→plAll b=true→(PyData.eqvAll a b=true↔a=b)
 |[],[],_,_=>by simp [PyData.eqvAll]
 |[],_::_,_,_=>by simp [PyData.eqvAll]
 |_::_,[],_,_=>by simp [PyData.eqvAll]
 |x::xs,y::ys,ha,hb=>by
  have ha:(plD x&&plAll xs)=true:=ha
  have hb:(plD y&&plAll ys)=true:=hb
  rw [Bool.and_eq_true] at ha hb
  rw [eqvA_cons,Bool.and_eq_true,eqv_pl x y ha.1 hb.1,eqvA_pl xs ys ha.2 hb.2]
  simp
end
theorem pl_kd:∀k:Kd,plD (Kd.dat k)=true
 |.num _=>rfl
 |.name _ _=>rfl
 |.pair a b=>by
  show(true&&(plD (Kd.dat a)&&(plD (Kd.dat b)&&true)))=true
  rw [pl_kd a,pl_kd b]
  rfl
theorem plAll_map{α:Type}{f:α→PyData}{l:List α}(h:∀x∈l,plD (f x)=true):plAll (l.map f)=true:=by
 induction l with
 |nil=>rfl
 |cons x l ih =>
  show(plD (f x)&&plAll (l.map f))=true
  rw [h x (.head _),ih fun y hy=>h y (.tail _ hy)]
  rfl
theorem pl_least(m1:Rows1)(m2:Rows2):plD (leastD m1 m2)=true:=by
 show(plAll _&&(plAll _&&true))=true
 rw [plAll_map,plAll_map]
 ·rfl
 ·intro z hz
  obtain⟨f,hf⟩:=look_ex (srt_mem.mp hz)
  rw [rowF_of hf]
  show(true&&(plAll _&&(plD _&&true)))=true
  rw [plAll_map fun k _=>pl_kd k,pl_kd]
  rfl
 ·intro z hz
  obtain⟨f,hf⟩:=look_ex (srt_mem.mp hz)
  rw [rowK_of hf]
  show(true&&(plD _&&true))=true
  rw [pl_kd]
  rfl
def Lay(n:Nat)(d:PyData):Prop:=PyData.canLay0 d=true∧PyData.depth d≤n
theorem lay_all{n:Nat}:∀{ds:List PyData},(∀d∈ds,Lay n d)→PyData.canLayAll0 ds=true∧PyData.depthAll ds≤n
 |[],_=>⟨by simp [PyData.canLayAll0],by simp [PyData.depthAll]⟩
 |d::ds,h=>by
  obtain⟨a,b⟩:=h d (.head _)
  obtain⟨c,e⟩:=lay_all fun x hx=>h x (.tail _ hx)
  exact⟨by simp only [PyData.canLayAll0,a,c,Bool.and_self],by simp only [PyData.depthAll];exact Nat.max_le.mpr ⟨b,e⟩⟩
theorem lay_tup{n:Nat}{ds:List PyData}(h:∀d∈ds,Lay n d):Lay (n+1) (.tuple ds):=by
 obtain⟨a,b⟩:=lay_all h
 exact⟨by simp only [PyData.canLay0,a],by simp only [PyData.depth];omega⟩
theorem lay_lst{n:Nat}{ds:List PyData}(h:∀d∈ds,Lay n d):Lay (n+1) (.list ds):=by
 obtain⟨a,b⟩:=lay_all h
 exact⟨by simp only [PyData.canLay0,a],by simp only [PyData.depth];omega⟩
theorem lay_str{n:Nat}{z:Str}(h:PyData.strOk z=true):Lay n (.str z):=⟨by simp [PyData.canLay0,h],by simp [PyData.depth]⟩
theorem lay_shaped{n:Nat}{d:PyData}(h:Lay n d)(hn:n≤64):SeqAt.shaped d=true:=by
 unfold SeqAt.shaped
 rw [h.1,decide_eq_true (Nat.le_trans h.2 hn)]
 rfl
theorem lay_k{k:Kd}{n:Nat}(h:Kd.sm k)(hd:Kd.depth k≤n):Lay n (Kd.dat k):=⟨lay_kd (sm_ok h),Nat.le_trans (deep_kd k) hd⟩
theorem aa_leaf{m1:Rows1}{m2:Rows2}(W:WF m1 m2):∀n k,AA m1 n=some k→k.words≤9∧Kd.sm k:=fun n k e=>by
 unfold AA ownG at e
 split at e
 ·by_cases c:own m1 n.2=[]
  ·rw [lgiv_no c] at e;cases e
  ·obtain⟨M,h1,h2⟩:=min_ex _ c
   rw [lgiv_of W.nd1 h1 h2] at e
   rw [←Option.some.inj e]
   have hv:=W.w1 _ (own_mem.mp h1)
   exact⟨by show 1≤9;decide,e_ok,hv.sok,Nat.le_trans hv.2.1 (by decide)⟩
 ·cases e
theorem lay_least{m1:Rows1}{m2:Rows2}(W:WF m1 m2):Lay 22 (leastD m1 m2):=by
 have one:∀{k:Kd},KW m1 k→Lay 18 (Kd.dat (Kd.put (AA m1) k)):=fun {k} h=>lay_k (sm_put (fun n j e=>(aa_leaf W n j e).2) h.1) (by
  have:=depth_put9 (fun n j e=>(aa_leaf W n j e).1) k
  have:=h.depth
  omega)
 refine lay_tup (n:=21) fun d hd=>?_
 rcases List.mem_cons.mp hd with rfl|hd
 ·refine lay_tup (n:=20) fun d hd=>?_
  obtain⟨z,hz,rfl⟩:=List.mem_map.mp hd
  obtain⟨k,hk⟩:=look_ex (srt_mem.mp hz)
  rw [rowK_of hk]
  refine lay_tup (n:=19) fun d hd=>?_
  rcases List.mem_cons.mp hd with rfl|hd
  ·exact lay_str (W.w1 _ (look_in hk)).sok
  ·rw [List.mem_singleton.mp hd]
   obtain⟨a,b⟩:=one (W.kw hk)
   exact⟨a,Nat.le_succ_of_le b⟩
 ·rw [List.mem_singleton.mp hd]
  refine lay_tup (n:=20) fun d hd=>?_
  obtain⟨z,hz,rfl⟩:=List.mem_map.mp hd
  obtain⟨f,hf⟩:=look_ex (srt_mem.mp hz)
  rw [rowF_of hf]
  refine lay_tup (n:=19) fun d hd=>?_
  have hk:=W.kf hf
  rcases List.mem_cons.mp hd with rfl|hd
  ·exact lay_str (W.w2 _ (look_in hf)).sok
  ·rcases List.mem_cons.mp hd with rfl|hd
   ·refine lay_tup (n:=18) fun d hd=>?_
    obtain⟨k,hk',rfl⟩:=List.mem_map.mp hd
    obtain⟨j,hj,rfl⟩:=List.mem_map.mp hk'
    exact one (hk j (.tail _ hj))
   ·rw [List.mem_singleton.mp hd]
    obtain⟨a,b⟩:=one (hk _ (.head _))
    exact⟨a,Nat.le_succ_of_le b⟩
end K27
namespace K27
open PySem L2 Kk
def spLaw(K:PySem.W.Frag):Sp:=fun vs H Q _=>∃(a:Addr) (ns:List Int),vs=[.ref a]∧SqL K H a (ns.map V.int)∧ns.length≤63∧∀H',Q (.bl true) H'
structure LW(K:PySem.W.Frag)(CF:Addr)(H1:Hp)(kd fd od ofd op fa fb:Addr)(m1 n1:Rows1)(m2 n2:Rows2):Prop where
 f1:FcAt K H1 kd fd m1 m2
 f2:FcAt K H1 od ofd n1 n2
 tp:SqT K H1 op [.ref od,.ref ofd]
 a:FaceAt K H1 CF fa m1 m2
 b:FaceAt K H1 CF fb n1 n2
theorem LW.same{K:PySem.W.Frag}{CF:Addr}{H1 H2:Hp}{kd fd od ofd op fa fb:Addr}{m1 n1:Rows1}{m2 n2:Rows2}(s:Same H1 H2)(h:LW K CF H1 kd fd od ofd op fa fb m1 n1 m2 n2):LW K CF H2 kd fd od ofd op fa fb m1 n1 m2 n2:=⟨h.f1.same s,h.f2.same s,s.tup h.tp,h.a.same s,h.b.same s⟩
abbrev foD(m1 n1:Rows1)(m2 n2:Rows2):PyData:=.list [leastD m1 m2,leastD n1 n2]
def FoAt(K:PySem.W.Frag)(H:Hp)(lf:Addr)(m1 n1:Rows1)(m2 n2:Rows2):Prop:=∃x y,SqL K H lf [x,y]∧Dat K H x (leastD m1 m2)∧Dat K H y (leastD n1 n2)
theorem FoAt.same{K:PySem.W.Frag}{H H':Hp}{lf:Addr}{m1 n1:Rows1}{m2 n2:Rows2}(s:Same H H')(h:FoAt K H lf m1 n1 m2 n2):FoAt K H' lf m1 n1 m2 n2:=let ⟨x,y,a,b,c⟩:=h;⟨x,y,sql_same s a,b.same s,c.same s⟩
theorem FoAt.dat{K:PySem.W.Frag}{H:Hp}{lf:Addr}{m1 n1:Rows1}{m2 n2:Rows2}(h:FoAt K H lf m1 n1 m2 n2):Dat K H (.ref lf) (foD m1 n1 m2 n2):=let ⟨_,_,a,b,c⟩:=h;.lst a (.cons b (.cons c .nil))
theorem fo_shaped{m1 n1:Rows1}{m2 n2:Rows2}(W:WF m1 m2)(V:WF n1 n2):SeqAt.shaped (foD m1 n1 m2 n2)=true:=lay_shaped (n:=23) (lay_lst (n:=22) fun d hd=>by
 rcases List.mem_cons.mp hd with rfl|hd
 ·exact lay_least W
 ·rw [List.mem_singleton.mp hd];exact lay_least V) (by decide)
theorem eqv_self{d:PyData}(h:plD d=true):PyData.eqv d d=true:=(eqv_pl d d h h).mpr rfl
theorem pl_fo(m1 n1:Rows1)(m2 n2:Rows2):plD (foD m1 n1 m2 n2)=true:=by
 show(plD _&&(plD _&&true))=true
 rw [pl_least,pl_least]
 rfl
theorem ls_shaped{m1:Rows1}{m2:Rows2}(W:WF m1 m2):SeqAt.shaped (leastD m1 m2)=true:=lay_shaped (lay_least W) (by decide)
def itD(q:Str × Kd):PyData:=.tuple [.str q.1,Kd.dat q.2]
theorem it_shaped{m1:Rows1}{m2:Rows2}(W:WF m1 m2):SeqAt.shaped (.list (m1.map itD))=true:=lay_shaped (n:=12) (lay_lst (n:=11) fun d hd=>by
 obtain⟨q,hq,rfl⟩:=List.mem_map.mp hd
 refine lay_tup (n:=10) fun d hd=>?_
 rcases List.mem_cons.mp hd with rfl|hd
 ·exact lay_str (W.w1 q hq).sok
 ·rw [List.mem_singleton.mp hd]
  have h:=W.k1 q hq
  exact lay_k h.1 (by have:=h.depth;omega)) (by decide)
theorem pl_it(m1:Rows1):plD (.list (m1.map itD))=true:=plAll_map fun q _=>by
 show(true&&(plD _&&true))=true
 rw [pl_kd]
 rfl
theorem its_dat{K:PySem.W.Frag}{H:Hp}:∀{kvs:List (Key × V)} {m:Rows1} {as:List Addr},PkAt (KdAt K H) kvs m→Paired (fun(p:Key × V) (k:Addr)=>H k=some (.tup [kV p.1,p.2])) kvs as→Dats K H (as.map V.ref) (m.map itD)
 |[],[],[],.nil,.nil=>.nil
 |p::ps,q::qs,b::bs,.cons ⟨e,h⟩ t,.cons a r=>by
  have a':H b=some (HO.tup [V.str q.1,p.2]):=by
   have e:p.1=.inr q.1:=e
   rw [a,e]
   rfl
  exact .cons (.tup (SqT.of a') (.cons (.str _) (.cons (kd_dat h) .nil))) (its_dat t r)
theorem kd_same{K:PySem.W.Frag}{H:Hp}{ka kb:List (Key × V)}{m:Rows1}(ha:PkAt (KdAt K H) ka m)(hb:PkAt (KdAt K H) kb m)(hm:∀q∈m,Kd.sm q.2∧Kd.depth q.2≤60):Paired (fun(p q:Key × V)=>p.1=q.1∧DatSame K H p.2 q.2) ka kb:=by
 unfold PkAt at ha hb
 induction ha generalizing kb with
 |nil=>cases hb;exact .nil
 |@cons p q ps qs a _ ih =>
  cases hb with
  |cons b rb =>
   obtain⟨h1,h2⟩:=hm q (.head _)
   refine .cons ⟨a.1.trans b.1.symm,_,_,kd_dat a.2,kd_dat b.2,kd_shaped (sm_ok h1) h2,kd_shaped (sm_ok h1) h2,by rw [eqv_dat];exact decide_eq_true rfl⟩ (ih rb fun x hx=>hm x (.tail _ hx))
theorem fn_same{K:PySem.W.Frag}{H:Hp}{ka kb:List (Key × V)}{m:Rows2}(ha:PkAt (FunAt K H) ka m)(hb:PkAt (FunAt K H) kb m)(hm:∀q∈m,q.2.1.length≤4∧∀k∈q.2.2::q.2.1,Kd.sm k∧Kd.depth k≤50):Paired (fun(p q:Key × V)=>p.1=q.1∧DatSame K H p.2 q.2) ka kb:=by
 unfold PkAt at ha hb
 induction ha generalizing kb with
 |nil=>cases hb;exact .nil
 |@cons p q ps qs a _ ih =>
  cases hb with
  |cons b rb =>
   obtain⟨h1,h2⟩:=hm q (.head _)
   have sh:=fn_shaped (f:=q.2) (fun k hk=>⟨sm_ok (h2 k hk).1,(h2 k hk).2⟩) h1
   refine .cons ⟨a.1.trans b.1.symm,_,_,fn_dat a.2,fn_dat b.2,sh,sh,by rw [eqv_fn];exact decide_eq_true rfl⟩ (ih rb fun x hx=>hm x (.tail _ hx))
def NoTup(o:HO):Prop:=∀ys,o≠.tup ys∧∀ob,o≠.frz ob (.tup ys)
theorem nt_dK{kv:List (Key × V)}:NoTup (.dK kv):=fun _=>⟨fun z=>(nomatch z),fun _ z=>(nomatch z)⟩
theorem nt_lst{xs:List V}:NoTup (.lst xs):=fun _=>⟨fun z=>(nomatch z),fun _ z=>(nomatch z)⟩
def NtS(H:Hp)(S:List Addr):Prop:=∀b∈S,∃o,H b=some o∧NoTup o
theorem nt_cons{H:Hp}{S:List Addr}{b:Addr}{o:HO}(h:H b=some o)(n:NoTup o)(r:NtS H S):NtS H (b::S):=fun c hc=>by
 rcases List.mem_cons.mp hc with rfl|hc
 ·exact⟨o,h,n⟩
 ·exact r c hc
theorem nt_nil{H:Hp}:NtS H []:=fun _ h=>nomatch h
theorem zo_tup{H:Hp}{S:List Addr}{a:Addr}{xs:List V}(h:NtS H S)(t:H a=some (.tup xs)):zo H S a=some (.tup xs):=by
 rw [zo_ne fun z=>?_]
 ·exact t
 ·obtain⟨o,e,n⟩:=h a z
  rw [t] at e
  exact(n xs).1 (Option.some.inj e).symm
theorem zo_sqt{K:PySem.W.Frag}{H:Hp}{S:List Addr}(h:NtS H S){a:Addr}{xs:List V}(t:SqT K H a xs):SqT K (zo H S) a xs:=by
 rcases t with (t|⟨ob,t⟩)|t
 ·exact .inl (.inl (zo_tup h t))
 ·refine .inl (.inr ⟨ob,?_⟩)
  rw [zo_ne fun z=>?_]
  ·exact t
  ·obtain⟨o,e,n⟩:=h a z
   rw [t] at e
   exact(n xs).2 ob (Option.some.inj e).symm
 ·exact .inr t
def IvL(K:PySem.W.Frag)(d wl cl kd fd:Addr)(ws fs:List Str)(m1:Rows1)(m2:Rows2)(mn:Int)(y0:Option V)(i:Nat)(σ:St)(H2:Hp):Prop:=∃(od ofd op:Addr) (n1:Rows1) (n2:Rows2) (y8:Option V),σ=[y0,some (.ref d),some (.ref wl),some (.ref cl),some (.ref kd),some (.ref fd),some (.ref op),some (.int mn),y8,none,none,none]∧DL H2 d∧H2 wl=some (.lst (ws.map V.str))∧H2 cl=some (.lst (fs.map V.str))∧FcAt K H2 kd fd m1 m2∧FcAt K H2 od ofd n1 n2∧SqT K H2 op [.ref od,.ref ofd]∧WF n1 n2∧od≠ofd∧kd≠od∧kd≠ofd∧fd≠od∧fd≠ofd∧(i=0→leastD n1 n2=leastD m1 m2)
theorem sql_go{K:PySem.W.Frag}{H H1 H2:Hp}{a d:Addr}{xs:List V}(s:Same H H1)(h:SqL K H a xs)(hd:H d=none)(g:Go d H1 H2):SqL K H2 a xs:=by
 rcases h with (h|⟨o,h⟩)|h
 ·exact .inl (.inl (g.at (fun e=>by rw [e,hd] at h;cases h) (s _ _ h)))
 ·exact .inl (.inr ⟨o,g.at (fun e=>by rw [e,hd] at h;cases h) (s _ _ h)⟩)
 ·exact .inr h
theorem ite_share{c A B:Prop}[Decidable c](h:c→B→A)(b:B):if c then A else B:=by
 by_cases e:c
 ·rw [if_pos e];exact h e b
 ·rw [if_neg e];exact b
theorem hu70_of{A:Around}{k:Nat}(hr:Room k A):A.units+70 < cLine:=by have:=hr.un;omega
section
variable{P:Program}{w:World}{K:PySem.W.Frag}{mg:Str→Option Value}{base:Heap}
theorem scLaw:FnScope ["_law_script","_law_deal_here","_law_words_here","_law_calls","_law_kinds","_law_funs","_law_other","_law_many","_law_k","_law_one","_law_second","_law_found"] ["_law_script"] (defScope sLaw):=⟨rfl,rfl,rfl,by decide +kernel,rfl,by decide +kernel,by decide +kernel⟩
set_option maxHeartbeats 0 in
theorem ok_law{f fA fD fV fF fT fH fM fL fU fI CF:Addr}{fd' fdA fdD fdV fdF fdT fdH fdM fdL fdU fdI:FuncData} (F:Fun K "law" "law" sLaw f fd') (mr:mg "range"=none) (ms:mg "sorted"=none) (mli:mg "list"=none)
  (GA:FnOk P w K mg base CX0 1 fA fdA ["_law_script","_law_k"] (spDeal K)) (bA:Binds K fdA ["_law_script","_law_k"] []) (kA:PySem.W.keepIn K (.ref fA)=true) (mA:mg "_law_deal"=some (.ref fA))
  (GD:FnOk P w K mg base CX0 1 fD fdD ["_law_deal_here","_law_many"] spDraw) (bD:Binds K fdD ["_law_deal_here","_law_many"] []) (kD:PySem.W.keepIn K (.ref fD)=true) (mD:mg "_law_draw"=some (.ref fD))
  (GV:FnOk P w K mg base CX0 3 fV fdV ["_law_deal_here","_law_many"] (spWordsL K)) (bV:Binds K fdV ["_law_deal_here","_law_many"] []) (kVV:PySem.W.keepIn K (.ref fV)=true) (mV:mg "_law_words"=some (.ref fV))
  (GF:FnOk P w K mg base CX0 20 fF fdF ["_law_deal_here","_law_words_here","_law_calls","_law_room"] (spFaceL K)) (bF:Binds K fdF ["_law_deal_here","_law_words_here","_law_calls","_law_room"] []) (kF:PySem.W.keepIn K (.ref fF)=true) (mF:mg "_law_face"=some (.ref fF))
  (GT:FnOk P w K mg base CX0 11 fT fdT ["_law_deal_here","_law_kinds","_law_funs"] (spTurned K)) (bT:Binds K fdT ["_law_deal_here","_law_kinds","_law_funs"] []) (kT:PySem.W.keepIn K (.ref fT)=true) (mT:mg "_law_turned"=some (.ref fT))
  (GH:FnOk P w K mg base CX0 20 fH fdH ["_law_deal_here","_law_face_here"] (spChanged K)) (bH:Binds K fdH ["_law_deal_here","_law_face_here"] []) (kH:PySem.W.keepIn K (.ref fH)=true) (mH:mg "_law_changed"=some (.ref fH))
  (GM:FnOk P w K mg base CX0 11 fM fdM ["_law_kinds","_law_funs"] (spLeastL K)) (bM:Binds K fdM ["_law_kinds","_law_funs"] []) (kM:PySem.W.keepIn K (.ref fM)=true) (mM:mg "_law_least"=some (.ref fM))
  (GL:FnOk P w K mg base CX0 11 fL fdL ["face"] (spLeast K CF 9)) (bL:Binds K fdL ["face"] []) (kL:PySem.W.keepIn K (.ref fL)=true) (mL:mg "least"=some (.ref fL))
  (GU:FnOk P w K mg base CX0 13 fU fdU ["one","other"] (spUnder K CF 9)) (bU:Binds K fdU ["one","other"] []) (kU:PySem.W.keepIn K (.ref fU)=true) (mU:mg "under"=some (.ref fU))
  (GI:FnOk P w K mg base CX0 1 fI fdI ["self","kinds","funs"] (spInitF CF)) (bI:Binds K fdI ["self","kinds","funs"] []) (MF:Mk K CF fI) (mFace:mg "Face"=some (.ref CF)) (cF:L2.Cls K CF) (nK:NoAttr K CF "kinds") (nF:NoAttr K CF "funs") :
  FnOk P w K mg base CX0 21 f fd' ["_law_script"] (spLaw K):=by
 refine F.ok (k:=20) scLaw (fun vs H Q E h=>?_) (fun cdv A outer s H vs Q E hrF h=>?_)
 ·obtain⟨_,_,rfl,_⟩:=h
  rfl
 obtain⟨a,ns,rfl,hS,h63,q⟩:=h
 have hu:=hu_of hrF
 have hu64:=hrF.units
 have hu70:=hu70_of hrF
 have hrA:Room 1 _:=hrF.mono (by decide)
 have hrD:Room 1 _:=hrF.mono (by decide)
 have hrV:Room 3 _:=hrF.mono (by decide)
 have hrT:Room 11 _:=hrF.mono (by decide)
 have hrH:=hrF
 have hrM:Room 11 _:=hrF.mono (by decide)
 have hrL:Room 11 _:=hrF.mono (by decide)
 have hrU:Room 13 _:=hrF.mono (by decide)
 have hrI:Room (1+1) _:=hrF.mono (by decide)
 obtain⟨tR,dR,kR⟩:∃t,PSs (cxOf CX0 P w K mg base ["_law_script","_law_deal_here","_law_words_here","_law_calls","_law_kinds","_law_funs","_law_other","_law_many","_law_k","_law_one","_law_second","_law_found"] "law" (defScope sLaw) f cdv A outer s H E).nox (List.drop 15 (defBody sLaw)) t ∧
   ∀(H1:Hp) (kd fd od ofd op fa fb lf:Addr) (m1 n1:Rows1) (m2 n2:Rows2) (y0 y1 y2 y3 y7 y8:Option V),LW K CF H1 kd fd od ofd op fa fb m1 n1 m2 n2→WF m1 m2→WF n1 n2→FoAt K H1 lf m1 n1 m2 n2→t { nx:=fun _ H'=>Q .non H',rt:=Q } [y0,y1,y2,y3,some (.ref kd),some (.ref fd),some (.ref op),y7,y8,some (.ref fa),some (.ref fb),some (.ref lf)] H1:=by
  refine⟨_,@pss_one _ _ _ (@ps_ret _ _ _ _ (pe_and (pe_cmpR (op_eqDat hu70) (pe_fld (pv 10) rfl) (pe_ix ix_tup (pv 6) pe_int (fun _ _=>rfl)) (nomark _)) (pe_and (pe_cmpR (op_eqDat hu70) (pe_fld (pv 10) rfl) (pe_ix ix_tup (pv 6) pe_int (fun _ _=>rfl)) (nomark _)) (pe_and (pe_cmpR (op_eqD hu64) (pe_call GL hrL rfl mL kL bL .nil pass0 (@pa_cons _ _ _ _ _ (pv 9) pa_nil rfl)) (pe_ix ix_list (pv 11) pe_int (fun _ _=>rfl)) (nomark _)) (pe_one (pe_call GU hrU rfl mU kU bU .nil pass0 (@pa_cons _ _ _ _ _ (pv 9) (@pa_cons _ _ _ _ _ (pv 9) pa_nil rfl) rfl))))))),?_⟩
  intro H1 kd fd od ofd op fa fb lf m1 n1 m2 n2 y0 y1 y2 y3 y7 y8 L Wm Wn fo
  obtain⟨bx,b1,b2,bfs,bk1,bk2,B⟩:=L.b
  obtain⟨ok1,ok2,ho1,ho2,po1,po2⟩:=L.f2
  have e1:Paired (fun(p q:Key × V)=>p.1=q.1∧DatSame K H1 p.2 q.2) bk1 ok1:=kd_same B.p1 po1 fun q hq=>⟨(Wn.k1 q hq).1,by have:=(Wn.k1 q hq).depth;omega⟩
  have e2:Paired (fun(p q:Key × V)=>p.1=q.1∧DatSame K H1 p.2 q.2) bk2 ok2:=fn_same B.p2 po2 fun q hq=>⟨(Wn.k2 q hq).1,fun k hk=>⟨((Wn.k2 q hq).2 k hk).1,by have:=((Wn.k2 q hq).2 k hk).depth;omega⟩⟩
  obtain⟨x,y,fl,fx,fy⟩:=fo
  refine⟨_,rfl,fb,CF,bx,bfs,_,rfl,B.obj,cF,nK,B.fk,_,rfl,op,_,_,_,rfl,rfl,L.tp,at0,b1,od,bk1,ok1,rfl,rfl,B.h1,ho1,e1,_,rfl,iteT ?_⟩
  refine⟨_,rfl,fb,CF,bx,bfs,_,rfl,B.obj,cF,nF,B.ff,_,rfl,op,_,_,_,rfl,rfl,L.tp,at1,b2,ofd,bk2,ok2,rfl,rfl,B.h2,ho2,e2,_,rfl,iteT ?_⟩
  refine⟨_,rfl,fa,m1,m2,rfl,L.a,Wm.n1,Wm.n2,fun q hq=>(Wm.k1 q hq).depth,fun q hq=>⟨(Wm.k2 q hq).1,fun k hk=>((Wm.k2 q hq).2 k hk).depth⟩,fun H2 v s2 hv=>?_⟩
  refine⟨_,rfl,lf,_,_,_,rfl,rfl,sql_same s2 fl,at0,_,_,hv,fx.same s2,ls_shaped Wm,ls_shaped Wm,_,rfl,?_⟩
  show if PyData.eqv (leastD m1 m2) (leastD m1 m2)=true then _ else _
  rw [eqv_self (pl_least m1 m2)]
  refine iteT ⟨_,rfl,_,rfl,fa,fa,m1,m1,m2,m2,rfl,L.a.same s2,L.a.same s2,two_of Wm Wm,fun H3 s3=>?_⟩
  rw [((least_fits Wm Wm).mp rfl).1]
  exact q H3
 obtain⟨t14,d14,k14⟩:∃t,PSs (cxOf CX0 P w K mg base ["_law_script","_law_deal_here","_law_words_here","_law_calls","_law_kinds","_law_funs","_law_other","_law_many","_law_k","_law_one","_law_second","_law_found"] "law" (defScope sLaw) f cdv A outer s H E).nox (List.drop 14 (defBody sLaw)) t ∧
   ∀(H1:Hp) (kd fd od ofd op fa fb lf:Addr) (m1 n1:Rows1) (m2 n2:Rows2) (mn:Int) (y0 y1 y2 y3 y8:Option V),LW K CF H1 kd fd od ofd op fa fb m1 n1 m2 n2→WF m1 m2→WF n1 n2→FoAt K H1 lf m1 n1 m2 n2→(mn=0→leastD n1 n2=leastD m1 m2)→t { nx:=fun _ H'=>Q .non H',rt:=Q } [y0,y1,y2,y3,some (.ref kd),some (.ref fd),some (.ref op),some (.int mn),y8,some (.ref fa),some (.ref fb),some (.ref lf)] H1:=by
  refine⟨_,@pss_cons _ _ _ _ _ (ps_if (PW.pt (pw_or (PW.pt (pw_and (pt_cmpR op_eq (pv 7) pe_int (nomark _)) (pw_and1 (pt_cmpR (op_neD hu64) (pe_ix ix_list (pv 11) pe_int (fun _ _=>rfl)) (pe_ix ix_list (pv 11) pe_int (fun _ _=>rfl)) (nomark _))))) (pw_or1 (pt_cmpR (op_neD hu64) (pe_callTy (call_list_items rfl) rfl mli bootList (@pa_cons _ _ _ _ _ (pe_bm0 PySem.F.plainAttrs_dict PySem.F.slot_dict_items PySem.F.type_dict_items mt_items (pe_fld (pv 9) rfl)) pa_nil rfl)) (pe_callTy (call_list_items rfl) rfl mli bootList (@pa_cons _ _ _ _ _ (pe_bm0 PySem.F.plainAttrs_dict PySem.F.slot_dict_items PySem.F.type_dict_items mt_items (pv 4)) pa_nil rfl)) (nomark _))))) (@pss_one _ _ _ (@ps_ret _ _ _ _ pe_bl)) pss_nil) dR,?_⟩
  intro H1 kd fd od ofd op fa fb lf m1 n1 m2 n2 mn y0 y1 y2 y3 y8 L Wm Wn fo hmn
  obtain⟨ax,a1,a2,afs,ak1,ak2,A'⟩:=L.a
  obtain⟨kv1,kv2,hk1,hk2,pk1,pk2⟩:=L.f1
  obtain⟨x,y,fl,fx,fy⟩:=id fo
  refine⟨_,rfl,rfl,_,rfl,ite_share (fun c hB=>?_) ?_⟩
  ·have e0:mn=0:=by have:=of_decide_eq_true c;injection this
   refine⟨_,rfl,lf,_,_,_,rfl,rfl,fl,at0,_,rfl,lf,_,_,_,rfl,rfl,fl,at1,_,_,fx,fy,ls_shaped Wm,ls_shaped Wn,_,rfl,?_⟩
   show if (!PyData.eqv (leastD m1 m2) (leastD n1 n2))=true then _ else _
   rw [(eqv_pl _ _ (pl_least m1 m2) (pl_least n1 n2)).mpr (hmn e0).symm]
   exact iteF hB
  ·refine⟨_,rfl,fa,CF,ax,afs,_,rfl,A'.obj,cF,nK,A'.fk,.inr (.inr (.inl ⟨rfl,.inl ⟨_,A'.h1⟩⟩)),a1,ak1,rfl,rfl,A'.h1,fun v hv=>?_⟩
   have sv:=same_new hv (.ext (itemsAt v a1))
   refine⟨v,a1,ak1,rfl,upd_same,sv _ _ A'.h1,fun H2 as l s2 hl0 _ hl2 has=>?_⟩
   have s12:Same H1 H2:=fun b u hb=>s2 b u (sv _ _ hb)
   have D1:Dat K H2 (.ref l) (.list (m1.map itD)):=.lst (SqL.of hl2) (its_dat (A'.p1.imp fun _ _ t=>t.same s12) has)
   refine⟨_,rfl,.inr (.inr (.inl ⟨rfl,.inl ⟨_,s12 _ _ hk1⟩⟩)),kd,kv1,rfl,rfl,s12 _ _ hk1,fun v2 hv2=>?_⟩
   have sv2:=same_new hv2 (.ext (itemsAt v2 kd))
   refine⟨v2,kd,kv1,rfl,upd_same,sv2 _ _ (s12 _ _ hk1),fun H3 as3 l3 s3 hl30 _ hl3 has3=>?_⟩
   have s23:Same H2 H3:=fun b u hb=>s3 b u (sv2 _ _ hb)
   have D2:Dat K H3 (.ref l3) (.list (m1.map itD)):=.lst (SqL.of hl3) (its_dat (pk1.imp fun _ _ t=>t.same (s12.trans s23)) has3)
   refine⟨_,_,D1.same s23,D2,it_shaped Wm,it_shaped Wm,_,rfl,?_⟩
   show if (!PyData.eqv (.list (m1.map itD)) (.list (m1.map itD)))=true then _ else _
   rw [eqv_self (pl_it m1)]
   have s13:=s12.trans s23
   exact iteF (kR H3 kd fd od ofd op fa fb lf m1 n1 m2 n2 _ _ _ _ _ _ (L.same s13) Wm Wn (fo.same s13))
 obtain⟨t13,d13,k13⟩:∃t,PSs (cxOf CX0 P w K mg base ["_law_script","_law_deal_here","_law_words_here","_law_calls","_law_kinds","_law_funs","_law_other","_law_many","_law_k","_law_one","_law_second","_law_found"] "law" (defScope sLaw) f cdv A outer s H E).nox (List.drop 13 (defBody sLaw)) t ∧
   ∀(H1:Hp) (kd fd od ofd op fa fb lf:Addr) (m1 n1:Rows1) (m2 n2:Rows2) (mn:Int) (y0 y1 y2 y3 y8:Option V),LW K CF H1 kd fd od ofd op fa fb m1 n1 m2 n2→WF m1 m2→WF n1 n2→FoAt K H1 lf m1 n1 m2 n2→(mn=0→leastD n1 n2=leastD m1 m2)→t { nx:=fun _ H'=>Q .non H',rt:=Q } [y0,y1,y2,y3,some (.ref kd),some (.ref fd),some (.ref op),some (.int mn),y8,some (.ref fa),some (.ref fb),some (.ref lf)] H1:=by
  refine⟨_,@pss_cons _ _ _ _ _ (ps_if (pt_cmpR op_ne (pe_cmpR (op_eqD hu64) (pe_ix ix_list (pv 11) pe_int (fun _ _=>rfl)) (pe_ix ix_list (pv 11) pe_int (fun _ _=>rfl)) (nomark _)) (pe_and (pe_call GU hrU rfl mU kU bU .nil pass0 (@pa_cons _ _ _ _ _ (pv 9) (@pa_cons _ _ _ _ _ (pv 10) pa_nil rfl) rfl)) (pe_one (pe_call GU hrU rfl mU kU bU .nil pass0 (@pa_cons _ _ _ _ _ (pv 10) (@pa_cons _ _ _ _ _ (pv 9) pa_nil rfl) rfl)))) (nomark _)) (@pss_one _ _ _ (@ps_ret _ _ _ _ pe_bl)) pss_nil) d14,?_⟩
  intro H1 kd fd od ofd op fa fb lf m1 n1 m2 n2 mn y0 y1 y2 y3 y8 L Wm Wn fo hmn
  obtain⟨x,y,fl,fx,fy⟩:=id fo
  have key:=least_fits Wm Wn
  have go:∀H2,Same H1 H2→t14 { nx:=fun _ H'=>Q .non H',rt:=Q } [y0,y1,y2,y3,some (.ref kd),some (.ref fd),some (.ref op),some (.int mn),y8,some (.ref fa),some (.ref fb),some (.ref lf)] H2:=fun H2 s=>k14 H2 kd fd od ofd op fa fb lf m1 n1 m2 n2 mn _ _ _ _ _ (L.same s) Wm Wn (fo.same s) hmn
  refine⟨_,rfl,lf,_,_,_,rfl,rfl,fl,at0,_,rfl,lf,_,_,_,rfl,rfl,fl,at1,_,_,fx,fy,ls_shaped Wm,ls_shaped Wn,?_⟩
  refine⟨_,rfl,_,rfl,fa,fb,m1,n1,m2,n2,rfl,L.a,L.b,two_of Wm Wn,fun H2 s2=>⟨_,rfl,?_⟩⟩
  have heq:PyData.eqv (leastD m1 m2) (leastD n1 n2)=true↔fitR m1 n1 m2 n2=none∧fitR n1 m1 n2 m2=none:=(eqv_pl _ _ (pl_least m1 m2) (pl_least n1 n2)).trans key
  cases f1:fitR m1 n1 m2 n2 with
  |some r =>
   have en:PyData.eqv (leastD m1 m2) (leastD n1 n2)=false:=by
    cases e:PyData.eqv (leastD m1 m2) (leastD n1 n2) with
    |false=>rfl
    |true=>rw [(heq.mp e).1] at f1;cases f1
   refine iteF ⟨rfl,_,rfl,?_⟩
   show if (!decide (V.bl (PyData.eqv (leastD m1 m2) (leastD n1 n2))=V.bl false))=true then _ else _
   rw [en]
   exact iteF (go H2 s2)
  |none =>
   refine iteT ⟨_,rfl,_,rfl,fb,fa,n1,m1,n2,m2,rfl,L.b.same s2,L.a.same s2,two_of Wn Wm,fun H3 s3=>⟨rfl,_,rfl,?_⟩⟩
   show if (!decide (V.bl (PyData.eqv (leastD m1 m2) (leastD n1 n2))=V.bl (fitR n1 m1 n2 m2).isNone))=true then _ else _
   have en:PyData.eqv (leastD m1 m2) (leastD n1 n2)=(fitR n1 m1 n2 m2).isNone:=by
    rw [Bool.eq_iff_iff,heq,Option.isNone_iff_eq_none]
    exact⟨fun h=>h.2,fun h=>⟨f1,h⟩⟩
   rw [en,decide_eq_true rfl]
   exact iteF (go H3 (s2.trans s3))
 obtain⟨t12,d12,k12⟩:∃t,PSs (cxOf CX0 P w K mg base ["_law_script","_law_deal_here","_law_words_here","_law_calls","_law_kinds","_law_funs","_law_other","_law_many","_law_k","_law_one","_law_second","_law_found"] "law" (defScope sLaw) f cdv A outer s H E).nox (List.drop 12 (defBody sLaw)) t ∧
   ∀(H1:Hp) (kd fd od ofd op fa fb lf:Addr) (m1 n1:Rows1) (m2 n2:Rows2) (mn:Int) (y0 y1 y2 y3 y8:Option V),LW K CF H1 kd fd od ofd op fa fb m1 n1 m2 n2→WF m1 m2→WF n1 n2→FoAt K H1 lf m1 n1 m2 n2→(mn=0→leastD n1 n2=leastD m1 m2)→t { nx:=fun _ H'=>Q .non H',rt:=Q } [y0,y1,y2,y3,some (.ref kd),some (.ref fd),some (.ref op),some (.int mn),y8,some (.ref fa),some (.ref fb),some (.ref lf)] H1:=by
  refine⟨_,@pss_cons _ _ _ _ _ (ps_if (pt_cmpR (op_neD hu64) (pv 11) (pe_lst (@pa_cons _ _ _ _ _ (pe_call GM hrM rfl mM kM bM .nil pass0 (@pa_cons _ _ _ _ _ (pv 4) (@pa_cons _ _ _ _ _ (pv 5) pa_nil rfl) rfl)) (@pa_cons _ _ _ _ _ (pe_call GM hrM rfl mM kM bM .nil pass0 (@pa_cons _ _ _ _ _ (pe_ix ix_tup (pv 6) pe_int (fun _ _=>rfl)) (@pa_cons _ _ _ _ _ (pe_ix ix_tup (pv 6) pe_int (fun _ _=>rfl)) pa_nil rfl) rfl)) pa_nil rfl) rfl)) (nomark _)) (@pss_one _ _ _ (@ps_ret _ _ _ _ pe_bl)) pss_nil) d13,?_⟩
  intro H1 kd fd od ofd op fa fb lf m1 n1 m2 n2 mn y0 y1 y2 y3 y8 L Wm Wn fo hmn
  refine⟨_,rfl,_,rfl,_,rfl,kd,fd,m1,m2,rfl,L.f1,Wm,fun H2 v s2 hv=>?_⟩
  have L2':=L.same s2
  refine⟨_,rfl,op,_,_,_,rfl,rfl,L2'.tp,at0,_,rfl,op,_,_,_,rfl,rfl,L2'.tp,at1,od,ofd,n1,n2,rfl,L2'.f2,Wn,fun H3 v2 s3 hv2=>⟨(by show 2≤sizeLine;decide),fun l hl=>?_⟩⟩
  have s4:=same_new hl (.lst [v,v2])
  have s14:=s2.trans (s3.trans s4)
  have D:Dat K (upd H3 l (.lst [v,v2])) (.ref l) (foD m1 n1 m2 n2):=.lst (SqL.of upd_same) (.cons ((hv.same s3).same s4) (.cons (hv2.same s4) .nil))
  refine⟨_,_,(fo.same s14).dat,D,fo_shaped Wm Wn,fo_shaped Wm Wn,_,rfl,?_⟩
  show if (!PyData.eqv (foD m1 n1 m2 n2) (foD m1 n1 m2 n2))=true then _ else _
  rw [eqv_self (pl_fo m1 n1 m2 n2)]
  exact iteF (k13 _ kd fd od ofd op fa fb lf m1 n1 m2 n2 mn _ _ _ _ _ (L.same s14) Wm Wn (fo.same s14) hmn)
 obtain⟨t9,d9,k9⟩:∃t,PSs (cxOf CX0 P w K mg base ["_law_script","_law_deal_here","_law_words_here","_law_calls","_law_kinds","_law_funs","_law_other","_law_many","_law_k","_law_one","_law_second","_law_found"] "law" (defScope sLaw) f cdv A outer s H E).nox (List.drop 9 (defBody sLaw)) t ∧
   ∀(H1:Hp) (kd fd od ofd op:Addr) (m1 n1:Rows1) (m2 n2:Rows2) (mn:Int) (y0 y1 y2 y3 y8:Option V),FcAt K H1 kd fd m1 m2→FcAt K H1 od ofd n1 n2→SqT K H1 op [.ref od,.ref ofd]→WF m1 m2→WF n1 n2→(mn=0→leastD n1 n2=leastD m1 m2)→t { nx:=fun _ H'=>Q .non H',rt:=Q } [y0,y1,y2,y3,some (.ref kd),some (.ref fd),some (.ref op),some (.int mn),y8,none,none,none] H1:=by
  refine⟨_,@pss_cons _ _ _ _ _ (ps_set (i:=9) scLaw.nd rfl (Or.inl rfl) (pe_make MF GI hrI (by rfl) mFace bI .nil pass0 (@pa_cons _ _ _ _ _ (pv 4) (@pa_cons _ _ _ _ _ (pv 5) pa_nil rfl) rfl))) (@pss_cons _ _ _ _ _ (ps_set (i:=10) scLaw.nd rfl (Or.inl rfl) (pe_make MF GI hrI (by rfl) mFace bI .nil pass0 (@pa_cons _ _ _ _ _ (pe_ix ix_tup (pv 6) pe_int (fun _ _=>rfl)) (@pa_cons _ _ _ _ _ (pe_ix ix_tup (pv 6) pe_int (fun _ _=>rfl)) pa_nil rfl) rfl))) (@pss_cons _ _ _ _ _ (ps_set (i:=11) scLaw.nd rfl (Or.inl rfl) (pe_lst (@pa_cons _ _ _ _ _ (pe_call GL hrL rfl mL kL bL .nil pass0 (@pa_cons _ _ _ _ _ (pv 9) pa_nil rfl)) (@pa_cons _ _ _ _ _ (pe_call GL hrL rfl mL kL bL .nil pass0 (@pa_cons _ _ _ _ _ (pv 10) pa_nil rfl)) pa_nil rfl) rfl))) d12)),?_⟩
  intro H1 kd fd od ofd op m1 n1 m2 n2 mn y0 y1 y2 y3 y8 F1 F2 tp Wm Wn hmn
  obtain⟨kv1,kv2,hk1,hk2,pk1,pk2⟩:=id F1
  refine⟨_,rfl,_,rfl,fun x dx nx ndx nex=>?_⟩
  have ea:=same_new ndx (.own x)
  have nx':upd H1 dx (.own x) x=none:=by rw [upd_ne (Ne.symm nex)];exact nx
  have eab:=ea.trans (same_new nx' (.ins CF dx []))
  refine⟨x,dx,kd,fd,kv1,kv2,rfl,upd_same,eab _ _ hk1,eab _ _ hk2,fun d e fs H7 hd he nde hx lk lf lh lp hd7 he7 keep=>⟨rfl,?_⟩⟩
  have s7:Same H1 H7:=fun b o hb=>keep b o (eab _ _ hb) (fun z=>by rw [z,nx] at hb;cases hb)
  have FA:FaceAt K H7 CF x m1 m2:=⟨dx,d,e,fs,kv1,kv2,⟨hx,lk,lf,hd7,he7,pk1.imp fun v y h=>h.same s7,pk2.imp fun v y h=>fn_keep (fun b zs t=>s7.tup t) h,lh,lp⟩⟩
  clear eab ea nx' keep hx lk lf lh lp hd7 he7 hd he nde
  have F2':=F2.same s7
  have tp7:=s7.tup tp
  obtain⟨ok1,ok2,ho1,ho2,po1,po2⟩:=id F2'
  refine⟨_,rfl,op,_,_,_,rfl,rfl,tp7,at0,_,rfl,op,_,_,_,rfl,rfl,tp7,at1,fun y dy ny ndy ney=>?_⟩
  have ea:=same_new ndy (.own y)
  have ny':upd H7 dy (.own y) y=none:=by rw [upd_ne (Ne.symm ney)];exact ny
  have eab:=ea.trans (same_new ny' (.ins CF dy []))
  refine⟨y,dy,od,ofd,ok1,ok2,rfl,upd_same,eab _ _ ho1,eab _ _ ho2,fun d e fs H8 hd he nde hx lk lf lh lp hd8 he8 keep=>⟨rfl,?_⟩⟩
  have s8:Same H7 H8:=fun b o hb=>keep b o (eab _ _ hb) (fun z=>by rw [z,ny] at hb;cases hb)
  have FB:FaceAt K H8 CF y n1 n2:=⟨dy,d,e,fs,ok1,ok2,⟨hx,lk,lf,hd8,he8,po1.imp fun v y h=>h.same s8,po2.imp fun v y h=>fn_keep (fun b zs t=>s8.tup t) h,lh,lp⟩⟩
  clear eab ea ny' keep hx lk lf lh lp hd8 he8 hd he nde
  have L:LW K CF H8 kd fd od ofd op x y m1 n1 m2 n2:=⟨F1.same (s7.trans s8),F2'.same s8,s8.tup tp7,FA.same s8,FB⟩
  refine⟨_,rfl,x,m1,m2,rfl,L.a,Wm.n1,Wm.n2,(fun q hq=>(Wm.k1 q hq).depth),(fun q hq=>⟨(Wm.k2 q hq).1,fun k hk=>((Wm.k2 q hq).2 k hk).depth⟩),fun H9 v s9 hv=>?_⟩
  refine⟨_,rfl,y,n1,n2,rfl,L.b.same s9,Wn.n1,Wn.n2,(fun q hq=>(Wn.k1 q hq).depth),(fun q hq=>⟨(Wn.k2 q hq).1,fun k hk=>((Wn.k2 q hq).2 k hk).depth⟩),fun H10 v2 s10 hv2=>⟨(by show 2≤sizeLine;decide),fun lf hlf=>?_⟩⟩
  have s11:=same_new hlf (.lst [v,v2])
  have s8':=s9.trans (s10.trans s11)
  exact k12 _ kd fd od ofd op x y lf m1 n1 m2 n2 mn _ _ _ _ _ (L.same s8') Wm Wn ⟨v,v2,SqL.of upd_same,(hv.same s10).same s11,hv2.same s11⟩ hmn
 obtain⟨t7,d7,k7⟩:∃t,PSs (cxOf CX0 P w K mg base ["_law_script","_law_deal_here","_law_words_here","_law_calls","_law_kinds","_law_funs","_law_other","_law_many","_law_k","_law_one","_law_second","_law_found"] "law" (defScope sLaw) f cdv A outer s H E).nox (List.drop 7 (defBody sLaw)) t ∧
   ∀(H1:Hp) (d wl cl kd fd od ofd op:Addr) (ws fs:List Str) (m1 n1:Rows1) (m2 n2:Rows2) (mn:Int) (y0:Option V),DL H1 d→wl≠d→cl≠d→wl≠cl→H1 wl=some (.lst (ws.map V.str))→H1 cl=some (.lst (fs.map V.str))→ws.length≤16→fs.length≤16→ws.Nodup→fs.Nodup→(∀z∈ws,VW z)→(∀z∈fs,VW z)→od≠ofd→kd≠od→kd≠ofd→fd≠od→fd≠ofd→FcAt K H1 kd fd m1 m2→FcAt K H1 od ofd n1 n2→SqT K H1 op [.ref od,.ref ofd]→WF m1 m2→WF n1 n2→leastD n1 n2=leastD m1 m2→0≤mn→mn≤4→t { nx:=fun _ H'=>Q .non H',rt:=Q } [y0,some (.ref d),some (.ref wl),some (.ref cl),some (.ref kd),some (.ref fd),some (.ref op),some (.int mn),none,none,none,none] H1:=by
  refine⟨_,@pss_cons _ _ _ _ _ (ps_for PassesOwn.never rfl (pi_range1 rfl mr (@pa_cons _ _ _ _ _ (pe_op op_mod (pv 7) pe_int) pa_nil rfl)) (pg_name (i:=8) scLaw.nd rfl (Or.inl rfl)) (@pss_one _ _ _ (ps_set (i:=6) scLaw.nd rfl (Or.inl rfl) (pe_call GH hrH rfl mH kH bH .nil pass0 (@pa_cons _ _ _ _ _ (pv 1) (@pa_cons _ _ _ _ _ (pv 6) pa_nil rfl) rfl))))) (@pss_cons _ _ _ _ _ (ps_if (pt_cmpR op_eq (pv 7) pe_int (nomark _)) (@pss_one _ _ _ (ps_set (i:=6) scLaw.nd rfl (Or.inl rfl) (pe_call GF hrF rfl mF kF bF .nil pass0 (@pa_cons _ _ _ _ _ (pv 1) (@pa_cons _ _ _ _ _ (pe_callB (call_sorted_L rfl) rfl ms bootSorted (@pa_cons _ _ _ _ _ (pv 2) pa_nil rfl)) (@pa_cons _ _ _ _ _ (pv 3) (@pa_cons _ _ _ _ _ pe_int pa_nil rfl) rfl) rfl) rfl)))) pss_nil) d9),?_⟩
  intro H1 d wl cl kd fd od ofd op ws fs m1 n1 m2 n2 mn y0 hd nwd ncd nwc hwl hcl lw lc ndw ndc vw vc noo nko nkf nfo nff F1 F2 tp Wm Wn hleast mn0 mn4
  refine⟨_,rfl,_,_,rfl,rfl,(by show(0:Int) < 4;decide),_,rfl,by omega,by omega,?_⟩
  refine for_range (IvL K d wl cl kd fd ws fs m1 m2 mn y0) ⟨od,ofd,op,n1,n2,none,rfl,hd,hwl,hcl,F1,F2,tp,Wn,noo,nko,nkf,nfo,nff,fun _=>hleast⟩ ?_ ?_
  ·rintro i σ H2 hi ⟨od,ofd,op,n1,n2,y8,rfl,hd,hwl,hcl,F1,F2,tp,Wn,noo,nko,nkf,nfo,nff,_⟩
   obtain⟨ok1,ok2,ho1,ho2,_⟩:=id F2
   obtain⟨kk1,kk2,hk1,hk2,pk1,pk2⟩:=id F1
   refine⟨_,rfl,_,rfl,d,op,od,ofd,n1,n2,rfl,tp,hd,noo,F2,Wn,fun H3 p' od' ofd' n1' n2' hd3 s3 eo ef noo' tp' F2' Wn'=>?_⟩
   have ne:∀{b:Addr} {o:HO},H2 b=some o→b≠d→b≠od→b≠ofd→H3 b=some o:=fun {b o} h x1 x2 x3=>by
    have:=s3 b o (by rw [zo_ne (by simp [x1,x2,x3])];exact h)
    exact zo_same _ _ this
   have nt:NtS H2 [d,od,ofd]:=by
    obtain⟨x,y,e⟩:=hd
    exact nt_cons e nt_lst (nt_cons ho1 nt_dK (nt_cons ho2 nt_dK nt_nil))
   have kt:Kt K H2 H3:=fun a xs t=>zo_same.tup (s3.tup (zo_sqt nt t))
   have nwo:wl≠od:=fun e=>by rw [e,ho1] at hwl;cases hwl
   have nwf:wl≠ofd:=fun e=>by rw [e,ho2] at hwl;cases hwl
   have nco:cl≠od:=fun e=>by rw [e,ho1] at hcl;cases hcl
   have ncf:cl≠ofd:=fun e=>by rw [e,ho2] at hcl;cases hcl
   have nkd:=dl_ne hd hk1 nofun
   have nfd:=dl_ne hd hk2 nofun
   have un:∀{b x y:Addr} {o:HO},H2 b=some o→(x=y∨H2 x=none)→b≠y→b≠x:=fun h e n=>by
    rcases e with e|e
    ·rw [e];exact n
    ·exact fun z=>by rw [←z,h] at e;cases e
   refine⟨od',ofd',p',n1',n2',_,rfl,hd3,ne hwl nwd nwo nwf,ne hcl ncd nco ncf,⟨kk1,kk2,ne hk1 nkd nko nkf,ne hk2 nfd nfo nff,pk1.imp fun _ _ t=>kd_keep kt t,pk2.imp fun _ _ t=>fn_keep kt t⟩,F2',tp',Wn',noo',un hk1 eo nko,un hk1 ef nkf,un hk2 eo nfo,un hk2 ef nff,fun e=>nomatch e⟩
  ·rintro σ H2 ⟨od,ofd,op,n1,n2,y8,rfl,hd,hwl,hcl,F1,F2,tp,Wn,noo,nko,nkf,nfo,nff,hz⟩
   refine⟨_,rfl,rfl,_,rfl,ite2 (fun c=>?_) (fun _=>k9 H2 kd fd od ofd op m1 n1 m2 n2 mn _ _ _ _ _ F1 F2 tp Wm Wn fun e=>hz (by rw [e];rfl))⟩
   have e4:mn=4:=by have:=of_decide_eq_true c;injection this
   refine⟨_,rfl,_,rfl,wl,ws,rfl,SqL.of hwl,by omega,fun sl hsl=>?_⟩
   have g3:Go d H2 _:=.new hd hsl (.lst ((srt ws).map V.str))
   have nsd:=(Go.refl hd).nd hsl
   refine⟨_,rfl,d,sl,cl,srt ws,fs,rfl,g3.d,nsd,ncd,upd_same,g3.at ncd hcl,by rw [srt_len];exact lw,lc,(srt_perm ws).nodup_iff.mpr ndw,ndc,(fun z hz=>vw z (srt_mem.mp hz)),vc,fun H4 p' kd' fd' n1' n2' g4 k0 f0 _ hp' F' W'=>?_⟩
   exact k9 H4 kd fd kd' fd' p' m1 n1' m2 n2' mn _ _ _ _ _ (F1.go hd (g3.trans g4)) F' (SqT.of hp') Wm W' fun e=>absurd (e4.symm.trans e) (by decide)
 refine⟨_,@pss_cons _ _ _ _ _ (ps_set (i:=1) scLaw.nd rfl (Or.inl rfl) (pe_call GA hrA rfl mA kA bA .nil pass0 (@pa_cons _ _ _ _ _ (pv 0) (@pa_cons _ _ _ _ _ pe_int pa_nil rfl) rfl))) (@pss_cons _ _ _ _ _ (ps_set (i:=2) scLaw.nd rfl (Or.inl rfl) (pe_call GV hrV rfl mV kVV bV .nil pass0 (@pa_cons _ _ _ _ _ (pv 1) (@pa_cons _ _ _ _ _ (pe_op op_add pe_int (pe_call GD hrD rfl mD kD bD .nil pass0 (@pa_cons _ _ _ _ _ (pv 1) (@pa_cons _ _ _ _ _ pe_int pa_nil rfl) rfl))) pa_nil rfl) rfl))) (@pss_cons _ _ _ _ _ (ps_set (i:=3) scLaw.nd rfl (Or.inl rfl) (pe_call GV hrV rfl mV kVV bV .nil pass0 (@pa_cons _ _ _ _ _ (pv 1) (@pa_cons _ _ _ _ _ (pe_call GD hrD rfl mD kD bD .nil pass0 (@pa_cons _ _ _ _ _ (pv 1) (@pa_cons _ _ _ _ _ pe_int pa_nil rfl) rfl)) pa_nil rfl) rfl))) (@pss_cons _ _ _ _ _ (ps_asg (pe_call GF hrF rfl mF kF bF .nil pass0 (@pa_cons _ _ _ _ _ (pe_call GA hrA rfl mA kA bA .nil pass0 (@pa_cons _ _ _ _ _ (pv 0) (@pa_cons _ _ _ _ _ pe_int pa_nil rfl) rfl)) (@pa_cons _ _ _ _ _ (pv 2) (@pa_cons _ _ _ _ _ (pv 3) (@pa_cons _ _ _ _ _ pe_int pa_nil rfl) rfl) rfl) rfl)) (pg_tup rfl (pgs_cons (pg_name (i:=4) scLaw.nd rfl (Or.inl rfl)) (pgs_cons (pg_name (i:=5) scLaw.nd rfl (Or.inl rfl)) pgs_nil)))) (@pss_cons _ _ _ _ _ (ps_set (i:=1) scLaw.nd rfl (Or.inl rfl) (pe_call GA hrA rfl mA kA bA .nil pass0 (@pa_cons _ _ _ _ _ (pv 0) (@pa_cons _ _ _ _ _ pe_int pa_nil rfl) rfl))) (@pss_cons _ _ _ _ _ (ps_set (i:=6) scLaw.nd rfl (Or.inl rfl) (pe_call GT hrT rfl mT kT bT .nil pass0 (@pa_cons _ _ _ _ _ (pv 1) (@pa_cons _ _ _ _ _ (pv 4) (@pa_cons _ _ _ _ _ (pv 5) pa_nil rfl) rfl) rfl))) (@pss_cons _ _ _ _ _ (ps_set (i:=7) scLaw.nd rfl (Or.inl rfl) (pe_ix ix_list (pe_lst (@pa_cons _ _ _ _ _ pe_int (@pa_cons _ _ _ _ _ pe_int (@pa_cons _ _ _ _ _ pe_int (@pa_cons _ _ _ _ _ pe_int (@pa_cons _ _ _ _ _ pe_int (@pa_cons _ _ _ _ _ pe_int pa_nil rfl) rfl) rfl) rfl) rfl) rfl)) (pe_call GD hrD rfl mD kD bD .nil pass0 (@pa_cons _ _ _ _ _ (pv 1) (@pa_cons _ _ _ _ _ pe_int pa_nil rfl) rfl)) (fun _ _=>rfl))) d7)))))),?_⟩
 refine⟨_,rfl,a,ns,1,rfl,hS,h63,by decide,by decide,fun H1 d s1 hd0 hd=>?_⟩
 have hS1:=sql_same s1 hS
 refine⟨_,rfl,_,rfl,d,16,rfl,hd,by decide,by decide,fun H2 r g2 r0 r1=>⟨_,_,rfl,rfl,d,_,rfl,g2.d,by omega,by omega,fun H3 wl ws g3 hwl0 hwl hwlen ndw vw=>?_⟩⟩
 have nwd:=g2.nd hwl0
 refine⟨_,rfl,_,rfl,d,17,rfl,g3.d,by decide,by decide,fun H4 r4 g4 a0 a1=>⟨d,_,rfl,g4.d,by omega,by omega,fun H5 cl fs g5 hcl0 hcl hclen ndc vc=>?_⟩⟩
 have ncd:=g4.nd hcl0
 have hwl4:=g4.at nwd hwl
 have nwc:wl≠cl:=fun e=>by rw [←e,hwl4] at hcl0;cases hcl0
 have hwl5:=g5.at nwd hwl4
 have gA:=g2.trans (g3.trans (g4.trans g5))
 have hS5:=sql_go s1 hS hd0 gA
 refine⟨_,rfl,a,ns,2,rfl,hS5,h63,by decide,by decide,fun H6 d2 s6 hd20 hd2=>?_⟩
 have hwl6:=s6 _ _ hwl5
 have hcl6:=s6 _ _ hcl
 have nwd2:wl≠d2:=fun e=>by rw [←e,hwl5] at hd20;cases hd20
 have ncd2:cl≠d2:=fun e=>by rw [←e,hcl] at hd20;cases hd20
 refine⟨_,rfl,_,rfl,d2,wl,cl,ws,fs,rfl,hd2,nwd2,ncd2,hwl6,hcl6,by omega,by omega,ndw,ndc,vw,vc,fun H7 p kd fd m1 m2 g7 k0 f0 nkf hp F1 Wm=>?_⟩
 refine⟨p,_,rfl,SqT.of hp,rfl,_,_,rfl,_,_,rfl,rfl,?_⟩
 have hS7:=sql_go s6 hS5 hd20 g7
 have hwl7:=g7.at nwd2 hwl6
 have hcl7:=g7.at ncd2 hcl6
 refine⟨_,rfl,a,ns,3,rfl,hS7,h63,by decide,by decide,fun H8 d3 s8 hd30 hd3=>?_⟩
 have F8:=F1.same s8
 have hwl8:=s8 _ _ hwl7
 have hcl8:=s8 _ _ hcl7
 have nwd3:wl≠d3:=fun e=>by rw [←e,hwl7] at hd30;cases hd30
 have ncd3:cl≠d3:=fun e=>by rw [←e,hcl7] at hd30;cases hd30
 refine⟨_,rfl,_,rfl,_,rfl,d3,kd,fd,m1,m2,rfl,hd3,F8,Wm,fun H9 op od ofd n1 n2 g9 o0 of0 noo hop F2 tr=>?_⟩
 obtain⟨Wn,hle⟩:=tr_ok Wm tr
 have F9:=F8.go hd3 g9
 obtain⟨_,_,hk8,hf8,_⟩:=id F8
 have nko:kd≠od:=fun e=>by rw [e,o0] at hk8;cases hk8
 have nkof:kd≠ofd:=fun e=>by rw [e,of0] at hk8;cases hk8
 have nfo:fd≠od:=fun e=>by rw [e,o0] at hf8;cases hf8
 have nfof:fd≠ofd:=fun e=>by rw [e,of0] at hf8;cases hf8
 have hwl9:=g9.at nwd3 hwl8
 have hcl9:=g9.at ncd3 hcl8
 refine⟨(by show 6≤sizeLine;decide),fun ml hml=>?_⟩
 have n10:Go d3 H9 _:=.new g9.d hml (.lst [.int 0,.int 1,.int 1,.int 2,.int 3,.int 4])
 have nml:=g9.nd hml
 have hml10:upd H9 ml (.lst [.int 0,.int 1,.int 1,.int 2,.int 3,.int 4]) ml=some (.lst [.int 0,.int 1,.int 1,.int 2,.int 3,.int 4]):=upd_same
 refine⟨_,rfl,d3,6,rfl,n10.d,by decide,by decide,fun H11 r6 g11 b0 b1=>?_⟩
 have g911:=n10.trans g11
 obtain⟨mn,hmn,mn0,mn4⟩:∃mn:Int,atI [V.int 0,.int 1,.int 1,.int 2,.int 3,.int 4] r6=some (.int mn)∧0≤mn∧mn≤4:=by
  have:r6=0∨r6=1∨r6=2∨r6=3∨r6=4∨r6=5:=by omega
  rcases this with rfl|rfl|rfl|rfl|rfl|rfl
  ·exact⟨0,rfl,by decide,by decide⟩
  ·exact⟨1,rfl,by decide,by decide⟩
  ·exact⟨1,rfl,by decide,by decide⟩
  ·exact⟨2,rfl,by decide,by decide⟩
  ·exact⟨3,rfl,by decide,by decide⟩
  ·exact⟨4,rfl,by decide,by decide⟩
 refine⟨ml,_,_,_,rfl,rfl,SqL.of (g11.at nml hml10),hmn,?_⟩
 have hop11:=(g911.kt (K:=K) g9.d) _ _ (SqT.of hop)
 exact k7 H11 d3 wl cl kd fd od ofd op ws fs m1 n1 m2 n2 mn _ g11.d nwd3 ncd3 nwc (g911.at nwd3 hwl9) (g911.at ncd3 hcl9) (by omega) (by omega) ndw ndc vw vc noo nko nkof nfo nfof (F9.go g9.d g911) (F2.go g9.d g911) hop11 Wm Wn hle mn0 mn4
end
end K27
namespace PySem.W.Fast
def tw7262389529671612630:=()
def tw285806373491183760:=()
def tw17866254499770438476:=()
def tw7816438245335886583:=()
def tw15890009183980252730:=()
def tw5137211161572695823:=()
def tw18088836147788737628:=()
def tw8690432948049185168:=()
def tw16467319241565448506:=()
def tw319392002570893062:=()
def tw11795440533410588377:=()
def tw5692258862151130852:=()
def tw933265809058757510:=()
def tw6028275920760739289:=()
def tw8273779090334062614:=()
def tw3993193333185643257:=()
def tw7387868358907284125:=()
def tw12384847183574113265:=()
def tw17550393280351481636:=()
def tw9639630465720030480:=()
def tw17017528858143696288:=()
def tw15829666712393055160:=()
def tw11023700244851260488:=()
def tw68596984831489498:=()
def tw5885449144097449648:=()
def tw9468869878054206025:=()
def tw8383562713958516248:=()
def tw6582843371838330831:=()
def tw12462893426041133903:=()
def tw5051270473671896041:=()
def tw9436376352684842871:=()
def tw9077917787809985110:=()
def tw5386569757892212995:=()
def tw6527741868510427600:=()
def tw17454413385675469735:=()
def tw17061712018266446816:=()
def tw10174577853187986722:=()
def tw15327329818865632464:=()
def tw7109105713848242949:=()
def tw16845165663041144712:=()
def tw16025872805693538499:=()
def tw13652211218099693013:=()
def tw265055352827653365:=()
def tw16410321204530468262:=()
def tw13581688339075880414:=()
def tw1702162431649188971:=()
def tw2936494771200486890:=()
def tw16931418280626358446:=()
def tw12402824627298693423:=()
def tw7129843091343312049:=()
def tw10867593642895058628:=()
def tw17821796473814808855:=()
def tw5882685998543533433:=()
def tw8785207106789544268:=()
def tw18313016885935715576:=()
def tw5654805779060432893:=()
def tw10266089983439660207:=()
def tw9090747100381679129:=()
def tw6465479192685329548:=()
def tw3017803752361363022:=()
def tw15196472554342380583:=()
def tw9142881810383779234:=()
def tw15204251124287287443:=()
def tw3648165688525972949:=()
def tw13100248824988064889:=()
def tw6741824886969328243:=()
def tw9321306786215461478:=()
def tw12219338950516812301:=()
def tw248747174744750260:=()
def tw6318989988483505031:=()
def tw16347286952216105783:=()
def tw14906283893956454147:=()
def tw14275538373192304593:=()
def tw2109799248604403416:=()
def tw7534723666259913225:=()
def tw6889036568962111474:=()
def tw14334219061051125911:=()
def tw1078673626334256724:=()
def tw423809531972792646:=()
def tw1280395574976045598:=()
def tw2933739640405034931:=()
def tw16933437049108710128:=()
def tw11342389199582143461:=()
def tw7570951863292804240:=()
def tw11391121008533406896:=()
def tw5334750221893853709:=()
def tw1403147686552618966:=()
def tw8217441488632087989:=()
def tw627825109798933401:=()
def tw8492692923759599966:=()
def tw10788314232477995621:=()
def tw11220670801749846264:=()
def tw10390640099626347542:=()
def tw2240385686693199044:=()
def tw16724577296276846980:=()
def tw11418522940159921483:=()
def tw10053788130075705788:=()
def tw64195129756266096:=()
def tw8295226554355408476:=()
def tw8862003521582176786:=()
def tw7930114622868968829:=()
def tw2381541131263246288:=()
def tw9367310669038660468:=()
def tw16507397492384444031:=()
def tw3733010106213256716:=()
def tw1803365726322759357:=()
def tw6904921336174746029:=()
def tw16521917272920386431:=()
def tw12831578062086907404:=()
def tw16698850723064416677:=()
def tw5432267583841916667:=()
def tw14069360981591285781:=()
def tw4252789024369826728:=()
def tw10941384132090231480:=()
def tw12080872925806449515:=()
def tw8990234793008135270:=()
def tw15824220166172499389:=()
def tw15819038837956207013:=()
def tw512282731665548196:=()
def tw507222047982819785:=()
def tw7352421431113437522:=()
def tw67378502861975448:=()
def tw14787851464227846766:=()
def tw10692261370693713488:=()
def tw1942332023069888363:=()
def tw2754746503490490774:=()
def tw1451494144998470877:=()
def tw6923800266248273083:=()
def tw12784889339279876531:=()
def tw11850902025950795140:=()
def tw14265168611485133636:=()
def tw2296897276433423284:=()
def tw8729769952465163250:=()
def tw10137052818384234609:=()
def tw3349621238413379643:=()
def tw7940564738820715501:=()
def tw15155803064919000357:=()
def tw7398061021022270840:=()
def tw16948370407580210596:=()
def tw7519683906316263631:=()
def tw6989393319333978366:=()
def tw7094370541990536330:=()
def tw6213131498179272941:=()
def tw10331487400720609099:=()
def tw3224560119403693458:=()
def tw10641853781794930036:=()
def tw3422198245008093580:=()
def tw12582834309516357177:=()
def tw9509909290626891651:=()
def tw7877076083052524155:=()
def tw2592359629546455415:=()
def tw17721744071153770156:=()
def tw15506296542175417585:=()
def tw1242983153719389180:=()
def tw10641125633284188771:=()
def tw15178973170950275900:=()
def tw17787219742469972561:=()
def tw12744014813892295735:=()
def tw4352525001512462095:=()
def tw8538753789585764694:=()
def tw11992380607881074646:=()
def tw17080290205221181633:=()
def tw17969496240643307054:=()
def tw10802540209706736144:=()
def tw17529467702200215616:=()
def tw6443961359354779391:=()
def tw2642612310602544748:=()
def tw10504851590680131201:=()
def tw10922732315674445735:=()
def tw14778927524985161682:=()
def tw1995944446428425402:=()
def tw3450133316027143259:=()
def tw503711560977108318:=()
def tw139229196496378355:=()
def tw16347060350200833926:=()
def tw18077557828448222964:=()
def tw4711502854430385200:=()
def tw17864742802386197873:=()
def tw8043501765133714847:=()
def tw7608148906741261888:=()
def tw3042362606985349373:=()
def tw13437687683165689599:=()
def tw4912457971923868889:=()
def tw18086023182076153486:=()
def tw15327207194503007377:=()
def tw9531311403783884949:=()
def tw13076318636069343217:=()
def tw16543754749352490998:=()
def tw3927802768928230153:=()
def tw5653033051502571344:=()
def tw8327300256757714262:=()
def tw412008248366343732:=()
def tw5634667829983905925:=()
def tw1176211535474065825:=()
def tw8914723705424089947:=()
def tw3322061191468746017:=()
def tw9372530838482936691:=()
def tw11492404171350231055:=()
def tw4657305216920371431:=()
def tw144794969460781780:=()
def tw1245101178703333686:=()
def tw8956936269862440121:=()
def tw7590644926479461756:=()
def tw2318618080510247085:=()
def tw9344508842275777571:=()
def tw12306036729896576360:=()
def tw7638526009362758428:=()
def tw2733347208416940201:=()
def tw17300955810364364978:=()
def tw12466313380157358173:=()
def tw14310175696251823241:=()
def tw4823554794408532347:=()
def tw5077654992100265305:=()
def tw2207678486048064369:=()
def tw15492931334752256357:=()
def tw5625280196834316492:=()
def tw17925133804209973649:=()
def tw5192675036275352955:=()
def tw12682323964439960115:=()
def tw13039205417242154817:=()
def tw12948210350921729683:=()
def tw3300747933529709238:=()
def tw5231274388047114387:=()
def tw2489277141044173474:=()
def tw11163298602051582232:=()
def tw18298412141684290851:=()
def tw18349600121315807892:=()
def tw10755280526537409497:=()
def tw878174247307917777:=()
def tw5315825865462039156:=()
def tw7406963896459946462:=()
def tw15273823316162372666:=()
def tw15796289184573857502:=()
def tw3922262590620227235:=()
def tw18287025028968116133:=()
def tw13135879057918524220:=()
def tw13762297025112691586:=()
def tw1921796079591552369:=()
def tw9012929117063056020:=()
end PySem.W.Fast
namespace L2
open PySem
theorem mem_look{α β:Type}[BEq α][LawfulBEq α]{a:α}{b:β}:∀{l:List (α × β)},l.lookup a=some b→(a,b)∈l
 |[],h=>by cases h
 |p::r,h=>by
  obtain⟨c,d⟩:=p
  rw [List.lookup_cons] at h
  by_cases e:(a==c)=true
  ·rw [e] at h
   have h':d=b:=Option.some.inj h
   rw [eq_of_beq e,h']
   exact .head _
  ·rw [Bool.not_eq_true] at e
   rw [e] at h
   exact .tail _ (mem_look h)
theorem walk_z{q:Program}{loose:List Str}{XP:(Str→Option Value)→Heap→Prop}{r:PySem.W.RowW}{d:DefRec}{kwd:List (Str × Expr)}{run:Value→List Value→Sem Value}{K:Params→PySem.W.Frag}{as:List Addr}{n t:Nat}
  (hl:∀p:Params,as=(K p).map (·.1)) (h:PySem.W.WalkO q loose XP (fun w h=>(K w.params).In h) r d kwd run):PySem.W.WalkX q loose XP (PySem.W.X.obsZ as) (PySem.W.X.valZ K n t) r d kwd run:=by
 intro w s₀ s₁ mg mb G y a o pm cd doc dV kV ho hd hcd hD hmg hg args vals as' L hpre hlay hrd hwl hlo
 refine h w s₀ s₁ mg mb G (fun b ob hb=>?_) a o pm cd doc dV kV ho hd hcd hD hmg hg args vals as' hpre hlay hrd hwl hlo
 have e1:as.map s₀.heap.get?=(K w.params).map fun p=>some p.2:=congrArg Prod.fst y
 rw [hl w.params,List.map_map] at e1
 have e2:s₀.heap.get? b=some ob:=List.map_inj_left.mp e1 (b,ob) (mem_look hb)
 exact L.keeps b ob e2
end L2
namespace K27
open PySem L2 Kk
set_option maxHeartbeats 0 in
theorem all_mk{l:PySem.W.OpenLaw}{w:World}{K:PySem.W.Frag}{h:Heap}{mg:Str→Option Value}{fa f1 f2 f3 f4 f5 f6 f7 f8 f9 f10 f11 f12 f13 f14 f15 f16 f17 f18 f19 f20 f21:Addr}(X:K.In h)(G:h.Ns mainGlobals mg) (hfa:mg "law"=some (.ref fa))
  {od1 an1 od2 an2 od3 an3 od4 an4 od5 an5 od6 an6 od7 an7 od8 an8 od9 an9 od10 an10 od11 an11 od12 an12 od13 an13 od14 an14 od15 an15 od16 an16 od17 an17 od18 an18 od19 an19 od20 an20 od21 an21:Option Addr} {sl1 sl2 sl3 sl4 sl5 sl6 sl7 sl8 sl9 sl10 sl11 sl12 sl13 sl14 sl15 sl16 sl17 sl18 sl19 sl20 sl21:Array (Option Value)} {oc1 kV1 dc1 pm1 cd1 ct1 oc2 kV2 dc2 pm2 cd2 ct2 oc3 kV3 dc3 pm3 cd3 ct3 oc4 kV4 dc4 pm4 cd4 ct4 oc5 kV5 dc5 pm5 cd5 ct5 oc6 kV6 dc6 pm6 cd6 ct6 oc7 kV7 dc7 pm7 cd7 ct7 oc8 kV8 dc8 pm8 cd8 ct8 oc9 kV9 dc9 pm9 cd9 ct9 oc10 kV10 dc10 pm10 cd10 ct10 oc11 kV11 dc11 pm11 cd11 ct11 oc12 kV12 dc12 pm12 cd12 ct12 oc13 kV13 dc13 pm13 cd13 ct13 oc14 kV14 dc14 pm14 cd14 ct14 oc15 kV15 dc15 pm15 cd15 ct15 oc16 kV16 dc16 pm16 cd16 ct16 oc17 kV17 dc17 pm17 cd17 ct17 oc18 kV18 dc18 pm18 cd18 ct18 oc19 kV19 dc19 pm19 cd19 ct19 oc20 kV20 dc20 pm20 cd20 ct20 oc21 kV21 dc21 pm21 cd21 ct21:Value}
  {CF CN CR T ff fi fj fh:Addr} {odf anf odi ani odj anj odh anh dT:Option Addr} {slf sli slj slh sT:Array (Option Value)} {ocf kVf dcf pmf cdf ctf oci kVi dci pmi cdi cti ocj kVj dcj pmj cdj ctj och kVh dch pmh cdh cth oT:Value} {nT:Nat} {tk:Tok}
  (a1:PySem.W.nsIn K mainGlobals "put"=some (some (.ref f1))) (l1:K.lookup f1=some ⟨oc1,od1,.func (PySem.W.fnOf "put" "put" (defArgs sPut) (defBody sPut) (defScope sPut) .none kV1 dc1 pm1 an1 cd1 ct1),sl1⟩) (c1:PySem.W.codeIn K cd1 "put"=true) (k1:PySem.W.keepIn K (.ref f1)=true)
  (a2:PySem.W.nsIn K mainGlobals "own_name"=some (some (.ref f2))) (l2:K.lookup f2=some ⟨oc2,od2,.func (PySem.W.fnOf "own_name" "own_name" (defArgs sOwn) (defBody sOwn) (defScope sOwn) .none kV2 dc2 pm2 an2 cd2 ct2),sl2⟩) (c2:PySem.W.codeIn K cd2 "own_name"=true) (k2:PySem.W.keepIn K (.ref f2)=true)
  (a3:PySem.W.nsIn K mainGlobals "put_in_fun"=some (some (.ref f3))) (l3:K.lookup f3=some ⟨oc3,od3,.func (PySem.W.fnOf "put_in_fun" "put_in_fun" (defArgs sPutFun) (defBody sPutFun) (defScope sPutFun) .none kV3 dc3 pm3 an3 cd3 ct3),sl3⟩) (c3:PySem.W.codeIn K cd3 "put_in_fun"=true) (k3:PySem.W.keepIn K (.ref f3)=true)
  (a4:PySem.W.nsIn K mainGlobals "under"=some (some (.ref f4))) (l4:K.lookup f4=some ⟨oc4,od4,.func (PySem.W.fnOf "under" "under" (defArgs sUnder) (defBody sUnder) (defScope sUnder) .none kV4 dc4 pm4 an4 cd4 ct4),sl4⟩) (c4:PySem.W.codeIn K cd4 "under"=true) (k4:PySem.W.keepIn K (.ref f4)=true)
  (a5:PySem.W.nsIn K mainGlobals "least"=some (some (.ref f5))) (l5:K.lookup f5=some ⟨oc5,od5,.func (PySem.W.fnOf "least" "least" (defArgs sLeast) (defBody sLeast) (defScope sLeast) .none kV5 dc5 pm5 an5 cd5 ct5),sl5⟩) (c5:PySem.W.codeIn K cd5 "least"=true) (k5:PySem.W.keepIn K (.ref f5)=true)
  (a6:PySem.W.nsIn K mainGlobals "_law_deal"=some (some (.ref f6))) (l6:K.lookup f6=some ⟨oc6,od6,.func (PySem.W.fnOf "_law_deal" "_law_deal" (defArgs sDeal) (defBody sDeal) (defScope sDeal) .none kV6 dc6 pm6 an6 cd6 ct6),sl6⟩) (c6:PySem.W.codeIn K cd6 "_law_deal"=true) (k6:PySem.W.keepIn K (.ref f6)=true)
  (a7:PySem.W.nsIn K mainGlobals "_law_draw"=some (some (.ref f7))) (l7:K.lookup f7=some ⟨oc7,od7,.func (PySem.W.fnOf "_law_draw" "_law_draw" (defArgs sDraw) (defBody sDraw) (defScope sDraw) .none kV7 dc7 pm7 an7 cd7 ct7),sl7⟩) (c7:PySem.W.codeIn K cd7 "_law_draw"=true) (k7:PySem.W.keepIn K (.ref f7)=true)
  (a8:PySem.W.nsIn K mainGlobals "_law_word"=some (some (.ref f8))) (l8:K.lookup f8=some ⟨oc8,od8,.func (PySem.W.fnOf "_law_word" "_law_word" (defArgs sWord) (defBody sWord) (defScope sWord) .none kV8 dc8 pm8 an8 cd8 ct8),sl8⟩) (c8:PySem.W.codeIn K cd8 "_law_word"=true) (k8:PySem.W.keepIn K (.ref f8)=true)
  (a9:PySem.W.nsIn K mainGlobals "_law_next"=some (some (.ref f9))) (l9:K.lookup f9=some ⟨oc9,od9,.func (PySem.W.fnOf "_law_next" "_law_next" (defArgs sNext) (defBody sNext) (defScope sNext) .none kV9 dc9 pm9 an9 cd9 ct9),sl9⟩) (c9:PySem.W.codeIn K cd9 "_law_next"=true) (k9:PySem.W.keepIn K (.ref f9)=true)
  (a10:PySem.W.nsIn K mainGlobals "_law_words"=some (some (.ref f10))) (l10:K.lookup f10=some ⟨oc10,od10,.func (PySem.W.fnOf "_law_words" "_law_words" (defArgs sWordsL) (defBody sWordsL) (defScope sWordsL) .none kV10 dc10 pm10 an10 cd10 ct10),sl10⟩) (c10:PySem.W.codeIn K cd10 "_law_words"=true) (k10:PySem.W.keepIn K (.ref f10)=true)
  (a11:PySem.W.nsIn K mainGlobals "_law_any_kind"=some (some (.ref f11))) (l11:K.lookup f11=some ⟨oc11,od11,.func (PySem.W.fnOf "_law_any_kind" "_law_any_kind" (defArgs sAnyK) (defBody sAnyK) (defScope sAnyK) .none kV11 dc11 pm11 an11 cd11 ct11),sl11⟩) (c11:PySem.W.codeIn K cd11 "_law_any_kind"=true) (k11:PySem.W.keepIn K (.ref f11)=true)
  (a12:PySem.W.nsIn K mainGlobals "_law_size"=some (some (.ref f12))) (l12:K.lookup f12=some ⟨oc12,od12,.func (PySem.W.fnOf "_law_size" "_law_size" (defArgs sSizeL) (defBody sSizeL) (defScope sSizeL) .none kV12 dc12 pm12 an12 cd12 ct12),sl12⟩) (c12:PySem.W.codeIn K cd12 "_law_size"=true) (k12:PySem.W.keepIn K (.ref f12)=true)
  (a13:PySem.W.nsIn K mainGlobals "_law_face"=some (some (.ref f13))) (l13:K.lookup f13=some ⟨oc13,od13,.func (PySem.W.fnOf "_law_face" "_law_face" (defArgs sFaceL) (defBody sFaceL) (defScope sFaceL) .none kV13 dc13 pm13 an13 cd13 ct13),sl13⟩) (c13:PySem.W.codeIn K cd13 "_law_face"=true) (k13:PySem.W.keepIn K (.ref f13)=true)
  (a14:PySem.W.nsIn K mainGlobals "_law_put"=some (some (.ref f14))) (l14:K.lookup f14=some ⟨oc14,od14,.func (PySem.W.fnOf "_law_put" "_law_put" (defArgs sPutL) (defBody sPutL) (defScope sPutL) .none kV14 dc14 pm14 an14 cd14 ct14),sl14⟩) (c14:PySem.W.codeIn K cd14 "_law_put"=true) (k14:PySem.W.keepIn K (.ref f14)=true)
  (a15:PySem.W.nsIn K mainGlobals "_law_all"=some (some (.ref f15))) (l15:K.lookup f15=some ⟨oc15,od15,.func (PySem.W.fnOf "_law_all" "_law_all" (defArgs sAllL) (defBody sAllL) (defScope sAllL) .none kV15 dc15 pm15 an15 cd15 ct15),sl15⟩) (c15:PySem.W.codeIn K cd15 "_law_all"=true) (k15:PySem.W.keepIn K (.ref f15)=true)
  (a16:PySem.W.nsIn K mainGlobals "_law_classes"=some (some (.ref f16))) (l16:K.lookup f16=some ⟨oc16,od16,.func (PySem.W.fnOf "_law_classes" "_law_classes" (defArgs sClsL) (defBody sClsL) (defScope sClsL) .none kV16 dc16 pm16 an16 cd16 ct16),sl16⟩) (c16:PySem.W.codeIn K cd16 "_law_classes"=true) (k16:PySem.W.keepIn K (.ref f16)=true)
  (a17:PySem.W.nsIn K mainGlobals "_law_least"=some (some (.ref f17))) (l17:K.lookup f17=some ⟨oc17,od17,.func (PySem.W.fnOf "_law_least" "_law_least" (defArgs sLeastL) (defBody sLeastL) (defScope sLeastL) .none kV17 dc17 pm17 an17 cd17 ct17),sl17⟩) (c17:PySem.W.codeIn K cd17 "_law_least"=true) (k17:PySem.W.keepIn K (.ref f17)=true)
  (a18:PySem.W.nsIn K mainGlobals "_law_other_order"=some (some (.ref f18))) (l18:K.lookup f18=some ⟨oc18,od18,.func (PySem.W.fnOf "_law_other_order" "_law_other_order" (defArgs sOther) (defBody sOther) (defScope sOther) .none kV18 dc18 pm18 an18 cd18 ct18),sl18⟩) (c18:PySem.W.codeIn K cd18 "_law_other_order"=true) (k18:PySem.W.keepIn K (.ref f18)=true)
  (a19:PySem.W.nsIn K mainGlobals "_law_turned"=some (some (.ref f19))) (l19:K.lookup f19=some ⟨oc19,od19,.func (PySem.W.fnOf "_law_turned" "_law_turned" (defArgs sTurned) (defBody sTurned) (defScope sTurned) .none kV19 dc19 pm19 an19 cd19 ct19),sl19⟩) (c19:PySem.W.codeIn K cd19 "_law_turned"=true) (k19:PySem.W.keepIn K (.ref f19)=true)
  (a20:PySem.W.nsIn K mainGlobals "_law_changed"=some (some (.ref f20))) (l20:K.lookup f20=some ⟨oc20,od20,.func (PySem.W.fnOf "_law_changed" "_law_changed" (defArgs sChanged) (defBody sChanged) (defScope sChanged) .none kV20 dc20 pm20 an20 cd20 ct20),sl20⟩) (c20:PySem.W.codeIn K cd20 "_law_changed"=true) (k20:PySem.W.keepIn K (.ref f20)=true)
  (a21:PySem.W.nsIn K mainGlobals "law"=some (some (.ref f21))) (l21:K.lookup f21=some ⟨oc21,od21,.func (PySem.W.fnOf "law" "law" (defArgs sLaw) (defBody sLaw) (defScope sLaw) .none kV21 dc21 pm21 an21 cd21 ct21),sl21⟩) (c21:PySem.W.codeIn K cd21 "law"=true) (k21:PySem.W.keepIn K (.ref f21)=true)
  (aF:PySem.W.nsIn K mainGlobals "Face"=some (some (.ref CF)))
  (aN:PySem.W.nsIn K mainGlobals "NoFit"=some (some (.ref CN)))
  (aR:PySem.W.nsIn K mainGlobals "Refused"=some (some (.ref CR)))
  (af:PySem.W.nsIn K mainGlobals "fitted"=some (some (.ref ff)))
  (lf:K.lookup ff=some ⟨ocf,odf,.func (PySem.W.fnOf "fitted" "fitted" (defArgs sFitted) (defBody sFitted) (defScope sFitted) (.ref T) kVf dcf pmf anf cdf ctf),slf⟩)
  (cf:PySem.W.codeIn K cdf "fitted"=true)
  (kf:PySem.W.keepIn K (.ref ff)=true)
  (lT:K.lookup T=some ⟨oT,dT,.seq #[.str "" tk] nT,sT⟩)
  (ih:PySem.W.findIn K (.ref CF) "hidden"=some (some (.ref fh)))
  (lh:K.lookup fh=some ⟨och,odh,.func (PySem.W.fnOf "hidden" "Face.hidden" (defArgs sHidden) (defBody sHidden) (defScope sHidden) .none kVh dch pmh anh cdh cth),slh⟩)
  (ch:PySem.W.codeIn K cdh "Face.hidden"=true)
  (kh:PySem.W.keepIn K (.ref fh)=true)
  (th:PySem.W.isFn K (.ref fh)=true)
  (iF:PySem.W.findIn K (.ref CF) "__init__"=some (some (.ref fi)))
  (li:K.lookup fi=some ⟨oci,odi,.func (PySem.W.fnOf "__init__" "Face.__init__" (defArgs sInit) (defBody sInit) (defScope sInit) .none kVi dci pmi ani cdi cti),sli⟩)
  (ci:PySem.W.codeIn K cdi "Face.__init__"=true)
  (ki:PySem.W.keepIn K (.ref fi)=true)
  (tF:PySem.W.isFn K (.ref fi)=true)
  (mk:PySem.W.makesIn K CF=true)
  (kF:PySem.W.keepIn K (.ref CF)=true)
  (pg:PySem.W.plainGet K CF Str.empty=true)
  (hd:PySem.W.hasDictIn K CF=true)
  (po:PySem.W.plainOver K CF=true)
  (sa:PySem.W.findIn K (.ref CF) "__setattr__"=some (some (.builtin "object.__setattr__")))
  (nK:PySem.W.findIn K (.ref CF) "kinds"=some none)
  (nF:PySem.W.findIn K (.ref CF) "funs"=some none)
  (jF:PySem.W.findIn K (.ref CN) "__init__"=some (some (.ref fj)))
  (lj:K.lookup fj=some ⟨ocj,odj,.func (PySem.W.fnOf "__init__" "NoFit.__init__" (defArgs sInitN) (defBody sInitN) (defScope sInitN) .none kVj dcj pmj anj cdj ctj),slj⟩)
  (cj:PySem.W.codeIn K cdj "NoFit.__init__"=true)
  (kj:PySem.W.keepIn K (.ref fj)=true)
  (tj:PySem.W.typeIn K (.ref fj)=some (.type "function"))
  (xI:excInI K CN bmVE "ValueError.__new__"=true)
  (bg:PySem.W.specialIn K (.ref CR) "__getattribute__"=some (some (.builtin "type.__getattribute__")))
  (br:PySem.W.readsIn K CR (.type "type")=true)
  (bf:PySem.W.findCls K (.ref CR) (.type "type") "__init__"=some (.val (.builtin "ValueError.__init__")))
  (saN:PySem.W.findIn K (.ref CN) "__setattr__"=some (some (.builtin "object.__setattr__")))
  (poN:(PySem.W.clsIn K CN).any (fun cd=>refPass cd.mro)=true)
  (hdN:PySem.W.hasDictIn K CN=true)
  (obN:PySem.W.mroIn K CN (.type "object")=some true)
  (x1:PySem.W.exmOne K (.ref CN) (.ref CN)=some true)
  (t_part:PySem.W.takerIn K CN "part"=some none)
  (t_name:PySem.W.takerIn K CN "name"=some none)
  (t_due:PySem.W.takerIn K CN "due"=some none)
  (t_found:PySem.W.takerIn K CN "found"=some none)
  (z1:PySem.W.nsIn K mainGlobals "len"=some none)
  (z2:PySem.W.nsIn K mainGlobals "list"=some none)
  (z3:PySem.W.nsIn K mainGlobals "range"=some none)
  (z4:PySem.W.nsIn K mainGlobals "dict"=some none)
  (z5:PySem.W.nsIn K mainGlobals "tuple"=some none)
  (z6:PySem.W.nsIn K mainGlobals "sorted"=some none)
  (z7:PySem.W.nsIn K mainGlobals "min"=some none)
  (z8:PySem.W.nsIn K mainGlobals "int"=some none) :
  ∃fd:FuncData,(∀(s:Shared) (v:Value),BindsTo s fd ⟨[v],[]⟩ [("_law_script",v)])∧∀base:Heap,K.In base→base.Ns mainGlobals mg→FnOk l.prog w K mg base CX0 21 fa fd ["_law_script"] (spLaw K):=by
 have e:=hfa.symm.trans (PySem.W.mg_of X G a21)
 cases e
 have F1:=fun_mk (st:=sPut) l1 c1 k1
 have F2:=fun_mk (st:=sOwn) l2 c2 k2
 have F3:=fun_mk (st:=sPutFun) l3 c3 k3
 have F4:=fun_mk (st:=sUnder) l4 c4 k4
 have F5:=fun_mk (st:=sLeast) l5 c5 k5
 have F6:=fun_mk (st:=sDeal) l6 c6 k6
 have F7:=fun_mk (st:=sDraw) l7 c7 k7
 have F8:=fun_mk (st:=sWord) l8 c8 k8
 have F9:=fun_mk (st:=sNext) l9 c9 k9
 have F10:=fun_mk (st:=sWordsL) l10 c10 k10
 have F11:=fun_mk (st:=sAnyK) l11 c11 k11
 have F12:=fun_mk (st:=sSizeL) l12 c12 k12
 have F13:=fun_mk (st:=sFaceL) l13 c13 k13
 have F14:=fun_mk (st:=sPutL) l14 c14 k14
 have F15:=fun_mk (st:=sAllL) l15 c15 k15
 have F16:=fun_mk (st:=sClsL) l16 c16 k16
 have F17:=fun_mk (st:=sLeastL) l17 c17 k17
 have F18:=fun_mk (st:=sOther) l18 c18 k18
 have F19:=fun_mk (st:=sTurned) l19 c19 k19
 have F20:=fun_mk (st:=sChanged) l20 c20 k20
 have F21:=fun_mk (st:=sLaw) l21 c21 k21
 have b1:=F1.binds (ps:=["kind","given"]) fun _ _ _ _ _ _ us hl=>match us,hl with|[_,_],_=>rfl
 have b2:=F2.binds (ps:=["word"]) fun _ _ _ _ _ _ us hl=>match us,hl with|[_],_=>rfl
 have b3:=F3.binds (ps:=["fun","given"]) fun _ _ _ _ _ _ us hl=>match us,hl with|[_,_],_=>rfl
 have b4:=F4.binds (ps:=["one","other"]) fun _ _ _ _ _ _ us hl=>match us,hl with|[_,_],_=>rfl
 have b5:=F5.binds (ps:=["face"]) fun _ _ _ _ _ _ us hl=>match us,hl with|[_],_=>rfl
 have b6:=F6.binds (ps:=["_law_script","_law_k"]) fun _ _ _ _ _ _ us hl=>match us,hl with|[_,_],_=>rfl
 have b7:=F7.binds (ps:=["_law_deal_here","_law_many"]) fun _ _ _ _ _ _ us hl=>match us,hl with|[_,_],_=>rfl
 have b8:=F8.binds (ps:=["_law_deal_here"]) fun _ _ _ _ _ _ us hl=>match us,hl with|[_],_=>rfl
 have b9:=F9.binds (ps:=["_law_word_here"]) fun _ _ _ _ _ _ us hl=>match us,hl with|[_],_=>rfl
 have b10:=F10.binds (ps:=["_law_deal_here","_law_many"]) fun _ _ _ _ _ _ us hl=>match us,hl with|[_,_],_=>rfl
 have b11:=F11.binds (ps:=["_law_deal_here","_law_names","_law_room"]) fun _ _ _ _ _ _ us hl=>match us,hl with|[_,_,_],_=>rfl
 have b12:=F12.binds (ps:=["_law_kind"]) fun _ _ _ _ _ _ us hl=>match us,hl with|[_],_=>rfl
 have b13:=F13.binds (ps:=["_law_deal_here","_law_words_here","_law_calls","_law_room"]) fun _ _ _ _ _ _ us hl=>match us,hl with|[_,_,_,_],_=>rfl
 have b14:=F14.binds (ps:=["_law_kind","_law_given"]) fun _ _ _ _ _ _ us hl=>match us,hl with|[_,_],_=>rfl
 have b15:=F15.binds (ps:=["_law_kinds","_law_funs","_law_given"]) fun _ _ _ _ _ _ us hl=>match us,hl with|[_,_,_],_=>rfl
 have b16:=F16.binds (ps:=["_law_kinds"]) fun _ _ _ _ _ _ us hl=>match us,hl with|[_],_=>rfl
 have b17:=F17.binds (ps:=["_law_kinds","_law_funs"]) fun _ _ _ _ _ _ us hl=>match us,hl with|[_,_],_=>rfl
 have b18:=F18.binds (ps:=["_law_deal_here","_law_some"]) fun _ _ _ _ _ _ us hl=>match us,hl with|[_,_],_=>rfl
 have b19:=F19.binds (ps:=["_law_deal_here","_law_kinds","_law_funs"]) fun _ _ _ _ _ _ us hl=>match us,hl with|[_,_,_],_=>rfl
 have b20:=F20.binds (ps:=["_law_deal_here","_law_face_here"]) fun _ _ _ _ _ _ us hl=>match us,hl with|[_,_],_=>rfl
 refine⟨PySem.W.fnOf "law" "law" (defArgs sLaw) (defBody sLaw) (defScope sLaw) .none kV21 dc21 pm21 an21 cd21 ct21,fun s v=>.of_eq rfl,fun base _ _=>?_⟩
 have FF:FunD K "fitted" "fitted" sFitted (.ref T) ff (PySem.W.fnOf "fitted" "fitted" (defArgs sFitted) (defBody sFitted) (defScope sFitted) (.ref T) kVf dcf pmf anf cdf ctf):=⟨⟨ocf,odf,kVf,dcf,pmf,anf,cdf,ctf,slf,rfl,lf,cf⟩,kf⟩
 have Fi:=fun_mk (st:=sInit) li ci ki
 have bI:=Fi.binds (ps:=["self","kinds","funs"]) fun _ _ _ _ _ _ us hl=>match us,hl with|[_,_,_],_=>rfl
 have Fh:=fun_mk (st:=sHidden) lh ch kh
 have bH:=Fh.binds (ps:=["self"]) fun _ _ _ _ _ _ us hl=>match us,hl with|[_],_=>rfl
 have Fj:=fun_mk (st:=sInitN) lj cj kj
 have bJ:=Fj.binds (ps:=["self","part","name","due","found"]) fun _ _ _ _ _ _ us hl=>match us,hl with|[_,_,_,_,_],_=>rfl
 have MF:Mk K CF fi:=⟨mk,iF,tF,kF⟩
 have MH:Meth K CF "hidden" fh:=⟨ih,th,kh⟩
 have cF:L2.Cls K CF:=⟨pg,hd,po,sa⟩
 have MX:MkX K CN fj:=⟨xI,jF,tj⟩
 have BR:BaseI K CR:=⟨bg,br,bf⟩
 have XS:ExcSet K CN:=⟨saN,poN,hdN,obN⟩
 have GP:=ok_put (P:=l.prog) (w:=w) (base:=base) (mg:=mg) F1 b1 k1 (PySem.W.mg_of X G a1) 9
 have GO:=ok_own (P:=l.prog) (w:=w) (base:=base) (mg:=mg) F2
 have GPF:=ok_putFun (P:=l.prog) (w:=w) (base:=base) (mg:=mg) F3 GP b1 k1 (PySem.W.mg_of X G a1) (PySem.W.mg_none_of X G z5)
 have GI:=ok_initF (P:=l.prog) (w:=w) (base:=base) (mg:=mg) Fi cF nK nF (PySem.W.mg_none_of X G z4)
 have GJ:=ok_initN (P:=l.prog) (w:=w) (base:=base) (mg:=mg) Fj (PySem.W.mg_of X G aR) BR xI XS t_part t_name t_due t_found
 have GH:=ok_hidden (P:=l.prog) (w:=w) (base:=base) (mg:=mg) Fh GO b2 k2 (PySem.W.mg_of X G a2) cF nK
 have GFi:=ok_fitted (P:=l.prog) (w:=w) (base:=base) (mg:=mg) FF GP b1 k1 (PySem.W.mg_of X G a1) GPF b3 k3 (PySem.W.mg_of X G a3) MH GH bH MX GJ bJ (PySem.W.mg_of X G aN) cF nK nF
 have GN:=ok_under (P:=l.prog) (w:=w) (base:=base) (mg:=mg) F4 FF lT GFi kf (PySem.W.mg_of X G af) (PySem.W.mg_of X G aN) x1
 have GL:=ok_least (P:=l.prog) (w:=w) (base:=base) (mg:=mg) F5 GP b1 k1 (PySem.W.mg_of X G a1) GPF b3 k3 (PySem.W.mg_of X G a3) GO b2 k2 (PySem.W.mg_of X G a2) (PySem.W.mg_none_of X G z6) (PySem.W.mg_none_of X G z5) cF nK nF
 have GA:=ok_deal (P:=l.prog) (w:=w) (base:=base) (mg:=mg) F6 (PySem.W.mg_none_of X G z1)
 have GD:=ok_draw (P:=l.prog) (w:=w) (base:=base) (mg:=mg) F7
 have GW:=ok_word (P:=l.prog) (w:=w) (base:=base) (mg:=mg) F8 (PySem.W.mg_none_of X G z3) GD b7 k7 (PySem.W.mg_of X G a7)
 have GNx:=ok_next (P:=l.prog) (w:=w) (base:=base) (mg:=mg) F9 (PySem.W.mg_none_of X G z1) (PySem.W.mg_none_of X G z8)
 have GV:=ok_wordsL (P:=l.prog) (w:=w) (base:=base) (mg:=mg) F10 (PySem.W.mg_none_of X G z3) GW b8 k8 (PySem.W.mg_of X G a8) GNx b9 k9 (PySem.W.mg_of X G a9)
 have GZ:=ok_sizeL (P:=l.prog) (w:=w) (base:=base) (mg:=mg) F12 b12 k12 (PySem.W.mg_of X G a12) 9
 have GK:=ok_anyK (P:=l.prog) (w:=w) (base:=base) (mg:=mg) F11 b11 k11 (PySem.W.mg_of X G a11) (PySem.W.mg_none_of X G z1) GD b7 k7 (PySem.W.mg_of X G a7) GZ b12 k12 (PySem.W.mg_of X G a12) 9
 have GF:=ok_faceL (P:=l.prog) (w:=w) (base:=base) (mg:=mg) F13 (PySem.W.mg_none_of X G z3) (PySem.W.mg_none_of X G z1) (PySem.W.mg_none_of X G z5) GD b7 k7 (PySem.W.mg_of X G a7) GK b11 k11 (PySem.W.mg_of X G a11)
 have GPL:=ok_putL (P:=l.prog) (w:=w) (base:=base) (mg:=mg) F14 b14 k14 (PySem.W.mg_of X G a14) 9
 have GQ:=ok_allL (P:=l.prog) (w:=w) (base:=base) (mg:=mg) F15 (PySem.W.mg_none_of X G z5) GPL b14 k14 (PySem.W.mg_of X G a14)
 have GC:=ok_clsL (P:=l.prog) (w:=w) (base:=base) (mg:=mg) F16
 have GM:=ok_leastL (P:=l.prog) (w:=w) (base:=base) (mg:=mg) F17 (PySem.W.mg_none_of X G z5) (PySem.W.mg_none_of X G z6) (PySem.W.mg_none_of X G z7) GC b16 k16 (PySem.W.mg_of X G a16) GQ b15 k15 (PySem.W.mg_of X G a15)
 have GOt:=ok_other (P:=l.prog) (w:=w) (base:=base) (mg:=mg) F18 (PySem.W.mg_none_of X G z6) GD b7 k7 (PySem.W.mg_of X G a7)
 have GT:=ok_turned (P:=l.prog) (w:=w) (base:=base) (mg:=mg) F19 (PySem.W.mg_none_of X G z1) GD b7 k7 (PySem.W.mg_of X G a7) GC b16 k16 (PySem.W.mg_of X G a16) GQ b15 k15 (PySem.W.mg_of X G a15) GOt b18 k18 (PySem.W.mg_of X G a18)
 have GHh:=ok_changed (P:=l.prog) (w:=w) (base:=base) (mg:=mg) F20 (PySem.W.mg_none_of X G z1) (PySem.W.mg_none_of X G z6) (PySem.W.mg_none_of X G z2) (PySem.W.mg_none_of X G z3) (PySem.W.mg_none_of X G z5) GD b7 k7 (PySem.W.mg_of X G a7) GC b16 k16 (PySem.W.mg_of X G a16) GQ b15 k15 (PySem.W.mg_of X G a15) GK b11 k11 (PySem.W.mg_of X G a11)
 exact ok_law (P:=l.prog) (w:=w) (base:=base) (mg:=mg) F21 (PySem.W.mg_none_of X G z3) (PySem.W.mg_none_of X G z6) (PySem.W.mg_none_of X G z2) GA b6 k6 (PySem.W.mg_of X G a6) GD b7 k7 (PySem.W.mg_of X G a7) GV b10 k10 (PySem.W.mg_of X G a10) GF b13 k13 (PySem.W.mg_of X G a13) GT b19 k19 (PySem.W.mg_of X G a19) GHh b20 k20 (PySem.W.mg_of X G a20) GM b17 k17 (PySem.W.mg_of X G a17) GL b5 k5 (PySem.W.mg_of X G a5) GN b4 k4 (PySem.W.mg_of X G a4) GI bI MF (PySem.W.mg_of X G aF) cF nK nF
theorem walk{l:PySem.W.OpenLaw}{q:Program}{loose:List Str}{XP:(Str→Option Value)→Heap→Prop}{YP:World→Heap→Prop}{d:DefRec}{K:Params→PySem.W.Frag}(hn:l.most=some 63)(hdf:d.params.defaults=[])
  (hY:∀(w:World) (h:Heap),YP w h→(K w.params).In h)
  (F:∀(w:World) (mg:Str→Option Value) (fa:Addr) (h:Heap),(K w.params).In h→h.Ns mainGlobals mg→mg d.name=some (.ref fa) →
   ∃fd:FuncData,(∀(s:Shared) (u:Value),BindsTo s fd ⟨[u],[]⟩ [("_law_script",u)])∧∀base:Heap,(K w.params).In base→base.Ns mainGlobals mg→FnOk l.prog w (K w.params) mg base CX0 21 fa fd ["_law_script"] (spLaw (K w.params))) :
  PySem.W.WalkO q loose XP YP l.row.toRowW d [] (fun f vs=>PySem.call f vs) :=
 L2.walk_of (n:=63) (k:=21) (x:="_law_script") (CX:=fun _=>CX0) (sp:=fun w=>spLaw (K w.params)) hn (by decide) hdf ⟨rfl,by decide,by decide,rfl⟩ hY F (fun _ _ a ns hl _ hS=>⟨a,ns,rfl,hS,hl,fun _=>rfl⟩) fun _ _ _ _ _ z=>z
end K27
open PySem PySem.W PyProof.Rows
set_option maxRecDepth 100000 in
set_option maxHeartbeats 0 in
theorem PySem.Challenge.cw_sealhouse_k27_whole_least_forms_holds : PySem.Challenge.rw_sealhouse_k27_whole_least_forms.Holds := by
 w_on;o_law;z_head;(case hw=>w_witness2)
 k_fill
 refine L2.walk_z (fun _=>rfl) ?_
 refine K27.walk (l:=PySem.Challenge.rw_sealhouse_k27_whole_least_forms) rfl rfl (fun w h Y=>Y) ?F
 case F =>
  intro w mg fa h KX G hmg
  refine' K27.all_mk KX G hmg ?a1 ?l1 ?c1 ?k1 ?a2 ?l2 ?c2 ?k2 ?a3 ?l3 ?c3 ?k3 ?a4 ?l4 ?c4 ?k4 ?a5 ?l5 ?c5 ?k5 ?a6 ?l6 ?c6 ?k6 ?a7 ?l7 ?c7 ?k7 ?a8 ?l8 ?c8 ?k8 ?a9 ?l9 ?c9 ?k9 ?a10 ?l10 ?c10 ?k10 ?a11 ?l11 ?c11 ?k11 ?a12 ?l12 ?c12 ?k12 ?a13 ?l13 ?c13 ?k13 ?a14 ?l14 ?c14 ?k14 ?a15 ?l15 ?c15 ?k15 ?a16 ?l16 ?c16 ?k16 ?a17 ?l17 ?c17 ?k17 ?a18 ?l18 ?c18 ?k18 ?a19 ?l19 ?c19 ?k19 ?a20 ?l20 ?c20 ?k20 ?a21 ?l21 ?c21 ?k21 ?aF ?aN ?aR ?af ?lf ?cf ?kf ?lT ?ih ?lh ?ch ?kh ?th ?iF ?li ?ci ?ki ?tF ?mk ?kF ?pg ?hd ?po ?sa ?nK ?nF ?jF ?lj ?cj ?kj ?tj ?xI ?bg ?br ?bf ?saN ?poN ?hdN ?obN ?x1 ?t_part ?t_name ?t_due ?t_found ?z1 ?z2 ?z3 ?z4 ?z5 ?z6 ?z7 ?z8
  (case a1=>k_is)
  (case l1=>k_is)
  (case c1=>k_is)
  (case k1=>k_is)
  (case a2=>k_is)
  (case l2=>k_is)
  (case c2=>k_is)
  (case k2=>k_is)
  (case a3=>k_is)
  (case l3=>k_is)
  (case c3=>k_is)
  (case k3=>k_is)
  (case a4=>k_is)
  (case l4=>k_is)
  (case c4=>k_is)
  (case k4=>k_is)
  (case a5=>k_is)
  (case l5=>k_is)
  (case c5=>k_is)
  (case k5=>k_is)
  (case a6=>k_is)
  (case l6=>k_is)
  (case c6=>k_is)
  (case k6=>k_is)
  (case a7=>k_is)
  (case l7=>k_is)
  (case c7=>k_is)
  (case k7=>k_is)
  (case a8=>k_is)
  (case l8=>k_is)
  (case c8=>k_is)
  (case k8=>k_is)
  (case a9=>k_is)
  (case l9=>k_is)
  (case c9=>k_is)
  (case k9=>k_is)
  (case a10=>k_is)
  (case l10=>k_is)
  (case c10=>k_is)
  (case k10=>k_is)
  (case a11=>k_is)
  (case l11=>k_is)
  (case c11=>k_is)
  (case k11=>k_is)
  (case a12=>k_is)
  (case l12=>k_is)
  (case c12=>k_is)
  (case k12=>k_is)
  (case a13=>k_is)
  (case l13=>k_is)
  (case c13=>k_is)
  (case k13=>k_is)
  (case a14=>k_is)
  (case l14=>k_is)
  (case c14=>k_is)
  (case k14=>k_is)
  (case a15=>k_is)
  (case l15=>k_is)
  (case c15=>k_is)
  (case k15=>k_is)
  (case a16=>k_is)
  (case l16=>k_is)
  (case c16=>k_is)
  (case k16=>k_is)
  (case a17=>k_is)
  (case l17=>k_is)
  (case c17=>k_is)
  (case k17=>k_is)
  (case a18=>k_is)
  (case l18=>k_is)
  (case c18=>k_is)
  (case k18=>k_is)
  (case a19=>k_is)
  (case l19=>k_is)
  (case c19=>k_is)
  (case k19=>k_is)
  (case a20=>k_is)
  (case l20=>k_is)
  (case c20=>k_is)
  (case k20=>k_is)
  (case a21=>k_is)
  (case l21=>k_is)
  (case c21=>k_is)
  (case k21=>k_is)
  (case aF=>k_is)
  (case aN=>k_is)
  (case aR=>k_is)
  (case af=>k_is)
  (case lf=>k_is)
  (case cf=>k_is)
  (case kf=>k_is)
  (case lT=>k_is)
  (case ih=>k_is)
  (case lh=>k_is)
  (case ch=>k_is)
  (case kh=>k_is)
  (case th=>k_is)
  (case iF=>k_is)
  (case li=>k_is)
  (case ci=>k_is)
  (case ki=>k_is)
  (case tF=>k_is)
  (case mk=>k_is)
  (case kF=>k_is)
  (case pg=>k_is)
  (case hd=>k_is)
  (case po=>k_is)
  (case sa=>k_is)
  (case nK=>k_is)
  (case nF=>k_is)
  (case jF=>k_is)
  (case lj=>k_is)
  (case cj=>k_is)
  (case kj=>k_is)
  (case tj=>k_is)
  (case xI=>with_unfolding_all exact rfl)
  (case bg=>k_is)
  (case br=>k_is)
  (case bf=>k_is)
  (case saN=>k_is)
  (case poN=>exact rfl)
  (case hdN=>k_is)
  (case obN=>k_is)
  (case x1=>exact rfl)
  (case t_part=>k_is)
  (case t_name=>k_is)
  (case t_due=>k_is)
  (case t_found=>k_is)
  (case z1=>k_is)
  (case z2=>k_is)
  (case z3=>k_is)
  (case z4=>k_is)
  (case z5=>k_is)
  (case z6=>k_is)
  (case z7=>k_is)
  (case z8=>k_is)
#print axioms PySem.Challenge.cw_sealhouse_k27_whole_least_forms_holds
