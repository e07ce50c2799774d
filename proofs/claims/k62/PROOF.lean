import PyProof.Rows.All
import Wide.All
import OpenK.AllK
import Wide.FinOn
import Lean
import PyProof.EqAt
import PyProof.EqKinds
import PyProof.TupleCall
import PySem.Challenge.RW_sealhouse_k62_plain_programs
set_option Elab.async false
set_option linter.all false
set_option maxRecDepth 100000
namespace L2
open PySem PySem.Spec PyProof.Rows
abbrev Key:=Sum Int Str
def keyIs:Key→Value→Bool
 |.inl k,v=>Value.isInt k v
 |.inr x,v=>Value.isStrOf x v
def keyH(w:World):Key→Int
 |.inl k=>hashInt k
 |.inr x=>hashStr w x
theorem keyIs_shape:∀{k:Key} {v:Value},keyIs k v=true→(∃i t,k=Sum.inl i∧v=Value.int i t)∨(∃x t,k=Sum.inr x∧v=Value.str x t)
 |.inl i,v,h=>by
  obtain⟨t,e⟩:=Value.isInt_shape (k:=i) (v:=v) h
  exact .inl ⟨i,t,rfl,e⟩
 |.inr x,v,h=>by
  obtain⟨t,e⟩:=Value.isStrOf_shape (x:=x) (v:=v) h
  exact .inr ⟨x,t,rfl,e⟩
theorem keyIs_int(i:Int)(t:Tok):keyIs (.inl i) (.int i t)=true:=by simp [keyIs,Value.isInt]
theorem keyIs_str(x:Str)(t:Tok):keyIs (.inr x) (.str x t)=true:=by simp [keyIs,Value.isStrOf]
theorem key_ll(a b:Int):decide ((Sum.inl a:Key)=Sum.inl b)=(a==b):=by
 by_cases e:a=b
 ·subst e;simp
 ·have h:¬(Sum.inl a:Key)=Sum.inl b:=fun q=>e (Sum.inl.inj q)
  rw [decide_eq_false h]
  exact(beq_eq_false_iff_ne.mpr e).symm
theorem key_rr(a b:Str):decide ((Sum.inr a:Key)=Sum.inr b)=decide (a=b):=by
 by_cases e:a=b
 ·subst e;simp
 ·have h:¬(Sum.inr a:Key)=Sum.inr b:=fun q=>e (Sum.inr.inj q)
  rw [decide_eq_false h,decide_eq_false e]
theorem key_lr(a:Int)(b:Str):decide ((Sum.inl a:Key)=Sum.inr b)=false:=decide_eq_false (fun q=>nomatch q)
theorem key_rl(a:Str)(b:Int):decide ((Sum.inr a:Key)=Sum.inl b)=false:=decide_eq_false (fun q=>nomatch q)
def mixKind(prog:Program)(w:World):PySem.KeyKind prog w Key where
 is:=keyIs
 hash:=keyH w
 inj:=fun v a b ha hb=>by
  rcases keyIs_shape ha with ⟨i,t,rfl,rfl⟩|⟨x,t,rfl,rfl⟩
  ·rcases keyIs_shape hb with ⟨j,u,rfl,e⟩|⟨y,u,rfl,e⟩
   ·injection e with e1 _;rw [e1]
   ·exact nomatch e
  ·rcases keyIs_shape hb with ⟨j,u,rfl,e⟩|⟨y,u,rfl,e⟩
   ·exact nomatch e
   ·injection e with e1 _;rw [e1]
 byValue:=fun k v h=>by
  rcases keyIs_shape h with ⟨i,t,rfl,rfl⟩|⟨x,t,rfl,rfl⟩<;>rfl
 pyHash:=fun hv h=>by
  rcases keyIs_shape hv with ⟨i,t,rfl,rfl⟩|⟨x,t,rfl,rfl⟩
  ·exact wpAny_pyHash_int h
  ·exact wpAny_pyHash_str h
 eqBool:=fun hu hv h=>by
  rcases keyIs_shape hu with ⟨i,t,rfl,rfl⟩|⟨x,t,rfl,rfl⟩
  ·rcases keyIs_shape hv with ⟨j,u,rfl,rfl⟩|⟨y,u,rfl,rfl⟩
   ·rw [key_ll] at h;exact wpAny_eqBool_int h
   ·rw [key_lr] at h;exact SeqAt.EqAt.int_str i t y u _ _ _ _ h
  ·rcases keyIs_shape hv with ⟨j,u,rfl,rfl⟩|⟨y,u,rfl,rfl⟩
   ·rw [key_rl] at h;exact SeqAt.EqAt.str_int x t j u _ _ _ _ h
   ·rw [key_rr] at h;exact wpAny_eqBool_str h
 «strs»:=fun k x t v h=>by
  rcases keyIs_shape h with ⟨i,u,rfl,e⟩|⟨y,u,rfl,e⟩
  ·exact nomatch e
  ·injection e with e1 _
   subst e1
   cases v<;>rfl
theorem mixKind_int(prog:Program)(w:World)(i:Int)(t:Tok):(mixKind prog w).is (.inl i) (.int i t)=true:=keyIs_int i t
theorem mixKind_str(prog:Program)(w:World)(x:Str)(t:Tok):(mixKind prog w).is (.inr x) (.str x t)=true:=keyIs_str x t
end L2
namespace L2
open PySem PySem.Spec PyProof.Rows
inductive V where
 |non|bl (b:Bool)|int (i:Int)|str (x:Str)|byt (b:Array UInt8)|flt (b:UInt64)|ref (a:Addr)|ty (n:String)
 deriving DecidableEq
def RelV:V→Value→Prop
 |.non,u=>u=Value.none
 |.bl b,u=>u=Value.bool b
 |.int i,u=>∃t,u=Value.int i t
 |.str x,u=>∃t,u=Value.str x t
 |.byt b,u=>∃t,u=Value.bytes b t
 |.flt b,u=>∃t,u=Value.float b t
 |.ref a,u=>u=Value.ref a
 |.ty n,u=>u=Value.type n
abbrev Vals:List V→List Value→Prop:=Paired RelV
theorem Vals.length{xs:List V}{us:List Value}(r:Vals xs us):xs.length=us.length:=Paired.length r
theorem Vals.get:∀{xs:List V} {us:List Value} {i:Nat} {x:V},Vals xs us→xs[i]?=some x→∃u,us[i]?=some u∧RelV x u
 |_,_,_,_,.nil,e=>by simp at e
 |_,_,0,_,.cons r _,e=>by simp at e;subst e;exact⟨_,rfl,r⟩
 |_,_,i+1,x,.cons _ t,e=>by
  obtain⟨u,h1,h2⟩:=Vals.get (i:=i) (x:=x) t (by simpa using e)
  exact⟨u,by simpa using h1,h2⟩
theorem Vals.set{x:V}{u:Value}(r:RelV x u):∀{xs:List V} {us:List Value} (i:Nat),Vals xs us→Vals (xs.set i x) (us.set i u)
 |_,_,_,.nil=>.nil
 |_,_,0,.cons _ t=>.cons r t
 |_,_,i+1,.cons q t=>.cons q (Vals.set r i t)
theorem Vals.append:∀{xs ys:List V} {us ws:List Value},Vals xs us→Vals ys ws→Vals (xs++ys) (us++ws)
 |_,_,_,_,.nil,s=>s
 |_,_,_,_,.cons r t,s=>.cons r (Vals.append t s)
theorem Vals.take:∀{xs:List V} {us:List Value} (n:Nat),Vals xs us→Vals (xs.take n) (us.take n)
 |_,_,0,_=>.nil
 |_,_,_+1,.nil=>.nil
 |_,_,n+1,.cons r t=>.cons r (Vals.take n t)
theorem Vals.drop:∀{xs:List V} {us:List Value} (n:Nat),Vals xs us→Vals (xs.drop n) (us.drop n)
 |_,_,0,r=>r
 |_,_,_+1,.nil=>.nil
 |_,_,n+1,.cons _ t=>Vals.drop n t
def RelO:Option V→Option Value→Prop
 |some v,some u=>RelV v u
 |none,none=>True
 |_,_=>False
def KV{κ:Type}:List (κ × V)→List (κ × Value)→Prop:=Paired fun(p:κ × V) (q:κ × Value)=>p.1=q.1∧RelV p.2 q.2
def kV:Key→V
 |.inl i=>.int i
 |.inr x=>.str x
inductive HO where
 |lst (xs:List V)
 |tup (xs:List V)
 |dK (kvs:List (Key × V))|dT (kvs:List (List Key × V))
 |set (S:Int→Bool) (n:Nat)
 |ins (C dx:Addr) (fs:List (Str × V))
 |own (x:Addr)
 |xd (fs:List (Str × V))
 |met (f x:Addr)
 |rng (lo hi:Int)
 |frz (o:Obj) (u:HO)
 |tbl (ps:Array Value)
 |cod (q:Str)|cel (v:V)|fnc (fd:FuncData)
 |ext (φ:Heap→Prop)
abbrev Hp:=Addr→Option HO
def upd(H:Hp)(a:Addr)(o:HO):Hp:=fun b=>if b=a then some o else H b
theorem upd_same{H:Hp}{a:Addr}{o:HO}:upd H a o a=some o:=by unfold upd;rw [if_pos rfl]
theorem upd_ne{H:Hp}{a b:Addr}{o:HO}(h:b≠a):upd H a o b=H b:=by unfold upd;rw [if_neg h]
theorem upd_upd{H:Hp}{a:Addr}{o u:HO}:upd (upd H a o) a u=upd H a u:=by
 funext b;unfold upd;split<;>rfl
theorem ne_of{H:Hp}{a b:Addr}{o u:HO}(h:H a=some o)(h':H b=some u)(d:o≠u):a≠b:=by
 intro e;subst e;rw [h] at h';exact d (Option.some.inj h')
theorem ne_of_none{H:Hp}{a b:Addr}{o:HO}(h:H a=some o)(h':H b=none):a≠b:=by
 intro e;subst e;rw [h] at h';cases h'
def qualAt:List Value→Pos→Option Str
 |.int l _::.int c _::.str q _::r,p=>if l==p.line&&c==p.col then some q else qualAt r p
 |_,_=>none
inductive FxO where
 |tup (xs:List V)|cod (q:Str)
def FxO.ho:FxO→HO
 |.tup xs=>.tup xs
 |.cod q=>.cod q
section
variable(P:Program)(w:World)
def ObjOk(H:Hp)(h:Heap)(a:Addr):HO→Prop
 |.lst xs=>xs.length≤sizeLine∧∃(its:List Value) (n:Nat),Vals xs its∧h.get? a=some { cls:=.type "list",data:=.seq its.toArray n }
 |.tup xs=>xs.length≤sizeLine∧∃its:List Value,Vals xs its∧IsTup h a its.toArray
 |.dK kvs=>kvs.length≤sizeLine∧(a==sysModules)=false∧∃vs,KV kvs vs∧h.DictOf (mixKind P w) a vs
 |.dT kvs=>kvs.length≤sizeLine∧(a==sysModules)=false∧∃xs:List (List Key × Addr × Value),
   Paired (fun(p:List Key × V) (q:List Key × Addr × Value)=>p.1=q.1∧H q.2.1=some (.tup (p.1.map kV))∧RelV p.2 q.2.2) kvs xs ∧
   ∃o es ep,h.get? a=some o∧o.ExactDict∧o.data=.dict es ep∧es.toList=xs.map (entryOfKey (tupleKind (mixKind P w)))∧(xs.map (·.1)).Nodup
 |.set S n=>h.SetOf (intKind P w) a S n
 |.ins C dx fs=>H dx=some (.own a)∧fs.length≤1000∧dx≠a∧h.get? a=some (PySem.W.instObj C dx) ∧
   ∃mA,h.Ns1 dx mA∧(∀f,RelO (fs.lookup f) (mA f))∧PySem.Within mA (fs.map (·.1))
 |.own _=>∃o,h.get? a=some o
 |.xd fs=>∃mA,h.Ns1 a mA∧∀f,RelO (fs.lookup f) (mA f)
 |.rng lo hi=>∃t u v,h.get? a=some { cls:=.type "range",data:=.fields #[.int lo t,.int hi u,.int 1 v] }
 |.frz o u=>h.get? a=some o∧ObjOk H h a u
 |.tbl ps=>∃tb:Array Value,h.get? a=some { cls:=.none,data:=.fields tb }∧TriplesOk tb.toList∧∀(p:Pos) (q:Str),qualAt ps.toList p=some q→∀cv,codeAmong p tb.toList=some cv→∃c,cv=Value.ref c∧H c=some (.cod q)
 |.cod q=>h.CodeRec (.ref a) q
 |.cel v=>∃u,RelV v u∧h.IsCell a (some u)
 |.fnc fd=>∃oc od sl,h.get? a=some ⟨oc,od,.func fd,sl⟩
 |.met f x=>h.get? a=some (PySem.W.methodObj (.ref f) (.ref x))
 |.ext φ=>φ h∧(∃o,h.get? a=some o)∧∀h1 h2:Heap,φ h1→(∀o,h1.get? a=some o→h2.get? a=some o)→φ h2
def HOk(H:Hp)(h:Heap):Prop:=∀a o,H a=some o→ObjOk P w H h a o
end
section
variable{P:Program}{w:World}{H H':Hp}{h h':Heap}{a:Addr}{o:HO}
theorem ObjOk.lt(x:ObjOk P w H h a o):a < h.objs.size:=by
 cases o with
 |lst xs=>obtain⟨_,_,_,_,e⟩:=x;exact Heap.lt_size e
 |tup xs=>obtain⟨_,_,_,p⟩:=x;exact p.lt
 |dK kvs=>obtain⟨_,_,_,_,o,_,_,e,_⟩:=x;exact Heap.lt_size e
 |dT kvs=>obtain⟨_,_,_,_,o,_,_,e,_⟩:=x;exact Heap.lt_size e
 |set S n=>obtain⟨o,_,_,_,e,_⟩:=x;exact Heap.lt_size e
 |ins C dx fs=>obtain⟨_,_,_,e,_⟩:=x;exact Heap.lt_size e
 |own y=>obtain⟨_,e⟩:=x;exact Heap.lt_size e
 |xd fs=>obtain⟨_,⟨_,_,_,e,_⟩,_⟩:=x;exact Heap.lt_size e
 |rng lo hi=>obtain⟨_,_,_,e⟩:=x;exact Heap.lt_size e
 |frz ob u=>obtain⟨e,_⟩:=x;exact Heap.lt_size e
 |tbl ps=>obtain⟨_,e,_⟩:=x;exact Heap.lt_size e
 |cod q=>obtain⟨_,_,_,_,e0,e,_⟩:=x;cases e0;exact Heap.lt_size e
 |cel v=>obtain⟨_,_,_,e,_⟩:=x;exact Heap.lt_size e
 |fnc fd=>obtain⟨_,_,_,e⟩:=x;exact Heap.lt_size e
 |met f y=>exact Heap.lt_size (show h.get? a=some _ from x)
 |ext φ=>obtain⟨_,⟨_,e⟩,_⟩:=x;exact Heap.lt_size e
theorem Paired.mapP{α β:Type}{F G:α→β→Prop}:∀{l₁:List α} {l₂:List β},Paired F l₁ l₂→(∀a b,F a b→G a b)→Paired G l₁ l₂
 |_,_,.nil,_=>.nil
 |_,_,.cons r t,f=>.cons (f _ _ r) (Paired.mapP t f)
theorem ObjOk.stay(x:ObjOk P w H h a o)(k:∀b u,(b=a∨H b=some (.own a))→h.get? b=some u→h'.get? b=some u)
  (ho:∀b,H b=some (.own a)→H' b=some (.own a)) (ht:∀b (xs:FxO),H b=some xs.ho→H' b=some xs.ho):ObjOk P w H' h' a o:=by
 induction o with
 |lst xs=>obtain⟨z,its,n,r,e⟩:=x;exact⟨z,its,n,r,k _ _ (.inl rfl) e⟩
 |tup xs=>obtain⟨z,its,r,ob,e,c⟩:=x;exact⟨z,its,r,ob,k _ _ (.inl rfl) e,c⟩
 |dK kvs=>obtain⟨z,y,vs,r,ob,es,ep,e,c⟩:=x;exact⟨z,y,vs,r,ob,es,ep,k _ _ (.inl rfl) e,c⟩
 |dT kvs =>
  obtain⟨z,y,xs,r,ob,es,ep,e,c⟩:=x
  exact⟨z,y,xs,Paired.mapP r fun p q z=>⟨z.1,ht _ (.tup _) z.2.1,z.2.2⟩,ob,es,ep,k _ _ (.inl rfl) e,c⟩
 |set S n=>obtain⟨ob,es,ep,t,e,c⟩:=x;exact⟨ob,es,ep,t,k _ _ (.inl rfl) e,c⟩
 |ins C dx fs =>
  obtain⟨d,z,ne,e,mA,⟨od,es,ep,e2,c⟩,r⟩:=x
  exact⟨ho _ d,z,ne,k _ _ (.inl rfl) e,mA,⟨od,es,ep,k _ _ (.inr d) e2,c⟩,r⟩
 |own y=>obtain⟨ob,e⟩:=x;exact⟨ob,k _ _ (.inl rfl) e⟩
 |xd fs=>obtain⟨mA,⟨od,es,ep,e,c⟩,r⟩:=x;exact⟨mA,⟨od,es,ep,k _ _ (.inl rfl) e,c⟩,r⟩
 |rng lo hi=>obtain⟨t,u,v,e⟩:=x;exact⟨t,u,v,k _ _ (.inl rfl) e⟩
 |frz ob u ih=>obtain⟨e,q⟩:=x;exact⟨k _ _ (.inl rfl) e,ih q⟩
 |tbl ps =>
  obtain⟨tb,e,tr,q⟩:=x
  exact⟨tb,k a _ (.inl rfl) e,tr,fun p z hz cv hc=>let ⟨c,e1,e2⟩:=q p z hz cv hc;⟨c,e1,ht c (.cod z) e2⟩⟩
 |cod q=>obtain⟨c,ob,vs,t,e0,e,r⟩:=x;cases e0;exact⟨_,ob,vs,t,rfl,k _ _ (.inl rfl) e,r⟩
 |cel v=>obtain⟨u,r,ob,e,d⟩:=x;exact⟨u,r,ob,k _ _ (.inl rfl) e,d⟩
 |fnc fd=>obtain⟨oc,od,sl,e⟩:=x;exact⟨oc,od,sl,k _ _ (.inl rfl) e⟩
 |met f y =>
  have e:h.get? a=some (PySem.W.methodObj (.ref f) (.ref y)):=x
  show h'.get? a=some (PySem.W.methodObj (.ref f) (.ref y))
  exact k a _ (.inl rfl) e
 |ext φ=>obtain⟨p,⟨o,e⟩,st⟩:=x;exact⟨st _ _ p fun o q=>k _ _ (.inl rfl) q,⟨o,k _ _ (.inl rfl) e⟩,st⟩
theorem HOk.lt(x:HOk P w H h)(e:H a=some o):a < h.objs.size:=(x a o e).lt
theorem HOk.fresh(x:HOk P w H h)(e:h.objs.size≤a):H a=none:=by
 cases q:H a with
 |none=>rfl
 |some u=>exact absurd (Nat.lt_of_lt_of_le (x.lt q) e) (Nat.lt_irrefl _)
theorem HOk.kept(x:HOk P w H h)(k:∀b u,h.get? b=some u→h'.get? b=some u):HOk P w H h':=fun a o e =>
 (x a o e).stay (fun b u _ q=>k b u q) (fun _ q=>q) fun _ _ q=>q
theorem HOk.laid(x:HOk P w H h)(k:∀b u,h.get? b=some u→h'.get? b=some u)(hp:h.objs.size≤a)(new:ObjOk P w (upd H a o) h' a o):HOk P w (upd H a o) h':=fun b u e=>by
 have hn:=x.fresh hp
 by_cases hb:b=a
 ·subst hb;rw [upd_same] at e;cases e;exact new
 ·rw [upd_ne hb] at e
  exact(x b u e).stay (fun c v _ q=>k c v q) (fun c q=>by rw [upd_ne (ne_of_none q hn)];exact q) fun c xs q=>by rw [upd_ne (ne_of_none q hn)];exact q
end
def Rd(H:Hp)(a:Addr)(u:HO):Prop:=H a=some u∨∃o,H a=some (.frz o u)
theorem Rd.ok{P:Program}{w:World}{H:Hp}{h:Heap}{a:Addr}{u:HO}(r:Rd H a u)(x:HOk P w H h):ObjOk P w H h a u:=by
 rcases r with r|⟨o,r⟩
 ·exact x a u r
 ·obtain⟨_,q⟩:=x a _ r
  exact q
def Mut:Option HO→Prop
 |some (.lst _)=>True
 |some (.dK _)=>True
 |some (.dT _)=>True
 |some (.set _ _)=>True
 |some (.ins _ _ _)=>True
 |some (.ext _)=>True
 |_=>False
section
variable{P:Program}{w:World}{H:Hp}{h h':Heap}{x e:Addr}{o':HO}
theorem HOk.write(ok:HOk P w H h)(mu:Mut (H x))(he:e=x∨H e=some (.own x))(k:∀b u,b≠e→h.get? b=some u→h'.get? b=some u)(heo:∃u,h'.get? e=some u)
  (new:ObjOk P w (upd H x o') h' x o'):HOk P w (upd H x o') h':=fun b u q=>by
 have nown:∀c y,H c=some (.own y)→c≠x:=fun c y r z=>by subst z;rw [r] at mu;exact mu
 have ntup:∀c (xs:FxO),H c=some xs.ho→c≠x:=fun c xs r z=>by subst z;rw [r] at mu;cases xs<;>exact mu
 by_cases hb:b=x
 ·subst hb;rw [upd_same] at q;cases q;exact new
 ·rw [upd_ne hb] at q
  by_cases hbe:b=e
  ·have q':H b=some (.own x):=by
    rcases he with z|z
    ·exact absurd (hbe.trans z) hb
    ·rw [hbe];exact z
   rw [q] at q';cases q'
   obtain⟨v,hv⟩:=heo
   exact⟨v,by rw [hbe];exact hv⟩
  ·refine(ok b u q).stay (fun c v hc r=>k c v ?_ r) (fun c r=>by rw [upd_ne (nown c b r)];exact r) fun c xs r=>by rw [upd_ne (ntup c xs r)];exact r
   rcases hc with rfl|hc
   ·exact hbe
   ·rintro rfl
    rcases he with z|z
    ·exact nown c b hc z
    ·rw [hc] at z;cases z;exact hb rfl
end
structure Un(fs ex:List Addr)(H H':Hp)(h h':Heap):Prop where
 keep:∀b o,h.get? b=some o→H b=none→b∉fs→b∉ex→h'.get? b=some o
 slot:∀b o,h.get? b=some o→H b=none→b∈fs→b∉ex→∃sl,h'.get? b=some { o with slots:=sl }
 free:∀b o,h.get? b=some o→H b=none→b∉ex→H' b=none
 there:∀b o,h.get? b=some o→b∉ex→∃o',h'.get? b=some o'
 tups:∀b xs,H b=some (.tup xs)→H' b=some (.tup xs)
 frzs:∀b o u,H b=some (.frz o u)→H' b=some (.frz o u)
 tbls:∀b ps,H b=some (.tbl ps)→∃more,H' b=some (.tbl (ps++more))
section
variable{fs fs' ex ex':List Addr}{H H1 H2:Hp}{h h1 h2 h':Heap}{a x e:Addr}{o:HO}
theorem Un.any(u:Un fs ex H H1 h h1){b:Addr}{ob:Obj}(q:h.get? b=some ob)(n:H b=none)(hx:b∉ex):∃sl,h1.get? b=some { ob with slots:=sl }:=by
 by_cases hb:b∈fs
 ·exact u.slot b ob q n hb hx
 ·exact⟨ob.slots,u.keep b ob q n hb hx⟩
theorem Un.kept(k:∀b u,h.get? b=some u→h'.get? b=some u):Un fs ex H H h h' :=
 ⟨fun b ob q _ _ _=>k b ob q,fun b ob q _ _ _=>⟨ob.slots,k b ob q⟩,fun _ _ _ n _=>n,fun b ob q _=>⟨ob,k b ob q⟩,fun _ _ q=>q,fun _ _ _ q=>q,fun _ ps q=>⟨#[],by rw [q];simp⟩⟩
theorem Un.refl:Un fs ex H H h h:=Un.kept fun _ _ q=>q
theorem Un.laid(k:∀b u,h.get? b=some u→h'.get? b=some u)(hp:h.objs.size≤a)(hn:H a=none):Un fs ex H (upd H a o) h h' where
 keep:=fun b u q _ _ _=>k b u q
 slot:=fun b u q _ _ _=>⟨u.slots,k b u q⟩
 free:=fun b u q n _=>by rw [upd_ne (Nat.ne_of_lt (Nat.lt_of_lt_of_le (Heap.lt_size q) hp))];exact n
 there:=fun b u q _=>⟨u,k b u q⟩
 tups:=fun b xs q=>by rw [upd_ne (ne_of_none q hn)];exact q
 frzs:=fun b u xs q=>by rw [upd_ne (ne_of_none q hn)];exact q
 tbls:=fun b ps q=>⟨#[],by rw [upd_ne (ne_of_none q hn),q];simp⟩
theorem Un.write(mu:Mut (H x))(he:e=x∨H e=some (.own x))(k:∀b u,b≠e→h.get? b=some u→h'.get? b=some u)(heo:∃u,h'.get? e=some u):Un fs ex H (upd H x o) h h':=by
 have hx:∀b,H b=none→b≠x:=fun b n z=>by subst z;rw [n] at mu;exact mu
 have hb:∀b,H b=none→b≠e:=fun b n z=>by
  subst z
  rcases he with r|r
  ·exact hx b n r
  ·rw [n] at r;cases r
 have hm:∀b u,H b=some u→¬Mut (some u)→b≠x:=fun b u q nm z=>by subst z;rw [q] at mu;exact nm mu
 refine⟨fun b u q n _ _=>k b u (hb b n) q,fun b u q n _ _=>⟨u.slots,k b u (hb b n) q⟩,fun b u q n _=>by rw [upd_ne (hx b n)];exact n,fun b u q _=>?_,
  fun b xs q=>by rw [upd_ne (hm b _ q fun z=>z)];exact q,fun b u xs q=>by rw [upd_ne (hm b _ q fun z=>z)];exact q,fun b ps q=>⟨#[],by rw [upd_ne (hm b _ q fun z=>z),q];simp⟩⟩
 by_cases hbe:b=e
 ·subst hbe;exact heo
 ·exact⟨u,k b u hbe q⟩
end
def trk(h:Heap)(H:Hp):List Addr:=(List.range h.objs.size).filter fun a=>(H a).isSome
def hidT(h:Heap)(H:Hp):Heap:=PySem.W.hideAll h (trk h H)
theorem hidT_size(h:Heap)(H:Hp):(hidT h H).objs.size=h.objs.size:=PySem.W.hideAll_size _ _
theorem hidT_get{h:Heap}{H:Hp}{b:Addr}{o:Obj}(e:h.get? b=some o)(n:H b=none):(hidT h H).get? b=some o :=
 PySem.W.hideAll_get _ e fun hm=>by
  have q:(H b).isSome=true:=(List.mem_filter.mp hm).2
  rw [n] at q;simp at q
theorem of_hidT{h:Heap}{H:Hp}{b:Addr}{o:Obj}(e:(hidT h H).get? b=some o):h.get? b=some o∧H b=none:=by
 have e':h.get? b=some o:=PySem.W.of_hideAll (trk h H) e
 refine⟨e',?_⟩
 cases q:H b with
 |none=>rfl
 |some x =>
  have hm:b∈trk h H:=List.mem_filter.mpr ⟨List.mem_range.mpr (Heap.lt_size e'),by simp [q]⟩
  have z:(hidT h H).get? b=none:=PySem.W.hideAll_none (trk h H) hm
  rw [z] at e;cases e
def allNews(g h:Heap)(L:Addr):List (Addr × Obj):=(List.range h.objs.size).filterMap fun a=>if a=L∨(g.get? a).isSome=true then none else (h.get? a).map fun o=>(a,o)
def rest(g h:Heap)(L d:Addr):List (Addr × Obj):=(allNews g h L).filter fun p=>decide (p.1≠d)
end L2
namespace L2
open PySem PySem.Spec PyProof.Rows
structure Mod(K:PySem.W.Frag)(mg:Str→Option Value)(base:Heap):Prop where
 kin:K.In base
 glob:base.Ns mainGlobals mg
 blt:∃mb,base.Ns builtinsNs mb∧∀x:Str,x≠"__name__"→mb x=bootBuiltins x
 nolimit:base.NoLimit
 bmn:∃bm ob,mg "__builtins__"=some (.ref bm)∧bm≠builtinsNs∧base.get? bm=some ob∧ob.cls=.type "module"∧ob.dict=some builtinsNs∧ob.data=.plain
structure Cx where
 prog:Program
 w:World
 K:PySem.W.Frag
 mg:Str→Option Value
 base:Heap
 A:Around
 N:List Str
 s₀:Shared
 H₀:Hp
 env:Env
 outer:List Env
 stack:List Env
 ex:List Addr
 fn:Str→Bool
 calm:Bool
 pn:List (Addr × Obj)
 xe:Value→Shared→Prop
def frs(l:List Env):List Addr:=l.filterMap (·.frame)
abbrev Cx.fs(X:Cx):List Addr:=frs X.outer
def Vis(sc:Scope)(x:Str):Prop:=sc.names.lookup x=some .local∨sc.names.lookup x=some .cell∨sc.names.lookup x=some .free
def Loc(sc:Scope)(x:Str):Prop:=sc.names.lookup x=some .local∨sc.names.lookup x=some .cell
def Look(env:Env)(h:Heap)(m:Str→Option Value)(x:Str)(u:Value):Prop :=
 (env.kindOf x=some .local∧m x=some u)∨((env.kindOf x=some .cell∨env.kindOf x=some .free)∧∃c,env.cells.lookup x=some c∧h.IsCell c (some u))
structure Cx.Ok(X:Cx):Prop where
 mod:Mod X.K X.mg X.base
 kind:X.env.scope.kind=.function
 glob:X.env.globals=mainGlobals
 blt:X.env.builtins=builtinsNs
 above:X.s₀.heap.objs.size≤X.env.locals
 inj:∀x y c,X.env.cells.lookup x=some c→X.env.cells.lookup y=some c→x=y
 has:∀x,(X.env.kindOf x=some .cell∨X.env.kindOf x=some .free)→∃c,X.env.cells.lookup x=some c
 cab:∀x c,X.fn x=true→X.env.cells.lookup x=some c→X.s₀.heap.objs.size≤c
 hd:X.calm=true→X.A.handled=none
 frames:X.A.frames=some X.stack
 stk:X.stack=X.outer∨(X.stack=X.env::X.outer∧X.env.frame=some X.env.locals)
 exf:∀b∈X.ex,b≠X.env.locals∧∀x c,X.env.cells.lookup x=some c→c≠b
 bs:∀b o,X.base.get? b=some o→X.s₀.heap.get? b=some o∧X.H₀ b=none
 bsz:X.base.objs.size≤X.s₀.heap.objs.size
 noex:∀b o,X.base.get? b=some o→b∉X.ex
 exfs:∀b∈X.ex,b∉X.fs
 funs:X.s₀.heap.FunFrames X.base X.outer
 frf:∀b∈X.fs,X.H₀ b=none
structure Inv(X:Cx)(pins:List (Addr × Obj))(σ:List (Option V))(H:Hp)(s:Shared):Prop where
 ok:X.Ok
 os:s.os=X.s₀.os
 bare:AllBare s.gens
 base:Un X.fs X.ex X.H₀ H X.s₀.heap s.heap
 loc:∃m,s.heap.Ns X.env.locals m∧∀(i:Nat) (x:Str) (v:V),X.N[i]?=some x→σ[i]?=some (some v)→Vis X.env.scope x→∃u,RelV v u∧Look X.env s.heap m x u
 cell:∀x c,X.env.cells.lookup x=some c→∃v,s.heap.IsCell c v
 free:H X.env.locals=none
 freeC:∀x c,X.env.cells.lookup x=some c→H c=none
 pin:∀p∈X.pn++pins,s.heap.get? p.1=some p.2∧H p.1=none∧p.1≠X.env.locals∧p.1∉X.fs∧∀v,p.2.data≠.cell v
 hok:HOk X.prog X.w H s.heap
 len:σ.length=X.N.length
section
variable{X:Cx}{pins:List (Addr × Obj)}{σ:List (Option V)}{H H':Hp}{s:Shared}{h':Heap}
theorem Cx.Ok.nofr(ok:X.Ok){b:Addr}{o:Obj}(e:X.base.get? b=some o):b∉X.fs:=fun hb=>by
 have:=(ok.funs.mem hb).1
 rw [e] at this;cases this
theorem Inv.bs(I:Inv X pins σ H s):∀b o,X.base.get? b=some o→s.heap.get? b=some o∧H b=none:=fun b o e =>
 ⟨I.base.keep b o (I.ok.bs b o e).1 (I.ok.bs b o e).2 (I.ok.nofr e) (I.ok.noex b o e),I.base.free b o (I.ok.bs b o e).1 (I.ok.bs b o e).2 (I.ok.noex b o e)⟩
theorem Inv.bk(I:Inv X pins σ H s):∀b o,X.base.get? b=some o→s.heap.get? b=some o:=fun b o e=>(I.bs b o e).1
theorem Inv.mod(I:Inv X pins σ H s):Mod X.K X.mg X.base:=I.ok.mod
theorem Inv.kIn(I:Inv X pins σ H s):X.K.In s.heap:=I.ok.mod.kin.keeps I.bk
theorem Inv.lt(I:Inv X pins σ H s):X.env.locals < s.heap.objs.size:=let ⟨_,hn,_⟩:=I.loc;hn.lt
theorem Inv.sz(I:Inv X pins σ H s):X.s₀.heap.objs.size≤s.heap.objs.size:=Nat.le_trans I.ok.above (Nat.le_of_lt I.lt)
theorem Inv.nofs(I:Inv X pins σ H s){a:Addr}(h:s.heap.objs.size≤a):a∉X.fs:=fun hb=>by
 obtain⟨_,o,ho,_⟩:=I.ok.funs.mem hb
 exact absurd (Nat.lt_of_lt_of_le (Heap.lt_size ho) (Nat.le_trans I.sz h)) (Nat.lt_irrefl _)
theorem Inv.cne(I:Inv X pins σ H s):∀x c,X.env.cells.lookup x=some c→c≠X.env.locals:=fun x c e z=>by
 obtain⟨v,o,ho,hd⟩:=I.cell x c e
 obtain⟨m,⟨o',es,ep,ho',hd',_⟩,_⟩:=I.loc
 rw [z,ho'] at ho;cases ho;rw [hd'] at hd;cases hd
theorem Inv.funs(I:Inv X pins σ H s):s.heap.FunFrames X.base X.outer:=by
 have all:∀(l:List Env),(∀b∈frs l,b∈X.fs)→X.s₀.heap.FunFrames X.base l→s.heap.FunFrames X.base l:=by
  intro l
  induction l with
  |nil=>intro _ _;trivial
  |cons env r ih =>
   intro hs hl
   obtain⟨hk,⟨L,o,hf,hn,ho,hd⟩,hr⟩:=hl
   have hL:L∈X.fs:=hs L (by unfold frs;rw [List.filterMap_cons,hf];exact List.mem_cons_self)
   obtain⟨sl,e⟩:=I.base.slot L o ho (I.ok.frf L hL) hL fun z=>I.ok.exfs L z hL
   exact⟨hk,⟨L,_,hf,hn,e,hd⟩,ih (fun b hb=>hs b (by unfold frs;rw [List.filterMap_cons,hf];exact List.mem_cons_of_mem _ hb)) hr⟩
 exact all X.outer (fun _ hb=>hb) I.ok.funs
theorem Inv.stack(I:Inv X pins σ H s):s.heap.FunFrames X.base X.stack:=by
 rcases I.ok.stk with e|⟨e,hf⟩
 ·rw [e];exact I.funs
 ·rw [e]
  obtain⟨m,hn,_⟩:=I.loc
  refine .cons (by rw [I.ok.kind];decide) hf hn ?_ I.funs
  exact Heap.get?_none_of_le (Nat.le_trans I.ok.bsz I.ok.above)
theorem Inv.stkSub(I:Inv X pins σ H s):∀b∈frs X.stack,b∈X.env.locals::X.fs:=fun b hb=>by
 rcases I.ok.stk with e|⟨e,hf⟩
 ·rw [e] at hb;exact List.mem_cons_of_mem _ hb
 ·rw [e] at hb
  unfold frs at hb
  rw [List.filterMap_cons,hf] at hb
  exact hb
theorem Inv.stkFree(I:Inv X pins σ H s):∀b∈frs X.stack,H b=none:=fun b hb=>by
 rcases List.mem_cons.mp (I.stkSub b hb) with e|hb
 ·rw [e];exact I.free
 ·obtain⟨_,o,ho,_⟩:=I.ok.funs.mem hb
  exact I.base.free b o ho (I.ok.frf b hb) fun z=>I.ok.exfs b z hb
theorem Inv.step{g':Array GenState}{t':Nat}{d':Drawn}{ch:List Addr}(I:Inv X pins σ H s)
  (hch:∀b∈ch,(b∈X.ex∨X.s₀.heap.objs.size≤b)∧b≠X.env.locals∧(∀x c,X.env.cells.lookup x=some c→c≠b)∧∀p∈X.pn++pins,p.1≠b)
  (keep:∀b o,b≠X.env.locals→b∉X.fs→b∉ch→s.heap.get? b=some o→H b=none→h'.get? b=some o)
  (slot:∀b o,b≠X.env.locals→b∈X.fs→b∉ch→s.heap.get? b=some o→H b=none→∃sl,h'.get? b=some { o with slots:=sl }) (free:∀b o,b∉ch→s.heap.get? b=some o→H b=none→H' b=none)
  (there:∀b o,b∉ch→s.heap.get? b=some o→∃o',h'.get? b=some o')
  (tups:∀b xs,H b=some (.tup xs)→H' b=some (.tup xs)) (frzs:∀b o u,H b=some (.frz o u)→H' b=some (.frz o u)) (tbls:∀b ps,H b=some (.tbl ps)→∃more,H' b=some (.tbl (ps++more)))
  (ns:∀m,s.heap.Ns X.env.locals m→h'.Ns X.env.locals m) (hok:HOk X.prog X.w H' h') (hg:AllBare g') :
  Inv X pins σ H' { s with heap:=h',gens:=g',drawn:=d',toks:=t' }:=by
 have neL:∀b o,X.s₀.heap.get? b=some o→b≠X.env.locals:=fun b o e=>Nat.ne_of_lt (Nat.lt_of_lt_of_le (Heap.lt_size e) I.ok.above)
 have neC:∀b o,X.s₀.heap.get? b=some o→b∉X.ex→b∉ch:=fun b o e hx hb=>by
  rcases (hch b hb).1 with z|z
  ·exact hx z
  ·exact absurd (Nat.lt_of_lt_of_le (Heap.lt_size e) z) (Nat.lt_irrefl _)
 have cellK:∀x c,X.env.cells.lookup x=some c→∀v,s.heap.IsCell c v→h'.IsCell c v:=fun x c e v ⟨o,ho,hd⟩=>by
  have nch:c∉ch:=fun z=>(hch c z).2.2.1 x c e rfl
  by_cases hc:c∈X.fs
  ·obtain⟨sl,q⟩:=slot c o (I.cne x c e) hc nch ho (I.freeC x c e)
   exact⟨_,q,hd⟩
  ·exact⟨o,keep c o (I.cne x c e) hc nch ho (I.freeC x c e),hd⟩
 refine⟨I.ok,I.os,hg,⟨fun b o e n hb hx=>?_,fun b o e n hb hx=>?_,fun b o e n hx=>?_,fun b o e hx=>?_,fun b xs e=>tups b xs (I.base.tups b xs e),fun b o xs e=>frzs b o xs (I.base.frzs b o xs e),fun b ps e=>?_⟩,?_,fun x c e=>?_,?_,fun x c e=>?_,fun p hp=>?_,hok,I.len⟩
 ·exact keep b o (neL b o e) hb (neC b o e hx) (I.base.keep b o e n hb hx) (I.base.free b o e n hx)
 ·obtain⟨sl,e1⟩:=I.base.slot b o e n hb hx
  obtain⟨sl',e2⟩:=slot b _ (neL b o e) hb (neC b o e hx) e1 (I.base.free b o e n hx)
  exact⟨sl',e2⟩
 ·obtain⟨o',e1⟩:=I.base.there b o e hx
  exact free b o' (neC b o e hx) e1 (I.base.free b o e n hx)
 ·obtain⟨o',e1⟩:=I.base.there b o e hx
  exact there b o' (neC b o e hx) e1
 ·obtain⟨m1,e1⟩:=I.base.tbls b ps e
  obtain⟨m2,e2⟩:=tbls b _ e1
  exact⟨m1++m2,by rw [e2,Array.append_assoc]⟩
 ·obtain⟨m,hn,hl⟩:=I.loc
  refine⟨m,ns m hn,fun i x v e1 e2 e3=>?_⟩
  obtain⟨u,r,l⟩:=hl i x v e1 e2 e3
  refine⟨u,r,?_⟩
  rcases l with l|⟨k,c,e,z⟩
  ·exact .inl l
  ·exact .inr ⟨k,c,e,cellK x c e _ z⟩
 ·obtain⟨v,z⟩:=I.cell x c e
  exact⟨v,cellK x c e v z⟩
 ·obtain⟨m,⟨o,_,_,ho,_⟩,_⟩:=I.loc
  exact free _ o (fun z=>(hch _ z).2.1 rfl) ho I.free
 ·obtain⟨v,o,ho,hd⟩:=I.cell x c e
  exact free c o (fun z=>(hch c z).2.2.1 x c e rfl) ho (I.freeC x c e)
 ·obtain⟨e,n,ne,nf,d⟩:=I.pin p hp
  have nch:p.1∉ch:=fun z=>(hch p.1 z).2.2.2 p hp rfl
  exact⟨keep p.1 p.2 ne nf nch e n,free p.1 p.2 nch e n,ne,nf,d⟩
theorem Inv.un{t':Nat}(I:Inv X pins σ H s)(u:Un X.fs [] H H' s.heap h')(hok:HOk X.prog X.w H' h'):Inv X pins σ H' { s with heap:=h',toks:=t' }:=by
 obtain⟨m,⟨o,es,ep,ho,r⟩,_⟩:=id I.loc
 obtain⟨sl,hL⟩:=u.any ho I.free (by simp)
 exact I.step (g':=s.gens) (d':=s.drawn) (ch:=[]) (fun _ z=>nomatch z) (fun b o _ hb _ e n=>u.keep b o e n hb (by simp)) (fun b o _ hb _ e n=>u.slot b o e n hb (by simp)) (fun b o _ e n=>u.free b o e n (by simp)) (fun b o _ e=>u.there b o e (by simp)) u.tups u.frzs u.tbls (fun m' hm=>by
  obtain⟨o',es',ep',ho',r'⟩:=hm
  rw [ho] at ho';cases ho'
  exact⟨_,es',ep',hL,r'⟩) hok I.bare
theorem Inv.call{g':Array GenState}{t':Nat}{d':Drawn}{ch:List Addr}(I:Inv X pins σ H s)(u:Un (frs X.stack) ch H H' s.heap h')(hok:HOk X.prog X.w H' h')(hg:AllBare g')
  (hch:∀b∈ch,(b∈X.ex∨X.s₀.heap.objs.size≤b)∧b≠X.env.locals∧(∀x c,X.env.cells.lookup x=some c→c≠b)∧∀p∈X.pn++pins,p.1≠b) :
  Inv X pins σ H' { s with heap:=h',gens:=g',drawn:=d',toks:=t' }:=by
 obtain⟨m,⟨o,es,ep,ho,r⟩,_⟩:=id I.loc
 obtain⟨sl,hL⟩:=u.any ho I.free fun z=>(hch _ z).2.1 rfl
 exact I.step (ch:=ch) hch (fun b o hL hb hc e n=>u.keep b o e n (fun z=>(List.mem_cons.mp (I.stkSub b z)).elim hL hb) hc) (fun b o _ _ hc e n=>u.any e n hc) (fun b o hc e n=>u.free b o e n hc) (fun b o hc e=>u.there b o e hc) u.tups u.frzs u.tbls (fun m' hm=>by
  obtain⟨o',es',ep',ho',r'⟩:=hm
  rw [ho] at ho';cases ho'
  exact⟨_,es',ep',hL,r'⟩) hok hg
theorem Inv.turned{t':Nat}{it:Addr}(I:Inv X pins σ H s)(k:∀b o,b≠it→s.heap.get? b=some o→h'.get? b=some o)(hn:H it=none)(hL:it≠X.env.locals)
  (h1:it∈X.ex∨X.s₀.heap.objs.size≤it) (h2:∀x c,X.env.cells.lookup x=some c→c≠it) (h3:∀p∈X.pn++pins,p.1≠it):Inv X pins σ H { s with heap:=h',toks:=t' }:=by
 have nit:∀b u,H b=some u→b≠it:=fun b u e z=>by rw [z,hn] at e;cases e
 refine I.step (g':=s.gens) (d':=s.drawn) (ch:=[it]) (fun b hb=>?_) (fun b o _ _ hc e _=>k b o (fun z=>hc (by simp [z])) e) (fun b o _ _ hc e _=>⟨o.slots,k b o (fun z=>hc (by simp [z])) e⟩) (fun _ _ _ _ n=>n)
  (fun b o hc e=>⟨o,k b o (fun z=>hc (by simp [z])) e⟩) (fun _ _ e=>e) (fun _ _ _ e=>e) (fun b ps e=>⟨#[],by rw [e];simp⟩) (fun m hm=>?_) (fun b u e=>?_) I.bare
 ·have e:b=it:=by simpa using hb
  subst e
  exact⟨h1,hL,h2,h3⟩
 ·obtain⟨o,es,ep,ho,r⟩:=hm
  exact⟨o,es,ep,k _ o (Ne.symm hL) ho,r⟩
 ·refine(I.hok b u e).stay (fun c v hc q=>k c v ?_ q) (fun _ q=>q) fun _ _ q=>q
  rcases hc with z|z
  ·rw [z];exact nit b u e
  ·exact nit c _ z
theorem Inv.tok(I:Inv X pins σ H s)(t:Nat):Inv X pins σ H { s with toks:=t }:=I.un (h':=s.heap) (t':=t) Un.refl I.hok
theorem Inv.kept{t':Nat}(I:Inv X pins σ H s)(k:∀b u,s.heap.get? b=some u→h'.get? b=some u):Inv X pins σ H { s with heap:=h',toks:=t' }:=I.un (Un.kept k) (I.hok.kept k)
theorem Inv.laid{a:Addr}{o:HO}{t':Nat}(I:Inv X pins σ H s)(k:∀b u,s.heap.get? b=some u→h'.get? b=some u)(hp:s.heap.objs.size≤a)(new:ObjOk X.prog X.w (upd H a o) h' a o) :
  Inv X pins σ (upd H a o) { s with heap:=h',toks:=t' }:=I.un (Un.laid k hp (I.hok.fresh hp)) (I.hok.laid k hp new)
theorem Inv.write{x e:Addr}{o:HO}{t':Nat}(I:Inv X pins σ H s)(mu:Mut (H x))(he:e=x∨H e=some (.own x))(k:∀b u,b≠e→s.heap.get? b=some u→h'.get? b=some u)(heo:∃u,h'.get? e=some u)
  (new:ObjOk X.prog X.w (upd H x o) h' x o):Inv X pins σ (upd H x o) { s with heap:=h',toks:=t' }:=I.un (Un.write mu he k heo) (I.hok.write mu he k heo new)
theorem Inv.weak{σ':List (Option V)}(I:Inv X pins σ H s)(hl:σ'.length=σ.length)(w:∀(i:Nat) v,σ'[i]?=some (some v)→σ[i]?=some (some v)):Inv X pins σ' H s :=
 ⟨I.ok,I.os,I.bare,I.base,let ⟨m,hn,hl'⟩:=I.loc;⟨m,hn,fun i x v e1 e2 e3=>hl' i x v e1 (w i v e2) e3⟩,I.cell,I.free,I.freeC,I.pin,I.hok,hl.trans I.len⟩
theorem Inv.pins_of{pins':List (Addr × Obj)}(I:Inv X pins σ H s)(h:∀p∈pins',s.heap.get? p.1=some p.2∧H p.1=none∧p.1≠X.env.locals∧p.1∉X.fs∧∀v,p.2.data≠.cell v):Inv X pins' σ H s :=
 ⟨I.ok,I.os,I.bare,I.base,I.loc,I.cell,I.free,I.freeC,fun p hp=>(List.mem_append.mp hp).elim (fun z=>I.pin p (List.mem_append_left _ z)) (h p),I.hok,I.len⟩
theorem nodup_ix{N:List Str}(hN:N.Nodup){i j:Nat}{x:Str}(a:N[i]?=some x)(b:N[j]?=some x):i=j:=by
 obtain⟨h1,e1⟩:=List.getElem?_eq_some_iff.mp a
 obtain⟨h2,e2⟩:=List.getElem?_eq_some_iff.mp b
 exact(List.getElem_inj hN).mp (e1.trans e2.symm)
theorem store_ok2{M:Model}{A:Around}{E:Value→Shared→Prop}{i:Nat}{x:Str}{v:V}{u:Value}{Q:Unit→Shared→Prop}(I:Inv X pins σ H s)(hN:X.N.Nodup)(hi:X.N[i]?=some x)(hx:Loc X.env.scope x)(r:RelV v u)
  (h:∀s',Inv X pins (σ.set i (some v)) H s'→(∃a,Heap.SameBut a s.heap s'.heap∧(a=X.env.locals∨X.env.cells.lookup x=some a))→Q () s') (hf:X.fn x=true∨X.env.scope.names.lookup x=some .local:=by first|exact .inl rfl|exact .inr rfl|assumption):wpAny M A (storeName X.env x u) Q E s:=by
 obtain⟨m,hn,hl⟩:=id I.loc
 have hcls:(X.env.scope.kind==.class||(X.env.scope.kind==.module&&X.env.locals != X.env.globals))=false:=by rw [I.ok.kind];rfl
 have hiσ:i < σ.length:=by rw [I.len];exact(List.getElem?_eq_some_iff.mp hi).1
 have cne:=I.cne
 have tracked:∀{a:Addr} {h':Heap},(∃o,s.heap.get? a=some o∧H a=none)→Heap.SameBut a s.heap h'→HOk X.prog X.w H h':=fun {a h'} ha hs b ob e=>by
  obtain⟨_,_,hfree⟩:=ha
  refine(I.hok b ob e).stay (fun c w' hc q=>(hs.2 c ?_).trans q) (fun _ q=>q) fun _ _ q=>q
  rintro rfl
  rcases hc with rfl|hc
  ·rw [hfree] at e;cases e
  ·rw [hfree] at hc;cases hc
 rcases hx with hk|hk
 ·refine wpAny_storeName_local hk hn (fun h' hn' hs=>?_) hcls
  obtain⟨oL,_,_,hoL,_⟩:=id hn
  refine h _ ⟨I.ok,I.os,I.bare,⟨fun b o e n hb hx=>?_,fun b o e n hb hx=>?_,I.base.free,fun b o e hx=>?_,I.base.tups,I.base.frzs,I.base.tbls⟩,⟨_,hn',fun j y v' e1 e2 e3=>?_⟩,fun y c e=>?_,I.free,I.freeC,fun p hp=>?_,tracked ⟨oL,hoL,I.free⟩ hs,by simpa using I.len⟩ ⟨_,hs,.inl rfl⟩
  ·exact(hs.2 b (Nat.ne_of_lt (Nat.lt_of_lt_of_le (Heap.lt_size e) I.ok.above))).trans (I.base.keep b o e n hb hx)
  ·obtain⟨sl,e1⟩:=I.base.slot b o e n hb hx
   exact⟨sl,(hs.2 b (Nat.ne_of_lt (Nat.lt_of_lt_of_le (Heap.lt_size e) I.ok.above))).trans e1⟩
  ·obtain⟨o',e1⟩:=I.base.there b o e hx
   exact⟨o',(hs.2 b (Nat.ne_of_lt (Nat.lt_of_lt_of_le (Heap.lt_size e) I.ok.above))).trans e1⟩
  ·by_cases hj:j=i
   ·subst hj
    rw [hi] at e1;cases e1
    rw [List.getElem?_set_self hiσ] at e2
    cases e2
    exact⟨u,r,.inl ⟨hk,by simp⟩⟩
   ·rw [List.getElem?_set_ne (Ne.symm hj)] at e2
    obtain⟨u',r',q⟩:=hl j y v' e1 e2 e3
    refine⟨u',r',?_⟩
    rcases q with ⟨k,e⟩|⟨k,c,e,z⟩
    ·refine .inl ⟨k,?_⟩
     have:y≠x:=fun e=>hj (nodup_ix hN e1 (e▸hi))
     simp [this,e]
    ·exact .inr ⟨k,c,e,z.sameBut hs (cne y c e)⟩
  ·obtain⟨w',z⟩:=I.cell y c e
   exact⟨w',z.sameBut hs (cne y c e)⟩
  ·obtain⟨e,n,ne,nf,d⟩:=I.pin p hp
   exact⟨(hs.2 p.1 ne).trans e,n,ne,nf,d⟩
 ·have hfn:X.fn x=true:=by
   rcases hf with z|z
   ·exact z
   ·rw [z] at hk;cases hk
  obtain⟨c,hc⟩:=I.ok.has x (.inl hk)
  obtain⟨w',z⟩:=I.cell x c hc
  refine wpAny_storeName_cell I.ok.kind hk hc z (fun h' hc' hs=>?_)
  obtain⟨oc,hoc,hocd⟩:=id z
  refine h { s with heap:=h' } ⟨I.ok,I.os,I.bare,⟨fun b o e n hb hx=>?_,fun b o e n hb hx=>?_,I.base.free,fun b o e hx=>?_,I.base.tups,I.base.frzs,I.base.tbls⟩,⟨m,hn.sameBut hs (Ne.symm (cne x c hc)),fun j y v' e1 e2 e3=>?_⟩,fun y c' e=>?_,I.free,I.freeC,fun p hp=>?_,tracked ⟨oc,hoc,I.freeC x c hc⟩ hs,by simpa using I.len⟩ ⟨c,hs,.inr hc⟩
  ·exact(hs.2 b (Nat.ne_of_lt (Nat.lt_of_lt_of_le (Heap.lt_size e) (I.ok.cab x c hfn hc)))).trans (I.base.keep b o e n hb hx)
  ·obtain⟨sl,e1⟩:=I.base.slot b o e n hb hx
   exact⟨sl,(hs.2 b (Nat.ne_of_lt (Nat.lt_of_lt_of_le (Heap.lt_size e) (I.ok.cab x c hfn hc)))).trans e1⟩
  ·obtain⟨o',e1⟩:=I.base.there b o e hx
   exact⟨o',(hs.2 b (Nat.ne_of_lt (Nat.lt_of_lt_of_le (Heap.lt_size e) (I.ok.cab x c hfn hc)))).trans e1⟩
  ·by_cases hj:j=i
   ·subst hj
    rw [hi] at e1;cases e1
    rw [List.getElem?_set_self hiσ] at e2
    cases e2
    exact⟨u,r,.inr ⟨.inl hk,c,hc,hc'⟩⟩
   ·rw [List.getElem?_set_ne (Ne.symm hj)] at e2
    obtain⟨u',r',q⟩:=hl j y v' e1 e2 e3
    refine⟨u',r',?_⟩
    rcases q with q|⟨k,c',e,z'⟩
    ·exact .inl q
    ·refine .inr ⟨k,c',e,z'.sameBut hs ?_⟩
     rintro rfl
     exact hj (nodup_ix hN e1 (I.ok.inj _ _ _ e hc▸hi))
  ·by_cases hcc:c'=c
   ·subst hcc;exact⟨_,hc'⟩
   ·obtain⟨w2,z2⟩:=I.cell y c' e
    exact⟨w2,z2.sameBut hs hcc⟩
  ·obtain⟨e,n,ne,nf,d⟩:=I.pin p hp
   refine⟨(hs.2 p.1 ?_).trans e,n,ne,nf,d⟩
   intro q
   rw [q,hoc] at e
   have q':oc=p.2:=Option.some.inj e
   exact d w' (by rw [←q'];exact hocd)
theorem store_ok{M:Model}{A:Around}{E:Value→Shared→Prop}{i:Nat}{x:Str}{v:V}{u:Value}{Q:Unit→Shared→Prop}(I:Inv X pins σ H s)(hN:X.N.Nodup)(hi:X.N[i]?=some x)(hx:Loc X.env.scope x)(r:RelV v u)
  (h:∀s',Inv X pins (σ.set i (some v)) H s'→Q () s') (hf:X.fn x=true∨X.env.scope.names.lookup x=some .local:=by first|exact .inl rfl|exact .inr rfl|assumption):wpAny M A (storeName X.env x u) Q E s :=
 store_ok2 I hN hi hx r (fun s' I' _=>h s' I') hf
theorem Inv.call'{s':Shared}{ch:List Addr}(I:Inv X pins σ H s)(ho:s'.os=s.os)(u:Un (frs X.stack) ch H H' s.heap s'.heap)(hok:HOk X.prog X.w H' s'.heap)(hg:AllBare s'.gens)
  (hch:∀b∈ch,(b∈X.ex∨X.s₀.heap.objs.size≤b)∧b≠X.env.locals∧(∀x c,X.env.cells.lookup x=some c→c≠b)∧∀p∈X.pn++pins,p.1≠b):Inv X pins σ H' s':=by
 obtain⟨h',g',d',t',o'⟩:=s'
 have e:o'=s.os:=ho
 subst e
 exact I.call (g':=g') (t':=t') (d':=d') u hok hg hch
end
abbrev XK:=Value→Option Addr→Hp→Prop
abbrev St:=List (Option V)
abbrev VK:=V→Hp→Prop
abbrev TE:=St→Hp→VK→Prop
abbrev TT:=St→Hp→(Bool→Hp→Prop)→Prop
abbrev TA:=St→Hp→(List V→Hp→Prop)→Prop
structure Ends where
 nx:St→Hp→Prop
 rt:VK
 bk:St→Hp→Prop:=fun _ _=>False
 ct:St→Hp→Prop:=fun _ _=>False
abbrev TS:=Ends→St→Hp→Prop
def EP(X:Cx)(pins:List (Addr × Obj))(σ:St)(Q:VK)(u:Value)(s':Shared):Prop:=∃v H',Inv X pins σ H' s'∧RelV v u∧Q v H'
def TP(X:Cx)(pins:List (Addr × Obj))(σ:St)(Q:Bool→Hp→Prop)(b:Bool)(s':Shared):Prop:=∃H',Inv X pins σ H' s'∧Q b H'
def AP(X:Cx)(pins:List (Addr × Obj))(σ:St)(Q:List V→Hp→Prop)(us:List Value)(s':Shared):Prop:=∃vs H',Inv X pins σ H' s'∧Vals vs us∧Q vs H'
def SP(X:Cx)(pins:List (Addr × Obj))(D:Ends)(f:Flow)(s':Shared):Prop :=
 match f with
 |.next=>∃σ' H',Inv X pins σ' H' s'∧D.nx σ' H'
 |.brk=>∃σ' H',Inv X pins σ' H' s'∧D.bk σ' H'
 |.cont=>∃σ' H',Inv X pins σ' H' s'∧D.ct σ' H'
 |.ret u=>∃v σ' H',Inv X pins σ' H' s'∧RelV v u∧D.rt v H'
def PE(X:Cx)(e:Expr)(t:TE):Prop :=
 ∀(pins:List (Addr × Obj)) (s:Shared) (σ:St) (H:Hp) (Q:VK),Inv X pins σ H s→t σ H Q→wpAny (model X.prog X.w) X.A (eval e X.env) (EP X pins σ Q) X.xe s
def PT(X:Cx)(e:Expr)(t:TT):Prop :=
 ∀(pins:List (Addr × Obj)) (s:Shared) (σ:St) (H:Hp) (Q:Bool→Hp→Prop),Inv X pins σ H s→t σ H Q→wpAny (model X.prog X.w) X.A (isTrue e X.env (eval e X.env)) (TP X pins σ Q) X.xe s
def PW(X:Cx)(e:Expr)(t:TT):Prop :=
 ∀(whole:Sem Value) (pins:List (Addr × Obj)) (s:Shared) (σ:St) (H:Hp) (Q:Bool→Hp→Prop),Inv X pins σ H s→t σ H Q→wpAny (model X.prog X.w) X.A (isTrue e X.env whole) (TP X pins σ Q) X.xe s
theorem PW.pt{X:Cx}{e:Expr}{t:TT}(h:PW X e t):PT X e t:=h _
def PA(X:Cx)(es:List Expr)(t:TA):Prop :=
 ∀(pos:Pos) (pins:List (Addr × Obj)) (s:Shared) (σ:St) (H:Hp) (Q:List V→Hp→Prop),Inv X pins σ H s→t σ H Q→wpAny (model X.prog X.w) X.A (spliced (backTo pos (starEach es X.env))) (AP X pins σ Q) X.xe s
def PS(X:Cx)(st:Stmt)(t:TS):Prop :=
 ∀(pins:List (Addr × Obj)) (s:Shared) (σ:St) (H:Hp) (D:Ends),Inv X pins σ H s→t D σ H→wpAny (model X.prog X.w) X.A (exec st X.env) (SP X pins D) X.xe s
def PSs(X:Cx)(st:List Stmt)(t:TS):Prop :=
 ∀(pins:List (Addr × Obj)) (s:Shared) (σ:St) (H:Hp) (D:Ends),Inv X pins σ H s→t D σ H→wpAny (model X.prog X.w) X.A (execs st X.env) (SP X pins D) X.xe s
theorem thn{α:Type}{t:Sem α}{Q Q':α→Shared→Prop}{M:Model}{A:Around}{E:Value→Shared→Prop}{s:Shared}(h:wpAny M A t Q E s)(hQ:∀a s,Q a s→Q' a s):wpAny M A t Q' E s:=wpAny_mono h hQ fun _ _ x=>x
end L2
namespace L2
open PySem PySem.Spec PyProof.Rows
section
variable{X:Cx}
inductive Wi (i:Nat) (σ:St) (H:Hp) (Q:VK):Prop
 |mk (v:V) (h:σ[i]?=some (some v)) (q:Q v H)
def tVar(i:Nat):TE:=fun σ H Q=>Wi i σ H Q
def tC(v:V):TE:=fun _ H Q=>Q v H
theorem pe_var{i:Nat}{x:Str}{pos:Pos}(hN:X.N[i]?=some x)(hv:Vis X.env.scope x) (hd:(x==("__debug__":Str))=false:=by decide) (hcd:(x==("__classdict__":Str))=false:=by decide):PE X (.Name x pos) (tVar i):=by
 intro pins s σ H Q I h
 obtain⟨v,e,h⟩:=h
 obtain⟨m,hn,hl⟩:=I.loc
 obtain⟨u,r,l⟩:=hl i x v hN e hv
 have fin:EP X pins σ Q u s:=⟨v,H,I,r,h⟩
 rcases l with ⟨hk,hm⟩|⟨hk,c,hc,hcell⟩
 ·exact wpAny_Name (wpAny_loadName_local I.ok.kind hk hn hm fin) hd
 ·rcases hk with hk|hk
  ·exact wpAny_Name (wpAny_loadName_cell I.ok.kind hk hc hcell fin) hd
  ·exact wpAny_Name (wpAny_loadName_free I.ok.kind hk hc hcell fin hcd) hd
theorem pe_int{i j pos}:PE X (.Constant (.int i) j pos) (tC (.int i)):=fun _ _ _ H _ I h=>wpAny_Constant_int ⟨.int i,H,I.tok _,⟨_,rfl⟩,h⟩
theorem pe_bl{b j pos}:PE X (.Constant (.bool b) j pos) (tC (.bl b)):=fun _ _ _ H _ I h=>Constant_bool ⟨.bl b,H,I,rfl,h⟩
theorem pe_non{j pos}:PE X (.Constant .none j pos) (tC .non):=fun _ _ _ H _ I h=>Constant_none ⟨.non,H,I,rfl,h⟩
theorem pe_str{x j pos}:PE X (.Constant (.str x) j pos) (tC (.str x)):=fun _ _ _ H _ I h=>Calls.Constant_str ⟨.str x,H,I.tok _,⟨_,rfl⟩,h⟩
def Gl(X:Cx)(x:Str):Prop:=X.env.kindOf x=some .globalImplicit
theorem ld_glob{E:Value→Shared→Prop}{pins:List (Addr × Obj)}{s:Shared}{σ:St}{H:Hp}{x:Str}{u:Value}{pos:Pos}{Q:Value→Shared→Prop}(I:Inv X pins σ H s)(hg:Gl X x)(hm:X.mg x=some u)(h:Q u s)
  (hd:(x==("__debug__":Str))=false:=by decide):wpAny (model X.prog X.w) X.A (eval (.Name x pos) X.env) Q E s :=
 Calls.Name_function_global I.ok.kind hg (Calls.loadGlobal_global (by rw [I.ok.glob];exact I.mod.glob.keeps I.bk) hm h) hd
theorem ld_blt{E:Value→Shared→Prop}{pins:List (Addr × Obj)}{s:Shared}{σ:St}{H:Hp}{x:Str}{u:Value}{pos:Pos}{Q:Value→Shared→Prop}(I:Inv X pins σ H s)(hg:Gl X x)(hm:X.mg x=none)(hv:bootBuiltins x=some u)(h:Q u s)
  (hn:x≠"__name__":=by decide) (hd:(x==("__debug__":Str))=false:=by decide):wpAny (model X.prog X.w) X.A (eval (.Name x pos) X.env) Q E s:=by
 obtain⟨mb,h1,h2⟩:=I.mod.blt
 exact Calls.Name_function_global I.ok.kind hg (Calls.loadGlobal_builtin (by rw [I.ok.glob];exact I.mod.glob.keeps I.bk) hm (by rw [I.ok.blt];exact h1.keeps I.bk) ((h2 x hn).trans hv) h) hd
theorem pe_glob{x:Str}{v:V}{u:Value}{pos:Pos}(hg:Gl X x)(hm:X.mg x=some u)(r:RelV v u) (hd:(x==("__debug__":Str))=false:=by decide):PE X (.Name x pos) (tC v) :=
 fun _ _ _ H _ I h=>ld_glob I hg hm ⟨v,H,I,r,h⟩ hd
theorem pe_bltn{x:Str}{v:V}{u:Value}{pos:Pos}(hg:Gl X x)(hm:X.mg x=none)(hv:bootBuiltins x=some u)(r:RelV v u) (hn:x≠"__name__":=by decide) (hd:(x==("__debug__":Str))=false:=by decide):PE X (.Name x pos) (tC v) :=
 fun _ _ _ H _ I h=>ld_blt I hg hm hv ⟨v,H,I,r,h⟩ hn hd
variable{a b:Expr}{ta tb:TE}{pos:Pos}
def PC(X:Cx)(op:CmpOp)(a b:Expr)(t:TE):Prop :=
 ∀(pins:List (Addr × Obj)) (s:Shared) (σ:St) (H:Hp) (Q:VK),Inv X pins σ H s→t σ H Q →
  wpAny (model X.prog X.w) X.A (eval a X.env) (fun v s₁=>wpAny (model X.prog X.w) X.A (eval b X.env) (fun u s₂=>wpAny (model X.prog X.w) X.A (compareOp op v u) (EP X pins σ Q) X.xe s₂) X.xe s₁) X.xe s
inductive Wb (x:V) (H:Hp) (Q:Bool→Hp→Prop):Prop
 |mk (c:Bool) (h:x=.bl c) (q:Q c H)
def tB(t:TE):TT:=fun σ H Q=>t σ H fun x H1=>Wb x H1 Q
theorem pt_cmp{op:CmpOp}{t:TE}(h:PC X op a b t)(h1:behindInMarks op b=false:=by first|exact nobehind _ (by decide) (by decide)|rfl):PT X (.Compare a [op] [b] pos) (tB t):=by
 intro pins s σ H Q I hw
 refine wpAny_isTrue_Compare1 (thn (h pins s σ H _ I hw) fun v s1 h1=>thn h1 fun u s2 h2=>thn h2 fun c s3 ⟨x,H1,I1,r1,q1⟩=>?_) h1
 obtain⟨d,rfl,q⟩:=q1
 cases r1
 exact wpAny_truthy_bool ⟨H1,I1,q⟩
theorem pt_val{e:Expr}{t:TE}(h:PE X e t)(he:∀whole,isTrue e X.env whole=(do let v ←whole;standAt e.pos;holding [v] (truthy v)):=by intro _;rfl):PT X e (tB t):=by
 intro pins s σ H Q I hw
 refine isTrue_plain (thn (h pins s σ H _ I hw) fun v s1 ⟨x,H1,I1,r1,q1⟩=>?_) (he _)
 obtain⟨d,rfl,q⟩:=q1
 cases r1
 exact wpAny_truthy_bool ⟨H1,I1,q⟩
variable{tA tB':TT}{rest:List Expr}
def tAnd(t u:TT):TT:=fun σ H Q=>t σ H fun c H1=>if c=true then u σ H1 Q else Q false H1
def tOr(t u:TT):TT:=fun σ H Q=>t σ H fun c H1=>if c=true then Q true H1 else u σ H1 Q
def tNot(t:TT):TT:=fun σ H Q=>t σ H fun c H1=>Q (!c) H1
theorem pw_and1(ha:PT X a tA):PW X (.BoolOp .And [a] pos) tA:=by
 intro wh pins s σ H Q I h
 refine isTrue_and (thn (ha pins s σ H Q I h) fun c s1 e=>?_)
 cases c with
 |true=>exact isTrue_and_nil e
 |false=>exact e
theorem pw_or1(ha:PT X a tA):PW X (.BoolOp .Or [a] pos) tA:=by
 intro wh pins s σ H Q I h
 refine isTrue_or (thn (ha pins s σ H Q I h) fun c s1 e=>?_)
 cases c with
 |false=>exact isTrue_or_nil e
 |true=>exact e
theorem pw_and(ha:PT X a tA)(hb:PW X (.BoolOp .And (b::rest) pos) tB'):PW X (.BoolOp .And (a::b::rest) pos) (tAnd tA tB'):=by
 intro wh pins s σ H Q I h
 refine isTrue_and (thn (ha pins s σ H _ I h) fun c s1 ⟨H1,I1,q1⟩=>?_)
 cases c with
 |true=>exact hb wh pins s1 σ H1 Q I1 q1
 |false=>exact⟨H1,I1,q1⟩
theorem pw_or(ha:PT X a tA)(hb:PW X (.BoolOp .Or (b::rest) pos) tB'):PW X (.BoolOp .Or (a::b::rest) pos) (tOr tA tB'):=by
 intro wh pins s σ H Q I h
 refine isTrue_or (thn (ha pins s σ H _ I h) fun c s1 ⟨H1,I1,q1⟩=>?_)
 cases c with
 |true=>exact⟨H1,I1,q1⟩
 |false=>exact hb wh pins s1 σ H1 Q I1 q1
theorem pt_not(ha:PT X a tA):PT X (.UnaryOp .Not a pos) (tNot tA):=by
 intro pins s σ H Q I h
 exact isTrue_not (ha pins s σ H (fun c H1=>Q (!c) H1) I h)
def tAndV(ta tb:TE):TE:=fun σ H Q=>ta σ H fun x H1=>∃c,x=.bl c∧if c=true then tb σ H1 Q else Q (.bl false) H1
def tNotV(ta:TE):TE:=fun σ H Q=>ta σ H fun x H1=>∃c,x=.bl c∧Q (.bl (!c)) H1
theorem pe_one{op}{t:TE}(h:PE X a t):PE X (.BoolOp op [a] pos) t:=fun pins s σ H Q I hw=>BoolOp_one (h pins s σ H Q I hw)
theorem pe_and(ha:PE X a ta)(hb:PE X (.BoolOp .And (b::rest) pos) tb):PE X (.BoolOp .And (a::b::rest) pos) (tAndV ta tb):=by
 intro pins s σ H Q I h
 refine BoolOp_and (thn (ha pins s σ H _ I h) fun v s1 ⟨x,H1,I1,r1,q1⟩=>?_)
 obtain⟨c,rfl,q1⟩:=q1
 cases r1
 refine wpAny_truthy_bool ?_
 cases c with
 |true=>exact hb pins s1 σ H1 Q I1 q1
 |false=>exact⟨.bl false,H1,I1,rfl,q1⟩
theorem pe_not(ha:PE X a ta):PE X (.UnaryOp .Not a pos) (tNotV ta):=by
 intro pins s σ H Q I h
 refine UnaryOp_ (thn (ha pins s σ H _ I h) fun v s1 ⟨x,H1,I1,r1,q1⟩=>?_)
 obtain⟨c,rfl,q1⟩:=q1
 cases r1
 exact not_of (wpAny_truthy_bool ⟨.bl (!c),H1,I1,rfl,q1⟩)
def tIf(t:TT)(ta tb:TE):TE:=fun σ H Q=>t σ H fun c H1=>if c=true then ta σ H1 Q else tb σ H1 Q
theorem pe_ifExp{c:Expr}(hc:PT X c tA)(ha:PE X a ta)(hb:PE X b tb):PE X (.IfExp c a b pos) (tIf tA ta tb):=by
 intro pins s σ H Q I h
 refine wpAny_IfExp (thn (hc pins s σ H _ I h) fun d s1 ⟨H1,I1,q1⟩=>?_)
 cases d with
 |true=>exact ha pins s1 σ H1 Q I1 q1
 |false=>exact hb pins s1 σ H1 Q I1 q1
end
end L2
namespace L2
open PySem PySem.Spec PyProof.Rows
def SqL(K:PySem.W.Frag)(H:Hp)(a:Addr)(xs:List V):Prop :=
 Rd H a (.lst xs) ∨
  ∃(o:Obj) (its:Array Value) (n:Nat),K.lookup a=some o∧o.cls=.type "list"∧o.dict=none∧o.data=.seq its n∧its.size≤sizeLine∧Vals xs its.toList
def SqT(K:PySem.W.Frag)(H:Hp)(a:Addr)(xs:List V):Prop :=
 Rd H a (.tup xs) ∨
  ∃(o:Obj) (its:Array Value) (n:Nat),K.lookup a=some o∧o.cls=.type "tuple"∧o.data=.seq its n∧its.size≤sizeLine∧Vals xs its.toList
def absV:Value→Option V
 |.none=>some .non
 |.bool b=>some (.bl b)
 |.int i _=>some (.int i)
 |.str x _=>some (.str x)
 |.bytes b _=>some (.byt b)
 |.float b _=>some (.flt b)
 |.ref a=>some (.ref a)
 |.type n=>some (.ty n)
 |_=>none
theorem RelV.abs{x:V}{u:Value}(r:RelV x u):absV u=some x:=by
 cases x with
 |non=>cases r;rfl
 |bl _=>cases r;rfl
 |int _=>obtain⟨t,rfl⟩:=r;rfl
 |str _=>obtain⟨t,rfl⟩:=r;rfl
 |byt _=>obtain⟨t,rfl⟩:=r;rfl
 |flt _=>obtain⟨t,rfl⟩:=r;rfl
 |ref _=>cases r;rfl
 |ty _=>cases r;rfl
theorem RelV.inj{x y:V}{u:Value}(r:RelV x u)(q:RelV y u):x=y:=Option.some.inj (r.abs.symm.trans q.abs)
theorem Vals.inj:∀{xs ys:List V} {us:List Value},Vals xs us→Vals ys us→xs=ys
 |_,_,_,.nil,.nil=>rfl
 |_,_,_,.cons r t,.cons r' t'=>by rw [r.inj r',Vals.inj t t']
section
variable{X:Cx}{pins:List (Addr × Obj)}{σ:St}{H:Hp}{s:Shared}{a:Addr}{xs ys:List V}
theorem SqL.of{K:PySem.W.Frag}(h:H a=some (.lst xs)):SqL K H a xs:=.inl (.inl h)
theorem SqT.of{K:PySem.W.Frag}(h:H a=some (.tup xs)):SqT K H a xs:=.inl (.inl h)
theorem Inv.list(I:Inv X pins σ H s)(h:SqL X.K H a xs):∃its:List Value,Vals xs its∧PlainL s.heap a its.toArray∧xs.length≤sizeLine:=by
 rcases h with h|⟨o,its,n,hk,hc,hd,hs,hz,r⟩
 ·obtain⟨z,its,n,r,e⟩:=h.ok I.hok
  exact⟨its,r,⟨_,n,e,rfl,rfl,rfl⟩,z⟩
 ·refine⟨its.toList,r,⟨o,n,I.kIn a o hk,hc,hd,by simpa using hs⟩,?_⟩
  have e:=r.length
  simp only [Array.length_toList] at e
  omega
theorem Inv.tuple(I:Inv X pins σ H s)(h:SqT X.K H a xs):∃its:List Value,Vals xs its∧IsTup s.heap a its.toArray∧xs.length≤sizeLine:=by
 rcases h with h|⟨o,its,n,hk,hc,hs,hz,r⟩
 ·obtain⟨z,its,r,p⟩:=h.ok I.hok
  exact⟨its,r,p,z⟩
 ·refine⟨its.toList,r,⟨o,I.kIn a o hk,hc,n,by simpa using hs⟩,?_⟩
  have e:=r.length
  simp only [Array.length_toList] at e
  omega
theorem Inv.list_inj(I:Inv X pins σ H s)(h:SqL X.K H a xs)(h':SqL X.K H a ys):xs=ys:=by
 obtain⟨its,r,⟨o,n,e,_,_,d⟩,_⟩:=I.list h
 obtain⟨its',r',⟨o',n',e',_,_,d'⟩,_⟩:=I.list h'
 rw [e] at e';cases e'
 rw [d] at d'
 injection d' with d1 _
 have:its=its':=by simpa using congrArg Array.toList d1
 subst this
 exact r.inj r'
theorem Inv.tuple_inj(I:Inv X pins σ H s)(h:SqT X.K H a xs)(h':SqT X.K H a ys):xs=ys:=by
 obtain⟨its,r,⟨o,e,_,n,d⟩,_⟩:=I.tuple h
 obtain⟨its',r',⟨o',e',_,n',d'⟩,_⟩:=I.tuple h'
 rw [e] at e';cases e'
 rw [d] at d'
 injection d' with d1 _
 have:its=its':=by simpa using congrArg Array.toList d1
 subst this
 exact r.inj r'
end
abbrev Cx.wish(X:Cx)(E:Value→Shared→Prop):Cx:={ X with xe:=E }
abbrev Cx.nox(X:Cx):Cx:=X.wish fun _ _=>False
theorem Cx.Ok.wish{X:Cx}(ok:X.Ok)(E:Value→Shared→Prop):(X.wish E).Ok :=
 ⟨ok.mod,ok.kind,ok.glob,ok.blt,ok.above,ok.inj,ok.has,ok.cab,ok.hd,ok.frames,ok.stk,ok.exf,ok.bs,ok.bsz,ok.noex,ok.exfs,ok.funs,ok.frf⟩
theorem Cx.Ok.unwish{X:Cx}{E:Value→Shared→Prop}(ok:(X.wish E).Ok):X.Ok :=
 ⟨ok.mod,ok.kind,ok.glob,ok.blt,ok.above,ok.inj,ok.has,ok.cab,ok.hd,ok.frames,ok.stk,ok.exf,ok.bs,ok.bsz,ok.noex,ok.exfs,ok.funs,ok.frf⟩
section
variable{X:Cx}{pins:List (Addr × Obj)}{σ:St}{H:Hp}{s:Shared}{E:Value→Shared→Prop}
theorem Inv.wish(I:Inv X pins σ H s)(E:Value→Shared→Prop):Inv (X.wish E) pins σ H s:=⟨I.ok.wish E,I.os,I.bare,I.base,I.loc,I.cell,I.free,I.freeC,I.pin,I.hok,I.len⟩
theorem Inv.unwish(I:Inv (X.wish E) pins σ H s):Inv X pins σ H s:=⟨I.ok.unwish,I.os,I.bare,I.base,I.loc,I.cell,I.free,I.freeC,I.pin,I.hok,I.len⟩
theorem SP.unwish{D:Ends}{f:Flow}{s':Shared}(h:SP (X.wish E) pins D f s'):SP X pins D f s':=by
 cases f with
 |next=>obtain⟨σ',H',I,q⟩:=h;exact⟨σ',H',I.unwish,q⟩
 |brk=>obtain⟨σ',H',I,q⟩:=h;exact⟨σ',H',I.unwish,q⟩
 |cont=>obtain⟨σ',H',I,q⟩:=h;exact⟨σ',H',I.unwish,q⟩
 |ret u=>obtain⟨v,σ',H',I,r,q⟩:=h;exact⟨v,σ',H',I.unwish,r,q⟩
theorem PSs.nox{st:List Stmt}{t:TS}(h:PSs X.nox st t):PSs X st t:=fun pins s σ H D I hw =>
 wpAny_mono (h pins s σ H D (I.wish _) hw) (fun _ _ q=>q.unwish) fun _ _ z=>False.elim z
end
section
variable{X:Cx}{st:Stmt}{rest:List Stmt}{t u:TS}{e:Expr}{te:TE}{pos:Pos}
def tNext:TS:=fun D σ H=>D.nx σ H
def tSeq(t u:TS):TS:=fun D σ H=>t { D with nx:=u D } σ H
theorem pss_nil:PSs X [] tNext:=fun _ _ σ H _ I h=>wpAny_execs_nil ⟨σ,H,I,h⟩
theorem pss_cons(h1:PS X st t)(h2:PSs X rest u):PSs X (st::rest) (tSeq t u):=by
 intro pins s σ H D I h
 refine wpAny_execs_cons (thn (h1 pins s σ H { D with nx:=u D } I h) fun f s1 q=>?_)
 cases f with
 |next =>
  obtain⟨σ',H',I',q⟩:=q
  exact h2 pins s1 σ' H' D I' q
 |ret v=>exact q
 |brk=>exact q
 |cont=>exact q
theorem pss_one(h1:PS X st t):PSs X [st] t:=by
 intro pins s σ H D I h
 refine wpAny_execs_cons (thn (h1 pins s σ H D I h) fun f s1 q=>?_)
 cases f with
 |next=>exact wpAny_execs_nil q
 |ret v=>exact q
 |brk=>exact q
 |cont=>exact q
theorem Inv.quiet{pins:List (Addr × Obj)}{σ:St}{H:Hp}{s:Shared}(I:Inv X pins σ H s):interactive X.env=false:=by simp [interactive,I.ok.kind]
def tDrop(te:TE):TS:=fun D σ H=>te σ H fun _ H1=>D.nx σ H1
theorem ps_expr(he:PE X e te)(hs:swapsWith e none pos.line X.env=pure false:=by rfl):PS X (.Expr e pos) (tDrop te):=by
 intro pins s σ H D I h
 exact wpAny_Expr_any (thn (he pins s σ H _ I h) fun v s1 ⟨x,H1,I1,r1,q1⟩=>⟨σ,H1,I1,q1⟩) I.quiet hs
def tRet(te:TE):TS:=fun D σ H=>te σ H D.rt
theorem ps_ret(he:PE X e te):PS X (.Return (some e) pos) (tRet te):=by
 intro pins s σ H D I h
 exact wpAny_Return_some (thn (he pins s σ H _ I h) fun v s1 ⟨x,H1,I1,r1,q1⟩=>⟨x,σ,H1,I1,r1,q1⟩)
def tIfS(c:TT)(t u:TS):TS:=fun D σ H=>c σ H fun b H1=>if b=true then t D σ H1 else u D σ H1
theorem ps_if{c:Expr}{a b:List Stmt}{tc:TT}(hc:PT X c tc)(ha:PSs X a t)(hb:PSs X b u):PS X (.If c a b pos) (tIfS tc t u):=by
 intro pins s σ H D I h
 refine wpAny_If (thn (hc pins s σ H _ I h) fun d s1 ⟨H1,I1,q1⟩=>?_)
 cases d with
 |true=>exact ha pins s1 σ H1 D I1 q1
 |false=>exact hb pins s1 σ H1 D I1 q1
end
abbrev TG:=V→St→Hp→(St→Hp→Prop)→Prop
abbrev TGs:=List V→St→Hp→(St→Hp→Prop)→Prop
def PG(X:Cx)(target:Expr)(t:TG):Prop :=
 ∀(pins:List (Addr × Obj)) (s:Shared) (σ:St) (H:Hp) (v:V) (u:Value) (Q:St→Hp→Prop),Inv X pins σ H s→RelV v u→t v σ H Q →
  wpAny (model X.prog X.w) X.A (assign target X.env u) (fun _ s'=>∃σ' H',Inv X pins σ' H' s'∧Q σ' H') X.xe s
def PGs(X:Cx)(ts:List Expr)(t:TGs):Prop :=
 ∀(pins:List (Addr × Obj)) (s:Shared) (σ:St) (H:Hp) (vs:List V) (us:List Value) (Q:St→Hp→Prop),Inv X pins σ H s→Vals vs us→t vs σ H Q →
  wpAny (model X.prog X.w) X.A (assignInOrder ((assignEach ts X.env).map (·.2)) us) (fun _ s'=>∃σ' H',Inv X pins σ' H' s'∧Q σ' H') X.xe s
abbrev TSet:=V→V→V→Hp→(Hp→Prop)→Prop
def PSet(X:Cx)(t:TSet):Prop :=
 ∀(pins:List (Addr × Obj)) (s:Shared) (σ:St) (H:Hp) (o i v:V) (ov iv u:Value) (Q:Hp→Prop),Inv X pins σ H s→RelV o ov→RelV i iv→RelV v u→t o i v H Q →
  wpAny (model X.prog X.w) X.A (setItem ov iv u) (fun _ s'=>∃H',Inv X pins σ H' s'∧Q H') X.xe s
abbrev TIp:=V→V→Hp→VK→Prop
def PIp(X:Cx)(op:Operator)(t:TIp):Prop :=
 ∀(pins:List (Addr × Obj)) (s:Shared) (σ:St) (H:Hp) (x y:V) (v u:Value) (Q:VK),Inv X pins σ H s→RelV x v→RelV y u→t x y H Q →
  wpAny (model X.prog X.w) X.A (inplaceOp op v u) (EP X pins σ Q) X.xe s
section
variable{X:Cx}{pos:Pos}
def gName(i:Nat):TG:=fun v σ H Q=>Q (σ.set i (some v)) H
theorem pg_name{i:Nat}{x:Str}(hN:X.N.Nodup)(hi:X.N[i]?=some x)(hx:Loc X.env.scope x)(hf:X.fn x=true∨X.env.scope.names.lookup x=some .local:=by first|exact .inl rfl|exact .inr rfl|assumption):PG X (.Name x pos) (gName i):=by
 intro pins s σ H v u Q I r h
 exact wpAny_assign_Name (store_ok I hN hi hx r (fun s' I'=>⟨_,H,I',h⟩) hf)
def gNil:TGs:=fun vs σ H Q=>vs=[]∧Q σ H
inductive Wc (t:TG) (u:TGs) (vs:List V) (σ:St) (H:Hp) (Q:St→Hp→Prop):Prop
 |mk (v:V) (r:List V) (h:vs=v::r) (q:t v σ H fun σ' H'=>u r σ' H' Q)
def gCons(t:TG)(u:TGs):TGs:=fun vs σ H Q=>Wc t u vs σ H Q
theorem pgs_nil:PGs X [] gNil:=by
 intro pins s σ H vs us Q I r h
 obtain⟨e,h⟩:=h
 subst e
 cases r
 exact assignInOrder_nil ⟨σ,H,I,h⟩
theorem pgs_cons{e:Expr}{es:List Expr}{t:TG}{u:TGs}(h1:PG X e t)(h2:PGs X es u)
  (hs:(assignEach (e::es) X.env).map (·.2)=assign e X.env::(assignEach es X.env).map (·.2):=by rfl):PGs X (e::es) (gCons t u):=by
 intro pins s σ H vs us Q I r h
 obtain⟨v,vr,e1,h⟩:=h
 subst e1
 cases r with
 |cons r rr =>
  rw [hs]
  refine assignInOrder_cons (thn (h1 pins s σ H _ _ _ I r h) fun _ s1 ⟨σ1,H1,I1,q1⟩=>?_)
  exact h2 pins s1 σ1 H1 _ _ Q I1 rr q1
def gTup(K:PySem.W.Frag)(n:Nat)(t:TGs):TG:=fun v σ H Q=>∃a xs,v=.ref a∧SqT K H a xs∧xs.length=n∧t xs σ H Q
theorem pg_tup{es:List Expr}{k:Nat}{t:TGs}{n:Nat}(hc:X.calm=true)(h:PGs X es t)
  (hn:(assignEach es X.env).length=n:=by rfl) (hst:(assignEach es X.env).findIdx? (·.1)=none:=by rfl):PG X (.Tuple es k pos) (gTup X.K n t):=by
 intro pins s σ H v u Q I r hw
 obtain⟨a,xs,e1,hq,hl,hw⟩:=hw
 subst e1
 cases r
 obtain⟨its,rv,ht,hz⟩:=I.tuple hq
 refine assign_Tuple_tuple (I.ok.hd hc) ht (by simp [hn,←hl,rv.length]) hst fun h' hx=>?_
 have I1:Inv X pins σ H { s with heap:=h' }:=I.kept (t':=s.toks) fun b o e=>hx b o (Nat.ne_of_lt (Heap.lt_size e)) e
 exact h pins _ σ H xs _ Q I1 (by simpa using rv) hw
def gSub(to ti:TE)(t:TSet):TG:=fun v σ H Q=>to σ H fun o H1=>ti σ H1 fun i H2=>t o i v H2 fun H3=>Q σ H3
theorem pg_sub{o i:Expr}{to ti:TE}{t:TSet}(ho:PE X o to)(hi:PE X i ti)(hs:PSet X t)
  (ha:∀v,assign (.Subscript o i pos) X.env v=(do
   let ov ←holding [v] (eval o X.env)
   let iv ←holding [v,ov] (eval i X.env)
   standAt pos
   holding [v,ov,iv] (setItem ov iv v)
   release [v,ov,iv] []):=by intro _;rfl):PG X (.Subscript o i pos) (gSub to ti t):=by
 intro pins s σ H v u Q I r h
 rw [ha]
 refine wpAny_bind (wpAny_holding (thn (ho pins s σ H _ I h) fun ov s1 ⟨x,H1,I1,r1,q1⟩=>?_))
 refine wpAny_bind (wpAny_holding (thn (hi pins s1 σ H1 _ I1 q1) fun iv s2 ⟨y,H2,I2,r2,q2⟩=>?_))
 refine wpAny_bind (wpAny_standAt (wpAny_bind (wpAny_holding (thn (hs pins s2 σ H2 x y v ov iv u _ I2 r1 r2 r q2) fun _ s3 ⟨H3,I3,q3⟩=>?_))))
 exact wpAny_release ⟨σ,H3,I3,q3⟩
def tAsg(te:TE)(g:TG):TS:=fun D σ H=>te σ H fun x H1=>g x σ H1 D.nx
theorem ps_asg{tg e:Expr}{te:TE}{g:TG}(he:PE X e te)(hg:PG X tg g)(hs:swapsWithSole [tg] e pos.line X.env=pure false:=by rfl)(hw:swappedStores [tg] e X.env=pure none:=by rfl)
  (h1:(assignEach [tg] X.env).map (·.2)=[assign tg X.env]:=by rfl):PS X (.Assign [tg] e pos) (tAsg te g):=by
 intro pins s σ H D I h
 refine wpAny_Assign_stores (thn (he pins s σ H _ I h) fun v s1 ⟨x,H1,I1,r1,q1⟩=>?_) hs hw
 rw [h1]
 exact thn (hg pins s1 σ H1 x v _ I1 r1 q1) fun _ s2 q=>q
theorem ps_set{i:Nat}{x:Str}{e:Expr}{te:TE}{pos':Pos}(hN:X.N.Nodup)(hi:X.N[i]?=some x)(hx:Loc X.env.scope x)(he:PE X e te)(hs:swapsWith e (some (.Name x pos')) pos.line X.env=pure false:=by rfl)(hf:X.fn x=true∨X.env.scope.names.lookup x=some .local:=by first|exact .inl rfl|exact .inr rfl|assumption) :
  PS X (.Assign [.Name x pos'] e pos) (tAsg te (gName i)):=by
 intro pins s σ H D I h
 refine wpAny_Assign_Name (thn (he pins s σ H _ I h) fun v s1 ⟨y,H1,I1,r1,q1⟩=>?_) hs
 exact store_ok I1 hN hi hx r1 (fun s2 I2=>⟨_,H1,I2,q1⟩) hf
def tAug(i:Nat)(te:TE)(ti:TIp):TS:=fun D σ H=>∃x,σ[i]?=some (some x)∧te σ H fun y H1=>ti x y H1 fun z H2=>D.nx (σ.set i (some z)) H2
theorem ps_aug{i:Nat}{x:Str}{e:Expr}{te:TE}{op:Operator}{ti:TIp}{pos':Pos}(hN:X.N.Nodup)(hi:X.N[i]?=some x)(hx:Loc X.env.scope x)(he:PE X e te)(ho:PIp X op ti)(hf:X.fn x=true∨X.env.scope.names.lookup x=some .local:=by first|exact .inl rfl|exact .inr rfl|assumption) :
  PS X (.AugAssign (.Name x pos') op e pos) (tAug i te ti):=by
 intro pins s σ H D I h
 obtain⟨v,e1,h⟩:=h
 obtain⟨m,hn,hl⟩:=I.loc
 have vis:Vis X.env.scope x:=by rcases hx with k|k;exact .inl k;exact .inr (.inl k)
 obtain⟨u,r,l⟩:=hl i x v hi e1 vis
 refine wpAny_AugAssign_Name ?_
 have go:wpAny (model X.prog X.w) X.A (eval e X.env) (fun w s₂=>wpAny (model X.prog X.w) X.A (inplaceOp op u w) (fun r s₃=>wpAny (model X.prog X.w) X.A (storeName X.env x r) (fun _=>SP X pins D .next) X.xe s₃) X.xe s₂) X.xe s:=by
  refine thn (he pins s σ H _ I h) fun w s1 ⟨y,H1,I1,r1,q1⟩=>?_
  refine thn (ho pins s1 σ H1 v y u w _ I1 r r1 q1) fun z s2 ⟨zv,H2,I2,r2,q2⟩=>?_
  exact store_ok I2 hN hi hx r2 (fun s3 I3=>⟨_,H2,I3,q2⟩) hf
 rcases l with ⟨hk,hm⟩|⟨hk,c,hc,hcell⟩
 ·exact wpAny_loadName_local I.ok.kind hk hn hm go
 ·rcases hk with hk|hk
  ·exact wpAny_loadName_cell I.ok.kind hk hc hcell go
  ·rcases hx with k|k
   ·have:X.env.scope.names.lookup x=some .free:=hk
    rw [k] at this;cases this
   ·have:X.env.scope.names.lookup x=some .free:=hk
    rw [k] at this;cases this
def ipI(f:Int→Int→Int):TIp:=fun x y H Q=>∃i j,x=.int i∧y=.int j∧Q (.int (f i j)) H
theorem ip_add:PIp X .Add (ipI fun i j=>i+j):=by
 intro pins s σ H x y v u Q I r1 r2 h
 obtain⟨i,j,e1,e2,q⟩:=h
 subst e1;subst e2
 obtain⟨t,rfl⟩:=r1
 obtain⟨t',rfl⟩:=r2
 exact iadd_int ⟨.int _,H,I.tok _,⟨_,rfl⟩,q⟩
end
section
variable{X:Cx}{pos:Pos}
def tWhile(c:TT)(tb:TS):TS:=fun D σ H=>∃W:Nat→St→Hp→Prop,(∃m,W m σ H)∧∀m σ H,W m σ H →
 c σ H fun b H1=>if b=true then ∃N:St→Hp→Prop,(∀σ' H',N σ' H'→∃m',m' < m∧W m' σ' H')∧tb { D with nx:=N,ct:=N,bk:=D.nx } σ H1 else D.nx σ H1
theorem ps_while{c:Expr}{body:List Stmt}{tc:TT}{tb:TS}(hp:PassesOwn (model X.prog X.w) X.A X.env X.xe)(hc:PT X c tc)(hb:PSs X body tb):PS X (.While c body [] pos) (tWhile tc tb):=by
 intro pins s σ H D I h
 obtain⟨W,⟨m0,w0⟩,turn⟩:=h
 refine wpAny_While (codeAny_whileLoop (fun n s'=>∃σ' H',Inv X pins σ' H' s'∧W n σ' H') ?_ m0 ⟨σ,H,I,w0⟩)
 rintro n s1 ⟨σ1,H1,I1,w1⟩
 refine wpAny_passesOwn hp (thn (hc pins s1 σ1 H1 _ I1 (turn n σ1 H1 w1)) fun b s2 ⟨H2,I2,q2⟩=>?_)
 cases b with
 |true =>
  obtain⟨N,hN,q2⟩:=q2
  rw [if_pos rfl]
  refine wpAny_passesOwn hp (thn (hb pins s2 σ1 H2 _ I2 q2) fun f s3 q3=>?_)
  cases f with
  |next =>
   obtain⟨σ3,H3,I3,n3⟩:=q3
   obtain⟨m',hm,w3⟩:=hN σ3 H3 n3
   exact⟨m',hm,σ3,H3,I3,w3⟩
  |cont =>
   obtain⟨σ3,H3,I3,n3⟩:=q3
   obtain⟨m',hm,w3⟩:=hN σ3 H3 n3
   exact⟨m',hm,σ3,H3,I3,w3⟩
  |brk=>exact q3
  |ret v=>exact q3
 |false =>
  rw [if_neg Bool.false_ne_true]
  exact wpAny_execs_nil ⟨σ1,H2,I2,q2⟩
end
structure It where
 go:Nat→Hp→Prop
 yld:Nat→Hp→V→Hp→Prop
 stop:Nat→Hp→Prop
def FpOk(X:Cx)(pins:List (Addr × Obj))(H:Hp)(b:Addr):Prop :=
 H b=none∧b≠X.env.locals∧b∉X.fs∧(b∈X.ex∨X.s₀.heap.objs.size≤b)∧(∀x c,X.env.cells.lookup x=some c→c≠b)∧∀p∈X.pn++pins,p.1≠b
theorem Inv.fpOk{X:Cx}{pins:List (Addr × Obj)}{σ:St}{H H':Hp}{s:Shared}{b:Addr}(I:Inv X pins σ H s)(hb:s.heap.objs.size≤b)(hn:H' b=none):FpOk X pins H' b:=by
 refine⟨hn,Nat.ne_of_gt (Nat.lt_of_lt_of_le I.lt hb),I.nofs hb,.inr (Nat.le_trans I.sz hb),fun x c e z=>?_,fun p hp z=>?_⟩
 ·obtain⟨v,q⟩:=I.cell x c e
  exact absurd (Nat.lt_of_lt_of_le q.lt (by rw [z];exact hb)) (Nat.lt_irrefl _)
 ·exact absurd (Nat.lt_of_lt_of_le (Heap.lt_size (I.pin p hp).1) (by rw [z];exact hb)) (Nat.lt_irrefl _)
structure Turn(P:Program)(w:World)(K:PySem.W.Frag)(tg:Expr)(J:It)(fp:List Addr)(it:Addr)(tn:Nat→Heap→Prop):Prop where
 mem:it∈fp
 obj:∀i h,tn i h→∀b∈fp,∃o,h.get? b=some o∧∀v,o.data≠.cell v
 keep:∀i h h',tn i h→(∀b∈fp,∀o,h.get? b=some o→h'.get? b=some o)→tn i h'
 item:∀(X:Cx),X.prog=P→X.w=w→X.K=K→X.calm=true→∀(i:Nat) (pins:List (Addr × Obj)) (s:Shared) (σ:St) (H:Hp) (E:Value→Shared→Prop),Inv X pins σ H s→(∀b∈fp,FpOk X pins H b)→tn i s.heap→J.go i H →
  wpAny (model P w) X.A (pyNext (.ref it)) (fun r s1=>∃u,r=some u ∧
   wpAny (model P w) X.A (letOwnedTupleGo tg (.ref it) u) (fun _ s2=>∃x H',Inv X pins σ H' s2∧RelV x u∧J.yld i H x H'∧tn (i+1) s2.heap∧∀b∈fp,H' b=none) E s1) E s
 done:∀(X:Cx),X.prog=P→X.w=w→X.K=K→X.calm=true→∀(i:Nat) (pins:List (Addr × Obj)) (s:Shared) (σ:St) (H:Hp) (E:Value→Shared→Prop),Inv X pins σ H s→(∀b∈fp,FpOk X pins H b)→tn i s.heap→J.stop i H →
  wpAny (model P w) X.A (pyNext (.ref it)) (fun r s1=>r=none∧Inv X pins σ H s1) E s
 self:∀(A:Around) (i:Nat) (s:Shared) (Q:Value→Shared→Prop) (E:Value→Shared→Prop),tn i s.heap→Q (.ref it) s→wpAny (model P w) A (pyIter (.ref it)) Q E s
abbrev TI:=St→Hp→(It→Hp→Prop)→Prop
def PIE(X:Cx)(pins:List (Addr × Obj))(σ:St)(tg:Expr)(R:It→Hp→Prop)(itv:Value)(s2:Shared):Prop :=
 ∃(it:Addr) (fp:List Addr) (tn:Nat→Heap→Prop) (J:It) (H':Hp),itv=.ref it∧Inv X pins σ H' s2∧Turn X.prog X.w X.K tg J fp it tn∧tn 0 s2.heap∧(∀b∈fp,FpOk X pins H' b)∧R J H'
def PI(X:Cx)(tg iter:Expr)(wi:TI):Prop :=
 ∀(pins:List (Addr × Obj)) (s:Shared) (σ:St) (H:Hp) (R:It→Hp→Prop),Inv X pins σ H s→wi σ H R →
  wpAny (model X.prog X.w) X.A (eval iter X.env) (fun v s1=>wpAny (model X.prog X.w) X.A (pyIter v) (PIE X pins σ tg R) X.xe s1) X.xe s
theorem go_of{M:Model}{A:Around}{E:Value→Shared→Prop}{s:Shared}{tg:Expr}{it:Addr}{u:Value}{o:Obj}{n:String}{vs:Array Value}{Q:Unit→Shared→Prop}(ho:s.heap.get? it=some o)(hc:o.cls=.type n)(hd:o.data=.fields vs)
    (hn:["enumerate","zip","dict_itemiterator","dict_reverseitemiterator","odict_iterator","itertools.zip_longest","itertools.pairwise"].contains n=false) (hQ:Q () s):wpAny M A (letOwnedTupleGo tg (.ref it) u) Q E s:=by
  unfold letOwnedTupleGo
  cases tg<;>first
    | exact wpAny_pure hQ
    | (cases u<;>first
        | exact wpAny_pure hQ
        | (refine wpAny_bind (wpAny_load ho ?_)
           rw [hc,hd]
           show wpAny M A (if (["enumerate","zip","dict_itemiterator","dict_reverseitemiterator","odict_iterator","itertools.zip_longest","itertools.pairwise"].contains n&&vs[0]?==some (rawInt _))=true then _ else _) Q E s
           rw [if_neg (by intro h;rw [hn,Bool.false_and] at h;cases h)]
           exact wpAny_pure hQ))
def Itl(K:PySem.W.Frag)(a:Addr):It :=
 ⟨fun i H=>∃xs x,SqL K H a xs∧xs[i]?=some x,fun i H x H'=>H'=H∧∀xs,SqL K H a xs→xs[i]?=some x,fun i H=>∃xs,SqL K H a xs∧xs.length≤i⟩
def Itt(K:PySem.W.Frag)(a:Addr):It :=
 ⟨fun i H=>∃xs x,SqT K H a xs∧xs[i]?=some x,fun i H x H'=>H'=H∧∀xs,SqT K H a xs→xs[i]?=some x,fun i H=>∃xs,SqT K H a xs∧xs.length≤i⟩
def Itr(lo:Int)(n:Nat):It:=⟨fun i _=>i < n,fun i H x H'=>H'=H∧x=.int (lo+i),fun i _=>n≤i⟩
theorem turn_list{P:Program}{w:World}{K:PySem.W.Frag}{tg:Expr}(a it:Addr):Turn P w K tg (Itl K a) [it] it (fun i h=>h.IsListIter it a i) where
 mem:=by simp
 obj:=fun i h st b hb=>by
  have e:b=it:=by simpa using hb
  subst e
  obtain⟨o,e,c,d⟩:=st
  exact⟨o,e,fun v z=>by rw [d] at z;cases z⟩
 keep:=fun i h h' st k=>st.at fun o e=>k it (by simp) o e
 item:=by
  intro X hP hw hK hc i pins s σ H E I hf st hg
  subst hP hw hK
  obtain⟨xs,x,hq,hx⟩:=hg
  obtain⟨its,rv,p,hz⟩:=I.list hq
  obtain⟨u,hu,ru⟩:=rv.get hx
  obtain⟨f0,f1,f2,f3,f4,f5⟩:=hf it (by simp)
  refine wpAny_pyNext_list_item st p.isList (x:=u) (by simpa using hu) fun h' st' sb=>?_
  have I1:Inv X pins σ H { s with heap:=h' }:=I.turned (t':=s.toks) (fun b o hb e=>(sb.2 b hb).trans e) f0 f1 f3 f4 f5
  obtain⟨o,e,c,d⟩:=id st'
  exact⟨u,rfl,go_of (s:={ s with heap:=h' }) e c d (by decide) ⟨x,H,I1,ru,⟨rfl,fun ys hy=>by rw [I.list_inj hy hq];exact hx⟩,st',fun b hb=>(hf b hb).1⟩⟩
 done:=by
  intro X hP hw hK hc i pins s σ H E I hf st hg
  subst hP hw hK
  obtain⟨xs,hq,hx⟩:=hg
  obtain⟨its,rv,p,hz⟩:=I.list hq
  obtain⟨f0,f1,f2,f3,f4,f5⟩:=hf it (by simp)
  have hl:=rv.length
  exact wpAny_pyNext_list_end (I.ok.hd hc) st p.isList (by simp;omega) fun h' eb=>⟨rfl,I.turned (t':=s.toks) (fun b o hb e=>eb b o hb e) f0 f1 f3 f4 f5⟩
 self:=fun _ _ _ _ _ st h=>wpAny_pyIter_listiter st h
theorem turn_tuple{P:Program}{w:World}{K:PySem.W.Frag}{tg:Expr}(a it:Addr):Turn P w K tg (Itt K a) [it] it (fun i h=>h.IsTupleIter it a i) where
 mem:=by simp
 obj:=fun i h st b hb=>by
  have e:b=it:=by simpa using hb
  subst e
  obtain⟨o,e,c,d⟩:=st
  exact⟨o,e,fun v z=>by rw [d] at z;cases z⟩
 keep:=fun i h h' st k=>st.at fun o e=>k it (by simp) o e
 item:=by
  intro X hP hw hK hc i pins s σ H E I hf st hg
  subst hP hw hK
  obtain⟨xs,x,hq,hx⟩:=hg
  obtain⟨its,rv,p,hz⟩:=I.tuple hq
  obtain⟨u,hu,ru⟩:=rv.get hx
  obtain⟨f0,f1,f2,f3,f4,f5⟩:=hf it (by simp)
  refine wpAny_pyNext_tuple_item st (show s.heap.IsTuple a its.toArray from p) (x:=u) (by simpa using hu) fun h' st' sb=>?_
  have I1:Inv X pins σ H { s with heap:=h' }:=I.turned (t':=s.toks) (fun b o hb e=>(sb.2 b hb).trans e) f0 f1 f3 f4 f5
  obtain⟨o,e,c,d⟩:=id st'
  exact⟨u,rfl,go_of (s:={ s with heap:=h' }) e c d (by decide) ⟨x,H,I1,ru,⟨rfl,fun ys hy=>by rw [I.tuple_inj hy hq];exact hx⟩,st',fun b hb=>(hf b hb).1⟩⟩
 done:=by
  intro X hP hw hK hc i pins s σ H E I hf st hg
  subst hP hw hK
  obtain⟨xs,hq,hx⟩:=hg
  obtain⟨its,rv,p,hz⟩:=I.tuple hq
  obtain⟨f0,f1,f2,f3,f4,f5⟩:=hf it (by simp)
  have hl:=rv.length
  exact wpAny_pyNext_tuple_end (I.ok.hd hc) st (show s.heap.IsTuple a its.toArray from p) (by simp;omega) fun h' eb=>⟨rfl,I.turned (t':=s.toks) (fun b o hb e=>eb b o hb e) f0 f1 f3 f4 f5⟩
 self:=fun _ _ _ _ _ st h=>wpAny_pyIter_tupleiter st h
theorem turn_range{P:Program}{w:World}{K:PySem.W.Frag}{tg:Expr}(it:Addr)(lo:Int)(n:Nat):Turn P w K tg (Itr lo n) [it] it (fun i h=>IsRangeIter h it (lo+(i:Nat)*1) ((n:Int) - (i:Nat)) 1) where
 mem:=by simp
 obj:=fun i h st b hb=>by
  have e:b=it:=by simpa using hb
  subst e
  exact⟨_,st,fun v z=>by
   have z':Data.fields _=Data.cell v:=z
   cases z'⟩
 keep:=fun i h h' st k=>k it (by simp) _ st
 item:=by
  intro X hP hw hK hc i pins s σ H E I hf st hg
  subst hP hw hK
  obtain⟨f0,f1,f2,f3,f4,f5⟩:=hf it (by simp)
  have W:=Walks.range (prog:=X.prog) (w:=X.w) (I.ok.hd hc) it lo 1 n
  refine W.item i s _ _ hg st fun v h' tk hv st' kk=>?_
  obtain⟨t,rfl⟩:=hv
  have I1:Inv X pins σ H { s with heap:=h',toks:=tk }:=I.turned (fun b o hb e=>kk b o (by simpa using hb) e) f0 f1 f3 f4 f5
  refine⟨_,rfl,go_of (s:={ s with heap:=h',toks:=tk }) (n:="range_iterator") st' rfl rfl (by decide) ⟨.int (lo+i),H,I1,⟨t,?_⟩,⟨rfl,rfl⟩,st',fun b hb=>(hf b hb).1⟩⟩
  rw [Int.mul_one]
 done:=by
  intro X hP hw hK hc i pins s σ H E I hf st hg
  subst hP hw hK
  obtain⟨f0,f1,f2,f3,f4,f5⟩:=hf it (by simp)
  exact wpAny_pyNext_range_end (I.ok.hd hc) st (by have:n≤i:=hg;omega) fun h' eb=>⟨rfl,I.turned (t':=s.toks) (fun b o hb e=>eb b o hb e) f0 f1 f3 f4 f5⟩
 self:=fun _ _ _ _ _ st h=>wpAny_pyIter_rangeiter st h
end L2
namespace L2
open PySem PySem.Spec PyProof.Rows
section
variable{X:Cx}{tg:Expr}
def iList(K:PySem.W.Frag)(tl:TE):TI:=fun σ H R=>tl σ H fun x H1=>∃a,x=.ref a∧(∃xs,SqL K H1 a xs)∧R (Itl K a) H1
def iTup(K:PySem.W.Frag)(tl:TE):TI:=fun σ H R=>tl σ H fun x H1=>∃a,x=.ref a∧(∃xs,SqT K H1 a xs)∧R (Itt K a) H1
theorem pi_list{l:Expr}{tl:TE}(hl:PE X l tl):PI X tg l (iList X.K tl):=by
 intro pins s σ H R I h
 refine thn (hl pins s σ H _ I h) fun v s1 ⟨x,H1,I1,r1,q1⟩=>?_
 obtain⟨a,e,⟨xs,hq⟩,q⟩:=q1
 subst e
 cases r1
 obtain⟨its,rv,p,hz⟩:=I1.list hq
 refine wpAny_pyIter_list p.isList ?_
 refine⟨s1.heap.objs.size,[s1.heap.objs.size],_,_,H1,rfl,I1.kept (t':=s1.toks) fun b o e=>Heap.get?_push_of_some _ e,turn_list a _,⟨_,Heap.get?_push_size _ rfl,rfl,rfl⟩,fun b hb=>?_,q⟩
 have e:b=s1.heap.objs.size:=by simpa using hb
 subst e
 exact I1.fpOk (Nat.le_refl _) (I1.hok.fresh (Nat.le_refl _))
theorem pi_tup{l:Expr}{tl:TE}(hl:PE X l tl):PI X tg l (iTup X.K tl):=by
 intro pins s σ H R I h
 refine thn (hl pins s σ H _ I h) fun v s1 ⟨x,H1,I1,r1,q1⟩=>?_
 obtain⟨a,e,⟨xs,hq⟩,q⟩:=q1
 subst e
 cases r1
 obtain⟨its,rv,p,hz⟩:=I1.tuple hq
 refine wpAny_pyIter_tuple (show s1.heap.IsTuple a its.toArray from p) ?_
 refine⟨s1.heap.objs.size,[s1.heap.objs.size],_,_,H1,rfl,I1.kept (t':=s1.toks) fun b o e=>Heap.get?_push_of_some _ e,turn_tuple a _,⟨_,Heap.get?_push_size _ rfl,rfl,rfl⟩,fun b hb=>?_,q⟩
 have e:b=s1.heap.objs.size:=by simpa using hb
 subst e
 exact I1.fpOk (Nat.le_refl _) (I1.hok.fresh (Nat.le_refl _))
theorem range_it{pins:List (Addr × Obj)}{σ:St}{H:Hp}{s:Shared}{R:It→Hp→Prop}{E:Value→Shared→Prop}{lo hi:Int}{t u v:Tok}{tk:Nat}(I:Inv X pins σ H s)(h1:-(2 ^ 62)≤lo)(h2:lo < 2 ^ 62)(h3:-(2 ^ 62)≤hi)(h4:hi < 2 ^ 62)
  (q:R (Itr lo (hi - lo).toNat) H):wpAny (model X.prog X.w) X.A (pyIter (.ref s.heap.objs.size)) (PIE X pins σ tg R) E { s with heap:=s.heap.push { cls:=.type "range",data:=.fields #[.int lo t,.int hi u,.int 1 v] },toks:=tk }:=by
 refine wpAny_pyIter_range (IsRange.new ..) (small_one h1 h2 h3 h4) ?_
 have I1:Inv X pins σ H { s with heap:=s.heap.push { cls:=.type "range",data:=.fields #[.int lo t,.int hi u,.int 1 v] },toks:=tk }:=I.kept fun b o e=>Heap.get?_push_of_some _ e
 refine⟨(s.heap.push { cls:=.type "range",data:=.fields #[.int lo t,.int hi u,.int 1 v] }).objs.size,[(s.heap.push { cls:=.type "range",data:=.fields #[.int lo t,.int hi u,.int 1 v] }).objs.size],_,_,H,rfl,
  I1.kept (t':=tk) fun b o e=>Heap.get?_push_of_some _ e,turn_range _ lo (hi - lo).toNat,?_,fun b hb=>?_,q⟩
 ·have e1:lo+((0:Nat):Int)*1=lo:=by simp
  have e2:(((hi - lo).toNat:Nat):Int) - ((0:Nat):Int)=Builtin.Range.rangeSize lo hi 1:=by rw [rangeSize_one];split<;>omega
  show IsRangeIter _ _ (lo+((0:Nat):Int)*1) ((((hi - lo).toNat:Nat):Int) - ((0:Nat):Int)) 1
  rw [e1,e2]
  exact Heap.get?_push_size _ rfl
 ·have e:b=(s.heap.push { cls:=.type "range",data:=.fields #[.int lo t,.int hi u,.int 1 v] }).objs.size:=by simpa using hb
  subst e
  exact I1.fpOk (Nat.le_refl _) (I1.hok.fresh (Nat.le_refl _))
def iRng1(ta:TA):TI:=fun σ H R=>ta σ H fun vs H1=>∃j:Int,vs=[.int j]∧-(2 ^ 62)≤j∧j < 2 ^ 62∧R (Itr 0 j.toNat) H1
theorem pi_range1{a:Expr}{ta:TA}{p pos:Pos} (hg:Gl X "range") (hm:X.mg "range"=none) (ha:PA X [a] ta) (hs:starEach [a] X.env=[(false,eval a X.env)]:=by rfl):PI X tg (.Call (.Name "range" p) [a] [] pos) (iRng1 ta):=by
 intro pins s σ H R I h
 refine Call_ (ld_blt I hg hm boot_range (PyProof.Rows.callWith_type1 (thn (ha pos pins s σ H _ I h) fun us s1 ⟨vs,H1,I1,r1,q1⟩=>?_) hs rfl))
 obtain⟨j,e,q1,q2,q⟩:=q1
 subst e
 cases r1 with
 |cons r rr =>
  cases rr
  obtain⟨t,rfl⟩:=r
  exact call_range_1 (range_it I1 (by omega) (by omega) q1 q2 (by simpa using q))
def tFor(wi:TI)(g:TG)(tb:TS):TS:=fun D σ H=>wi σ H fun J H1=>∃W:Nat→Nat→St→Hp→Prop,(∃m,W 0 m σ H1)∧∀i m σ H,W i m σ H →
 (J.stop i H∧D.nx σ H)∨(J.go i H∧∃N:St→Hp→Prop,(∀σ' H',N σ' H'→∃m',m' < m∧W (i+1) m' σ' H')∧∀x H',J.yld i H x H'→g x σ H' fun σ2 H2=>tb { D with nx:=N,ct:=N,bk:=D.nx } σ2 H2)
def pinsAt(fp:List Addr)(h:Heap):List (Addr × Obj):=fp.filterMap fun b=>(h.get? b).map fun o=>(b,o)
theorem mem_pinsAt{fp:List Addr}{h:Heap}{b:Addr}{o:Obj}(hb:b∈fp)(e:h.get? b=some o):(b,o)∈pinsAt fp h:=List.mem_filterMap.mpr ⟨b,hb,by rw [e];rfl⟩
theorem of_pinsAt{fp:List Addr}{h:Heap}{p:Addr × Obj}(hp:p∈pinsAt fp h):p.1∈fp∧h.get? p.1=some p.2:=by
 obtain⟨b,hb,e⟩:=List.mem_filterMap.mp hp
 cases q:h.get? b with
 |none=>rw [q] at e;cases e
 |some o =>
  rw [q] at e
  have e':(b,o)=p:=Option.some.inj e
  subst e'
  exact⟨hb,q⟩
theorem Inv.pinned{pins:List (Addr × Obj)}{σ:St}{H:Hp}{s:Shared}{fp:List Addr}(I:Inv X pins σ H s)(hf:∀b∈fp,FpOk X pins H b)(ho:∀b∈fp,∃o,s.heap.get? b=some o∧∀v,o.data≠.cell v):Inv X (pins++pinsAt fp s.heap) σ H s :=
 I.pins_of fun p hp=>(List.mem_append.mp hp).elim (fun z=>I.pin p (List.mem_append_right _ z)) fun z=>by
  obtain⟨hb,e⟩:=of_pinsAt z
  obtain⟨f0,f1,f2,_⟩:=hf p.1 hb
  obtain⟨o,e',d⟩:=ho p.1 hb
  rw [e] at e';cases e'
  exact⟨e,f0,f1,f2,d⟩
theorem Inv.unpinned{pins pl:List (Addr × Obj)}{σ:St}{H:Hp}{s:Shared}(I:Inv X (pins++pl) σ H s):Inv X pins σ H s:=I.pins_of fun p hp=>I.pin p (List.mem_append_right _ (List.mem_append_left _ hp))
theorem ps_for{iter:Expr}{body:List Stmt}{wi:TI}{g:TG}{tb:TS}{pos:Pos}(hp:PassesOwn (model X.prog X.w) X.A X.env X.xe)(hc:X.calm=true)(hi:PI X tg iter wi)(hg:PG X tg g)(hb:PSs X body tb)
  (hs:∀x,foldedSetIterable iter X.env x=pure x:=by intro _;rfl):PS X (.For tg iter body [] pos) (tFor wi g tb):=by
 intro pins s σ H D I h
 refine wpAny_For (thn (hi pins s σ H _ I h) fun v s1 h1=>thn h1 fun itv s2 h2=>?_) hs
 obtain⟨it,fp,tn,J,H2,e,I2,T,st2,f2,W,⟨m0,w0⟩,turn⟩:=h2
 subst e
 have stat:∀{H':Hp},(∀b∈fp,H' b=none)→∀b∈fp,FpOk X pins H' b:=fun hn b hb=>⟨hn b hb,(f2 b hb).2⟩
 refine codeAny_forLoop_any (fun n s'=>∃i σ' H',Inv X pins σ' H' s'∧tn i s'.heap∧(∀b∈fp,H' b=none)∧W i n σ' H') ?_ m0 ⟨0,σ,H2,I2,st2,fun b hb=>(f2 b hb).1,w0⟩
 rintro n s3 ⟨i,σ3,H3,I3,st3,fr3,w3⟩
 rcases turn i n σ3 H3 w3 with ⟨stop,qn⟩|⟨go,N,hN,step⟩
 ·refine wpAny_passesOwn hp (thn (T.done X rfl rfl rfl hc i pins s3 σ3 H3 X.xe I3 (stat fr3) st3 stop) fun r s4 ⟨hr,I4⟩=>?_)
  subst hr
  exact wpAny_execs_nil ⟨σ3,H3,I4,qn⟩
 ·refine wpAny_passesOwn hp (thn (T.item X rfl rfl rfl hc i pins s3 σ3 H3 X.xe I3 (stat fr3) st3 go) fun r s4 ⟨u,hr,h4⟩=>?_)
  subst hr
  refine wpAny_passesOwn hp (thn h4 fun _ s5 ⟨x,H5,I5,r5,y5,st5,fr5⟩=>?_)
  have I5':=I5.pinned (stat fr5) (T.obj _ _ st5)
  refine wpAny_passesOwn hp (thn (hg _ s5 σ3 H5 x u _ I5' r5 (step x H5 y5)) fun _ s6 ⟨σ6,H6,I6,q6⟩=>?_)
  refine wpAny_passesOwn hp (thn (hb _ s6 σ6 H6 _ I6 q6) fun f s7 q7=>?_)
  have again:∀{σ7:St} {H7:Hp},Inv X (pins++pinsAt fp s5.heap) σ7 H7 s7→N σ7 H7→∃m,m < n∧∃i σ' H',Inv X pins σ' H' s7∧tn i s7.heap∧(∀b∈fp,H' b=none)∧W i m σ' H':=fun {σ7 H7} I7 n7=>by
   obtain⟨m',hm,w7⟩:=hN σ7 H7 n7
   refine⟨m',hm,i+1,σ7,H7,I7.unpinned,T.keep _ _ _ st5 fun b hb o e=>(I7.pin (b,o) (List.mem_append_right _ (List.mem_append_right _ (mem_pinsAt hb e)))).1,fun b hb=>?_,w7⟩
   obtain⟨o,e,d⟩:=T.obj _ _ st5 b hb
   exact(I7.pin (b,o) (List.mem_append_right _ (List.mem_append_right _ (mem_pinsAt hb e)))).2.1
  cases f with
  |next=>obtain⟨σ7,H7,I7,n7⟩:=q7;exact again I7 n7
  |cont=>obtain⟨σ7,H7,I7,n7⟩:=q7;exact again I7 n7
  |brk=>obtain⟨σ7,H7,I7,q7⟩:=q7;exact⟨σ7,H7,I7.unpinned,q7⟩
  |ret v=>obtain⟨x7,σ7,H7,I7,r7,q7⟩:=q7;exact⟨x7,σ7,H7,I7.unpinned,r7,q7⟩
end
theorem for_list{K:PySem.W.Frag}{a:Addr}{xs:List V}{g:TG}{tb:TS}{D:Ends}{σ:St}{H:Hp}(Pv:Nat→St→Hp→Prop)(h0:Pv 0 σ H)(hl:∀i σ H,i≤xs.length→Pv i σ H→SqL K H a xs)
  (hs:∀i x σ H,xs[i]?=some x→Pv i σ H→g x σ H fun σ2 H2=>tb { D with nx:=Pv (i+1),ct:=Pv (i+1),bk:=D.nx } σ2 H2) (hd:∀σ H,Pv xs.length σ H→D.nx σ H) :
  ∃W:Nat→Nat→St→Hp→Prop,(∃m,W 0 m σ H)∧∀i m σ H,W i m σ H →
   ((Itl K a).stop i H∧D.nx σ H)∨((Itl K a).go i H∧∃N:St→Hp→Prop,(∀σ' H',N σ' H'→∃m',m' < m∧W (i+1) m' σ' H')∧∀x H',(Itl K a).yld i H x H'→g x σ H' fun σ2 H2=>tb { D with nx:=N,ct:=N,bk:=D.nx } σ2 H2):=by
 refine⟨fun i m σ H=>m=xs.length - i∧i≤xs.length∧Pv i σ H,⟨xs.length,by simp,Nat.zero_le _,h0⟩,?_⟩
 rintro i m σ H ⟨rfl,hi,p⟩
 have q:=hl i σ H hi p
 by_cases hlt:i < xs.length
 ·refine .inr ⟨⟨xs,xs[i],q,by simp [hlt]⟩,Pv (i+1),fun σ' H' p'=>⟨xs.length - (i+1),by omega,rfl,hlt,p'⟩,fun x H' y=>?_⟩
  obtain⟨e,y⟩:=y
  subst e
  exact hs i x σ _ (y xs q) p
 ·have e:i=xs.length:=by omega
  subst e
  exact .inl ⟨⟨xs,q,Nat.le_refl _⟩,hd σ H p⟩
theorem for_tup{K:PySem.W.Frag}{a:Addr}{xs:List V}{g:TG}{tb:TS}{D:Ends}{σ:St}{H:Hp}(Pv:Nat→St→Hp→Prop)(h0:Pv 0 σ H)(hl:∀i σ H,i≤xs.length→Pv i σ H→SqT K H a xs)
  (hs:∀i x σ H,xs[i]?=some x→Pv i σ H→g x σ H fun σ2 H2=>tb { D with nx:=Pv (i+1),ct:=Pv (i+1),bk:=D.nx } σ2 H2) (hd:∀σ H,Pv xs.length σ H→D.nx σ H) :
  ∃W:Nat→Nat→St→Hp→Prop,(∃m,W 0 m σ H)∧∀i m σ H,W i m σ H →
   ((Itt K a).stop i H∧D.nx σ H)∨((Itt K a).go i H∧∃N:St→Hp→Prop,(∀σ' H',N σ' H'→∃m',m' < m∧W (i+1) m' σ' H')∧∀x H',(Itt K a).yld i H x H'→g x σ H' fun σ2 H2=>tb { D with nx:=N,ct:=N,bk:=D.nx } σ2 H2):=by
 refine⟨fun i m σ H=>m=xs.length - i∧i≤xs.length∧Pv i σ H,⟨xs.length,by simp,Nat.zero_le _,h0⟩,?_⟩
 rintro i m σ H ⟨rfl,hi,p⟩
 have q:=hl i σ H hi p
 by_cases hlt:i < xs.length
 ·refine .inr ⟨⟨xs,xs[i],q,by simp [hlt]⟩,Pv (i+1),fun σ' H' p'=>⟨xs.length - (i+1),by omega,rfl,hlt,p'⟩,fun x H' y=>?_⟩
  obtain⟨e,y⟩:=y
  subst e
  exact hs i x σ _ (y xs q) p
 ·have e:i=xs.length:=by omega
  subst e
  exact .inl ⟨⟨xs,q,Nat.le_refl _⟩,hd σ H p⟩
theorem for_range{lo:Int}{n:Nat}{g:TG}{tb:TS}{D:Ends}{σ:St}{H:Hp}(Pv:Nat→St→Hp→Prop)(h0:Pv 0 σ H)
  (hs:∀i σ H,i < n→Pv i σ H→g (.int (lo+i)) σ H fun σ2 H2=>tb { D with nx:=Pv (i+1),ct:=Pv (i+1),bk:=D.nx } σ2 H2) (hd:∀σ H,Pv n σ H→D.nx σ H) :
  ∃W:Nat→Nat→St→Hp→Prop,(∃m,W 0 m σ H)∧∀i m σ H,W i m σ H →
   ((Itr lo n).stop i H∧D.nx σ H)∨((Itr lo n).go i H∧∃N:St→Hp→Prop,(∀σ' H',N σ' H'→∃m',m' < m∧W (i+1) m' σ' H')∧∀x H',(Itr lo n).yld i H x H'→g x σ H' fun σ2 H2=>tb { D with nx:=N,ct:=N,bk:=D.nx } σ2 H2):=by
 refine⟨fun i m σ H=>m=n - i∧i≤n∧Pv i σ H,⟨n,by simp,Nat.zero_le _,h0⟩,?_⟩
 rintro i m σ H ⟨rfl,hi,p⟩
 by_cases hlt:i < n
 ·refine .inr ⟨hlt,Pv (i+1),fun σ' H' p'=>⟨n - (i+1),by omega,rfl,hlt,p'⟩,fun x H' y=>?_⟩
  obtain⟨e,y⟩:=y
  subst e y
  exact hs i σ _ hlt p
 ·have e:i=n:=by omega
  subst e
  exact .inl ⟨Nat.le_refl _,hd σ H p⟩
theorem while_by{c:TT}{tb:TS}{D:Ends}{σ:St}{H:Hp}(Pv:St→Hp→Prop)(μ:St→Hp→Nat)(h0:Pv σ H)
  (hs:∀σ H,Pv σ H→c σ H fun b H1=>if b=true then tb { D with nx:=fun σ' H'=>Pv σ' H'∧μ σ' H' < μ σ H,ct:=fun σ' H'=>Pv σ' H'∧μ σ' H' < μ σ H,bk:=D.nx } σ H1 else D.nx σ H1)
  (mono:∀σ H Q Q',(∀b H1,Q b H1→Q' b H1)→c σ H Q→c σ H Q'):tWhile c tb D σ H:=by
 refine⟨fun m σ H=>m=μ σ H∧Pv σ H,⟨_,rfl,h0⟩,?_⟩
 rintro m σ H ⟨rfl,p⟩
 refine mono σ H _ _ (fun b H1 q=>?_) (hs σ H p)
 cases b with
 |true=>exact⟨_,fun σ' H' ⟨p',l⟩=>⟨_,l,rfl,p'⟩,q⟩
 |false=>exact q
end L2
namespace L2
open PySem PySem.Spec PyProof.Rows
abbrev R2:=V→V→Hp→VK→Prop
def OpR(X:Cx)(f:Value→Value→Sem Value)(r:R2):Prop :=
 ∀(pins:List (Addr × Obj)) (s:Shared) (σ:St) (H:Hp) (x y:V) (v u:Value) (Q:VK),Inv X pins σ H s→RelV x v→RelV y u→r x y H Q →
  wpAny (model X.prog X.w) X.A (f v u) (EP X pins σ Q) X.xe s
def CallR(X:Cx)(f:Value)(r:List V→Hp→VK→Prop):Prop :=
 ∀(pins:List (Addr × Obj)) (s:Shared) (σ:St) (H:Hp) (xs:List V) (us:List Value) (Q:VK),Inv X pins σ H s→Vals xs us→r xs H Q →
  wpAny (model X.prog X.w) X.A (call f us) (EP X pins σ Q) X.xe s
def tOp(r:R2)(ta tb:TE):TE:=fun σ H Q=>ta σ H fun x H1=>tb σ H1 fun y H2=>r x y H2 Q
inductive Wd (C:Int→Int→Prop) (g:Int→Int→V) (x y:V) (H:Hp) (Q:VK):Prop
 |mk (i j:Int) (a:x=.int i) (b:y=.int j) (c:C i j) (q:Q (g i j) H)
def rI(C:Int→Int→Prop)(g:Int→Int→V):R2:=fun x y H Q=>Wd C g x y H Q
inductive We (g:Int→Int→V) (x y:V) (H:Hp) (Q:VK):Prop
 |mk (i j:Int) (a:x=.int i) (b:y=.int j) (q:Q (g i j) H)
def rI0(g:Int→Int→V):R2:=fun x y H Q=>We g x y H Q
section
variable{X:Cx}{a b c:Expr}{ta tb tc:TE}{pos:Pos}
theorem binT(ha:PE X a ta)(hb:PE X b tb){pins:List (Addr × Obj)}{s:Shared}{σ:St}{H:Hp}{R:V→V→Hp→Prop}(I:Inv X pins σ H s)
  (h:ta σ H fun x H1=>tb σ H1 fun y H2=>R x y H2) {Q:Value→Shared→Prop} {f:Value→Value→Sem Value}
  (hf:∀v u s2 x y H2,Inv X pins σ H2 s2→RelV x v→RelV y u→R x y H2→wpAny (model X.prog X.w) X.A (f v u) Q X.xe s2) :
  wpAny (model X.prog X.w) X.A (eval a X.env) (fun v s₁=>wpAny (model X.prog X.w) X.A (eval b X.env) (fun u s₂=>wpAny (model X.prog X.w) X.A (f v u) Q X.xe s₂) X.xe s₁) X.xe s:=by
 refine thn (ha pins s σ H _ I h) fun v s1 ⟨x,H1,I1,r1,q1⟩=>?_
 refine thn (hb pins s1 σ H1 _ I1 q1) fun u s2 ⟨y,H2,I2,r2,q2⟩=>?_
 exact hf v u s2 x y H2 I2 r1 r2 q2
theorem pe_op{op:Operator}{r:R2}(ho:OpR X (binaryOp op) r)(ha:PE X a ta)(hb:PE X b tb):PE X (.BinOp a op b pos) (tOp r ta tb):=by
 intro pins s σ H Q I h
 exact wpAny_BinOp (binT ha hb I h fun v u s2 x y H2 I2 rx ry q=>ho pins s2 σ H2 x y v u Q I2 rx ry q)
theorem opI{f:Value→Value→Sem Value}{C:Int→Int→Prop}{g:Int→Int→Int}
  (rule:∀(i j:Int) (t u:Tok) (s:Shared) (Q:Value→Shared→Prop) (E:Value→Shared→Prop),C i j→Q (.int (g i j) s.toks) { s with toks:=s.toks+1 }→wpAny (model X.prog X.w) X.A (f (.int i t) (.int j u)) Q E s) :
  OpR X f (rI C fun i j=>.int (g i j)):=by
 intro pins s σ H x y v u Q I rx ry h
 obtain⟨i,j,rfl,rfl,hc,q⟩:=h
 obtain⟨t,rfl⟩:=rx
 obtain⟨t',rfl⟩:=ry
 exact rule i j t t' s _ _ hc ⟨.int (g i j),H,I.tok _,⟨_,rfl⟩,q⟩
theorem opI0{f:Value→Value→Sem Value}{g:Int→Int→Int}
  (rule:∀(i j:Int) (t u:Tok) (s:Shared) (Q:Value→Shared→Prop) (E:Value→Shared→Prop),Q (.int (g i j) s.toks) { s with toks:=s.toks+1 }→wpAny (model X.prog X.w) X.A (f (.int i t) (.int j u)) Q E s) :
  OpR X f (rI0 fun i j=>.int (g i j)):=by
 intro pins s σ H x y v u Q I rx ry h
 obtain⟨i,j,rfl,rfl,q⟩:=h
 obtain⟨t,rfl⟩:=rx
 obtain⟨t',rfl⟩:=ry
 exact rule i j t t' s _ _ ⟨.int (g i j),H,I.tok _,⟨_,rfl⟩,q⟩
theorem opB0{f:Value→Value→Sem Value}{g:Int→Int→Bool}
  (rule:∀(i j:Int) (t u:Tok) (s:Shared) (Q:Value→Shared→Prop) (E:Value→Shared→Prop),Q (.bool (g i j)) s→wpAny (model X.prog X.w) X.A (f (.int i t) (.int j u)) Q E s) :
  OpR X f (rI0 fun i j=>.bl (g i j)):=by
 intro pins s σ H x y v u Q I rx ry h
 obtain⟨i,j,rfl,rfl,q⟩:=h
 obtain⟨t,rfl⟩:=rx
 obtain⟨t',rfl⟩:=ry
 exact rule i j t t' s _ _ ⟨.bl (g i j),H,I,rfl,q⟩
def CDiv(i j:Int):Prop:=0 < j∧j < 1073741824
def CPow(i j:Int):Prop:=0≤j∧j≤1000000∧i.natAbs < 2 ^ 64
def CMul(i j:Int):Prop:=(-(2 ^ 64) < i∧i < 2 ^ 64)∨(-(2 ^ 64) < j∧j < 2 ^ 64)
theorem CMul.ok{i j:Int}(h:CMul i j):IntMulOk i j:=by
 rcases h with ⟨h1,h2⟩|⟨h1,h2⟩
 ·exact .of_left (intBits_le_64 h1 h2)
 ·exact .of_right (intBits_le_64 h1 h2)
theorem op_add:OpR X (binaryOp .Add) (rI0 fun i j=>.int (i+j)):=opI0 fun _ _ _ _ _ _ _ q=>add_int q
theorem op_sub:OpR X (binaryOp .Sub) (rI0 fun i j=>.int (i - j)):=opI0 fun _ _ _ _ _ _ _ q=>sub_int q
theorem op_mul:OpR X (binaryOp .Mult) (rI CMul fun i j=>.int (i*j)):=opI fun _ _ _ _ _ _ _ hc q=>mul_int q hc.ok
theorem op_fdiv:OpR X (binaryOp .FloorDiv) (rI CDiv fun i j=>.int (i / j)):=opI fun i j _ _ _ _ _ hc q=>by
 have h1:(0:Int) < j:=hc.1
 have h2:j < 1073741824:=hc.2
 exact floordiv_int (by omega) (by rw [Int.fdiv_eq_ediv_of_nonneg i (by omega)];exact q) (.inl (PyProof.noPylong_small (by omega)))
theorem op_mod:OpR X (binaryOp .Mod) (rI (fun _ j=>0 < j) fun i j=>.int (i%j)):=opI fun i j _ _ _ _ _ hc q=>by
 have h1:(0:Int) < j:=hc
 exact mod_int' (by omega) (by rw [Int.fmod_eq_emod_of_nonneg i (by omega)];exact q)
theorem op_pow:OpR X (binaryOp .Pow) (rI CPow fun i j=>.int (i ^ j.toNat)):=opI fun _ _ _ _ _ _ _ hc q=>pow_int_small hc.1 hc.2.1 hc.2.2 q
end
def scal:V→V→Bool
 |.non,.non=>true|.non,.int _=>true|.int _,.non=>true|.non,.bl _=>true|.bl _,.non=>true|.non,.str _=>true|.str _,.non=>true
 |.int _,.int _=>true|.bl _,.bl _=>true|.str _,.str _=>true|.byt _,.byt _=>true
 |.int _,.str _=>true|.str _,.int _=>true|.bl _,.str _=>true|.str _,.bl _=>true
 |_,_=>false
def rEq:R2:=fun x y H Q=>scal x y=true∧Q (.bl (decide (x=y))) H
def rNe:R2:=fun x y H Q=>scal x y=true∧Q (.bl (!decide (x=y))) H
theorem dec_int{i j:Int}:decide (V.int i=V.int j)=(i==j):=by
 rw [Bool.eq_iff_iff]
 simp
theorem dec_bl{i j:Bool}:decide (V.bl i=V.bl j)=(i==j):=by
 rw [Bool.eq_iff_iff]
 simp
theorem dec_str{i j:Str}:decide (V.str i=V.str j)=(i==j):=by
 rw [Bool.eq_iff_iff]
 simp
theorem dec_byt{i j:Array UInt8}:decide (V.byt i=V.byt j)=(i.toList==j.toList):=by
 rw [Bool.eq_iff_iff]
 cases i
 cases j
 simp
section
variable{X:Cx}{a b c:Expr}{ta tb tc:TE}{pos:Pos}
theorem fin_bl{pins:List (Addr × Obj)}{σ:St}{H:Hp}{s:Shared}{Q:VK}{k k':Bool}(I:Inv X pins σ H s)(q:Q (.bl k) H)(e:k=k'):EP X pins σ Q (.bool k') s:=by
 subst e
 exact⟨.bl k,H,I,rfl,q⟩
theorem op_eq:OpR X (compareOp .Eq) rEq:=by
 intro pins s σ H x y v u Q I rx ry h
 obtain⟨hs,q⟩:=h
 cases x with
 |non =>
  cases rx
  cases y with
  |non=>cases ry;exact PySem.EqNone.eq_none_none (fin_bl I q (by simp))
  |bl j=>cases ry;exact PySem.EqNone.eq_none_bool (fin_bl I q (by simp))
  |int j=>obtain⟨t',rfl⟩:=ry;exact PySem.EqNone.eq_none_int (fin_bl I q (by simp))
  |str j=>obtain⟨t',rfl⟩:=ry;exact PySem.EqNone.eq_none_str (fin_bl I q (by simp))
  |_=>exact absurd (show false=true from hs) Bool.false_ne_true
 |bl i =>
  cases rx
  cases y with
  |non=>cases ry;exact PySem.EqNone.eq_bool_none (fin_bl I q (by simp))
  |bl j=>cases ry;exact eq_bool (fin_bl I q dec_bl)
  |str j=>obtain⟨t',rfl⟩:=ry;exact PySem.EqMixed.eq_bool_str (fin_bl I q (by simp))
  |_=>exact absurd (show false=true from hs) Bool.false_ne_true
 |int i =>
  obtain⟨t,rfl⟩:=rx
  cases y with
  |non=>cases ry;exact PySem.EqNone.eq_int_none (fin_bl I q (by simp))
  |int j=>obtain⟨t',rfl⟩:=ry;exact eq_int (fin_bl I q dec_int)
  |str j=>obtain⟨t',rfl⟩:=ry;exact PySem.EqMixed.eq_int_str (fin_bl I q (by simp))
  |_=>exact absurd (show false=true from hs) Bool.false_ne_true
 |str i =>
  obtain⟨t,rfl⟩:=rx
  cases y with
  |non=>cases ry;exact PySem.EqNone.eq_str_none (fin_bl I q (by simp))
  |bl j=>cases ry;exact PySem.EqMixed.eq_str_bool (fin_bl I q (by simp))
  |int j=>obtain⟨t',rfl⟩:=ry;exact PySem.EqMixed.eq_str_int (fin_bl I q (by simp))
  |str j=>obtain⟨t',rfl⟩:=ry;exact eq_str (fin_bl I q dec_str)
  |_=>exact absurd (show false=true from hs) Bool.false_ne_true
 |byt i =>
  obtain⟨t,rfl⟩:=rx
  cases y with
  |byt j=>obtain⟨t',rfl⟩:=ry;exact PySem.W.eq_bytes (fin_bl I q dec_byt)
  |_=>exact absurd (show false=true from hs) Bool.false_ne_true
 |_=>cases y<;>exact absurd (show false=true from hs) Bool.false_ne_true
theorem op_ne:OpR X (compareOp .NotEq) rNe:=by
 intro pins s σ H x y v u Q I rx ry h
 obtain⟨hs,q⟩:=h
 cases x with
 |non =>
  cases rx
  cases y with
  |non=>cases ry;exact PySem.EqNone.ne_none_none (fin_bl I q (by simp))
  |bl j=>cases ry;exact PySem.EqNone.ne_none_bool (fin_bl I q (by simp))
  |int j=>obtain⟨t',rfl⟩:=ry;exact PySem.EqNone.ne_none_int (fin_bl I q (by simp))
  |str j=>obtain⟨t',rfl⟩:=ry;exact PySem.EqNone.ne_none_str (fin_bl I q (by simp))
  |_=>exact absurd (show false=true from hs) Bool.false_ne_true
 |bl i =>
  cases rx
  cases y with
  |non=>cases ry;exact PySem.EqNone.ne_bool_none (fin_bl I q (by simp))
  |bl j=>cases ry;exact ne_bool (fin_bl I q (congrArg not dec_bl))
  |str j=>obtain⟨t',rfl⟩:=ry;exact PySem.EqMixed.ne_bool_str (fin_bl I q (by simp))
  |_=>exact absurd (show false=true from hs) Bool.false_ne_true
 |int i =>
  obtain⟨t,rfl⟩:=rx
  cases y with
  |non=>cases ry;exact PySem.EqNone.ne_int_none (fin_bl I q (by simp))
  |int j=>obtain⟨t',rfl⟩:=ry;exact ne_int (fin_bl I q (congrArg not dec_int))
  |str j=>obtain⟨t',rfl⟩:=ry;exact PySem.EqMixed.ne_int_str (fin_bl I q (by simp))
  |_=>exact absurd (show false=true from hs) Bool.false_ne_true
 |str i =>
  obtain⟨t,rfl⟩:=rx
  cases y with
  |non=>cases ry;exact PySem.EqNone.ne_str_none (fin_bl I q (by simp))
  |bl j=>cases ry;exact PySem.EqMixed.ne_str_bool (fin_bl I q (by simp))
  |int j=>obtain⟨t',rfl⟩:=ry;exact PySem.EqMixed.ne_str_int (fin_bl I q (by simp))
  |str j=>obtain⟨t',rfl⟩:=ry;exact ne_str (fin_bl I q (congrArg not dec_str))
  |_=>exact absurd (show false=true from hs) Bool.false_ne_true
 |byt i =>
  obtain⟨t,rfl⟩:=rx
  cases y with
  |byt j=>obtain⟨t',rfl⟩:=ry;exact PySem.W.ne_bytes (fin_bl I q (congrArg not dec_byt))
  |_=>exact absurd (show false=true from hs) Bool.false_ne_true
 |_=>cases y<;>exact absurd (show false=true from hs) Bool.false_ne_true
theorem op_lt:OpR X (compareOp .Lt) (rI0 fun i j=>.bl (decide (i < j))):=opB0 fun _ _ _ _ _ _ _ q=>lt_int q
theorem op_gt:OpR X (compareOp .Gt) (rI0 fun i j=>.bl (decide (j < i))):=opB0 fun _ _ _ _ _ _ _ q=>gt_int q
theorem op_notN:OpR X (compareOp .IsNot) (fun x y H Q=>y=.non∧Q (.bl (!decide (x=.non))) H):=by
 intro pins s σ H x y v u Q I rx ry h
 obtain⟨rfl,q⟩:=h
 cases ry
 refine isnot_none_gen (fin_bl I q ?_)
 cases x<;>first
  |(cases rx;rfl)
  |(obtain⟨t,rfl⟩:=rx;rfl)
theorem nomark(b:Expr){op:CmpOp}(h:op≠.In:=by decide)(h2:op≠.NotIn:=by decide):behindInMarks op b=false:=by
 have e1:(op==CmpOp.In)=false:=by cases op<;>first|rfl|exact absurd rfl h
 have e2:(op==CmpOp.NotIn)=false:=by cases op<;>first|rfl|exact absurd rfl h2
 cases b<;>simp [behindInMarks,e1,e2]
theorem pe_cmpR{op:CmpOp}{r:R2}(ho:OpR X (compareOp op) r)(ha:PE X a ta)(hb:PE X b tb)(hm:behindInMarks op b=false):PE X (.Compare a [op] [b] pos) (tOp r ta tb):=by
 intro pins s σ H Q I h
 exact wpAny_Compare1 (binT ha hb I h fun v u s2 x y H2 I2 rx ry q=>ho pins s2 σ H2 x y v u Q I2 rx ry q) hm
def tTest(t:TE):TT:=fun σ H Q=>t σ H fun x H'=>Wb x H' Q
theorem pt_cmpR{op:CmpOp}{r:R2}(ho:OpR X (compareOp op) r)(ha:PE X a ta)(hb:PE X b tb)(hm:behindInMarks op b=false):PT X (.Compare a [op] [b] pos) (tTest (tOp r ta tb)):=by
 intro pins s σ H Q I h
 refine wpAny_isTrue_Compare1 (thn (ha pins s σ H _ I h) fun v s1 ⟨x,H1,I1,r1,q1⟩=>thn (hb pins s1 σ H1 _ I1 q1) fun u s2 ⟨y,H2,I2,r2,q2⟩ =>
  thn (ho pins s2 σ H2 x y v u _ I2 r1 r2 q2) fun c s3 ⟨z,H3,I3,r3,k,e,q3⟩=>?_) hm
 subst e
 cases r3
 exact wpAny_truthy_bool ⟨H3,I3,q3⟩
theorem line63:(sizeLine:Nat) < 2 ^ 63:=by rw [sizeLine_eq];decide
theorem op_add_str:OpR X (binaryOp .Add) (fun x y H Q=>∃i j,x=.str i∧y=.str j∧i.length+j.length≤sizeLine∧Q (.str (i++j)) H):=by
 intro pins s σ H x y v u Q I rx ry h
 obtain⟨i,j,rfl,rfl,hz,q⟩:=h
 obtain⟨t,rfl⟩:=rx
 obtain⟨t',rfl⟩:=ry
 exact add_str (fun t' tk=>⟨.str (i++j),H,I.tok _,⟨_,rfl⟩,q⟩) hz
theorem vals1{x:V}{us:List Value}(r:Vals [x] us):∃u,us=[u]∧RelV x u:=by
 cases r with
 |cons r1 r2=>cases r2;exact⟨_,rfl,r1⟩
end
end L2
namespace L2
open PySem PySem.Spec PyProof.Rows
structure ObjM(h:Heap)(x dx C:Addr)(mA:Str→Option Value):Prop where
 obj:h.get? x=some (PySem.W.instObj C dx)
 ns:h.Ns1 dx mA
 ne:dx≠x
theorem lookIn_ns{h:Heap}{dx:Addr}{mA:Str→Option Value}(n:h.Ns1 dx mA):∃od,h.get? dx=some od∧∀name,PySem.W.lookIn name od=some (mA name):=by
 obtain⟨o,es,ep,ho,hd,hk,_,hm⟩:=n
 refine⟨o,ho,fun name=>?_⟩
 have e:=hm name
 unfold nsFind findBy at e
 rw [←Array.find?_toList] at e
 unfold PySem.W.lookIn
 rw [hd]
 dsimp only
 split
 ·rename_i y q
  rw [q] at e
  exact congrArg some e
 ·rename_i q
  rw [q] at e
  have a:es.toList.any (·.refKey)=false:=by
   rw [List.any_eq_false]
   intro y hy
   obtain⟨z,t,hkey⟩:=hk y (Array.mem_toList_iff.mp hy)
   simp [DictEntry.refKey,hkey]
  have a':¬es.toList.any (·.refKey)=true:=by rw [a];exact Bool.false_ne_true
  rw [if_neg a']
  exact congrArg some e
theorem ObjM.look{h:Heap}{x dx C:Addr}{mA:Str→Option Value}(I:ObjM h x dx C mA):∃od,PySem.W.InstAt h x (PySem.W.instObj C dx) C (some od)∧∀name,PySem.W.lookIn name od=some (mA name) :=
 let ⟨od,ho,hl⟩:=lookIn_ns I.ns
 ⟨od,⟨I.obj,rfl,rfl,ho⟩,hl⟩
section
variable{prog:Program}{w:World}{A:Around}{E:Value→Shared→Prop}{s:Shared}{K:PySem.W.Frag}{x dx C f:Addr}{mA:Str→Option Value}{name:Str}{v:Value}
end
theorem RelO.some_of{v:V}{o:Option Value}(r:RelO (some v) o):∃u,o=some u∧RelV v u:=by
 cases o with
 |none=>exact(show False from r).elim
 |some u=>exact⟨u,rfl,r⟩
section
variable{P:Program}{w:World}{H H':Hp}{h h':Heap}{a C dx:Addr}{fs fs':List (Str × V)}
theorem ins_get(hok:HOk P w H h)(e:H a=some (.ins C dx fs)):∃mA,ObjM h a dx C mA∧(∀f,RelO (fs.lookup f) (mA f))∧PySem.Within mA (fs.map (·.1))∧fs.length≤1000∧H dx=some (.own a):=by
 obtain⟨d,z,ne,ob,mA,n,r,q⟩:=(show ObjOk P w H h a (.ins C dx fs) from hok a _ e)
 exact⟨mA,⟨ob,n,ne⟩,r,q,z,d⟩
end
structure Cls(K:PySem.W.Frag)(C:Addr):Prop where
 pg:PySem.W.plainGet K C Str.empty=true
 hd:PySem.W.hasDictIn K C=true
 po:PySem.W.plainOver K C=true
 sa:PySem.W.findIn K (.ref C) "__setattr__"=some (some (.builtin "object.__setattr__"))
theorem Cls.get{K:PySem.W.Frag}{C:Addr}(c:Cls K C)(f:Str):PySem.W.plainGet K C f=true:=c.pg
structure Con(K:PySem.W.Frag)(C:Addr)(f:Str)(v:V)(u:Value):Prop where
 at_:PySem.W.findIn K (.ref C) f=some (some u)
 rel:RelV v u
 get:PySem.W.specialIn K u "__get__"=some none
 cp:PySem.W.copiedNames.contains f=false
structure Meth(K:PySem.W.Frag)(C:Addr)(m:Str)(f:Addr):Prop where
 at_:PySem.W.findIn K (.ref C) m=some (some (.ref f))
 fn:PySem.W.isFn K (.ref f)=true
 kp:PySem.W.keepIn K (.ref f)=true
section
variable{X:Cx}{pins:List (Addr × Obj)}{σ:St}{H:Hp}{s:Shared}{a C dx:Addr}{fs:List (Str × V)}{f:Str}{v:V}{A:Around}{E:Value→Shared→Prop}
end
section
variable{X:Cx}{o e value:Expr}{f:Str}{pos pos' tpos:Pos}{ta tv:TE}
end
section
variable{X:Cx}{pins:List (Addr × Obj)}{σ:St}{H:Hp}{s:Shared}{A:Around}{E:Value→Shared→Prop}{Q:Value→Shared→Prop}{c:Value}{b:Bool}
inductive TyOf (K:PySem.W.Frag) (H:Hp):V→Value→Prop where
 |non:TyOf K H .non (.type "NoneType")
 |bl (x:Bool):TyOf K H (.bl x) (.type "bool")
 |int (i:Int):TyOf K H (.int i) (.type "int")
 |str (x:Str):TyOf K H (.str x) (.type "str")
 |flt (x:UInt64):TyOf K H (.flt x) (.type "float")
 |lst {a:Addr} {xs:List V} (e:H a=some (.lst xs)):TyOf K H (.ref a) (.type "list")
 |frz {a:Addr} {o:Obj} {xs:List V} (e:H a=some (.frz o (.lst xs))):TyOf K H (.ref a) (.type "list")
 |tup {a:Addr} {xs:List V} (e:H a=some (.tup xs)):TyOf K H (.ref a) (.type "tuple")
 |dK {a:Addr} {kvs:List (Key × V)} (e:H a=some (.dK kvs)):TyOf K H (.ref a) (.type "dict")
 |dT {a:Addr} {kvs:List (List Key × V)} (e:H a=some (.dT kvs)):TyOf K H (.ref a) (.type "dict")
 |ins {a C dx:Addr} {fs:List (Str × V)} (e:H a=some (.ins C dx fs)) (cl:Cls K C) (ha:PySem.W.findIn K (.ref C) "__class__"=some (some (.builtin "object.__class__")))
   (hn:PySem.W.specialIn K (.builtin "object.__class__") "__get__"=some (some (.builtin "getset_descriptor.__get__"))) (htk:PySem.W.takesIn K (.builtin "object.__class__")=some true)
   (hm:PySem.W.mroIn K C (.type "object")=some true):TyOf K H (.ref a) (.ref C)
theorem isinst_ok{x:V}{u t:Value}(I:Inv X pins σ H s)(rx:RelV x u)(ty:TyOf X.K H x t)(e:PySem.W.kitOne X.K t c=some b)(h:∀tk,Q (.bool b) { s with toks:=tk }) :
  wpAny (model X.prog X.w) A (call (.builtin "isinstance") [u,c]) Q E s:=by
 cases ty with
 |non=>cases (show u=Value.none from rx);exact PySem.W.kia_one PySem.W.kitx_none I.kIn True.intro e (fun z=>nomatch z) h
 |bl y=>cases (show u=Value.bool y from rx);exact PySem.W.kia_one PySem.W.kitx_bool I.kIn True.intro e (fun z=>nomatch z) h
 |int i=>obtain⟨t,q⟩:=(show ∃t,u=Value.int i t from rx);cases q;exact PySem.W.kia_one PySem.W.kitx_int I.kIn True.intro e (fun z=>nomatch z) h
 |str y=>obtain⟨t,q⟩:=(show ∃t,u=Value.str y t from rx);cases q;exact PySem.W.kia_one PySem.W.kitx_str I.kIn True.intro e (fun z=>nomatch z) h
 |flt y=>obtain⟨t,q⟩:=(show ∃t,u=Value.float y t from rx);cases q;exact PySem.W.kia_one PySem.W.kitx_float I.kIn True.intro e (fun z=>nomatch z) h
 |@lst a xs ea =>
  cases (show u=Value.ref a from rx)
  obtain⟨_,_,n,_,h1⟩:=(show ObjOk X.prog X.w H s.heap a (.lst xs) from I.hok a _ ea)
  exact PySem.W.kia_one PySem.W.kitx_list I.kIn ⟨_,h1,rfl⟩ e (fun z=>nomatch z) h
 |@frz a ob xs ea =>
  cases (show u=Value.ref a from rx)
  obtain⟨_,_,_,n,_,h1⟩:=(show ObjOk X.prog X.w H s.heap a (.frz ob (.lst xs)) from I.hok a _ ea)
  exact PySem.W.kia_one PySem.W.kitx_list I.kIn ⟨_,h1,rfl⟩ e (fun z=>nomatch z) h
 |@tup a xs ea =>
  cases (show u=Value.ref a from rx)
  obtain⟨_,_,_,p⟩:=(show ObjOk X.prog X.w H s.heap a (.tup xs) from I.hok a _ ea)
  obtain⟨o,h1,h2,_⟩:=p
  exact PySem.W.kia_one PySem.W.kitx_tuple I.kIn ⟨o,h1,h2⟩ e (fun z=>nomatch z) h
 |@dK a kvs ea =>
  cases (show u=Value.ref a from rx)
  obtain⟨_,_,vs,_,p⟩:=(show ObjOk X.prog X.w H s.heap a (.dK kvs) from I.hok a _ ea)
  obtain⟨o,es,ep,h1,h2,_⟩:=p
  exact PySem.W.kia_one PySem.W.kitx_dict I.kIn ⟨o,h1,h2.1⟩ e (fun z=>nomatch z) h
 |@dT a kvs ea =>
  cases (show u=Value.ref a from rx)
  obtain⟨_,_,xs,_,o,es,ep,h1,h2,_⟩:=(show ObjOk X.prog X.w H s.heap a (.dT kvs) from I.hok a _ ea)
  exact PySem.W.kia_one PySem.W.kitx_dict I.kIn ⟨o,h1,h2.1⟩ e (fun z=>nomatch z) h
 |@ins a C dx fs ea cl ha hn htk hm =>
  cases (show u=Value.ref a from rx)
  obtain⟨mA,O,_⟩:=ins_get I.hok ea
  obtain⟨od,J,_⟩:=O.look
  exact PySem.W.kia_one (PySem.W.kitx_own (cl.get _) cl.hd ha hn htk hm) I.kIn J e (fun z=>nomatch z) h
end
end L2
namespace L2
open PySem PySem.Spec PyProof.Rows
structure Room(k:Nat)(A:Around):Prop where
 hd:A.handled=none
 dp:A.depth+3*k+5 < recursionLimit
 un:A.units+16*k+200 < cLine
 gd:A.guards=some []
theorem Room.mono{j k:Nat}{A:Around}(r:Room k A)(h:j≤k):Room j A:=⟨r.hd,by have:=r.dp;omega,by have:=r.un;omega,r.gd⟩
theorem Room.deeper{k:Nat}{A:Around}(r:Room (k+1) A)(env:Env):Room k (A.deeper env) :=
 ⟨r.hd,by have:=r.dp;show A.depth+1+3*k+5 < _;omega,by have:=r.un;show A.units+3+16*k+200 < _;omega,r.gd⟩
theorem Room.depth{k:Nat}{A:Around}(r:Room k A):A.depth < recursionLimit:=by have:=r.dp;omega
theorem Room.units{k:Nat}{A:Around}(r:Room k A):A.units+64 < cLine:=by have:=r.un;omega
def tNil:TA:=fun _ H Q=>Q [] H
def tCons(ta:TE)(tr:TA):TA:=fun σ H Q=>ta σ H fun x H1=>tr σ H1 fun xs H2=>Q (x::xs) H2
section
variable{X:Cx}{e:Expr}{es:List Expr}{te:TE}{t:TA}{pos:Pos}
theorem pa_nil:PA X [] tNil:=fun _ _ _ _ H Q I h=>Calls.spliced_nil ⟨[],H,I,.nil,h⟩
theorem pa_cons(ha:PE X e te)(hr:PA X es t)(hs:starEach (e::es) X.env=(false,eval e X.env)::starEach es X.env:=by rfl):PA X (e::es) (tCons te t):=by
 intro pos pins s σ H Q I h
 rw [hs]
 show wpAny _ _ (spliced ((false,eval e X.env)::backTo pos (starEach es X.env))) _ _ s
 refine Calls.spliced_cons (thn (ha pins s σ H _ I h) fun u s1 ⟨x,H1,I1,r1,q1⟩=>?_)
 exact thn (hr pos pins s1 σ H1 _ I1 q1) fun us s2 ⟨xs,H2,I2,r2,q2⟩=>⟨x::xs,H2,I2,.cons r1 r2,q2⟩
structure Wf(o:List V→HO)(xs:List V)(H:Hp)(Q:VK):Prop where
 h:xs.length≤sizeLine
 q:∀p,H p=none→Q (.ref p) (upd H p (o xs))
def tTup(t:TA):TE:=fun σ H Q=>t σ H fun xs H1=>Wf .tup xs H1 Q
def tLst(t:TA):TE:=fun σ H Q=>t σ H fun xs H1=>Wf .lst xs H1 Q
theorem pe_tup{x1}(h:PA X es t):PE X (.Tuple es x1 pos) (tTup t):=by
 intro pins s σ H Q I hq
 refine wpAny_Tuple_spliced (thn (h pos pins s σ H _ I hq) fun us s1 ⟨xs,H1,I1,r,z,q⟩=>⟨by rw [←r.length];exact z,?_⟩)
 have hf:H1 s1.heap.objs.size=none:=I1.hok.fresh (Nat.le_refl _)
 refine⟨.ref s1.heap.objs.size,upd H1 s1.heap.objs.size (.tup xs),I1.laid (t':=s1.toks) (fun b u e=>Heap.get?_push_of_some _ e) (Nat.le_refl _) ?_,rfl,q _ hf⟩
 exact⟨z,us,r,⟨_,Heap.get?_push_size _ rfl,rfl,_,rfl⟩⟩
theorem pe_lst(h:PA X es t):PE X (.List es pos) (tLst t):=by
 intro pins s σ H Q I hq
 refine wpAny_List_spliced (thn (h pos pins s σ H _ I hq) fun us s1 ⟨xs,H1,I1,r,z,q⟩=>⟨by rw [←r.length];exact z,?_⟩)
 have hf:H1 s1.heap.objs.size=none:=I1.hok.fresh (Nat.le_refl _)
 refine⟨.ref s1.heap.objs.size,upd H1 s1.heap.objs.size (.lst xs),I1.laid (t':=s1.toks) (fun b u e=>Heap.get?_push_of_some _ e) (Nat.le_refl _) ?_,rfl,q _ hf⟩
 exact⟨z,us,0,r,Heap.get?_push_size _ rfl⟩
end
abbrev Sp:=List V→Hp→VK→XK→Prop
abbrev CXT:=List Env→Hp→Shared→XK→Value→Shared→Prop
structure Env0(P:Program)(w:World)(K:PySem.W.Frag)(mg:Str→Option Value)(base:Heap)(A:Around)(outer:List Env)(s:Shared)(H:Hp):Prop where
 frames:A.frames=some outer
 mod:Mod K mg base
 bs:∀b o,base.get? b=some o→s.heap.get? b=some o∧H b=none
 bsz:base.objs.size≤s.heap.objs.size
 funs:s.heap.FunFrames base outer
 frf:∀b∈frs outer,H b=none
 hok:HOk P w H s.heap
 bare:AllBare s.gens
def CE(outer:List Env)(P:Program)(w:World)(H:Hp)(s:Shared)(Q:VK)(u:Value)(s':Shared):Prop :=
 ∃v H',s'.os=s.os∧AllBare s'.gens∧Un (frs outer) [] H H' s.heap s'.heap∧HOk P w H' s'.heap∧RelV v u∧Q v H'
def CR(CX:CXT)(outer:List Env)(P:Program)(w:World)(H:Hp)(s:Shared)(Q:VK)(E:XK)(r:Result)(s':Shared):Prop :=
 match r with
 |.ok (.ret u)=>CE outer P w H s Q u s'
 |.ok _=>False
 |.error e=>CX outer H s E e s'
structure FnOk(P:Program)(w:World)(K:PySem.W.Frag)(mg:Str→Option Value)(base:Heap)(CX:CXT)(k:Nat)(f:Addr)(fd:FuncData)(ps:List Str)(sp:Sp):Prop where
 len:∀vs H Q E,sp vs H Q E→vs.length=ps.length
 run:∀(A:Around) (outer:List Env) (s:Shared) (H:Hp) (args:Args) (us:List Value) (vs:List V) (Q:VK) (E:XK),Room k A→Env0 P w K mg base A outer s H→BindsTo s fd args (ps.zip us)→Vals vs us→sp vs H Q E →
  codeAny (model P w) A (.call (.ref f) args) (CR CX outer P w H s Q E) s
section
variable{X:Cx}{pins:List (Addr × Obj)}{σ:St}{H:Hp}{s s':Shared}
theorem Inv.env0(I:Inv X pins σ H s):Env0 X.prog X.w X.K X.mg X.base X.A X.stack s H :=
 ⟨I.ok.frames,I.ok.mod,I.bs,Nat.le_trans I.ok.bsz I.sz,I.stack,I.stkFree,I.hok,I.bare⟩
theorem Inv.after{Q:VK}{u:Value}(I:Inv X pins σ H s)(h:CE X.stack X.prog X.w H s Q u s'):EP X pins σ Q u s':=by
 obtain⟨v,H',os,bare,un,hok,r,q⟩:=h
 obtain⟨hh,g,d,t,os'⟩:=s'
 obtain rfl:os'=s.os:=os
 exact⟨v,H',I.call (h':=hh) (g':=g) (d':=d) (t':=t) (ch:=[]) un hok bare (fun b z=>absurd z (by simp)),r,q⟩
end
def tCall(sp:Sp)(dvs:List V)(E:XK)(t:TA):TE:=fun σ H Q=>t σ H fun vs H1=>sp (vs++dvs) H1 Q E
def Binds(K:PySem.W.Frag)(fd:FuncData)(ps:List Str)(ds:List Value):Prop :=
 ∀(s:Shared) (us:List Value),K.In s.heap→(us++ds).length=ps.length→BindsTo s fd ⟨us,[]⟩ (ps.zip (us++ds))
theorem Binds.all{K:PySem.W.Frag}{fd:FuncData}{ps:List Str}(h:∀us:List Value,us.length=ps.length→bindArgs fd ⟨us,[]⟩=pure (ps.zip us)):Binds K fd ps []:=fun s us _ hl=>by
 rw [List.append_nil] at hl ⊢
 exact .of_eq (h us hl)
def Passes(CX:CXT)(X:Cx)(E:XK):Prop:=∀(pins:List (Addr × Obj)) (σ:St) (H:Hp) (s:Shared) (e:Value) (s':Shared),Inv X pins σ H s→CX X.stack H s E e s'→X.xe e s'
section
variable{X:Cx}{CX:CXT}{k:Nat}{f C:Addr}{fd:FuncData}{ps:List Str}{sp:Sp}{dvs:List V}{ds:List Value}{E:XK}{x m:Str}{p pos apos:Pos}{e o:Expr}{es:List Expr}{ta:TE}{t:TA}
theorem run_fn{pins:List (Addr × Obj)}{σ:St}{H:Hp}{s:Shared}{Q:VK}{us:List Value}{vs:List V}(F:FnOk X.prog X.w X.K X.mg X.base CX k f fd ps sp)(hr:Room k X.A)(hb:Binds X.K fd ps ds)(hd:Vals dvs ds)(hx:Passes CX X E)
  (I:Inv X pins σ H s) (r:Vals vs us) (h:sp (vs++dvs) H Q E):wpAny (model X.prog X.w) X.A (call (.ref f) us) (EP X pins σ Q) X.xe s:=by
 have r2:Vals (vs++dvs) (us++ds):=r.append hd
 have hl:(us++ds).length=ps.length:=by rw [←r2.length];exact F.len _ _ _ _ h
 refine wpAny_call (codeAny_mono (F.run X.A X.stack s H ⟨us,[]⟩ (us++ds) (vs++dvs) Q E hr I.env0 (hb s us I.kIn hl) r2 h) fun r s' hq=>?_)
 cases r with
 |error e=>exact hx pins σ H s e s' I hq
 |ok fl =>
  cases fl with
  |ret u=>exact I.after hq
  |next=>exact False.elim hq
  |brk=>exact False.elim hq
  |cont=>exact False.elim hq
theorem pe_call(F:FnOk X.prog X.w X.K X.mg X.base CX k f fd ps sp)(hr:Room k X.A)(hg:Gl X x)(hm:X.mg x=some (.ref f))(hk:PySem.W.keepIn X.K (.ref f)=true)(hb:Binds X.K fd ps ds)(hd:Vals dvs ds)(hx:Passes CX X E)
  (ha:PA X (e::es) t) (hdb:(x==("__debug__":Str))=false:=by decide) (he:starEach (e::es) X.env=(false,eval e X.env)::starEach es X.env:=by rfl) (hpl:(backTo pos (starEach es X.env)).any (·.1)=false:=by rfl) :
  PE X (.Call (.Name x p) (e::es) [] pos) (tCall sp dvs E t):=by
 intro pins s σ H Q I h
 refine wpAny_Call_Name_kw (ld_glob I hg hm ?_ hdb)
 refine PySem.W.callWith_K (h₀:=X.base) I.ok.mod.kin hk (thn (ha pos pins s σ H _ I h) fun us s1 ⟨vs,H1,I1,r,q⟩=>⟨I1.kIn,?_⟩) he hpl
 exact run_fn F hr hb hd hx I1 r q
structure Mk(K:PySem.W.Frag)(C f:Addr):Prop where
 makes:PySem.W.makesIn K C=true
 init:PySem.W.findIn K (.ref C) "__init__"=some (some (.ref f))
 fn:PySem.W.isFn K (.ref f)=true
 kp:PySem.W.keepIn K (.ref C)=true
end
def PK(X:Cx)(kws:List Keyword)(t:TA):Prop :=
 ∀(pos:Pos) (pins:List (Addr × Obj)) (s:Shared) (σ:St) (H:Hp) (Q:List V→Hp→Prop),Inv X pins σ H s→t σ H Q→wpAny (model X.prog X.w) X.A (evalAll ((backToKw pos (keywordEach kws X.env)).map (·.2))) (AP X pins σ Q) X.xe s
section
variable{X:Cx}{CX:CXT}{k:Nat}{f C:Addr}{fd:FuncData}{ps ks:List Str}{sp:Sp}{E:XK}{x m:Str}{p pos apos kpos:Pos}{e o:Expr}{es:List Expr}{kws:List Keyword}{te ta:TE}{t tk:TA}{nm:Option Str}
structure KBinds(K:PySem.W.Frag)(fd:FuncData)(ps ks:List Str)(g:List Value→List Value→List Value)(gV:List V→List V→List V):Prop where
 to:∀(s:Shared) (us ws:List Value),K.In s.heap→(g us ws).length=ps.length→BindsTo s fd ⟨us,ks.zip ws⟩ (ps.zip (g us ws))
 rel:∀{vs:List V} {us:List Value} {zs:List V} {ws:List Value},Vals vs us→Vals zs ws→Vals (gV vs zs) (g us ws)
variable{g:List Value→List Value→List Value}{gV:List V→List V→List V}
end
structure FnScope(N P:List Str)(sc:Scope):Prop where
 kind:sc.kind=.function
 co:sc.isCoroutine=false
 gen:sc.isGenerator=false
 nd:N.Nodup
 pre:N.take P.length=P
 par:∀x∈P,sc.names.lookup x=some .local∨sc.names.lookup x=some .cell
 nofree:∀y∈sc.names,y.2≠.free
theorem bindL_out{kindOf:Str→Option NameKind}{x:Str}:∀{binds:List (Str × Value)} {m:Str→Option Value},(∀v,(x,v)∉binds)→bindL kindOf binds m x=m x
 |[],_,_=>rfl
 |(n,v)::r,m,h=>by
  unfold bindL
  rw [bindL_out fun w hw=>h w (List.mem_cons_of_mem _ hw)]
  split
  ·have:x≠n:=by rintro rfl;exact h v List.mem_cons_self
   simp [this]
  ·rfl
theorem bindC_out{kindOf:Str→Option NameKind}{x:Str}:∀{binds:List (Str × Value)} {m:Str→Option Value},(∀v,(x,v)∉binds)→bindC kindOf binds m x=m x
 |[],_,_=>rfl
 |(n,v)::r,m,h=>by
  unfold bindC
  rw [bindC_out fun w hw=>h w (List.mem_cons_of_mem _ hw)]
  split
  ·rfl
  ·have:x≠n:=by rintro rfl;exact h v List.mem_cons_self
   simp [this]
theorem bindL_get{kindOf:Str→Option NameKind}{x:Str}{v:Value}:∀{P:List Str} {vs:List Value} {i:Nat} {m:Str→Option Value},P.Nodup→P[i]?=some x→vs[i]?=some v→kindOf x=some .local →
  bindL kindOf (P.zip vs) m x=some v
 |[],_,_,_,_,h,_,_=>by simp at h
 |_::_,[],_,_,_,_,h,_=>by simp at h
 |p::P,w::vs,0,m,nd,h1,h2,hk=>by
  simp at h1 h2;subst h1;subst h2
  show bindL kindOf ((p,w)::P.zip vs) m p=_
  unfold bindL
  rw [bindL_out fun v hv=>(List.nodup_cons.mp nd).1 (List.of_mem_zip hv).1,if_pos hk]
  simp
 |p::P,w::vs,i+1,m,nd,h1,h2,hk=>by
  show bindL kindOf ((p,w)::P.zip vs) m x=_
  unfold bindL
  exact bindL_get (i:=i) (List.nodup_cons.mp nd).2 (by simpa using h1) (by simpa using h2) hk
theorem bindC_get{kindOf:Str→Option NameKind}{x:Str}{v:Value}:∀{P:List Str} {vs:List Value} {i:Nat} {m:Str→Option Value},P.Nodup→P[i]?=some x→vs[i]?=some v→kindOf x≠some .local →
  bindC kindOf (P.zip vs) m x=some v
 |[],_,_,_,_,h,_,_=>by simp at h
 |_::_,[],_,_,_,_,h,_=>by simp at h
 |p::P,w::vs,0,m,nd,h1,h2,hk=>by
  simp at h1 h2;subst h1;subst h2
  show bindC kindOf ((p,w)::P.zip vs) m p=_
  unfold bindC
  rw [bindC_out fun v hv=>(List.nodup_cons.mp nd).1 (List.of_mem_zip hv).1,if_neg hk]
  simp
 |p::P,w::vs,i+1,m,nd,h1,h2,hk=>by
  show bindC kindOf ((p,w)::P.zip vs) m x=_
  unfold bindC
  exact bindC_get (i:=i) (List.nodup_cons.mp nd).2 (by simpa using h1) (by simpa using h2) hk
def start(N:List Str)(vs:List V):St:=vs.map some++List.replicate (N.length - vs.length) none
def cxOf(CX:CXT)(P:Program)(w:World)(K:PySem.W.Frag)(mg:Str→Option Value)(base:Heap)(N:List Str)(qual:Str)(scope:Scope)(f:Addr)(cd:Value)(A:Around)(outer:List Env)(s:Shared)(H:Hp)(E:XK):Cx where
 prog:=P
 w:=w
 K:=K
 mg:=mg
 base:=base
 A:=A.deeper (envOfC qual scope s.heap.objs.size f cd)
 N:=N
 s₀:=s
 H₀:=H
 env:=envOfC qual scope s.heap.objs.size f cd
 outer:=outer
 stack:=envOfC qual scope s.heap.objs.size f cd::outer
 ex:=[]
 calm:=true
 fn:=fun _=>true
 pn:=[]
 xe:=fun e s'=>wpAny (model P w) (A.deeper (envOfC qual scope s.heap.objs.size f cd)) (leaving (envOfC qual scope s.heap.objs.size f cd) e) (fun _ s''=>CX outer H s E e s'') (fun e' s''=>CX outer H s E e' s'') s'
theorem cell_has{sc:Scope}{n:Nat}{x:Str}(h:sc.names.lookup x=some .cell):∃c,(cellsFrom n sc.names []).lookup x=some c:=by
 have q:=PySem.W.cellsFrom_some sc.names n [] (.inl h)
 exact Option.isSome_iff_exists.mp q
theorem inv_start{CX:CXT}{P:Program}{w:World}{K:PySem.W.Frag}{mg:Str→Option Value}{base:Heap}{N ps:List Str}{qual:Str}{scope:Scope}{f:Addr}{cd:Value}{A:Around}{outer:List Env}{s s1:Shared}{H:Hp}{E:XK}{us:List Value}{vs:List V}
  (S:FnScope N ps scope) (hd:A.handled=none) (e0:Env0 P w K mg base A outer s H) (hl:vs.length=ps.length) (r:Vals vs us)
  (x:InCallC s s.heap.objs.size (bindL (envOfC qual scope s.heap.objs.size f cd).kindOf (ps.zip us) fun _=>none) (cellsFrom (s.heap.objs.size+1) scope.names []) (bindC (envOfC qual scope s.heap.objs.size f cd).kindOf (ps.zip us) fun _=>none) s1) :
  Inv (cxOf CX P w K mg base N qual scope f cd A outer s H E) [] (start N vs) H s1:=by
 have hpl:ps.length≤N.length:=by have:=congrArg List.length S.pre;rw [List.length_take] at this;omega
 obtain⟨h1,tk,rfl,hk⟩:=x.done
 have noA:∀b:Addr,b∉(cxOf CX P w K mg base N qual scope f cd A outer s H E).ex:=fun b z=>absurd (show b∈([]:List Addr) from z) (by simp)
 refine⟨⟨e0.mod,S.kind,rfl,rfl,Nat.le_refl _,fun y z c h1 h2=>?_,fun y hy=>?_,fun y c _ h=>?_,fun _=>hd,Around.frames_deeper e0.frames,.inr ⟨rfl,rfl⟩,fun b z=>absurd z (noA b),e0.bs,e0.bsz,fun b _ _=>noA b,fun b z=>absurd z (noA b),e0.funs,e0.frf⟩,
  rfl,e0.bare,Un.kept hk,⟨_,x.toInCall.ns,fun i y v h1 h2 h3=>?_⟩,fun y c h=>⟨_,x.cell y c h⟩,e0.hok.fresh (Nat.le_refl _),fun y c h=>?_,fun p hp=>absurd (show p∈([]:List (Addr × Obj)) from hp) (by simp),e0.hok.kept hk,?_⟩
 ·exact name_of_addr x.apart (PySem.mem_of_lookup h1) (PySem.mem_of_lookup h2)
 ·have hy:scope.names.lookup y=some .cell∨scope.names.lookup y=some .free:=hy
  rcases hy with hy|hy
  ·exact cell_has hy
  ·exact absurd rfl (S.nofree _ (PySem.mem_of_lookup hy))
 ·exact Nat.le_of_lt (x.above y c (PySem.mem_of_lookup h))
 ·have hi:i < vs.length:=by
   unfold start at h2
   by_cases hi:i < vs.length
   ·exact hi
   ·rw [List.getElem?_append_right (by simpa using hi)] at h2
    rw [List.getElem?_replicate] at h2
    split at h2<;>cases h2
  have ha:vs[i]?=some v:=by
   unfold start at h2
   rw [List.getElem?_append_left (by simpa using hi),List.getElem?_map] at h2
   cases e:vs[i]? with
   |none=>rw [e] at h2;cases h2
   |some a=>rw [e] at h2;cases h2;rfl
  obtain⟨u,hu,rv⟩:=r.get ha
  have hp:ps[i]?=some y:=by
   rw [←S.pre,List.getElem?_take_of_lt (by omega)];exact h1
  have ndP:ps.Nodup:=by rw [←S.pre];exact S.nd.sublist (List.take_sublist _ _)
  refine⟨u,rv,?_⟩
  rcases S.par y (List.mem_of_getElem? hp) with k|k
  ·exact .inl ⟨k,bindL_get ndP hp hu k⟩
  ·obtain⟨c,e⟩:=cell_has (n:=s.heap.objs.size+1) k
   refine .inr ⟨.inl k,c,e,?_⟩
   have q:=x.cell y c e
   rw [bindC_get ndP hp hu (by show scope.names.lookup y≠_;rw [k];decide)] at q
   exact q
 ·exact e0.hok.fresh (Nat.le_of_lt (x.above y c (PySem.mem_of_lookup h)))
 ·unfold start
  show _=N.length
  rw [List.length_append,List.length_map,List.length_replicate]
  omega
theorem fn_of{CX:CXT}{P:Program}{w:World}{K:PySem.W.Frag}{mg:Str→Option Value}{base:Heap}{k:Nat}{f:Addr}{name qual:Str}{params:Arguments}{body:List Stmt}{scope:Scope}{dV kV doc pm cdv ct oc:Value}{an od:Option Addr}
  {osl:Array (Option Value)} {N ps:List Str} {sp:Sp} (lk:K.lookup f=some ⟨oc,od,.func (PySem.W.fnOf name qual params body scope dV kV doc pm an cdv ct),osl⟩) (hcd:PySem.W.codeIn K cdv qual=true) (S:FnScope N ps scope)
  (len:∀vs H Q E,sp vs H Q E→vs.length=ps.length)
  (hbody:∀(A:Around) (outer:List Env) (s:Shared) (H:Hp) (vs:List V) (Q:VK) (E:XK),Room k (A.deeper (envOfC qual scope s.heap.objs.size f cdv))→sp vs H Q E →
   ∃t,PSs (cxOf CX P w K mg base N qual scope f cdv A outer s H E) body t∧t { nx:=fun _ H'=>Q .non H',rt:=Q } (start N vs) H) :
  FnOk P w K mg base CX (k+1) f (PySem.W.fnOf name qual params body scope dV kV doc pm an cdv ct) ps sp:=by
 refine⟨len,fun A outer s H args us vs Q E hr e0 hb r hsp=>?_⟩
 have hl:=len _ _ _ _ hsp
 have KX:K.In s.heap:=e0.mod.kin.keeps fun b o e=>(e0.bs b o e).1
 have lim:s.heap.NoLimit:=e0.mod.nolimit.keeps fun b o e=>(e0.bs b o e).1
 have hkind:∀y∈ps.zip us,scope.names.lookup y.1=some .local∨(scope.names.lookup y.1=some .cell∧((cellsFrom (s.heap.objs.size+1) scope.names []).lookup y.1).isSome=true):=fun⟨n,v⟩ hy=>by
  rcases S.par n (List.of_mem_zip hy).1 with q|q
  ·exact .inl q
  ·exact .inr ⟨q,PySem.W.cellsFrom_some _ _ _ (.inl q)⟩
 refine codeAny_call_function hr.depth (KX _ _ lk) rfl S.co S.gen rfl (PySem.W.codeRec_of KX hcd) (hb _ _ _ _ ?_)
 refine wpAny_newFunctionEnv_cells S.kind hkind fun env he s1 x=>?_
 subst he
 refine⟨lim.keeps x.toInCall.keep,codeAny_func ?_⟩
 obtain⟨t,ht,hq⟩:=hbody A outer s H vs Q E (hr.deeper _) hsp
 have I:Inv (cxOf CX P w K mg base N qual scope f cdv A outer s H E) [] (start N vs) H s1:=inv_start S hr.hd e0 hl r x
 refine wpAny_mono (ht [] s1 (start N vs) H _ I hq) (fun fl s' hs=>?_) fun e s' hs=>hs
 have fin:∀{σ':St} {H':Hp} {v:V} {u:Value},Inv (cxOf CX P w K mg base N qual scope f cdv A outer s H E) [] σ' H' s'→RelV v u→Q v H'→CE outer P w H s Q u s' :=
  fun {σ' H' v u} J rv q=>⟨v,H',J.os,J.bare,J.base,J.hok,rv,q⟩
 cases fl with
 |ret u =>
  obtain⟨v,σ',H',J,rv,q⟩:=hs
  exact fin J rv q
 |next =>
  obtain⟨σ',H',J,q⟩:=hs
  exact fin (v:=V.non) (u:=Value.none) J rfl q
 |brk =>
  obtain⟨_,_,_,q⟩:=hs
  exact False.elim q
 |cont =>
  obtain⟨_,_,_,q⟩:=hs
  exact False.elim q
end L2
namespace L2
open PySem PySem.Spec PyProof.Rows
section
variable{X:Cx}{x:Str}{p pos:Pos}{e:Expr}{es:List Expr}{t:TA}{id T:String}{r:List V→Hp→VK→Prop}
def tCB(r:List V→Hp→VK→Prop)(t:TA):TE:=fun σ H Q=>t σ H fun vs H1=>r vs H1 Q
theorem pe_callB(hc:CallR X (.builtin id) r)(hg:Gl X x)(hm:X.mg x=none)(hv:bootBuiltins x=some (.builtin id))(ha:PA X (e::es) t) (hn:x≠"__name__":=by decide) (hdb:(x==("__debug__":Str))=false:=by decide)
  (he:starEach (e::es) X.env=(false,eval e X.env)::starEach es X.env:=by rfl) (hpl:(backTo pos (starEach es X.env)).any (·.1)=false:=by rfl):PE X (.Call (.Name x p) (e::es) [] pos) (tCB r t):=by
 intro pins s σ H Q I h
 refine wpAny_Call_Name_kw (ld_blt I hg hm hv ?_ hn hdb)
 exact PyProof.Rows.callWith_builtin1 (thn (ha pos pins s σ H _ I h) fun us s1 ⟨vs,H1,I1,r1,q1⟩=>hc pins s1 σ H1 vs us Q I1 r1 q1) he hpl
theorem pe_callTy(hc:CallR X (.type T) r)(hg:Gl X x)(hm:X.mg x=none)(hv:bootBuiltins x=some (.type T))(ha:PA X (e::es) t) (hn:x≠"__name__":=by decide) (hdb:(x==("__debug__":Str))=false:=by decide)
  (he:starEach (e::es) X.env=(false,eval e X.env)::starEach es X.env:=by rfl) (hpl:(backTo pos (starEach es X.env)).any (·.1)=false:=by rfl):PE X (.Call (.Name x p) (e::es) [] pos) (tCB r t):=by
 intro pins s σ H Q I h
 refine wpAny_Call_Name_kw (ld_blt I hg hm hv ?_ hn hdb)
 exact PyProof.Rows.callWith_type1 (thn (ha pos pins s σ H _ I h) fun us s1 ⟨vs,H1,I1,r1,q1⟩=>hc pins s1 σ H1 vs us Q I1 r1 q1) he hpl
end
end L2
namespace HT
open PySem PyProof.Rows
section
open PySem.SeqAt
open PySem.AutoSeq1 (wpAny_loadPart')
open PySem.MeetsSeq PySem.MeetsSeq2 PySem.MeetsSeq3
end
section
variable{prog:Program}{w:World}{A:Around}{E:Value→Shared→Prop}{s:Shared}
def sIx(n d:Nat):Option Int→Nat
 |none=>d
 |some v=>if v < 0 then (v+(n:Int)).toNat else min v.toNat n
theorem sIx_none(n d:Nat):sIx n d none=d:=rfl
theorem sIx_nat(n d k:Nat):sIx n d (some (k:Int))=min k n:=by
 show(if (k:Int) < 0 then ((k:Int)+(n:Int)).toNat else min (k:Int).toNat n)=min k n
 rw [if_neg (by omega),Int.toNat_natCast]
theorem sIx_le(n d:Nat)(hd:d≤n)(o:Option Int):sIx n d o≤n:=by
 cases o with
 |none=>exact hd
 |some v =>
  show(if v < 0 then (v+(n:Int)).toNat else min v.toNat n)≤n
  by_cases hv:v < 0
  ·rw [if_pos hv];omega
  ·rw [if_neg hv];exact Nat.min_le_right _ _
theorem clip_eq(v:Int)(n d:Nat):(if v < 0 then max (v+(n:Int)) 0 else min v (n:Int))=((sIx n d (some v):Nat):Int):=by
 show(if v < 0 then max (v+(n:Int)) 0 else min v (n:Int))=(((if v < 0 then (v+(n:Int)).toNat else min v.toNat n):Nat):Int)
 by_cases hv:v < 0
 ·simp only [if_pos hv];omega
 ·simp only [if_neg hv];omega
theorem adjust_gen(lo hi:Option Int)(n:Nat):Builtin.Slice.sliceAdjust lo hi 1 (n:Int)=(((sIx n 0 lo:Nat):Int),((sIx n n hi:Nat):Int)):=by
 have h1:¬((1:Int) < 0):=by omega
 unfold Builtin.Slice.sliceAdjust
 simp only [h1,if_false]
 refine Prod.ext ?_ ?_
 ·cases lo with
  |none=>rfl
  |some v=>exact clip_eq v n 0
 ·cases hi with
  |none=>rfl
  |some v=>exact clip_eq v n n
theorem places_gen(i j:Nat):Builtin.Slice.slicePlaces (i:Int) (j:Int) 1=j - i:=by
 unfold Builtin.Slice.slicePlaces
 have h1:(1:Int) > 0:=by omega
 simp only [h1,if_true,Int.ediv_one]
 split<;>omega
theorem slicePart_{v:Value}{o:Option Int}{Q:Option Int→Shared→Prop}(p:IsPart v o)(h:Q o s):wpAny (model prog w) A (Builtin.Slice.slicePartIndex v) Q E s:=by
 cases p with
 |none=>exact slicePart_none h
 |int i t=>exact slicePart_int h
theorem sliceApplied_gen{sl:Addr}{vl vu:Value}{lo hi:Option Int}{n:Nat}{Q:Int × Int × Nat→Shared→Prop}(hs:s.heap.IsSliceOf sl vl vu .none)(pl:IsPart vl lo)(pu:IsPart vu hi)
  (h:Q (((sIx n 0 lo:Nat):Int),1,sIx n n hi - sIx n 0 lo) s):wpAny (model prog w) A (Builtin.Slice.sliceApplied (.ref sl) (pure (n:Int))) Q E s:=by
 obtain⟨os,hos,hcs,hds⟩:=id hs
 unfold Builtin.Slice.sliceApplied Builtin.Slice.sliceFields
 refine wpAny_bind (wpAny_bind (wpAny_field hos hds (x:=vl) rfl (wpAny_bind (wpAny_field hos hds (x:=vu) rfl (wpAny_bind (wpAny_field hos hds (x:=.none) rfl (wpAny_pure ?_)))))))
 refine wpAny_bind (slicePart_none ?_)
 show wpAny _ _ (if ((1:Int)==0)=true then _ else _) _ _ s
 rw [if_neg (by decide)]
 refine wpAny_bind (slicePart_ pl (wpAny_bind (slicePart_ pu (wpAny_bind (wpAny_pure ?_)))))
 show wpAny _ _ (match Builtin.Slice.sliceAdjust lo hi 1 (n:Int) with|(lo,hi)=>pure (lo,(1:Int),Builtin.Slice.slicePlaces lo hi 1)) _ _ s
 rw [adjust_gen lo hi n]
 show wpAny _ _ (pure (((sIx n 0 lo:Nat):Int),(1:Int),Builtin.Slice.slicePlaces ((sIx n 0 lo:Nat):Int) ((sIx n n hi:Nat):Int) 1)) _ _ s
 rw [places_gen]
 exact wpAny_pure h
theorem pick_gen(xs:Array Value)(i k:Nat):((List.range k).filterMap fun(m:Nat)=>xs[((i:Int)+(m:Int)*1).toNat]?).toArray=((xs.toList.drop i).take k).toArray:=by
 have e:(fun(m:Nat)=>xs[((i:Int)+(m:Int)*1).toNat]?)=fun m=>xs[i+m]?:=by
  funext m
  have:((i:Int)+(m:Int)*1).toNat=i+m:=by omega
  rw [this]
 rw [e]
 have:=pick_run xs i k
 rw [List.filterMap_map] at this
 have e2:((fun x=>xs[x]?)∘fun x=>i+x)=fun m=>xs[i+m]?:=rfl
 rw [e2] at this
 rw [this]
theorem getItem_tuple_cut{t sl:Addr}{items:Array Value}{vl vu:Value}{lo hi:Option Int}{Q:Value→Shared→Prop}(ht:IsTup s.heap t items)(hs:s.heap.IsSliceOf sl vl vu .none)(pl:IsPart vl lo)(pu:IsPart vu hi)
  (hw:¬(sIx items.size 0 lo=0∧sIx items.size items.size hi=items.size))
  (h:Q (.ref s.heap.objs.size) { s with heap:=s.heap.push { cls:=.type "tuple",data:=.seq ((items.toList.drop (sIx items.size 0 lo)).take (sIx items.size items.size hi - sIx items.size 0 lo)).toArray } })
  (hsz:items.size≤sizeLine):wpAny (model prog w) A (getItem (.ref t) (.ref sl)) Q E s:=by
 have htake:sizeOk (.seq ((items.toList.drop (sIx items.size 0 lo)).take (sIx items.size items.size hi - sIx items.size 0 lo)).toArray):=by
  show((items.toList.drop (sIx items.size 0 lo)).take (sIx items.size items.size hi - sIx items.size 0 lo)).toArray.size≤sizeLine
  rw [List.size_toArray,List.length_take,List.length_drop,Array.length_toList]
  omega
 have hj:sIx items.size items.size hi≤items.size:=sIx_le _ _ (Nat.le_refl _) hi
 obtain⟨os,hos,hcs,hds⟩:=id hs
 have hTs:s.TypeIs (.ref sl) "slice":=⟨os,hos,hcs⟩
 unfold getItem
 try with_reducible refine wpAny_holding ?_
 first|refine wpAny_bind (wpAny_pure ?_)|skip
 refine wpAny_bind (wpAny_sequenceKey ht.typeIs (by decide) ?_)
 refine wpAny_bind (wpAny_callSpecial?_slot (name:=Str.ofString "__getitem__") ht.typeIs PyProof.Rows.slot_tuple_getitem
  (wpAny_call_entry PyProof.Rows.slot_tuple_getitem ht.typeIs entry_tuple_getitem ?_ (args_tuple_getitem _ _)))
 show wpAny _ _ (Builtin.Tuple.tupleItemsOf (.ref t) >>= _) _ _ s
 refine wpAny_bind (tupleItemsOf_ ht ?_)
 refine wpAny_bind (wpAny_typeOf hTs ?_)
 rw [if_pos (by decide)]
 refine wpAny_bind (sliceApplied_gen hs pl pu ?_)
 have hno:¬((((sIx items.size 0 lo:Nat):Int)==0&&(1:Int)==1&&(sIx items.size items.size hi - sIx items.size 0 lo)==items.size)=true):=by
  intro q
  rw [Bool.and_eq_true,Bool.and_eq_true] at q
  have q1:((sIx items.size 0 lo:Nat):Int)=0:=eq_of_beq q.1.1
  have q2:sIx items.size items.size hi - sIx items.size 0 lo=items.size:=eq_of_beq q.2
  exact hw ⟨by omega,by omega⟩
 show wpAny _ _ (if (((sIx items.size 0 lo:Nat):Int)==0&&(1:Int)==1&&(sIx items.size items.size hi - sIx items.size 0 lo)==items.size)=true then _ else _) _ _ s
 rw [if_neg hno,pick_gen]
 first
  |exact wpAny_bind (m:=Builtin.Tuple.tupleExact _) (wpAny_newObj_type (wpAny_pure ⟨_,rfl,wpAny_pure h⟩) htake)
  |exact wpAny_bind (m:=Builtin.Tuple.tupleExact _) (wpAny_newObj_type (wpAny_bind (wpAny_pure (wpAny_pure ⟨_,rfl,wpAny_pure h⟩))) htake)
  |exact wpAny_bind (wpAny_bind (m:=Builtin.Tuple.tupleExact _) (wpAny_newObj_type (wpAny_pure (wpAny_pure ⟨_,rfl,wpAny_pure h⟩)) htake))
  |exact wpAny_bind (wpAny_bind (m:=Builtin.Tuple.tupleExact _) (wpAny_newObj_type (wpAny_pure ⟨_,rfl,wpAny_pure h⟩) htake))
end
end HT
namespace L2
open PySem PySem.Spec PyProof.Rows
abbrev TO:=St→Hp→(Option Int→Hp→Prop)→Prop
def PO(X:Cx)(e:Option Expr)(t:TO):Prop :=
 ∀(pins:List (Addr × Obj)) (s:Shared) (σ:St) (H:Hp) (Q:Option Int→Hp→Prop),Inv X pins σ H s→t σ H Q →
  wpAny (model X.prog X.w) X.A (evalPart e X.env) (fun u s'=>∃o H',Inv X pins σ H' s'∧IsPart u o∧Q o H') X.xe s
def tNoPart:TO:=fun _ H Q=>Q none H
def tPart(t:TE):TO:=fun σ H Q=>t σ H fun x H1=>∃i,x=.int i∧Q (some i) H1
section
variable{X:Cx}{e:Expr}{te:TE}{lo hi:Option Expr}{tl th:TO}{pos p2:Pos}
theorem po_none:PO X none tNoPart:=by
 intro pins s σ H Q I h
 rw [evalPart_none]
 exact wpAny_pure ⟨none,H,I,.none,h⟩
theorem po_some(h:PE X e te):PO X (some e) (tPart te):=by
 intro pins s σ H Q I hw
 rw [evalPart_some]
 refine thn (h pins s σ H _ I hw) fun u s1 ⟨x,H1,I1,r1,q1⟩=>?_
 obtain⟨i,rfl,q⟩:=q1
 obtain⟨t,rfl⟩:=r1
 exact⟨some i,H1,I1,.int i t,q⟩
def SlR(X:Cx)(r:V→Option Int→Option Int→Hp→VK→Prop):Prop :=
 ∀(pins:List (Addr × Obj)) (s:Shared) (σ:St) (H:Hp) (x:V) (v vl vu:Value) (lo hi:Option Int) (sl:Addr) (Q:VK),Inv X pins σ H s→RelV x v→s.heap.IsSliceOf sl vl vu .none→IsPart vl lo→IsPart vu hi→r x lo hi H Q →
  ∃T id,typeLookup (.type T) "__getitem__"=pure (some (.builtin id))∧s.TypeIs v T∧wpAny (model X.prog X.w) X.A (getItem v (.ref sl)) (EP X pins σ Q) X.xe s
def tSl(r:V→Option Int→Option Int→Hp→VK→Prop)(te:TE)(tl th:TO):TE:=fun σ H Q=>te σ H fun x H1=>tl σ H1 fun l H2=>th σ H2 fun u H3=>r x l u H3 Q
theorem pe_slice{r:V→Option Int→Option Int→Hp→VK→Prop}(hr:SlR X r)(he:PE X e te)(hl:PO X lo tl)(hu:PO X hi th):PE X (.Subscript e (.Slice lo hi none p2) pos) (tSl r te tl th):=by
 intro pins s σ H Q I h
 refine Subscript_ (thn (he pins s σ H _ I h) fun v s1 ⟨x,H1,I1,r1,q1⟩=>?_)
 refine wpAny_Slice (thn (hl pins s1 σ H1 _ I1 q1) fun vl s2 ⟨l,H2,I2,pl,q2⟩=>thn (hu pins s2 σ H2 _ I2 q2) fun vu s3 ⟨u,H3,I3,pu,q3⟩=>?_)
 rw [evalPart_none]
 refine wpAny_pure ?_
 have I4:Inv X pins σ H3 { s3 with heap:=s3.heap.push { cls:=.type "slice",data:=.fields #[vl,vu,.none] } }:=I3.kept (t':=s3.toks) fun b ob q=>Heap.get?_push_of_some _ q
 obtain⟨T,id,hT,ht,hg⟩:=hr pins { s3 with heap:=s3.heap.push { cls:=.type "slice",data:=.fields #[vl,vu,.none] } } σ H3 x v vl vu l u s3.heap.objs.size Q I4 r1 (Heap.IsSliceOf.new ..) pl pu q3
 show wpAny (model X.prog X.w) X.A (subscriptTail e (.Slice lo hi none p2) v (.ref s3.heap.objs.size)) (EP X pins σ Q) X.xe { s3 with heap:=s3.heap.push { cls:=.type "slice",data:=.fields #[vl,vu,.none] } }
 exact tail_any (ops:=[.ref s3.heap.objs.size,v]) ht hT hg (by with_unfolding_all rfl)
def cutV(xs:List V)(lo hi:Option Int):List V:=(xs.drop (HT.sIx xs.length 0 lo)).take (HT.sIx xs.length xs.length hi - HT.sIx xs.length 0 lo)
theorem cutV_length(xs:List V)(lo hi:Option Int):(cutV xs lo hi).length≤xs.length:=by
 unfold cutV
 rw [List.length_take,List.length_drop]
 omega
def rSlT(K:PySem.W.Frag):V→Option Int→Option Int→Hp→VK→Prop:=fun x lo hi H Q=>∃a xs,x=.ref a∧SqT K H a xs ∧
 ¬(HT.sIx xs.length 0 lo=0∧HT.sIx xs.length xs.length hi=xs.length)∧∀p,H p=none→Q (.ref p) (upd H p (.tup (cutV xs lo hi)))
theorem sl_tup:SlR X (rSlT X.K):=by
 intro pins s σ H x v vl vu lo hi sl Q I rx hs pl pu h
 obtain⟨a,xs,rfl,hx,hw,q⟩:=h
 cases rx
 obtain⟨its,r,ht,hz⟩:=I.tuple hx
 have hlen:its.toArray.size=xs.length:=by rw [List.size_toArray];exact r.length.symm
 refine⟨"tuple",_,PyProof.Rows.slot_tuple_getitem.lookup,ht.typeIs,?_⟩
 refine HT.getItem_tuple_cut ht hs pl pu (by rw [hlen];exact hw) ?_ (by rw [hlen];exact hz)
 rw [hlen]
 refine⟨.ref s.heap.objs.size,_,I.laid (t':=s.toks) (o:=.tup (cutV xs lo hi)) (fun b ob q=>Heap.get?_push_of_some _ q) (Nat.le_refl _) ?_,rfl,q _ (I.hok.fresh (Nat.le_refl _))⟩
 exact⟨Nat.le_trans (cutV_length xs lo hi) hz,_,(r.drop (HT.sIx xs.length 0 lo)).take (HT.sIx xs.length xs.length hi - HT.sIx xs.length 0 lo),IsTup.new _ _⟩
end
end L2
namespace L2
open PySem PySem.Spec PyProof.Rows
def ixN(n:Nat)(i:Int):Option Nat:=if 0≤i then (if i < n then some i.toNat else none) else if -(n:Int)≤i then some (i+n).toNat else none
def atI{α:Type}(xs:List α)(i:Int):Option α:=(ixN xs.length i).bind fun j=>xs[j]?
theorem ixN_seq{n:Nat}{i:Int}{j:Nat}(h:ixN n i=some j):seqIndex? i n=some j∧j < n∧-(n:Int)≤i∧i < n:=by
 unfold ixN at h
 by_cases h0:0≤i
 ·rw [if_pos h0] at h
  by_cases h1:i < n
  ·rw [if_pos h1] at h
   have e:i.toNat=j:=Option.some.inj h
   exact⟨by rw [seqIndex_of h0 h1,e],by omega,by omega,h1⟩
  ·rw [if_neg h1] at h;cases h
 ·rw [if_neg h0] at h
  by_cases h1:-(n:Int)≤i
  ·rw [if_pos h1] at h
   have e:(i+n).toNat=j:=Option.some.inj h
   exact⟨by rw [seqIndex_neg (by omega) h1,e],by omega,h1,by omega⟩
  ·rw [if_neg h1] at h;cases h
theorem atI_get{α:Type}{xs:List α}{i:Int}{v:α}(h:atI xs i=some v):∃j,seqIndex? i xs.length=some j∧xs[j]?=some v∧j < xs.length∧-(xs.length:Int)≤i∧i < xs.length:=by
 unfold atI at h
 cases e:ixN xs.length i with
 |none=>rw [e] at h;cases h
 |some j =>
  rw [e] at h
  obtain⟨h1,h2,h3,h4⟩:=ixN_seq e
  exact⟨j,h1,h,h2,h3,h4⟩
theorem atI_nat{α:Type}{xs:List α}{j:Nat}{v:α}(h:xs[j]?=some v):atI xs (j:Int)=some v:=by
 have hj:j < xs.length:=(List.getElem?_eq_some_iff.mp h).1
 have e:ixN xs.length (j:Int)=some j:=by
  unfold ixN
  rw [if_pos (by omega),if_pos (by omega)];simp
 unfold atI;rw [e];exact h
def PlainIx(b:Expr):Prop:=∀o i,subscripted b false o i=operate [o,i] (getItem o i)
def IxR(X:Cx)(r:R2):Prop :=
 ∀(value slice:Expr) (pins:List (Addr × Obj)) (s:Shared) (σ:St) (H:Hp) (x y:V) (v u:Value) (Q:VK),Inv X pins σ H s→RelV x v→RelV y u→r x y H Q →
  subscripted slice false v u=operate [v,u] (getItem v u)→wpAny (model X.prog X.w) X.A (subscriptTail value slice v u) (EP X pins σ Q) X.xe s
def MtR(X:Cx)(id:String)(r:V→List V→Hp→VK→Prop):Prop :=
 ∀(pins:List (Addr × Obj)) (s:Shared) (σ:St) (H:Hp) (x:V) (xs:List V) (v:Value) (us:List Value) (Q:VK),Inv X pins σ H s→RelV x v→Vals xs us→r x xs H Q →
  wpAny (model X.prog X.w) X.A (call (.builtin id) (v::us)) (EP X pins σ Q) X.xe s
section
variable{X:Cx}{a b:Expr}{ta tb:TE}{pos:Pos}
theorem pe_ix{r:R2}(hr:IxR X r)(ha:PE X a ta)(hb:PE X b tb)(hs:PlainIx b):PE X (.Subscript a b pos) (tOp r ta tb):=by
 intro pins s σ H Q I h
 exact Subscript_ (binT ha hb I h fun v u s2 x y H2 I2 rx ry q=>hr a b pins s2 σ H2 x y v u Q I2 rx ry q (hs _ _))
inductive Wg (S:PySem.W.Frag→Hp→Addr→List V→Prop) (K:PySem.W.Frag) (x y:V) (H:Hp) (Q:VK):Prop
 |mk (p:Addr) (xs:List V) (i:Int) (v:V) (a:x=.ref p) (b:y=.int i) (c:S K H p xs) (d:atI xs i=some v) (q:Q v H)
def rIxL(K:PySem.W.Frag):R2:=fun x y H Q=>Wg SqL K x y H Q
def rIxT(K:PySem.W.Frag):R2:=fun x y H Q=>Wg SqT K x y H Q
def rIxS:R2:=fun x y H Q=>∃z i c,x=.str z∧y=.int i∧z.length≤sizeLine∧atI z.cps.toList i=some c∧Q (.str ⟨#[c]⟩) H
theorem ix_list:IxR X (rIxL X.K):=by
 intro value slice pins s σ H x y v u Q I rx ry h hs
 obtain⟨p,xs,i,z,rfl,rfl,hq,he,q⟩:=h
 cases rx
 obtain⟨t,rfl⟩:=ry
 obtain⟨its,r,pl,hz⟩:=I.list hq
 obtain⟨j,h1,h2,h3,h4,h5⟩:=atI_get he
 obtain⟨w,ew,rw'⟩:=r.get h2
 have hl:=r.length
 have hn:=line63
 have fin:EP X pins σ Q w s:=⟨z,H,I,rw',q⟩
 by_cases h0:0≤i
 ·have hj:i.toNat=j:=by
   rw [seqIndex_of h0 h5] at h1
   exact Option.some.inj h1
  exact item_listR pl.isList h0 (by omega) (by rw [hj];simpa using ew) fin hs
 ·have hj:(i+(its.toArray.size:Int)).toNat=j:=by
   rw [seqIndex_neg (by omega) h4] at h1
   rw [List.size_toArray,←hl]
   exact Option.some.inj h1
  exact subscriptTail_builtinR (x:=w) pl.isList.typeIs slot_list_getitem.lookup
   (wpAny_getItem_list_neg (Q:=fun r s'=>r=w∧EP X pins σ Q r s') pl.isList (by omega) (by rw [List.size_toArray]<;>omega) (by omega) (by rw [hj];simpa using ew) ⟨rfl,fin⟩) hs
theorem ix_tup:IxR X (rIxT X.K):=by
 intro value slice pins s σ H x y v u Q I rx ry h hs
 obtain⟨p,xs,i,z,rfl,rfl,hq,he,q⟩:=h
 cases rx
 obtain⟨t,rfl⟩:=ry
 obtain⟨its,r,pl,hz⟩:=I.tuple hq
 obtain⟨j,h1,h2,h3,h4,h5⟩:=atI_get he
 obtain⟨w,ew,rw'⟩:=r.get h2
 have hl:=r.length
 have hn:=line63
 have fin:EP X pins σ Q w s:=⟨z,H,I,rw',q⟩
 exact subscriptTail_builtinR (x:=w) pl.typeIs slot_tuple_getitem.lookup
  (getItem_tuple (j:=j) (Q:=fun r s'=>r=w∧EP X pins σ Q r s') pl (by omega) (by omega) (by rw [List.size_toArray,←hl];exact h1) (by simpa using ew) ⟨rfl,fin⟩) hs
theorem ix_str:IxR X rIxS:=by
 intro value slice pins s σ H x y v u Q I rx ry h hs
 obtain⟨z,i,c,rfl,rfl,hz,he,q⟩:=h
 obtain⟨t,rfl⟩:=rx
 obtain⟨t',rfl⟩:=ry
 obtain⟨j,h1,h2,h3,h4,h5⟩:=atI_get he
 have hl:z.cps.toList.length=z.length:=by simp [Str.length]
 rw [hl] at h1 h4 h5
 have hn:=line63
 exact tail_any (typeIs_str s z t) slot_str_getitem.lookup (getItem_str (c:=c) (by
  have e1:decide (i < -(2 ^ 63:Int))=false:=decide_eq_false (by omega)
  have e2:decide (i≥2 ^ 63)=false:=decide_eq_false (by omega)
  rw [e1,e2,Bool.or_false]) (by rw [h1];simpa using h2) ⟨.str ⟨#[c]⟩,H,I.tok _,⟨_,rfl⟩,q⟩) hs
theorem mapSeq_set(its:List Value)(n j:Nat)(u:Value):Obj.mapSeq (·.setIfInBounds j u) { cls:=.type "list",data:=.seq its.toArray n }={ cls:=.type "list",data:=.seq (its.set j u).toArray n }:=by
 simp [Obj.mapSeq]
theorem Inv.lst{pins:List (Addr × Obj)}{σ:St}{H:Hp}{s:Shared}{p:Addr}{xs:List V}(I:Inv X pins σ H s)(h:H p=some (.lst xs)) :
  ∃(its:List Value) (n:Nat),Vals xs its∧s.heap.get? p=some { cls:=.type "list",data:=.seq its.toArray n }∧xs.length≤sizeLine:=by
 obtain⟨z,its,n,r,e⟩:=I.hok p _ h
 exact⟨its,n,r,e,z⟩
theorem Inv.lstUpd{pins:List (Addr × Obj)}{σ:St}{H:Hp}{s:Shared}{p:Addr}{xs ys:List V}{its its':List Value}{n n':Nat}{f:Obj→Obj}(I:Inv X pins σ H s)(h:H p=some (.lst xs))
  (ho:s.heap.get? p=some { cls:=.type "list",data:=.seq its.toArray n }) (hf:f { cls:=.type "list",data:=.seq its.toArray n }={ cls:=.type "list",data:=.seq its'.toArray n' }) (r:Vals ys its') (hz:ys.length≤sizeLine) (t:Nat) :
  Inv X pins σ (upd H p (.lst ys)) { s with heap:=s.heap.update p f,toks:=t }:=by
 have e:(s.heap.update p f).get? p=some { cls:=.type "list",data:=.seq its'.toArray n' }:=by
  rw [Heap.get?_update_self f ho (by rw [hf]<;>rfl),hf]
 refine I.write (x:=p) (e:=p) (by rw [h];trivial) (.inl rfl) (fun b u hb q=>(Heap.get?_update_other _ _ (Ne.symm hb)).trans q) ⟨_,e⟩ ?_
 exact⟨hz,its',n',r,e⟩
def rSetL:V→V→V→Hp→(Hp→Prop)→Prop:=fun o i v H Q=>∃p xs k j,o=.ref p∧i=.int k∧H p=some (.lst xs)∧ixN xs.length k=some j∧Q (upd H p (.lst (xs.set j v)))
theorem set_list:PSet X rSetL:=by
 intro pins s σ H o i v ov iv u Q I ro ri rv h
 obtain⟨p,xs,k,j,rfl,rfl,hp,hj,q⟩:=h
 cases ro
 obtain⟨t,rfl⟩:=ri
 obtain⟨its,n,r,ho,hz⟩:=I.lst hp
 obtain⟨h1,h2,h3,h4⟩:=ixN_seq hj
 have hl:=r.length
 have hn:=line63
 have I':Inv X pins σ (upd H p (.lst (xs.set j v))) { s with heap:=s.heap.update p (Obj.mapSeq (·.setIfInBounds j u)) } :=
  I.lstUpd hp ho (mapSeq_set its n j u) (r.set rv j) (by rw [List.length_set];exact hz) s.toks
 by_cases h0:0≤k
 ·have hk:k.toNat=j:=by
   rw [seqIndex_of h0 h4] at h1
   exact Option.some.inj h1
  exact PySem.W.ki_setAt ho h0 (by omega) (by rw [List.size_toArray,←hl];exact h4) (by rw [hk];exact⟨_,I',q⟩)
 ·have hk:(k+(its.toArray.size:Int)).toNat=j:=by
   rw [seqIndex_neg (by omega) h3] at h1
   rw [List.size_toArray,←hl]
   exact Option.some.inj h1
  exact PySem.W.ki_setBack ho (by omega) (by rw [List.size_toArray,←hl];exact h3) (by omega) (by rw [hk];exact⟨_,I',q⟩)
theorem slice_bounds(lo hi:Option Int)(n:Nat):(sliceBounds lo hi none n).1=((HT.sIx n 0 lo:Nat):Int)∧(sliceBounds lo hi none n).2.1=((HT.sIx n n hi:Nat):Int)∧(sliceBounds lo hi none n).2.2=1:=by
 refine⟨?_,?_,rfl⟩
 ·cases lo with
  |none=>simp [sliceBounds,HT.sIx]
  |some i =>
   simp only [sliceBounds,HT.sIx,Option.getD_none,show(1:Int) > 0 by decide,if_true]
   by_cases h:i < 0
   ·simp only [h,if_true]<;>omega
   ·simp only [h,if_false]<;>omega
 ·cases hi with
  |none=>simp [sliceBounds,HT.sIx]
  |some i =>
   simp only [sliceBounds,HT.sIx,Option.getD_none,show(1:Int) > 0 by decide,if_true]
   by_cases h:i < 0
   ·simp only [h,if_true]<;>omega
   ·simp only [h,if_false]<;>omega
theorem slicePick_cut(its:List Value)(lo hi:Option Int):slicePick its.toArray lo hi none=((its.drop (HT.sIx its.length 0 lo)).take (HT.sIx its.length its.length hi - HT.sIx its.length 0 lo)).toArray:=by
 obtain⟨h1,h2,h3⟩:=slice_bounds lo hi its.toArray.size
 unfold slicePick
 rw [h1,h2,h3]
 simp only [sliceRange_one,pick_run,List.size_toArray]<;>rfl
def rSlL(K:PySem.W.Frag):V→Option Int→Option Int→Hp→VK→Prop:=fun x lo hi H Q=>∃a xs,x=.ref a∧SqL K H a xs∧∀p,H p=none→Q (.ref p) (upd H p (.lst (cutV xs lo hi)))
theorem sl_list:SlR X (rSlL X.K):=by
 intro pins s σ H x v vl vu lo hi sl Q I rx hs pl pu h
 obtain⟨a,xs,rfl,hx,q⟩:=h
 cases rx
 obtain⟨its,r,ht,hz⟩:=I.list hx
 have hlen:=r.length
 refine⟨"list",_,slot_list_getitem.lookup,ht.isList.typeIs,?_⟩
 refine wpAny_getItem_list_slice ht.isList hs pl pu .none (by simp) ?_ (by rw [List.size_toArray]<;>omega)
 rw [slicePick_cut,←hlen]
 refine⟨.ref s.heap.objs.size,_,I.laid (t':=s.toks) (o:=.lst (cutV xs lo hi)) (fun b ob q=>Heap.get?_push_of_some _ q) (Nat.le_refl _) ?_,rfl,q _ (I.hok.fresh (Nat.le_refl _))⟩
 exact⟨Nat.le_trans (cutV_length xs lo hi) hz,_,0,(r.drop (HT.sIx xs.length 0 lo)).take (HT.sIx xs.length xs.length hi - HT.sIx xs.length 0 lo),Heap.get?_push_size _ rfl⟩
def flatV:V→Bool
 |.non=>true
 |.bl _=>true
 |.int _=>true
 |.str _=>true
 |_=>false
def eqV:V→V→Bool
 |.non,.non=>true
 |.bl a,.bl b=>a==b
 |.bl a,.int b=>(if a then 1 else 0)==b
 |.int a,.bl b=>a==(if b then 1 else 0)
 |.int a,.int b=>a==b
 |.str a,.str b=>a==b
 |_,_=>false
theorem eqAt_V{A:Around}{s:Shared}{y x:V}{u v:Value}(ry:RelV y u)(rx:RelV x v)(fy:flatV y=true)(fx:flatV x=true):SeqAt.EqAt A s u v (eqV y x):=by
 cases y with
 |non =>
  cases ry
  cases x with
  |non=>cases rx;exact SeqAt.EqAt.same _
  |bl b=>cases rx;exact SeqAt.EqAt.none_bool b
  |int b=>obtain⟨t,rfl⟩:=rx;exact SeqAt.EqAt.none_int b t
  |str b=>obtain⟨t,rfl⟩:=rx;exact SeqAt.EqAt.none_str b t
  |_=>exact absurd (show false=true from fx) Bool.false_ne_true
 |bl a =>
  cases ry
  cases x with
  |non=>cases rx;exact SeqAt.EqAt.bool_none a
  |bl b=>cases rx;exact SeqAt.EqAt.bool_bool a b
  |int b=>obtain⟨t,rfl⟩:=rx;exact SeqAt.EqAt.bool_int a b t
  |str b=>obtain⟨t,rfl⟩:=rx;exact SeqAt.EqAt.bool_str a b t
  |_=>exact absurd (show false=true from fx) Bool.false_ne_true
 |int a =>
  obtain⟨t',rfl⟩:=ry
  cases x with
  |non=>cases rx;exact SeqAt.EqAt.int_none a t'
  |bl b=>cases rx;exact SeqAt.EqAt.int_bool a t' b
  |int b=>obtain⟨t,rfl⟩:=rx;exact SeqAt.EqAt.int_int a t' b t
  |str b=>obtain⟨t,rfl⟩:=rx;exact SeqAt.EqAt.int_str a t' b t
  |_=>exact absurd (show false=true from fx) Bool.false_ne_true
 |str a =>
  obtain⟨t',rfl⟩:=ry
  cases x with
  |non=>cases rx;exact SeqAt.EqAt.str_none a t'
  |bl b=>cases rx;exact SeqAt.EqAt.str_bool a t' b
  |int b=>obtain⟨t,rfl⟩:=rx;exact SeqAt.EqAt.str_int a t' b t
  |str b=>obtain⟨t,rfl⟩:=rx;exact SeqAt.EqAt.str_str a t' b t
  |_=>exact absurd (show false=true from fx) Bool.false_ne_true
 |_=>exact absurd (show false=true from fy) Bool.false_ne_true
def eqU(x:V)(u:Value):Bool:=match u with
 |.none=>eqV .non x
 |.bool b=>eqV (.bl b) x
 |.int i _=>eqV (.int i) x
 |.str z _=>eqV (.str z) x
 |_=>false
theorem eqU_of{x y:V}{u:Value}(r:RelV y u)(f:flatV y=true):eqU x u=eqV y x:=by
 cases y with
 |non=>cases r;rfl
 |bl b=>cases r;rfl
 |int i=>obtain⟨t,rfl⟩:=r;rfl
 |str z=>obtain⟨t,rfl⟩:=r;rfl
 |_=>exact absurd (show false=true from f) Bool.false_ne_true
theorem any_eqU{x:V}:∀{xs:List V} {us:List Value},Vals xs us→xs.all flatV=true→us.any (eqU x)=xs.any fun y=>eqV y x
 |_,_,.nil,_=>rfl
 |y::xs,u::us,.cons r t,f=>by
  rw [List.all_cons,Bool.and_eq_true] at f
  rw [List.any_cons,List.any_cons,eqU_of r f.1,any_eqU t f.2]
theorem mem_eqAt{A:Around}{s:Shared}{x:V}{v:Value}(rx:RelV x v)(fx:flatV x=true):∀{xs:List V} {us:List Value},Vals xs us→xs.all flatV=true→∀u∈us,SeqAt.EqAt A s u v (eqU x u)
 |_,_,.nil,_=>fun u hu=>by cases hu
 |y::xs,u::us,.cons r t,f=>fun u' hu=>by
  rw [List.all_cons,Bool.and_eq_true] at f
  rcases List.mem_cons.mp hu with rfl|hu
  ·rw [eqU_of r f.1];exact eqAt_V r rx f.1 fx
  ·exact mem_eqAt rx fx t f.2 u' hu
def inV(x:V)(xs:List V):Bool:=xs.any fun y=>eqV y x
def rIn(K:PySem.W.Frag)(neg:Bool):R2:=fun x y H Q=>∃p xs,y=.ref p∧(SqL K H p xs∨SqT K H p xs)∧flatV x=true∧xs.all flatV=true∧Q (.bl (if neg then !inV x xs else inV x xs)) H
theorem op_in_seq:OpR X (compareOp .In) (rIn X.K false):=by
 intro pins s σ H x y v u Q I rx ry h
 obtain⟨p,xs,rfl,hq,fx,fs,q⟩:=h
 cases ry
 rcases hq with hq|hq
 ·obtain⟨its,r,pl,hz⟩:=I.list hq
  refine SeqAt.in_listAt (eqU x) pl.isList (fun w hw=>mem_eqAt rx fx r fs w (by simpa using hw)) ⟨.bl _,H,I,rfl,?_⟩
  rw [show its.toArray.any (eqU x)=its.any (eqU x) by simp,any_eqU r fs]
  exact q
 ·obtain⟨its,r,pl,hz⟩:=I.tuple hq
  refine SeqAt.in_tupleAt (eqU x) pl (fun w hw=>mem_eqAt rx fx r fs w (by simpa using hw)) ⟨.bl _,H,I,rfl,?_⟩
  rw [show its.toArray.any (eqU x)=its.any (eqU x) by simp,any_eqU r fs]
  exact q
theorem call_len_seq:CallR X (.builtin "len") (fun xs H Q=>∃p ys,xs=[.ref p]∧(SqL X.K H p ys∨SqT X.K H p ys)∧Q (.int ys.length) H):=by
 intro pins s σ H xs us Q I r h
 obtain⟨p,ys,rfl,hq,q⟩:=h
 obtain⟨u,rfl,rx⟩:=vals1 r
 cases rx
 have hn:=line63
 rcases hq with hq|hq
 ·obtain⟨its,r',pl,hz⟩:=I.list hq
  have hlen:=r'.length
  exact Calls.call_len_list pl.isList (by simp only [List.size_toArray]<;>omega) ⟨.int ys.length,H,I.tok _,⟨s.toks+1,by rw [List.size_toArray,hlen]⟩,q⟩
 ·obtain⟨its,r',pl,hz⟩:=I.tuple hq
  have hlen:=r'.length
  exact len_tuple pl (by simp only [List.size_toArray]<;>omega) ⟨.int ys.length,H,I.tok _,⟨s.toks+1,by rw [List.size_toArray,hlen]⟩,q⟩
theorem call_list_of:CallR X (.type "list") (fun xs H Q=>∃p ys,xs=[.ref p]∧(SqL X.K H p ys∨SqT X.K H p ys)∧∀l,H l=none→Q (.ref l) (upd H l (.lst ys))):=by
 intro pins s σ H xs us Q I r h
 obtain⟨p,ys,rfl,hq,q⟩:=h
 obtain⟨u,rfl,rx⟩:=vals1 r
 cases rx
 have fin:∀(its:List Value),Vals ys its→ys.length≤sizeLine→∀(h':Heap) (c':Nat),(∀b o',s.heap.get? b=some o'→h'.get? b=some o') →
   h'.get? s.heap.objs.size=some { cls:=.type "list",dict:=none,data:=.seq its.toArray c',slots:=#[] }→EP X pins σ Q (.ref s.heap.objs.size) { s with heap:=h' }:=fun its r' hz h' c' kp e =>
  ⟨.ref s.heap.objs.size,_,I.laid (t':=s.toks) kp (Nat.le_refl _) (show ObjOk X.prog X.w _ h' _ (.lst ys) from⟨hz,its,c',r',e⟩),rfl,q _ (I.hok.fresh (Nat.le_refl _))⟩
 rcases hq with hq|hq
 ·obtain⟨its,r',pl,hz⟩:=I.list hq
  have hlen:=r'.length
  obtain⟨o,ho,hc,n,hd⟩:=pl.isList
  exact call_list_seq p (.inl rfl) ho hc hd (fun h' c' kp e=>fin its r' hz h' c' kp e) (by simp only [List.size_toArray]<;>omega)
 ·obtain⟨its,r',pl,hz⟩:=I.tuple hq
  have hlen:=r'.length
  obtain⟨o,ho,hc,n,hd⟩:=pl
  exact call_list_seq p (.inr rfl) ho hc hd (fun h' c' kp e=>fin its r' hz h' c' kp e) (by simp only [List.size_toArray]<;>omega)
theorem call_tuple_of:CallR X (.type "tuple") (fun xs H Q=>∃p ys,xs=[.ref p]∧((SqL X.K H p ys∧∀l,H l=none→Q (.ref l) (upd H l (.tup ys)))∨(SqT X.K H p ys∧Q (.ref p) H))):=by
 intro pins s σ H xs us Q I r h
 obtain⟨p,ys,rfl,h⟩:=h
 obtain⟨u,rfl,rx⟩:=vals1 r
 cases rx
 rcases h with ⟨hq,q⟩|⟨hq,q⟩
 ·obtain⟨its,r',pl,hz⟩:=I.list hq
  have hlen:=r'.length
  refine call_tuple_list pl.isList (fun h' kp=>?_) (by simp only [List.size_toArray]<;>omega)
  have I1:Inv X pins σ H { s with heap:=h' }:=I.kept (t':=s.toks) kp
  have I2:Inv X pins σ (upd H h'.objs.size (.tup ys)) { s with heap:=h'.push { cls:=.type "tuple",data:=.seq its.toArray } } :=
   I1.laid (t':=s.toks) (fun b o e=>Heap.get?_push_of_some _ e) (Nat.le_refl _) (show ObjOk X.prog X.w _ _ _ (.tup ys) from⟨hz,its,r',IsTup.new _ _⟩)
  exact⟨.ref h'.objs.size,_,I2,rfl,q _ (I1.hok.fresh (Nat.le_refl _))⟩
 ·obtain⟨its,r',pl,hz⟩:=I.tuple hq
  exact call_tuple_same pl ⟨.ref p,H,I,rfl,q⟩
def tyV(K:PySem.W.Frag)(T:String)(x:V)(H:Hp):Prop:=match x with
 |.str _=>T="str"
 |.int _=>T="int"
 |.ref p=>(T="list"∧∃xs,SqL K H p xs)∨(T="tuple"∧∃o,K.lookup p=some o∧o.cls=.type "tuple"∧o.dict=none) ∨
   (T="dict"∧((∃kvs,H p=some (.dK kvs))∨∃kvs,H p=some (.dT kvs)))∨(T="set"∧∃S n,H p=some (.set S n))
 |_=>False
theorem tyV_is{pins:List (Addr × Obj)}{σ:St}{H:Hp}{s:Shared}{T:String}{x:V}{v:Value}(I:Inv X pins σ H s)(r:RelV x v)(ty:tyV X.K T x H) :
  s.TypeIs v T∧∀a,v=.ref a→∃ob,s.heap.get? a=some ob∧ob.dict=none:=by
 cases x with
 |str z =>
  obtain⟨t,rfl⟩:=r
  cases (show T="str" from ty)
  exact⟨typeIs_str s z t,fun _ e=>nomatch e⟩
 |int i =>
  obtain⟨t,rfl⟩:=r
  cases (show T="int" from ty)
  exact⟨typeIs_int s i t,fun _ e=>nomatch e⟩
 |ref p =>
  cases r
  rcases ty with ⟨rfl,xs,hq⟩|⟨rfl,o,hk,hc,hd⟩|⟨rfl,hk⟩|⟨rfl,S,n,hk⟩
  ·obtain⟨its,_,pl,_⟩:=I.list hq
   refine⟨pl.isList.typeIs,fun a e=>?_⟩
   cases e
   obtain⟨o,n,e,c,hd,_⟩:=pl
   exact⟨o,e,hd⟩
  ·refine⟨⟨o,I.kIn p o hk,hc⟩,fun a e=>?_⟩
   cases e
   exact⟨o,I.kIn _ o hk,hd⟩
  ·have z:∃o,s.heap.get? p=some o∧o.ExactDict:=by
    rcases hk with ⟨kvs,hk⟩|⟨kvs,hk⟩
    ·obtain⟨_,_,_,_,o,_,_,e,ex,_⟩:=I.hok p _ hk
     exact⟨o,e,ex⟩
    ·obtain⟨_,_,_,_,o,_,_,e,ex,_⟩:=I.hok p _ hk
     exact⟨o,e,ex⟩
   obtain⟨o,e,ex⟩:=z
   refine⟨⟨o,e,ex.1⟩,fun a e2=>?_⟩
   cases e2
   exact⟨o,e,ex.2.1⟩
  ·obtain⟨o,_,_,_,e,ex,_⟩:=I.hok p _ hk
   refine⟨⟨o,e,ex.1⟩,fun a e2=>?_⟩
   cases e2
   exact⟨o,e,ex.2.1⟩
 |_=>exact False.elim ty
def tBM0(K:PySem.W.Frag)(T:String)(r:V→List V→Hp→VK→Prop)(to:TE):TE:=fun σ H Q=>to σ H fun x H1=>tyV K T x H1∧r x [] H1 Q
structure Wh(K:PySem.W.Frag)(T:String)(r:V→List V→Hp→VK→Prop)(t:TA)(x:V)(σ:St)(H:Hp)(Q:VK):Prop where
 h:tyV K T x H
 q:t σ H fun xs H2=>r x xs H2 Q
def tBM(K:PySem.W.Frag)(T:String)(r:V→List V→Hp→VK→Prop)(to:TE)(t:TA):TE:=fun σ H Q=>to σ H fun x H1=>Wh K T r t x σ H1 Q
variable{o e:Expr}{es:List Expr}{to:TE}{t:TA}{name:Str}{apos cpos:Pos}{T id:String}{r:V→List V→Hp→VK→Prop}
theorem pe_bm0(pa:PlainAttrs T)(slot:Slot T name id) (hty:typeOf (.builtin id)=pure (.type "method_descriptor")) (hm:MtR X id r) (ho:PE X o to)
  (hbase:attributeBase o name X.env (eval o X.env)=eval o X.env:=by rfl) (hline:(apos.endLine==cpos.line)=true:=by rfl):PE X (.Call (.Attribute o name apos) [] [] cpos) (tBM0 X.K T r to):=by
 intro pins s σ H Q I h
 refine wpAny_Call_method0_late hbase hline (thn (ho pins s σ H _ I h) fun v s1 ⟨x,H1,I1,r1,ty,q1⟩=>?_)
 obtain⟨h1,h2⟩:=tyV_is I1 r1 ty
 exact⟨T,id,pa,slot,hty,h1,h2,Calls.callWith_builtin rfl (PySem.evalArgs_none (hm pins s1 σ H1 x [] v [] Q I1 r1 .nil q1))⟩
theorem pe_bm(pa:PlainAttrs T)(slot:Slot T name id) (hty:typeOf (.builtin id)=pure (.type "method_descriptor")) (hm:MtR X id r) (ho:PE X o to) (ha:PA X (e::es) t)
  (hbase:attributeBase o name X.env (eval o X.env)=eval o X.env:=by rfl)
  (hfew:((backTo cpos (starEach (e::es) X.env)).all (fun x=>!x.1)&&(backToKw cpos (keywordEach [] X.env)).all (fun x=>x.1.isSome)
   && decide ((e::es).length+([]:List Keyword).length+(if ([]:List Keyword).isEmpty then 0 else 1) < 30))=true:=by rfl)
  (hline:(apos.endLine==cpos.line)=true:=by rfl) (hs:starEach (e::es) X.env=(false,eval e X.env)::starEach es X.env:=by rfl) (hplain:(backTo cpos (starEach es X.env)).any (·.1)=false:=by rfl) :
  PE X (.Call (.Attribute o name apos) (e::es) [] cpos) (tBM X.K T r to t):=by
 intro pins s σ H Q I h
 refine wpAny_Call_method_late hbase hfew hline rfl (thn (ho pins s σ H _ I h) fun v s1 ⟨x,H1,I1,r1,ty,q1⟩=>?_)
 obtain⟨h1,h2⟩:=tyV_is I1 r1 ty
 refine⟨T,id,pa,slot,hty,h1,h2,?_⟩
 have hA:=ha cpos pins s1 σ H1 _ I1 q1
 rw [hs] at hA ⊢
 refine Calls.callWith_builtin (by show(false||(backTo cpos (starEach es X.env)).any (·.1))=false;rw [hplain]<;>rfl) (Calls.evalArgs_plain ?_)
 exact thn hA fun us s2 ⟨vs,H2,I2,r2,q2⟩=>hm pins s2 σ H2 x vs v us Q I2 r1 r2 q2
/- xs.append(e),list.index on a module's tuple .. are MtR facts of 06m -/
end
end L2
namespace L2
open PySem PySem.Spec PyProof.Rows
def MtM(X:Cx)(id:String)(r:V→List V→Hp→VK→Prop):Prop :=
 ∀(pins:List (Addr × Obj)) (s:Shared) (σ:St) (H:Hp) (x:V) (xs:List V) (v:Value) (us:List Value) (Q:VK),Inv X pins σ H s→RelV x v→Vals xs us→r x xs H Q →
  wpAny (model X.prog X.w) X.A (call (.builtin id) (v::us)) (EP X pins σ Q) X.xe s
theorem Vals.one:∀{x:V} {us:List Value},Vals [x] us→∃u,us=[u]∧RelV x u
 |_,_,.cons r .nil=>⟨_,rfl,r⟩
theorem Vals.two:∀{x y:V} {us:List Value},Vals [x,y] us→∃u v,us=[u,v]∧RelV x u∧RelV y v
 |_,_,_,.cons r (.cons q .nil)=>⟨_,_,rfl,r,q⟩
theorem Vals.zero:∀{us:List Value},Vals [] us→us=[]
 |_,.nil=>rfl
theorem Vals.dropLast{xs:List V}{us:List Value}(h:Vals xs us):Vals xs.dropLast us.dropLast:=by
 induction h with
 |nil=>exact .nil
 |cons r t ih =>
  cases t with
  |nil=>exact .nil
  |cons q t'=>exact .cons r ih
theorem erase_last{α:Type}(l:List α):l.eraseIdx (l.length - 1)=l.dropLast:=by
 induction l with
 |nil=>rfl
 |cons a r ih =>
  cases r with
  |nil=>rfl
  |cons b r =>
   have e:(a::b::r).length - 1=((b::r).length - 1)+1:=by
    have h1:(a::b::r).length=r.length+2:=rfl
    have h2:(b::r).length=r.length+1:=rfl
    omega
   rw [e,List.eraseIdx_cons_succ,ih]
   all_goals rfl
section
variable{X:Cx}{pins:List (Addr × Obj)}{σ:St}{H:Hp}{s:Shared}{l b:Addr}{xs ys zs:List V}
theorem Inv.lset{its its':List Value}{n:Nat}{f:Array Value→Array Value}{t':Nat}(I:Inv X pins σ H s)(hH:H l=some (.lst xs))
  (e:s.heap.get? l=some { cls:=.type "list",data:=.seq its.toArray n }) (hf:f its.toArray=its'.toArray) (hv:Vals ys its') (hz:ys.length≤sizeLine) :
  Inv X pins σ (upd H l (.lst ys)) { s with heap:=s.heap.update l (Obj.mapSeq f),toks:=t' }:=by
 have q:=PySem.IsL.update e f
 rw [hf] at q
 refine I.write (x:=l) (e:=l) (by rw [hH];exact trivial) (.inl rfl) (fun b' u hb hu=>(Heap.get?_update_other s.heap (Obj.mapSeq f) (Ne.symm hb)).trans hu) ⟨_,q⟩ ?_
 exact⟨hz,its',_,hv,q⟩
theorem Inv.lnew{its:List Value}{t':Nat}(I:Inv X pins σ H s)(hv:Vals ys its)(hz:ys.length≤sizeLine) :
  Inv X pins σ (upd H s.heap.objs.size (.lst ys)) { s with heap:=s.heap.push { cls:=.type "list",data:=.seq its.toArray },toks:=t' } :=
 I.laid (fun _ _ q=>Heap.get?_push_of_some _ q) (Nat.le_refl _) ⟨hz,its,0,hv,Heap.get?_push_size _ rfl⟩
theorem Inv.fresh(I:Inv X pins σ H s):H s.heap.objs.size=none:=I.hok.fresh (Nat.le_refl _)
theorem Inv.lstM(I:Inv X pins σ H s)(hH:H l=some (.lst xs)):xs.length≤sizeLine∧∃(its:List Value) (n:Nat),Vals xs its∧xs.length=its.length∧s.heap.get? l=some { cls:=.type "list",data:=.seq its.toArray n }:=by
 obtain⟨z,its,n,r,e⟩:=I.hok l _ hH
 exact⟨z,its,n,r,r.length,e⟩
end
section
variable{X:Cx}
def rAppend:V→List V→Hp→VK→Prop:=fun x vs H Q=>∃l xs y,x=.ref l∧vs=[y]∧H l=some (.lst xs)∧xs.length < sizeLine∧Q .non (upd H l (.lst (xs++[y])))
theorem mt_append:MtM X "list.append" rAppend:=by
 intro pins s σ H x vs v us Q I rx rv h
 obtain⟨l,xs,y,rfl,rfl,hH,hz,q⟩:=h
 cases rx
 obtain⟨u,rfl,ru⟩:=rv.one
 obtain⟨z,its,n,r,hl,e⟩:=I.lstM hH
 refine call_meets F.slot_list_append ⟨_,e,rfl⟩ F.entry_list_append (F.args_list_append_2 _ _) (PySem.list_append l its.toArray n u (by rw [List.size_toArray];omega)) ⟨e,?_⟩
 refine⟨.non,_,I.lset (its':=its++[u]) hH e (by simp) (r.append (.cons ru .nil)) ?_,rfl,q⟩
 rw [List.length_append,List.length_singleton]
 omega
def rPop:V→List V→Hp→VK→Prop:=fun x vs H Q=>∃l xs y,x=.ref l∧vs=[]∧H l=some (.lst xs)∧xs[xs.length - 1]?=some y∧Q y (upd H l (.lst xs.dropLast))
theorem mt_pop:MtM X "list.pop" rPop:=by
 intro pins s σ H x vs v us Q I rx rv h
 obtain⟨l,xs,y,rfl,rfl,hH,hy,q⟩:=h
 cases rx
 have hus:=rv.zero
 subst hus
 obtain⟨z,its,n,r,hl,e⟩:=I.lstM hH
 obtain⟨u,hu,ru⟩:=r.get hy
 have hy':its.toArray[its.toArray.size - 1]?=some u:=by
  show its.toArray[its.length - 1]?=some u
  rw [←Array.getElem?_toList,←hl]
  exact hu
 refine call_meets F.slot_list_pop ⟨_,e,rfl⟩ F.entry_list_pop (F.args_list_pop_1 _) (MeetsSeq.list_pop_last l its.toArray n u hy' (by rw [List.size_toArray];omega)) ⟨e,?_⟩
 refine⟨y,_,I.lset (its':=its.dropLast) hH e ?_ r.dropLast ?_,ru,q⟩
 ·show its.toArray.eraseIdxIfInBounds (its.toArray.size - 1)=its.dropLast.toArray
  rw [List.size_toArray,List.eraseIdxIfInBounds_toArray,erase_last]
 ·rw [List.length_dropLast]
  omega
def rCat:R2:=fun x y H Q=>∃l b xs zs,x=.ref l∧y=.ref b∧H l=some (.lst xs)∧H b=some (.lst zs)∧xs.length+zs.length≤sizeLine∧∀p,H p=none→Q (.ref p) (upd H p (.lst (xs++zs)))
theorem op_cat:OpR X (binaryOp .Add) rCat:=by
 intro pins s σ H x y v u Q I rx ry h
 obtain⟨l,b,xs,zs,rfl,rfl,hH,hB,hz,q⟩:=h
 cases rx
 cases ry
 obtain⟨z,its,n,r,hl,e⟩:=I.lstM hH
 obtain⟨z2,its2,n2,r2,hl2,e2⟩:=I.lstM hB
 refine PySem.P.add_list e e2 ?_ (by rw [List.size_toArray,List.size_toArray];omega)
 have ea:its.toArray++its2.toArray=(its++its2).toArray:=by simp
 rw [ea]
 exact⟨.ref _,_,I.lnew (t':=s.toks) (r.append r2) (by rw [List.length_append];omega),rfl,q _ I.fresh⟩
end
section
variable{prog:Program}{w:World}{A:Around}{E:Value→Shared→Prop}{s:Shared}
end
section
variable{X:Cx}
end
end L2
namespace L2
open PySem PySem.Spec PyProof.Rows
section
variable{κ:Type}[DecidableEq κ]
def valV(kvs:List (κ × V))(k:κ):Option V:=(kvs.find? fun kv=>decide (kv.1=k)).map (·.2)
def putK(kvs:List (κ × V))(k:κ)(v:V):List (κ × V) :=
 if (kvs.any fun kv=>decide (kv.1=k))=true then kvs.map (fun kv=>if kv.1=k then (kv.1,v) else kv) else kvs++[(k,v)]
theorem valV_pos{p:κ × V}{r:List (κ × V)}{k:κ}(e:p.1=k):valV (p::r) k=some p.2:=by simp [valV,List.find?_cons,e]
theorem valV_neg{p:κ × V}{r:List (κ × V)}{k:κ}(e:¬p.1=k):valV (p::r) k=valV r k:=by simp [valV,List.find?_cons,e]
theorem valV_any(k:κ):∀kvs:List (κ × V),(kvs.any fun kv=>decide (kv.1=k))=(valV kvs k).isSome
 |[]=>rfl
 |p::r=>by
  rw [List.any_cons]
  by_cases e:p.1=k
  ·simp only [valV_pos e,decide_eq_true e,Bool.true_or,Option.isSome_some]
  ·rw [valV_neg e,decide_eq_false e,Bool.false_or];exact valV_any k r
theorem valV_map(k j:κ)(y:V):∀kvs:List (κ × V),valV (kvs.map fun kv=>if kv.1=k then (kv.1,y) else kv) j=(valV kvs j).map fun x=>if j=k then y else x
 |[]=>rfl
 |p::r=>by
  have ih:=valV_map k j y r
  rw [List.map_cons]
  by_cases h:p.1=k
  ·rw [if_pos h]
   by_cases e:p.1=j
   ·rw [valV_pos (p:=(p.1,y)) e,valV_pos e,Option.map_some,if_pos (e.symm.trans h)]
   ·rw [valV_neg (p:=(p.1,y)) e,valV_neg e,ih]
  ·rw [if_neg h]
   by_cases e:p.1=j
   ·rw [valV_pos (p:=p) e,valV_pos e,Option.map_some,if_neg (fun z=>h (e.trans z))]
   ·rw [valV_neg (p:=p) e,valV_neg e,ih]
theorem valV_snoc(k j:κ)(y:V):∀kvs:List (κ × V),valV kvs k=none→valV (kvs++[(k,y)]) j=if j=k then some y else valV kvs j
 |[],_=>by
  by_cases e:k=j
  ·rw [if_pos e.symm];exact valV_pos (p:=(k,y)) e
  ·rw [if_neg (fun z=>e z.symm)];exact valV_neg (p:=(k,y)) e
 |p::r,hn=>by
  rw [List.cons_append]
  have hk:¬p.1=k:=fun z=>by rw [valV_pos z] at hn;cases hn
  rw [valV_neg hk] at hn
  have ih:=valV_snoc k j y r hn
  by_cases e:p.1=j
  ·rw [valV_pos e,valV_pos e,if_neg (fun z=>hk (e.trans z))]
  ·rw [valV_neg e,valV_neg e,ih]
theorem valV_put(kvs:List (κ × V))(k j:κ)(y:V):valV (putK kvs k y) j=if j=k then some y else valV kvs j:=by
 unfold putK
 by_cases a:(kvs.any fun kv=>decide (kv.1=k))=true
 ·rw [if_pos a,valV_map]
  rw [valV_any] at a
  by_cases e:j=k
  ·obtain⟨x,hx⟩:=Option.isSome_iff_exists.mp a
   rw [if_pos e,e,hx,Option.map_some,if_pos rfl]
  ·rw [if_neg e]
   cases valV kvs j with
   |none=>rfl
   |some x=>rw [Option.map_some,if_neg e]
 ·rw [if_neg a]
  refine valV_snoc k j y kvs ?_
  rw [valV_any] at a
  cases q:valV kvs k with
  |none=>rfl
  |some x=>rw [q] at a;exact(a rfl).elim
theorem length_putK(kvs:List (κ × V))(k:κ)(v:V):(putK kvs k v).length≤kvs.length+1:=by
 unfold putK
 split
 ·rw [List.length_map];omega
 ·rw [List.length_append,List.length_cons,List.length_nil];omega
theorem putK_new{kvs:List (κ × V)}{k:κ}(v:V)(h:valV kvs k=none):putK kvs k v=kvs++[(k,v)]:=by
 unfold putK
 rw [valV_any,h]
 exact if_neg (by decide)
theorem RelO.isSome_eq{o:Option V}{u:Option Value}(r:RelO o u):o.isSome=u.isSome:=by
 cases o with
 |none=>cases u with
  |none=>rfl
  |some _=>exact(show False from r).elim
 |some _=>cases u with
  |none=>exact(show False from r).elim
  |some _=>rfl
theorem KV.val{kvs:List (κ × V)}{vs:List (κ × Value)}(r:KV kvs vs)(k:κ):RelO (valV kvs k) (valueAt vs k):=by
 unfold KV at r
 induction r with
 |nil=>exact True.intro
 |@cons p q ps qs h t ih =>
  obtain⟨h1,h2⟩:=h
  by_cases e:p.1=k
  ·have e':q.1=k:=h1.symm.trans e
   have b:valueAt (q::qs) k=some q.2:=by simp [valueAt,List.find?_cons,e']
   rw [valV_pos e,b];exact h2
  ·have e':¬q.1=k:=fun z=>e (h1.trans z)
   have b:valueAt (q::qs) k=valueAt qs k:=by simp [valueAt,List.find?_cons,e']
   rw [valV_neg e,b];exact ih
theorem KV.any{kvs:List (κ × V)}{vs:List (κ × Value)}(r:KV kvs vs)(k:κ):(kvs.any fun kv=>decide (kv.1=k))=vs.any fun kv=>decide (kv.1=k):=by
 unfold KV at r
 induction r with
 |nil=>rfl
 |cons h t ih=>rw [List.any_cons,List.any_cons,ih,h.1]
theorem KV.repl{kvs:List (κ × V)}{vs:List (κ × Value)}(r:KV kvs vs)(k:κ){y:V}{u:Value}(ry:RelV y u) :
  KV (kvs.map fun kv=>if kv.1=k then (kv.1,y) else kv) (vs.map fun kv=>if kv.1=k then (kv.1,u) else kv):=by
 unfold KV at r ⊢
 induction r with
 |nil=>exact .nil
 |@cons p q ps qs h t ih =>
  rw [List.map_cons,List.map_cons]
  refine .cons ?_ ih
  obtain⟨h1,h2⟩:=h
  by_cases e:p.1=k
  ·rw [if_pos e,if_pos (h1.symm.trans e)];exact⟨h1,ry⟩
  ·rw [if_neg e,if_neg (fun z=>e (h1.trans z))];exact⟨h1,h2⟩
theorem KV.put{kvs:List (κ × V)}{vs:List (κ × Value)}(r:KV kvs vs)(k:κ){y:V}{u:Value}(ry:RelV y u):KV (putK kvs k y) (stored vs k u):=by
 unfold putK stored
 rw [r.any k]
 by_cases e:(vs.any fun kv=>decide (kv.1=k))=true
 ·rw [if_pos e,if_pos e];exact r.repl k ry
 ·rw [if_neg e,if_neg e];exact Paired.snoc r ⟨rfl,ry⟩
theorem KV.length{kvs:List (κ × V)}{vs:List (κ × Value)}(r:KV kvs vs):kvs.length=vs.length:=Paired.length r
end
theorem kV_is{P:Program}{w:World}{k:Key}{u:Value}(r:RelV (kV k) u):(mixKind P w).is k u=true:=by
 cases k with
 |inl i=>obtain⟨t,e⟩:=(show ∃t,u=Value.int i t from r);subst e;exact mixKind_int P w i t
 |inr x=>obtain⟨t,e⟩:=(show ∃t,u=Value.str x t from r);subst e;exact mixKind_str P w x t
theorem items_are{P:Program}{w:World}:∀{ks:List Key} {us:List Value},Vals (ks.map kV) us→ItemsAre (mixKind P w) ks us
 |[],_,r=>by rw [List.map_nil] at r;cases r;exact .nil
 |k::ks,_,r=>by
  rw [List.map_cons] at r
  cases r with
  |cons h t=>exact .cons (kV_is h) (items_are t)
abbrev KT(H:Hp):List (List Key × V)→List (List Key × Addr × Value)→Prop:=Paired fun p q=>p.1=q.1∧H q.2.1=some (.tup (p.1.map kV))∧RelV p.2 q.2.2
theorem KT.val{H:Hp}{kvs:List (List Key × V)}{xs:List (List Key × Addr × Value)}(r:KT H kvs xs)(k:List Key):RelO (valV kvs k) ((atKey xs k).map (·.2)):=by
 induction r with
 |nil=>exact True.intro
 |@cons p q ps qs h t ih =>
  obtain⟨h1,_,h2⟩:=h
  by_cases e:p.1=k
  ·have e':q.1=k:=h1.symm.trans e
   have b:atKey (q::qs) k=some q.2:=by simp [atKey,List.find?_cons,e']
   rw [valV_pos e,b];exact h2
  ·have e':¬q.1=k:=fun z=>e (h1.trans z)
   have b:atKey (q::qs) k=atKey qs k:=by simp [atKey,List.find?_cons,e']
   rw [valV_neg e,b];exact ih
theorem KT.repl{H:Hp}{kvs:List (List Key × V)}{xs:List (List Key × Addr × Value)}(r:KT H kvs xs)(k:List Key){y:V}{u:Value}(ry:RelV y u) :
  KT H (kvs.map fun kv=>if kv.1=k then (kv.1,y) else kv) (xs.map (putAt k u)):=by
 induction r with
 |nil=>exact .nil
 |@cons p q ps qs h t ih =>
  rw [List.map_cons,List.map_cons]
  refine .cons ?_ ih
  obtain⟨h1,h2,h3⟩:=h
  unfold putAt
  by_cases e:p.1=k
  ·rw [if_pos e,if_pos (h1.symm.trans e)];exact⟨h1,h2,ry⟩
  ·rw [if_neg e,if_neg (fun z=>e (h1.trans z))];exact⟨h1,h2,h3⟩
theorem KT.put{H:Hp}{kvs:List (List Key × V)}{xs:List (List Key × Addr × Value)}(r:KT H kvs xs)(k:List Key){b:Addr}{y:V}{u:Value}(hb:H b=some (.tup (k.map kV)))(ry:RelV y u) :
  KT H (putK kvs k y) (storedH xs k b u):=by
 have e:(kvs.any fun kv=>decide (kv.1=k))=(atKey xs k).isSome:=by
  rw [valV_any,(r.val k).isSome_eq,Option.isSome_map]
 unfold putK storedH
 rw [e]
 by_cases q:(atKey xs k).isSome=true
 ·rw [if_pos q,if_pos q];exact r.repl k ry
 ·rw [if_neg q,if_neg q];exact Paired.snoc r ⟨rfl,hb,ry⟩
theorem KT.keeps{H H':Hp}{kvs:List (List Key × V)}{xs:List (List Key × Addr × Value)}(r:KT H kvs xs)(ht:∀b ys,H b=some (.tup ys)→H' b=some (.tup ys)):KT H' kvs xs :=
 Paired.mapP r fun _ _ z=>⟨z.1,ht _ _ z.2.1,z.2.2⟩
section
variable{P:Program}{w:World}{H:Hp}{h:Heap}{a:Addr}
theorem rd_of{u:HO}(ok:HOk P w H h)(e:Rd H a u):ObjOk P w H h a u:=e.ok ok
theorem dk_rd{kvs:List (Key × V)}(ok:HOk P w H h)(e:Rd H a (.dK kvs)):kvs.length≤sizeLine∧(a==sysModules)=false∧∃vs,KV kvs vs∧h.DictOf (mixKind P w) a vs :=
 show ObjOk P w H h a (.dK kvs) from rd_of ok e
theorem dk_of{kvs:List (Key × V)}(ok:HOk P w H h)(e:H a=some (.dK kvs)):kvs.length≤sizeLine∧(a==sysModules)=false∧∃vs,KV kvs vs∧h.DictOf (mixKind P w) a vs:=dk_rd ok (.inl e)
theorem key_of{ks:List Key}(ok:HOk P w H h)(e:H a=some (.tup (ks.map kV))):(tupleKind (mixKind P w)).is h ks a:=by
 obtain⟨_,its,r,o,h1,h2,n,h3⟩:=(show ObjOk P w H h a (.tup (ks.map kV)) from ok a _ e)
 exact⟨o,its.toArray,n,h1,h2,h3,by simpa using items_are r⟩
theorem dt_rd{kvs:List (List Key × V)}(ok:HOk P w H h)(e:Rd H a (.dT kvs)):kvs.length≤sizeLine∧(a==sysModules)=false ∧
  ∃xs,KT H kvs xs∧h.DictOfH (tupleKind (mixKind P w)) a xs:=by
 obtain⟨z,y,xs,r,o,es,ep,h1,h2,h3,h4,h5⟩:=(show ObjOk P w H h a (.dT kvs) from rd_of ok e)
 refine⟨z,y,xs,r,o,es,ep,h1,h2,h3,h4,fun x hx=>?_,h5⟩
 have all:∀{l:List (List Key × V)} {m:List (List Key × Addr × Value)},KT H l m→∀x∈m,(tupleKind (mixKind P w)).is h x.1 x.2.1:=by
  intro l m q
  induction q with
  |nil=>intro x hx;exact nomatch hx
  |@cons p q ps qs hq t ih =>
   intro x hx
   rcases List.mem_cons.mp hx with e|hx
   ·subst e
    exact key_of ok (by rw [←hq.1];exact hq.2.1)
   ·exact ih x hx
 exact all r x hx
theorem dt_of{kvs:List (List Key × V)}(ok:HOk P w H h)(e:H a=some (.dT kvs)):kvs.length≤sizeLine∧(a==sysModules)=false ∧
  ∃xs,KT H kvs xs∧h.DictOfH (tupleKind (mixKind P w)) a xs:=dt_rd ok (.inl e)
end
def DGet(H:Hp)(a:Addr)(y:V)(r:Option V):Prop :=
 (∃kvs k,Rd H a (.dK kvs)∧y=kV k∧r=valV kvs k)∨∃kvs k b,Rd H a (.dT kvs)∧y=.ref b∧H b=some (.tup (k.map kV))∧r=valV kvs k
def DPut(H:Hp)(a:Addr)(y v:V)(H':Hp):Prop :=
 (∃kvs k,H a=some (.dK kvs)∧y=kV k∧kvs.length < sizeLine∧H'=upd H a (.dK (putK kvs k v))) ∨
 ∃kvs k b,H a=some (.dT kvs)∧y=.ref b∧H b=some (.tup (k.map kV))∧kvs.length < sizeLine∧H'=upd H a (.dT (putK kvs k v))
theorem DGet.k{H:Hp}{a:Addr}{kvs:List (Key × V)}{k:Key}(e:H a=some (.dK kvs)):DGet H a (kV k) (valV kvs k):=.inl ⟨kvs,k,.inl e,rfl,rfl⟩
theorem DGet.t{H:Hp}{a b:Addr}{kvs:List (List Key × V)}{k:List Key}(e:H a=some (.dT kvs))(eb:H b=some (.tup (k.map kV))):DGet H a (.ref b) (valV kvs k):=.inr ⟨kvs,k,b,.inl e,rfl,eb,rfl⟩
theorem DPut.k{H:Hp}{a:Addr}{kvs:List (Key × V)}{k:Key}{v:V}(e:H a=some (.dK kvs))(hl:kvs.length < sizeLine):DPut H a (kV k) v (upd H a (.dK (putK kvs k v))):=.inl ⟨kvs,k,e,rfl,hl,rfl⟩
theorem DPut.t{H:Hp}{a b:Addr}{kvs:List (List Key × V)}{k:List Key}{v:V}(e:H a=some (.dT kvs))(eb:H b=some (.tup (k.map kV)))(hl:kvs.length < sizeLine) :
  DPut H a (.ref b) v (upd H a (.dT (putK kvs k v))):=.inr ⟨kvs,k,b,e,rfl,eb,hl,rfl⟩
section
variable{X:Cx}{pins:List (Addr × Obj)}{σ:St}{H:Hp}{s:Shared}{a:Addr}{y v:V}{u r:Value}{o:Option V}{A:Around}{E:Value→Shared→Prop}
theorem Inv.big(I:Inv X pins σ H s):sysModules < s.heap.objs.size:=by
 have h:mainGlobals < s.heap.objs.size:=(I.mod.glob.keeps I.bk).lt
 exact Nat.lt_trans (by decide) h
theorem d_getItem{Q:Value→Shared→Prop}(hu:A.units+1 < cLine)(I:Inv X pins σ H s)(g:DGet H a y (some v))(ry:RelV y u)(h:∀w' s',Inv X pins σ H s'→RelV v w'→Q w' s') :
  wpAny (model X.prog X.w) A (getItem (.ref a) u) Q E s:=by
 rcases g with ⟨kvs,k,e,ey,l⟩|⟨kvs,k,b,e,ey,eb,l⟩
 ·subst ey
  obtain⟨z,hd,vs,rel,dd⟩:=dk_rd I.hok e
  obtain⟨w',hw,rw'⟩:=RelO.some_of (v:=v) (o:=valueAt vs k) (by rw [l];exact rel.val k)
  exact wpAny_getItem_of (kV_is ry) dd.mapOf hw (h w' _ (I.tok _) rw')
 ·subst ey
  cases (show u=Value.ref b from ry)
  obtain⟨z,hd,xs,rel,dd⟩:=dt_rd I.hok e
  obtain⟨w',hw,rw'⟩:=RelO.some_of (v:=v) (o:=(atKey xs k).map (·.2)) (by rw [l];exact rel.val k)
  obtain⟨p,hp,hp2⟩:=Option.map_eq_some_iff.mp hw
  refine wpAny_getItem_heap (tupleKind_room_in1 hu) (key_of I.hok eb) dd hp ?_
  rw [hp2]
  exact h w' _ (I.tok _) rw'
theorem d_in{Q:Value→Shared→Prop}(hu:A.units+1 < cLine)(I:Inv X pins σ H s)(g:DGet H a y o)(ry:RelV y u)(h:∀s',Inv X pins σ H s'→Q (.bool o.isSome) s') :
  wpAny (model X.prog X.w) A (compareOp .In u (.ref a)) Q E s:=by
 rcases g with ⟨kvs,k,e,ey,l⟩|⟨kvs,k,b,e,ey,eb,l⟩
 ·subst ey
  obtain⟨z,hd,vs,rel,dd⟩:=dk_rd I.hok e
  refine wpAny_in_of (kV_is ry) hd dd.mapOf ?_
  rw [←(rel.val k).isSome_eq,←l]
  exact h _ (I.tok _)
 ·subst ey
  cases (show u=Value.ref b from ry)
  obtain⟨z,hd,xs,rel,dd⟩:=dt_rd I.hok e
  refine wpAny_in_heap (tupleKind_room_in1 hu) (key_of I.hok eb) hd dd ?_
  have q:=(rel.val k).isSome_eq
  rw [Option.isSome_map] at q
  rw [←q,←l]
  exact h _ (I.tok _)
theorem d_notIn{Q:Value→Shared→Prop}(hu:A.units+1 < cLine)(I:Inv X pins σ H s)(g:DGet H a y o)(ry:RelV y u)(h:∀s',Inv X pins σ H s'→Q (.bool (!o.isSome)) s') :
  wpAny (model X.prog X.w) A (compareOp .NotIn u (.ref a)) Q E s:=by
 rcases g with ⟨kvs,k,e,ey,l⟩|⟨kvs,k,b,e,ey,eb,l⟩
 ·subst ey
  obtain⟨z,hd,vs,rel,dd⟩:=dk_rd I.hok e
  refine wpAny_notIn_of (kV_is ry) hd dd.mapOf ?_
  rw [←(rel.val k).isSome_eq,←l]
  exact h _ (I.tok _)
 ·subst ey
  cases (show u=Value.ref b from ry)
  obtain⟨z,hd,xs,rel,dd⟩:=dt_rd I.hok e
  refine wpAny_notIn_heap (tupleKind_room_in1 hu) (key_of I.hok eb) hd dd ?_
  have q:=(rel.val k).isSome_eq
  rw [Option.isSome_map] at q
  rw [←q,←l]
  exact h _ (I.tok _)
theorem d_write{h':Heap}{t':Nat}{ob:HO}(I:Inv X pins σ H s)(mu:Mut (H a))(hs:Heap.SameBut a s.heap h')(he:∃q,h'.get? a=some q)(new:ObjOk X.prog X.w (upd H a ob) h' a ob) :
  Inv X pins σ (upd H a ob) { s with heap:=h',toks:=t' } :=
 I.write (x:=a) (e:=a) mu (.inl rfl) (fun b q hb z=>(hs.2 b hb).trans z) he new
theorem dk_new{P:Program}{w:World}{H':Hp}{h':Heap}{kvs:List (Key × V)}{vs:List (Key × Value)}(z:kvs.length≤sizeLine)(hd:(a==sysModules)=false)(rel:KV kvs vs)(dd:h'.DictOf (mixKind P w) a vs) :
  ObjOk P w H' h' a (.dK kvs):=⟨z,hd,vs,rel,dd⟩
theorem d_setItem{H':Hp}{Q:Unit→Shared→Prop}(hu:A.units+1 < cLine)(I:Inv X pins σ H s)(g:DPut H a y v H')(ry:RelV y u)(rv:RelV v r)(h:∀s',Inv X pins σ H' s'→Q () s') :
  wpAny (model X.prog X.w) A (setItem (.ref a) u r) Q E s:=by
 rcases g with ⟨kvs,k,e,ey,l,eH⟩|⟨kvs,k,b,e,ey,eb,l,eH⟩
 ·subst ey eH
  obtain⟨z,hd,vs,rel,dd⟩:=dk_of I.hok e
  have hz:vs.length≤sizeLine:=by rw [←rel.length];exact z
  have hl:(putK kvs k v).length≤sizeLine:=by have:=length_putK kvs k v;omega
  refine wpAny_setItem_pairs (hsz:=hz) (kV_is ry) dd fun h' dd' hs=>h _ ?_
  have he:∃q,h'.get? a=some q:=let ⟨q,_,_,hq,_⟩:=dd';⟨q,hq⟩
  exact d_write I (by rw [e];exact True.intro) hs he (dk_new hl hd (rel.put k rv) dd')
 ·subst ey eH
  cases (show u=Value.ref b from ry)
  obtain⟨z,hd,xs,rel,dd⟩:=dt_of I.hok e
  have hz:xs.length≤sizeLine:=by rw [←Paired.length rel];exact z
  have hl:(putK kvs k v).length≤sizeLine:=by have:=length_putK kvs k v;omega
  refine wpAny_setItem_heap (hsz:=hz) (tupleKind_room_in1 hu) (key_of I.hok eb) dd fun h' dd' hs=>h _ ?_
  obtain⟨q,es,ep,hq,h2,h3,h4,_,h5⟩:=dd'
  refine d_write I (by rw [e];exact True.intro) hs ⟨q,hq⟩ ⟨hl,hd,_,(rel.put k eb rv).keeps fun c ys ec=>?_,q,es,ep,hq,h2,h3,h4,h5⟩
  rw [upd_ne (ne_of ec e (fun z=>nomatch z))]
  exact ec
end
section
variable{X:Cx}{pins:List (Addr × Obj)}{σ:St}{H:Hp}{s:Shared}{a:Addr}{kvs:List (Key × V)}{k:Key}{u:Value}{A:Around}{E:Value→Shared→Prop}
end
def NoSl(i:Expr):Prop:=∀ov iv,subscripted i false ov iv=operate [ov,iv] (getItem ov iv)
theorem subD_of{prog:Program}{w:World}{A:Around}{E:Value→Shared→Prop}{s:Shared}{env:Env}{value slice:Expr}{pos:Pos}{T id:String}{Q:Value→Shared→Prop}
  (hl:typeLookup (.type T) "__getitem__"=pure (some (.builtin id))) (hs:NoSl slice)
  (h:wpAny (model prog w) A (eval value env) (fun o s₁=>wpAny (model prog w) A (eval slice env) (fun i s₂=>s₂.TypeIs o T∧wpAny (model prog w) A (getItem o i) Q E s₂) E s₁) E s) :
  wpAny (model prog w) A (eval (.Subscript value slice pos) env) Q E s:=by
 refine Subscript_ (wpAny_mono h (fun o s₁ h₁=>wpAny_mono h₁ (fun i s₂ h₂=>?_) fun _ _ x=>x) fun _ _ x=>x)
 obtain⟨hT,h₂⟩:=h₂
 unfold subscriptTail
 refine wpAny_bind ?_
 rw [getitemInPython_of_ne hT.not_modules]
 refine wpAny_bind (wpAny_specialOf hT hl ?_)
 have fin:wpAny (model prog w) A (subscripted slice false o i) (fun r s₃=>wpAny (model prog w) A (letTemporaryGo value o r >>= fun _=>pure r) Q E s₃) E s₂:=by
  rw [hs o i]
  exact wpAny_operating (wpAny_mono h₂ (fun r s₃ h₃=>wpAny_bind (wpAny_letTemporaryGo (wpAny_pure h₃))) fun _ _ x=>x)
 first
  |exact wpAny_pure (wpAny_bind fin)
  |exact wpAny_bind (wpAny_pure (wpAny_bind fin))
  |exact wpAny_bind fin
theorem dict_typeIs{X:Cx}{pins:List (Addr × Obj)}{σ:St}{H:Hp}{s:Shared}{a:Addr}{y:V}{o:Option V}(I:Inv X pins σ H s)(g:DGet H a y o):s.TypeIs (.ref a) "dict":=by
 rcases g with ⟨kvs,k,e,_,_⟩|⟨kvs,k,b,e,_,_,_⟩
 ·obtain⟨_,_,vs,_,dd⟩:=dk_rd I.hok e
  exact dd.typeIs
 ·obtain⟨_,_,xs,_,dd⟩:=dt_rd I.hok e
  exact dd.typeIs
def tDGet(td ty:TE):TE:=fun σ H Q=>td σ H fun x H1=>ty σ H1 fun y H2=>∃a v,x=.ref a∧DGet H2 a y (some v)∧Q v H2
def tDIn(ty td:TE):TE:=fun σ H Q=>ty σ H fun y H1=>td σ H1 fun x H2=>∃a o,x=.ref a∧DGet H2 a y o∧Q (.bl o.isSome) H2
def tDNotIn(ty td:TE):TE:=fun σ H Q=>ty σ H fun y H1=>td σ H1 fun x H2=>∃a o,x=.ref a∧DGet H2 a y o∧Q (.bl (!o.isSome)) H2
def sDPut(td ty tv:TE):TS:=fun D σ H=>tv σ H fun v H1=>td σ H1 fun x H2=>ty σ H2 fun y H3=>∃a H4,x=.ref a∧DPut H3 a y v H4∧D.nx σ H4
section
variable{X:Cx}{o i e value:Expr}{pos pos' tpos:Pos}{td ty tv:TE}
theorem pe_dget(hu:X.A.units+1 < cLine)(ho:PE X o td)(hi:PE X i ty)(hs:NoSl i):PE X (.Subscript o i pos) (tDGet td ty):=by
 intro pins s σ H Q I h
 refine subD_of PySem.F.slot_dict_getitem.lookup hs (thn (ho pins s σ H _ I h) fun u s1 ⟨x,H1,I1,rx,q1⟩=>thn (hi pins s1 σ H1 _ I1 q1) fun iv s2 ⟨y,H2,I2,ry,a,v,ex,g,q2⟩=>?_)
 subst ex
 obtain rfl:u=Value.ref a:=rx
 exact⟨dict_typeIs I2 g,d_getItem hu I2 g ry fun w' s3 I3 rw'=>⟨v,H2,I3,rw',q2⟩⟩
theorem pc_din(hu:X.A.units+1 < cLine)(hi:PE X i ty)(ho:PE X o td):PC X .In i o (tDIn ty td):=by
 intro pins s σ H Q I h
 refine thn (hi pins s σ H _ I h) fun iv s1 ⟨y,H1,I1,ry,q1⟩=>thn (ho pins s1 σ H1 _ I1 q1) fun u s2 ⟨x,H2,I2,rx,a,ov,ex,g,q2⟩=>?_
 subst ex
 obtain rfl:u=Value.ref a:=rx
 exact d_in hu I2 g ry fun s3 I3=>⟨.bl ov.isSome,H2,I3,rfl,q2⟩
theorem pc_dnotin(hu:X.A.units+1 < cLine)(hi:PE X i ty)(ho:PE X o td):PC X .NotIn i o (tDNotIn ty td):=by
 intro pins s σ H Q I h
 refine thn (hi pins s σ H _ I h) fun iv s1 ⟨y,H1,I1,ry,q1⟩=>thn (ho pins s1 σ H1 _ I1 q1) fun u s2 ⟨x,H2,I2,rx,a,ov,ex,g,q2⟩=>?_
 subst ex
 obtain rfl:u=Value.ref a:=rx
 exact d_notIn hu I2 g ry fun s3 I3=>⟨.bl (!ov.isSome),H2,I3,rfl,q2⟩
theorem ps_dput(hu:X.A.units+1 < cLine)(ho:PE X o td)(hi:PE X i ty)(hv:PE X value tv)(hs:swapsWith value (some (.Subscript o i pos')) pos.line X.env=pure false) :
  PS X (.Assign [.Subscript o i pos'] value pos) (sDPut td ty tv):=by
 intro pins s σ H D I h
 refine wpAny_Assign_Subscript (thn (hv pins s σ H _ I h) fun r s1 ⟨v,H1,I1,rv,q1⟩=>thn (ho pins s1 σ H1 _ I1 q1) fun u s2 ⟨x,H2,I2,rx,q2⟩=>thn (hi pins s2 σ H2 _ I2 q2) fun iv s3 ⟨y,H3,I3,ry,a,H4,ex,g,q3⟩=>?_) hs
 subst ex
 obtain rfl:u=Value.ref a:=rx
 exact d_setItem hu I3 g ry rv fun s4 I4=>⟨σ,H4,I4,q3⟩
end
theorem dk_empty{P:Program}{w:World}{H:Hp}(h:Heap)(hb:sysModules < h.objs.size):ObjOk P w H (h.push { cls:=.type "dict",data:=.dict #[] }) h.objs.size (.dK []) :=
 ⟨Nat.zero_le _,beq_eq_false_iff_ne.mpr (Ne.symm (Nat.ne_of_lt hb)),[],.nil,Heap.DictOf.new h⟩
theorem dt_empty{P:Program}{w:World}{H:Hp}(h:Heap)(hb:sysModules < h.objs.size):ObjOk P w H (h.push { cls:=.type "dict",data:=.dict #[] }) h.objs.size (.dT []) :=
 ⟨Nat.zero_le _,beq_eq_false_iff_ne.mpr (Ne.symm (Nat.ne_of_lt hb)),[],.nil,_,#[],0,Heap.get?_push_size _ rfl,⟨rfl,rfl,rfl⟩,rfl,rfl,List.nodup_nil⟩
def tDNewK:TE:=fun _ H Q=>∀p,H p=none→Q (.ref p) (upd H p (.dK []))
def tDNewT:TE:=fun _ H Q=>∀p,H p=none→Q (.ref p) (upd H p (.dT []))
section
variable{X:Cx}{pos:Pos}
theorem pe_dnewK:PE X (.Dict [] [] pos) tDNewK:=fun pins s σ H Q I h =>
 wpAny_Dict_empty ⟨.ref s.heap.objs.size,_,I.laid (a:=s.heap.objs.size) (o:=.dK []) (t':=s.toks) (fun _ _ q=>Heap.get?_push_of_some _ q) (Nat.le_refl _) (dk_empty s.heap I.big),rfl,h _ (I.hok.fresh (Nat.le_refl _))⟩
theorem pe_dnewT:PE X (.Dict [] [] pos) tDNewT:=fun pins s σ H Q I h =>
 wpAny_Dict_empty ⟨.ref s.heap.objs.size,_,I.laid (a:=s.heap.objs.size) (o:=.dT []) (t':=s.toks) (fun _ _ q=>Heap.get?_push_of_some _ q) (Nat.le_refl _) (dt_empty s.heap I.big),rfl,h _ (I.hok.fresh (Nat.le_refl _))⟩
end
structure M1(X:Cx)(o:Expr)(m:Str)(apos:Pos)(e:Expr)(cpos:Pos):Prop where
 base:attributeBase o m X.env (eval o X.env)=eval o X.env
 few:((backTo cpos (starEach [e] X.env)).all (fun x=>!x.1)&&(backToKw cpos (keywordEach [] X.env)).all (fun x=>x.1.isSome)
  && decide (([e]:List Expr).length+([]:List Keyword).length+(if ([]:List Keyword).isEmpty then 0 else 1) < 30))=true
 line:(apos.endLine==cpos.line)=true
 trees:backTo cpos (starEach [e] X.env)=[(false,eval e X.env)]
structure M2(X:Cx)(o:Expr)(m:Str)(apos:Pos)(e f:Expr)(cpos:Pos):Prop where
 base:attributeBase o m X.env (eval o X.env)=eval o X.env
 few:((backTo cpos (starEach [e,f] X.env)).all (fun x=>!x.1)&&(backToKw cpos (keywordEach [] X.env)).all (fun x=>x.1.isSome)
  && decide (([e,f]:List Expr).length+([]:List Keyword).length+(if ([]:List Keyword).isEmpty then 0 else 1) < 30))=true
 line:(apos.endLine==cpos.line)=true
 trees:backTo cpos (starEach [e,f] X.env)=[(false,eval e X.env),(false,eval f X.env)]
section
variable{X:Cx}{pins:List (Addr × Obj)}{σ:St}{H:Hp}{s:Shared}{a:Addr}{y d:V}{u r:Value}{o:Option V}{A:Around}{E:Value→Shared→Prop}
end
section
variable{X:Cx}{o e f:Expr}{apos cpos:Pos}{td ty tx:TE}
end
section
variable{X:Cx}{pins:List (Addr × Obj)}{σ:St}{H:Hp}{s:Shared}{a:Addr}{kvs:List (Key × V)}{A:Around}{E:Value→Shared→Prop}
end
section
variable{X:Cx}{pins:List (Addr × Obj)}{σ:St}{H:Hp}{s:Shared}{a:Addr}{y:V}{u:Value}{A:Around}{E:Value→Shared→Prop}
end
end L2
namespace Att
open PySem PySem.W PySem.Calls PyProof.Rows
theorem ints_of_wellAll{P:Params}{h:Heap}:∀(ns:List Int) (vs:List Value),WellAll P h vs (ns.map WData.int)→IntsAre vs ns:=by
 intro ns
 induction ns with
 |nil =>
  intro vs w
  rw [List.map_nil] at w
  cases w
  exact .nil
 |cons n ns ih =>
  intro vs w
  rw [List.map_cons] at w
  cases w with
  |cons a b =>
   cases a
   exact .cons _ _ (ih _ b)
theorem script_of{l:OpenLaw}{n:Nat}(hn:l.most=some n){P:Params}{h:Heap}{args:List WData}{vals:List Value}
  (hpre:l.row.toRowW.claim.pre args=true) (hwl:WellAll P h vals args) :
  ∃a vs ns,vals=[Value.ref a]∧args=[WData.list (ns.map WData.int)]∧h.get? a=some { cls:=.type "list",data:=.seq vs.toArray }∧IntsAre vs ns∧ns.length≤n:=by
 have hsh:WShape.hasAll [] args [.list .int]=true:=(pre_splitW hpre).1
 have hc:l.pre.holds [] { args:=args }=true:=(pre_splitW hpre).2
 obtain⟨d,r,rfl,h1,h2⟩:=hasAllW_cons hsh
 obtain rfl:=hasAllW_nil h2
 obtain⟨xs,rfl,h3⟩:=hasW_list h1
 obtain⟨ns,rfl⟩:=items_int h3
 have hlen:ns.length≤n:=by
  unfold OpenLaw.pre at hc
  have h4:(WTm.not (.lt (.lit (.int (n:Int))) (.len (.arg 0)))).holds [] { args:=[.list (ns.map .int)] }=true:=by
   have h4:=(holds_andW hc).1
   rw [hn] at h4
   exact h4
  have h5:=condW_of h4 (w_not (w_lt w_lit (w_len_list (w_arg rfl))))
  rw [List.length_map] at h5
  refine Nat.le_of_not_lt fun q=>?_
  have q':(n:Int) < ((ns.length:Nat):Int):=by omega
  first
   |(rw [decide_eq_true q'] at h5;exact absurd h5 (by decide))
   |(simp at h5;omega)
 cases hwl with
 |cons w1 w2 =>
  cases w2
  cases w1 with
  |list ho hall=>exact⟨_,_,ns,rfl,rfl,ho,ints_of_wellAll ns _ hall,hlen⟩
theorem post_true(l:OpenLaw)(args:List WData):l.row.toRowW.claim.post args (.bool true) args=true :=
 postW_of (r:=l.row.toRowW) (X:=(true==true))
  (show WShape.has [] (.bool true) .bool=true by first|rfl|decide|simp [WShape.has,WShape.arms,WShape.armsAll])
  (show(WTm.eq .res (.lit (.bool true))).value [] { args:=args,res:=some (.bool true),after:=args }=some (.bool (true==true)) from w_eq_bool (w_res rfl) w_lit) rfl
theorem attach_call{l:OpenLaw}{n:Nat}{q:Program}{loose:List Str}{XP:(Str→Option Value)→Heap→Prop}{YP:World→Heap→Prop}{d:DefRec}
  (hn:l.most=some n) (hdf:d.params.defaults=[])
  (call:∀(w:World) (s₀ s₁:Shared) (mg mb:Str→Option Value) (fa:Addr) (o:Obj) (pm cd doc:Value) (a:Addr) (vs:List Value) (ns:List Int),
   Ground q loose [] XP w s₀ mg mb s₁.heap→YP w s₁.heap →
   s₁.heap.get? fa=some o→o.data=.func (docDef d.name d.params d.body d.scope pm cd doc)→s₁.heap.CodeRec cd d.name→mg d.name=some (.ref fa) →
   s₁.heap.get? a=some { cls:=.type "list",data:=.seq vs.toArray }→IntsAre vs ns→ns.length≤n→s₁.gens=#[] →
   codeAny (model l.prog w) callerA (.call (.ref fa) ⟨[.ref a],[]⟩) (fun r s'=>r=.ok (.ret (.bool true))∧OldK s₁.heap s'.heap∧s'.os=s₁.os∧AllBare s'.gens) s₁) :
  WalkO q loose XP YP l.row.toRowW d [] (fun f vs=>PySem.call f vs):=by
 intro w s₀ s₁ mg mb G Y fa o pm cd doc dV kV ho hd hcd hD hmg hg args vals as hpre hlay hrd hwl hlo
 obtain rfl:dV=.none:=Dflts.none hD hdf
 obtain rfl:kV=.none:=Dflts.noKw hD
 obtain⟨a,vs,ns,rfl,rfl,hobj,hints,hlen⟩:=script_of hn hpre hwl
 refine enter_call (codeAny_mono (call w s₀ s₁ mg mb fa o pm cd doc a vs ns G Y ho (fd_plain hd) hcd hmg hobj hints hlen hg) fun r s' hq=>?_)
 obtain⟨rfl,h2,h3,h4⟩:=hq
 exact⟨.inl ⟨.bool true,.bool true,[],rfl,fun _=>rfl,.bool true,post_true l _,fun _=>⟨List.Pairwise.nil,fun _ hm=>(nomatch hm)⟩⟩,h2,h3,h4⟩
section
variable{prog:Program}{w:World}{A:Around}{E:Value→Shared→Prop}{s:Shared}{K:Frag}
def ledger(h:Heap)(L d:Addr):List (Addr × Obj):=(List.range h.objs.size).filterMap fun a=>if a=L∨a=d then none else (h.get? a).map fun o=>(a,o)
end
end Att
namespace L2
open PySem PySem.Spec PyProof.Rows
theorem vals_ints:∀{vs:List Value} {ns:List Int},IntsAre vs ns→Vals (ns.map V.int) vs
 |_,_,.nil=>.nil
 |_,_,.cons n t h=>.cons ⟨t,rfl⟩ (vals_ints h)
end L2
namespace L2
open PySem PySem.Spec PyProof.Rows
abbrev KOf{K:PySem.W.Frag}{h:Heap}(_:K.In h):PySem.W.Frag:=K
end L2
/- THE LAST THEOREM (shape;LID,My.* are yours):
   My.Adr: a structure of the addresses that your layer names (classes,functions);My.Txt K t: a structure (Prop) of the equations over K;
   My.txt_mk:{K} {implicit addresses ..} (e1:nsIn K mainGlobals "law"=some (some (.ref f))) (e2:K.lookup f=some ⟨oc,od,.func (fnOf "law" "law" params body scope dV kV doc pm an cdv ct),sl⟩) (e3:codeIn K cdv "law"=true) ..:∃t,My.Txt K t
set_option maxRecDepth 100000 in
set_option maxHeartbeats 0 in
theorem PySem.Challenge.cw_LID_holds : PySem.Challenge.rw_LID.Holds := by
 w_on;o_law;k_head;(case hw=>w_witness2)
 k_fill
 refine L2.walk_of (l:=PySem.Challenge.rw_LID) (n:=63) (k:=40) (x:="script") (CX:=fun w=>..) (sp:=fun _=>My.sp_law) rfl (by decide) rfl ⟨rfl,by decide,by decide⟩ (fun w h Y=>PySem.W.kIn_of Y) ?F ?S ?C
 case F =>
  intro w mg fa h KX G hmg
  have T:∃t,My.Txt (L2.KOf KX) t:=by
   dsimp only [L2.KOf]                          -- K must stand as «<heap const> w.params» for k_is
   refine' My.txt_mk ?e1 ?e2 ?e3 ..
   (case e1=>PySem.W.k_is)                    -- in the order: a name -> its address -> its object -> its parts
   (case e2=>PySem.W.k_is)
   ..
  obtain⟨t,T⟩:=T
  have e0:=hmg.symm.trans (PySem.W.mg_of KX G T.law)
  cases e0                                       -- fa is the law's own address
  exact⟨_,fun s u=>.of_eq rfl,fun base kb nb=>My.law_fn T kb nb⟩     -- if «.of_eq rfl» comes too early: refine' ⟨_,?b,fun base kb nb=>My.law_fn T kb nb⟩;exact fun s u=>.of_eq rfl
 case S=>exact fun w H a ns hl hO hS=>..
 case C=>exact ..
(the tactic k_is has no namespace: write k_is) -/
namespace L2
open PySem PySem.Spec PyProof.Rows
def defArgs(s:Stmt):Arguments:=match s with
 |.FunctionDef _ a _ _ _ _ _ _ _ _=>a
 |_=>{ posonlyargs:=[],args:=[],vararg:=none,kwonlyargs:=[],kw_defaults:=[],kwarg:=none,defaults:=[] }
def defBody(s:Stmt):List Stmt:=match s with
 |.FunctionDef _ _ b _ _ _ _ _ _ _=>b
 |_=>[]
def defScope(s:Stmt):Scope:=match s with
 |.FunctionDef _ _ _ _ _ _ sc _ _ _=>sc
 |_=>{ kind:=.function,names:=[],isGenerator:=false,isCoroutine:=false }
abbrev CX0:CXT:=fun _ _ _ _ _ _=>False
abbrev E0:XK:=fun _ _ _=>False
theorem pass0{X:Cx}:Passes CX0 X E0:=fun _ _ _ _ _ _ _ h=>h.elim
structure Fun(K:PySem.W.Frag)(x qual:Str)(st:Stmt)(f:Addr)(fd:FuncData):Prop where
 ex:∃(oc:Value) (od:Option Addr) (kV doc pm:Value) (an:Option Addr) (cdv ct:Value) (osl:Array (Option Value)),
  fd=PySem.W.fnOf x qual (defArgs st) (defBody st) (defScope st) .none kV doc pm an cdv ct∧K.lookup f=some ⟨oc,od,.func fd,osl⟩∧PySem.W.codeIn K cdv qual=true
 kp:PySem.W.keepIn K (.ref f)=true
section
variable{P:Program}{w:World}{K:PySem.W.Frag}{mg:Str→Option Value}{base:Heap}
theorem Fun.ok{x qual:Str}{st:Stmt}{f:Addr}{fd:FuncData}{N ps:List Str}{k:Nat}{sp:Sp}(F:Fun K x qual st f fd)(S:FnScope N ps (defScope st))(len:∀vs H Q E,sp vs H Q E→vs.length=ps.length)
  (hbody:∀(cdv:Value) (A:Around) (outer:List Env) (s:Shared) (H:Hp) (vs:List V) (Q:VK) (E:XK),Room k (A.deeper (envOfC qual (defScope st) s.heap.objs.size f cdv))→sp vs H Q E →
   ∃t,PSs (cxOf CX0 P w K mg base N qual (defScope st) f cdv A outer s H E).nox (defBody st) t∧t { nx:=fun _ H'=>Q .non H',rt:=Q } (start N vs) H):FnOk P w K mg base CX0 (k+1) f fd ps sp:=by
 obtain⟨oc,od,kV,doc,pm,an,cdv,ct,osl,rfl,lk,hcd⟩:=F.ex
 refine fn_of lk hcd S len fun A outer s H vs Q E hr hsp=>?_
 obtain⟨t,h,q⟩:=hbody cdv A outer s H vs Q E hr hsp
 exact⟨t,h.nox,q⟩
theorem Fun.binds{x qual:Str}{st:Stmt}{f:Addr}{fd:FuncData}{ps:List Str}(F:Fun K x qual st f fd)
  (h:∀(kV doc pm:Value) (an:Option Addr) (cdv ct:Value) (us:List Value),us.length=ps.length→bindArgs (PySem.W.fnOf x qual (defArgs st) (defBody st) (defScope st) .none kV doc pm an cdv ct) ⟨us,[]⟩=pure (ps.zip us)):Binds K fd ps []:=by
 obtain⟨oc,od,kV,doc,pm,an,cdv,ct,osl,rfl,lk,hcd⟩:=F.ex
 exact .all (h kV doc pm an cdv ct)
theorem fun_mk{x qual:Str}{st:Stmt}{f:Addr}{oc:Value}{od an:Option Addr}{osl:Array (Option Value)}{kV doc pm cdv ct:Value}(l:K.lookup f=some ⟨oc,od,.func (PySem.W.fnOf x qual (defArgs st) (defBody st) (defScope st) .none kV doc pm an cdv ct),osl⟩)
  (c:PySem.W.codeIn K cdv qual=true) (k:PySem.W.keepIn K (.ref f)=true):Fun K x qual st f (PySem.W.fnOf x qual (defArgs st) (defBody st) (defScope st) .none kV doc pm an cdv ct):=⟨⟨oc,od,kV,doc,pm,an,cdv,ct,osl,rfl,l,c⟩,k⟩
end
theorem hu_of{A:Around}{k:Nat}(hr:Room k A):A.units+1 < cLine:=Nat.lt_of_le_of_lt (Nat.add_le_add_left (by decide:1≤64) _) hr.units
theorem small1000{n:Nat}(h:n≤1000):n < sizeLine:=Nat.lt_of_le_of_lt h (by decide)
section
variable{X:Cx}
theorem pv(i:Nat){x:Str}{pos:Pos}(hN:X.N[i]?=some x:=by rfl)(hv:Vis X.env.scope x:=by first|exact Or.inl rfl|exact Or.inr (Or.inl rfl)|exact Or.inr (Or.inr rfl)) (hd:(x==("__debug__":Str))=false:=by decide)
  (hcd:(x==("__classdict__":Str))=false:=by decide):PE X (.Name x pos) (tVar i):=pe_var hN hv hd hcd
end
theorem iteF{A B:Prop}(h:B):if false=true then A else B:=by
 rw [if_neg Bool.false_ne_true]
 exact h
theorem iteT{A B:Prop}(h:A):if true=true then A else B:=by
 rw [if_pos rfl]
 exact h
theorem ite2{c A B:Prop}[Decidable c](h1:c→A)(h2:¬c→B):if c then A else B:=by
 by_cases h:c
 ·rw [if_pos h]
  exact h1 h
 ·rw [if_neg h]
  exact h2 h
def Same(H H':Hp):Prop:=∀b o,H b=some o→H' b=some o
theorem Same.refl(H:Hp):Same H H:=fun _ _ h=>h
theorem Same.trans{H H1 H2:Hp}(a:Same H H1)(b:Same H1 H2):Same H H2:=fun c o h=>b c o (a c o h)
theorem Same.seq{K:PySem.W.Frag}{H H':Hp}{a:Addr}{xs:List V}(e:Same H H')(h:SqL K H a xs):SqL K H' a xs:=by
 rcases h with (h|⟨o,h⟩)|h
 ·exact .inl (.inl (e _ _ h))
 ·exact .inl (.inr ⟨o,e _ _ h⟩)
 ·exact .inr h
end L2
namespace L2
open PySem PySem.Spec PyProof.Rows
section
variable{X:Cx}
end
end L2
namespace L2
open PySem PySem.Spec PyProof.Rows
section
variable{κ:Type}[DecidableEq κ]
end
end L2
namespace L2
open PySem PySem.Spec PyProof.Rows
section
variable{X:Cx}{tg:Expr}
end
abbrev blk(X:Cx)(N':List Str)(sc:Scope)(cl:List (Str × Addr))(s₀:Shared)(H₀:Hp)(C:Addr)(ex:List Addr):Cx :=
 { X with N:=N',s₀:=s₀,H₀:=H₀,env:=compEnvC sc cl C X.env,outer:=X.stack,ex:=ex,fn:=fun _=>false,xe:=fun _ _=>False }
structure BlkSc(X:Cx)(caps:List Str)(sc:Scope)(cl:List (Str × Addr)):Prop where
 kind:sc.kind=.function
 nocell:∀y∈sc.names,y.2≠.cell
 names:∀y∈sc.names,y.2=.local→sc.names.lookup y.1=some .local
 clos:closureFor sc X.env=pure cl
 has:(sc.names.all fun y=>y.2 != .free||(cl.lookup y.1).isSome)=true
 sub:∀y∈cl,X.env.cells.lookup y.1=some y.2
 caps:∀x∈caps,(X.env.kindOf x=some .cell∨X.env.kindOf x=some .free)∧(cl.lookup x).isSome=true∧((relabel sc X.env).names.lookup x=some .cell∨(relabel sc X.env).names.lookup x=some .free)
theorem relabel_inv{env:Env}:∀{names:List (Str × NameKind)} {x:Str} {k:NameKind},(names.map fun(n,k)=>if (k==NameKind.free&&env.scope.kind==.function&&env.kindOf n==some .cell) then (n,NameKind.cell) else (n,k)).lookup x=some k →
  ∃k',(x,k')∈names∧(k'=k∨k'=.free)
 |[],_,_,h=>by simp at h
 |(n,k0)::r,x,k,h=>by
  have h':List.lookup x ((if (k0==NameKind.free&&env.scope.kind==.function&&env.kindOf n==some .cell)=true then (n,NameKind.cell) else (n,k0))::(r.map fun(n,k)=>if (k==NameKind.free&&env.scope.kind==.function&&env.kindOf n==some .cell) then (n,NameKind.cell) else (n,k)))=some k:=h
  by_cases hx:x=n
  ·subst hx
   refine⟨k0,List.mem_cons_self,?_⟩
   by_cases hc:(k0==NameKind.free&&env.scope.kind==.function&&env.kindOf x==some .cell)=true
   ·have hf:(k0==NameKind.free)=true:=by
     rw [Bool.and_eq_true,Bool.and_eq_true] at hc
     exact hc.1.1
    exact .inr (by cases k0<;>first|rfl|exact absurd hf (by decide))
   ·rw [if_neg hc,List.lookup_cons_self] at h'
    exact .inl (Option.some.inj h')
  ·have hb:(x==n)=false:=beq_eq_false_iff_ne.mpr hx
   have h2:(r.map fun(n,k)=>if (k==NameKind.free&&env.scope.kind==.function&&env.kindOf n==some .cell) then (n,NameKind.cell) else (n,k)).lookup x=some k:=by
    split at h'<;>simpa [List.lookup_cons,hb] using h'
   obtain⟨k',hm,hk⟩:=relabel_inv h2
   exact⟨k',List.mem_cons_of_mem _ hm,hk⟩
theorem BlkSc.hasc{X:Cx}{caps:List Str}{sc:Scope}{cl:List (Str × Addr)}(S:BlkSc X caps sc cl){x:Str}(h:(relabel sc X.env).names.lookup x=some .cell∨(relabel sc X.env).names.lookup x=some .free):∃c,cl.lookup x=some c:=by
 have key:(x,NameKind.free)∈sc.names:=by
  rcases h with h|h
  ·obtain⟨k',hm,hk⟩:=relabel_inv h
   rcases hk with rfl|rfl
   ·exact absurd rfl (S.nocell _ hm)
   ·exact hm
  ·obtain⟨k',hm,hk⟩:=relabel_inv h
   rcases hk with rfl|rfl<;>exact hm
 have q:=List.all_eq_true.mp S.has _ key
 have q2:(cl.lookup x).isSome=true:=by simpa using q
 exact Option.isSome_iff_exists.mp q2
theorem BlkSc.subc{X:Cx}{caps:List Str}{sc:Scope}{cl:List (Str × Addr)}(S:BlkSc X caps sc cl){x:Str}{c:Addr}(h:cl.lookup x=some c):X.env.cells.lookup x=some c:=S.sub _ (PySem.mem_of_lookup h)
def blkSt(n:Nat)(κ:List Nat)(σ:St):St:=List.replicate n none++κ.map fun k=>(σ[k]?).join
def CompRun(n:Nat)(κ:List Nat)(g:TG)(tc:TT)(te:TE)(σ:St)(J:It)(H1:Hp)(Q:VK):Prop :=
 ∃W:Nat→Nat→List V→Hp→Prop,(∃m,W 0 m [] H1)∧∀i m ys H2,W i m ys H2 →
  (J.stop i H2∧∀D,H2 D=none→Q (.ref D) (upd H2 D (.lst ys))) ∨
  (J.go i H2∧ys.length < sizeLine∧∀x H3,J.yld i H2 x H3→g x (blkSt n κ σ) H3 fun σ4 H4=>σ4.drop n=(blkSt n κ σ).drop n ∧
   tc σ4 H4 fun b H5=>if b=true then te σ4 H5 fun v H6=>∃m',m' < m∧W (i+1) m' (ys++[v]) H6 else ∃m',m' < m∧W (i+1) m' ys H5)
def tComp(n:Nat)(κ:List Nat)(wi:TI)(g:TG)(tc:TT)(te:TE):TE:=fun σ H Q=>wi σ H fun J H1=>CompRun n κ g tc te σ J H1 Q
def tYes:TT:=fun _ H Q=>Q true H
section
variable{X:Cx}{pins:List (Addr × Obj)}{σ:St}{H:Hp}{s:Shared}
theorem Inv.block{caps:List Str}{own:List Str}{κ:List Nat}{sc:Scope}{cl:List (Str × Addr)}{fp:List Addr}{h₁:Heap}{tk:Nat}(S:BlkSc X caps sc cl)(hκ:κ.map (fun k=>X.N[k]?)=caps.map some)(I:Inv X pins σ H s)
  (f2:∀b∈fp,FpOk X pins H b) (hfp:∀b∈fp,b < s.heap.objs.size)
  {hp:Heap} {ol:Obj} (ehp:hp=s.heap.push ol) (hns:h₁.Ns hp.objs.size fun _=>none) (old:∀b o,hp.get? b=some o→h₁.get? b=some o) :
  Inv (blk X (own++caps) sc cl { s with heap:=hp } H hp.objs.size (s.heap.objs.size::fp)) pins (blkSt own.length κ σ) H { s with heap:=h₁,toks:=tk }:=by
 have hsz:hp.objs.size=s.heap.objs.size+1:=by rw [ehp,Heap.size_push]
 have up:∀b o,s.heap.get? b=some o→hp.get? b=some o:=fun b o e=>by rw [ehp];exact Heap.get?_push_of_some _ e
 have I3:Inv X pins σ H { s with heap:=hp }:=I.kept (t':=s.toks) up
 have stk:∀b,b≠X.env.locals→b∉X.fs→b∉frs X.stack:=fun b h1 h2 z=>(List.mem_cons.mp (I.stkSub b z)).elim h1 h2
 have dD:s.heap.objs.size≠X.env.locals:=Nat.ne_of_gt I.lt
 have cellLt:∀x c,X.env.cells.lookup x=some c→c < s.heap.objs.size:=fun x c e=>by
  obtain⟨v,q⟩:=I.cell x c e
  exact q.lt
 have ltC:∀b,b < s.heap.objs.size→b≠hp.objs.size:=fun b hb=>by rw [hsz];exact Nat.ne_of_lt (Nat.lt_succ_of_lt hb)
 have cellK:∀c v,s.heap.IsCell c v→h₁.IsCell c v:=fun c v ⟨o,ho,hd⟩=>⟨o,old _ _ (up _ _ ho),hd⟩
 refine⟨⟨I.ok.mod,?_,I.ok.glob,I.ok.blt,Nat.le_refl _,fun x y c h1 h2=>I.ok.inj x y c (S.subc h1) (S.subc h2),fun x h=>S.hasc h,fun _ _ z=>absurd z Bool.false_ne_true,I.ok.hd,I.ok.frames,.inl rfl,fun b hb=>?_,fun b o e=>⟨up _ _ (I.bs b o e).1,(I.bs b o e).2⟩,
   Nat.le_trans (Nat.le_trans I.ok.bsz I.sz) (by show s.heap.objs.size≤hp.objs.size;rw [hsz];exact Nat.le_succ _),fun b o e hb=>?_,fun b hb=>?_,I3.stack,I.stkFree⟩,
  rfl,I.bare,Un.kept old,⟨_,hns,fun i x v e1 e2 e3=>?_⟩,fun x c h=>?_,I.hok.fresh (by rw [hsz];exact Nat.le_succ _),fun x c h=>I.freeC x c (S.subc h),fun p hp'=>?_,I.hok.kept fun b u e=>old _ _ (up _ _ e),?_⟩
 ·show(relabel sc X.env).kind=.function
  exact S.kind
 ·show b≠hp.objs.size∧∀x c,cl.lookup x=some c→c≠b
  rcases List.mem_cons.mp hb with rfl|hb
  ·exact⟨by rw [hsz];exact Nat.ne_of_lt (Nat.lt_succ_self _),fun x c h=>Nat.ne_of_lt (cellLt x c (S.subc h))⟩
  ·exact⟨ltC b (hfp b hb),fun x c h=>(f2 b hb).2.2.2.2.1 x c (S.subc h)⟩
 ·have hlt:b < X.s₀.heap.objs.size:=Nat.lt_of_lt_of_le (Heap.lt_size e) I.ok.bsz
  rcases List.mem_cons.mp hb with rfl|hb
  ·exact absurd (Nat.lt_of_lt_of_le hlt I.sz) (Nat.lt_irrefl _)
  ·rcases (f2 b hb).2.2.2.1 with z|z
   ·exact I.ok.noex b o e z
   ·exact absurd (Nat.lt_of_lt_of_le hlt z) (Nat.lt_irrefl _)
 ·rcases List.mem_cons.mp hb with rfl|hb
  ·exact stk _ dD (I.nofs (Nat.le_refl _))
  ·exact stk _ (f2 b hb).2.1 (f2 b hb).2.2.1
 ·have e1':(own++caps)[i]?=some x:=e1
  have hlen:(List.replicate own.length (none:Option V)).length=own.length:=List.length_replicate
  have hge:own.length≤i:=by
   refine Nat.le_of_not_lt fun hlt=>?_
   unfold blkSt at e2
   rw [List.getElem?_append_left (by rw [hlen];exact hlt),List.getElem?_replicate,if_pos hlt] at e2
   cases e2
  unfold blkSt at e2
  rw [List.getElem?_append_right (by rw [hlen];exact hge),hlen,List.getElem?_map] at e2
  rw [List.getElem?_append_right hge] at e1'
  cases ek:κ[i - own.length]? with
  |none=>rw [ek] at e2;cases e2
  |some k =>
   rw [ek] at e2
   have e2':(σ[k]?).join=some v:=Option.some.inj e2
   have e4:σ[k]?=some (some v):=by
    cases eσ:σ[k]? with
    |none=>rw [eσ] at e2';cases e2'
    |some w=>rw [eσ] at e2';exact congrArg some e2'
   have e5:X.N[k]?=some x:=by
    have z:=congrArg (fun l=>l[i - own.length]?) hκ
    simp only [List.getElem?_map,ek,e1',Option.map_some] at z
    exact Option.some.inj z
   obtain⟨c1,c2,c3⟩:=S.caps x (List.mem_of_getElem? e1')
   obtain⟨m,hn,hl⟩:=I.loc
   obtain⟨u,r,l⟩:=hl k x v e5 e4 (c1.elim (fun z=>.inr (.inl z)) fun z=>.inr (.inr z))
   refine⟨u,r,?_⟩
   rcases l with ⟨hk,_⟩|⟨_,c,hc,hcell⟩
   ·rcases c1 with z|z<;>(rw [hk] at z;cases z)
   ·obtain⟨c',hc'⟩:=Option.isSome_iff_exists.mp c2
    have ecc:c'=c:=Option.some.inj ((S.subc hc').symm.trans hc)
    subst ecc
    exact .inr ⟨c3,c',hc',cellK _ _ hcell⟩
 ·obtain⟨v,q⟩:=I.cell x c (S.subc h)
  exact⟨v,cellK c v q⟩
 ·obtain⟨e,n,ne,nf,d⟩:=I.pin p hp'
  exact⟨old _ _ (up _ _ e),n,ltC _ (Heap.lt_size e),stk _ ne nf,d⟩
 ·show(blkSt own.length κ σ).length=(own++caps).length
  have z:=congrArg List.length hκ
  rw [List.length_map,List.length_map] at z
  unfold blkSt
  rw [List.length_append,List.length_append,List.length_replicate,List.length_map,z]
theorem Inv.unblock{own caps:List Str}{sc:Scope}{cl:List (Str × Addr)}{fp:List Addr}{H':Hp}{s4:Shared}{σ':St}{pins':List (Addr × Obj)}{hp h':Heap}{ol:Obj}{ys:List V}{its:List Value}{cap:Nat}(I:Inv X pins σ H s)
  (f2:∀b∈fp,FpOk X pins H b) (ehp:hp=s.heap.push ol)
  (J:Inv (blk X (own++caps) sc cl { s with heap:=hp } H hp.objs.size (s.heap.objs.size::fp)) pins' σ' H' s4)
  (hD:s4.heap.get? s.heap.objs.size=some { cls:=.type "list",data:=.seq its.toArray cap }) (nD:H' s.heap.objs.size=none) (r:Vals ys its) (hz:ys.length≤sizeLine) (sb:Heap.SameBut hp.objs.size s4.heap h') :
  Inv X pins σ (upd H' s.heap.objs.size (.lst ys)) { s4 with heap:=h' }:=by
 have hsz:hp.objs.size=s.heap.objs.size+1:=by rw [ehp,Heap.size_push]
 have up:∀b o,s.heap.get? b=some o→hp.get? b=some o:=fun b o e=>by rw [ehp];exact Heap.get?_push_of_some _ e
 have nDs:H s.heap.objs.size=none:=I.hok.fresh (Nat.le_refl _)
 have neD:∀b o,s.heap.get? b=some o→b≠s.heap.objs.size:=fun b o e=>Nat.ne_of_lt (Heap.lt_size e)
 have neC:∀b o,s.heap.get? b=some o→b≠hp.objs.size:=fun b o e=>by rw [hsz];exact Nat.ne_of_lt (Nat.lt_succ_of_lt (Heap.lt_size e))
 have nex:∀b o,s.heap.get? b=some o→b∉fp→b∉s.heap.objs.size::fp:=fun b o e hb z=>(List.mem_cons.mp z).elim (neD b o e) hb
 have u:=J.base
 have hDC:s.heap.objs.size≠hp.objs.size:=by rw [hsz];exact Nat.ne_of_lt (Nat.lt_succ_self _)
 have eD:h'.get? s.heap.objs.size=some { cls:=.type "list",data:=.seq its.toArray cap }:=(sb.2 _ hDC).trans hD
 refine I.call' (ch:=fp) J.os ⟨fun b o e n hb hx=>?_,fun b o e n hb hx=>?_,fun b o e n hx=>?_,fun b o e hx=>?_,fun b xs e=>?_,fun b o x e=>?_,fun b ps e=>?_⟩ (fun b o e=>?_) J.bare fun b hb=>?_
 ·exact(sb.2 b (neC b o e)).trans (u.keep b o (up _ _ e) n hb (nex b o e hx))
 ·obtain⟨sl,q⟩:=u.slot b o (up _ _ e) n hb (nex b o e hx)
  exact⟨sl,(sb.2 b (neC b o e)).trans q⟩
 ·rw [upd_ne (neD b o e)]
  exact u.free b o (up _ _ e) n (nex b o e hx)
 ·obtain⟨o',q⟩:=u.there b o (up _ _ e) (nex b o e hx)
  exact⟨o',(sb.2 b (neC b o e)).trans q⟩
 ·rw [upd_ne (ne_of_none e nDs)]
  exact u.tups b xs e
 ·rw [upd_ne (ne_of_none e nDs)]
  exact u.frzs b o x e
 ·rw [upd_ne (ne_of_none e nDs)]
  exact u.tbls b ps e
 ·by_cases hb:b=s.heap.objs.size
  ·subst hb
   rw [upd_same] at e
   cases e
   exact⟨hz,its,cap,r,eD⟩
  ·rw [upd_ne hb] at e
   have nC:∀c w,H' c=some w→c≠hp.objs.size:=fun c w q=>ne_of_none q J.free
   refine(J.hok b o e).stay (fun c v hc q=>(sb.2 c ?_).trans q) (fun c q=>by rw [upd_ne (ne_of_none q nD)];exact q) fun c xs q=>by rw [upd_ne (ne_of_none q nD)];exact q
   rcases hc with rfl|hc
   ·exact nC c o e
   ·exact nC c _ hc
 ·obtain⟨_,f1,_,f3,f4,f5⟩:=f2 b hb
  exact⟨f3,f1,f4,f5⟩
end
section
variable{X:Cx}
theorem pe_compG{tg elt iter:Expr}{ifs:List Expr}{own caps:List Str}{κ:List Nat}{sc:Scope}{cl:List (Str × Addr)}{pos:Pos}{wi:TI}{g:TG}{tc:TT}{te:TE}(hcalm:X.calm=true)(S:BlkSc X caps sc cl)(hκ:κ.map (fun k=>X.N[k]?)=caps.map some)
  (hi:PI X tg iter wi) (hg:∀s₀ H₀ C ex,PG (blk X (own++caps) sc cl s₀ H₀ C ex) tg g)
  (hc:∀s₀ H₀ C ex (pins:List (Addr × Obj)) (s:Shared) (σ:St) (H:Hp) (Q:Bool→Hp→Prop),Inv (blk X (own++caps) sc cl s₀ H₀ C ex) pins σ H s→tc σ H Q →
   wpAny (model X.prog X.w) X.A (forIn ifs true fun c r=>if r=true then do let ok ←isTrue c (compEnvC sc cl C X.env) (eval c (compEnvC sc cl C X.env));pure (ForInStep.yield ok) else pure (ForInStep.yield r)) (TP (blk X (own++caps) sc cl s₀ H₀ C ex) pins σ Q) (fun _ _=>False) s)
  (he:∀s₀ H₀ C ex,PE (blk X (own++caps) sc cl s₀ H₀ C ex) elt te)
  (hs:∀x,foldedSetIterable iter X.env x=pure x:=by intro _;rfl):PE X (.ListComp elt [⟨tg,iter,ifs,0⟩] sc pos) (tComp own.length κ wi g tc te):=by
 intro pins s σ H Q I h
 rw [eval_ListComp]
 refine wpAny_comprehension_free (use:=none) rfl hs S.clos S.kind S.names (thn (hi pins s σ H _ I h) fun v s1 h1=>thn h1 fun itv s2 h2=>?_)
 obtain⟨it,fp,tn,J,H2,e,I2,T,st2,f2,W,⟨m0,w0⟩,turn⟩:=h2
 subst e
 have hfp:∀b∈fp,b < s2.heap.objs.size:=fun b hb=>by
  obtain⟨o,e,_⟩:=T.obj _ _ st2 b hb
  exact Heap.lt_size e
 refine wpAny_newObj_type (wpAny_newFunctionEnv S.nocell (fun y hy=>nomatch hy) (fun h₁ hns hsb=>?_) S.kind)
 generalize ehp:s2.heap.push { cls:=.type "list",dict:=none,data:=.seq ([]:List Value).toArray }=hp at hns hsb ⊢
 have hsz:hp.objs.size=s2.heap.objs.size+1:=by rw [←ehp,Heap.size_push]
 have hDC:s2.heap.objs.size≠hp.objs.size:=by rw [hsz];exact Nat.ne_of_lt (Nat.lt_succ_self _)
 have old:∀b o,hp.get? b=some o→h₁.get? b=some o:=fun b o e=>(hsb.2 b (Nat.ne_of_lt (Heap.lt_size e))).trans (Heap.get?_push_of_some _ e)
 have eD:h₁.get? s2.heap.objs.size=some { cls:=.type "list",data:=.seq ([]:List Value).toArray }:=old _ _ (by rw [←ehp];exact Heap.get?_push_size _ rfl)
 have I0:=Inv.block (own:=own) (h₁:=h₁) (tk:=s2.toks+([]:List (Str × Value)).length) S hκ I2 f2 hfp ehp.symm hns old
 have stkD:s2.heap.objs.size∉frs X.stack:=fun z=>(List.mem_cons.mp (I2.stkSub _ z)).elim (Nat.ne_of_gt I2.lt) (I2.nofs (Nat.le_refl _))
 have cellD:∀x c,cl.lookup x=some c→c≠s2.heap.objs.size:=fun x c q=>by
  obtain⟨v,z⟩:=I2.cell x c (S.subc q)
  exact Nat.ne_of_lt z.lt
 have pinD:∀p∈X.pn++pins,p.1≠s2.heap.objs.size:=fun p hp=>Nat.ne_of_lt (Heap.lt_size (I2.pin p hp).1)
 have stkF:∀b∈fp,b∉frs X.stack:=fun b hb z=>(List.mem_cons.mp (I2.stkSub _ z)).elim (f2 b hb).2.1 (f2 b hb).2.2.1
 have loop:codeAny (model X.prog X.w) X.A (.compLoop (.ListComp elt [⟨tg,iter,ifs,0⟩] sc pos) 0 (.ref it) (.ref s2.heap.objs.size) (compEnvC sc cl hp.objs.size X.env))
   (compPost (model X.prog X.w) X.A X.xe none (EP X pins σ Q) (.ref s2.heap.objs.size) hp.objs.size) { s2 with heap:=h₁,toks:=s2.toks+([]:List (Str × Value)).length }:=by
  refine codeAny_loop rfl (fun n s'=>∃(i:Nat) (ys:List V) (its:List Value) (cap:Nat) (H':Hp),Inv (blk X (own++caps) sc cl { s2 with heap:=hp } H2 hp.objs.size (s2.heap.objs.size::fp)) pins (blkSt own.length κ σ) H' s'∧tn i s'.heap∧(∀b∈fp,H' b=none) ∧
   s'.heap.get? s2.heap.objs.size=some { cls:=.type "list",data:=.seq its.toArray cap }∧H' s2.heap.objs.size=none∧Vals ys its∧ys.length≤sizeLine∧W i n ys H') (fun n s3 hI=>?_) m0
   ⟨0,[],[],0,H2,I0,T.keep _ _ _ st2 fun b hb o e=>old _ _ (by rw [←ehp];exact Heap.get?_push_of_some _ e),fun b hb=>(f2 b hb).1,eD,I2.hok.fresh (Nat.le_refl _),.nil,Nat.zero_le _,w0⟩
  obtain⟨i,ys,its,cap,H3,I3,st3,fr3,eD3,nD3,rv,hz,w3⟩:=hI
  show wpAny _ X.A ((compTurn (.ListComp elt [⟨tg,iter,ifs,0⟩] sc pos) 0 (.ref it) (.ref s2.heap.objs.size) (compEnvC sc cl hp.objs.size X.env)).onRaise fun x=>do noteFrame x (compEnvC sc cl hp.objs.size X.env);theTreesLotGoes x) _ _ s3
  refine wpAny_noted ?_
  rw [compTurn_list]
  have I3':Inv (blk X (own++caps) sc cl { s2 with heap:=hp } H2 hp.objs.size (s2.heap.objs.size::fp)) (pins++[(s2.heap.objs.size,{ cls:=.type "list",data:=.seq its.toArray cap })]) (blkSt own.length κ σ) H3 s3:=by
   refine I3.pins_of fun p hp=>(List.mem_append.mp hp).elim (fun z=>I3.pin p (List.mem_append_right _ z)) fun z=>?_
   obtain rfl:=List.mem_singleton.mp z
   exact⟨eD3,nD3,hDC,stkD,fun v q=>by cases q⟩
  have fpk:∀{H':Hp},(∀b∈fp,H' b=none)→∀b∈fp,FpOk (blk X (own++caps) sc cl { s2 with heap:=hp } H2 hp.objs.size (s2.heap.objs.size::fp)) (pins++[(s2.heap.objs.size,{ cls:=.type "list",data:=.seq its.toArray cap })]) H' b:=fun {H'} hn b hb =>
   ⟨hn b hb,by show b≠hp.objs.size;rw [hsz];exact Nat.ne_of_lt (Nat.lt_succ_of_lt (hfp b hb)),stkF b hb,.inl (List.mem_cons_of_mem _ hb),fun x c q=>(f2 b hb).2.2.2.2.1 x c (S.subc q),fun p hp=>by
    rw [←List.append_assoc] at hp
    rcases List.mem_append.mp hp with z|z
    ·exact(f2 b hb).2.2.2.2.2 p z
    ·obtain rfl:=List.mem_singleton.mp z
     exact Nat.ne_of_gt (hfp b hb)⟩
  rcases turn i n ys H3 w3 with ⟨stop,fin⟩|⟨go,hlt,step⟩
  ·refine wpAny_bind (wpAny_standAt (wpAny_bind (thn (T.done (blk X (own++caps) sc cl { s2 with heap:=hp } H2 hp.objs.size (s2.heap.objs.size::fp)) rfl rfl rfl hcalm i _ s3 _ H3 _ I3' (fpk fr3) st3 stop) fun r s4 ⟨hr,I4⟩=>?_)))
   subst hr
   refine wpAny_pure ?_
   obtain⟨m,hm,_⟩:=I4.loc
   refine⟨m,hm,fun h' sb=>?_⟩
   have eD4:=(I4.pin (s2.heap.objs.size,{ cls:=.type "list",data:=.seq its.toArray cap }) (List.mem_append_right _ (List.mem_append_right _ (List.mem_singleton.mpr rfl)))).1
   exact⟨.ref s2.heap.objs.size,_,Inv.unblock I2 f2 ehp.symm I4 eD4 nD3 rv hz sb,rfl,fin _ nD3⟩
  ·refine wpAny_bind (wpAny_standAt (wpAny_bind (thn (T.item (blk X (own++caps) sc cl { s2 with heap:=hp } H2 hp.objs.size (s2.heap.objs.size::fp)) rfl rfl rfl hcalm i _ s3 _ H3 _ I3' (fpk fr3) st3 go) fun r s4 ⟨u,hr,h4⟩=>?_)))
   subst hr
   refine wpAny_bind (thn h4 fun _ s5 ⟨x,H5,I5,r5,y5,st5,fr5⟩=>?_)
   have I5':=I5.pinned (fpk fr5) (T.obj _ _ st5)
   refine wpAny_bind (wpAny_mono (hg _ _ _ _ _ s5 _ H5 x u _ I5' r5 (step x H5 y5)) (fun _ s6 ⟨σ6,H6,I6,eσ,q6⟩=>?_) fun _ _ z=>z.elim)
   refine wpAny_bind (wpAny_mono (hc _ _ _ _ _ s6 σ6 H6 _ I6 q6) (fun ok s7 ⟨H7,I7,q7⟩=>?_) fun _ _ z=>z.elim)
   have back:∀{s8:Shared} {H8:Hp},Inv (blk X (own++caps) sc cl { s2 with heap:=hp } H2 hp.objs.size (s2.heap.objs.size::fp)) ((pins++[(s2.heap.objs.size,{ cls:=.type "list",data:=.seq its.toArray cap })])++pinsAt fp s5.heap) σ6 H8 s8 →
     Inv (blk X (own++caps) sc cl { s2 with heap:=hp } H2 hp.objs.size (s2.heap.objs.size::fp)) pins (blkSt own.length κ σ) H8 s8∧tn (i+1) s8.heap∧(∀b∈fp,H8 b=none)∧s8.heap.get? s2.heap.objs.size=some { cls:=.type "list",data:=.seq its.toArray cap }∧H8 s2.heap.objs.size=none:=by
    intro s8 H8 I8
    have pk:∀b∈fp,∀o,s5.heap.get? b=some o→s8.heap.get? b=some o∧H8 b=none:=fun b hb o e=>by
     have z:=I8.pin (b,o) (List.mem_append_right _ (List.mem_append_right _ (mem_pinsAt hb e)))
     exact⟨z.1,z.2.1⟩
    have zD:=I8.pin (s2.heap.objs.size,{ cls:=.type "list",data:=.seq its.toArray cap }) (List.mem_append_right _ (List.mem_append_left _ (List.mem_append_right _ (List.mem_singleton.mpr rfl))))
    refine⟨(I8.pins_of fun p hp=>I8.pin p (List.mem_append_right _ (List.mem_append_left _ (List.mem_append_left _ hp)))).weak ?_ fun j v e=>?_,T.keep _ _ _ st5 fun b hb o e=>(pk b hb o e).1,fun b hb=>?_,zD.1,zD.2.1⟩
    ·exact I3.len.trans I8.len.symm
    ·have hge:own.length≤j:=by
      refine Nat.le_of_not_lt fun q=>?_
      unfold blkSt at e
      rw [List.getElem?_append_left (by rw [List.length_replicate];exact q),List.getElem?_replicate,if_pos q] at e
      cases e
     have z:=congrArg (fun l=>l[j - own.length]?) eσ
     simp only [List.getElem?_drop] at z
     rw [show own.length+(j - own.length)=j by omega] at z
     rw [z]
     exact e
    ·obtain⟨o,e,_⟩:=T.obj _ _ st5 b hb
     exact(pk b hb o e).2
   cases ok with
   |false =>
    obtain⟨m',hm,w7⟩:=(if_neg Bool.false_ne_true)▸q7
    obtain⟨I8,st8,fr8,e8,n8⟩:=back I7
    exact wpAny_pure ⟨rfl,m',hm,i+1,ys,its,cap,H7,I8,st8,fr8,e8,n8,rv,hz,w7⟩
   |true =>
    have q7':=(if_pos rfl)▸q7
    refine wpAny_bind (wpAny_bind (wpAny_mono (he _ _ _ _ _ s7 σ6 H7 _ I7 q7') (fun y s8 ⟨v8,H8,I8,r8,m',hm,w8⟩=>?_) fun _ _ z=>z.elim))
    obtain⟨I9,st9,fr9,e9,n9⟩:=back I8
    have hl:=rv.length
    refine wpAny_bind (wpAny_list_append_plain (items:=its.toArray) ⟨cap,e9⟩ (fun h' hl' sb=>?_) (by rw [List.size_toArray,←hl];exact hz))
    obtain⟨cap',e'⟩:=hl'
    refine wpAny_pure (wpAny_pure ⟨rfl,m',hm,i+1,ys++[v8],its++[y],cap',H8,?_,?_,fr9,?_,n9,Vals.append rv (.cons r8 .nil),?_,w8⟩)
    ·exact I9.turned (t':=s8.toks) (fun b o hb e=>(sb.2 b hb).trans e) n9 hDC (.inl List.mem_cons_self) cellD pinD
    ·exact T.keep _ _ _ st9 fun b hb o e=>(sb.2 b (Nat.ne_of_lt (hfp b hb))).trans e
    ·rw [e']
     congr 3
     simp
    ·rw [List.length_append]
     exact hlt
 exact codeAny_compStart_list loop (T.self _ 0 _ _ _ (T.keep _ _ _ st2 fun b hb o e=>old _ _ (by rw [←ehp];exact Heap.get?_push_of_some _ e)) loop)
theorem pe_comp{tg elt iter:Expr}{own caps:List Str}{κ:List Nat}{sc:Scope}{cl:List (Str × Addr)}{pos:Pos}{wi:TI}{g:TG}{te:TE}(hcalm:X.calm=true)(S:BlkSc X caps sc cl)(hκ:κ.map (fun k=>X.N[k]?)=caps.map some)
  (hi:PI X tg iter wi) (hg:∀s₀ H₀ C ex,PG (blk X (own++caps) sc cl s₀ H₀ C ex) tg g) (he:∀s₀ H₀ C ex,PE (blk X (own++caps) sc cl s₀ H₀ C ex) elt te)
  (hs:∀x,foldedSetIterable iter X.env x=pure x:=by intro _;rfl):PE X (.ListComp elt [⟨tg,iter,[],0⟩] sc pos) (tComp own.length κ wi g tYes te) :=
 pe_compG hcalm S hκ hi hg (fun s₀ H₀ C ex pins s σ H Q I h=>wpAny_tests_nil ⟨H,I,h⟩) he hs
end
end L2
namespace L2
open PySem PySem.Spec PyProof.Rows
section
variable{X:Cx}
theorem bootIsi:bootBuiltins "isinstance"=some (.builtin "isinstance"):=by decide +kernel
end
end L2
namespace L2
open PySem PySem.Spec PyProof.Rows
end L2
namespace L2
open PySem PySem.Spec PyProof.Rows
theorem comp_by{J:It}{xs:List V}{n:Nat}{κ:List Nat}{g:TG}{tc:TT}{te:TE}{σ:St}{H:Hp}{Q:VK}(Pv:Nat→List V→Hp→Prop)(h0:Pv 0 [] H)(hz:xs.length≤sizeLine)(hlen:∀i ys H2,Pv i ys H2→ys.length≤i)
  (hgo:∀i x ys H2,xs[i]?=some x→Pv i ys H2→J.go i H2) (hyl:∀i ys x H2 H',i < xs.length→Pv i ys H2→J.yld i H2 x H'→H'=H2∧xs[i]?=some x) (hst:∀ys H2,Pv xs.length ys H2→J.stop xs.length H2)
  (hs:∀i x ys H2 (N:List V→Hp→Prop),(∀ys' H',Pv (i+1) ys' H'→N ys' H')→xs[i]?=some x→Pv i ys H2→g x (blkSt n κ σ) H2 fun σ4 H4=>σ4.drop n=(blkSt n κ σ).drop n∧tc σ4 H4 fun b H5=>if b=true then te σ4 H5 fun v H6=>N (ys++[v]) H6 else N ys H5)
  (hQ:∀ys H2 D,Pv xs.length ys H2→H2 D=none→Q (.ref D) (upd H2 D (.lst ys))) :
  CompRun n κ g tc te σ J H Q:=by
 refine⟨fun i m ys H2=>m=xs.length - i∧i≤xs.length∧Pv i ys H2,⟨xs.length,rfl,Nat.zero_le _,h0⟩,?_⟩
 rintro i m ys H2 ⟨rfl,hi,p⟩
 by_cases hlt:i < xs.length
 ·have e:xs[i]?=some xs[i]:=List.getElem?_eq_getElem hlt
  refine .inr ⟨hgo i _ ys H2 e p,Nat.lt_of_le_of_lt (hlen i ys H2 p) (Nat.lt_of_lt_of_le hlt hz),fun x H3 y=>?_⟩
  obtain⟨rfl,ex⟩:=hyl i ys x H2 H3 hlt p y
  exact hs i x ys _ (fun ys' H'=>∃m',m' < xs.length - i∧m'=xs.length - (i+1)∧i+1≤xs.length∧Pv (i+1) ys' H') (fun ys' H' p'=>⟨xs.length - (i+1),by omega,rfl,hlt,p'⟩) ex p
 ·obtain rfl:i=xs.length:=by omega
  exact .inl ⟨hst ys H2 p,fun D hD=>hQ ys H2 D p hD⟩
def rangeV(lo:Int)(n:Nat):List V:=(List.range n).map fun i=>V.int (lo+(i:Nat))
theorem rangeV_len(lo:Int)(n:Nat):(rangeV lo n).length=n:=by simp [rangeV]
theorem rangeV_get{lo:Int}{n i:Nat}{x:V}:(rangeV lo n)[i]?=some x↔i < n∧x=.int (lo+i):=by
 unfold rangeV
 rw [List.getElem?_map]
 by_cases h:i < n
 ·rw [List.getElem?_range h]
  simp [h,eq_comm]
 ·rw [List.getElem?_eq_none (by simp;omega)]
  simp [h]
theorem itr_go{lo:Int}{n:Nat}{H:Hp}{i:Nat}{x:V}(h:(rangeV lo n)[i]?=some x):(Itr lo n).go i H:=(rangeV_get.mp h).1
theorem itr_yld'{lo:Int}{n:Nat}{H H':Hp}{i:Nat}{x:V}(hi:i < n)(h:(Itr lo n).yld i H x H'):H'=H∧(rangeV lo n)[i]?=some x:=⟨h.1,rangeV_get.mpr ⟨hi,h.2⟩⟩
section
variable{X:Cx}
end
end L2
namespace L2
open PySem PySem.Spec PyProof.Rows
mutual
inductive Dat (K:PySem.W.Frag) (H:Hp):V→PyData→Prop
 |non:Dat K H .non .none
 |bl (b:Bool):Dat K H (.bl b) (.bool b)
 |int (i:Int):Dat K H (.int i) (.int i)
 |str (x:Str):Dat K H (.str x) (.str x)
 |tup {a:Addr} {xs:List V} {ds:List PyData}:SqT K H a xs→Dats K H xs ds→Dat K H (.ref a) (.tuple ds)
 |lst {a:Addr} {xs:List V} {ds:List PyData}:SqL K H a xs→Dats K H xs ds→Dat K H (.ref a) (.list ds)
inductive Dats (K:PySem.W.Frag) (H:Hp):List V→List PyData→Prop
 |nil:Dats K H [] []
 |cons {x:V} {d:PyData} {xs:List V} {ds:List PyData}:Dat K H x d→Dats K H xs ds→Dats K H (x::xs) (d::ds)
end
theorem Same.tup{K:PySem.W.Frag}{H H':Hp}{a:Addr}{xs:List V}(e:Same H H')(h:SqT K H a xs):SqT K H' a xs:=by
 rcases h with (h|⟨o,h⟩)|h
 ·exact .inl (.inl (e _ _ h))
 ·exact .inl (.inr ⟨o,e _ _ h⟩)
 ·exact .inr h
mutual
theorem Dat.same{K:PySem.W.Frag}{H H':Hp}(e:Same H H'):∀{x:V} {d:PyData},Dat K H x d→Dat K H' x d
 |_,_,.non=>.non
 |_,_,.bl b=>.bl b
 |_,_,.int i=>.int i
 |_,_,.str x=>.str x
 |_,_,.tup h r=>.tup (e.tup h) (Dats.same e r)
 |_,_,.lst h r=>.lst (e.seq h) (Dats.same e r)
theorem Dats.same{K:PySem.W.Frag}{H H':Hp}(e:Same H H'):∀{xs:List V} {ds:List PyData},Dats K H xs ds→Dats K H' xs ds
 |_,_,.nil=>.nil
 |_,_,.cons h r=>.cons (Dat.same e h) (Dats.same e r)
end
section
variable{X:Cx}{pins:List (Addr × Obj)}{σ:St}{H:Hp}{s:Shared}
mutual
theorem Dat.reads(I:Inv X pins σ H s):∀{x:V} {d:PyData} {v:Value},Dat X.K H x d→RelV x v→∃as,Reads s.heap v d as
 |_,_,_,.non,r=>by cases r;exact⟨_,.none⟩
 |_,_,_,.bl b,r=>by cases r;exact⟨_,.bool b⟩
 |_,_,_,.int i,r=>by obtain⟨t,rfl⟩:=r;exact⟨_,.int i t⟩
 |_,_,_,.str x,r=>by obtain⟨t,rfl⟩:=r;exact⟨_,.str x t⟩
 |_,_,_,.tup hq ds,r=>by
  cases r
  obtain⟨its,rv,p,_⟩:=I.tuple hq
  obtain⟨as,q⟩:=Dats.reads I ds rv
  obtain⟨o,e,c,n,dt⟩:=p
  exact⟨as,.tuple e c dt (by simpa using q)⟩
 |_,_,_,.lst hq ds,r=>by
  cases r
  obtain⟨its,rv,p,_⟩:=I.list hq
  obtain⟨as,q⟩:=Dats.reads I ds rv
  obtain⟨o,n,e,c,_,dt⟩:=p
  exact⟨_,.list e c dt (by simpa using q)⟩
theorem Dats.reads(I:Inv X pins σ H s):∀{xs:List V} {ds:List PyData} {vs:List Value},Dats X.K H xs ds→Vals xs vs→∃as,ReadsAll s.heap vs ds as
 |_,_,_,.nil,r=>by cases r;exact⟨_,.nil⟩
 |_,_,_,.cons h t,r=>by
  cases r with
  |cons r1 r2 =>
   obtain⟨as,q⟩:=Dat.reads I h r1
   obtain⟨bs,q2⟩:=Dats.reads I t r2
   exact⟨_,.cons q q2⟩
end
end
section
variable{X:Cx}
def rEqD(K:PySem.W.Frag)(neg:Bool):R2:=fun x y H Q=>∃dx dy,Dat K H x dx∧Dat K H y dy∧SeqAt.shaped dx=true∧SeqAt.shaped dy=true∧Q (.bl (if neg then !PyData.eqv dx dy else PyData.eqv dx dy)) H
theorem op_eqD(hu:X.A.units+64 < cLine):OpR X (compareOp .Eq) (rEqD X.K false):=by
 intro pins s σ H x y v u Q I rx ry h
 obtain⟨dx,dy,hx,hy,sx,sy,q⟩:=h
 obtain⟨as,ra⟩:=Dat.reads I hx rx
 obtain⟨bs,rb⟩:=Dat.reads I hy ry
 exact eq_dataH ra rb sx sy hu ⟨.bl _,H,I,rfl,q⟩
end
end L2
namespace L2
open PySem PySem.Spec PyProof.Rows
section
variable{X:Cx}
open Classical in
theorem op_mulS:OpR X (binaryOp .Mult) (fun x y H Q=>∃z n,x=.str z∧y=.int n∧MulOk z n∧Q (.str (Txt.mul z n)) H):=by
 intro pins s σ H x y v u Q I rx ry h
 obtain⟨z,n,rfl,rfl,hm,q⟩:=h
 obtain⟨t,rfl⟩:=rx
 obtain⟨t',rfl⟩:=ry
 exact SB.mul hm fun t' k=>⟨.str _,H,I.tok _,⟨_,rfl⟩,q⟩
theorem mulOk_small{z:Str}{n:Int}(h0:0≤n)(h1:n≤1000)(h2:z.length≤1000):MulOk z n:=by
 refine⟨?_,fun h3 _=>?_,fun _ _=>?_⟩
 ·rw [decide_eq_false (by omega),decide_eq_false (by omega)]<;>rfl
 ·have hn:0 < n:=by omega
  have hm:(z.length:Int)*n≤1000*1000:=Int.mul_le_mul (by omega) h1 h0 (by decide)
  have e:(z.length:Int)≤(2 ^ 63 - 1) / n:=Int.le_ediv_of_mul_le hn (by omega)
  omega
 ·unfold Builtin.Str.tooLong sizeLine
  refine decide_eq_false ?_
  have:z.length*n.toNat≤1000*1000:=Nat.mul_le_mul h2 (by omega)
  omega
end
end L2
namespace L2
open PySem PySem.Spec PyProof.Rows
section
variable{prog:Program}{w:World}{A:Around}{E:Value→Shared→Prop}{s:Shared}
end
end L2
namespace L2
open PySem PySem.Spec PyProof.Rows
section
variable{X:Cx}
end
end L2
namespace Kk
open PySem L2
inductive Kd where
 |num (n:Int)
 |name (q t:Str)
 |pair (a b:Kd)
 deriving DecidableEq
def Kd.words:Kd→Nat
 |.num _=>1
 |.name _ _=>1
 |.pair a b=>1+a.words+b.words
def Kd.leaves:Kd→List Kd
 |.num n=>[.num n]
 |.name q t=>[.name q t]
 |.pair a b=>a.leaves++b.leaves
def Kd.leaf:Kd→Bool
 |.pair _ _=>false
 |_=>true
theorem words_leaves:∀k:Kd,k.words+1=2*k.leaves.length
 |.num _=>rfl
 |.name _ _=>rfl
 |.pair a b=>by
  have h1:=words_leaves a
  have h2:=words_leaves b
  show 1+a.words+b.words+1=2*(a.leaves++b.leaves).length
  rw [List.length_append]
  omega
theorem leaves_pos:∀k:Kd,0 < k.leaves.length
 |.num _=>Nat.zero_lt_one
 |.name _ _=>Nat.zero_lt_one
 |.pair a b=>by
  have h1:=leaves_pos a
  show 0 < (a.leaves++b.leaves).length
  rw [List.length_append]
  omega
inductive KdAt (K:PySem.W.Frag) (H:Hp):V→Kd→Prop
 |num {a:Addr} {n:Int}:SqT K H a [.str "num",.int n]→KdAt K H (.ref a) (.num n)
 |name {a:Addr} {q t:Str}:SqT K H a [.str "name",.str q,.str t]→KdAt K H (.ref a) (.name q t)
 |pair {a:Addr} {x y:V} {k l:Kd}:SqT K H a [.str "pair",x,y]→KdAt K H x k→KdAt K H y l→KdAt K H (.ref a) (.pair k l)
theorem KdAt.same{K:PySem.W.Frag}{H H':Hp}(e:Same H H'):∀{x:V} {k:Kd},KdAt K H x k→KdAt K H' x k
 |_,_,.num h=>.num (e.tup h)
 |_,_,.name h=>.name (e.tup h)
 |_,_,.pair h a b=>.pair (e.tup h) (a.same e) (b.same e)
inductive KdsAt (K:PySem.W.Frag) (H:Hp):List V→List Kd→Prop
 |nil:KdsAt K H [] []
 |cons {x:V} {k:Kd} {xs:List V} {ks:List Kd}:KdAt K H x k→KdsAt K H xs ks→KdsAt K H (x::xs) (k::ks)
theorem KdsAt.length{K:PySem.W.Frag}{H:Hp}:∀{xs:List V} {ks:List Kd},KdsAt K H xs ks→xs.length=ks.length
 |_,_,.nil=>rfl
 |_,_,.cons _ b=>congrArg (·+1) b.length
theorem KdsAt.append{K:PySem.W.Frag}{H:Hp}:∀{xs ys:List V} {ks ls:List Kd},KdsAt K H xs ks→KdsAt K H ys ls→KdsAt K H (xs++ys) (ks++ls)
 |_,_,_,_,.nil,h=>h
 |_,_,_,_,.cons a b,h=>.cons a (b.append h)
end Kk
namespace L2
open PySem PySem.Spec PyProof.Rows
section
variable{α β:Type}{P:Shared→Prop}
def Keeps(P:Shared→Prop)(t:Sem α):Prop:=∀(M:Model) (Γ:PySem.Ctx) (Q:α→Pos→Shared→Prop) (E:Value→Pos→Shared→Prop) (p:Pos) (s:Shared),P s→Sem.wp M Γ t Q E p s →
 Sem.wp M Γ t (fun a p' s'=>Q a p' s'∧P s') (fun e p' s'=>E e p' s'∧P s') p s
theorem Keeps.ret(a:α):Keeps P (Pure.pure a:Sem α):=fun _ _ _ _ _ _ h q=>⟨q,h⟩
theorem Keeps.no(x:String):Keeps P (unsupported x:Sem α):=fun _ _ _ _ _ _ _ q=>False.elim q
theorem Keeps.then{m:Sem α}{f:α→Sem β}(hm:Keeps P m)(hf:∀a,Keeps P (f a)):Keeps P (m >>= f):=fun M Γ Q E p s h q=>by
 rw [Sem.wp_bind'] at q ⊢
 exact Sem.wp_mono M Γ m (fun a p' s' z=>hf a M Γ Q E p' s' z.2 z.1) (fun _ _ _ z=>z) p s (hm M Γ _ E p s h q)
theorem Keeps.ld(a:Addr):Keeps P (load a):=fun _ _ _ _ _ _ h ⟨o,e,q⟩=>⟨o,e,q,h⟩
theorem Keeps.stk:Keeps P stack:=fun _ _ _ _ _ _ h q=>⟨q,h⟩
theorem Keeps.ite{c:Prop}[Decidable c]{a b:Sem α}(ha:Keeps P a)(hb:Keeps P b):Keeps P (if c then a else b):=by split<;>assumption
theorem Keeps.wpAny{t:Sem α}(k:Keeps P t){M:Model}{A:Around}{Q:α→Shared→Prop}{E:Value→Shared→Prop}{s:Shared}(hp:P s)(h:wpAny M A t Q E s):wpAny M A t (fun a s'=>Q a s'∧P s') (fun e s'=>E e s'∧P s') s :=
 fun Γ p hΓ=>k M Γ _ _ p s hp (h Γ p hΓ)
def DictIs(x:Addr)(d:Option Addr)(s:Shared):Prop:=∃ob,s.heap.get? x=some ob∧ob.dict=d
variable{x:Addr}{d:Option Addr}
theorem Keeps.up{a:Addr}{f:Obj→Obj}(hf:∀o:Obj,o.isFreed=false→(f o).dict=o.dict∧(f o).isFreed=false):Keeps (DictIs x d) (update a f):=fun _ _ _ _ _ s h q=>by
 refine⟨q.1,q.2,?_⟩
 obtain⟨ob,e,hd⟩:=h
 have hfr:=(Heap.get?_some_iff.mp e).2
 by_cases hx:a=x
 ·subst hx
  exact⟨_,Heap.get?_update_self f e (hf ob hfr).2,(hf ob hfr).1.trans hd⟩
 ·exact⟨ob,(Heap.get?_update_other _ f hx).trans e,hd⟩
theorem Keeps.new{o:Obj}:Keeps (DictIs x d) (alloc o):=fun _ _ _ _ _ s h q=>by
 obtain⟨ob,e,hd⟩:=h
 exact⟨q,ob,Heap.get?_push_of_some _ e,hd⟩
theorem Keeps.flds{v:Value}:Keeps P (fieldsOf v):=by
 unfold fieldsOf
 split
 ·refine Keeps.then (Keeps.ld _) fun o=>?_
  split
  ·exact Keeps.ret _
  ·exact Keeps.no _
 ·exact Keeps.no _
theorem Keeps.fld{v:Value}{i:Nat}:Keeps P (field v i):=by
 unfold field
 refine Keeps.then Keeps.flds fun vs=>?_
 split
 ·exact Keeps.ret _
 ·exact Keeps.no _
theorem Keeps.setF{v u:Value}{i:Nat}:Keeps (DictIs x d) (setField v i u):=by
 unfold setField
 split
 ·unfold updateField
  refine Keeps.then (Keeps.ld _) fun o=>?_
  split
  ·refine Keeps.ite (Keeps.up fun o ho=>?_) (Keeps.no _)
   obtain⟨c,dd,dt,sl⟩:=o
   cases dt<;>exact⟨rfl,ho⟩
  ·exact Keeps.no _
 ·exact Keeps.no _
theorem Keeps.flight{e:Value}{f:Option Addr}:Keeps (DictIs x d) (setFlight e f):=by
 unfold setFlight
 exact Keeps.then Keeps.fld fun tb=>Keeps.ite Keeps.setF (Keeps.ret _)
theorem Keeps.ready:∀l:List Env,Keeps (DictIs x d) (readyFrames l)
 |[]=>Keeps.ret _
 |env::outer=>by
  unfold readyFrames
  split
  ·refine Keeps.then (Keeps.ld _) fun o=>Keeps.ite (Keeps.ret _) (Keeps.then ?_ fun im=>Keeps.then ?_ fun bk=>Keeps.then (Keeps.up fun o ho=>⟨rfl,by obtain⟨c,dd,dt,sl⟩:=o;cases dt<;>first|rfl|exact ho⟩) fun _=>Keeps.ready outer)
   ·unfold behindIsImport
    exact Keeps.ite (Keeps.ret _) (Keeps.ite (Keeps.ret _) (Keeps.then Keeps.fld fun _=>Keeps.ret _))
   ·cases outer with
    |nil =>
     unfold keptBack
     refine Keeps.ite (Keeps.ret _) (Keeps.then ?_ fun _=>Keeps.ret _)
     unfold underTheClaimsCaller
     exact Keeps.then Keeps.stk fun _=>Keeps.ret _
    |cons c r=>exact Keeps.ret _
  ·exact Keeps.no _
theorem Keeps.frame{env:Env}:Keeps (DictIs x d) (PySem.frameOf env):=by
 unfold PySem.frameOf
 refine Keeps.then (Keeps.then Keeps.stk fun _=>Keeps.ret _) fun l=>Keeps.then ?_ fun r=>?_
 ·generalize l.dropWhile (fun y=>y.frame != env.frame)=l2
  cases l2 with
  |nil=>exact Keeps.ret _
  |cons e r=>exact Keeps.then (Keeps.ready (e::r)) fun _=>Keeps.ret _
 ·split
  ·exact Keeps.ret _
  ·exact Keeps.no _
theorem Keeps.entry{a b c e f:Value}{pl:List Value}:Keeps (DictIs x d) (EntryCells.newEntry a b c e f pl):=by
 unfold EntryCells.newEntry newFields newObj
 have st:∀(dt:Data) (dd:Option Addr),Keeps (DictIs x d) (newObjAsIs (.type "traceback") dt dd):=fun dt dd=>by
  unfold newObjAsIs
  exact Keeps.then Keeps.new fun a=>Keeps.ret _
 exact Keeps.ite (Keeps.then (Keeps.no _) fun _=>st _ _) (st _ _)
theorem Keeps.note{e:Value}{env:Env}:Keeps (DictIs x d) (noteFrame e env):=by
 unfold noteFrame
 split
 ·rename_i fr _
  refine Keeps.then Keeps.fld fun hd=>?_
  have go:Keeps (DictIs x d) (do setField e 1 (←EntryCells.newEntry hd (←PySem.frameOf env) .none (rawInt fr) .none (←entryPlaceOf fr (hd != .none)))) :=
   Keeps.then Keeps.frame fun _=>Keeps.then (by
    unfold entryPlaceOf
    refine Keeps.then Keeps.stk fun _=>?_
    split
    ·exact Keeps.ret _
    ·exact Keeps.ret _) fun _=>Keeps.then Keeps.entry fun _=>Keeps.setF
  exact Keeps.ite (Keeps.then Keeps.fld fun _=>Keeps.ite (Keeps.ret _) (Keeps.then Keeps.setF fun _=>go)) go
 ·exact Keeps.no _
theorem Keeps.leave{e:Value}{env:Env}:Keeps (DictIs x d) (leaving env e):=by
 unfold leaving
 exact Keeps.then Keeps.note fun _=>Keeps.flight
end
end L2
namespace L2
open PySem PySem.Spec PyProof.Rows
section
variable{P:Program}{w:World}
theorem ObjOk.there{H:Hp}{h:Heap}{a:Addr}{o:HO}(x:ObjOk P w H h a o):∃u,h.get? a=some u:=by
 cases o with
 |lst xs=>obtain⟨_,_,_,_,e⟩:=x;exact⟨_,e⟩
 |tup xs=>obtain⟨_,_,_,ob,e,_⟩:=x;exact⟨_,e⟩
 |dK kvs=>obtain⟨_,_,_,_,o,_,_,e,_⟩:=x;exact⟨_,e⟩
 |dT kvs=>obtain⟨_,_,_,_,o,_,_,e,_⟩:=x;exact⟨_,e⟩
 |set S n=>obtain⟨o,_,_,_,e,_⟩:=x;exact⟨_,e⟩
 |ins C dx fs=>obtain⟨_,_,_,e,_⟩:=x;exact⟨_,e⟩
 |own y=>exact x
 |xd fs=>obtain⟨_,⟨_,_,_,e,_⟩,_⟩:=x;exact⟨_,e⟩
 |rng lo hi=>obtain⟨_,_,_,e⟩:=x;exact⟨_,e⟩
 |frz ob u=>obtain⟨e,_⟩:=x;exact⟨_,e⟩
 |tbl ps=>obtain⟨_,e,_⟩:=x;exact⟨_,e⟩
 |cod q=>obtain⟨_,_,_,_,e0,e,_⟩:=x;cases e0;exact⟨_,e⟩
 |cel v=>obtain⟨_,_,_,e,_⟩:=x;exact⟨_,e⟩
 |fnc fd=>obtain⟨_,_,_,e⟩:=x;exact⟨_,e⟩
 |met f y=>exact⟨_,(show h.get? a=some _ from x)⟩
 |ext φ=>obtain⟨_,e,_⟩:=x;exact e
structure Fly(P:Program)(w:World)(outer:List Env)(H:Hp)(s:Shared)(x:Addr)(cls:Value)(H':Hp)(s':Shared):Prop where
 os:s'.os=s.os
 bare:AllBare s'.gens
 un:Un (frs outer) [] H H' s.heap s'.heap
 hok:HOk P w H' s'.heap
 fl:∃B a0,Heap.FlyingW B outer x cls a0 s'.heap∧(∀b o,H' b=some o→∃u,B.get? b=some u)∧∀b o,s.heap.get? b=some o→b∉frs outer→∃u,B.get? b=some u
 free:H' x=none
def CX1(P:Program)(w:World):CXT:=fun outer H s E e s'=>∃x cls d H',e=.ref x∧Fly P w outer H s x cls H' s'∧DictIs x d s'∧E cls d H'
end
section
variable{X:Cx}{pins:List (Addr × Obj)}{σ:St}{H H':Hp}{s s':Shared}{x:Addr}{cls:Value}{E:Value→Shared→Prop}{Q:Unit→Shared→Prop}
theorem Inv.notSt(I:Inv X pins σ H s){b:Addr}(h1:b≠X.env.locals)(h2:b∉X.fs):b∉frs X.stack:=fun z=>(List.mem_cons.mp (I.stkSub b z)).elim h1 h2
theorem Inv.oldL(I:Inv X pins σ H s){b:Addr}{o:Obj}(e:X.s₀.heap.get? b=some o):b≠X.env.locals:=Nat.ne_of_lt (Nat.lt_of_lt_of_le (Heap.lt_size e) I.ok.above)
theorem Fly.leave(I:Inv X pins σ H s)(hst:X.stack=X.env::X.outer)(hfr:X.env.frame=some X.env.locals)(hex:X.ex=[])(f:Fly X.prog X.w X.stack H s x cls H' s'){d:Option Addr}(hdi:DictIs x d s')
  (hQ:∀s'',Fly X.prog X.w X.outer X.H₀ X.s₀ x cls H' s''→DictIs x d s''→Q () s''):wpAny (model X.prog X.w) X.A (leaving X.env (.ref x)) Q E s':=by
 refine wpAny_mono (Keeps.leave.wpAny (E:=E) (Q:=fun _ s''=>Fly X.prog X.w X.outer X.H₀ X.s₀ x cls H' s'') hdi ?_) (fun _ s'' z=>hQ s'' z.1 z.2) fun _ _ z=>z.1
 obtain⟨B,a0,fl,c1,c2⟩:=f.fl
 rw [hst] at fl
 have nx:∀b:Addr,b∉X.ex:=fun b=>by rw [hex];simp
 refine wpAny_leaves_onW (by rw [I.ok.frames,hst]) hfr fl fun h' fl' up=>?_
 have st:∀b o,B.get? b=some o→h'.get? b=some o:=fl'.1
 have same:∀b u v,B.get? b=some u→s'.heap.get? b=some v→u=v:=fun b u v h1 h2=>by
  have h3:=fl.1 b u h1
  rw [h2] at h3
  exact(Option.some.inj h3).symm
 have slot:∀b o,X.s₀.heap.get? b=some o→X.H₀ b=none→b∈X.fs→∃sl,h'.get? b=some { o with slots:=sl }:=fun b o e n hb=>by
  obtain⟨sl,e1⟩:=I.base.slot b o e n hb (nx b)
  obtain⟨sl2,e2⟩:=f.un.any e1 (I.base.free b o e n (nx b)) (by simp)
  obtain⟨_,of,ho,hnf⟩:=I.ok.funs.mem hb
  rw [e] at ho
  cases ho
  obtain⟨sl3,e3⟩:=up b _ e2 hnf
  exact⟨sl3,e3⟩
 refine⟨f.os.trans I.os,f.bare,⟨fun b o e n hb _=>?_,fun b o e n hb _=>slot b o e n hb,fun b o e n _=>?_,fun b o e _=>?_,fun b xs e=>f.un.tups b xs (I.base.tups b xs e),fun b o u e=>f.un.frzs b o u (I.base.frzs b o u e),fun b ps e=>?_⟩,fun a o e=>?_,⟨B,a0,fl',c1,fun b o e hb=>?_⟩,f.free⟩
 ·have e1:=I.base.keep b o e n hb (nx b)
  have n1:=I.base.free b o e n (nx b)
  have hb':=I.notSt (I.oldL e) hb
  have e2:=f.un.keep b o e1 n1 hb' (by simp)
  obtain⟨u,hu⟩:=c2 b o e1 hb'
  exact same b u o hu e2▸st b u hu
 ·obtain⟨o',e1⟩:=I.base.there b o e (nx b)
  exact f.un.free b o' e1 (I.base.free b o e n (nx b)) (by simp)
 ·by_cases hb:b∈X.fs
  ·obtain⟨sl,e1⟩:=slot b o e (I.ok.frf b hb) hb
   exact⟨_,e1⟩
  ·obtain⟨o',e1⟩:=I.base.there b o e (nx b)
   obtain⟨u,hu⟩:=c2 b o' e1 (I.notSt (I.oldL e) hb)
   exact⟨u,st b u hu⟩
 ·obtain⟨m1,e1⟩:=I.base.tbls b ps e
  obtain⟨m2,e2⟩:=f.un.tbls b _ e1
  exact⟨m1++m2,by rw [e2,Array.append_assoc]⟩
 ·refine(f.hok a o e).stay (fun b u hb q=>?_) (fun _ q=>q) fun _ _ q=>q
  have t:∃o',H' b=some o':=by
   rcases hb with z|z
   ·exact⟨o,by rw [z];exact e⟩
   ·exact⟨_,z⟩
  obtain⟨o',e'⟩:=t
  obtain⟨v,hv⟩:=c1 b o' e'
  exact same b v u hv q▸st b v hv
 ·obtain⟨o',e1⟩:=I.base.there b o e (nx b)
  exact c2 b o' e1 (I.notSt (I.oldL e) hb)
theorem Fly.first{oe:Obj}{vs:Array Value}{a0:Value}(I:Inv X pins σ H s)(hst:X.stack=X.env::X.outer)(hfr:X.env.frame=some X.env.locals)(hex:X.ex=[])(hx:s.heap.get? x=some oe)(hcl:oe.cls=cls)(hdt:oe.data=.fields vs)
  (h1:vs[1]?=some .none) (h0:vs[0]?=some a0) (hn:X.s₀.heap.get? x=none) (hH:H x=none)
  (hQ:∀s'',Fly X.prog X.w X.outer X.H₀ X.s₀ x cls H s''→DictIs x oe.dict s''→Q () s''):wpAny (model X.prog X.w) X.A (leaving X.env (.ref x)) Q E s:=by
 have nx:∀b:Addr,b∉X.ex:=fun b=>by rw [hex];simp
 refine wpAny_mono (Keeps.leave.wpAny (E:=E) (Q:=fun _ s''=>Fly X.prog X.w X.outer X.H₀ X.s₀ x cls H s'') ⟨oe,hx,rfl⟩ ?_) (fun _ s'' z=>hQ s'' z.1 z.2) fun _ _ z=>z.1
 have hl:s.heap.FunFrames (PySem.W.hideAll s.heap (x::frs X.stack)) (X.env::X.outer) :=
  PySem.W.funFrames_hide (base:=X.base) (by rw [←hst];exact I.stack) fun env he a hf=>by
   rw [hst]
   exact .tail _ (List.mem_filterMap.mpr ⟨env,he,hf⟩)
 have hen:(PySem.W.hideAll s.heap (x::frs X.stack)).get? x=none:=PySem.W.hideAll_none _ (.head _)
 refine wpAny_leaving_firstW (a0:=a0) (by rw [I.ok.frames,hst]) hl hfr hx (fun b o q=>PySem.W.of_hideAll _ q) hen hdt h1 h0 fun h' hL=>?_
 obtain⟨k1,⟨_,_,k2⟩,k3,up⟩:=hL
 rw [hcl] at k3
 have st:∀b o,s.heap.get? b=some o→b∉frs X.stack→b≠x→h'.get? b=some o:=fun b o e hb hbx=>k1 b o (PySem.W.hideAll_get _ e fun z=>(List.mem_cons.mp z).elim hbx hb)
 have old:∀b o,X.s₀.heap.get? b=some o→b≠x:=fun b o e z=>by rw [z,hn] at e;cases e
 have slot:∀b o,X.s₀.heap.get? b=some o→X.H₀ b=none→b∈X.fs→∃sl,h'.get? b=some { o with slots:=sl }:=fun b o e n hb=>by
  obtain⟨sl,e1⟩:=I.base.slot b o e n hb (nx b)
  obtain⟨_,of,ho,hnf⟩:=I.ok.funs.mem hb
  rw [e] at ho
  cases ho
  obtain⟨sl3,e3⟩:=up b _ e1 hnf
  exact⟨sl3,e3⟩
 have trk:∀b o,H b=some o→b∉frs X.stack∧b≠x:=fun b o e=>⟨fun z=>(by rw [I.stkFree b z] at e;cases e),fun z=>(by rw [z,hH] at e;cases e)⟩
 refine⟨I.os,I.bare,⟨fun b o e n hb _=>st b o (I.base.keep b o e n hb (nx b)) (I.notSt (I.oldL e) hb) (old b o e),fun b o e n hb _=>slot b o e n hb,fun b o e n _=>I.base.free b o e n (nx b),fun b o e _=>?_,I.base.tups,I.base.frzs,I.base.tbls⟩,fun a o e=>?_,⟨_,_,⟨k1,hen,k2,k3⟩,fun b o e=>?_,fun b o e hb=>?_⟩,hH⟩
 ·by_cases hb:b∈X.fs
  ·obtain⟨sl,e1⟩:=slot b o e (I.ok.frf b hb) hb
   exact⟨_,e1⟩
  ·obtain⟨o',e1⟩:=I.base.there b o e (nx b)
   exact⟨o',st b o' e1 (I.notSt (I.oldL e) hb) (old b o e)⟩
 ·refine(I.hok a o e).stay (fun b u hb q=>?_) (fun _ q=>q) fun _ _ q=>q
  have hb':∃o',H b=some o':=by
   rcases hb with z|z
   ·exact⟨o,by rw [z];exact e⟩
   ·exact⟨_,z⟩
  obtain⟨o',e'⟩:=hb'
  exact st b u q (trk b o' e').1 (trk b o' e').2
 ·obtain⟨u,hu⟩:=(I.hok b o e).there
  exact⟨u,PySem.W.hideAll_get _ hu fun z=>(List.mem_cons.mp z).elim (trk b o e).2 (trk b o e).1⟩
 ·obtain⟨o',e1⟩:=I.base.there b o e (nx b)
  exact⟨o',PySem.W.hideAll_get _ e1 fun z=>(List.mem_cons.mp z).elim (old b o e) (I.notSt (I.oldL e) hb)⟩
theorem Fly.made{h1:Heap}{vs:List Value}(I:Inv X pins σ H s)(hst:X.stack=X.env::X.outer)(hfr:X.env.frame=some X.env.locals)(hex:X.ex=[])(hx:Heap.MadeExcOf s.heap h1 x cls vs)
  (hQ:∀s'',Fly X.prog X.w X.outer X.H₀ X.s₀ x cls H s''→DictIs x none s''→Q () s''):wpAny (model X.prog X.w) X.A (leaving X.env (.ref x)) Q E { s with heap:=h1 }:=by
 obtain⟨t,he,_,_⟩:=hx.there
 have I1:Inv X pins σ H { s with heap:=h1 }:=I.kept hx.keeps
 refine Fly.first I1 hst hfr hex he rfl rfl rfl rfl ?_ ?_ hQ
 ·cases q:X.s₀.heap.get? x with
  |none=>rfl
  |some o =>
   obtain⟨u,hu⟩:=I.base.there x o q (by rw [hex];simp)
   have:=hx.new
   rw [hu] at this
   cases this
 ·cases q:H x with
  |none=>rfl
  |some o =>
   obtain⟨u,hu⟩:=(I.hok x o q).there
   have:=hx.new
   rw [hu] at this
   cases this
end
section
variable{P:Program}{w:World}{K:PySem.W.Frag}{mg:Str→Option Value}{base:Heap}{N:List Str}{qual:Str}{scope:Scope}{f:Addr}{cd:Value}{A:Around}{outer:List Env}{s:Shared}{H:Hp}{E:XK}
theorem pass1:Passes (CX1 P w) (cxOf (CX1 P w) P w K mg base N qual scope f cd A outer s H E) E:=fun pins σ H1 s1 e s' I h=>by
 obtain⟨x,cls,d,H',rfl,fl,hd,hE⟩:=h
 exact Fly.leave I rfl rfl rfl fl hd fun s'' g gd=>⟨x,cls,d,H',rfl,g,gd,hE⟩
end
theorem ownExc_of{K:PySem.W.Frag}{h:Heap}{mg:Str→Option Value}{c:Str}{C:Addr}{bmB:List Value}{newId:String}(kin:K.In h)(hm:mg c=some (.ref C))(q:PySem.W.excIn K C bmB newId=true):OwnCls c C bmB newId mg h:=by
 refine⟨hm,?_⟩
 unfold PySem.W.excIn at q
 split at q
 next ddx cdx slx look =>
  split at q
  next C2 tl z0 z1 z2 z3 nn z5 hmro hsl =>
   simp only [Bool.not_eq_true',Bool.and_eq_true,beq_iff_eq] at q
   obtain⟨⟨⟨⟨⟨e1,e2⟩,hdel⟩,htl⟩,hok⟩,hni⟩:=q
   obtain⟨nm,bs,mro,ns,qn,hd,sn,sub,ab,col,del⟩:=cdx
   obtain⟨sll⟩:=slx
   dsimp only at hmro hdel hok hni hsl
   subst e1 e2 hmro hdel hsl
   exact⟨tl,ns,nm,qn,bs,hd,sn,sub,ab,col,ddx,z0,z1,z2,z3,z5,_,kin _ _ look,.of_isNs (PySem.W.isNs_of_in kin hok),PySem.W.nsMap_none_of_in kin hok hni,PySem.W.tail_of_in kin htl⟩
  next=>cases q
 next=>cases q
abbrev bmVE:List Value:=[.type "ValueError",.type "Exception",.type "BaseException",.type "object"]
theorem ps_raise{X:Cx}{c:Str}{C:Addr}{e₀:Expr}{es:List Expr}{np cpos pos:Pos}{ta:TA}{W:St→Hp→Prop}(hc:X.calm=true)(hg:Gl X c)(hm:X.mg c=some (.ref C)) (q:PySem.W.excIn X.K C bmVE "ValueError.__new__"=true)
  (ha:PA X (e₀::es) ta) (hW:∀(pins:List (Addr × Obj)) (σ:St) (H:Hp) (s:Shared) (e:Addr) (h1:Heap) (vs:List Value),Inv X pins σ H s→W σ H→Heap.MadeExcOf s.heap h1 e (.ref C) vs→X.xe (.ref e) { s with heap:=h1 })
  (hd:(c==("__debug__":Str))=false:=by decide) (he:starEach (e₀::es) X.env=(false,eval e₀ X.env)::starEach es X.env:=by rfl) (hpl:(backTo cpos (starEach es X.env)).any (·.1)=false:=by rfl) :
  PS X (.Raise (some (.Call (.Name c np) (e₀::es) [] cpos)) none pos) (fun _ σ H=>ta σ H fun vs H1=>vs.length≤sizeLine∧W σ H1):=by
 intro pins s σ H D I h
 obtain⟨tl,N,nm,qq,bs,hdct,sn,sub,ab,col,dd,k0,k1,k2,k3,k5,mN,hC,hN,hni,T⟩:=(ownExc_of I.mod.kin hm q).obj
 refine wpAny_Raise_call_subU (C:=C) (nm:=nm) (q:=qq) (N:=N) (bs:=bs) (bm:=tl) (hdct:=hdct) (sn:=sn) (sub:=sub) (ab:=ab) (col:=col) (dd:=dd) (k0:=k0) (k1:=k1) (k2:=k2) (k3:=k3) (k5:=k5)
  PySem.F.excBase_ValueError (by decide +kernel) PySem.F.excBase_ValueError (mN:=mN) (T.hasType PySem.F.excBase_ValueError.hasBase) (I.ok.hd hc) ?_ hni (ld_glob I hg hm ⟨rfl,?_⟩ hd)
 ·rw [he]
  show(false||(backTo cpos (starEach es X.env)).any (·.1))=false
  rw [hpl]
  rfl
 ·have h2:=ha cpos pins s σ H _ I h
  rw [he] at h2 ⊢
  refine Calls.evalArgs_plain (wpAny_mono h2 (fun us s2 ⟨vs,H1,I1,rv,hl,hw⟩=>⟨rfl,?_,I1.bk _ _ hC,hN.keeps I1.bk,T.keeps I1.bk,fun h' e hx=>hW pins σ H1 s2 e h' us I1 hw hx⟩) fun _ _ z=>z)
  rw [←rv.length]
  exact hl
section
variable{P:Program}{w:World}{K:PySem.W.Frag}{mg:Str→Option Value}{base:Heap}
theorem ps_raise1{N:List Str}{qual:Str}{scope:Scope}{f:Addr}{cd:Value}{A:Around}{outer:List Env}{s:Shared}{H:Hp}{E:XK}{c:Str}{C:Addr}{e₀:Expr}{es:List Expr}{np cpos pos:Pos}{ta:TA}
  (hg:Gl (cxOf (CX1 P w) P w K mg base N qual scope f cd A outer s H E) c) (hm:mg c=some (.ref C)) (q:PySem.W.excIn K C bmVE "ValueError.__new__"=true) (ha:PA (cxOf (CX1 P w) P w K mg base N qual scope f cd A outer s H E) (e₀::es) ta)
  (hd:(c==("__debug__":Str))=false:=by decide) (he:starEach (e₀::es) (envOfC qual scope s.heap.objs.size f cd)=(false,eval e₀ (envOfC qual scope s.heap.objs.size f cd))::starEach es (envOfC qual scope s.heap.objs.size f cd):=by rfl)
  (hpl:(backTo cpos (starEach es (envOfC qual scope s.heap.objs.size f cd))).any (·.1)=false:=by rfl) :
  PS (cxOf (CX1 P w) P w K mg base N qual scope f cd A outer s H E) (.Raise (some (.Call (.Name c np) (e₀::es) [] cpos)) none pos) (fun _ σ H=>ta σ H fun vs H1=>vs.length≤sizeLine∧E (.ref C) none H1) :=
 ps_raise (X:=cxOf (CX1 P w) P w K mg base N qual scope f cd A outer s H E) (W:=fun _ H1=>E (.ref C) none H1) rfl hg hm q ha (fun pins σ H s e h1 vs I hw hx=>Fly.made I rfl rfl rfl hx fun s'' g gd=>⟨e,.ref C,none,H,rfl,g,gd,hw⟩) hd he hpl
theorem Fun.okX{x qual:Str}{st:Stmt}{f:Addr}{fd:FuncData}{N ps:List Str}{k:Nat}{sp:Sp}(F:Fun K x qual st f fd)(S:FnScope N ps (defScope st))(len:∀vs H Q E,sp vs H Q E→vs.length=ps.length)
  (hbody:∀(cdv:Value) (A:Around) (outer:List Env) (s:Shared) (H:Hp) (vs:List V) (Q:VK) (E:XK),Room k (A.deeper (envOfC qual (defScope st) s.heap.objs.size f cdv))→sp vs H Q E →
   ∃t,PSs (cxOf (CX1 P w) P w K mg base N qual (defScope st) f cdv A outer s H E) (defBody st) t∧t { nx:=fun _ H'=>Q .non H',rt:=Q } (start N vs) H):FnOk P w K mg base (CX1 P w) (k+1) f fd ps sp:=by
 obtain⟨oc,od,kV,doc,pm,an,cdv,ct,osl,rfl,lk,hcd⟩:=F.ex
 exact fn_of lk hcd S len fun A outer s H vs Q E hr hsp=>hbody cdv A outer s H vs Q E hr hsp
end
end L2
namespace L2
open PySem PySem.Spec PyProof.Rows
section
variable{X:Cx}{pins:List (Addr × Obj)}{σ:St}{H H':Hp}{s s':Shared}{x:Addr}{cls:Value}
theorem Fly.on{h':Heap}(f:Fly X.prog X.w X.stack H s x cls H' s')(I:Inv X pins σ H s){B:Heap}{a0 a1:Value}(fl:Heap.FlyingW B X.stack x cls a0 s'.heap)(c1:∀b o,H' b=some o→∃u,B.get? b=some u)
  (c2:∀b o,s.heap.get? b=some o→b∉frs X.stack→∃u,B.get? b=some u) (fl':Heap.FlyingW B X.stack x cls a1 h') (up:s'.heap.UpToSlots h'):Fly X.prog X.w X.stack H s x cls H' { s' with heap:=h' }:=by
 have st:∀b o,B.get? b=some o→h'.get? b=some o:=fl'.1
 have same:∀b u v,B.get? b=some u→s'.heap.get? b=some v→u=v:=fun b u v h1 h2=>by
  have h3:=fl.1 b u h1
  rw [h2] at h3
  exact(Option.some.inj h3).symm
 have slot:∀b o,s.heap.get? b=some o→H b=none→b∈frs X.stack→∃sl,h'.get? b=some { o with slots:=sl }:=fun b o e n hb=>by
  obtain⟨sl2,e2⟩:=f.un.any e n (by simp)
  obtain⟨_,of,ho,hnf⟩:=I.stack.mem hb
  rw [e] at ho
  cases ho
  obtain⟨sl3,e3⟩:=up b _ e2 hnf
  exact⟨sl3,e3⟩
 refine⟨f.os,f.bare,⟨fun b o e n hb _=>?_,fun b o e n hb _=>slot b o e n hb,f.un.free,fun b o e _=>?_,f.un.tups,f.un.frzs,f.un.tbls⟩,fun a o e=>?_,⟨B,a1,fl',c1,c2⟩,f.free⟩
 ·have e2:=f.un.keep b o e n hb (by simp)
  obtain⟨u,hu⟩:=c2 b o e hb
  exact same b u o hu e2▸st b u hu
 ·by_cases hb:b∈frs X.stack
  ·obtain⟨sl,e1⟩:=slot b o e (I.stkFree b hb) hb
   exact⟨_,e1⟩
  ·obtain⟨u,hu⟩:=c2 b o e hb
   exact⟨u,st b u hu⟩
 ·refine(f.hok a o e).stay (fun b u hb q=>?_) (fun _ q=>q) fun _ _ q=>q
  have t:∃o',H' b=some o':=by
   rcases hb with z|z
   ·exact⟨o,by rw [z];exact e⟩
   ·exact⟨_,z⟩
  obtain⟨o',e'⟩:=t
  obtain⟨v,hv⟩:=c1 b o' e'
  exact same b v u hv q▸st b v hv
theorem Fly.inv(f:Fly X.prog X.w X.stack H s x cls H' s')(I:Inv X pins σ H s):Inv X pins σ H' s':=I.call' (ch:=[]) f.os f.un f.hok f.bare fun b z=>absurd z (by simp)
theorem Fly.there(f:Fly X.prog X.w X.stack H s x cls H' s'):∃ob,s'.heap.get? x=some ob∧ob.cls=cls:=by
 obtain⟨B,a0,fl,_⟩:=f.fl
 exact fl.there
theorem Fly.again{A:Around}{E:Value→Shared→Prop}{Q:Unit→Shared→Prop}(f:Fly X.prog X.w X.stack H s x cls H' s')(I:Inv X pins σ H s){d:Option Addr}(hdi:DictIs x d s')(hQ:∀s'',Fly X.prog X.w X.stack H s x cls H' s''→DictIs x d s''→Q () s'') :
  wpAny (model X.prog X.w) A (setFlight (.ref x) none) Q E s':=by
 refine wpAny_mono (Keeps.flight.wpAny (E:=E) (Q:=fun _ s''=>Fly X.prog X.w X.stack H s x cls H' s'') hdi ?_) (fun _ s'' z=>hQ s'' z.1 z.2) fun _ _ z=>z.1
 obtain⟨B,a0,fl,c1,c2⟩:=f.fl
 exact lands_againW fl fun h' fl' up=>f.on I fl c1 c2 fl' up
theorem Fly.look{E E2:Value→Shared→Prop}{Q:Unit→Shared→Prop}(f:Fly X.prog X.w X.stack H s x cls H' s')(I:Inv X pins σ H s)(hst:X.stack=X.env::X.outer)(hfr:X.env.frame=some X.env.locals){d:Option Addr}(hdi:DictIs x d s')
  (hQ:∀s'',Fly X.prog X.w X.stack H s x cls H' s''→DictIs x d s''→Q () s''):wpAny (model X.prog X.w) X.A (noteFrame (.ref x) X.env) (fun _ s2=>wpAny (model X.prog X.w) X.A (setFlight (.ref x) none) Q E2 s2) E s':=by
 obtain⟨B,a0,fl,c1,c2⟩:=f.fl
 have fl0:=fl
 rw [hst] at fl
 refine wpAny_mono (Keeps.note.wpAny (E:=E) (Q:=fun _ s2=>wpAny (model X.prog X.w) X.A (setFlight (.ref x) none) (fun _ s''=>Fly X.prog X.w X.stack H s x cls H' s'') E2 s2) hdi ?_) (fun _ s2 z=>?_) fun _ _ z=>z.1
 ·refine wpAny_looks_onW (by rw [I.ok.frames,hst]) hfr fl fun h' hd up=>?_
  refine wpAny_landsW hd fun h2 fl2 up2=>?_
  rw [←hst] at fl2
  exact f.on I fl0 c1 c2 fl2 (up.trans up2)
 ·exact wpAny_mono (Keeps.flight.wpAny z.2 z.1) (fun _ s'' y=>hQ s'' y.1 y.2) fun _ _ y=>y.1
end
abbrev Cx.inE(X:Cx)(e:Addr):Cx:={ X with A:=X.A.mark (some (.ref e)),calm:=false }
section
variable{X:Cx}{pins:List (Addr × Obj)}{σ:St}{H:Hp}{s:Shared}
theorem Cx.Ok.inE{e:Addr}(ok:X.Ok):(X.inE e).Ok:=⟨ok.mod,ok.kind,ok.glob,ok.blt,ok.above,ok.inj,ok.has,ok.cab,fun z=>absurd z (by simp),ok.frames,ok.stk,ok.exf,ok.bs,ok.bsz,ok.noex,ok.exfs,ok.funs,ok.frf⟩
theorem Inv.inE{e:Addr}(I:Inv X pins σ H s):Inv (X.inE e) pins σ H s:=⟨I.ok.inE,I.os,I.bare,I.base,I.loc,I.cell,I.free,I.freeC,I.pin,I.hok,I.len⟩
theorem Inv.outE{e:Addr}{E:Value→Shared→Prop}(ok:X.Ok)(I:Inv ((X.inE e).wish E) pins σ H s):Inv X pins σ H s:=⟨ok,I.os,I.bare,I.base,I.loc,I.cell,I.free,I.freeC,I.pin,I.hok,I.len⟩
theorem SP.outE{e:Addr}{E:Value→Shared→Prop}{D:Ends}{f:Flow}{s':Shared}(ok:X.Ok)(h:SP ((X.inE e).wish E) pins D f s'):SP X pins D f s':=by
 cases f with
 |next=>obtain⟨σ',H',I,q⟩:=h;exact⟨σ',H',I.outE ok,q⟩
 |brk=>obtain⟨σ',H',I,q⟩:=h;exact⟨σ',H',I.outE ok,q⟩
 |cont=>obtain⟨σ',H',I,q⟩:=h;exact⟨σ',H',I.outE ok,q⟩
 |ret u=>obtain⟨v,σ',H',I,r,q⟩:=h;exact⟨v,σ',H',I.outE ok,r,q⟩
end
abbrev TH:=Ends→Value→Option Addr→Addr→St→Hp→Prop
def PH(X:Cx)(hs:List ExceptHandler)(t:TH):Prop :=
 ∀(pins:List (Addr × Obj)) (σ:St) (H H':Hp) (s s':Shared) (D:Ends) (cls:Value) (d:Option Addr) (e:Addr),Inv X pins σ H s→Fly X.prog X.w X.stack H s e cls H' s'→DictIs e d s'→t D cls d e σ H' →
  wpAny (model X.prog X.w) X.A (handleBy (.ref e) X.env hs) (SP X pins D) X.xe s'
theorem ph_nil{X:Cx}:PH X [] (fun _ _ _ _ _ _=>False):=fun _ _ _ _ _ _ _ _ _ _ _ _ _ h=>h.elim
theorem ph_cons{X:Cx}{d:Str}{vd:Value}{np pos:Pos}{b₀:Stmt}{suite:List Stmt}{rest:List ExceptHandler}{th:TS}{tr:TH}(hg:Gl X d)(hm:X.mg d=some vd)(hb:∀e,PSs (X.inE e).nox (b₀::suite) th)(hr:PH X rest tr)
  (hd:(d==("__debug__":Str))=false:=by decide) :
  PH X (.ExceptHandler (some (.Name d np)) none (b₀::suite) pos::rest) (fun D cls dd e σ H=>∃b,PySem.W.exmOne X.K cls vd=some b∧if b=true then th D σ H else tr D cls dd e σ H):=by
 intro pins σ H H' s s' D cls dd e I f hdi h
 obtain⟨b,hx,h⟩:=h
 have I1:=f.inv I
 obtain⟨ob,hob,hcl⟩:=f.there
 have LT:PySem.W.Looks (model X.prog X.w) s'.heap (typeOf (.ref e)) cls:=by
  rw [←hcl]
  exact(PySem.W.Looks.ld hob).andThen .now
 refine wpAny_handleBy_cons (codeAny_handlers_test (Calls.Name_function_global I1.ok.kind hg (Calls.loadGlobal_global (by rw [I1.ok.glob];exact I1.mod.glob.keeps I1.bk) hm ?_) hd)) (by intro q;cases q)
 refine(PySem.W.exm_one I1.kIn LT hx).here ?_
 cases b with
 |false=>exact hr pins σ H H' s s' D cls dd e I f hdi h
 |true =>
  refine codeAny_handlers_suite (f.again I hdi fun s2 f2 _=>?_)
  have I2:=(f2.inv I).inE (e:=e)
  exact wpAny_mono (hb e pins s2 σ H' D (I2.wish _) h) (fun fl s3 q=>SP.outE I1.ok q) fun _ _ z=>False.elim z
def etry(X:Cx)(hs:List ExceptHandler)(pins:List (Addr × Obj))(D:Ends):Value→Shared→Prop:=fun e s1 =>
 wpAny (model X.prog X.w) X.A (noteFrame e X.env) (fun _ s2=>wpAny (model X.prog X.w) X.A (setFlight e none) (fun _ s3=>wpAny (model X.prog X.w) X.A (handleBy e X.env hs) (SP X pins D) X.xe s3) X.xe s2) X.xe s1
abbrev Cx.tryIn(X:Cx)(hs:List ExceptHandler)(pins:List (Addr × Obj))(D:Ends):Cx:={ X with pn:=X.pn++pins,xe:=etry X hs pins D }
section
variable{X:Cx}{hs:List ExceptHandler}{pins pins':List (Addr × Obj)}{D D':Ends}{σ:St}{H:Hp}{s:Shared}
theorem Cx.Ok.tryIn(ok:X.Ok):(X.tryIn hs pins D).Ok:=⟨ok.mod,ok.kind,ok.glob,ok.blt,ok.above,ok.inj,ok.has,ok.cab,ok.hd,ok.frames,ok.stk,ok.exf,ok.bs,ok.bsz,ok.noex,ok.exfs,ok.funs,ok.frf⟩
theorem Cx.Ok.tryOut(ok:(X.tryIn hs pins D).Ok):X.Ok:=⟨ok.mod,ok.kind,ok.glob,ok.blt,ok.above,ok.inj,ok.has,ok.cab,ok.hd,ok.frames,ok.stk,ok.exf,ok.bs,ok.bsz,ok.noex,ok.exfs,ok.funs,ok.frf⟩
theorem Inv.tryIn(I:Inv X pins σ H s):Inv (X.tryIn hs pins D) [] σ H s:=⟨I.ok.tryIn,I.os,I.bare,I.base,I.loc,I.cell,I.free,I.freeC,fun p hp=>I.pin p (by simpa using hp),I.hok,I.len⟩
theorem Inv.tryOut(I:Inv (X.tryIn hs pins D) pins' σ H s):Inv X pins σ H s:=⟨I.ok.tryOut,I.os,I.bare,I.base,I.loc,I.cell,I.free,I.freeC,fun p hp=>I.pin p (List.mem_append_left _ hp),I.hok,I.len⟩
theorem SP.tryOut{f:Flow}{s':Shared}(h:SP (X.tryIn hs pins D') [] D f s'):SP X pins D f s':=by
 cases f with
 |next=>obtain⟨σ',H',I,q⟩:=h;exact⟨σ',H',I.tryOut,q⟩
 |brk=>obtain⟨σ',H',I,q⟩:=h;exact⟨σ',H',I.tryOut,q⟩
 |cont=>obtain⟨σ',H',I,q⟩:=h;exact⟨σ',H',I.tryOut,q⟩
 |ret u=>obtain⟨v,σ',H',I,r,q⟩:=h;exact⟨v,σ',H',I.tryOut,r,q⟩
end
theorem ps_try{X:Cx}{body:List Stmt}{h₀:ExceptHandler}{hs:List ExceptHandler}{pos:Pos}{tb:Ends→TS}(hb:∀pins D,PSs (X.tryIn (h₀::hs) pins D) body (tb D)):PS X (.Try body (h₀::hs) [] [] pos) (fun D σ H=>tb D D σ H):=by
 intro pins s σ H D I h
 refine wpAny_Try_except (wpAny_mono (hb pins D [] s σ H D I.tryIn h) (fun f s1 q=>?_) fun _ _ z=>z)
 have q':=SP.tryOut q
 cases f with
 |next=>exact wpAny_execs_nil q'
 |brk=>exact q'
 |cont=>exact q'
 |ret u=>exact q'
theorem passT{X:Cx}{hs:List ExceptHandler}{pins:List (Addr × Obj)}{D:Ends}{th:TH}(hst:X.stack=X.env::X.outer)(hfr:X.env.frame=some X.env.locals)(hh:PH X hs th) :
  ∀(pins':List (Addr × Obj)) (σ:St) (H:Hp) (s:Shared) (e:Value) (s':Shared),Inv (X.tryIn hs pins D) pins' σ H s→CX1 X.prog X.w X.stack H s (fun cls d H'=>∀x,H' x=none→th D cls d x σ H') e s'→(X.tryIn hs pins D).xe e s':=by
 intro pins' σ H s e s' I h
 obtain⟨x,cls,d,H',rfl,f,hdi,hE⟩:=h
 have I0:Inv X pins σ H s:=I.tryOut
 exact Fly.look f I0 hst hfr hdi fun s'' f2 d2=>hh pins σ H H' s s'' D cls d x I0 f2 d2 (hE x f.free)
section
variable{X:Cx}{CX:CXT}{k:Nat}{f C:Addr}{fd:FuncData}{ps:List Str}{sp:Sp}{dvs:List V}{ds:List Value}{E:St→XK}{x m:Str}{p pos apos:Pos}{e o:Expr}{es:List Expr}{ta:TE}{t:TA}
theorem pe_callE(F:FnOk X.prog X.w X.K X.mg X.base CX k f fd ps sp)(hr:Room k X.A)(hg:Gl X x)(hm:X.mg x=some (.ref f))(hk:PySem.W.keepIn X.K (.ref f)=true)(hb:Binds X.K fd ps ds)(hd:Vals dvs ds)
  (hx:∀(pins:List (Addr × Obj)) (σ:St) (H:Hp) (s:Shared) (e:Value) (s':Shared),Inv X pins σ H s→CX X.stack H s (E σ) e s'→X.xe e s') (ha:PA X (e::es) t)
  (hdb:(x==("__debug__":Str))=false:=by decide) (he:starEach (e::es) X.env=(false,eval e X.env)::starEach es X.env:=by rfl) (hpl:(backTo pos (starEach es X.env)).any (·.1)=false:=by rfl) :
  PE X (.Call (.Name x p) (e::es) [] pos) (fun σ H Q=>t σ H fun vs H1=>sp (vs++dvs) H1 Q (E σ)):=by
 intro pins s σ H Q I h
 refine wpAny_Call_Name_kw (ld_glob I hg hm ?_ hdb)
 refine PySem.W.callWith_K (h₀:=X.base) I.ok.mod.kin hk (thn (ha pos pins s σ H _ I h) fun us s1 ⟨vs,H1,I1,r,q⟩=>⟨I1.kIn,?_⟩) he hpl
 have r2:Vals (vs++dvs) (us++ds):=r.append hd
 have hl:(us++ds).length=ps.length:=by rw [←r2.length];exact F.len _ _ _ _ q
 refine wpAny_call (codeAny_mono (F.run X.A X.stack s1 H1 ⟨us,[]⟩ (us++ds) (vs++dvs) Q (E σ) hr I1.env0 (hb s1 us I1.kIn hl) r2 q) fun r s' hq=>?_)
 cases r with
 |error e=>exact hx pins σ H1 s1 e s' I1 hq
 |ok fl =>
  cases fl with
  |ret u=>exact I1.after hq
  |next=>exact False.elim hq
  |brk=>exact False.elim hq
  |cont=>exact False.elim hq
end
end L2
namespace L2
open PySem PySem.Spec PyProof.Rows
section
variable{X:Cx}{pos:Pos}{e:Expr}{es:List Expr}{te:TE}
abbrev TJ:=St→Hp→(Hp→Prop)→Prop
def PJ(X:Cx)(es:List Expr)(t:TJ):Prop :=
 ∀(pins:List (Addr × Obj)) (s:Shared) (σ:St) (H:Hp) (acc:Str) (Z:Hp→Prop),acc.length+2000000*es.length≤sizeLine→Inv X pins σ H s→t σ H Z →
  Joins (model X.prog X.w) X.A X.xe (evalEach es X.env) acc (fun out s1=>out.length≤sizeLine∧∃H1,Inv X pins σ H1 s1∧Z H1) s
theorem pj_nil:PJ X [] (fun _ H Z=>Z H):=fun _ _ _ H _ _ hz I h=>⟨Nat.le_trans (Nat.le_add_right _ _) hz,H,I,h⟩
theorem pj_cons{tj:TJ}(he:PE X e te)(hr:PJ X es tj):PJ X (e::es) (fun σ H Z=>te σ H fun v H1=>∃y:Str,v=.str y∧y.length≤2000000∧tj σ H1 Z):=by
 intro pins s σ H acc Z hz I h
 refine thn (he pins s σ H _ I h) fun u s1 ⟨v,H1,I1,r,y,hv,hy,q⟩=>?_
 subst hv
 obtain⟨t,rfl⟩:=r
 have e1:(acc++y).length=acc.length+y.length:=by
  show Array.size (acc.cps++y.cps)=_
  rw [Array.size_append]
  rfl
 have e2:(e::es).length=es.length+1:=rfl
 rw [e2] at hz
 refine⟨y,t,rfl,by omega,hr pins s1 σ H1 (acc++y) Z (by omega) I1 q⟩
theorem pe_fstr{v1 v2:Expr}{rest:List Expr}{tj:TJ}(hj:PJ X (v1::v2::rest) tj)(hl:(v1::v2::rest).length≤8) :
  PE X (.JoinedStr (v1::v2::rest) pos) (fun σ H Q=>tj σ H fun H1=>∀z:Str,z.length≤sizeLine→Q (.str z) H1):=by
 intro pins s σ H Q I h
 have hz:Str.empty.length+2000000*(v1::v2::rest).length≤sizeLine:=by
  have e0:Str.empty.length=0:=rfl
  rw [sizeLine_eq,e0]
  rw [Nat.zero_add]
  exact Nat.le_trans (Nat.mul_le_mul_left _ hl) (Nat.le_of_ble_eq_true rfl)
 refine wpAny_JoinedStr ?_
 have j:=hj pins s σ H Str.empty _ hz I h
 exact joins_mono _ _ (fun out s1 ⟨h1,H1,I1,q⟩=>⟨h1,.str out,H1,I1.tok _,⟨_,rfl⟩,q out h1⟩) _ j
where joins_mono {M:Model} {A:Around} {E:Value→Shared→Prop}:∀(parts:List (Sem Value)) (acc:Str) {Q Q':Str→Shared→Prop},(∀out s,Q out s→Q' out s)→∀s,Joins M A E parts acc Q s→Joins M A E parts acc Q' s
 |[],acc,_,_,hq,s,h=>hq _ _ h
 |x::rest,acc,_,_,hq,s,h=>thn (show wpAny _ _ _ _ _ _ from h) fun v s1 ⟨y,t,e1,e2,e3⟩=>⟨y,t,e1,e2,joins_mono rest (acc++y) hq s1 e3⟩
theorem pe_fv(he:PE X e te):PE X (.FormattedValue e (-1) none pos) (fun σ H Q=>te σ H fun v H1=>(∃y:Str,v=.str y∧y.length≤sizeLine∧Q (.str y) H1)∨∃i:Int,v=.int i∧i.natAbs.log2 < 1920∧Q (.str (toString i)) H1):=by
 intro pins s σ H Q I h
 refine FormattedValue_plain (thn (he pins s σ H _ I h) fun u s1 ⟨v,H1,I1,r,q⟩=>?_)
 rcases q with ⟨y,rfl,hy,q⟩|⟨i,rfl,hi,q⟩
 ·obtain⟨t,rfl⟩:=r
  exact formatField_str (fun t' tk=>⟨.str y,H1,I1.tok _,⟨_,rfl⟩,q⟩) hy
 ·obtain⟨t,rfl⟩:=r
  exact formatField_int_small hi ⟨.str _,H1,I1.tok _,⟨_,rfl⟩,q⟩
theorem pe_fr(he:PE X e te):PE X (.FormattedValue e 114 none pos) (fun σ H Q=>te σ H fun v H1=>∃y:Str,v=.str y∧PyData.strOk y=true∧y.length≤9000∧∀z:Str,z.length≤100000→Q (.str z) H1):=by
 intro pins s σ H Q I h
 refine wpAny_FormattedValue_repr (thn (he pins s σ H _ I h) fun u s1 ⟨v,H1,I1,r,y,hv,hok,hy,q⟩=>?_)
 subst hv
 obtain⟨t,rfl⟩:=r
 have hl:=StrLaws.reprText_len y fun c hc=>by
  have h1:y.cps.all (· < 0x110000)=true:=hok
  rw [Array.all_eq_true_iff_forall_mem] at h1
  have h2:=h1 c (by simpa using hc)
  have h3:c < 0x110000:=by simpa using h2
  exact Nat.lt_trans h3 (by decide)
 have hz:(reprText y).length≤sizeLine:=Nat.le_trans hl (by rw [sizeLine_eq];omega)
 refine wpAny_pyReprObj_str ?_ hz
 exact formatField_str (fun t' tk=>⟨.str _,H1,(I1.tok _).tok _,⟨_,rfl⟩,q _ (by omega)⟩) hz
end
end L2
namespace L2
open PySem PySem.Spec PyProof.Rows
section
variable{prog:Program}{w:World}{A:Around}{s:Shared}{E:Value→Shared→Prop}{K:Type}[DecidableEq K]{knd:KeyKind prog w K}
end
section
variable{X:Cx}
theorem call_dict_dK:CallR X (.type "dict") (fun xs H Q=>∃a kvs,xs=[.ref a]∧H a=some (.dK kvs)∧∀l,H l=none→Q (.ref l) (upd H l (.dK kvs))):=by
 intro pins s σ H xs us Q I r h
 obtain⟨a,kvs,rfl,ha,q⟩:=h
 obtain⟨u,rfl,ru⟩:=vals1 r
 cases ru
 obtain⟨z,hd,vs,rel,dd⟩:=dk_of I.hok ha
 refine PySem.kt_call_dict hd dd (by rw [←rel.length];exact z) fun h' dd' hs=>?_
 have keep:∀b o,s.heap.get? b=some o→h'.get? b=some o:=fun b o e=>(hs.2 b (Nat.ne_of_lt (Heap.lt_size e))).trans (Heap.get?_push_of_some _ e)
 refine⟨.ref s.heap.objs.size,_,I.laid (o:=.dK kvs) (t':=s.toks) keep (Nat.le_refl _) ⟨z,beq_eq_false_iff_ne.mpr (Ne.symm (Nat.ne_of_lt I.big)),vs,rel,dd'⟩,rfl,q _ (I.hok.fresh (Nat.le_refl _))⟩
end
end L2
namespace L2
open PySem PySem.Spec PyProof.Rows
structure ExcCls(K:PySem.W.Frag)(D:Addr):Prop where
 is:(match K.lookup D with|some ⟨_,_,.cls _,_⟩=>true|_=>false)=true
 ga:PySem.W.findIn K (.ref D) "__getattribute__"=some (some (.builtin "BaseException.__getattribute__"))
 gh:PySem.W.findIn K (.ref D) "__getattr__"=some none
 cl:PySem.W.findIn K (.ref D) "__class__"=some (some (.builtin "object.__class__"))
 sp:PySem.W.specialIn K (.builtin "object.__class__") "__get__"=some (some (.builtin "getset_descriptor.__get__"))
 tk:PySem.W.takesIn K (.builtin "object.__class__")=some true
 ob:PySem.W.mroIn K D (.type "object")=some true
 be:PySem.W.mroIn K D (.type "BaseException")=some true
section
variable{prog:Program}{w:World}{A:Around}{E:Value→Shared→Prop}{s:Shared}{K:PySem.W.Frag}{x D:Addr}
end
section
variable{X:Cx}
end
section
variable{X:Cx}{pins:List (Addr × Obj)}{σ:St}{H H':Hp}{s s':Shared}{x:Addr}{cls:Value}
def Ends.gone(D:Ends)(i:Nat):Ends:={ nx:=fun σ H=>D.nx (σ.set i none) H,rt:=D.rt,bk:=fun σ H=>D.bk (σ.set i none) H,ct:=fun σ H=>D.ct (σ.set i none) H }
end
end L2
namespace L2
open PySem PySem.Spec PyProof.Rows
structure FunD(K:PySem.W.Frag)(x qual:Str)(st:Stmt)(dV:Value)(f:Addr)(fd:FuncData):Prop where
 ex:∃(oc:Value) (od:Option Addr) (kV doc pm:Value) (an:Option Addr) (cdv ct:Value) (osl:Array (Option Value)),
  fd=PySem.W.fnOf x qual (defArgs st) (defBody st) (defScope st) dV kV doc pm an cdv ct∧K.lookup f=some ⟨oc,od,.func fd,osl⟩∧PySem.W.codeIn K cdv qual=true
 kp:PySem.W.keepIn K (.ref f)=true
section
variable{P:Program}{w:World}{K:PySem.W.Frag}{mg:Str→Option Value}{base:Heap}
theorem FunD.okX{x qual:Str}{st:Stmt}{dV:Value}{f:Addr}{fd:FuncData}{N ps:List Str}{k:Nat}{sp:Sp}(F:FunD K x qual st dV f fd)(S:FnScope N ps (defScope st))(len:∀vs H Q E,sp vs H Q E→vs.length=ps.length)
  (hbody:∀(cdv:Value) (A:Around) (outer:List Env) (s:Shared) (H:Hp) (vs:List V) (Q:VK) (E:XK),Room k (A.deeper (envOfC qual (defScope st) s.heap.objs.size f cdv))→sp vs H Q E →
   ∃t,PSs (cxOf (CX1 P w) P w K mg base N qual (defScope st) f cdv A outer s H E) (defBody st) t∧t { nx:=fun _ H'=>Q .non H',rt:=Q } (start N vs) H):FnOk P w K mg base (CX1 P w) (k+1) f fd ps sp:=by
 obtain⟨oc,od,kV,doc,pm,an,cdv,ct,osl,rfl,lk,hcd⟩:=F.ex
 exact fn_of lk hcd S len fun A outer s H vs Q E hr hsp=>hbody cdv A outer s H vs Q E hr hsp
theorem FunD.binds{x qual:Str}{st:Stmt}{T:Addr}{f:Addr}{fd:FuncData}{ps:List Str}{oT:Value}{dT:Option Addr}{its:Array Value}{nT:Nat}{sT:Array (Option Value)}{ds:List Value}(F:FunD K x qual st (.ref T) f fd)(lT:K.lookup T=some ⟨oT,dT,.seq its nT,sT⟩)
  (h:∀(kV doc pm:Value) (an:Option Addr) (cdv ct:Value) (us:List Value),(us++ds).length=ps.length→∃k:Option (Array Value)→Sem (List (Str × Value)),
   bindArgs (PySem.W.fnOf x qual (defArgs st) (defBody st) (defScope st) (.ref T) kV doc pm an cdv ct) ⟨us,[]⟩=seqItems? (.ref T) >>= k∧k (some its)=pure (ps.zip (us++ds))):Binds K fd ps ds:=by
 obtain⟨oc,od,kV,doc,pm,an,cdv,ct,osl,rfl,lk,hcd⟩:=F.ex
 intro s us kin hl
 obtain⟨k,h1,h2⟩:=h kV doc pm an cdv ct us hl
 exact BindsTo.of_defaults rfl (kin _ _ lT) rfl h1 h2
end
end L2
namespace L2
open PySem PySem.Spec PyProof.Rows
section
variable{X:Cx}
theorem ps_compG{i0:Nat}{y0:Str}{py0 spos:Pos}{tg elt iter:Expr}{ifs:List Expr}{own caps:List Str}{κ:List Nat}{sc:Scope}{cl:List (Str × Addr)}{pos:Pos}{wi:TI}{g:TG}{tc:TT}{te:TE}(hN:X.N.Nodup)(hi0:X.N[i0]?=some y0)(hy0:Loc X.env.scope y0)(hcalm:X.calm=true)(S:BlkSc X caps sc cl)(hκ:κ.map (fun k=>X.N[k]?)=caps.map some)
  (hi:PI X tg iter wi) (hg:∀s₀ H₀ C ex,PG (blk X (own++caps) sc cl s₀ H₀ C ex) tg g)
  (hc:∀s₀ H₀ C ex (pins:List (Addr × Obj)) (s:Shared) (σ:St) (H:Hp) (Q:Bool→Hp→Prop),Inv (blk X (own++caps) sc cl s₀ H₀ C ex) pins σ H s→tc σ H Q →
   wpAny (model X.prog X.w) X.A (forIn ifs true fun c r=>if r=true then do let ok ←isTrue c (compEnvC sc cl C X.env) (eval c (compEnvC sc cl C X.env));pure (ForInStep.yield ok) else pure (ForInStep.yield r)) (TP (blk X (own++caps) sc cl s₀ H₀ C ex) pins σ Q) (fun _ _=>False) s)
  (he:∀s₀ H₀ C ex,PE (blk X (own++caps) sc cl s₀ H₀ C ex) elt te)
  (hs:∀x,foldedSetIterable iter X.env x=pure x:=by intro _;rfl) (hsw:swapsWith (.ListComp elt [⟨tg,iter,ifs,0⟩] sc pos) (some (.Name y0 py0)) spos.line X.env=pure true:=by rfl)
  (hf0:X.fn y0=true∨X.env.scope.names.lookup y0=some .local:=by first|exact .inl rfl|exact .inr rfl|assumption) :
  PS X (.Assign [.Name y0 py0] (.ListComp elt [⟨tg,iter,ifs,0⟩] sc pos) spos) (tAsg (tComp own.length κ wi g tc te) (gName i0)):=by
 intro pins s σ H D0 I h
 rw [exec_Assign_Name_used _ _ _ _ hsw]
 refine wpAny_bind (wpAny_standAt (wpAny_bind ?_))
 show wpAny _ X.A (do let _ ←comprehension (.ListComp elt [⟨tg,iter,ifs,0⟩] sc pos) sc X.env _ (newList []) false (eval iter X.env) (some (assign (.Name y0 py0) X.env))) _ _ s
 refine wpAny_bind (wpAny_mono (wpAny_comprehension_free (use:=some (assign (.Name y0 py0) X.env)) (Q:=fun _ s'=>SP X pins D0 .next s') rfl hs S.clos S.kind S.names (thn (hi pins s σ H _ I h) fun v s1 h1=>thn h1 fun itv s2 h2=>?_))
  (fun _ s' hq=>wpAny_pure (wpAny_pure hq)) fun _ _ e=>e)
 obtain⟨it,fp,tn,J,H2,e,I2,T,st2,f2,W,⟨m0,w0⟩,turn⟩:=h2
 subst e
 have hfp:∀b∈fp,b < s2.heap.objs.size:=fun b hb=>by
  obtain⟨o,e,_⟩:=T.obj _ _ st2 b hb
  exact Heap.lt_size e
 refine wpAny_newObj_type (wpAny_newFunctionEnv S.nocell (fun y hy=>nomatch hy) (fun h₁ hns hsb=>?_) S.kind)
 generalize ehp:s2.heap.push { cls:=.type "list",dict:=none,data:=.seq ([]:List Value).toArray }=hp at hns hsb ⊢
 have hsz:hp.objs.size=s2.heap.objs.size+1:=by rw [←ehp,Heap.size_push]
 have hDC:s2.heap.objs.size≠hp.objs.size:=by rw [hsz];exact Nat.ne_of_lt (Nat.lt_succ_self _)
 have old:∀b o,hp.get? b=some o→h₁.get? b=some o:=fun b o e=>(hsb.2 b (Nat.ne_of_lt (Heap.lt_size e))).trans (Heap.get?_push_of_some _ e)
 have eD:h₁.get? s2.heap.objs.size=some { cls:=.type "list",data:=.seq ([]:List Value).toArray }:=old _ _ (by rw [←ehp];exact Heap.get?_push_size _ rfl)
 have I0:=Inv.block (own:=own) (h₁:=h₁) (tk:=s2.toks+([]:List (Str × Value)).length) S hκ I2 f2 hfp ehp.symm hns old
 have stkD:s2.heap.objs.size∉frs X.stack:=fun z=>(List.mem_cons.mp (I2.stkSub _ z)).elim (Nat.ne_of_gt I2.lt) (I2.nofs (Nat.le_refl _))
 have cellD:∀x c,cl.lookup x=some c→c≠s2.heap.objs.size:=fun x c q=>by
  obtain⟨v,z⟩:=I2.cell x c (S.subc q)
  exact Nat.ne_of_lt z.lt
 have pinD:∀p∈X.pn++pins,p.1≠s2.heap.objs.size:=fun p hp=>Nat.ne_of_lt (Heap.lt_size (I2.pin p hp).1)
 have stkF:∀b∈fp,b∉frs X.stack:=fun b hb z=>(List.mem_cons.mp (I2.stkSub _ z)).elim (f2 b hb).2.1 (f2 b hb).2.2.1
 have loop:codeAny (model X.prog X.w) X.A (.compLoop (.ListComp elt [⟨tg,iter,ifs,0⟩] sc pos) 0 (.ref it) (.ref s2.heap.objs.size) (compEnvC sc cl hp.objs.size X.env))
   (compPost (model X.prog X.w) X.A X.xe (some (assign (.Name y0 py0) X.env)) (fun _ s'=>SP X pins D0 .next s') (.ref s2.heap.objs.size) hp.objs.size) { s2 with heap:=h₁,toks:=s2.toks+([]:List (Str × Value)).length }:=by
  refine codeAny_loop rfl (fun n s'=>∃(i:Nat) (ys:List V) (its:List Value) (cap:Nat) (H':Hp),Inv (blk X (own++caps) sc cl { s2 with heap:=hp } H2 hp.objs.size (s2.heap.objs.size::fp)) pins (blkSt own.length κ σ) H' s'∧tn i s'.heap∧(∀b∈fp,H' b=none) ∧
   s'.heap.get? s2.heap.objs.size=some { cls:=.type "list",data:=.seq its.toArray cap }∧H' s2.heap.objs.size=none∧Vals ys its∧ys.length≤sizeLine∧W i n ys H') (fun n s3 hI=>?_) m0
   ⟨0,[],[],0,H2,I0,T.keep _ _ _ st2 fun b hb o e=>old _ _ (by rw [←ehp];exact Heap.get?_push_of_some _ e),fun b hb=>(f2 b hb).1,eD,I2.hok.fresh (Nat.le_refl _),.nil,Nat.zero_le _,w0⟩
  obtain⟨i,ys,its,cap,H3,I3,st3,fr3,eD3,nD3,rv,hz,w3⟩:=hI
  show wpAny _ X.A ((compTurn (.ListComp elt [⟨tg,iter,ifs,0⟩] sc pos) 0 (.ref it) (.ref s2.heap.objs.size) (compEnvC sc cl hp.objs.size X.env)).onRaise fun x=>do noteFrame x (compEnvC sc cl hp.objs.size X.env);theTreesLotGoes x) _ _ s3
  refine wpAny_noted ?_
  rw [compTurn_list]
  have I3':Inv (blk X (own++caps) sc cl { s2 with heap:=hp } H2 hp.objs.size (s2.heap.objs.size::fp)) (pins++[(s2.heap.objs.size,{ cls:=.type "list",data:=.seq its.toArray cap })]) (blkSt own.length κ σ) H3 s3:=by
   refine I3.pins_of fun p hp=>(List.mem_append.mp hp).elim (fun z=>I3.pin p (List.mem_append_right _ z)) fun z=>?_
   obtain rfl:=List.mem_singleton.mp z
   exact⟨eD3,nD3,hDC,stkD,fun v q=>by cases q⟩
  have fpk:∀{H':Hp},(∀b∈fp,H' b=none)→∀b∈fp,FpOk (blk X (own++caps) sc cl { s2 with heap:=hp } H2 hp.objs.size (s2.heap.objs.size::fp)) (pins++[(s2.heap.objs.size,{ cls:=.type "list",data:=.seq its.toArray cap })]) H' b:=fun {H'} hn b hb =>
   ⟨hn b hb,by show b≠hp.objs.size;rw [hsz];exact Nat.ne_of_lt (Nat.lt_succ_of_lt (hfp b hb)),stkF b hb,.inl (List.mem_cons_of_mem _ hb),fun x c q=>(f2 b hb).2.2.2.2.1 x c (S.subc q),fun p hp=>by
    rw [←List.append_assoc] at hp
    rcases List.mem_append.mp hp with z|z
    ·exact(f2 b hb).2.2.2.2.2 p z
    ·obtain rfl:=List.mem_singleton.mp z
     exact Nat.ne_of_gt (hfp b hb)⟩
  rcases turn i n ys H3 w3 with ⟨stop,fin⟩|⟨go,hlt,step⟩
  ·refine wpAny_bind (wpAny_standAt (wpAny_bind (thn (T.done (blk X (own++caps) sc cl { s2 with heap:=hp } H2 hp.objs.size (s2.heap.objs.size::fp)) rfl rfl rfl hcalm i _ s3 _ H3 _ I3' (fpk fr3) st3 stop) fun r s4 ⟨hr,I4⟩=>?_)))
   subst hr
   refine wpAny_pure ?_
   obtain⟨m,hm,_⟩:=I4.loc
   have eD4:=(I4.pin (s2.heap.objs.size,{ cls:=.type "list",data:=.seq its.toArray cap }) (List.mem_append_right _ (List.mem_append_right _ (List.mem_singleton.mpr rfl)))).1
   have I5:Inv X pins σ (upd H3 s2.heap.objs.size (.lst ys)) { s4 with heap:=s4.heap }:=Inv.unblock I2 f2 ehp.symm I4 eD4 nD3 rv hz (Heap.SameBut.refl ..)
   have neL:hp.objs.size≠X.env.locals:=by rw [hsz];exact Nat.ne_of_gt (Nat.lt_succ_of_lt I2.lt)
   have neC:∀x c,X.env.cells.lookup x=some c→c≠hp.objs.size:=fun x c q=>by
    obtain⟨v,z⟩:=I2.cell x c q
    rw [hsz]
    exact Nat.ne_of_lt (Nat.lt_succ_of_lt z.lt)
   have frC:upd H3 s2.heap.objs.size (.lst ys) hp.objs.size=none:=by rw [upd_ne (Ne.symm hDC)];exact I4.free
   show wpAny (model X.prog X.w) X.A (assign (.Name y0 py0) X.env (.ref s2.heap.objs.size)) _ X.xe s4
   refine wpAny_assign_Name (store_ok2 (v:=.ref s2.heap.objs.size) I5 hN hi0 hy0 rfl (fun s5 I6 ⟨a,sb,ha⟩=>?_) hf0)
   have hCa:hp.objs.size≠a:=by
    rcases ha with ha|ha
    ·rw [ha];exact neL
    ·exact Ne.symm (neC _ _ ha)
   refine⟨m,hm.sameBut sb hCa,fun h' sb'=>⟨_,_,I6.turned (t':=s5.toks) (fun b o hb e=>(sb'.2 b hb).trans e) frC neL (.inr ?_) neC (fun p hp'=>?_),fin _ nD3⟩⟩
   ·exact Nat.le_trans I2.sz (by rw [hsz];exact Nat.le_succ _)
   ·have:=Heap.lt_size (I2.pin p hp').1
    rw [hsz]
    exact Nat.ne_of_lt (Nat.lt_succ_of_lt this)
  ·refine wpAny_bind (wpAny_standAt (wpAny_bind (thn (T.item (blk X (own++caps) sc cl { s2 with heap:=hp } H2 hp.objs.size (s2.heap.objs.size::fp)) rfl rfl rfl hcalm i _ s3 _ H3 _ I3' (fpk fr3) st3 go) fun r s4 ⟨u,hr,h4⟩=>?_)))
   subst hr
   refine wpAny_bind (thn h4 fun _ s5 ⟨x,H5,I5,r5,y5,st5,fr5⟩=>?_)
   have I5':=I5.pinned (fpk fr5) (T.obj _ _ st5)
   refine wpAny_bind (wpAny_mono (hg _ _ _ _ _ s5 _ H5 x u _ I5' r5 (step x H5 y5)) (fun _ s6 ⟨σ6,H6,I6,eσ,q6⟩=>?_) fun _ _ z=>z.elim)
   refine wpAny_bind (wpAny_mono (hc _ _ _ _ _ s6 σ6 H6 _ I6 q6) (fun ok s7 ⟨H7,I7,q7⟩=>?_) fun _ _ z=>z.elim)
   have back:∀{s8:Shared} {H8:Hp},Inv (blk X (own++caps) sc cl { s2 with heap:=hp } H2 hp.objs.size (s2.heap.objs.size::fp)) ((pins++[(s2.heap.objs.size,{ cls:=.type "list",data:=.seq its.toArray cap })])++pinsAt fp s5.heap) σ6 H8 s8 →
     Inv (blk X (own++caps) sc cl { s2 with heap:=hp } H2 hp.objs.size (s2.heap.objs.size::fp)) pins (blkSt own.length κ σ) H8 s8∧tn (i+1) s8.heap∧(∀b∈fp,H8 b=none)∧s8.heap.get? s2.heap.objs.size=some { cls:=.type "list",data:=.seq its.toArray cap }∧H8 s2.heap.objs.size=none:=by
    intro s8 H8 I8
    have pk:∀b∈fp,∀o,s5.heap.get? b=some o→s8.heap.get? b=some o∧H8 b=none:=fun b hb o e=>by
     have z:=I8.pin (b,o) (List.mem_append_right _ (List.mem_append_right _ (mem_pinsAt hb e)))
     exact⟨z.1,z.2.1⟩
    have zD:=I8.pin (s2.heap.objs.size,{ cls:=.type "list",data:=.seq its.toArray cap }) (List.mem_append_right _ (List.mem_append_left _ (List.mem_append_right _ (List.mem_singleton.mpr rfl))))
    refine⟨(I8.pins_of fun p hp=>I8.pin p (List.mem_append_right _ (List.mem_append_left _ (List.mem_append_left _ hp)))).weak ?_ fun j v e=>?_,T.keep _ _ _ st5 fun b hb o e=>(pk b hb o e).1,fun b hb=>?_,zD.1,zD.2.1⟩
    ·exact I3.len.trans I8.len.symm
    ·have hge:own.length≤j:=by
      refine Nat.le_of_not_lt fun q=>?_
      unfold blkSt at e
      rw [List.getElem?_append_left (by rw [List.length_replicate];exact q),List.getElem?_replicate,if_pos q] at e
      cases e
     have z:=congrArg (fun l=>l[j - own.length]?) eσ
     simp only [List.getElem?_drop] at z
     rw [show own.length+(j - own.length)=j by omega] at z
     rw [z]
     exact e
    ·obtain⟨o,e,_⟩:=T.obj _ _ st5 b hb
     exact(pk b hb o e).2
   cases ok with
   |false =>
    obtain⟨m',hm,w7⟩:=(if_neg Bool.false_ne_true)▸q7
    obtain⟨I8,st8,fr8,e8,n8⟩:=back I7
    exact wpAny_pure ⟨rfl,m',hm,i+1,ys,its,cap,H7,I8,st8,fr8,e8,n8,rv,hz,w7⟩
   |true =>
    have q7':=(if_pos rfl)▸q7
    refine wpAny_bind (wpAny_bind (wpAny_mono (he _ _ _ _ _ s7 σ6 H7 _ I7 q7') (fun y s8 ⟨v8,H8,I8,r8,m',hm,w8⟩=>?_) fun _ _ z=>z.elim))
    obtain⟨I9,st9,fr9,e9,n9⟩:=back I8
    have hl:=rv.length
    refine wpAny_bind (wpAny_list_append_plain (items:=its.toArray) ⟨cap,e9⟩ (fun h' hl' sb=>?_) (by rw [List.size_toArray,←hl];exact hz))
    obtain⟨cap',e'⟩:=hl'
    refine wpAny_pure (wpAny_pure ⟨rfl,m',hm,i+1,ys++[v8],its++[y],cap',H8,?_,?_,fr9,?_,n9,Vals.append rv (.cons r8 .nil),?_,w8⟩)
    ·exact I9.turned (t':=s8.toks) (fun b o hb e=>(sb.2 b hb).trans e) n9 hDC (.inl List.mem_cons_self) cellD pinD
    ·exact T.keep _ _ _ st9 fun b hb o e=>(sb.2 b (Nat.ne_of_lt (hfp b hb))).trans e
    ·rw [e']
     congr 3
     simp
    ·rw [List.length_append]
     exact hlt
 exact codeAny_compStart_list loop (T.self _ 0 _ _ _ (T.keep _ _ _ st2 fun b hb o e=>old _ _ (by rw [←ehp];exact Heap.get?_push_of_some _ e)) loop)
theorem ps_comp{i0:Nat}{y0:Str}{py0 spos:Pos}{tg elt iter:Expr}{own caps:List Str}{κ:List Nat}{sc:Scope}{cl:List (Str × Addr)}{pos:Pos}{wi:TI}{g:TG}{te:TE}(hN:X.N.Nodup)(hi0:X.N[i0]?=some y0)(hy0:Loc X.env.scope y0)(hcalm:X.calm=true)(S:BlkSc X caps sc cl)(hκ:κ.map (fun k=>X.N[k]?)=caps.map some)
  (hi:PI X tg iter wi) (hg:∀s₀ H₀ C ex,PG (blk X (own++caps) sc cl s₀ H₀ C ex) tg g) (he:∀s₀ H₀ C ex,PE (blk X (own++caps) sc cl s₀ H₀ C ex) elt te)
  (hs:∀x,foldedSetIterable iter X.env x=pure x:=by intro _;rfl) (hsw:swapsWith (.ListComp elt [⟨tg,iter,[],0⟩] sc pos) (some (.Name y0 py0)) spos.line X.env=pure true:=by rfl)
  (hf0:X.fn y0=true∨X.env.scope.names.lookup y0=some .local:=by first|exact .inl rfl|exact .inr rfl|assumption) :
  PS X (.Assign [.Name y0 py0] (.ListComp elt [⟨tg,iter,[],0⟩] sc pos) spos) (tAsg (tComp own.length κ wi g tYes te) (gName i0)) :=
 ps_compG hN hi0 hy0 hcalm S hκ hi hg (fun s₀ H₀ C ex pins s σ H Q I h=>wpAny_tests_nil ⟨H,I,h⟩) he hs hsw hf0
theorem ps_comp_if{i0:Nat}{y0:Str}{py0 spos:Pos}{tg elt iter c:Expr}{own caps:List Str}{κ:List Nat}{sc:Scope}{cl:List (Str × Addr)}{pos:Pos}{wi:TI}{g:TG}{tc:TT}{te:TE}(hN:X.N.Nodup)(hi0:X.N[i0]?=some y0)(hy0:Loc X.env.scope y0)(hcalm:X.calm=true)(S:BlkSc X caps sc cl)(hκ:κ.map (fun k=>X.N[k]?)=caps.map some)
  (hi:PI X tg iter wi) (hg:∀s₀ H₀ C ex,PG (blk X (own++caps) sc cl s₀ H₀ C ex) tg g) (hc:∀s₀ H₀ C ex,PT (blk X (own++caps) sc cl s₀ H₀ C ex) c tc) (he:∀s₀ H₀ C ex,PE (blk X (own++caps) sc cl s₀ H₀ C ex) elt te)
  (hs:∀x,foldedSetIterable iter X.env x=pure x:=by intro _;rfl) (hsw:swapsWith (.ListComp elt [⟨tg,iter,[c],0⟩] sc pos) (some (.Name y0 py0)) spos.line X.env=pure true:=by rfl)
  (hf0:X.fn y0=true∨X.env.scope.names.lookup y0=some .local:=by first|exact .inl rfl|exact .inr rfl|assumption) :
  PS X (.Assign [.Name y0 py0] (.ListComp elt [⟨tg,iter,[c],0⟩] sc pos) spos) (tAsg (tComp own.length κ wi g tc te) (gName i0)) :=
 ps_compG hN hi0 hy0 hcalm S hκ hi hg (fun s₀ H₀ C ex pins s σ H Q I h=>wpAny_tests_one (hc s₀ H₀ C ex pins s σ H Q I h)) he hs hsw hf0
end
end L2
namespace L2
open PySem PySem.Spec PyProof.Rows
section
variable{X:Cx}{pins:List (Addr × Obj)}{σ:St}{H:Hp}{s:Shared}{h':Heap}
end
section
variable{X:Cx}{tg:Expr}
end
section
variable{prog:Program}{w:World}{A:Around}{E:Value→Shared→Prop}{s:Shared}
theorem nextT_item{j t:Addr}{n:Nat}{its:Array Value}{v:Value}{Q:Value→Shared→Prop}(hj:s.heap.IsTupleIter j t n)(ht:s.heap.IsTuple t its)(hv:its[n]?=some v)
  (q:∀h',h'.IsTupleIter j t (n+1)→Heap.SameBut j s.heap h'→Q v { s with heap:=h' }):wpAny (model prog w) A (Builtin.SmallTypes.nextOf (.ref j)) Q E s:=by
 obtain⟨oj,ej,cj,dj⟩:=id hj
 obtain⟨ot,et,_,nt,dt⟩:=ht
 unfold Builtin.SmallTypes.nextOf
 refine wpAny_bind (wpAny_callSpecial?_slot (name:=Str.ofString "__next__") hj.typeIs F.slot_tuple_iterator_next (wpAny_call_entry F.slot_tuple_iterator_next hj.typeIs F.entry_tuple_iterator_next ?_ (F.args_tuple_iterator_next_1 _)))
 show wpAny _ _ (field (.ref j) 0 >>= _) _ _ s
 refine wpAny_bind (wpAny_field ej dj (x:=.ref t) rfl ?_)
 show wpAny _ _ (if (Value.ref t==Value.none)=true then _ else _) _ _ _
 rw [if_neg (show ¬(Value.ref t==Value.none)=true from Bool.false_ne_true)]
 show wpAny _ _ (field (.ref j) 1 >>= _) _ _ s
 refine wpAny_bind (wpAny_field ej dj (x:=.int n 0) rfl ?_)
 show wpAny _ _ (seqItems? (.ref t) >>= _) _ _ _
 refine wpAny_bind (wpAny_seqItems et dt ?_)
 simp only [Int.toNat_natCast,hv]
 refine wpAny_bind (wpAny_setField ej dj (by simp) (wpAny_pure ⟨v,rfl,wpAny_pure (q _ ?_ (Heap.SameBut.update ..))⟩))
 exact⟨_,Heap.get?_update_self _ ej (Obj.isFreed_of_fields (Obj.data_mapFields dj _)),(Obj.cls_mapFields ..).trans cj,by rw [Obj.data_mapFields dj];simp [rawInt]⟩
theorem nextT_end{j t:Addr}{n:Nat}{its:Array Value}{Q:Value→Shared→Prop}(hh:A.handled=none)(hj:s.heap.IsTupleIter j t n)(ht:s.heap.IsTuple t its)(hv:its[n]?=none)
  (q:∀h' e,Heap.ExtBut j s.heap h'→(∃o,h'.get? e=some o∧o.cls=.type "StopIteration")→E (.ref e) { s with heap:=h' }):wpAny (model prog w) A (Builtin.SmallTypes.nextOf (.ref j)) Q E s:=by
 obtain⟨oj,ej,cj,dj⟩:=id hj
 obtain⟨ot,et,_,nt,dt⟩:=ht
 unfold Builtin.SmallTypes.nextOf
 refine wpAny_bind (wpAny_callSpecial?_slot (name:=Str.ofString "__next__") hj.typeIs F.slot_tuple_iterator_next (wpAny_call_entry F.slot_tuple_iterator_next hj.typeIs F.entry_tuple_iterator_next ?_ (F.args_tuple_iterator_next_1 _)))
 show wpAny _ _ (field (.ref j) 0 >>= _) _ _ s
 refine wpAny_bind (wpAny_field ej dj (x:=.ref t) rfl ?_)
 show wpAny _ _ (if (Value.ref t==Value.none)=true then _ else _) _ _ _
 rw [if_neg (show ¬(Value.ref t==Value.none)=true from Bool.false_ne_true)]
 show wpAny _ _ (field (.ref j) 1 >>= _) _ _ s
 refine wpAny_bind (wpAny_field ej dj (x:=.int n 0) rfl ?_)
 show wpAny _ _ (seqItems? (.ref t) >>= _) _ _ _
 refine wpAny_bind (wpAny_seqItems et dt ?_)
 simp only [Int.toNat_natCast,hv]
 refine wpAny_bind (wpAny_rule (wpAny_bind (wpAny_setField ej dj (by simp) ?_)))
 refine wpAny_bind (m:=newExc (.type "StopIteration") []) ?_
 simp only [newExc,newTuple]
 refine wpAny_bind (wpAny_newObj_type (wpAny_bind (m:=firstArgMember _ _) (wpAny_of_eq (a:=Value.none) (by first|rfl|(simp only [firstArgMember];rfl)) (wpAny_newObj_type ?_ (by size_fits)))) (by size_fits))
 simp only [raiseNew]
 refine wpAny_bind (wpAny_handled ?_)
 first|rw [show A.in1.handled=none from hh]|rw [hh]
 exact wpAny_bind (wpAny_pure (wpAny_throw (q _ _ (((Heap.SameBut.update ..).extBut.push _).push _) ⟨_,Heap.get?_push_size _ rfl,rfl⟩)))
open AutoSeq1 (wpAny_loadPart') in
end
section
variable{X:Cx}
end
end L2
namespace L2
open PySem PySem.Spec PyProof.Rows
section
variable{X:Cx}{pins:List (Addr × Obj)}{σ:St}{H H':Hp}{s:Shared}{h':Heap}
end
theorem pair_get{α β:Type}{F:α→β→Prop}:∀{as:List α} {bs:List β},Paired F as bs→∀{j:Nat} {a:α},as[j]?=some a→∃b,bs[j]?=some b∧F a b
 |_,_,.nil,j,a,h=>by simp at h
 |_,_,.cons x t,0,a,h=>by
  simp at h
  subst h
  exact⟨_,rfl,x⟩
 |_,_,.cons x t,j+1,a,h=>by
  simp at h
  obtain⟨b,hb,r⟩:=pair_get t h
  exact⟨b,by simpa using hb,r⟩
section
variable{X:Cx}
end
end L2
namespace L2
open PySem PySem.Spec PyProof.Rows
section
variable{X:Cx}{pins:List (Addr × Obj)}{σ:St}{H:Hp}{s:Shared}{d:Addr}{o:Obj}{u:HO}
end
section
variable{X:Cx}
end
end L2
namespace L2
open PySem PySem.Spec PyProof.Rows
section
variable{X:Cx}{tg:Expr}
end
end L2
namespace L2
open PySem PySem.Spec PyProof.Rows
section
variable{X:Cx}{tg:Expr}
end
end L2
namespace L2
open PySem PySem.Spec PyProof.Rows
section
variable{X:Cx}
end
end L2
namespace L2
open PySem PySem.Spec PyProof.Rows
section
variable{X:Cx}{K:PySem.W.Frag}
end
end L2
namespace L2
open PySem PySem.Spec PyProof.Rows
end L2
namespace L2
open PySem PySem.Spec PyProof.Rows
def excInI(K:PySem.W.Frag)(C:Addr)(bmB:List Value)(newId:String):Bool:=match K.lookup C with|some ⟨.type "type",_,.cls cd,sl⟩=>(match cd.mro,sl.toList with|.ref C'::bm,[_,_,_,_,some (.builtin n),_]=>C'==C&&n==newId&&!cd.hasDel&&PySem.W.tailIn K bmB bm|_,_=>false)|_=>false
structure ExcI(h:Heap)(C:Addr)(bmB:List Value)(newId:String):Prop where
 obj:∃bm N nm q bs hdct sn sub ab col dd k0 k1 k2 k3 k5,h.get? C=some (excClassObj nm q C N bs bm hdct sn sub ab col dd k0 k1 k2 k3 k5 newId)∧OwnTail h bmB bm
section
variable{prog:Program}{w:World}{A:Around}{E:Value→Shared→Prop}{h:Heap}{g:Array GenState}{d:Drawn}{t:Nat}{os:OsState}{K:PySem.W.Frag}{C fI:Addr}{us:List Value}
end
section
variable{prog:Program}{w:World}{A:Around}{E:Value→Shared→Prop}{s:Shared}{env:Env}{K:PySem.W.Frag}{C fI:Addr}
end
end L2
namespace L2
open PySem PySem.Spec PyProof.Rows
section
variable{X:Cx}{pins:List (Addr × Obj)}{σ:St}{H:Hp}{s:Shared}{x:Addr}
end
section
variable{P:Program}{w:World}{K:PySem.W.Frag}{mg:Str→Option Value}{base:Heap}
structure MkX(K:PySem.W.Frag)(C fI:Addr):Prop where
 ex:excInI K C bmVE "ValueError.__new__"=true
 init:PySem.W.findIn K (.ref C) "__init__"=some (some (.ref fI))
 fn:PySem.W.typeIn K (.ref fI)=some (.type "function")
end
end L2
namespace L2
open PySem PySem.Spec PyProof.Rows Builtin Builtin.ObjectAttr
def refPass(l:List Value):Bool:=l.dropWhile (fun|.ref _=>true|_=>false)==bmVE
structure ExcSet(K:PySem.W.Frag)(C:Addr):Prop where
 sa:PySem.W.findIn K (.ref C) "__setattr__"=some (some (.builtin "object.__setattr__"))
 po:(PySem.W.clsIn K C).any (fun cd=>refPass cd.mro)=true
 hd:PySem.W.hasDictIn K C=true
 ob:PySem.W.mroIn K C (.type "object")=some true
section
variable{prog:Program}{w:World}{A:Around}{E:Value→Shared→Prop}{s:Shared}{K:PySem.W.Frag}{x C:Addr}{name:Str}{v:Value}
end
section
variable{X:Cx}{pins:List (Addr × Obj)}{σ:St}{H H0:Hp}{s s0:Shared}{dx:Addr}
end
section
variable{X:Cx}{o value:Expr}{f:Str}{pos pos':Pos}{ta tv:TE}
end
end L2
namespace L2
open PySem PySem.Spec PyProof.Rows Builtin Builtin.ObjectAttr
structure BaseI(K:PySem.W.Frag)(R:Addr):Prop where
 ga:PySem.W.specialIn K (.ref R) "__getattribute__"=some (some (.builtin "type.__getattribute__"))
 rd:PySem.W.readsIn K R (.type "type")=true
 fi:PySem.W.findCls K (.ref R) (.type "type") "__init__"=some (.val (.builtin "ValueError.__init__"))
section
variable{X:Cx}
end
section
variable{prog:Program}{w:World}{A:Around}{E:Value→Shared→Prop}{s:Shared}{K:PySem.W.Frag}{x D:Addr}{name:Str}{v:Value}
end
section
variable{X:Cx}{e:Expr}{f:Str}{pos:Pos}{ta:TE}
end
end L2
namespace L2
open PySem PySem.Spec PyProof.Rows
structure Shw(d:PyData)(n m:Nat):Prop where
 sh:d.showable=true
 nd:d.hasDict=false
 dp:d.depth≤m
 ln:d.shown.length≤n
structure Shws(ds:List PyData)(n m:Nat):Prop where
 sh:PyData.showableAll ds=true
 nd:PyData.hasDictAll ds=false
 dp:PyData.depthAll ds≤m
 ln:piled (PyData.shownAll ds)≤n
theorem shw_str{y:Str}(h:PyData.strOk y=true)(m:Nat):Shw (.str y) (10*y.length+2) m:=by
 refine⟨by simp only [PyData.showable],by simp only [PyData.hasDict],by simp only [PyData.depth];omega,?_⟩
 simp only [PyData.shown]
 refine StrLaws.reprText_len y fun c hc=>?_
 have h1:y.cps.all (· < 0x110000)=true:=h
 rw [Array.all_eq_true_iff_forall_mem] at h1
 have h3:c < 0x110000:=by simpa using h1 c (by simpa using hc)
 exact Nat.lt_trans h3 (by decide)
theorem shws_nil(m:Nat):Shws [] 0 m:=⟨by simp only [PyData.showableAll],by simp only [PyData.hasDictAll],by simp only [PyData.depthAll];omega,by simp only [PyData.shownAll];exact Nat.le_refl 0⟩
theorem shws_cons{d:PyData}{ds:List PyData}{n n' m:Nat}(h:Shw d n m)(r:Shws ds n' m):Shws (d::ds) (n+2+n') m:=by
 refine⟨?_,?_,?_,?_⟩
 ·simp only [PyData.showableAll,h.sh,r.sh,Bool.and_self]
 ·simp only [PyData.hasDictAll,h.nd,r.nd,Bool.or_self]
 ·simp only [PyData.depthAll]
  exact Nat.max_le.mpr ⟨h.dp,r.dp⟩
 ·simp only [PyData.shownAll]
  rw [piled_cons]
  have:=h.ln
  have:=r.ln
  omega
theorem shw_tup{ds:List PyData}{n m:Nat}(h:Shws ds n m):Shw (.tuple ds) (n+3) (m+1):=by
 refine⟨by simp only [PyData.showable];exact h.sh,by simp only [PyData.hasDict];exact h.nd,by simp only [PyData.depth];exact Nat.succ_le_succ h.dp,?_⟩
 simp only [PyData.shown]
 have hl:=h.ln
 generalize PyData.shownAll ds=ts at hl
 unfold tupleText
 rw [strLen_append,strLen_append]
 have e1:(("(":Str)).length=1:=rfl
 have e3:((if ts.length==1 then ",)" else ")":String):Str).length≤2:=by split<;>decide
 have e2:(Str.join ", " ts).length≤piled ts:=by
  by_cases z:ts=[]
  ·subst z;exact Nat.zero_le _
  ·have:=join_length_add ts z;omega
 omega
section
variable{X:Cx}{k:Nat}{pos:Pos}{e:Expr}{te:TE}
theorem pe_frD(hr:Room k X.A)(he:PE X e te):PE X (.FormattedValue e 114 none pos) (fun σ H Q=>te σ H fun v H1=>∃d n,Dat X.K H1 v d∧Shw d n 60∧n≤2000000∧∀z:Str,z.length≤2000000→Q (.str z) H1):=by
 intro pins s σ H Q I h
 refine wpAny_FormattedValue_repr (thn (he pins s σ H _ I h) fun u s1 ⟨v,H1,I1,r,d,n,hd,sh,hn,q⟩=>?_)
 have hl:d.shown.length≤2000000:=Nat.le_trans sh.ln hn
 have hz:d.shown.length≤sizeLine:=Nat.le_trans hl (by rw [sizeLine_eq];omega)
 have fin:∀h' t tk,(∀b o,s1.heap.get? b=some o→h'.get? b=some o)→wpAny (model X.prog X.w) X.A (formatField (.str d.shown t) Str.empty) (EP X pins σ Q) X.xe { s1 with heap:=h',toks:=tk }:=fun h' t tk hk =>
  formatField_str (fun t' tk'=>⟨.str _,H1,(I1.kept (h':=h') (t':=tk) hk).tok _,⟨_,rfl⟩,q _ hl⟩) hz
 obtain⟨as,ra⟩:=Dat.reads I1 hd r
 have hu:=hr.units
 have ref:∀a,u=.ref a→wpAny (model X.prog X.w) X.A (pyReprObj u) (fun r s2=>wpAny (model X.prog X.w) X.A (formatField r Str.empty) (EP X pins σ Q) X.xe s2) X.xe s1:=fun a e=>by
  subst e
  exact pyReprObj_of_reads ra sh.sh (PyData.noDict_hsm sh.nd) hr.gd (by have:=sh.dp;omega) (fun _ _ z=>z) (fun h' u tk hk=>fin h' u tk hk) hz
 cases hd with
 |non =>
  cases r
  simp only [PyData.shown] at fin
  exact pyReprObj_none (fin s1.heap _ _ fun _ _ z=>z)
 |bl b =>
  cases r
  simp only [PyData.shown] at fin
  exact pyReprObj_bool (fin s1.heap _ _ fun _ _ z=>z)
 |int i =>
  obtain⟨t,rfl⟩:=r
  have hs:=sh.sh
  simp only [PyData.showable,decide_eq_true_eq] at hs
  simp only [PyData.shown] at fin
  exact pyReprObj_int hs (fin s1.heap _ _ fun _ _ z=>z)
 |str x =>
  obtain⟨t,rfl⟩:=r
  simp only [PyData.shown] at fin hz
  exact pyReprObj_str (fin s1.heap _ _ fun _ _ z=>z) hz
 |tup _ _=>cases r;exact ref _ rfl
 |lst _ _=>cases r;exact ref _ rfl
end
end L2
namespace L2
open PySem PySem.Spec PyProof.Rows
section
variable{α β:Type}
variable{P:Shared→Prop}
end
section
variable{X:Cx}{st:Stmt}{rest:List Stmt}{t u:TS}{pos:Pos}
end
section
variable{X:Cx}
end
end L2
local macro_rules
 |`(sortPriv% $n:ident)=>do
  if n.getId==`rn then return Lean.mkCIdent (Lean.mkPrivateNameCore `PySem.Builtin.Int.W0All `PySem.Builtin.readNumeral)
  if n.getId==`vl then return Lean.mkCIdent (Lean.mkPrivateNameCore `PySem.Builtin.Int.W0All `PySem.Builtin.Numeral.value)
  if n.getId==`nd then return Lean.mkCIdent (Lean.mkPrivateNameCore `PySem.Builtin.Int.W0All `PySem.Builtin.numeralDigits?)
  if n.getId==`bl then return Lean.mkCIdent (Lean.mkPrivateNameCore `PySem.Builtin.Int.W0All `PySem.Builtin.isBlank)
  Lean.Macro.throwUnsupported
namespace L2
open PySem
section
variable{prog:Program}{w:World}{A:Around}{E:Value→Shared→Prop}{s:Shared}
end
end L2
namespace L2
open PySem PySem.Spec PyProof.Rows
section
variable{X:Cx}{pos:Pos}{e:Expr}{es:List Expr}{te:TE}
abbrev TJE:=St→Hp→Str→(Str→Hp→Prop)→Prop
def PJE(X:Cx)(es:List Expr)(t:TJE):Prop :=
 ∀(pins:List (Addr × Obj)) (s:Shared) (σ:St) (H:Hp) (acc:Str) (Z:Str→Hp→Prop),acc.length+2000000*es.length≤sizeLine→Inv X pins σ H s→t σ H acc Z →
  Joins (model X.prog X.w) X.A X.xe (evalEach es X.env) acc (fun out s1=>out.length≤sizeLine∧∃H1,Inv X pins σ H1 s1∧Z out H1) s
theorem pje_nil:PJE X [] (fun _ H acc Z=>Z acc H):=fun _ _ _ H _ _ hz I h=>⟨Nat.le_trans (Nat.le_add_right _ _) hz,H,I,h⟩
theorem pje_cons{tj:TJE}(he:PE X e te)(hr:PJE X es tj):PJE X (e::es) (fun σ H acc Z=>te σ H fun v H1=>∃y:Str,v=.str y∧y.length≤2000000∧tj σ H1 (acc++y) Z):=by
 intro pins s σ H acc Z hz I h
 refine thn (he pins s σ H _ I h) fun u s1 ⟨v,H1,I1,r,y,hv,hy,q⟩=>?_
 subst hv
 obtain⟨t,rfl⟩:=r
 have e1:(acc++y).length=acc.length+y.length:=by
  show Array.size (acc.cps++y.cps)=_
  rw [Array.size_append]
  rfl
 have e2:(e::es).length=es.length+1:=rfl
 rw [e2] at hz
 exact⟨y,t,rfl,by omega,hr pins s1 σ H1 (acc++y) Z (by omega) I1 q⟩
theorem pe_fstrE{v1 v2:Expr}{rest:List Expr}{tj:TJE}(hj:PJE X (v1::v2::rest) tj)(hl:(v1::v2::rest).length≤8) :
  PE X (.JoinedStr (v1::v2::rest) pos) (fun σ H Q=>tj σ H Str.empty fun out H1=>Q (.str out) H1):=by
 intro pins s σ H Q I h
 have hz:Str.empty.length+2000000*(v1::v2::rest).length≤sizeLine:=by
  have e0:Str.empty.length=0:=rfl
  rw [sizeLine_eq,e0]
  rw [Nat.zero_add]
  exact Nat.le_trans (Nat.mul_le_mul_left _ hl) (Nat.le_of_ble_eq_true rfl)
 refine wpAny_JoinedStr ?_
 have j:=hj pins s σ H Str.empty _ hz I h
 exact pe_fstr.joins_mono _ _ (fun out s1 ⟨h1,H1,I1,q⟩=>⟨h1,.str out,H1,I1.tok _,⟨_,rfl⟩,q⟩) _ j
end
end L2
namespace L2
open PySem PySem.Spec PyProof.Rows
section
variable{prog:Program}{w:World}{A:Around}{R:Result→Shared→Prop}{I S:Addr}{fp wr:List Addr}{n:Nat}{P:Nat→Value→Prop}{St:Nat→Heap→Prop}{d:Value}
end
section
variable{X:Cx}{e:Expr}{es:List Expr}{kws:List Keyword}{t tk:TA}{p pos:Pos}
end
end L2
namespace L2
open PySem PySem.Spec PyProof.Rows
inductive EntOk (w:World):List DictEntry→List (Str × Int)→Prop
 |nil:EntOk w [] []
 |cons {h:Int} {s:Str} {n:Int} {t t':Tok} {es:List DictEntry} {ps:List (Str × Int)}:h=hashStr w s→EntOk w es ps→EntOk w (⟨h,.str s t,.int n t'⟩::es) ((s,n)::ps)
structure DKt(K:PySem.W.Frag)(w:World)(a:Addr)(ps:List (Str × Int)):Prop where
 ns:(a==sysModules)=false
 at_:∀(P:Program) (h:Heap),K.In h→∃vs:List (Key × Value),KV (ps.map fun p=>((Sum.inr p.1:Key),V.int p.2)) vs∧h.DictOf (mixKind P w) a vs
theorem ent_ok{P:Program}{w:World}{es:List DictEntry}{ps:List (Str × Int)}(h:EntOk w es ps):∃vs:List (Key × Value),KV (ps.map fun p=>((Sum.inr p.1:Key),V.int p.2)) vs∧Pairs (mixKind P w) es vs∧(∀e∈es,∃k:Key,(mixKind P w).is k e.key=true∧e.hash=(mixKind P w).hash k)∧vs.map (·.1)=ps.map fun p=>(Sum.inr p.1:Key):=by
 induction h with
 |nil=>exact⟨[],.nil,.nil,(fun e he=>by cases he),rfl⟩
 |@cons hh s n t t' es ps e _ ih =>
  obtain⟨vs,a,b,c,d⟩:=ih
  refine⟨(Sum.inr s,.int n t')::vs,.cons ⟨rfl,⟨t',rfl⟩⟩ a,.cons (mixKind_str P w s t) rfl b,fun e2 he=>?_,?_⟩
  ·rcases List.mem_cons.mp he with rfl|he
   ·exact⟨Sum.inr s,mixKind_str P w s t,e⟩
   ·exact c e2 he
  ·rw [List.map_cons,List.map_cons,d]
theorem dkt_of{K:PySem.W.Frag}{w:World}{a:Addr}{ps:List (Str × Int)}{es:Array DictEntry}{ep:Nat} (hl:K.lookup a=some ⟨.type "dict",none,.dict es ep,#[]⟩) (hs:(a==sysModules)=false) (he:EntOk w es.toList ps) (nd:(ps.map (·.1)).Nodup):DKt K w a ps:=by
 refine⟨hs,fun P h hK=>?_⟩
 obtain⟨vs,v1,v2,v3,v4⟩:=ent_ok (P:=P) he
 refine⟨vs,v1,_,es,ep,hK _ _ hl,⟨rfl,rfl,rfl⟩,rfl,fun e h2=>v3 e (Array.mem_toList_iff.mpr h2),v2,?_⟩
 rw [v4]
 have:(ps.map fun p=>(Sum.inr p.1:Key))=(ps.map (·.1)).map Sum.inr:=by rw [List.map_map];rfl
 rw [this]
 exact List.Pairwise.map _ (fun _ _ h z=>h (Sum.inr.inj z)) nd
def numAtS(ps:List (Str × Int))(s:Str):Option Int:=(ps.find? fun p=>decide (p.1=s)).map (·.2)
theorem valV_num(ps:List (Str × Int))(s:Str):valV (ps.map fun p=>((Sum.inr p.1:Key),V.int p.2)) (Sum.inr s)=(numAtS ps s).map V.int:=by
 induction ps with
 |nil=>rfl
 |cons p r ih =>
  unfold valV numAtS at ih ⊢
  rw [List.map_cons,List.find?_cons,List.find?_cons]
  by_cases e:p.1=s
  ·rw [decide_eq_true (show(Sum.inr p.1:Key)=Sum.inr s by rw [e]),decide_eq_true e]
   rfl
  ·rw [decide_eq_false (show ¬(Sum.inr p.1:Key)=Sum.inr s from fun z=>e (Sum.inr.inj z)),decide_eq_false e]
   exact ih
section
variable{X:Cx}{o i:Expr}{pos:Pos}{td ty:TE}
def tDGetK(K:PySem.W.Frag)(w:World)(td ty:TE):TE:=fun σ H Q=>td σ H fun x H1=>ty σ H1 fun y H2=>∃a ps s n,x=.ref a∧DKt K w a ps∧y=.str s∧numAtS ps s=some n∧Q (.int n) H2
theorem pe_dgetK(ho:PE X o td)(hi:PE X i ty)(hs:NoSl i):PE X (.Subscript o i pos) (tDGetK X.K X.w td ty):=by
 intro pins s σ H Q I h
 refine subD_of PySem.F.slot_dict_getitem.lookup hs (thn (ho pins s σ H _ I h) fun u s1 ⟨x,H1,I1,rx,q1⟩=>thn (hi pins s1 σ H1 _ I1 q1) fun iv s2 ⟨y,H2,I2,ry,a,ps,z,n,ex,g,ey,en,q2⟩=>?_)
 subst ex ey
 obtain rfl:u=Value.ref a:=rx
 obtain⟨vs,rel,dd⟩:=g.at_ X.prog s2.heap I2.kIn
 obtain⟨w',hw,rw'⟩:=RelO.some_of (v:=.int n) (o:=valueAt vs (Sum.inr z)) (by have:=rel.val (Sum.inr z);rw [valV_num,en] at this;exact this)
 exact⟨dd.typeIs,wpAny_getItem_of (kV_is (k:=Sum.inr z) ry) dd.mapOf hw ⟨.int n,H2,I2.tok _,rw',q2⟩⟩
end
end L2
namespace L2
open PySem PySem.Spec PyProof.Rows
section
variable{P:Program}{w:World}{K:PySem.W.Frag}{mg:Str→Option Value}{base:Heap}
end
end L2
namespace L2
open PySem PySem.Spec PyProof.Rows
section
variable{prog:Program}{w:World}{A:Around}{E:Value→Shared→Prop}{s:Shared}
end
end L2
namespace L2
open PySem PySem.Spec PyProof.Rows
section
variable{X:Cx}
end
end L2
namespace L2
open PySem PySem.Spec PyProof.Rows
section
variable{X:Cx}
end
end L2
namespace L2
open PySem PySem.Spec PyProof.Rows PySem.Calls
section
variable{prog:Program}{w:World}{K:Type}[DecidableEq K]{knd:HeapKind prog w K}{A:Around}{E:Value→Shared→Prop}{s:Shared}
end
section
variable{X:Cx}
end
end L2
namespace L2
open PySem PySem.Spec PyProof.Rows PySem.W
section
variable{prog:Program}{w:World}{A:Around}{E:Value→Shared→Prop}{s:Shared}
structure RawG(es:Array DictEntry)(lo:Addr)(h:Heap)(as:List Addr):Prop where
 rise:as.Pairwise (· < ·)
 up:∀a∈as,lo < a
 at':∀(j:Nat) (a:Addr),as[j]?=some a→∃en,es[j]?=some en∧h.get? a=some { cls:=.type "tuple",data:=.seq #[en.key,en.val] }
end
section
variable{prog:Program}{w:World}{A:Around}{s:Shared}{R:Result→Shared→Prop}{es:Array DictEntry}{ep:Nat}
end
section
variable{prog:Program}{w:World}{A:Around}{E:Value→Shared→Prop}{s:Shared}{r d:Addr}{es:Array DictEntry}{ep:Nat}
end
end L2
namespace L2
open PySem PySem.Spec PyProof.Rows
section
variable{X:Cx}
end
section
variable{prog:Program}{w:World}{A:Around}{E:Value→Shared→Prop}{s:Shared}
end
section
variable{X:Cx}{l:Expr}{tl:TE}{p p2 pos pos2:Pos}
end
end L2
namespace L2
open PySem PySem.Spec PyProof.Rows
section
variable{X:Cx}
end
end L2
namespace L2
open PySem PySem.Spec PyProof.Rows
section
variable{prog:Program}{w:World}{A:Around}{E:Value→Shared→Prop}{s:Shared}{a:Addr}{xs:Array Value}{k:Nat}{sl:Array (Option Value)}
end
section
variable{X:Cx}{pins:List (Addr × Obj)}{σ:St}
end
end L2
namespace L2
open PySem PySem.Spec PyProof.Rows
section
variable{prog:Program}{w:World}{A:Around}{E:Value→Shared→Prop}{s:Shared}{K:Type}[DecidableEq K]{knd:HeapKind prog w K}
end
section
variable{X:Cx}
end
end L2
namespace L2
open PySem PySem.Spec PyProof.Rows
section
variable{M:Model}{A:Around}{E:Value→Shared→Prop}{s:Shared}
end
section
variable{X:Cx}{pins:List (Addr × Obj)}{σ:St}{H H':Hp}{s s':Shared}{x C:Addr}{cls:Value}{d:Option Addr}
end
section
variable{X:Cx}
end
section
variable{P:Program}{w:World}{K:PySem.W.Frag}{mg:Str→Option Value}{base:Heap}{N:List Str}{qual:Str}{scope:Scope}{f:Addr}{cd:Value}{A:Around}{outer:List Env}{s:Shared}{H:Hp}{E:XK}
end
end L2
namespace L2
open PySem PySem.Spec PyProof.Rows
section
variable{X:Cx}
end
section
variable{X:Cx}{pins:List (Addr × Obj)}{σ:St}
end
end L2
namespace HT
open PySem PySem.Spec PyProof.Rows
section
variable{prog:Program}{w:World}{A:Around}{E:Value→Shared→Prop}{s:Shared}
end
end HT
namespace L2
open PySem PySem.Spec PyProof.Rows
section
variable{X:Cx}
theorem call_isiTup:CallR X (.builtin "isinstance") (fun xs H Q=>∃a ys,xs=[.ref a,.ty "tuple"]∧SqT X.K H a ys∧Q (.bl true) H):=by
 intro pins s σ H xs us Q I rv h
 obtain⟨a,ys,rfl,hq,q⟩:=h
 obtain⟨u,v,rfl,r1,r2⟩:=rv.two
 cases r2
 cases (show u=Value.ref a from r1)
 obtain⟨its,_,⟨o,h1,h2,_⟩,_⟩:=I.tuple hq
 exact PySem.W.kia_one (t:=.type "tuple") (b:=true) PySem.W.kitx_tuple I.kIn ⟨o,h1,h2⟩ rfl (fun z=>nomatch z) fun tk=>⟨.bl true,H,I.tok _,rfl,q⟩
theorem call_isiTA:CallR X (.builtin "isinstance") (fun xs H Q=>∃x,xs=[x,.ty "tuple"]∧((∃z,x=.str z∧Q (.bl false) H)∨(∃i,x=.int i∧Q (.bl false) H)∨∃a ys,x=.ref a∧SqT X.K H a ys∧Q (.bl true) H)):=by
 intro pins s σ H xs us Q I rv h
 obtain⟨x,rfl,h⟩:=h
 rcases h with ⟨z,rfl,q⟩|⟨i,rfl,q⟩|⟨a,ys,rfl,hq,q⟩
 ·obtain⟨u,v,rfl,r1,r2⟩:=rv.two
  cases r2
  exact isinst_ok (t:=.type "str") (b:=false) I r1 (.str z) rfl fun tk=>⟨.bl false,H,I.tok _,rfl,q⟩
 ·obtain⟨u,v,rfl,r1,r2⟩:=rv.two
  cases r2
  exact isinst_ok (t:=.type "int") (b:=false) I r1 (.int i) rfl fun tk=>⟨.bl false,H,I.tok _,rfl,q⟩
 ·exact call_isiTup pins s σ H _ us Q I rv ⟨a,ys,rfl,hq,q⟩
end
end L2
namespace L2
open PySem PySem.Spec PyProof.Rows
end L2
namespace L2
open PySem PySem.Spec PyProof.Rows
section
variable{X:Cx}{tg:Expr}
end
end L2
namespace HT
open PySem PySem.Spec PyProof.Rows
section
variable{prog:Program}{w:World}{K:Type}[DecidableEq K]{knd:KeyKind prog w K}{A:Around}{E:Value→Shared→Prop}{s:Shared}{r d:Addr}{kvs:List (K × Value)}{ep:Nat}
end
end HT
namespace L2
open PySem PySem.Spec PyProof.Rows
section
variable{X:Cx}
end
end L2
namespace HT
open PySem PySem.Spec PyProof.Rows
section
variable{prog:Program}{w:World}{A:Around}{E:Value→Shared→Prop}{s:Shared}
end
end HT
namespace L2
open PySem PySem.Spec PyProof.Rows
section
variable{X:Cx}
end
end L2
namespace L2
open PySem PySem.Spec PyProof.Rows
section
variable{X:Cx}
end
end L2
namespace L2
open PySem PySem.Spec PyProof.Rows
section
variable{P:Program}{w:World}
variable{K:PySem.W.Frag}{mg:Str→Option Value}{base:Heap}{N:List Str}{qual:Str}{scope:Scope}{f:Addr}{cd:Value}{A:Around}{outer:List Env}{s:Shared}{H:Hp}{E:XK}
end
end L2
namespace L2
open PySem PySem.Spec PyProof.Rows
section
variable{X:Cx}{tg:Expr}
end
end L2
namespace L2
open PySem PySem.Spec PyProof.Rows
section
variable{X:Cx}{pins:List (Addr × Obj)}{σ:St}{H:Hp}{s:Shared}{h':Heap}
theorem Inv.turnedL{t':Nat}{fp:List Addr}{p:Addr}{o:HO}(I:Inv X pins σ H s)(k:∀b ob,b∉fp→s.heap.get? b=some ob→h'.get? b=some ob)(hf:∀b∈fp,FpOk X pins H b)(hp:s.heap.objs.size≤p)
  (new:ObjOk X.prog X.w (upd H p o) h' p o):Inv X pins σ (upd H p o) { s with heap:=h',toks:=t' }:=by
 have hn:H p=none:=I.hok.fresh hp
 have nn:∀b u,H b=some u→b∉fp:=fun b u q z=>by rw [(hf b z).1] at q;cases q
 have lt:∀b ob,s.heap.get? b=some ob→b≠p:=fun b ob q z=>absurd (Nat.lt_of_lt_of_le (Heap.lt_size q) (by rw [z];exact hp)) (Nat.lt_irrefl _)
 refine I.step (g':=s.gens) (d':=s.drawn) (ch:=fp) (fun b hb=>?_) (fun b ob _ _ hc q _=>k b ob hc q) (fun b ob _ _ hc q _=>⟨ob.slots,k b ob hc q⟩) (fun b ob hc q n=>by rw [upd_ne (lt b ob q)];exact n)
  (fun b ob hc q=>⟨ob,k b ob hc q⟩) (fun b xs q=>by rw [upd_ne (ne_of_none q hn)];exact q) (fun b ob u q=>by rw [upd_ne (ne_of_none q hn)];exact q) (fun b ps q=>⟨#[],by rw [upd_ne (ne_of_none q hn),q];simp⟩) (fun m hm=>?_) (fun b u q=>?_) I.bare
 ·have fe:=hf b hb
  exact⟨fe.2.2.2.1,fe.2.1,fe.2.2.2.2.1,fe.2.2.2.2.2⟩
 ·obtain⟨ob,es,ep,q,r⟩:=hm
  exact⟨ob,es,ep,k _ ob (fun z=>(hf _ z).2.1 rfl) q,r⟩
 ·by_cases hb:b=p
  ·subst hb
   rw [upd_same] at q
   cases q
   exact new
  ·rw [upd_ne hb] at q
   refine(I.hok b u q).stay (fun c v hc z=>?_) (fun c z=>by rw [upd_ne (ne_of_none z hn)];exact z) fun c xs z=>by rw [upd_ne (ne_of_none z hn)];exact z
   rcases hc with hc|hc
   ·rw [hc] at z ⊢
    exact k b v (nn b u q) z
   ·exact k c v (nn c _ hc) z
theorem Inv.turnedR{t':Nat}{fp:List Addr}(I:Inv X pins σ H s)(k:∀b ob,b∉fp→s.heap.get? b=some ob→h'.get? b=some ob)(hf:∀b∈fp,FpOk X pins H b):Inv X pins σ H { s with heap:=h',toks:=t' }:=by
 have nn:∀b u,H b=some u→b∉fp:=fun b u q z=>by rw [(hf b z).1] at q;cases q
 refine I.step (g':=s.gens) (d':=s.drawn) (ch:=fp) (fun b hb=>?_) (fun b ob _ _ hc q _=>k b ob hc q) (fun b ob _ _ hc q _=>⟨ob.slots,k b ob hc q⟩) (fun b ob hc q n=>n)
  (fun b ob hc q=>⟨ob,k b ob hc q⟩) (fun b xs q=>q) (fun b ob u q=>q) (fun b ps q=>⟨#[],by rw [q];simp⟩) (fun m hm=>?_) (fun b u q=>?_) I.bare
 ·have fe:=hf b hb
  exact⟨fe.2.2.2.1,fe.2.1,fe.2.2.2.2.1,fe.2.2.2.2.2⟩
 ·obtain⟨ob,es,ep,q,r⟩:=hm
  exact⟨ob,es,ep,k _ ob (fun z=>(hf _ z).2.1 rfl) q,r⟩
 ·refine(I.hok b u q).stay (fun c v hc z=>?_) (fun c z=>z) fun c xs z=>z
  rcases hc with hc|hc
  ·rw [hc] at z ⊢
   exact k b v (nn b u q) z
  ·exact k c v (nn c _ hc) z
end
structure ZipFp(z TI TO i1 i2:Addr):Prop where
 TIz:TI≠z
 TOz:TO≠z
 i1z:i1≠z
 i2z:i2≠z
 TITO:TI≠TO
 TIi1:TI≠i1
 TIi2:TI≠i2
 TOi1:TO≠i1
 TOi2:TO≠i2
 i12:i1≠i2
section
variable{X:Cx}{es:List Expr}{k:Nat}{ps:Pos}
theorem bootZip:bootBuiltins "zip"=some (.type "zip"):=by decide +kernel
end
end L2
namespace L2
open PySem PySem.Spec PyProof.Rows
theorem among_snoc{p pos:Pos}{c cv:Value}(ls:List Value)(h:TriplesOk ls)(e:codeAmong p (ls++[rawInt pos.line,rawInt pos.col,c])=some cv) :
  codeAmong p ls=some cv∨(p.line=pos.line∧p.col=pos.col∧cv=c):=by
 fun_induction TriplesOk ls with
 |case1 =>
  simp only [List.nil_append,codeAmong,rawInt] at e
  split at e
  ·rename_i hc
   simp only [Bool.and_eq_true,beq_iff_eq] at hc
   cases e
   exact .inr ⟨by omega,by omega,rfl⟩
  ·cases e
 |case2 a t b u x rest ih =>
  simp only [List.cons_append,codeAmong] at e ⊢
  split at e
  ·rename_i hc;rw [if_pos hc];exact .inl e
  ·rename_i hc;rw [if_neg hc];exact ih h e
 |case3 ls h1 h2=>exact h.elim
theorem qualAt_same{p pos:Pos}(h1:p.line=pos.line)(h2:p.col=pos.col)(l:List Value):qualAt l p=qualAt l pos:=by
 fun_induction qualAt l p with
 |case1 p l t c t' q t'' r hc=>rw [qualAt,←h1,←h2,if_pos hc]
 |case2 p l t c t' q t'' r hc ih=>rw [qualAt,←h1,←h2,if_neg hc];exact ih h1 h2
 |case3 p l h=>rw [qualAt];exact h
section
variable{X:Cx}{pins:List (Addr × Obj)}{σ:St}{H:Hp}{s:Shared}{P c:Addr}{ps:Array Value}{pos:Pos}{q:Str}
theorem Inv.mgP(I:Inv X pins σ H s){o:HO}(hP:H P=some o):mainGlobals≠P:=fun z=>by
 obtain⟨ob,es,ep,e,_⟩:=I.mod.glob
 have:=(I.bs _ _ e).2
 rw [z,hP] at this;cases this
theorem Inv.bltAt(I:Inv X pins σ H s){o:HO}(hP:H P=some o):s.heap.BuiltinsAt X.mg P:=by
 obtain⟨bm,ob,b1,b2,b3,b4,b5,b6⟩:=I.mod.bmn
 refine⟨bm,ob,b1,b2,fun z=>?_,fun z=>?_,I.bk _ _ b3,b4,b5,b6⟩
 ·obtain⟨og,es,ep,e,d,_⟩:=I.mod.glob
  rw [z,e] at b3;cases b3;rw [d] at b6;cases b6
 ·have:=(I.bs _ _ b3).2
  rw [z,hP] at this;cases this
theorem Inv.hitC{h':Heap}{f:Addr}{fd:FuncData}{oc:Value}{tk:Nat}(I:Inv X pins σ H s)(hc:H c=some (.cod q))(k:∀b o,s.heap.get? b=some o→h'.get? b=some o)(hs:s.heap.objs.size≤h'.objs.size)(hf:f=h'.objs.size) :
  Inv X pins σ (upd (upd H c (.cod q)) f (.fnc fd)) { s with heap:=h'.push { cls:=oc,data:=.func fd },toks:=tk }:=by
 have e:upd H c (.cod q)=H:=by funext b;unfold upd;split<;>simp_all
 subst hf
 rw [e]
 exact I.laid (fun b u z=>Heap.get?_push_of_some _ (k b u z)) hs ⟨_,_,_,Heap.get?_push_size _ rfl⟩
theorem Inv.missC{h':Heap}{f c':Addr}{fd:FuncData}{oc:Value}{tk:Nat}{tb:Array Value}(I:Inv X pins σ H s)(hP:H P=some (.tbl ps))(hq:qualAt ps.toList pos=some q)(e:s.heap.get? P=some (PySem.W.tabObj tb))(tr:TriplesOk tb.toList)
  (al:∀(p:Pos) (q:Str),qualAt ps.toList p=some q→∀cv,codeAmong p tb.toList=some cv→∃c,cv=Value.ref c∧H c=some (.cod q))
  (hx:Heap.ExtBut P s.heap h') (hge:s.heap.objs.size≤c') (hlt:c' < h'.objs.size) (hrec:h'.CodeRec (.ref c') q) (htb:h'.get? P=some (PySem.W.tabObj (tb++#[rawInt pos.line,rawInt pos.col,.ref c']))) (hf:f=h'.objs.size) :
  Inv X pins σ (upd (upd H c' (.cod q)) f (.fnc fd)) { s with heap:=h'.push { cls:=oc,data:=.func fd },toks:=tk }:=by
 subst hf
 have lt:∀b u,H b=some u→b < s.heap.objs.size:=fun b u z=>Nat.lt_of_not_le fun y=>by rw [I.hok.fresh y] at z;cases z
 have new:∀b,b < s.heap.objs.size→upd (upd H c' (.cod q)) h'.objs.size (.fnc fd) b=H b:=fun b hb=>by
  rw [upd_ne (Nat.ne_of_lt (Nat.lt_trans (Nat.lt_of_lt_of_le hb hge) hlt)),upd_ne (Nat.ne_of_lt (Nat.lt_of_lt_of_le hb hge))]
 have kp:∀b o,b≠P→s.heap.get? b=some o→(h'.push { cls:=oc,data:=.func fd }).get? b=some o:=fun b o hb z=>Heap.get?_push_of_some _ (hx b o hb z)
 have nP:∀b,H b=none→b≠P:=fun b n z=>by rw [z,hP] at n;cases n
 refine I.step (g':=s.gens) (d':=s.drawn) (ch:=[]) (fun _ z=>nomatch z) (fun b ob _ _ _ z n=>kp b ob (nP b n) z) (fun b ob _ _ _ z n=>⟨ob.slots,kp b ob (nP b n) z⟩) (fun b ob _ z n=>by rw [new b (Heap.lt_size z)];exact n)
  (fun b ob _ z=>?_) (fun b xs z=>by rw [new b (lt _ _ z)];exact z) (fun b ob u z=>by rw [new b (lt _ _ z)];exact z) (fun b ps z=>⟨#[],by rw [new b (lt _ _ z),z];simp⟩) (fun m hm=>?_) (fun b u z=>?_) I.bare
 ·by_cases hb:b=P
  ·subst hb;exact⟨_,Heap.get?_push_of_some _ htb⟩
  ·exact⟨ob,kp b ob hb z⟩
 ·obtain⟨ob,es,ep,z,r⟩:=hm
  exact⟨ob,es,ep,kp _ ob (nP _ I.free) z,r⟩
 ·by_cases h1:b=h'.objs.size
  ·subst h1;rw [upd_same] at z;cases z
   exact⟨_,_,_,Heap.get?_push_size _ rfl⟩
  ·rw [upd_ne h1] at z
   by_cases h2:b=c'
   ·subst h2;rw [upd_same] at z;cases z
    obtain⟨c₂,oc',vs,t,e2,hoc,r⟩:=hrec
    cases e2
    exact⟨_,oc',vs,t,rfl,Heap.get?_push_of_some _ hoc,r⟩
   ·rw [upd_ne h2] at z
    by_cases h3:b=P
    ·subst h3
     rw [hP] at z;cases z
     have hl:(tb++#[rawInt pos.line,rawInt pos.col,Value.ref c']).toList=tb.toList++[rawInt pos.line,rawInt pos.col,.ref c']:=by simp
     refine⟨_,Heap.get?_push_of_some _ htb,by rw [hl];exact TriplesOk_snoc _ _ _ _ tr,fun p q' hq' cv hcv=>?_⟩
     rw [hl] at hcv
     rcases among_snoc _ tr hcv with hcv|⟨e1,e2,rfl⟩
     ·obtain⟨c,e1,e2⟩:=al p q' hq' cv hcv
      exact⟨c,e1,by rw [new c (lt _ _ e2)];exact e2⟩
     ·rw [qualAt_same e1 e2,hq] at hq'
      cases hq'
      exact⟨c',rfl,by rw [upd_ne (Nat.ne_of_lt hlt),upd_same]⟩
    ·refine(I.hok b u z).stay (fun a v ha y=>kp a v (fun w=>?_) y) (fun a y=>by rw [new a (lt _ _ y)];exact y) fun a xs y=>by rw [new a (lt _ _ y)];exact y
     subst w
     rcases ha with w|w
     ·exact h3 w.symm
     ·rw [hP] at w;cases w
def tDef(P:Addr)(pos:Pos)(q:Str)(i:Nat)(mk:Addr→Value→Value→FuncData):TS:=fun D σ H=>(∃ps,H P=some (.tbl ps)∧qualAt ps.toList pos=some q) ∧
 ∀f c ctv doc,H f=none→f≠c→(H c=none∨H c=some (.cod q))→D.nx (σ.set i (some (.ref f))) (upd (upd H c (.cod q)) f (.fnc (mk c ctv doc)))
theorem ps_def{i:Nat}{name ident:Str}{params:Arguments}{body:List Stmt}{scope:Scope}{clos:List (Str × Addr)}(hN:X.N.Nodup)(hi:X.N[i]?=some name)(hx:Loc X.env.scope name)(hcode:X.env.code=.ref c)(C:PySem.W.CodeHd X.base c P)(hq:qualnameIn X.env name name=q)
  (hd0:params.defaults=[]:=by rfl) (hk0:params.kw_defaults=[]:=by rfl) (ha:annTrees params none X.env=[]:=by rfl) (hcl:closureFor scope X.env=pure clos:=by rfl) (hf:X.fn name=true∨X.env.scope.names.lookup name=some .local:=by first|exact .inl rfl|exact .inr rfl|assumption) :
  PS X (.FunctionDef name params body [] none [] scope none name pos) (tDef P pos q i fun c' ctv doc=>PySem.W.fnX name q params body scope clos .none .none doc ((X.mg "__name__").getD .none) none (.ref c') ctv):=by
 intro pins s σ H D I h
 obtain⟨⟨ps,hP,hqa⟩,h⟩:=h
 obtain⟨tb,e,tr,al⟩:=I.hok P _ hP
 refine PySem.W.nestDef_K hd0 hk0 ha ?_
 rw [hq]
 cases hh:codeAmong pos tb.toList with
 |some cv =>
  obtain⟨c',rfl,hc⟩:=al pos q hqa cv hh
  refine PySem.W.makeFunction_hit (mg:=X.mg) hcl I.ok.glob (I.mod.glob.keeps I.bk) hcode (C.keeps I.bk) e tr hh (I.bltAt hP) fun ctv doc h' tk hk hsz=>?_
  have hn:H h'.objs.size=none:=I.hok.fresh hsz
  exact store_ok (v:=.ref h'.objs.size) (I.hitC hc hk hsz rfl) hN hi hx rfl (fun s' I'=>⟨_,_,I',h _ c' ctv doc hn (fun z=>by rw [z,hc] at hn;cases hn) (.inr hc)⟩) hf
 |none =>
  refine PySem.W.makeFunction_K (mg:=X.mg) hcl I.ok.glob (I.mod.glob.keeps I.bk) hcode (C.keeps I.bk) e tr hh (I.mgP hP) (I.bltAt hP) fun c' ctv doc h' tk hx' hge hlt hrec htb=>?_
  exact store_ok (v:=.ref h'.objs.size) (I.missC hP hqa e tr al hx' hge hlt hrec htb rfl) hN hi hx rfl (fun s' I'=>⟨_,_,I',h _ c' ctv doc (I.hok.fresh (Nat.le_trans hge (Nat.le_of_lt hlt))) (Nat.ne_of_gt hlt) (.inl (I.hok.fresh hge))⟩) hf
end
end L2
namespace L2
open PySem PySem.Spec PyProof.Rows
def dropC(ads:List Addr)(H:Hp):Hp:=fun b=>if b∈ads then none else H b
def addC(ads:List Addr)(H H':Hp):Hp:=fun b=>if b∈ads then H b else H' b
theorem drop_in{ads:List Addr}{H:Hp}{b:Addr}(h:b∈ads):dropC ads H b=none:=if_pos h
theorem drop_no{ads:List Addr}{H:Hp}{b:Addr}(h:b∉ads):dropC ads H b=H b:=if_neg h
theorem add_in{ads:List Addr}{H H':Hp}{b:Addr}(h:b∈ads):addC ads H H' b=H b:=if_pos h
theorem add_no{ads:List Addr}{H H':Hp}{b:Addr}(h:b∉ads):addC ads H H' b=H' b:=if_neg h
abbrev Froz(H:Hp):List Addr→List V→Prop:=Paired fun c v=>∃o,H c=some (.frz o (.cel v))
def FrzAll(H:Hp)(ads:List Addr):Prop:=∀c∈ads,∃o v,H c=some (.frz o (.cel v))
theorem Froz.all{H:Hp}:∀{ads:List Addr} {cvs:List V},Froz H ads cvs→FrzAll H ads
 |_,_,.nil=>fun _ z=>nomatch z
 |_,_,.cons ⟨o,r⟩ t=>fun c hc=>by
  rcases List.mem_cons.mp hc with rfl|hc
  ·exact⟨o,_,r⟩
  ·exact Froz.all t c hc
theorem Froz.get{H:Hp}:∀{ads:List Addr} {cvs:List V} {i:Nat} {c:Addr},Froz H ads cvs→ads[i]?=some c→∃v o,cvs[i]?=some v∧H c=some (.frz o (.cel v))
 |_,_,_,_,.nil,e=>by simp at e
 |_,_,0,_,.cons ⟨o,r⟩ _,e=>by simp at e;subst e;exact⟨_,o,rfl,r⟩
 |_,_,i+1,c,.cons _ t,e=>by
  obtain⟨v,o,h1,h2⟩:=Froz.get (i:=i) (c:=c) t (by simpa using e)
  exact⟨v,o,by simpa using h1,h2⟩
theorem Froz.same{H H':Hp}(s:Same H H'):∀{ads:List Addr} {cvs:List V},Froz H ads cvs→Froz H' ads cvs
 |_,_,.nil=>.nil
 |_,_,.cons ⟨o,r⟩ t=>.cons ⟨o,s _ _ r⟩ (Froz.same s t)
theorem Same.dropC{H0 H:Hp}{ads:List Addr}(s:Same H0 H)(n:∀c∈ads,H0 c=none):Same H0 (dropC ads H):=fun b o e=>by
 rw [drop_no fun z=>by rw [n b z] at e;cases e]
 exact s b o e
section
variable{P:Program}{w:World}{H H':Hp}{h h':Heap}{ads:List Addr}{fs:List Addr}
theorem HOk.drop(x:HOk P w H h)(f:FrzAll H ads):HOk P w (dropC ads H) h:=fun b u e=>by
 by_cases hb:b∈ads
 ·rw [drop_in hb] at e;cases e
 ·rw [drop_no hb] at e
  have no:∀a o,H a=some o→(∀ob v,o≠.frz ob (.cel v))→dropC ads H a=some o:=fun a o z n=>by
   rw [drop_no fun y=>by obtain⟨ob,v,q⟩:=f a y;rw [z] at q;exact n ob v (Option.some.inj q)]
   exact z
  exact(x b u e).stay (fun _ _ _ q=>q) (fun a z=>no a _ z fun _ _=>nofun) fun a xs z=>no a _ z (by cases xs<;>exact fun _ _=>nofun)
theorem HOk.add(x:HOk P w H h)(x':HOk P w H' h')(f:FrzAll H ads)(n:∀c∈ads,H' c=none)(k:∀c∈ads,∀o,h.get? c=some o→h'.get? c=some o):HOk P w (addC ads H H') h':=fun b u e=>by
 by_cases hb:b∈ads
 ·rw [add_in hb] at e
  obtain⟨o,v,q⟩:=f b hb
  rw [q] at e;cases e
  obtain⟨e1,u,r,ob,e2,d⟩:=x b _ q
  exact⟨k b hb _ e1,u,r,ob,k b hb _ e2,d⟩
 ·rw [add_no hb] at e
  have no:∀a o,H' a=some o→addC ads H H' a=some o:=fun a o z=>by
   rw [add_no fun y=>by rw [n a y] at z;cases z]
   exact z
  exact(x' b u e).stay (fun _ _ _ q=>q) (fun a z=>no a _ z) fun a xs z=>no a _ z
theorem Un.drop(x:HOk P w H h)(x':HOk P w H' h')(f:FrzAll H ads)(u:Un fs [] H H' h h'):Un fs [] (dropC ads H) (dropC ads H') h h':=by
 have f':FrzAll H' ads:=fun c hc=>let ⟨o,v,e⟩:=f c hc;⟨o,v,u.frzs _ _ _ e⟩
 have no:∀a o,H a=some o→(∀ob v,o≠.frz ob (.cel v))→a∉ads:=fun a o z n y=>by obtain⟨ob,v,q⟩:=f a y;rw [z] at q;exact n ob v (Option.some.inj q)
 have kp:∀b o,b∈ads→h.get? b=some o→h'.get? b=some o:=fun b o hb e=>by
  obtain⟨o1,v,q⟩:=f b hb
  obtain⟨e1,_⟩:=x b _ q
  obtain⟨e2,_⟩:=x' b _ (u.frzs _ _ _ q)
  rw [e] at e1;cases e1;exact e2
 refine⟨fun b o e n hb hx=>?_,fun b o e n hb hx=>?_,fun b o e n hx=>?_,u.there,fun b xs e=>?_,fun b o v e=>?_,fun b ps e=>?_⟩
 ·by_cases hc:b∈ads
  ·exact kp b o hc e
  ·rw [drop_no hc] at n;exact u.keep b o e n hb hx
 ·by_cases hc:b∈ads
  ·exact⟨o.slots,kp b o hc e⟩
  ·rw [drop_no hc] at n;exact u.slot b o e n hb hx
 ·by_cases hc:b∈ads
  ·exact drop_in hc
  ·rw [drop_no hc] at n ⊢;exact u.free b o e n hx
 ·by_cases hc:b∈ads
  ·rw [drop_in hc] at e;cases e
  ·rw [drop_no hc] at e ⊢;exact u.tups b xs e
 ·by_cases hc:b∈ads
  ·rw [drop_in hc] at e;cases e
  ·rw [drop_no hc] at e ⊢;exact u.frzs b o v e
 ·by_cases hc:b∈ads
  ·rw [drop_in hc] at e;cases e
  ·rw [drop_no hc] at e ⊢;exact u.tbls b ps e
theorem Un.adds(x:HOk P w H h)(f:FrzAll H ads)(nf:∀c∈ads,c∉fs)(u:Un fs [] (dropC ads H) H' h h') :
  Un fs [] H (addC ads H H') h h'∧(∀c∈ads,H' c=none)∧∀c∈ads,∀o,h.get? c=some o→h'.get? c=some o:=by
 have th:∀c∈ads,∃o,h.get? c=some o:=fun c hc=>let ⟨o,v,e⟩:=f c hc;⟨o,(x c _ e).1⟩
 refine⟨⟨fun b o e n hb hx=>?_,fun b o e n hb hx=>?_,fun b o e n hx=>?_,u.there,fun b xs e=>?_,fun b o v e=>?_,fun b ps e=>?_⟩,fun c hc=>let ⟨o,e⟩:=th c hc;u.free c o e (drop_in hc) (by simp),fun c hc o e=>u.keep c o e (drop_in hc) (nf c hc) (by simp)⟩
 ·exact u.keep b o e (by unfold dropC;split<;>first|rfl|exact n) hb hx
 ·exact u.slot b o e (by unfold dropC;split<;>first|rfl|exact n) hb hx
 ·by_cases hc:b∈ads
  ·rw [add_in hc];exact n
  ·rw [add_no hc];exact u.free b o e (by rw [drop_no hc];exact n) hx
 ·by_cases hc:b∈ads
  ·rw [add_in hc];exact e
  ·rw [add_no hc];exact u.tups b xs (by rw [drop_no hc];exact e)
 ·by_cases hc:b∈ads
  ·rw [add_in hc];exact e
  ·rw [add_no hc];exact u.frzs b o v (by rw [drop_no hc];exact e)
 ·by_cases hc:b∈ads
  ·exact⟨#[],by rw [add_in hc,e];simp⟩
  ·obtain⟨m,z⟩:=u.tbls b ps (by rw [drop_no hc];exact e)
   exact⟨m,by rw [add_no hc];exact z⟩
end
structure CXF(P:Program)(w:World)(CX:CXT):Prop where
 drop:∀(outer:List Env) (H:Hp) (ads:List Addr) (s:Shared) (E:XK) (e:Value) (s':Shared),HOk P w H s.heap→FrzAll H ads→CX outer H s (fun c d H'=>E c d (dropC ads H')) e s'→CX outer (dropC ads H) s E e s'
 add:∀(outer:List Env) (H:Hp) (ads:List Addr) (s:Shared) (E:XK) (e:Value) (s':Shared),HOk P w H s.heap→FrzAll H ads→(∀b∈frs outer,H b=none)→CX outer (dropC ads H) s (fun c d H'=>(∀a∈ads,H' a=none)→E c d (addC ads H H')) e s'→CX outer H s E e s'
theorem cxf1{P:Program}{w:World}:CXF P w (CX1 P w) where
 drop:=fun outer H ads s E e s' ok f h=>by
  obtain⟨x,cls,d,H',rfl,fl,hd,hE⟩:=h
  have f':FrzAll H' ads:=fun c hc=>let ⟨o,v,e⟩:=f c hc;⟨o,v,fl.un.frzs _ _ _ e⟩
  obtain⟨B,a0,g,c1,c2⟩:=fl.fl
  refine⟨x,cls,d,dropC ads H',rfl,⟨fl.os,fl.bare,Un.drop ok fl.hok f fl.un,fl.hok.drop f',⟨B,a0,g,fun b o e=>c1 b o ?_,c2⟩,?_⟩,hd,hE⟩
  ·by_cases hb:b∈ads
   ·rw [drop_in hb] at e;cases e
   ·rw [drop_no hb] at e;exact e
  ·unfold dropC;split
   ·rfl
   ·exact fl.free
 add:=fun outer H ads s E e s' ok f nf h=>by
  obtain⟨x,cls,d,H',rfl,fl,hd,hE⟩:=h
  obtain⟨B,a0,g,c1,c2⟩:=fl.fl
  have na:∀c∈ads,c∉frs outer:=fun c hc z=>by obtain⟨o,v,e⟩:=f c hc;rw [nf c z] at e;cases e
  obtain⟨u,n,k⟩:=Un.adds ok f na fl.un
  have inB:∀c∈ads,∃u,B.get? c=some u:=fun c hc=>by
   obtain⟨o,v,e⟩:=f c hc
   exact c2 c o (ok c _ e).1 (na c hc)
  refine⟨x,cls,d,addC ads H H',rfl,⟨fl.os,fl.bare,u,HOk.add ok fl.hok f n k,⟨B,a0,g,fun b o e=>?_,c2⟩,?_⟩,hd,hE n⟩
  ·by_cases hb:b∈ads
   ·exact inB b hb
   ·rw [add_no hb] at e;exact c1 b o e
  ·rw [add_no fun z=>by obtain⟨u,e⟩:=inB x z;rw [g.2.1] at e;cases e]
   exact fl.free
inductive CapsOk (X:Cx):List (Nat × Str × Addr)→Prop
 |nil:CapsOk X []
 |cons {i:Nat} {y:Str} {c:Addr} {l:List (Nat × Str × Addr)} (h1:X.N[i]?=some y) (h2:X.env.kindOf y=some .cell) (h3:X.env.cells.lookup y=some c) (h4:X.fn y=true) (r:CapsOk X l):CapsOk X ((i,y,c)::l)
theorem CapsOk.mem{X:Cx}:∀{l:List (Nat × Str × Addr)},CapsOk X l→∀p∈l,X.N[p.1]?=some p.2.1∧X.env.kindOf p.2.1=some .cell∧X.env.cells.lookup p.2.1=some p.2.2∧X.fn p.2.1=true
 |_,.nil=>fun _ z=>nomatch z
 |_,.cons h1 h2 h3 h4 r=>fun p hp=>by
  rcases List.mem_cons.mp hp with rfl|hp
  ·exact⟨h1,h2,h3,h4⟩
  ·exact r.mem p hp
theorem CapsOk.nodup{X:Cx}(ok:X.Ok):∀{l:List (Nat × Str × Addr)},CapsOk X l→(l.map (·.2.1)).Nodup→(l.map (·.2.2)).Nodup
 |_,.nil,_=>List.nodup_nil
 |_,.cons (y:=y) (c:=c) h1 h2 h3 _ r,nd=>by
  obtain⟨n1,n2⟩:=List.nodup_cons.mp nd
  refine List.nodup_cons.mpr ⟨fun z=>?_,r.nodup ok n2⟩
  obtain⟨p,hp,e⟩:=List.mem_map.mp z
  have h4:=(r.mem p hp).2.2.1
  have e':p.2.2=c:=e
  rw [e'] at h4
  have:p.2.1=y:=ok.inj _ _ _ h4 h3
  exact n1 (List.mem_map.mpr ⟨p,hp,this⟩)
theorem froz_mk{X:Cx}{pins:List (Addr × Obj)}{σ:St}{H:Hp}{s:Shared}(I:Inv X pins σ H s):∀{l:List (Nat × Str × Addr)} {cvs:List V},CapsOk X l→(l.map (·.2.2)).Nodup→Paired (fun p v=>σ[p.1]?=some (some v)) l cvs →
  ∃g:Addr→Option HO,Froz g (l.map (·.2.2)) cvs∧(∀c,c∉l.map (·.2.2)→g c=none)∧∀c o,g c=some o→∃ob v,o=.frz ob (.cel v)∧s.heap.get? c=some ob∧∃u,RelV v u∧s.heap.IsCell c (some u)
 |_,_,.nil,_,.nil=>⟨fun _=>none,.nil,fun _ _=>rfl,fun _ _ z=>nomatch z⟩
 |_,_,.cons (i:=i) (y:=y) (c:=c) h1 h2 h3 _ r,nd,.cons (b:=v) e t=>by
  obtain⟨n1,n2⟩:=List.nodup_cons.mp nd
  obtain⟨g,f1,f2,f3⟩:=froz_mk I r n2 t
  obtain⟨m,hn,hl⟩:=I.loc
  obtain⟨u,rv,lk⟩:=hl i y v h1 e (.inr (.inl h2))
  have cel:s.heap.IsCell c (some u):=by
   rcases lk with ⟨k,_⟩|⟨_,c',e1,e2⟩
   ·rw [h2] at k;cases k
   ·rw [h3] at e1;cases e1;exact e2
  obtain⟨ob,ho,hd⟩:=id cel
  refine⟨fun b=>if b=c then some (.frz ob (.cel v)) else g b,.cons ⟨ob,if_pos rfl⟩ ?_,fun b hb=>?_,fun b o z=>?_⟩
  ·have up:∀{as:List Addr} {vs:List V},c∉as→Froz g as vs→Froz (fun b=>if b=c then some (.frz ob (.cel v)) else g b) as vs:=by
    intro as
    induction as with
    |nil=>intro vs _ h;cases h;exact .nil
    |cons a as ih =>
     intro vs hn h
     cases h with
     |cons r t =>
      obtain⟨o,r⟩:=r
      exact .cons ⟨o,(if_neg fun z=>hn (by rw [←z];exact .head _)).trans r⟩ (ih (fun z=>hn (.tail _ z)) t)
   exact up n1 f1
  ·have:b≠c:=fun z=>hb (by rw [z];exact .head _)
   show(if b=c then _ else _)=_
   rw [if_neg this]
   exact f2 b fun z=>hb (.tail _ z)
  ·by_cases hb:b=c
   ·subst hb
    have z':=(if_pos rfl).symm.trans z
    cases z'
    exact⟨ob,v,rfl,ho,u,rv,cel⟩
   ·have z':=(if_neg hb).symm.trans z
    exact f3 b o z'
section
variable{X:Cx}{CX:CXT}{k:Nat}{f C:Addr}{fd:FuncData}{ps:List Str}{sp:Sp}{dvs:List V}{ds:List Value}{E:XK}{x m:Str}{p pos apos:Pos}{e o:Expr}{es:List Expr}{ta:TE}{t:TA}
theorem run_fnF{pins:List (Addr × Obj)}{σ:St}{H:Hp}{s:Shared}{Q:VK}{us:List Value}{vs cvs:List V}{l:List (Nat × Str × Addr)}(fx:CXF X.prog X.w CX)(F:FnOk X.prog X.w X.K X.mg X.base CX k f fd ps sp)(hr:Room k X.A)(hb:Binds X.K fd ps ds)(hd:Vals dvs ds)(hx:∀(e:Value) (s':Shared),CX X.stack H s E e s'→X.xe e s')
  (hl:CapsOk X l) (hnd:(l.map (·.2.1)).Nodup) (I:Inv X pins σ H s) (r:Vals vs us) (hc:Paired (fun p v=>σ[p.1]?=some (some v)) l cvs)
  (h:∀H2,dropC (l.map (·.2.2)) H2=H→Same H H2→(∀c∈l.map (·.2.2),H c=none)→Froz H2 (l.map (·.2.2)) cvs→sp (vs++dvs) H2 (fun v H'=>Q v (dropC (l.map (·.2.2)) H')) (fun c d H'=>E c d (dropC (l.map (·.2.2)) H'))):wpAny (model X.prog X.w) X.A (call (.ref f) us) (EP X pins σ Q) X.xe s:=by
 have nd:=hl.nodup I.ok hnd
 obtain⟨g,g1,g2,g3⟩:=froz_mk I hl nd hc
 have cn:∀c∈l.map (·.2.2),H c=none:=fun c hc=>by
  obtain⟨p,hp,rfl⟩:=List.mem_map.mp hc
  exact I.freeC _ _ (hl.mem p hp).2.2.1
 have hnF:∀c∈l.map (·.2.2),c∉frs X.stack:=fun c hc z=>by
  obtain⟨p,hp,rfl⟩:=List.mem_map.mp hc
  rcases List.mem_cons.mp (I.stkSub _ z) with y|y
  ·exact I.cne _ _ (hl.mem p hp).2.2.1 y
  ·obtain⟨_,of,hof,_⟩:=I.ok.funs.mem y
   exact Nat.lt_irrefl _ (Nat.lt_of_lt_of_le (Heap.lt_size hof) (I.ok.cab _ _ (hl.mem p hp).2.2.2 (hl.mem p hp).2.2.1))
 have hnB:∀c∈l.map (·.2.2),X.base.get? c=none:=fun c hc=>by
  obtain⟨p,hp,rfl⟩:=List.mem_map.mp hc
  exact Heap.get?_none_of_le (Nat.le_trans I.ok.bsz (I.ok.cab _ _ (hl.mem p hp).2.2.2 (hl.mem p hp).2.2.1))
 generalize hads:l.map (·.2.2)=ads at *
 have hH2:∃H2:Hp,dropC ads H2=H∧Same H H2∧Froz H2 ads cvs∧∀b o,H2 b=some o→(b∉ads∧H b=some o)∨(b∈ads∧g b=some o):=by
  refine⟨fun b=>if b∈ads then g b else H b,?_,fun b o e=>?_,?_,fun b o e=>?_⟩
  ·funext b
   unfold dropC
   by_cases hb:b∈ads
   ·rw [if_pos hb];exact(cn b hb).symm
   ·rw [if_neg hb];exact if_neg hb
  ·show(if b∈ads then g b else H b)=_
   rw [if_neg fun z=>by rw [cn b z] at e;cases e]
   exact e
  ·have up:∀{as:List Addr} {vs:List V},(∀a∈as,a∈ads)→Froz g as vs→Froz (fun b=>if b∈ads then g b else H b) as vs:=by
    intro as
    induction as with
    |nil=>intro vs _ h;cases h;exact .nil
    |cons a as ih =>
     intro vs hn h
     cases h with
     |cons r t =>
      obtain⟨o,r⟩:=r
      exact .cons ⟨o,(if_pos (hn _ (.head _))).trans r⟩ (ih (fun z hz=>hn z (.tail _ hz)) t)
   exact up (fun _ z=>z) g1
  ·by_cases hb:b∈ads
   ·exact .inr ⟨hb,(if_pos hb).symm.trans e⟩
   ·exact .inl ⟨hb,(if_neg hb).symm.trans e⟩
 obtain⟨H2,e2,sm,fz,cs⟩:=hH2
 have ok2:HOk X.prog X.w H2 s.heap:=fun b o e=>by
  rcases cs b o e with ⟨_,q⟩|⟨_,q⟩
  ·exact(I.hok b o q).stay (fun _ _ _ z=>z) (fun a z=>sm a _ z) fun a xs z=>sm a _ z
  ·obtain⟨ob,v,rfl,h1,u,h2,h3⟩:=g3 b o q
   exact⟨h1,u,h2,h3⟩
 have e0:=I.env0
 have e02:Env0 X.prog X.w X.K X.mg X.base X.A X.stack s H2:=⟨e0.frames,e0.mod,fun b o e=>⟨(e0.bs b o e).1,?_⟩,e0.bsz,e0.funs,fun b hb=>?_,ok2,e0.bare⟩
 ·have r2:Vals (vs++dvs) (us++ds):=r.append hd
  have hq:=h H2 e2 sm cn fz
  have hlen:(us++ds).length=ps.length:=by rw [←r2.length];exact F.len _ _ _ _ hq
  refine wpAny_call (codeAny_mono (F.run X.A X.stack s H2 ⟨us,[]⟩ (us++ds) (vs++dvs) _ _ hr e02 (hb s us I.kIn hlen) r2 hq) fun r s' hq=>?_)
  have fa:=fz.all
  cases r with
  |error e=>exact hx e s' (by rw [←e2];exact fx.drop _ _ _ _ _ _ _ ok2 fa hq)
  |ok fl =>
   cases fl with
   |ret u =>
    obtain⟨v,H',os,bare,un,hok,rv,q⟩:=hq
    have f':FrzAll H' ads:=fun c hc=>let ⟨o,v,e⟩:=fa c hc;⟨o,v,un.frzs _ _ _ e⟩
    exact I.after ⟨v,dropC ads H',os,bare,e2▸Un.drop ok2 hok fa un,hok.drop f',rv,q⟩
   |next=>exact False.elim hq
   |brk=>exact False.elim hq
   |cont=>exact False.elim hq
 ·cases q:H2 b with
  |none=>rfl
  |some u =>
   rcases cs b u q with ⟨_,z⟩|⟨hb,z⟩
   ·rw [(e0.bs b o e).2] at z;cases z
   ·rw [hnB b hb] at e;cases e
 ·cases q:H2 b with
  |none=>rfl
  |some u =>
   rcases cs b u q with ⟨_,z⟩|⟨hc,z⟩
   ·rw [e0.frf b hb] at z;cases z
   ·exact absurd hb (hnF b hc)
def tCallF(sp:Sp)(dvs:List V)(E:XK)(l:List (Nat × Str × Addr))(t:TA):TE:=fun σ H Q=>t σ H fun vs H1=>∃cvs,Paired (fun p v=>σ[p.1]?=some (some v)) l cvs ∧
 ∀H2,dropC (l.map (·.2.2)) H2=H1→Same H1 H2→(∀c∈l.map (·.2.2),H1 c=none)→Froz H2 (l.map (·.2.2)) cvs→sp (vs++dvs) H2 (fun v H'=>Q v (dropC (l.map (·.2.2)) H')) (fun c d H'=>E c d (dropC (l.map (·.2.2)) H'))
theorem pe_callF{l:List (Nat × Str × Addr)}(fx:CXF X.prog X.w CX)(F:FnOk X.prog X.w X.K X.mg X.base CX k f fd ps sp)(hr:Room k X.A)(hg:Gl X x)(hm:X.mg x=some (.ref f))(hk:PySem.W.keepIn X.K (.ref f)=true)(hb:Binds X.K fd ps ds)(hd:Vals dvs ds)(hx:Passes CX X E)
  (hl:CapsOk X l) (hnd:(l.map (·.2.1)).Nodup) (ha:PA X (e::es) t) (hdb:(x==("__debug__":Str))=false:=by decide) (he:starEach (e::es) X.env=(false,eval e X.env)::starEach es X.env:=by rfl) (hpl:(backTo pos (starEach es X.env)).any (·.1)=false:=by rfl) :
  PE X (.Call (.Name x p) (e::es) [] pos) (tCallF sp dvs E l t):=by
 intro pins s σ H Q I h
 refine wpAny_Call_Name_kw (ld_glob I hg hm ?_ hdb)
 refine PySem.W.callWith_K (h₀:=X.base) I.ok.mod.kin hk (thn (ha pos pins s σ H _ I h) fun us s1 ⟨vs,H1,I1,r,q⟩=>⟨I1.kIn,?_⟩) he hpl
 obtain⟨cvs,hc,q⟩:=q
 exact run_fnF fx F hr hb hd (fun e s'=>hx pins σ H1 s1 e s' I1) hl hnd I1 r hc q
def tCallV(X:Cx)(CX:CXT)(E:XK)(i:Nat)(t:TA):TE:=fun σ H Q=>∃f fd,σ[i]?=some (some (.ref f))∧H f=some (.fnc fd)∧t σ H fun vs H1=>∃fd ps sp k,H1 f=some (.fnc fd)∧FnOk X.prog X.w X.K X.mg X.base CX k f fd ps sp∧Room k X.A∧Binds X.K fd ps []∧sp vs H1 Q E
theorem Inv.fnAt{pins:List (Addr × Obj)}{σ:St}{H:Hp}{s:Shared}(I:Inv X pins σ H s)(h:H f=some (.fnc fd)):PySem.W.FnAt f s.heap:=let ⟨oc,od,sl,e⟩:=I.hok f _ h;⟨oc,od,fd,sl,e⟩
theorem pe_callV{i:Nat}(hN:PE X (.Name x p) (tVar i))(hx:Passes CX X E)(ha:PA X (e::es) t)(he:starEach (e::es) X.env=(false,eval e X.env)::starEach es X.env:=by rfl)(hpl:(backTo pos (starEach es X.env)).any (·.1)=false:=by rfl) :
  PE X (.Call (.Name x p) (e::es) [] pos) (tCallV X CX E i t):=by
 intro pins s σ H Q I h
 obtain⟨f,fd,hi,hf,h⟩:=h
 refine wpAny_Call_Name_kw (thn (hN pins s σ H (fun v H'=>v=.ref f∧H'=H) I ⟨_,hi,rfl,rfl⟩) fun u s1 ⟨v,H1,I1,rv,e1,e2⟩=>?_)
 subst e1;subst e2
 obtain rfl:u=Value.ref f:=rv
 refine PySem.W.callWith_F (I1.fnAt hf) (thn (ha pos pins s1 σ H1 _ I1 h) fun us s2 ⟨vs,H2,I2,r,q⟩=>?_) he hpl
 obtain⟨fd,ps,sp,k,hf2,F,hr,hb,q⟩:=q
 exact⟨I2.fnAt hf2,run_fn (dvs:=[]) F hr hb .nil hx I2 r (by rw [List.append_nil];exact q)⟩
end
end L2
namespace L2
open PySem PySem.Spec PyProof.Rows
structure CloScope(ps caps:List Str)(sc:Scope):Prop where
 kind:sc.kind=.function
 co:sc.isCoroutine=false
 gen:sc.isGenerator=false
 nd:(ps++caps).Nodup
 par:∀x∈ps,sc.names.lookup x=some .local
 cap:∀x∈caps,sc.names.lookup x=some .free
 nocell:∀y∈sc.names,y.2≠.cell
 free:∀y∈sc.names,y.2=.free→y.1∈caps
def cxClo(CX:CXT)(P:Program)(w:World)(K:PySem.W.Frag)(mg:Str→Option Value)(base:Heap)(N:List Str)(qual:Str)(scope:Scope)(f:Addr)(cd:Value)(cl:List (Str × Addr))(A:Around)(outer:List Env)(s:Shared)(H:Hp)(E:XK):Cx where
 prog:=P
 w:=w
 K:=K
 mg:=mg
 base:=base
 A:=A.deeper (PySem.W.envX qual scope s.heap.objs.size f cd cl)
 N:=N
 s₀:=s
 H₀:=H
 env:=PySem.W.envX qual scope s.heap.objs.size f cd cl
 outer:=outer
 stack:=PySem.W.envX qual scope s.heap.objs.size f cd cl::outer
 ex:=[]
 calm:=true
 fn:=fun _=>false
 pn:=[]
 xe:=fun e s'=>wpAny (model P w) (A.deeper (PySem.W.envX qual scope s.heap.objs.size f cd cl)) (leaving (PySem.W.envX qual scope s.heap.objs.size f cd cl) e) (fun _ s''=>CX outer H s E e s'') (fun e' s''=>CX outer H s E e' s'') s'
theorem zip_lookup{y:Str}{c:Addr}:∀{caps:List Str} {ads:List Addr},(caps.zip ads).lookup y=some c→∃i:Nat,caps[i]?=some y∧ads[i]?=some c
 |[],_,h=>by cases h
 |_::_,[],h=>by cases h
 |a::caps,b::ads,h=>by
  rw [List.zip_cons_cons,List.lookup_cons] at h
  cases q:y==a with
  |true=>rw [q] at h;cases h;exact⟨0,by rw [eq_of_beq q];rfl,rfl⟩
  |false=>rw [q] at h;obtain⟨i,h1,h2⟩:=zip_lookup h;exact⟨i+1,h1,h2⟩
theorem lookup_zip{y:Str}:∀{caps:List Str} {ads:List Addr} {i:Nat},caps.length=ads.length→caps.Nodup→caps[i]?=some y→∃c,(caps.zip ads).lookup y=some c∧ads[i]?=some c
 |[],_,_,_,_,h=>by simp at h
 |_::_,[],_,l,_,_=>by simp at l
 |a::caps,b::ads,0,_,_,h=>by
  simp at h;subst h
  exact⟨b,by rw [List.zip_cons_cons,List.lookup_cons];simp,rfl⟩
 |a::caps,b::ads,i+1,l,nd,h=>by
  obtain⟨n1,n2⟩:=List.nodup_cons.mp nd
  have h':caps[i]?=some y:=by simpa using h
  obtain⟨c,h1,h2⟩:=lookup_zip (i:=i) (ads:=ads) (by simpa using l) n2 h'
  refine⟨c,?_,h2⟩
  rw [List.zip_cons_cons,List.lookup_cons]
  have:(y==a)=false:=beq_eq_false_iff_ne.mpr fun z=>n1 (by rw [←z];exact List.mem_of_getElem? h')
  rw [this];exact h1
theorem rev_lookup{y:Str}{u:Value}:∀{ps:List Str} {us:List Value} {i:Nat},ps.Nodup→ps[i]?=some y→us[i]?=some u→(ps.zip us).reverse.lookup y=some u
 |[],_,_,_,h,_=>by simp at h
 |_::_,[],_,_,_,h=>by simp at h
 |a::ps,b::us,i,nd,h1,h2=>by
  obtain⟨n1,n2⟩:=List.nodup_cons.mp nd
  rw [List.zip_cons_cons,List.reverse_cons,List.lookup_append]
  cases i with
  |zero =>
   simp at h1 h2;subst h1;subst h2
   have:(ps.zip us).reverse.lookup a=none:=List.lookup_eq_none_iff.mpr fun p hp=>by
    have:=(List.of_mem_zip (List.mem_reverse.mp hp)).1
    have q:a≠p.1:=fun z=>n1 (by rw [z];exact this)
    simpa using q
   rw [this];simp
  |succ i=>rw [rev_lookup (i:=i) n2 (by simpa using h1) (by simpa using h2)];rfl
theorem Froz.len{H:Hp}{ads:List Addr}{cvs:List V}(f:Froz H ads cvs):ads.length=cvs.length:=Paired.length f
theorem inv_clo{CX:CXT}{P:Program}{w:World}{K:PySem.W.Frag}{mg:Str→Option Value}{base:Heap}{ps caps:List Str}{qual:Str}{scope:Scope}{f:Addr}{cd:Value}{ads:List Addr}{cvs:List V}{A:Around}{outer:List Env}{s:Shared}{h₁:Heap}{tk:Nat}{H:Hp}{E:XK}{us:List Value}{vs:List V}
  (S:CloScope ps caps scope) (hd:A.handled=none) (e0:Env0 P w K mg base A outer s H) (hl:vs.length=ps.length) (r:Vals vs us) (fz:Froz H ads cvs) (hc:caps.length=ads.length) (nd:ads.Nodup)
  (hns:h₁.Ns s.heap.objs.size (fun x=>(ps.zip us).reverse.lookup x)) (hk:∀b o,s.heap.get? b=some o→h₁.get? b=some o) :
  Inv (cxClo CX P w K mg base (ps++caps) qual scope f cd (caps.zip ads) A outer s (dropC ads H) E) [] (start (ps++caps) (vs++cvs)) (dropC ads H) { s with heap:=h₁,toks:=tk }:=by
 have noA:∀b:Addr,b∉(cxClo CX P w K mg base (ps++caps) qual scope f cd (caps.zip ads) A outer s (dropC ads H) E).ex:=fun b z=>absurd (show b∈([]:List Addr) from z) (by simp)
 have ndp:ps.Nodup:=S.nd.sublist (List.sublist_append_left _ _)
 have ndc:caps.Nodup:=S.nd.sublist (List.sublist_append_right _ _)
 have fa:=fz.all
 have dn:∀b,H b=none→dropC ads H b=none:=fun b n=>by unfold dropC;split<;>first|rfl|exact n
 have cin:∀y c,(caps.zip ads).lookup y=some c→c∈ads:=fun y c h=>let ⟨_,_,h2⟩:=zip_lookup h;List.mem_of_getElem? h2
 have cel:∀c∈ads,∀o v,H c=some (.frz o (.cel v))→∃u,RelV v u∧h₁.IsCell c (some u):=fun c _ o v e=>by
  obtain⟨_,u,rv,ic⟩:=e0.hok c _ e
  exact⟨u,rv,ic.keeps hk⟩
 refine⟨⟨e0.mod,S.kind,rfl,rfl,Nat.le_refl _,fun y z c h1 h2=>?_,fun y hy=>?_,(fun y c h _=>absurd (show false=true from h) Bool.false_ne_true),fun _=>hd,Around.frames_deeper e0.frames,.inr ⟨rfl,rfl⟩,fun b z=>absurd z (noA b),fun b o e=>⟨(e0.bs b o e).1,dn b (e0.bs b o e).2⟩,e0.bsz,fun b _ _=>noA b,fun b z=>absurd z (noA b),e0.funs,fun b hb=>dn b (e0.frf b hb)⟩,
  rfl,e0.bare,Un.kept hk,⟨_,hns,fun i y v h1 h2 h3=>?_⟩,fun y c h=>?_,dn _ (e0.hok.fresh (Nat.le_refl _)),fun y c h=>drop_in (cin y c h),fun p hp=>absurd (show p∈([]:List (Addr × Obj)) from hp) (by simp),(HOk.drop e0.hok fa).kept hk,?_⟩
 ·obtain⟨i,a1,a2⟩:=zip_lookup h1
  obtain⟨j,b1,b2⟩:=zip_lookup h2
  obtain⟨i1,i2⟩:=List.getElem?_eq_some_iff.mp a2
  obtain⟨j1,j2⟩:=List.getElem?_eq_some_iff.mp b2
  have:i=j:=(List.getElem_inj nd).mp (i2.trans j2.symm)
  subst this
  rw [a1] at b1;exact Option.some.inj b1
 ·have hy:scope.names.lookup y=some .cell∨scope.names.lookup y=some .free:=hy
  rcases hy with hy|hy
  ·exact absurd rfl (S.nocell _ (PySem.mem_of_lookup hy))
  ·have:=S.free _ (PySem.mem_of_lookup hy) rfl
   obtain⟨i,hi⟩:=List.getElem?_of_mem this
   obtain⟨c,h1,_⟩:=lookup_zip hc ndc hi
   exact⟨c,h1⟩
 ·unfold start at h2
  have hlc:=fz.len
  have ei:(vs++cvs)[i]?=some v:=by
   by_cases hi:i < (vs++cvs).length
   ·rw [List.getElem?_append_left (by simpa using hi),List.getElem?_map] at h2
    cases e:(vs++cvs)[i]? with
    |none=>rw [e] at h2;cases h2
    |some a=>rw [e] at h2;cases h2;rfl
   ·rw [List.getElem?_append_right (by simpa using hi),List.getElem?_replicate] at h2
    split at h2<;>cases h2
  by_cases hi:i < ps.length
  ·have hy:ps[i]?=some y:=by rw [←h1];exact(List.getElem?_append_left hi).symm
   rw [List.getElem?_append_left (by omega)] at ei
   obtain⟨u,hu,rv⟩:=r.get ei
   exact⟨u,rv,.inl ⟨S.par y (List.mem_of_getElem? hy),rev_lookup ndp hy hu⟩⟩
  ·have hy:caps[i - ps.length]?=some y:=by rw [←h1];exact(List.getElem?_append_right (by omega)).symm
   rw [List.getElem?_append_right (by omega),hl] at ei
   obtain⟨c,e1,e2⟩:=lookup_zip hc ndc hy
   obtain⟨v',o,e3,e4⟩:=fz.get e2
   rw [ei] at e3;cases e3
   obtain⟨u,rv,ic⟩:=cel c (List.mem_of_getElem? e2) o v e4
   exact⟨u,rv,.inr ⟨.inr (S.cap y (List.mem_of_getElem? hy)),c,e1,ic⟩⟩
 ·obtain⟨o,v,e⟩:=fa c (cin y c h)
  obtain⟨u,_,ic⟩:=cel c (cin y c h) o v e
  exact⟨_,ic⟩
 ·have:=fz.len
  unfold start
  show _=(ps++caps).length
  rw [List.length_append,List.length_map,List.length_replicate,List.length_append,List.length_append]
  omega
def spClo(f:Addr)(fd:FuncData)(c:Addr)(q:Str)(ads:List Addr)(cvs:List V)(n:Nat)(B:Sp):Sp:=fun vs H Q E=>vs.length=n∧H f=some (.fnc fd)∧H c=some (.cod q)∧Froz H ads cvs ∧
 B vs (dropC ads H) (fun v H'=>(∀a∈ads,H' a=none)→Q v (addC ads H H')) (fun k d H'=>(∀a∈ads,H' a=none)→E k d (addC ads H H'))
section
variable{CX:CXT}{P:Program}{w:World}{K:PySem.W.Frag}{mg:Str→Option Value}{base:Heap}{k:Nat}{f c:Addr}{name qual:Str}{params:Arguments}{scope:Scope}{ps caps:List Str}{ads:List Addr}{cvs:List V}{B:Sp}
theorem fn_inner{body:List Stmt}{doc pm ctv:Value}(fx:CXF P w CX)(S:CloScope ps caps scope)(hc:caps.length=ads.length)(nd:ads.Nodup)
  (hbody:∀(A:Around) (outer:List Env) (s:Shared) (H:Hp) (vs:List V) (Q:VK) (E:XK),Room k (A.deeper (PySem.W.envX qual scope s.heap.objs.size f (.ref c) (caps.zip ads)))→B vs H Q E→vs.length=ps.length →
   ∃t,PSs (cxClo CX P w K mg base (ps++caps) qual scope f (.ref c) (caps.zip ads) A outer s H E) body t∧t { nx:=fun _ H'=>Q .non H',rt:=Q } (start (ps++caps) (vs++cvs)) H) :
  FnOk P w K mg base CX (k+1) f (PySem.W.fnX name qual params body scope (caps.zip ads) .none .none doc pm none (.ref c) ctv) ps (spClo f (PySem.W.fnX name qual params body scope (caps.zip ads) .none .none doc pm none (.ref c) ctv) c qual ads cvs ps.length B):=by
 refine⟨fun _ _ _ _ h=>h.1,fun A outer s H args us vs Q E hr e0 hb r hsp=>?_⟩
 obtain⟨hl,hf,hcd,fz,hB⟩:=hsp
 obtain⟨oc,od,sl,e⟩:=e0.hok f _ hf
 have lim:s.heap.NoLimit:=e0.mod.nolimit.keeps fun b o e=>(e0.bs b o e).1
 have hloc:∀y∈ps.zip us,scope.names.lookup y.1=some .local:=fun⟨n,v⟩ hy=>S.par n (List.of_mem_zip hy).1
 refine codeAny_call_function hr.depth e rfl S.co S.gen rfl (e0.hok c _ hcd) (hb _ _ _ _ ?_)
 refine wpAny_newFunctionEnv S.nocell hloc (fun h₁ hns hsb=>⟨lim.fresh _ hsb,?_⟩) S.kind
 have hk:∀b o,s.heap.get? b=some o→h₁.get? b=some o:=fun b o e=>hsb.extBut b o (Nat.ne_of_lt (Heap.lt_size e)) (Heap.get?_push_of_some _ e)
 show codeAny _ _ (.func body (PySem.W.envX qual scope s.heap.objs.size f (.ref c) (caps.zip ads))) _ _
 obtain⟨t,ht,hq⟩:=hbody A outer s (dropC ads H) vs _ _ (hr.deeper _) hB hl
 have I:=inv_clo (CX:=CX) (qual:=qual) (f:=f) (cd:=.ref c) (tk:=s.toks+(ps.zip us).length) (E:=fun k d H'=>(∀a∈ads,H' a=none)→E k d (addC ads H H')) S hr.hd e0 hl r fz hc nd hns hk
 have fa:=fz.all
 have na:∀c∈ads,c∉frs outer:=fun c hc z=>by obtain⟨o,v,e⟩:=fa c hc;rw [e0.frf c z] at e;cases e
 refine codeAny_func (wpAny_mono (ht [] _ _ _ _ I hq) (fun fl s' hs=>?_) fun e s' hs=>?_)
 ·have fin:∀{σ':St} {H':Hp} {v:V} {u:Value},Inv (cxClo CX P w K mg base (ps++caps) qual scope f (.ref c) (caps.zip ads) A outer s (dropC ads H) (fun k d H'=>(∀a∈ads,H' a=none)→E k d (addC ads H H'))) [] σ' H' s'→RelV v u→((∀a∈ads,H' a=none)→Q v (addC ads H H'))→CE outer P w H s Q u s':=fun {σ' H' v u} J rv q=>by
   obtain⟨un,n,kk⟩:=Un.adds e0.hok fa na J.base
   exact⟨v,addC ads H H',J.os,J.bare,un,HOk.add e0.hok J.hok fa n kk,rv,q n⟩
  cases fl with
  |ret u =>
   obtain⟨v,σ',H',J,rv,q⟩:=hs
   exact fin J rv q
  |next =>
   obtain⟨σ',H',J,q⟩:=hs
   exact fin (v:=V.non) (u:=Value.none) J rfl q
  |brk =>
   obtain⟨_,_,_,q⟩:=hs
   exact False.elim q
  |cont =>
   obtain⟨_,_,_,q⟩:=hs
   exact False.elim q
 ·exact wpAny_mono hs (fun _ s'' z=>fx.add _ _ _ _ _ _ _ e0.hok fa e0.frf z) fun _ s'' z=>fx.add _ _ _ _ _ _ _ e0.hok fa e0.frf z
end
end L2
namespace L2
open PySem PySem.Spec PyProof.Rows
structure FunT(K:PySem.W.Frag)(x qual:Str)(st:Stmt)(f:Addr)(fd:FuncData)(c P:Addr):Prop where
 ex:∃(oc:Value) (od:Option Addr) (kV doc pm:Value) (an:Option Addr) (ct:Value) (osl:Array (Option Value)),
  fd=PySem.W.fnOf x qual (defArgs st) (defBody st) (defScope st) .none kV doc pm an (.ref c) ct∧K.lookup f=some ⟨oc,od,.func fd,osl⟩∧PySem.W.codeIn K (.ref c) qual=true
 kp:PySem.W.keepIn K (.ref f)=true
 hd:PySem.W.codeHdIn K c P=true
section
variable{Pr:Program}{w:World}{K:PySem.W.Frag}{mg:Str→Option Value}{base:Heap}{x qual:Str}{st:Stmt}{f c P:Addr}{fd:FuncData}{N ps:List Str}{k:Nat}{sp:Sp}
theorem FunT.fn(F:FunT K x qual st f fd c P):Fun K x qual st f fd:=let ⟨oc,od,kV,doc,pm,an,ct,osl,e,l,h⟩:=F.ex;⟨⟨oc,od,kV,doc,pm,an,_,ct,osl,e,l,h⟩,F.kp⟩
theorem FunT.okG{CX:CXT}(F:FunT K x qual st f fd c P)(S:FnScope N ps (defScope st))(len:∀vs H Q E,sp vs H Q E→vs.length=ps.length)
  (hbody:∀(A:Around) (outer:List Env) (s:Shared) (H:Hp) (vs:List V) (Q:VK) (E:XK),Room k (A.deeper (envOfC qual (defScope st) s.heap.objs.size f (.ref c)))→sp vs H Q E →
   ∃t,PSs (cxOf CX Pr w K mg base N qual (defScope st) f (.ref c) A outer s H E) (defBody st) t∧t { nx:=fun _ H'=>Q .non H',rt:=Q } (start N vs) H):FnOk Pr w K mg base CX (k+1) f fd ps sp:=by
 obtain⟨oc,od,kV,doc,pm,an,ct,osl,rfl,lk,hcd⟩:=F.ex
 exact fn_of lk hcd S len hbody
theorem FunT.code(F:FunT K x qual st f fd c P)(X:K.In base):PySem.W.CodeHd base c P:=PySem.W.codeHd_of_K X F.hd
theorem funt_mk{oc:Value}{od an:Option Addr}{osl:Array (Option Value)}{kV doc pm ct:Value}(l:K.lookup f=some ⟨oc,od,.func (PySem.W.fnOf x qual (defArgs st) (defBody st) (defScope st) .none kV doc pm an (.ref c) ct),osl⟩)
  (cd:PySem.W.codeIn K (.ref c) qual=true) (k:PySem.W.keepIn K (.ref f)=true) (h:PySem.W.codeHdIn K c P=true):FunT K x qual st f (PySem.W.fnOf x qual (defArgs st) (defBody st) (defScope st) .none kV doc pm an (.ref c) ct) c P:=⟨⟨oc,od,kV,doc,pm,an,ct,osl,rfl,l,cd⟩,k,h⟩
end
theorem tab_lookup:∀{tabs:List (Addr × Array Value)} {q:Addr × Array Value},(tabs.map (·.1)).Nodup→q∈tabs→tabs.lookup q.1=some q.2
 |[],_,_,h=>nomatch h
 |p::r,q,nd,h=>by
  obtain⟨n1,n2⟩:=List.nodup_cons.mp nd
  rw [show(p::r).lookup q.1=_ from List.lookup_cons]
  rcases List.mem_cons.mp h with rfl|hq
  ·rw [beq_self_eq_true]
  ·have:(q.1==p.1)=false:=beq_eq_false_iff_ne.mpr fun z=>n1 (List.mem_map.mpr ⟨q,hq,z⟩)
   rw [this];exact tab_lookup n2 hq
theorem tab_mem{b:Addr}{ps:Array Value}:∀{tabs:List (Addr × Array Value)},tabs.lookup b=some ps→(b,ps)∈tabs
 |[],h=>nomatch h
 |p::r,h=>by
  rw [show(p::r).lookup b=_ from List.lookup_cons] at h
  cases q:b==p.1 with
  |true=>rw [q] at h;cases h;rw [eq_of_beq q];exact .head _
  |false=>rw [q] at h;exact .tail _ (tab_mem h)
theorem law_callT{P:Program}{w:World}{K:PySem.W.Frag}{mg mb:Str→Option Value}{CX:CXT}{k:Nat}{fa a:Addr}{fd:FuncData}{x:Str}{sp:Sp}{s₁:Shared}{vs:List Value}{ns:List Int}{tabs:List (Addr × Array Value)}
  (KX:K.In s₁.heap) (hns:s₁.heap.Ns mainGlobals mg) (hb:s₁.heap.Ns builtinsNs mb) (hbb:∀x:Str,x≠"__name__"→mb x=bootBuiltins x) (hlim:s₁.heap.NoLimit) (hbm:∃bm ob,mg "__builtins__"=some (.ref bm)∧bm≠builtinsNs∧s₁.heap.get? bm=some ob∧ob.cls=.type "module"∧ob.dict=some builtinsNs∧ob.data=.plain) (hg:s₁.gens=#[])
  (ha:s₁.heap.get? a=some { cls:=.type "list",data:=.seq vs.toArray }) (hi:IntsAre vs ns) (hl:ns.length≤sizeLine) (hr:Room k callerA)
  (hT:∀q∈tabs,s₁.heap.get? q.1=some (PySem.W.tabObj #[])∧isCodeTable s₁.heap q.1) (hnd:(tabs.map (·.1)).Nodup) (hNT:PySem.W.noTabs K=true)
  (F:∀base:Heap,K.In base→base.Ns mainGlobals mg→FnOk P w K mg base CX k fa fd [x] sp) (hbind:∀(s:Shared) (u:Value),BindsTo s fd ⟨[u],[]⟩ [(x,u)])
  (hsp:∀H:Hp,(∀q∈tabs,H q.1=some (.tbl q.2))→SqL K H a (ns.map V.int)→sp [.ref a] H (fun v _=>v=.bl true) fun _ _ _=>False)
  (hCX:∀H e s',CX [] H s₁ (fun _ _ _=>False) e s'→False) :
  codeAny (model P w) callerA (.call (.ref fa) ⟨[.ref a],[]⟩) (fun r s'=>r=.ok (.ret (.bool true))∧OldK s₁.heap s'.heap∧s'.os=s₁.os∧AllBare s'.gens) s₁:=by
 have rv:=vals_ints hi
 have lenV:=hi.length
 have core:∀H:Hp,(∀q∈tabs,H q.1=some (.tbl q.2))→SqL K H a (ns.map V.int)→HOk P w H s₁.heap→(∀b u,H b=some u→(b=a∧K.lookup a=none∧∃o xs,u=.frz o (.lst xs))∨∃ps,(b,ps)∈tabs∧u=.tbl ps) →
   codeAny (model P w) callerA (.call (.ref fa) ⟨[.ref a],[]⟩) (fun r s'=>r=.ok (.ret (.bool true))∧OldK s₁.heap s'.heap∧s'.os=s₁.os∧AllBare s'.gens) s₁:=by
  intro H hO hS hok hA
  have base_of:∀{b:Addr} {o:Obj},s₁.heap.get? b=some o→H b=none→(hidT s₁.heap H).get? b=some o:=fun e n=>hidT_get e n
  have no:∀{b:Addr} {o:Obj},s₁.heap.get? b=some o→(∀its n,o.data≠.seq its n)→(∀vs,o.data≠.fields vs)→H b=none:=fun {b o} e d1 d2=>by
   cases q:H b with
   |none=>rfl
   |some u =>
    rcases hA b u q with ⟨rfl,_⟩|⟨ps,hp,_⟩
    ·rw [ha] at e;cases e
     exact absurd rfl (d1 _ _)
    ·rw [(hT _ hp).1] at e;cases e
     exact absurd rfl (d2 _)
  have nsK:∀{b:Addr} {m:Str→Option Value},s₁.heap.Ns b m→(hidT s₁.heap H).Ns b m:=fun {b m} ⟨o,es,ep,e,d,r⟩=>⟨o,es,ep,base_of e (no e (fun _ _ z=>by rw [d] at z;cases z) (fun _ z=>by rw [d] at z;cases z)),d,r⟩
  have hKb:K.In (hidT s₁.heap H):=fun b o e=>base_of (KX b o e) (by
   cases q:H b with
   |none=>rfl
   |some u =>
    rcases hA b u q with ⟨rfl,z,_⟩|⟨ps,hp,_⟩
    ·rw [z] at e;cases e
    ·have e1:=KX b o e
     rw [(hT _ hp).1] at e1;cases e1
     exact absurd (show false=true from List.all_eq_true.mp hNT _ (PySem.W.mem_of_lookupK e)) Bool.false_ne_true)
  have hM:Mod K mg (hidT s₁.heap H):=⟨hKb,nsK hns,⟨mb,nsK hb,hbb⟩,let ⟨mc,h1,h2⟩:=hlim;⟨mc,nsK h1,h2⟩,let ⟨bm,ob,b1,b2,b3,b4,b5,b6⟩:=hbm;⟨bm,ob,b1,b2,base_of b3 (no b3 (fun _ _ z=>by rw [b6] at z;cases z) (fun _ z=>by rw [b6] at z;cases z)),b4,b5,b6⟩⟩
  have e0:Env0 P w K mg (hidT s₁.heap H) callerA [] s₁ H:=⟨rfl,hM,fun b o e=>of_hidT e,Nat.le_of_eq (hidT_size _ _),trivial,fun b hb=>absurd (show b∈([]:List Addr) from hb) (by simp),hok,.of_eq hg⟩
  refine codeAny_mono ((F _ hKb (nsK hns)).run callerA [] s₁ H ⟨[.ref a],[]⟩ [.ref a] [.ref a] _ _ hr e0 (hbind s₁ (.ref a)) (.cons rfl .nil) (hsp H hO hS)) fun r s' h=>?_
  cases r with
  |error e=>exact(hCX H e s' h).elim
  |ok fl =>
   cases fl with
   |next=>exact False.elim h
   |brk=>exact False.elim h
   |cont=>exact False.elim h
   |ret u =>
    obtain⟨v,H',os,bare,un,hok',r',q⟩:=h
    have q':v=.bl true:=q
    subst q'
    obtain rfl:u=Value.bool true:=r'
    have fin:∀b o,s₁.heap.get? b=some o→(s'.heap.get? b=some o)∨(isCodeTable s₁.heap b∧o=PySem.W.tabObj #[]∧∃tb,s'.heap.get? b=some (PySem.W.tabObj tb)):=fun b o e=>by
     cases q:H b with
     |none=>exact .inl (un.keep b o e q (by intro z;exact absurd (show b∈([]:List Addr) from z) (by simp)) (by simp))
     |some u =>
      rcases hA b u q with ⟨rfl,_,ob,xs,rfl⟩|⟨ps,hp,rfl⟩
      ·have z2:=un.frzs b ob _ q
       obtain⟨e1,_⟩:=hok b _ q
       obtain⟨e2,_⟩:=hok' b _ z2
       rw [e] at e1;cases e1
       exact .inl e2
      ·obtain⟨more,z⟩:=un.tbls b ps q
       obtain⟨tb,e2,_⟩:=hok' b _ z
       have e3:=(hT _ hp).1
       rw [e] at e3;cases e3
       exact .inr ⟨(hT _ hp).2,rfl,tb,e2⟩
    refine⟨rfl,⟨fun b o e=>?_,fun b o e=>?_⟩,os,bare⟩
    ·rcases fin b o e with z|⟨z,rfl,tb,z2⟩
     ·exact .inl z
     ·exact .inr (.inl ⟨z,rfl,#[],tb,rfl,by rw [Array.empty_append];exact z2⟩)
    ·rcases fin b o e with z|⟨z,rfl,tb,z2⟩
     ·exact⟨_,z⟩
     ·exact⟨_,z2⟩
 have lk:∀q∈tabs,tabs.lookup q.1=some q.2:=fun q hq=>tab_lookup hnd hq
 have lm:∀b ps,tabs.lookup b=some ps→(b,ps)∈tabs:=fun b ps h=>tab_mem h
 have na:∀q∈tabs,q.1≠a:=fun q hq z=>by
  have e:=(hT q hq).1
  rw [z,ha] at e;cases e
 have tok:∀{H:Hp} {b:Addr} {ps:Array Value},(b,ps)∈tabs→ObjOk P w H s₁.heap b (.tbl ps):=fun {H b ps} hp=>⟨#[],(hT _ hp).1,trivial,fun _ _ _ _ z=>nomatch z⟩
 cases hk:K.lookup a with
 |some o =>
  have e:=KX a o hk
  rw [ha] at e
  cases e
  refine core (fun b=>(tabs.lookup b).map .tbl) (fun q hq=>by rw [lk q hq];rfl) (.inr ⟨_,vs.toArray,_,hk,rfl,rfl,rfl,by rw [List.size_toArray,lenV];exact hl,by simpa using rv⟩) (fun b u z=>?_) (fun b u z=>?_)
  ·obtain⟨ps,h1,rfl⟩:=Option.map_eq_some_iff.mp z
   exact tok (lm b ps h1)
  ·obtain⟨ps,h1,rfl⟩:=Option.map_eq_some_iff.mp z
   exact .inr ⟨ps,lm b ps h1,rfl⟩
 |none =>
  refine core (fun b=>if b=a then some (.frz { cls:=.type "list",data:=.seq vs.toArray } (.lst (ns.map V.int))) else (tabs.lookup b).map .tbl) (fun q hq=>(if_neg (na q hq)).trans (by rw [lk q hq];rfl)) (.inl (.inr ⟨{ cls:=.type "list",data:=.seq vs.toArray },if_pos rfl⟩)) (fun b u z=>?_) (fun b u z=>?_)
  ·by_cases hb:b=a
   ·have z':=(if_pos hb).symm.trans z
    cases z'
    subst hb
    exact⟨ha,by rw [List.length_map];exact hl,vs,_,rv,ha⟩
   ·have z':=(if_neg hb).symm.trans z
    obtain⟨ps,h1,rfl⟩:=Option.map_eq_some_iff.mp z'
    exact tok (lm b ps h1)
  ·by_cases hb:b=a
   ·have z':=(if_pos hb).symm.trans z
    cases z'
    exact .inl ⟨hb,hk,_,_,rfl⟩
   ·have z':=(if_neg hb).symm.trans z
    obtain⟨ps,h1,rfl⟩:=Option.map_eq_some_iff.mp z'
    exact .inr ⟨ps,lm b ps h1,rfl⟩
def TabsOf(q:Program)(K:PySem.W.Frag)(tabs:List (Addr × Array Value)):Prop:=∀t∈tabs,∃(x:Str) (c:Addr) (d:DefRec),PySem.W.tabIn K x=some (c,t.1)∧(recsOf q).find? (fun e=>e.name==x)=some d
theorem walk_ofT{l:PySem.W.OpenLaw}{n k:Nat}{q:Program}{loose:List Str}{XP:(Str→Option Value)→Heap→Prop}{YP:World→Heap→Prop}{d:DefRec}{K:Params→PySem.W.Frag}{CX:World→CXT}{x:Str}
  (hn:l.most=some n) (hn2:n≤sizeLine) (hdf:d.params.defaults=[]) (hr:Room k callerA)
  (hY:∀(w:World) (h:Heap),YP w h→(K w.params).In h)
  (F:∀(w:World) (mg:Str→Option Value) (fa:Addr) (h:Heap),(K w.params).In h→h.Ns mainGlobals mg→mg d.name=some (.ref fa) →
   ∃(fd:FuncData) (tabs:List (Addr × Array Value)) (sp:Sp),(∀(s:Shared) (u:Value),BindsTo s fd ⟨[u],[]⟩ [(x,u)])∧TabsOf q (K w.params) tabs∧(tabs.map (·.1)).Nodup∧PySem.W.noTabs (K w.params)=true ∧
    (∀base:Heap,(K w.params).In base→base.Ns mainGlobals mg→FnOk l.prog w (K w.params) mg base (CX w) k fa fd [x] sp) ∧
    ∀(H:Hp) (a:Addr) (ns:List Int),ns.length≤n→(∀t∈tabs,H t.1=some (.tbl t.2))→SqL (K w.params) H a (ns.map V.int)→sp [.ref a] H (fun v _=>v=.bl true) fun _ _ _=>False)
  (hCX:∀(w:World) (H:Hp) (s:Shared) (e:Value) (s':Shared),CX w [] H s (fun _ _ _=>False) e s'→False) :
  PySem.W.WalkO q loose XP YP l.row.toRowW d [] (fun f vs=>PySem.call f vs):=by
 refine Att.attach_call hn hdf fun w s₀ s₁ mg mb fa o pm cd doc a vs ns G Y ho hd hcd hmg hobj hints hlen hg=>?_
 have KX:=hY w _ Y
 obtain⟨fd,tabs,sp,hb,hT,hnd,hNT,hF,hsp⟩:=F w mg fa _ KX G.T.g hmg
 exact law_callT KX G.T.g G.T.b G.T.builtins G.T.nolimit G.T.bmain hg hobj hints (Nat.le_trans hlen hn2) hr (fun t ht=>by
  obtain⟨x,c,d,h1,h2⟩:=hT t ht
  obtain⟨z1,z2⟩:=PySem.W.tab_of G.T KX h2 h1
  exact⟨z2,(z1.tab z2).isCodeTable⟩) hnd hNT hF hb (fun H hO hS=>hsp H a ns hlen hO hS) fun H e s'=>hCX w H s₁ e s'
end L2
namespace L2
open PySem PySem.Spec PyProof.Rows
def SI(b:Bool)(h:Heap)(j l:Addr)(n:Nat):Prop:=match b with
 |true=>h.IsListIter j l n
 |false=>h.IsTupleIter j l n
def SQ(b:Bool)(h:Heap)(l:Addr)(its:Array Value):Prop:=match b with
 |true=>h.IsList l its
 |false=>h.IsTuple l its
theorem SI.get{b:Bool}{h:Heap}{j l:Addr}{n:Nat}(x:SI b h j l n):∃o vs,h.get? j=some o∧o.data=.fields vs:=by
 cases b with
 |true=>obtain⟨o,e,_,d⟩:=x;exact⟨o,_,e,d⟩
 |false=>obtain⟨o,e,_,d⟩:=x;exact⟨o,_,e,d⟩
theorem SI.up{b:Bool}{h h':Heap}{j l:Addr}{n:Nat}(x:SI b h j l n)(k:∀o,h.get? j=some o→h'.get? j=some o):SI b h' j l n:=by
 cases b with
 |true=>obtain⟨o,e,r⟩:=x;exact⟨o,k o e,r⟩
 |false=>obtain⟨o,e,r⟩:=x;exact⟨o,k o e,r⟩
theorem SQ.up{b:Bool}{h h':Heap}{l:Addr}{its:Array Value}(x:SQ b h l its)(k:∀o,h.get? l=some o→h'.get? l=some o):SQ b h' l its:=by
 cases b with
 |true=>obtain⟨o,e,r⟩:=x;exact⟨o,k o e,r⟩
 |false=>obtain⟨o,e,r⟩:=x;exact⟨o,k o e,r⟩
section
variable{P:Program}{w:World}{A:Around}{E:Value→Shared→Prop}{s:Shared}{b c:Bool}{z TI TO i1 i2 l1 l2 j l:Addr}{n n2:Nat}{its jts:Array Value}{x y p q:Value}
theorem si_item{Q:Value→Shared→Prop}(h1:SI b s.heap j l n)(h2:SQ b s.heap l its)(e:its[n]?=some x)(g:∀h',SI b h' j l (n+1)→Heap.SameBut j s.heap h'→Q x { s with heap:=h' }):wpAny (model P w) A (Builtin.SmallTypes.nextOf (.ref j)) Q E s:=by
 cases b with
 |true=>exact wpAny_nextOf_list_item h1 h2 e g
 |false=>exact nextT_item h1 h2 e g
theorem si_end{Q:Value→Shared→Prop}(hh:A.handled=none)(h1:SI b s.heap j l n)(h2:SQ b s.heap l its)(e:its[n]?=none) (g:∀h' u,Heap.ExtBut j s.heap h'→(∃o,h'.get? u=some o∧o.cls=.type "StopIteration")→E (.ref u) { s with heap:=h' }):wpAny (model P w) A (Builtin.SmallTypes.nextOf (.ref j)) Q E s:=by
 cases b with
 |true=>exact wpAny_nextOf_list_end hh h1 h2 e g
 |false=>exact nextT_end hh h1 h2 e g
theorem zn_item{Q:Value→Shared→Prop}(D:ZipApart z TI TO i1 i2 l1 l2)(Z:IsZip s.heap z TI TO .none)(T1:IsPair s.heap TI (.ref i1) (.ref i2))(T2:IsPair s.heap TO p q)(h1:SI b s.heap i1 l1 n)(h2:SI c s.heap i2 l2 n2)(g1:SQ b s.heap l1 its)(g2:SQ c s.heap l2 jts)(ex:its[n]?=some x)(ey:jts[n2]?=some y)
  (k:∀h',IsZip h' z TI TO (rawInt s.heap.objs.size)→IsPair h' TO x y→SI b h' i1 l1 (n+1)→SI c h' i2 l2 (n2+1)→IsPair h' s.heap.objs.size x y →
   (∀d o,d≠z→d≠TO→d≠i1→d≠i2→s.heap.get? d=some o→h'.get? d=some o)→Q (.ref s.heap.objs.size) { s with heap:=h' }) :
  wpAny (model P w) A (Builtin.«zip.__next__» ⟨[.ref z],[]⟩) (fun fin s'=>∃v,fin=.done (.ret v)∧Q v s') E s:=by
 show wpAny (model P w) A (field (.ref z) 2 >>= _) _ _ s
 refine wpAny_bind (wpAny_field Z rfl (x:=.bool false) rfl ?_);show wpAny (model P w) A (field (.ref z) 3 >>= _) _ _ s
 refine wpAny_bind (wpAny_field Z rfl (x:=.ref TI) rfl (wpAny_bind (wpAny_seqItems T1 rfl ?_)));show wpAny (model P w) A (Builtin.SmallTypes.ownedTupleIsFree (.ref z) >>= _) _ _ s
 refine wpAny_bind ?_;unfold Builtin.SmallTypes.ownedTupleIsFree
 refine wpAny_bind (wpAny_field Z rfl (x:=.none) rfl (wpAny_pure ?_));simp only [if_true]
 refine wpAny_bind (wpAny_rule (wpAny_bind (wpAny_field Z rfl (x:=.ref TO) rfl (wpAny_bind (wpAny_setField_rec Z (by simp) fun a1 Z1 b1=>?_)))))
 replace Z1:IsZip a1 z TI TO .ellipsis:=Z1
 refine wpAny_bind ?_;simp only [List.zipIdx_cons,List.zipIdx_nil,List.forIn_cons,List.forIn_nil]
 refine wpAny_bind (wpAny_bind (wpAny_onRaise ?_));show wpAny (model P w) A (Builtin.SmallTypes.nextOf (.ref i1) >>= _) _ _ _
 refine wpAny_bind (si_item (h1.up fun o e=>b1.extBut _ _ D.i1z e) (g1.up fun o e=>b1.extBut _ _ D.l1z e) ex fun a2 s1 b2=>wpAny_pure ?_)
 have T3:IsPair a2 TO p q:=b2.extBut _ _ D.TOi1 (b1.extBut _ _ D.TOz T2)
 refine wpAny_bind (wpAny_seqItems T3 rfl (wpAny_bind (wpAny_updateSeq_pair T3 fun a3 T4 b3=>?_)))
 replace T4:IsPair a3 TO x q:=T4
 refine wpAny_bind (wpAny_letGo (wpAny_pure (wpAny_bind (wpAny_bind (wpAny_onRaise ?_)))));show wpAny (model P w) A (Builtin.SmallTypes.nextOf (.ref i2) >>= _) _ _ _
 refine wpAny_bind (si_item (h2.up fun o e=>b3.extBut _ _ D.TOi2.symm (b2.extBut _ _ D.i12.symm (b1.extBut _ _ D.i2z e))) (g2.up fun o e=>b3.extBut _ _ D.l2TO (b2.extBut _ _ D.l2i1 (b1.extBut _ _ D.l2z e))) ey fun a4 s2 b4=>wpAny_pure ?_)
 have T5:IsPair a4 TO x q:=b4.extBut _ _ D.TOi2 T4
 refine wpAny_bind (wpAny_seqItems T5 rfl (wpAny_bind (wpAny_updateSeq_pair T5 fun a5 T6 b5=>?_)))
 replace T6:IsPair a5 TO x y:=T6
 refine wpAny_bind (wpAny_letGo (wpAny_pure (wpAny_pure (wpAny_bind (wpAny_seqItems T6 rfl (wpAny_bind (wpAny_newTuple ?_)))))))
 have hz:a5.objs.size=s.heap.objs.size:=b5.1.trans (b4.1.trans (b3.1.trans (b2.1.trans b1.1)))
 have Z5:IsZip a5 z TI TO .ellipsis:=b5.extBut _ _ D.TOz.symm (b4.extBut _ _ D.i2z.symm (b3.extBut _ _ D.TOz.symm (b2.extBut _ _ D.i1z.symm Z1)))
 have k5:∀d o,d≠z→d≠TO→d≠i1→d≠i2→s.heap.get? d=some o→a5.get? d=some o:=fun d o c1 c2 c3 c4 e=>b5.extBut _ _ c2 (b4.extBut _ _ c4 (b3.extBut _ _ c2 (b2.extBut _ _ c3 (b1.extBut _ _ c1 e))))
 have s1':SI b a5 i1 l1 (n+1):=s1.up fun o e=>b5.extBut _ _ D.TOi1.symm (b4.extBut _ _ D.i12 (b3.extBut _ _ D.TOi1.symm e))
 have s2':SI c a5 i2 l2 (n2+1):=s2.up fun o e=>b5.extBut _ _ D.TOi2.symm e
 have zl:z < a5.objs.size:=Heap.lt_size Z5
 show wpAny (model P w) A (Builtin.SmallTypes.ownedTupleHandOut (.ref z) (.ref a5.objs.size) >>= _) _ _ _
 refine wpAny_bind ?_;unfold Builtin.SmallTypes.ownedTupleHandOut
 have Z6:IsZip (a5.push { cls:=.type "tuple",data:=.seq #[x,y] }) z TI TO .ellipsis:=Heap.get?_push_of_some _ Z5
 refine wpAny_bind (wpAny_setField_rec Z6 (by simp) fun a7 Z7 b7=>?_)
 replace Z7:IsZip a7 z TI TO (rawInt a5.objs.size):=Z7
 refine wpAny_setField_rec Z7 (by simp) fun a8 Z8 b8=>?_
 replace Z8:IsZip a8 z TI TO (rawInt a5.objs.size):=Z8
 have up:∀d o,d≠z→a5.get? d=some o→a8.get? d=some o:=fun d o c1 e=>b8.extBut _ _ c1 (b7.extBut _ _ c1 (Heap.get?_push_of_some _ e))
 have T8:IsPair a8 a5.objs.size x y:=b8.extBut _ _ (Nat.ne_of_gt zl) (b7.extBut _ _ (Nat.ne_of_gt zl) (Heap.get?_push_size _ rfl))
 rw [hz] at Z8 T8
 refine wpAny_pure ⟨_,rfl,?_⟩;show Q (.ref a5.objs.size) _
 rw [hz]
 exact k a8 Z8 (up _ _ D.TOz T6) (s1'.up fun o e=>up _ o D.i1z e) (s2'.up fun o e=>up _ o D.i2z e) T8 fun d o c1 c2 c3 c4 e=>up d o c1 (k5 d o c1 c2 c3 c4 e)
theorem zn_end{Q:Fin→Shared→Prop}(hh:A.handled=none)(D:ZipApart z TI TO i1 i2 l1 l2)(Z:IsZip s.heap z TI TO .none)(T1:IsPair s.heap TI (.ref i1) (.ref i2))(T2:IsPair s.heap TO p q)(h1:SI b s.heap i1 l1 n)(h2:SI c s.heap i2 l2 n2)(g1:SQ b s.heap l1 its)(g2:SQ c s.heap l2 jts)(en:its[n]?=none∨jts[n2]?=none)
  (k:∀h' u,(∀d o,d≠z→d≠TO→d≠i1→d≠i2→s.heap.get? d=some o→h'.get? d=some o)→(∃o,h'.get? u=some o∧o.cls=.type "StopIteration")→E (.ref u) { s with heap:=h' }) :
  wpAny (model P w) A (Builtin.«zip.__next__» ⟨[.ref z],[]⟩) Q E s:=by
 show wpAny (model P w) A (field (.ref z) 2 >>= _) _ _ s
 refine wpAny_bind (wpAny_field Z rfl (x:=.bool false) rfl ?_);show wpAny (model P w) A (field (.ref z) 3 >>= _) _ _ s
 refine wpAny_bind (wpAny_field Z rfl (x:=.ref TI) rfl (wpAny_bind (wpAny_seqItems T1 rfl ?_)));show wpAny (model P w) A (Builtin.SmallTypes.ownedTupleIsFree (.ref z) >>= _) _ _ s
 refine wpAny_bind ?_;unfold Builtin.SmallTypes.ownedTupleIsFree
 refine wpAny_bind (wpAny_field Z rfl (x:=.none) rfl (wpAny_pure ?_));simp only [if_true]
 refine wpAny_bind (wpAny_rule (wpAny_bind (wpAny_field Z rfl (x:=.ref TO) rfl (wpAny_bind (wpAny_setField_rec Z (by simp) fun a1 Z1 b1=>?_)))))
 replace Z1:IsZip a1 z TI TO .ellipsis:=Z1
 refine wpAny_bind ?_;simp only [List.zipIdx_cons,List.zipIdx_nil,List.forIn_cons,List.forIn_nil]
 refine wpAny_bind (wpAny_bind (wpAny_onRaise ?_));show wpAny (model P w) A (Builtin.SmallTypes.nextOf (.ref i1) >>= _) _ _ _
 cases ex:its[n]? with
 |none =>
  refine wpAny_bind (si_end hh (h1.up fun o e=>b1.extBut _ _ D.i1z e) (g1.up fun o e=>b1.extBut _ _ D.l1z e) ex fun a2 u b2 he=>?_)
  obtain⟨oe,e1,e2⟩:=he
  have Z2:IsZip a2 z TI TO .ellipsis:=b2 _ _ D.i1z.symm Z1
  have uz:u≠z:=fun t=>by subst t;rw [Z2] at e1;cases e1;simp at e2
  exact wpAny_setField_rec Z2 (by simp) fun a3 _ b3=>k a3 u (fun d o c1 _ c3 _ t=>b3.extBut _ _ c1 (b2 _ _ c3 (b1.extBut _ _ c1 t))) ⟨oe,b3.extBut _ _ uz e1,e2⟩
 |some x =>
  have ey:jts[n2]?=none:=by rcases en with t|t;rw [ex] at t;cases t;exact t
  refine wpAny_bind (si_item (h1.up fun o e=>b1.extBut _ _ D.i1z e) (g1.up fun o e=>b1.extBut _ _ D.l1z e) ex fun a2 s1 b2=>wpAny_pure ?_)
  have T3:IsPair a2 TO p q:=b2.extBut _ _ D.TOi1 (b1.extBut _ _ D.TOz T2)
  refine wpAny_bind (wpAny_seqItems T3 rfl (wpAny_bind (wpAny_updateSeq_pair T3 fun a3 T4 b3=>?_)))
  refine wpAny_bind (wpAny_letGo (wpAny_pure (wpAny_bind (wpAny_bind (wpAny_onRaise ?_)))));show wpAny (model P w) A (Builtin.SmallTypes.nextOf (.ref i2) >>= _) _ _ _
  refine wpAny_bind (si_end hh (h2.up fun o e=>b3.extBut _ _ D.TOi2.symm (b2.extBut _ _ D.i12.symm (b1.extBut _ _ D.i2z e))) (g2.up fun o e=>b3.extBut _ _ D.l2TO (b2.extBut _ _ D.l2i1 (b1.extBut _ _ D.l2z e))) ey fun a4 u b4 he=>?_)
  obtain⟨oe,e1,e2⟩:=he
  have Z4:IsZip a4 z TI TO .ellipsis:=b4 _ _ D.i2z.symm (b3.extBut _ _ D.TOz.symm (b2.extBut _ _ D.i1z.symm Z1))
  have uz:u≠z:=fun t=>by subst t;rw [Z4] at e1;cases e1;simp at e2
  exact wpAny_setField_rec Z4 (by simp) fun a5 _ b5=>k a5 u (fun d o c1 c2 c3 c4 t=>b5.extBut _ _ c1 (b4 _ _ c4 (b3.extBut _ _ c2 (b2.extBut _ _ c3 (b1.extBut _ _ c1 t))))) ⟨oe,b5.extBut _ _ uz e1,e2⟩
end
section
variable{P:Program}{w:World}{A:Around}{E:Value→Shared→Prop}{s:Shared}{b c:Bool}{z TI TO i1 i2 l1 l2:Addr}{n:Nat}{its jts:Array Value}{x y p q:Value}
theorem zn_next{Q:Option Value→Shared→Prop}(D:ZipApart z TI TO i1 i2 l1 l2)(Z:IsZip s.heap z TI TO .none)(T1:IsPair s.heap TI (.ref i1) (.ref i2))(T2:IsPair s.heap TO p q)(h1:SI b s.heap i1 l1 n)(h2:SI c s.heap i2 l2 n)(g1:SQ b s.heap l1 its)(g2:SQ c s.heap l2 jts)(ex:its[n]?=some x)(ey:jts[n]?=some y)
  (k:∀h',IsZip h' z TI TO (rawInt s.heap.objs.size)→IsPair h' TO x y→SI b h' i1 l1 (n+1)→SI c h' i2 l2 (n+1)→IsPair h' s.heap.objs.size x y →
   (∀d o,d≠z→d≠TO→d≠i1→d≠i2→s.heap.get? d=some o→h'.get? d=some o)→Q (some (.ref s.heap.objs.size)) { s with heap:=h' }):wpAny (model P w) A (pyNext (.ref z)) Q E s:=by
 have hT:s.TypeIs (.ref z) "zip":=⟨_,Z,rfl⟩
 unfold pyNext
 exact wpAny_bind (wpAny_attempt (wpAny_callSpecial?_slot (name:=Str.ofString "__next__") hT F.slot_zip_next (wpAny_call_entry F.slot_zip_next hT F.entry_zip_next (zn_item D Z T1 T2 h1 h2 g1 g2 ex ey fun h' a1 a2 a3 a4 a5 a6=>wpAny_pure (k h' a1 a2 a3 a4 a5 a6)) (F.args_zip_next_1 _))))
theorem zn_stop{Q:Option Value→Shared→Prop}(hh:A.handled=none)(D:ZipApart z TI TO i1 i2 l1 l2)(Z:IsZip s.heap z TI TO .none)(T1:IsPair s.heap TI (.ref i1) (.ref i2))(T2:IsPair s.heap TO p q)(h1:SI b s.heap i1 l1 n)(h2:SI c s.heap i2 l2 n)(g1:SQ b s.heap l1 its)(g2:SQ c s.heap l2 jts)(en:its[n]?=none∨jts[n]?=none)
  (k:∀h',(∀d o,d≠z→d≠TO→d≠i1→d≠i2→s.heap.get? d=some o→h'.get? d=some o)→Q none { s with heap:=h' }):wpAny (model P w) A (pyNext (.ref z)) Q E s:=by
 have hT:s.TypeIs (.ref z) "zip":=⟨_,Z,rfl⟩
 unfold pyNext
 refine wpAny_bind (wpAny_attempt (wpAny_callSpecial?_slot (name:=Str.ofString "__next__") hT F.slot_zip_next (wpAny_call_entry F.slot_zip_next hT F.entry_zip_next (zn_end hh D Z T1 T2 h1 h2 g1 g2 en fun h' u hk he=>?_) (F.args_zip_next_1 _))))
 obtain⟨o,ho,hc⟩:=he
 exact wpAny_bind (wpAny_isInstance (T:="StopIteration") (b:=true) ⟨o,ho,hc⟩ isSubtype_stop (wpAny_pure (k _ hk)))
end
def iob(b:Bool)(l:Addr):Obj:={ cls:=.type (match b with|true=>"list_iterator"|false=>"tuple_iterator"),data:=.fields #[.ref l,.int 0 0] }
def zh2(b c:Bool)(h:Heap)(l1 l2:Addr):Heap:=(h.push (iob b l1)).push (iob c l2)
def zh4(b c:Bool)(h:Heap)(l1 l2:Addr):Heap:=((zh2 b c h l1 l2).push { cls:=.type "tuple",data:=.seq #[.ref h.objs.size,.ref (h.push (iob b l1)).objs.size] }).push { cls:=.type "tuple",data:=.seq #[.none,.none] }
def zh5(b c:Bool)(h:Heap)(l1 l2:Addr):Heap:=(zh4 b c h l1 l2).push { cls:=.type "zip",data:=.fields #[.none,.bool false,.bool false,.ref (zh2 b c h l1 l2).objs.size,.ref ((zh2 b c h l1 l2).push { cls:=.type "tuple",data:=.seq #[.ref h.objs.size,.ref (h.push (iob b l1)).objs.size] }).objs.size] }
theorem si_iter{P:Program}{w:World}{A:Around}{E:Value→Shared→Prop}{s:Shared}{b:Bool}{l:Addr}{its:Array Value}{Q:Value→Shared→Prop}(h:SQ b s.heap l its)(k:Q (.ref s.heap.objs.size) { s with heap:=s.heap.push (iob b l) }):wpAny (model P w) A (pyIter (.ref l)) Q E s:=by
 cases b with
 |true=>exact wpAny_pyIter_list h k
 |false=>exact wpAny_pyIter_tuple h k
set_option maxHeartbeats 4000000 in
theorem zn_new(b c:Bool)(l1 l2:Addr)(its jts:Array Value):Meets (Builtin.«zip.__new__» ⟨[.type "zip",.ref l1,.ref l2],[]⟩) (fun _ R s=>SQ b s.heap l1 its∧SQ c s.heap l2 jts∧R (.ok (.ret (.ref (zh4 b c s.heap l1 l2).objs.size))) { s with heap:=zh5 b c s.heap l1 l2 }) :=
 .of_wp fun P w A R s h=>by
  obtain⟨hp,g,d,tk,os⟩:=s
  obtain⟨h1,h2,h⟩:=h
  have hsub:=sub_zip
  have k1:SQ b (Shared.heap ⟨hp,g,d,tk,os⟩) l1 its:=h1
  have k2:SQ c (Shared.heap ⟨hp.push (iob b l1),g,d,tk,os⟩) l2 jts:=h2.up fun o e=>Heap.get?_push_of_some _ e
  wp_walk using si_iter k1,si_iter k2
  exact⟨_,rfl,h⟩
theorem iob_si(b:Bool){h:Heap}{j l:Addr}(e:h.get? j=some (iob b l)):SI b h j l 0:=by
 cases b with
 |true=>exact⟨_,e,rfl,rfl⟩
 |false=>exact⟨_,e,rfl,rfl⟩
theorem call_zip{P:Program}{w:World}{A:Around}{E:Value→Shared→Prop}{s:Shared}{b c:Bool}{l1 l2:Addr}{its jts:Array Value}{Q:Value→Shared→Prop}(g1:SQ b s.heap l1 its)(g2:SQ c s.heap l2 jts)
  (k:∀h',IsZip h' (s.heap.objs.size+4) (s.heap.objs.size+2) (s.heap.objs.size+3) .none→IsPair h' (s.heap.objs.size+2) (.ref s.heap.objs.size) (.ref (s.heap.objs.size+1))→IsPair h' (s.heap.objs.size+3) .none .none →
   SI b h' s.heap.objs.size l1 0→SI c h' (s.heap.objs.size+1) l2 0→(∀d o,s.heap.get? d=some o→h'.get? d=some o)→Q (.ref (s.heap.objs.size+4)) { s with heap:=h' }) :
  wpAny (model P w) A (call (.type "zip") [.ref l1,.ref l2]) Q E s:=by
 refine callType_new F.called_zip (by decide) (F.typeCall_zip_2 _ _) (F.newCall_zip_2 _ _) (fun o=>F.args_object_init_3 o _ _) F.entry_zip_new (zn_new b c l1 l2 its jts) ⟨g1,g2,?_⟩
 have z1:(s.heap.push (iob b l1)).objs.size=s.heap.objs.size+1:=Heap.size_push ..
 have z2:(zh2 b c s.heap l1 l2).objs.size=s.heap.objs.size+2:=by unfold zh2;rw [Heap.size_push,z1]
 have z3:((zh2 b c s.heap l1 l2).push { cls:=.type "tuple",data:=.seq #[.ref s.heap.objs.size,.ref (s.heap.push (iob b l1)).objs.size] }).objs.size=s.heap.objs.size+3:=by rw [Heap.size_push,z2]
 have z4:(zh4 b c s.heap l1 l2).objs.size=s.heap.objs.size+4:=by unfold zh4;rw [Heap.size_push,z3]
 have u5:∀d o,(zh4 b c s.heap l1 l2).get? d=some o→(zh5 b c s.heap l1 l2).get? d=some o:=fun d o e=>by unfold zh5;exact Heap.get?_push_of_some _ e
 have u3:∀d o,(zh2 b c s.heap l1 l2).get? d=some o→(zh4 b c s.heap l1 l2).get? d=some o:=fun d o e=>by unfold zh4;exact Heap.get?_push_of_some _ (Heap.get?_push_of_some _ e)
 have e5:(zh5 b c s.heap l1 l2).get? (zh4 b c s.heap l1 l2).objs.size=some { cls:=.type "zip",data:=.fields #[.none,.bool false,.bool false,.ref (zh2 b c s.heap l1 l2).objs.size,.ref ((zh2 b c s.heap l1 l2).push { cls:=.type "tuple",data:=.seq #[.ref s.heap.objs.size,.ref (s.heap.push (iob b l1)).objs.size] }).objs.size] }:=by unfold zh5;exact Heap.get?_push_size _ rfl
 have e4:(zh5 b c s.heap l1 l2).get? ((zh2 b c s.heap l1 l2).push { cls:=.type "tuple",data:=.seq #[.ref s.heap.objs.size,.ref (s.heap.push (iob b l1)).objs.size] }).objs.size=some { cls:=.type "tuple",data:=.seq #[.none,.none] }:=u5 _ _ (by unfold zh4;exact Heap.get?_push_size _ rfl)
 have e3:(zh5 b c s.heap l1 l2).get? (zh2 b c s.heap l1 l2).objs.size=some { cls:=.type "tuple",data:=.seq #[.ref s.heap.objs.size,.ref (s.heap.push (iob b l1)).objs.size] }:=u5 _ _ (by unfold zh4;exact Heap.get?_push_of_some _ (Heap.get?_push_size _ rfl))
 have e2:(zh5 b c s.heap l1 l2).get? (s.heap.push (iob b l1)).objs.size=some (iob c l2):=u5 _ _ (u3 _ _ (by unfold zh2;exact Heap.get?_push_size _ rfl))
 have e1:(zh5 b c s.heap l1 l2).get? s.heap.objs.size=some (iob b l1):=u5 _ _ (u3 _ _ (by unfold zh2;exact Heap.get?_push_of_some _ (Heap.get?_push_size _ rfl)))
 rw [z2,z3,z4] at e5
 rw [z1,z2] at e3
 rw [z3] at e4
 rw [z1] at e2
 show _∧_
 rw [z4]
 exact⟨⟨_,e5,rfl⟩,k _ e5 e3 e4 (iob_si b e1) (iob_si c e2) fun d o e=>u5 _ _ (u3 _ _ (by unfold zh2;exact Heap.get?_push_of_some _ (Heap.get?_push_of_some _ e)))⟩
def sho(b:Bool)(xs:List V):HO:=match b with
 |true=>.lst xs
 |false=>.tup xs
theorem sho_inj{b:Bool}{xs ys:List V}(h:sho b xs=sho b ys):xs=ys:=by
 cases b<;>(cases h;rfl)
theorem Inv.sho{X:Cx}{pins:List (Addr × Obj)}{σ:St}{H:Hp}{s:Shared}{b:Bool}{l:Addr}{xs:List V}(I:Inv X pins σ H s)(h:H l=some (L2.sho b xs)):∃its:List Value,Vals xs its∧SQ b s.heap l its.toArray:=by
 cases b with
 |true=>obtain⟨its,r,p,_⟩:=I.list (SqL.of h);exact⟨its,r,p.isList⟩
 |false=>obtain⟨its,r,p,_⟩:=I.tuple (SqT.of h);exact⟨its,r,(show s.heap.IsTuple l its.toArray from p)⟩
def Itq(b c:Bool)(l1 l2:Addr):It :=
  ⟨fun i H=>∃xs ys x y,H l1=some (sho b xs)∧H l2=some (sho c ys)∧xs[i]?=some x∧ys[i]?=some y,
   fun i H v H'=>∃p x y,H p=none∧v=.ref p∧H'=upd H p (.tup [x,y])∧(∀xs,H l1=some (sho b xs)→xs[i]?=some x)∧∀ys,H l2=some (sho c ys)→ys[i]?=some y,
   fun i H=>∃xs ys,H l1=some (sho b xs)∧H l2=some (sho c ys)∧(xs.length≤i∨ys.length≤i)⟩
theorem turn_zipQ{P:Program}{w:World}{K:PySem.W.Frag}{es:List Expr}{k:Nat}{pos:Pos}(b c:Bool)(l1 l2 z TI TO i1 i2:Addr)(D:ZipFp z TI TO i1 i2) :
  Turn P w K (.Tuple es k pos) (Itq b c l1 l2) [z,TI,TO,i1,i2] z (fun i h=>IsZip h z TI TO .none∧IsPair h TI (.ref i1) (.ref i2)∧(∃u v,IsPair h TO u v)∧SI b h i1 l1 i∧SI c h i2 l2 i) where
 mem:=by simp
 obj:=fun i h st d hd=>by
  obtain⟨Z,T1,⟨u,v,T2⟩,h1,h2⟩:=st
  obtain⟨o1,v1,e1,d1⟩:=h1.get
  obtain⟨o2,v2,e2,d2⟩:=h2.get
  simp only [List.mem_cons,List.not_mem_nil,or_false] at hd
  rcases hd with rfl|rfl|rfl|rfl|rfl
  ·exact⟨_,Z,fun v z=>by cases z⟩
  ·exact⟨_,T1,fun v z=>by cases z⟩
  ·exact⟨_,T2,fun v z=>by cases z⟩
  ·exact⟨o1,e1,fun v z=>by rw [d1] at z;cases z⟩
  ·exact⟨o2,e2,fun v z=>by rw [d2] at z;cases z⟩
 keep:=fun i h h' st k=>by
  obtain⟨Z,T1,⟨u,v,T2⟩,h1,h2⟩:=st
  exact⟨k z (by simp) _ Z,k TI (by simp) _ T1,⟨u,v,k TO (by simp) _ T2⟩,h1.up fun o e=>k i1 (by simp) o e,h2.up fun o e=>k i2 (by simp) o e⟩
 item:=by
  intro X hP hw hK hc i pins s σ H E I hf st hg
  subst hP hw hK
  obtain⟨Z,T1,⟨a,a',T2⟩,h1,h2⟩:=st
  obtain⟨xs,ys,x,y,q1,q2,hx,hy⟩:=hg
  obtain⟨its,rv,p1⟩:=I.sho q1
  obtain⟨jts,rw',p2⟩:=I.sho q2
  obtain⟨u,hu,ru⟩:=rv.get hx
  obtain⟨v,hv,rv2⟩:=rw'.get hy
  have ne:∀d∈[z,TI,TO,i1,i2],l1≠d∧l2≠d:=fun d hd=>⟨fun t=>(by rw [t,(hf d hd).1] at q1;cases q1),fun t=>(by rw [t,(hf d hd).1] at q2;cases q2)⟩
  have lt:∀d∈[z,TI,TO,i1,i2],d < s.heap.objs.size:=fun d hd=>by
   obtain⟨o1,_,e1,_⟩:=h1.get
   obtain⟨o2,_,e2,_⟩:=h2.get
   simp only [List.mem_cons,List.not_mem_nil,or_false] at hd
   rcases hd with rfl|rfl|rfl|rfl|rfl
   ·exact Heap.lt_size Z
   ·exact Heap.lt_size T1
   ·exact Heap.lt_size T2
   ·exact Heap.lt_size e1
   ·exact Heap.lt_size e2
  have DD:ZipApart z TI TO i1 i2 l1 l2:=⟨D.TIz,D.TOz,D.i1z,D.i2z,D.TITO,D.TIi1,D.TIi2,D.TOi1,D.TOi2,D.i12,(ne z (by simp)).1,(ne TO (by simp)).1,(ne i1 (by simp)).1,(ne i2 (by simp)).1,(ne z (by simp)).2,(ne TO (by simp)).2,(ne i1 (by simp)).2,(ne i2 (by simp)).2⟩
  refine zn_next DD Z T1 T2 h1 h2 p1 p2 (x:=u) (y:=v) (by simpa using hu) (by simpa using hv) fun h3 z3 o3 j1 j2 t3 k3=>⟨_,rfl,wpAny_letOwnedTupleGo_zip z3 fun h4 z4 b4=>?_⟩
  have t4:h4.get? s.heap.objs.size=some { cls:=.type "tuple",data:=.seq #[u,v] }:=(b4.2 _ (Nat.ne_of_gt (lt z (by simp)))).trans t3
  have hn:H s.heap.objs.size=none:=I.hok.fresh (Nat.le_refl _)
  have I4:Inv X pins σ (upd H s.heap.objs.size (.tup [x,y])) { s with heap:=h4,toks:=s.toks }:=I.turnedL (fp:=[z,TI,TO,i1,i2]) (fun d ob hd t=>by
    simp only [List.mem_cons,List.not_mem_nil,or_false,not_or] at hd
    exact(b4.2 d hd.1).trans (k3 d ob hd.1 hd.2.2.1 hd.2.2.2.1 hd.2.2.2.2 t)) hf (Nat.le_refl _) ⟨by show 2≤sizeLine;decide,[u,v],.cons ru (.cons rv2 .nil),_,t4,rfl,_,rfl⟩
  refine⟨.ref s.heap.objs.size,_,I4,rfl,⟨_,x,y,hn,rfl,rfl,fun xs' h'=>by rw [q1] at h';rw [←sho_inj (Option.some.inj h')];exact hx,fun ys' h'=>by rw [q2] at h';rw [←sho_inj (Option.some.inj h')];exact hy⟩,
   ⟨z4,(b4.2 TI D.TIz).trans (k3 TI _ D.TIz D.TITO D.TIi1 D.TIi2 T1),⟨u,v,(b4.2 TO D.TOz).trans o3⟩,j1.up fun o e=>(b4.2 i1 D.i1z).trans e,j2.up fun o e=>(b4.2 i2 D.i2z).trans e⟩,fun d hd=>?_⟩
  rw [upd_ne (Nat.ne_of_lt (lt d hd))]
  exact(hf d hd).1
 done:=by
  intro X hP hw hK hc i pins s σ H E I hf st hg
  subst hP hw hK
  obtain⟨Z,T1,⟨a,a',T2⟩,h1,h2⟩:=st
  obtain⟨xs,ys,q1,q2,hl⟩:=hg
  obtain⟨its,rv,p1⟩:=I.sho q1
  obtain⟨jts,rw',p2⟩:=I.sho q2
  have e1:=rv.length
  have e2:=rw'.length
  have ne:∀d∈[z,TI,TO,i1,i2],l1≠d∧l2≠d:=fun d hd=>⟨fun t=>(by rw [t,(hf d hd).1] at q1;cases q1),fun t=>(by rw [t,(hf d hd).1] at q2;cases q2)⟩
  have DD:ZipApart z TI TO i1 i2 l1 l2:=⟨D.TIz,D.TOz,D.i1z,D.i2z,D.TITO,D.TIi1,D.TIi2,D.TOi1,D.TOi2,D.i12,(ne z (by simp)).1,(ne TO (by simp)).1,(ne i1 (by simp)).1,(ne i2 (by simp)).1,(ne z (by simp)).2,(ne TO (by simp)).2,(ne i1 (by simp)).2,(ne i2 (by simp)).2⟩
  refine zn_stop (I.ok.hd hc) DD Z T1 T2 h1 h2 p1 p2 ?_ fun h' k'=>⟨rfl,I.turnedR (t':=s.toks) (fp:=[z,TI,TO,i1,i2]) (fun d ob hd t=>by
    simp only [List.mem_cons,List.not_mem_nil,or_false,not_or] at hd
    exact k' d ob hd.1 hd.2.2.1 hd.2.2.2.1 hd.2.2.2.2 t) hf⟩
  rcases hl with hl|hl
  ·exact .inl (by simp;omega)
  ·exact .inr (by simp;omega)
 self:=fun _ _ _ _ _ st h=>wpAny_pyIter_zip st.1 h
section
variable{X:Cx}{es:List Expr}{k:Nat}{ps:Pos}
def iZipQ(b c:Bool)(ta:TA):TI:=fun σ H R=>ta σ H fun vs H1=>∃l1 l2 xs ys,vs=[.ref l1,.ref l2]∧H1 l1=some (sho b xs)∧H1 l2=some (sho c ys)∧R (Itq b c l1 l2) H1
theorem pi_zipQ(b c:Bool){l m:Expr}{ta:TA}{p pos:Pos} (hg:Gl X "zip") (hm:X.mg "zip"=none) (ha:PA X [l,m] ta) (hs:starEach [l,m] X.env=(false,eval l X.env)::starEach [m] X.env:=by rfl) (hpl:(backTo pos (starEach [m] X.env)).any (·.1)=false:=by rfl) :
  PI X (.Tuple es k ps) (.Call (.Name "zip" p) [l,m] [] pos) (iZipQ b c ta):=by
 intro pins s σ H R I h
 refine Call_ (ld_blt I hg hm bootZip (PyProof.Rows.callWith_type1 (thn (ha pos pins s σ H _ I h) fun us s1 ⟨vs,H1,I1,r1,q1⟩=>?_) hs hpl))
 obtain⟨l1,l2,xs,ys,e,q1,q2,q⟩:=q1
 subst e
 cases r1 with
 |cons ra rb =>
  cases rb with
  |cons rb rc =>
   cases rc
   cases ra
   cases rb
   obtain⟨its,rv,p1⟩:=I1.sho q1
   obtain⟨jts,rw',p2⟩:=I1.sho q2
   refine call_zip p1 p2 fun h' Z T1 T2 h1 h2 kk=>?_
   have n:∀a b:Nat,a≠b→s1.heap.objs.size+a≠s1.heap.objs.size+b:=fun a b h e=>h (Nat.add_left_cancel e)
   refine wpAny_pyIter_zip (s:={ s1 with heap:=h' }) Z ⟨s1.heap.objs.size+4,[s1.heap.objs.size+4,s1.heap.objs.size+2,s1.heap.objs.size+3,s1.heap.objs.size,s1.heap.objs.size+1],_,_,H1,rfl,I1.kept (t':=s1.toks) kk,
    turn_zipQ b c l1 l2 _ _ _ _ _ ⟨n 2 4 (by decide),n 3 4 (by decide),n 0 4 (by decide),n 1 4 (by decide),n 2 3 (by decide),n 2 0 (by decide),n 2 1 (by decide),n 3 0 (by decide),n 3 1 (by decide),n 0 1 (by decide)⟩,⟨Z,T1,⟨_,_,T2⟩,h1,h2⟩,fun d hd=>?_,q⟩
   have hd':s1.heap.objs.size≤d:=by
    simp only [List.mem_cons,List.not_mem_nil,or_false] at hd
    rcases hd with rfl|rfl|rfl|rfl|rfl<;>first|exact Nat.le_add_right _ _|exact Nat.le_refl _
   exact I1.fpOk hd' (I1.hok.fresh hd')
end
end L2
namespace L2
open PySem PySem.Spec PyProof.Rows
end L2
namespace L2
open PySem PySem.Spec PyProof.Rows
section
variable{X:Cx}
end
end L2
namespace L2
open PySem PySem.Spec PyProof.Rows
section
variable{P:Program}{w:World}{A:Around}{E:Value→Shared→Prop}{s:Shared}{b c:Bool}{z TI TO i1 i2 l1 l2 j l:Addr}{n:Nat}{its jts:Array Value}{x y p q:Value}
end
section
variable{X:Cx}{pins:List (Addr × Obj)}{σ:St}
end
section
variable{X:Cx}{l m:Expr}{ta:TA}{p p2 pos pos2:Pos}
end
end L2
namespace L2
open PySem PySem.Spec PyProof.Rows
theorem for_zipQ{b c:Bool}{l1 l2:Addr}{xs ys:List V}{g:TG}{tb:TS}{D:Ends}{σ:St}{H:Hp}(Pv:Nat→St→Hp→Prop)(h0:Pv 0 σ H)(hlen:xs.length=ys.length)(hl:∀i σ H,i≤xs.length→Pv i σ H→H l1=some (sho b xs)∧H l2=some (sho c ys))
  (hs:∀i x y p σ H,xs[i]?=some x→ys[i]?=some y→H p=none→Pv i σ H→g (.ref p) σ (upd H p (.tup [x,y])) fun σ2 H2=>tb { D with nx:=Pv (i+1),ct:=Pv (i+1),bk:=D.nx } σ2 H2) (hd:∀σ H,Pv xs.length σ H→D.nx σ H) :
  ∃W:Nat→Nat→St→Hp→Prop,(∃m,W 0 m σ H)∧∀i m σ H,W i m σ H →
   ((Itq b c l1 l2).stop i H∧D.nx σ H)∨((Itq b c l1 l2).go i H∧∃N:St→Hp→Prop,(∀σ' H',N σ' H'→∃m',m' < m∧W (i+1) m' σ' H')∧∀x H',(Itq b c l1 l2).yld i H x H'→g x σ H' fun σ2 H2=>tb { D with nx:=N,ct:=N,bk:=D.nx } σ2 H2):=by
 refine⟨fun i m σ H=>m=xs.length - i∧i≤xs.length∧Pv i σ H,⟨xs.length,by simp,Nat.zero_le _,h0⟩,?_⟩
 rintro i m σ H ⟨rfl,hi,p⟩
 obtain⟨q1,q2⟩:=hl i σ H hi p
 by_cases hlt:i < xs.length
 ·have ex:xs[i]?=some xs[i]:=List.getElem?_eq_getElem hlt
  have ey:ys[i]?=some (ys[i]'(by omega)):=List.getElem?_eq_getElem (by omega)
  refine .inr ⟨⟨xs,ys,_,_,q1,q2,ex,ey⟩,Pv (i+1),fun σ' H' p'=>⟨xs.length - (i+1),by omega,rfl,hlt,p'⟩,fun x H' y=>?_⟩
  obtain⟨a,u,v,ha,rfl,rfl,h1,h2⟩:=y
  exact hs i u v a σ H (h1 xs q1) (h2 ys q2) ha p
 ·obtain rfl:i=xs.length:=by omega
  exact .inl ⟨⟨xs,ys,q1,q2,.inl (Nat.le_refl _)⟩,hd σ H p⟩
end L2
namespace K62
open PySem L2 Kk
def top(i:Nat):Stmt:=PySem.Challenge.pw_sealhouse_k62_plain_programs.main.body.getD i (.Pass ⟨0,0,0,0⟩)
abbrev sWithin:Stmt:=top 9
abbrev sWords:Stmt:=top 11
abbrev sBounded:Stmt:=top 12
abbrev sKin:Stmt:=top 14
abbrev sVarK:Stmt:=top 15
abbrev sAnsK:Stmt:=top 16
abbrev sKbf:Stmt:=top 17
abbrev sDem:Stmt:=top 18
abbrev sLookB:Stmt:=top 19
abbrev sPlain:Stmt:=top 22
abbrev sCell:Stmt:=top 24
abbrev sPick:Stmt:=top 25
abbrev sWord:Stmt:=top 26
abbrev sSize:Stmt:=top 27
abbrev sSame:Stmt:=top 28
abbrev sPool:Stmt:=top 29
abbrev sName:Stmt:=top 30
abbrev sStart:Stmt:=top 31
abbrev sArgs:Stmt:=top 32
abbrev sBody:Stmt:=top 33
abbrev sProg:Stmt:=top 34
abbrev sGrown:Stmt:=top 35
abbrev sCalled:Stmt:=top 36
abbrev sOdd:Stmt:=top 37
abbrev sFound:Stmt:=top 38
abbrev sTold:Stmt:=top 39
abbrev sLaw:Stmt:=top 40
theorem small{n:Nat}(h:n≤30000):n≤sizeLine:=Nat.le_trans h (by decide)
theorem same_new{H:Hp}{p:Addr}(h:H p=none)(o:HO):Same H (upd H p o):=fun b u q=>by rw [upd_ne (ne_of_none q h)];exact q
def sumW(ks:List Kd):Nat:=(ks.map Kd.words).sum
theorem words_pos(k:Kd):0 < k.words:=by
 have:=words_leaves k
 have:=leaves_pos k
 omega
theorem sumW_app(a b:List Kd):sumW (a++b)=sumW a+sumW b:=by
 unfold sumW
 rw [List.map_append,List.sum_append]
theorem sumW_one(k:Kd):sumW [k]=k.words:=Nat.add_zero _
theorem len_sumW:∀ks:List Kd,ks.length≤sumW ks
 |[]=>Nat.le_refl _
 |k::ks=>by
  have h1:=len_sumW ks
  have h2:=words_pos k
  show ks.length+1≤k.words+sumW ks
  omega
theorem snoc{K:PySem.W.Frag}{H:Hp}:∀{us:List V} {v:V} {ks:List Kd},KdsAt K H (us++[v]) ks→∃ls k,ks=ls++[k]∧KdsAt K H us ls∧KdAt K H v k
 |[],v,_,.cons a .nil=>⟨[],_,rfl,.nil,a⟩
 |u::us,v,_,.cons a b=>by
  obtain⟨ls,k,rfl,h1,h2⟩:=snoc (us:=us) b
  exact⟨_::ls,k,rfl,.cons a h1,h2⟩
theorem snoc_get{us:List V}{v:V}:(us++[v])[(us++[v]).length - 1]?=some v:=by simp
theorem one{K:PySem.W.Frag}{H:Hp}{v:V}{k:Kd}(h:KdAt K H v k):KdsAt K H [v] [k]:=.cons h .nil
def spWords(K:PySem.W.Frag):Sp:=fun vs H Q _=>∃(x:V) (k:Kd),vs=[x]∧KdAt K H x k∧k.words≤20000∧∀H',Same H H'→Q (.int k.words) H'
section
variable{P:Program}{w:World}{K:PySem.W.Frag}{mg:Str→Option Value}{base:Heap}
theorem scWords:FnScope ["kind","words","left","here"] ["kind"] (defScope sWords):=⟨rfl,rfl,rfl,by decide +kernel,rfl,by decide +kernel,by decide +kernel⟩
theorem ok_words{f:Addr}{fd:FuncData} (F:Fun K "words_in" "words_in" sWords f fd) (ml:mg "len"=none):FnOk P w K mg base CX0 1 f fd ["kind"] (spWords K):=by
 refine F.ok scWords (fun vs H Q E h=>?_) (fun cdv A outer s H vs Q E hr h=>?_)
 ·obtain⟨x,k,rfl,_⟩:=h
  rfl
 obtain⟨x,k,rfl,hk,h9,q⟩:=h
 refine⟨_,pss_cons (ps_set (i:=1) scWords.nd rfl (Or.inl rfl) pe_int)
  (pss_cons (ps_set (i:=2) scWords.nd rfl (Or.inl rfl) (pe_lst (pa_cons (pv 0) pa_nil)))
  (pss_cons (ps_while PassesOwn.never (pt_cmpR op_gt (pe_callB call_len_seq rfl ml PySem.boot_len (pa_cons (pv 2) pa_nil)) pe_int (nomark _))
   (pss_cons (ps_set (i:=3) scWords.nd rfl (Or.inl rfl) (pe_bm0 PySem.F.plainAttrs_list PySem.F.slot_list_pop PySem.F.type_list_pop mt_pop (pv 2)))
   (pss_cons (ps_aug (i:=1) scWords.nd rfl (Or.inl rfl) pe_int ip_add)
   (pss_one (ps_if (pt_cmpR op_eq (pe_ix ix_tup (pv 3) pe_int (fun _ _=>rfl)) pe_str (nomark _))
    (pss_cons (ps_expr (pe_bm PySem.F.plainAttrs_list PySem.F.slot_list_append PySem.F.type_list_append mt_append (pv 2) (pa_cons (pe_ix ix_tup (pv 3) pe_int (fun _ _=>rfl)) pa_nil)))
    (pss_one (ps_expr (pe_bm PySem.F.plainAttrs_list PySem.F.slot_list_append PySem.F.type_list_append mt_append (pv 2) (pa_cons (pe_ix ix_tup (pv 3) pe_int (fun _ _=>rfl)) pa_nil))))) pss_nil)))))
  (pss_one (ps_ret (pv 1))))),?_⟩
 refine⟨_,rfl,(by show 1≤sizeLine;decide),fun l hl=>?_⟩
 have sL:∀o,Same H (upd H l o):=same_new hl
 refine while_by (fun σ H2=>∃(vs:List V) (ks:List Kd) (n:Nat) (h:Option V),σ=[some x,some (.int n),some (.ref l),h]∧H2=upd H l (.lst vs)∧KdsAt K H vs ks∧n+sumW ks=k.words)
  (fun σ _=>match σ with|[_,some (.int n),_,_]=>k.words - n.toNat|_=>0) ⟨[x],[k],0,none,rfl,rfl,one hk,by rw [sumW_one];omega⟩ ?_ ?_
 ·rintro σ H2 ⟨vs,ks,n,h,rfl,rfl,hv,hn⟩
  refine⟨_,rfl,l,_,rfl,.inl (SqL.of upd_same),_,_,rfl,rfl,_,rfl,?_⟩
  refine ite2 (fun c=>?_) (fun c=>?_)
  ·have c':(0:Int) < (vs.length:Int):=of_decide_eq_true c
   have hne:vs≠[]:=fun e=>by rw [e] at c';exact absurd c' (by decide)
   obtain⟨us,v,rfl⟩:∃us v,vs=us++[v]:=⟨_,_,(List.dropLast_concat_getLast hne).symm⟩
   obtain⟨ls,j,rfl,hu,hj⟩:=snoc hv
   rw [sumW_app,sumW_one] at hn
   have hjp:=words_pos j
   refine⟨_,rfl,?_,l,_,v,rfl,rfl,upd_same,snoc_get,?_⟩
   ·exact .inl ⟨rfl,_,SqL.of upd_same⟩
   rw [upd_upd,List.dropLast_concat]
   have hl2:=len_sumW ls
   have hul:=hu.length
   refine⟨_,rfl,_,_,rfl,rfl,?_⟩
   have e1:((n:Int)+1)=((n+1:Nat):Int):=by omega
   cases hj with
   |@num p m t =>
    refine⟨_,rfl,_,_,_,_,rfl,rfl,(sL _).tup t,(show atI [V.str "num",.int m] 0=some (.str "num") from rfl),rfl,_,rfl,ite2 (fun c=>absurd c (by decide +kernel)) (fun _=>?_)⟩
    have hw:(Kd.num m).words=1:=rfl
    rw [hw] at hn
    refine⟨⟨us,ls,n+1,_,by rw [←e1]<;>rfl,rfl,hu,by omega⟩,?_⟩
    show k.words - ((n:Int)+1).toNat < k.words - (n:Int).toNat
    omega
   |@name p q t h =>
    refine⟨_,rfl,_,_,_,_,rfl,rfl,(sL _).tup h,(show atI [V.str "name",.str q,.str t] 0=some (.str "name") from rfl),rfl,_,rfl,ite2 (fun c=>absurd c (by decide +kernel)) (fun _=>?_)⟩
    have hw:(Kd.name q t).words=1:=rfl
    rw [hw] at hn
    refine⟨⟨us,ls,n+1,_,by rw [←e1]<;>rfl,rfl,hu,by omega⟩,?_⟩
    show k.words - ((n:Int)+1).toNat < k.words - (n:Int).toNat
    omega
   |@pair p y z a b t ha hb =>
    have hw:(Kd.pair a b).words=1+a.words+b.words:=rfl
    rw [hw] at hn hjp
    have h1:=words_pos a
    have h2:=words_pos b
    refine⟨_,rfl,_,_,_,_,rfl,rfl,(sL _).tup t,(show atI [V.str "pair",y,z] 0=some (.str "pair") from rfl),rfl,_,rfl,ite2 (fun _=>?_) (fun c=>absurd (by decide +kernel) c)⟩
    refine⟨_,rfl,.inl ⟨rfl,_,SqL.of upd_same⟩,_,rfl,_,_,_,_,rfl,rfl,(sL _).tup t,(show atI [V.str "pair",y,z] 1=some y from rfl),l,_,_,rfl,rfl,upd_same,Nat.lt_of_lt_of_le (Nat.lt_succ_self _) (small (by omega)),?_⟩
    rw [upd_upd]
    refine⟨_,rfl,.inl ⟨rfl,_,SqL.of upd_same⟩,_,rfl,_,_,_,_,rfl,rfl,(sL _).tup t,(show atI [V.str "pair",y,z] 2=some z from rfl),l,_,_,rfl,rfl,upd_same,Nat.lt_of_lt_of_le (Nat.lt_succ_self _) (small (by rw [List.length_append];show us.length+1+1≤30000;omega)),?_⟩
    rw [upd_upd]
    refine⟨⟨us++[y]++[z],ls++[a]++[b],n+1,_,by rw [←e1]<;>rfl,rfl,(hu.append (one ha)).append (one hb),by rw [sumW_app,sumW_app,sumW_one,sumW_one];omega⟩,?_⟩
    show k.words - ((n:Int)+1).toNat < k.words - (n:Int).toNat
    omega
  ·have c':¬(0:Int) < (vs.length:Int):=of_decide_eq_false (Bool.eq_false_iff.mpr c)
   have hv0:vs=[]:=List.length_eq_zero_iff.mp (by omega)
   subst hv0
   cases hv
   have e:n=k.words:=hn
   subst e
   exact⟨_,rfl,q _ (sL _)⟩
 ·rintro σ H2 Q1 Q2 hq ⟨v,e1,a,xs,e2,hs,i,j,e3,e4,b,e5,h⟩
  exact⟨v,e1,a,xs,e2,hs,i,j,e3,e4,b,e5,hq _ _ h⟩
end
theorem sok_iff(z:Str):PyData.strOk z=true↔∀c∈z.cps.toList,c < 0x110000:=by
 unfold PyData.strOk
 rw [Array.all_eq_true_iff_forall_mem]
 simp
theorem sok_app{a b:Str}(ha:PyData.strOk a=true)(hb:PyData.strOk b=true):PyData.strOk (a++b)=true:=by
 rw [sok_iff] at *
 intro c hc
 have hc':c∈(a.cps++b.cps).toList:=hc
 rw [Array.toList_append] at hc'
 rcases List.mem_append.mp hc' with h|h
 ·exact ha c h
 ·exact hb c h
theorem sok_rep{x:Str}(h:PyData.strOk x=true):∀(n:Nat) (acc:Array Nat),(∀c∈acc.toList,c < 0x110000)→∀c∈((List.replicate n x.cps).foldl (·++·) acc).toList,c < 0x110000
 |0,acc,ha=>ha
 |n+1,acc,ha=>by
  rw [List.replicate_succ,List.foldl_cons]
  refine sok_rep h n _ fun c hc=>?_
  rw [Array.toList_append] at hc
  rcases List.mem_append.mp hc with q|q
  ·exact ha c q
  ·exact(sok_iff x).mp h c q
theorem sok_mul{x:Str}(h:PyData.strOk x=true)(n:Int):PyData.strOk (Txt.mul x n)=true:=by
 unfold Txt.mul
 split
 ·decide +kernel
 ·split
  ·exact h
  ·rw [sok_iff]
   exact sok_rep h _ _ (fun c hc=>by simp at hc)
theorem len_app(a b:Str):(a++b).length=a.length+b.length:=by
 show Array.size (a.cps++b.cps)=_
 rw [Array.size_append]<;>rfl
theorem at_int{ns:List Int}{i:Int}(h0:0≤i)(h1:i < ns.length):∃v:Int,atI (ns.map V.int) i=some (.int v):=by
 have hk:i.toNat < List.length ns:=by omega
 have e:i=((i.toNat:Nat):Int):=by omega
 have q:atI (ns.map V.int) ((i.toNat:Nat):Int)=some (.int ns[i.toNat]):=atI_nat (by simp [hk])
 rw [←e] at q
 exact⟨_,q⟩
theorem at_ex{α:Type}{xs:List α}{i:Int}(h0:0≤i)(h1:i < xs.length):∃v,atI xs i=some v:=by
 have hk:i.toNat < xs.length:=by omega
 have e:i=((i.toNat:Nat):Int):=by omega
 have q:atI xs ((i.toNat:Nat):Int)=some xs[i.toNat]:=atI_nat (by simp)
 rw [←e] at q
 exact⟨_,q⟩
theorem sput{H H2:Hp}{a:Addr}{o:HO}(e:Same H H2)(h:H a=none):Same H (upd H2 a o):=fun b u q=>by rw [upd_ne (ne_of_none q h)];exact e b u q
theorem sqt_upd{K:PySem.W.Frag}{H:Hp}{l a:Addr}{ys xs:List V}{o:HO}(h:H l=some (.lst ys))(t:SqT K H a xs):SqT K (upd H l o) a xs:=by
 rcases t with (t|⟨o',t⟩)|t
 ·exact .inl (.inl (by rw [upd_ne (fun e=>by rw [e,h] at t;cases t)];exact t))
 ·exact .inl (.inr ⟨o',by rw [upd_ne (fun e=>by rw [e,h] at t;cases t)];exact t⟩)
 ·exact .inr t
theorem kd_keep{K:PySem.W.Frag}{H H':Hp}(e:∀a xs,SqT K H a xs→SqT K H' a xs):∀{x:V} {k:Kd},KdAt K H x k→KdAt K H' x k
 |_,_,.num h=>.num (e _ _ h)
 |_,_,.name h=>.name (e _ _ h)
 |_,_,.pair h a b=>.pair (e _ _ h) (kd_keep e a) (kd_keep e b)
theorem sql_same{K:PySem.W.Frag}{H H':Hp}{a:Addr}{xs:List V}(e:Same H H')(h:SqL K H a xs):SqL K H' a xs:=by
 rcases h with (h|⟨o,h⟩)|h
 ·exact .inl (.inl (e _ _ h))
 ·exact .inl (.inr ⟨o,e _ _ h⟩)
 ·exact .inr h
theorem call_isi{X:Cx}:CallR X (.builtin "isinstance") (fun xs H Q=>∃x T t b,xs=[x,.ty T]∧TyOf X.K H x t∧PySem.W.kitOne X.K t (.type T)=some b∧Q (.bl b) H):=by
 intro pins s σ H xs us Q I rv h
 obtain⟨x,T,t,b,rfl,ty,e,q⟩:=h
 obtain⟨u,v,rfl,r1,r2⟩:=rv.two
 cases r2
 exact isinst_ok I r1 ty e fun tk=>⟨.bl b,H,I.tok _,rfl,q⟩
theorem kit_ii(K:PySem.W.Frag):PySem.W.kitOne K (.type "int") (.type "int")=some true:=rfl
theorem kit_ib(K:PySem.W.Frag):PySem.W.kitOne K (.type "int") (.type "bool")=some false:=rfl
theorem bootInt:bootBuiltins "int"=some (.type "int"):=by decide +kernel
theorem bootTuple:bootBuiltins "tuple"=some (.type "tuple"):=by decide +kernel
def Kd.depth:Kd→Nat
 |.num _=>1
 |.name _ _=>1
 |.pair a b=>1+max (Kd.depth a) (Kd.depth b)
def smW(z:Str):Prop:=PyData.strOk z=true∧z.length≤14
def Kd.ok:Kd→Prop
 |.num _=>True
 |.name q t=>smW q∧smW t
 |.pair a b=>Kd.ok a∧Kd.ok b
def Kd.dat:Kd→PyData
 |.num n=>.tuple [.str "num",.int n]
 |.name q t=>.tuple [.str "name",.str q,.str t]
 |.pair a b=>.tuple [.str "pair",Kd.dat a,Kd.dat b]
theorem kd_dat{K:PySem.W.Frag}{H:Hp}:∀{x:V} {k:Kd},KdAt K H x k→Dat K H x (Kd.dat k)
 |_,_,.num t=>.tup t (.cons (.str _) (.cons (.int _) .nil))
 |_,_,.name t=>.tup t (.cons (.str _) (.cons (.str _) (.cons (.str _) .nil)))
 |_,_,.pair t a b=>.tup t (.cons (.str _) (.cons (kd_dat a) (.cons (kd_dat b) .nil)))
theorem eqv_tup(xs ys:List PyData):PyData.eqv (.tuple xs) (.tuple ys)=PyData.eqvAll xs ys:=by simp [PyData.eqv]
theorem eqv_lst(xs ys:List PyData):PyData.eqv (.list xs) (.list ys)=PyData.eqvAll xs ys:=by simp [PyData.eqv]
theorem eqvA_cons(x y:PyData)(xs ys:List PyData):PyData.eqvAll (x::xs) (y::ys)=(PyData.eqv x y&&PyData.eqvAll xs ys):=by simp [PyData.eqvAll]
theorem eqvA_nil:PyData.eqvAll [] []=true:=by simp [PyData.eqvAll]
theorem eqv_str(x y:Str):PyData.eqv (.str x) (.str y)=decide (x=y):=by
 rw [show PyData.eqv (.str x) (.str y)=(x==y) by simp [PyData.eqv]]
 rfl
theorem eqv_int(x y:Int):PyData.eqv (.int x) (.int y)=decide (x=y):=by
 rw [show PyData.eqv (.int x) (.int y)=(x==y) by simp [PyData.eqv]]
 rfl
theorem eqv_dat(a:Kd):∀b:Kd,PyData.eqv (Kd.dat a) (Kd.dat b)=decide (a=b):=by
 induction a with
 |num n =>
  intro b
  cases b with
  |num m =>
   show PyData.eqv (.tuple [.str "num",.int n]) (.tuple [.str "num",.int m])=_
   rw [eqv_tup,eqvA_cons,eqvA_cons,eqvA_nil,eqv_str,eqv_int]
   simp
  |name q t =>
   show PyData.eqv (.tuple (.str "num"::_)) (.tuple (.str "name"::_))=_
   rw [eqv_tup,eqvA_cons,eqv_str,decide_eq_false (by decide +kernel),decide_eq_false (by intro e;cases e)]
   rfl
  |pair c d =>
   show PyData.eqv (.tuple (.str "num"::_)) (.tuple (.str "pair"::_))=_
   rw [eqv_tup,eqvA_cons,eqv_str,decide_eq_false (by decide +kernel),decide_eq_false (by intro e;cases e)]
   rfl
 |name q t =>
  intro b
  cases b with
  |num m =>
   show PyData.eqv (.tuple (.str "name"::_)) (.tuple (.str "num"::_))=_
   rw [eqv_tup,eqvA_cons,eqv_str,decide_eq_false (by decide +kernel),decide_eq_false (by intro e;cases e)]
   rfl
  |name q' t' =>
   show PyData.eqv (.tuple [.str "name",.str q,.str t]) (.tuple [.str "name",.str q',.str t'])=_
   rw [eqv_tup,eqvA_cons,eqvA_cons,eqvA_cons,eqvA_nil,eqv_str,eqv_str,eqv_str]
   simp
  |pair c d =>
   show PyData.eqv (.tuple (.str "name"::_)) (.tuple (.str "pair"::_))=_
   rw [eqv_tup,eqvA_cons,eqv_str,decide_eq_false (by decide +kernel),decide_eq_false (by intro e;cases e)]
   rfl
 |pair a1 a2 h1 h2 =>
  intro b
  cases b with
  |num m =>
   show PyData.eqv (.tuple (.str "pair"::_)) (.tuple (.str "num"::_))=_
   rw [eqv_tup,eqvA_cons,eqv_str,decide_eq_false (by decide +kernel),decide_eq_false (by intro e;cases e)]
   rfl
  |name q' t' =>
   show PyData.eqv (.tuple (.str "pair"::_)) (.tuple (.str "name"::_))=_
   rw [eqv_tup,eqvA_cons,eqv_str,decide_eq_false (by decide +kernel),decide_eq_false (by intro e;cases e)]
   rfl
  |pair c d =>
   show PyData.eqv (.tuple [.str "pair",Kd.dat a1,Kd.dat a2]) (.tuple [.str "pair",Kd.dat c,Kd.dat d])=_
   rw [eqv_tup,eqvA_cons,eqvA_cons,eqvA_cons,eqvA_nil,eqv_str,h1,h2]
   simp
theorem lay_kd:∀{k:Kd},Kd.ok k→PyData.canLay0 (Kd.dat k)=true
 |.num n,_=>by
  have h:PyData.strOk "num"=true:=by decide +kernel
  simp [Kd.dat,PyData.canLay0,PyData.canLayAll0,h]
 |.name q t,⟨h1,h2⟩=>by
  have h:PyData.strOk "name"=true:=by decide +kernel
  simp [Kd.dat,PyData.canLay0,PyData.canLayAll0,h,h1.1,h2.1]
 |.pair a b,⟨h1,h2⟩=>by
  have h:PyData.strOk "pair"=true:=by decide +kernel
  simp [Kd.dat,PyData.canLay0,PyData.canLayAll0,h,lay_kd h1,lay_kd h2]
theorem deep_kd:∀k:Kd,PyData.depth (Kd.dat k)≤Kd.depth k
 |.num n=>by simp [Kd.dat,PyData.depth,PyData.depthAll,Kd.depth]
 |.name q t=>by simp [Kd.dat,PyData.depth,PyData.depthAll,Kd.depth]
 |.pair a b=>by
  have h1:=deep_kd a
  have h2:=deep_kd b
  simp only [Kd.dat,PyData.depth,PyData.depthAll,Kd.depth]
  omega
theorem kd_shaped{k:Kd}(h:Kd.ok k)(hd:Kd.depth k≤60):SeqAt.shaped (Kd.dat k)=true:=by
 have h1:=lay_kd h
 have h2:=deep_kd k
 unfold SeqAt.shaped
 rw [h1,decide_eq_true (show PyData.depth (Kd.dat k)≤64 by omega)]
 rfl
section
variable{P:Program}{w:World}{K:PySem.W.Frag}{mg:Str→Option Value}{base:Heap}
def spBounded(K:PySem.W.Frag)(CT:Addr):Sp:=fun vs H Q E=>∃(x:V) (k:Kd) (m:Int),vs=[x,.int m]∧KdAt K H x k∧k.words≤20000∧0≤m∧m≤1000000 ∧
 ∀H',Same H H'→if (k.words:Int) > m then E (.ref CT) none H' else Q x H'
theorem scBounded:FnScope ["kind","most","words"] ["kind","most"] (defScope sBounded):=⟨rfl,rfl,rfl,by decide +kernel,rfl,by decide +kernel,by decide +kernel⟩
theorem log_small{i:Int}(h0:0≤i)(h1:i≤1000000):i.natAbs.log2 < 1920:=by
 by_cases hz:i.natAbs=0
 ·rw [hz];decide
 ·refine(Nat.log2_lt hz).mpr (Nat.lt_of_le_of_lt (m:=1000000) (by omega) ?_)
  exact Nat.lt_of_lt_of_le (show 1000000 < 2 ^ 20 by decide) (Nat.pow_le_pow_right (by decide) (by decide))
theorem txt_small{i:Int}(h0:0≤i)(h1:i≤1000000):(Str.ofString (toString i)).length≤2000000:=by
 have:=PyProof.Rows.toString_length_le h0 (k:=7) (by decide) (Int.lt_of_le_of_lt h1 (by decide))
 omega
theorem ok_bounded{f fw CT:Addr}{fd fdw:FuncData} (F:Fun K "bounded" "bounded" sBounded f fd) (GW:FnOk P w K mg base CX0 1 fw fdw ["kind"] (spWords K)) (bW:Binds K fdw ["kind"] []) (kW:PySem.W.keepIn K (.ref fw)=true) (mW:mg "words_in"=some (.ref fw))
  (mT:mg "TooBig"=some (.ref CT)) (xT:PySem.W.excIn K CT bmVE "ValueError.__new__"=true):FnOk P w K mg base (CX1 P w) 2 f fd ["kind","most"] (spBounded K CT):=by
 refine F.okX scBounded (fun vs H Q E h=>?_) (fun cdv A outer s H vs Q E hr h=>?_)
 ·obtain⟨x,k,m,rfl,_⟩:=h
  rfl
 obtain⟨x,k,m,rfl,hk,h9,m0,m1,q⟩:=h
 refine⟨_,pss_cons (ps_set (i:=2) scBounded.nd rfl (Or.inl rfl) (pe_call GW hr rfl mW kW bW .nil pass0 (pa_cons (pv 0) pa_nil)))
  (pss_cons (ps_if (pt_cmpR op_gt (pv 2) (pv 1) (nomark _))
   (pss_one (ps_raise1 rfl mT xT (pa_cons (pe_fstr (pj_cons pe_str (pj_cons (pe_fv (pv 2)) (pj_cons pe_str (pj_cons (pe_fv (pv 1)) (pj_cons pe_str pj_nil))))) (by decide)) pa_nil))) pss_nil)
  (pss_one (ps_ret (pv 0)))),?_⟩
 refine⟨_,rfl,x,k,rfl,hk,h9,fun H1 s1=>?_⟩
 have q1:=q H1 s1
 refine⟨_,rfl,_,rfl,_,_,rfl,rfl,_,rfl,?_⟩
 refine ite2 (fun c=>?_) (fun c=>?_)
 ·have c':(k.words:Int) > m:=of_decide_eq_true c
  rw [if_pos c'] at q1
  have l9:(0:Int)≤(k.words:Int)∧(k.words:Int)≤1000000:=⟨by omega,by omega⟩
  refine⟨_,rfl,by decide +kernel,_,rfl,.inr ⟨_,rfl,log_small l9.1 l9.2,_,rfl,txt_small l9.1 l9.2,_,rfl,by decide +kernel,_,rfl,.inr ⟨_,rfl,log_small m0 m1,_,rfl,txt_small m0 m1,_,rfl,by decide +kernel,fun z hz=>⟨(by show 1≤sizeLine;decide),q1⟩⟩⟩⟩
 ·have c':¬(k.words:Int) > m:=fun z=>c (decide_eq_true z)
  rw [if_neg c'] at q1
  exact⟨_,rfl,q1⟩
end
end K62
namespace K62
open PySem L2 Kk
inductive Fm where
 |lit (v n:Int)
 |op (o:Str) (n:Int)
 |test (o:Str)
 |as_ (n:Int)
 |if_
 |two
 |fst
 |snd
def Fm.vals:Fm→List V
 |.lit v n=>[.str "lit",.int v,.int n]
 |.op o n=>[.str "op",.str o,.int n]
 |.test o=>[.str "test",.str o]
 |.as_ n=>[.str "as",.int n]
 |.if_=>[.str "if"]
 |.two=>[.str "two"]
 |.fst=>[.str "first"]
 |.snd=>[.str "second"]
inductive Ex where
 |var (s:Str)
 |let_ (x:Str) (a b:Ex)
 |nd (f:Fm) (es:List Ex)
 |call (q t:Str) (es:List Ex)
mutual
def Ex.ht:Ex→Nat
 |.var _=>1
 |.let_ _ a b=>1+max a.ht b.ht
 |.nd _ es=>1+max es.length (hts es)
 |.call _ _ es=>1+max es.length (hts es)
def hts:List Ex→Nat
 |[]=>0
 |e::es=>max e.ht (hts es)
end
theorem hts_mem:∀{es:List Ex} {e:Ex},e∈es→e.ht≤hts es
 |a::as,e,h=>by
  show _≤max a.ht (hts as)
  rcases List.mem_cons.mp h with rfl|z
  ·omega
  ·have:=hts_mem z;omega
inductive R (α:Type) where
 |ok (a:α)
 |no (c:Nat)
def Kd.isNum:Kd→Bool
 |.num _=>true
 |_=>false
def fmK(mo:Int):Fm→List Kd→R Kd
 |.lit _ n,[]=>.ok (.num n)
 |.op _ n,ks=>if ks=[.num n,.num n] then .ok (.num n) else .no 2
 |.test _,[a,b]=>if Kd.isNum a=true∧a=b then .ok (.num 2) else .no 2
 |.as_ n,[a]=>if Kd.isNum a=true then .ok (.num n) else .no 2
 |.if_,[a,b,c]=>if a=.num 2 then (if b=c then .ok b else .no 2) else .no 2
 |.two,[a,b]=>if ((Kd.pair a b).words:Int) > mo then .no 3 else if Kd.depth (.pair a b)≤50∧(Kd.pair a b).words≤9000 then .ok (.pair a b) else .no 9
 |.fst,[.pair a _]=>.ok a
 |.fst,[_]=>.no 2
 |.snd,[.pair _ b]=>.ok b
 |.snd,[_]=>.no 2
 |_,_=>.no 9
abbrev Orc:=Str→Str→Option (List Kd × Kd)
def ansK(t:Option (List Kd × Kd))(ks:List Kd):R Kd:=match t with
 |none=>.no 0
 |some (us,k)=>if us.length=ks.length then (if us=ks then .ok k else .no 2) else .no 1
mutual
def kin(mo:Int)(C:Orc)(ρ:Str→Option Kd):Ex→R Kd
 |.var s=>match ρ s with
  |some k=>.ok k
  |none=>.no 0
 |.let_ x a b=>match kin mo C ρ a with
  |.ok k=>kin mo C (fun y=>if y=x then some k else ρ y) b
  |.no c=>.no c
 |.nd f es=>match kins mo C ρ es with
  |.ok ks=>fmK mo f ks
  |.no c=>.no c
 |.call q t es=>match kins mo C ρ es with
  |.ok ks=>ansK (C q t) ks
  |.no c=>.no c
def kins(mo:Int)(C:Orc)(ρ:Str→Option Kd):List Ex→R (List Kd)
 |[]=>.ok []
 |e::es=>match kin mo C ρ e with
  |.no c=>.no c
  |.ok k=>match kins mo C ρ es with
   |.ok ks=>.ok (k::ks)
   |.no c=>.no c
end
theorem kins_snoc{mo:Int}{C:Orc}{ρ:Str→Option Kd}{e:Ex}{k:Kd}(he:kin mo C ρ e=.ok k):∀{es:List Ex} {ks:List Kd},kins mo C ρ es=.ok ks→kins mo C ρ (es++[e])=.ok (ks++[k])
 |[],ks,h=>by
  rw [kins] at h
  cases h
  show kins mo C ρ [e]=_
  rw [kins,he,kins]
  rfl
 |a::es,ks,h=>by
  rw [kins] at h
  show kins mo C ρ (a::(es++[e]))=_
  rw [kins]
  cases h1:kin mo C ρ a with
  |no c=>rw [h1] at h;cases h
  |ok k1 =>
   rw [h1] at h
   cases h2:kins mo C ρ es with
   |no c=>rw [h2] at h;cases h
   |ok k2 =>
    rw [h2] at h
    cases h
    rw [kins_snoc he h2]
    rfl
theorem kins_stop{mo:Int}{C:Orc}{ρ:Str→Option Kd}{e:Ex}{c:Nat}{r:List Ex}(he:kin mo C ρ e=.no c):∀{es:List Ex} {ks:List Kd},kins mo C ρ es=.ok ks→kins mo C ρ (es++e::r)=.no c
 |[],ks,h=>by
  show kins mo C ρ (e::r)=_
  rw [kins,he]
 |a::es,ks,h=>by
  rw [kins] at h
  show kins mo C ρ (a::(es++e::r))=_
  rw [kins]
  cases h1:kin mo C ρ a with
  |no c=>rw [h1] at h;cases h
  |ok k1 =>
   rw [h1] at h
   cases h2:kins mo C ρ es with
   |no c=>rw [h2] at h;cases h
   |ok k2=>rw [kins_stop he h2]
theorem kins_len{mo:Int}{C:Orc}{ρ:Str→Option Kd}:∀{es:List Ex} {ks:List Kd},kins mo C ρ es=.ok ks→ks.length=es.length
 |[],ks,h=>by rw [kins] at h;cases h;rfl
 |a::es,ks,h=>by
  rw [kins] at h
  cases h1:kin mo C ρ a with
  |no c=>rw [h1] at h;cases h
  |ok k1 =>
   rw [h1] at h
   cases h2:kins mo C ρ es with
   |no c=>rw [h2] at h;cases h
   |ok k2=>rw [h2] at h;cases h;exact congrArg (·+1) (kins_len h2)
def Kd.sm(k:Kd):Prop:=Kd.ok k∧Kd.depth k≤50∧k.words≤9000
def KAt(K:PySem.W.Frag)(H:Hp)(x:V)(k:Kd):Prop:=KdAt K H x k∧Kd.sm k
theorem KAt.same{K:PySem.W.Frag}{H H':Hp}(s:Same H H'){x:V}{k:Kd}(h:KAt K H x k):KAt K H' x k:=⟨h.1.same s,h.2⟩
abbrev KsAt(K:PySem.W.Frag)(H:Hp):List V→List Kd→Prop:=Paired (KAt K H)
theorem KsAt.same{K:PySem.W.Frag}{H H':Hp}(s:Same H H'){xs:List V}{ks:List Kd}(h:KsAt K H xs ks):KsAt K H' xs ks:=Paired.mapP h fun _ _ z=>z.same s
theorem sm_shaped{k:Kd}(h:Kd.sm k):SeqAt.shaped (Kd.dat k)=true:=kd_shaped h.1 (Nat.le_trans h.2.1 (by decide))
theorem sm_l{a b:Kd}(h:Kd.depth (.pair a b)≤50∧(Kd.pair a b).words≤9000):Kd.depth a≤50∧a.words≤9000:=by
 have e:(Kd.pair a b).words=1+a.words+b.words:=rfl
 simp only [Kd.depth] at h
 omega
theorem sm_r{a b:Kd}(h:Kd.depth (.pair a b)≤50∧(Kd.pair a b).words≤9000):Kd.depth b≤50∧b.words≤9000:=by
 have e:(Kd.pair a b).words=1+a.words+b.words:=rfl
 simp only [Kd.depth] at h
 omega
mutual
inductive ExAt (H:Hp):V→Ex→Prop
 |var {p:Addr} {s:Str}:H p=some (.tup [.str "var",.str s])→s.length≤9000→ExAt H (.ref p) (.var s)
 |let_ {p:Addr} {s:Str} {x y:V} {a b:Ex}:H p=some (.tup [.str "let",.str s,x,y])→ExAt H x a→ExAt H y b→ExAt H (.ref p) (.let_ s a b)
 |nd {p:Addr} {f:Fm} {xs:List V} {es:List Ex}:H p=some (.tup (f.vals++xs))→ExsAt H xs es→((∃v n,f=.lit v n)→xs=[])→ExAt H (.ref p) (.nd f es)
 |call {p p2:Addr} {q t:Str} {xs:List V} {es:List Ex}:H p=some (.tup [.str "call",.str q,.str t,.ref p2])→H p2=some (.tup xs)→ExsAt H xs es→smW q∧smW t→ExAt H (.ref p) (.call q t es)
inductive ExsAt (H:Hp):List V→List Ex→Prop
 |nil:ExsAt H [] []
 |cons {x:V} {e:Ex} {xs:List V} {es:List Ex}:ExAt H x e→ExsAt H xs es→ExsAt H (x::xs) (e::es)
end
mutual
theorem ExAt.same{H H':Hp}(s:Same H H'):∀{x:V} {e:Ex},ExAt H x e→ExAt H' x e
 |_,_,.var h l=>.var (s _ _ h) l
 |_,_,.let_ h a b=>.let_ (s _ _ h) (ExAt.same s a) (ExAt.same s b)
 |_,_,.nd h r l=>.nd (s _ _ h) (ExsAt.same s r) l
 |_,_,.call h h2 r l=>.call (s _ _ h) (s _ _ h2) (ExsAt.same s r) l
theorem ExsAt.same{H H':Hp}(s:Same H H'):∀{xs:List V} {es:List Ex},ExsAt H xs es→ExsAt H' xs es
 |_,_,.nil=>.nil
 |_,_,.cons a r=>.cons (ExAt.same s a) (ExsAt.same s r)
end
theorem ExsAt.get{H:Hp}:∀{xs:List V} {es:List Ex} {i:Nat} {x:V},ExsAt H xs es→xs[i]?=some x→∃e,es[i]?=some e∧ExAt H x e
 |_,_,_,_,.nil,h=>by simp at h
 |_,_,0,_,.cons a _,h=>by simp at h;subst h;exact⟨_,rfl,a⟩
 |_,_,i+1,x,.cons _ r,h=>by
  obtain⟨e,h1,h2⟩:=ExsAt.get (i:=i) (x:=x) r (by simpa using h)
  exact⟨e,by simpa using h1,h2⟩
theorem ExsAt.length{H:Hp}:∀{xs:List V} {es:List Ex},ExsAt H xs es→xs.length=es.length
 |_,_,.nil=>rfl
 |_,_,.cons _ r=>congrArg (·+1) r.length
def EnvAt(K:PySem.W.Frag)(H:Hp)(d:Addr)(ρ:Str→Option Kd)(m:Nat):Prop:=∃kvs,H d=some (.dK kvs)∧kvs.length≤m∧∀s,(ρ s=none∧valV kvs (.inr s)=none)∨∃k u,ρ s=some k∧valV kvs (.inr s)=some u∧KAt K H u k
theorem EnvAt.same{K:PySem.W.Frag}{H H':Hp}{d:Addr}{ρ:Str→Option Kd}{m:Nat}(h:EnvAt K H d ρ m)(s:Same H H'):EnvAt K H' d ρ m:=by
 obtain⟨kvs,h1,h2,h3⟩:=h
 refine⟨kvs,s _ _ h1,h2,fun x=>?_⟩
 rcases h3 x with h|⟨k,u,e1,e2,e3⟩
 ·exact .inl h
 ·exact .inr ⟨k,u,e1,e2,e3.same s⟩
def Out(K:PySem.W.Frag)(cl:Nat→Addr)(r:R Kd)(H:Hp)(Q:VK)(E:XK):Prop:=match r with
 |.ok k=>∀H' u,Same H H'→KAt K H' u k→Q u H'
 |.no c=>c < 4∧∀H',Same H H'→E (.ref (cl c)) none H'
theorem Out.same{K:PySem.W.Frag}{cl:Nat→Addr}{r:R Kd}{H H1:Hp}{Q:VK}{E:XK}(h:Out K cl r H Q E)(s:Same H H1):Out K cl r H1 Q E:=by
 cases r with
 |ok k=>exact fun H' u s' hu=>h H' u (s.trans s') hu
 |no c=>exact⟨h.1,fun H' s'=>h.2 H' (s.trans s')⟩
abbrev ahs:List (Str × Int):=[("op",3),("test",2),("as",2),("let",2),("if",1),("two",1),("first",1),("second",1)]
abbrev lvV:List V:=[.str "lit",.str "var"]
theorem flat_lv:lvV.all flatV=true:=by decide +kernel
theorem fm_head(f:Fm):∃(z:Str) (r:List V),f.vals=.str z::r∧z≠"call"∧z≠"var"∧z≠"let"∧((z="two"∧f=.two)∨(z≠"two"∧f≠.two))∧((inV (.str z) lvV=true∧∃v n,f=.lit v n)∨(inV (.str z) lvV=false∧numAtS ahs z=some ((r.length+1:Nat):Int))):=by
 cases f with
 |lit v n=>exact⟨_,_,rfl,by decide +kernel,by decide +kernel,by decide +kernel,.inr ⟨by decide +kernel,nofun⟩,.inl ⟨by decide +kernel,v,n,rfl⟩⟩
 |op o n=>exact⟨_,_,rfl,by decide +kernel,by decide +kernel,by decide +kernel,.inr ⟨by decide +kernel,nofun⟩,.inr ⟨by decide +kernel,rfl⟩⟩
 |test o=>exact⟨_,_,rfl,by decide +kernel,by decide +kernel,by decide +kernel,.inr ⟨by decide +kernel,nofun⟩,.inr ⟨by decide +kernel,rfl⟩⟩
 |as_ n=>exact⟨_,_,rfl,by decide +kernel,by decide +kernel,by decide +kernel,.inr ⟨by decide +kernel,nofun⟩,.inr ⟨by decide +kernel,rfl⟩⟩
 |if_=>exact⟨_,_,rfl,by decide +kernel,by decide +kernel,by decide +kernel,.inr ⟨by decide +kernel,nofun⟩,.inr ⟨by decide +kernel,by decide +kernel⟩⟩
 |two=>exact⟨_,_,rfl,by decide +kernel,by decide +kernel,by decide +kernel,.inl ⟨rfl,rfl⟩,.inr ⟨by decide +kernel,by decide +kernel⟩⟩
 |fst=>exact⟨_,_,rfl,by decide +kernel,by decide +kernel,by decide +kernel,.inr ⟨by decide +kernel,nofun⟩,.inr ⟨by decide +kernel,by decide +kernel⟩⟩
 |snd=>exact⟨_,_,rfl,by decide +kernel,by decide +kernel,by decide +kernel,.inr ⟨by decide +kernel,nofun⟩,.inr ⟨by decide +kernel,by decide +kernel⟩⟩
theorem str_no{a b:Str}(h:a≠b):¬decide (V.str a=V.str b)=true:=fun z=>h (V.str.inj (of_decide_eq_true z))
theorem str_yes{a:Str}:decide (V.str a=V.str a)=true:=decide_eq_true rfl
theorem no_s{a b:Str}{A B:Prop}(h:a≠b)(hb:B):if decide (V.str a=V.str b)=true then A else B:=by rw [if_neg (str_no h)];exact hb
theorem yes_s{a:Str}{A B:Prop}(h:A):if decide (V.str a=V.str a)=true then A else B:=by rw [if_pos str_yes];exact h
theorem at0{x:V}{xs:List V}:atI (x::xs) 0=some x:=(atI_nat (j:=0) rfl:atI (x::xs) ((0:Nat):Int)=_)
theorem at1{x y:V}{xs:List V}:atI (x::y::xs) 1=some y:=(atI_nat (j:=1) rfl:atI (x::y::xs) ((1:Nat):Int)=_)
theorem at2{x y z:V}{xs:List V}:atI (x::y::z::xs) 2=some z:=(atI_nat (j:=2) rfl:atI (x::y::z::xs) ((2:Nat):Int)=_)
theorem at3{x y z u:V}{xs:List V}:atI (x::y::z::u::xs) 3=some u:=(atI_nat (j:=3) rfl:atI (x::y::z::u::xs) ((3:Nat):Int)=_)
theorem cut_from(xs:List V)(k:Nat):cutV xs (some (k:Int)) none=xs.drop k:=by
 unfold cutV
 rw [HT.sIx_nat,HT.sIx_none]
 by_cases h:k≤xs.length
 ·rw [Nat.min_eq_left h,List.take_of_length_le (by rw [List.length_drop];omega)]
 ·rw [Nat.min_eq_right (by omega),List.drop_length,List.drop_eq_nil_of_le (by omega),List.take_nil]
theorem not_whole{n k:Nat}(h:1≤k)(hn:1≤n):¬(HT.sIx n 0 (some (k:Int))=0∧HT.sIx n n none=n):=fun z=>by
 have:=z.1
 rw [HT.sIx_nat] at this
 omega
def spWithin:Sp:=fun vs H Q _=>∃(x:V) (xs:List V),vs=[x]∧((∃(p:Addr) (f:Fm),x=.ref p∧H p=some (.tup (f.vals++xs))∧((∃v n,f=.lit v n)→xs=[]))∨∃(p p2:Addr) (q t:Str),x=.ref p∧H p=some (.tup [.str "call",.str q,.str t,.ref p2])∧H p2=some (.tup xs))∧∀H' (r:Addr),Same H H'→H' r=some (.tup xs)→Q (.ref r) H'
section
variable{P:Program}{w:World}{K:PySem.W.Frag}{mg:Str→Option Value}{base:Heap}
theorem scWithin:FnScope ["expression","form"] ["expression"] (defScope sWithin):=⟨rfl,rfl,rfl,by decide +kernel,rfl,by decide +kernel,by decide +kernel⟩
theorem ok_within{f pA:Addr}{fd:FuncData} (F:Fun K "within" "within" sWithin f fd) (mA:mg "AHEAD"=some (.ref pA)) (hA:DKt K w pA ahs):FnOk P w K mg base CX0 1 f fd ["expression"] spWithin:=by
 refine F.ok scWithin (fun vs H Q E h=>?_) (fun cdv A outer s H vs Q E hr h=>?_)
 ·obtain⟨x,xs,rfl,_⟩:=h
  rfl
 obtain⟨x,xs,rfl,hx,q⟩:=h
 refine⟨_,pss_cons (ps_set (i:=1) scWithin.nd rfl (Or.inl rfl) (pe_ix ix_tup (pv 0) pe_int (fun _ _=>rfl)))
  (pss_cons (ps_if (pt_cmpR op_in_seq (pv 1) (pe_tup (pa_cons pe_str (pa_cons pe_str pa_nil))) (by with_unfolding_all rfl)) (pss_one (ps_ret (pe_tup pa_nil))) pss_nil)
  (pss_cons (ps_if (pt_cmpR op_eq (pv 1) pe_str (nomark _)) (pss_one (ps_ret (pe_ix ix_tup (pv 0) pe_int (fun _ _=>rfl)))) pss_nil)
  (pss_one (ps_ret (pe_slice sl_tup (pv 0) (po_some (pe_dgetK (pe_glob rfl mA (v:=.ref pA) rfl) (pv 1) (fun _ _=>rfl))) po_none))))),?_⟩
 rcases hx with ⟨p,fm,rfl,hp,hlit⟩|⟨p,p2,a,t,rfl,hp,hp2⟩
 ·obtain⟨z,r,e1,e3,_,_,_,e4⟩:=fm_head fm
  rw [e1] at hp
  refine⟨_,rfl,p,_,_,.str z,rfl,rfl,SqT.of hp,?_,_,rfl,(by show 2≤sizeLine;decide),fun p3 hp3=>?_⟩
  ·exact(atI_nat (j:=0) rfl:atI (V.str z::(r++xs)) ((0:Nat):Int)=_)
  have s3:=same_new hp3 (.tup lvV)
  rcases e4 with ⟨e4,e5⟩|⟨e4,e5⟩
  ·refine⟨p3,lvV,rfl,.inr (SqT.of upd_same),rfl,flat_lv,_,rfl,ite2 (fun c=>?_) (fun c=>absurd e4 c)⟩
   cases hlit e5
   exact⟨(by show 0≤sizeLine;decide),fun p5 hp5=>q _ p5 (s3.trans (same_new hp5 _)) upd_same⟩
  ·refine⟨p3,lvV,rfl,.inr (SqT.of upd_same),rfl,flat_lv,_,rfl,ite2 (fun c=>absurd c (by rw [e4];decide)) (fun _=>?_)⟩
   refine⟨_,rfl,rfl,_,rfl,ite2 (fun c=>absurd c (str_no e3)) (fun _=>?_)⟩
   refine⟨_,rfl,_,rfl,pA,ahs,z,_,rfl,hA,rfl,e5,_,rfl,p,_,rfl,SqT.of (s3 _ _ hp),not_whole (by omega) (by simp),fun p5 hp5=>?_⟩
   have e6:cutV (V.str z::r++xs) (some ((r.length+1:Nat):Int)) none=xs:=by
    rw [cut_from]
    simp
   have h5:∀Hq:Hp,(upd Hq p5 (.tup (cutV (V.str z::r++xs) (some ((r.length+1:Nat):Int)) none))) p5=some (.tup xs):=fun Hq=>by rw [upd_same,e6]
   exact q _ p5 (s3.trans (same_new hp5 _)) (h5 _)
 ·refine⟨_,rfl,p,_,_,.str "call",rfl,rfl,SqT.of hp,rfl,_,rfl,(by show 2≤sizeLine;decide),fun p3 hp3=>?_⟩
  have s3:=same_new hp3 (.tup lvV)
  refine⟨p3,lvV,rfl,.inr (SqT.of upd_same),rfl,flat_lv,_,rfl,ite2 (fun c=>absurd c (by decide +kernel)) (fun _=>?_)⟩
  refine⟨_,rfl,rfl,_,rfl,ite2 (fun _=>?_) (fun c=>absurd (by decide +kernel) c)⟩
  exact⟨_,rfl,p,_,_,.ref p2,rfl,rfl,SqT.of (s3 _ _ hp),rfl,q _ _ s3 (s3 _ _ hp2)⟩
end
end K62
namespace K62
open PySem L2 Kk
def ToldAt(K:PySem.W.Frag)(H:Hp)(u:V)(us:List Kd)(k:Kd):Prop:=∃p tk vs x,u=.ref p∧H p=some (.tup [.ref tk,x])∧H tk=some (.tup vs)∧KsAt K H vs us∧KAt K H x k∧us.length≤100
theorem ToldAt.same{K:PySem.W.Frag}{H H':Hp}(s:Same H H'){u:V}{us:List Kd}{k:Kd}(h:ToldAt K H u us k):ToldAt K H' u us k:=by
 obtain⟨p,tk,vs,x,e,h1,h2,h3,h4,h5⟩:=h
 exact⟨p,tk,vs,x,e,s _ _ h1,s _ _ h2,h3.same s,h4.same s,h5⟩
def spDem(C:Addr):Sp:=fun vs H Q E=>∃(b:Bool) (z:Str),vs=[.bl b,.str z]∧z.length≤10000∧if b=true then Q .non H else E (.ref C) none H
def spVarK(K:PySem.W.Frag)(cl:Nat→Addr):Sp:=fun vs H Q E=>∃(s:Str) (d:Addr) (ρ:Str→Option Kd) (m:Nat),vs=[.str s,.ref d]∧EnvAt K H d ρ m∧s.length≤9000∧Out K cl (match ρ s with|some k=>.ok k|none=>.no 0) H Q E
def spAnsK(K:PySem.W.Frag)(cl:Nat→Addr):Sp:=fun vs H Q E=>∃(z:Str) (u:V) (l:Addr) (us ks:List Kd) (k:Kd) (xs:List V),vs=[.str z,u,.ref l]∧z.length≤9000∧ToldAt K H u us k∧H l=some (.lst xs)∧KsAt K H xs ks∧ks.length≤600∧Out K cl (ansK (some (us,k)) ks) H Q E
def spKbf(K:PySem.W.Frag)(cl:Nat→Addr):Sp:=fun vs H Q E=>∃(p l:Addr) (f:Fm) (xs us:List V) (ks:List Kd),vs=[.ref p,.ref l]∧H p=some (.tup (f.vals++xs))∧H l=some (.lst us)∧KsAt K H us ks∧ks.length≤600∧f≠.two∧Out K cl (fmK 0 f ks) H Q E
theorem kat_get{K:PySem.W.Frag}{H:Hp}{xs:List V}{ks:List Kd}{i:Nat}{x:V}(h:KsAt K H xs ks)(hx:xs[i]?=some x):∃k,ks[i]?=some k∧KAt K H x k:=pair_get h hx
theorem ks_dats{K:PySem.W.Frag}{H:Hp}:∀{xs:List V} {ks:List Kd},KsAt K H xs ks→Dats K H xs (ks.map Kd.dat)
 |_,_,.nil=>.nil
 |_,_,.cons a r=>.cons (kd_dat a.1) (ks_dats r)
theorem eqv_dats:∀(a b:List Kd),PyData.eqvAll (a.map Kd.dat) (b.map Kd.dat)=decide (a=b)
 |[],[]=>by rw [List.map_nil,eqvA_nil];rfl
 |[],y::ys=>by simp [PyData.eqvAll]
 |x::xs,[]=>by simp [PyData.eqvAll]
 |x::xs,y::ys=>by
  rw [List.map_cons,List.map_cons,eqvA_cons,eqv_dat,eqv_dats xs ys]
  simp
theorem shaped_lst{ks:List Kd}(h:∀k∈ks,Kd.sm k):SeqAt.shaped (.list (ks.map Kd.dat))=true:=by
 have h1:∀l:List Kd,(∀k∈l,Kd.sm k)→PyData.canLayAll0 (l.map Kd.dat)=true∧PyData.depthAll (l.map Kd.dat)≤60:=by
  intro l
  induction l with
  |nil=>intro _;exact⟨by simp [PyData.canLayAll0],by simp [PyData.depthAll]⟩
  |cons a l ih =>
   intro h
   obtain⟨i1,i2⟩:=ih fun k hk=>h k (.tail _ hk)
   have ha:=h a (.head _)
   have d1:=deep_kd a
   have d3:=ha.2.1
   refine⟨by simp [PyData.canLayAll0,lay_kd ha.1,i1],?_⟩
   simp only [List.map_cons,PyData.depthAll]
   omega
 obtain⟨a,b⟩:=h1 ks h
 unfold SeqAt.shaped
 rw [Bool.and_eq_true]
 refine⟨by simp [PyData.canLay0,a],decide_eq_true ?_⟩
 simp only [PyData.depth]
 omega
theorem ks_sm{K:PySem.W.Frag}{H:Hp}:∀{xs:List V} {ks:List Kd},KsAt K H xs ks→∀k∈ks,Kd.sm k
 |_,_,.cons a r,k,h=>by
  rcases List.mem_cons.mp h with rfl|h
  ·exact a.2
  ·exact ks_sm r k h
theorem num_sm(n:Int):Kd.sm (.num n):=⟨trivial,by show 1≤50∧1≤9000;decide⟩
theorem num_at{K:PySem.W.Frag}{H:Hp}{p:Addr}{n:Int} (h:H p=some (.tup [.str "num",.int n])):KAt K H (.ref p) (.num n):=⟨.num (SqT.of h),num_sm n⟩
def Kd.hd:Kd→Str
 |.num _=>"num"
 |.name _ _=>"name"
 |.pair _ _=>"pair"
theorem kd_tup{K:PySem.W.Frag}{H:Hp}{x:V}{k:Kd}(h:KdAt K H x k):∃p xs,x=.ref p∧SqT K H p (.str (Kd.hd k)::xs):=by
 cases h with
 |num t=>exact⟨_,_,rfl,t⟩
 |name t=>exact⟨_,_,rfl,t⟩
 |pair t _ _=>exact⟨_,_,rfl,t⟩
theorem hd_num(k:Kd):decide (V.str (Kd.hd k)=V.str "num")=Kd.isNum k:=by
 cases k with
 |num _=>exact(by decide +kernel:decide (V.str "num"=V.str "num")=true)
 |name _ _=>exact(by decide +kernel:decide (V.str "name"=V.str "num")=false)
 |pair _ _=>exact(by decide +kernel:decide (V.str "pair"=V.str "num")=false)
def Kd.isPair:Kd→Bool
 |.pair _ _=>true
 |_=>false
theorem hd_pair(k:Kd):decide (V.str (Kd.hd k)=V.str "pair")=Kd.isPair k:=by
 cases k with
 |num _=>exact(by decide +kernel:decide (V.str "num"=V.str "pair")=false)
 |name _ _=>exact(by decide +kernel:decide (V.str "name"=V.str "pair")=false)
 |pair _ _=>exact(by decide +kernel:decide (V.str "pair"=V.str "pair")=true)
theorem hu64_of{A:Around}{k:Nat}(hr:Room k A):A.units+64 < cLine:=by have:=hr.un;omega
theorem le_arg{z:Str}(h:z.length≤9000):(Str.ofString ""++Str.ofString "an argument of "++z).length≤10000:=by
 rw [len_app,len_app]
 have:(Str.ofString "").length+(Str.ofString "an argument of ").length≤100:=by decide +kernel
 omega
section
variable{P:Program}{w:World}{K:PySem.W.Frag}{mg:Str→Option Value}{base:Heap}{cl:Nat→Addr}
theorem scDem:FnScope ["does","what"] ["does","what"] (defScope sDem):=⟨rfl,rfl,rfl,by decide +kernel,rfl,by decide +kernel,by decide +kernel⟩
theorem ok_dem{f C:Addr}{fd:FuncData} (F:Fun K "demand" "demand" sDem f fd) (mW:mg "WrongKind"=some (.ref C)) (xW:PySem.W.excIn K C bmVE "ValueError.__new__"=true):FnOk P w K mg base (CX1 P w) 1 f fd ["does","what"] (spDem C):=by
 refine F.okX (k:=0) scDem (fun vs H Q E h=>?_) (fun cdv A outer s H vs Q E hr h=>?_)
 ·obtain⟨_,_,rfl,_⟩:=h
  rfl
 obtain⟨b,z,rfl,hz,q⟩:=h
 refine⟨_,pss_one (ps_if (pt_not (L2.pt_val (pv 0))) (pss_one (ps_raise1 rfl mW xW (pa_cons (pe_fstr (pj_cons (pe_fv (pv 1)) (pj_cons pe_str pj_nil)) (by decide)) pa_nil))) pss_nil),?_⟩
 refine⟨_,rfl,b,rfl,?_⟩
 cases b with
 |true=>exact iteF q
 |false=>exact iteT ⟨_,rfl,.inl ⟨z,rfl,Nat.le_trans hz (by decide),_,rfl,by omega,_,rfl,by decide +kernel,fun z hz=>⟨(by show 1≤sizeLine;decide),q⟩⟩⟩
theorem scVarK:FnScope ["word","variables"] ["word","variables"] (defScope sVarK):=⟨rfl,rfl,rfl,by decide +kernel,rfl,by decide +kernel,by decide +kernel⟩
theorem ok_varK{f:Addr}{fd:FuncData} (F:Fun K "variable_kind" "variable_kind" sVarK f fd) (mN:mg "NoName"=some (.ref (cl 0))) (xN:PySem.W.excIn K (cl 0) bmVE "ValueError.__new__"=true):FnOk P w K mg base (CX1 P w) 1 f fd ["word","variables"] (spVarK K cl):=by
 refine F.okX (k:=0) scVarK (fun vs H Q E h=>?_) (fun cdv A outer s H vs Q E hr h=>?_)
 ·obtain⟨_,_,_,_,rfl,_⟩:=h
  rfl
 obtain⟨z,d,ρ,m,rfl,⟨kvs,hd,hm,hv⟩,hz,q⟩:=h
 have hu:=hu_of hr
 refine⟨_,pss_cons (ps_if (pt_cmp (pc_dnotin hu (pv 0) (pv 1))) (pss_one (ps_raise1 rfl mN xN (pa_cons (pe_fstr (pj_cons pe_str (pj_cons (pe_fv (pv 0)) pj_nil)) (by decide)) pa_nil))) pss_nil) (pss_one (ps_ret (pe_dget hu (pv 1) (pv 0) (fun _ _=>rfl)))),?_⟩
 have g:=DGet.k (k:=Sum.inr z) hd
 rcases hv z with ⟨e1,e2⟩|⟨k,u,e1,e2,e3⟩
 ·rw [e2] at g
  rw [e1] at q
  refine⟨_,rfl,_,rfl,d,none,rfl,g,_,rfl,iteT ?_⟩
  exact⟨_,rfl,by decide +kernel,_,rfl,.inl ⟨z,rfl,Nat.le_trans hz (by decide),_,rfl,by omega,fun z hz=>⟨(by show 1≤sizeLine;decide),q.2 _ (Same.refl _)⟩⟩⟩
 ·rw [e2] at g
  rw [e1] at q
  refine⟨_,rfl,_,rfl,d,some u,rfl,g,_,rfl,iteF ?_⟩
  exact⟨_,rfl,_,rfl,d,u,rfl,g,q _ _ (Same.refl _) e3⟩
abbrev ansN:List Str:=["word","told","kinds","due","found"]
theorem scAnsK:FnScope ansN ["word","told","kinds"] (defScope sAnsK):=⟨rfl,rfl,rfl,by decide +kernel,rfl,by decide +kernel,by decide +kernel⟩
set_option maxHeartbeats 0 in
theorem ok_ansK{f fm:Addr}{fd fdm:FuncData} (F:Fun K "answer_kind" "answer_kind" sAnsK f fd) (mC:mg "NoCount"=some (.ref (cl 1))) (xC:PySem.W.excIn K (cl 1) bmVE "ValueError.__new__"=true) (ml:mg "len"=none) (mz:mg "zip"=none)
  (GD:FnOk P w K mg base (CX1 P w) 1 fm fdm ["does","what"] (spDem (cl 2))) (bD:Binds K fdm ["does","what"] []) (kD:PySem.W.keepIn K (.ref fm)=true) (mD:mg "demand"=some (.ref fm)):FnOk P w K mg base (CX1 P w) 2 f fd ["word","told","kinds"] (spAnsK K cl):=by
 refine F.okX (k:=1) scAnsK (fun vs H Q E h=>?_) (fun cdv A outer s H vs Q E hr h=>?_)
 ·obtain⟨_,_,_,_,_,_,_,rfl,_⟩:=h
  rfl
 obtain⟨z,u,l,us,ks,k,xs,rfl,hz,⟨p,tk,vs,x,rfl,hp,htk,hvs,hx,hul⟩,hl,hks,hkl,q⟩:=h
 have hu64:=hu64_of hr
 have l1:=hvs.length
 have l2:=hks.length
 refine⟨_,pss_cons (ps_if (pt_cmpR op_ne (pe_callB call_len_seq rfl ml PySem.boot_len (pa_cons (pe_ix ix_tup (pv 1) pe_int (fun _ _=>rfl)) pa_nil)) (pe_callB call_len_seq rfl ml PySem.boot_len (pa_cons (pv 2) pa_nil)) (nomark _))
   (pss_cons (ps_set (i:=3) scAnsK.nd rfl (Or.inl rfl) (pe_callB call_len_seq rfl ml PySem.boot_len (pa_cons (pe_ix ix_tup (pv 1) pe_int (fun _ _=>rfl)) pa_nil)))
   (pss_cons (ps_set (i:=4) scAnsK.nd rfl (Or.inl rfl) (pe_callB call_len_seq rfl ml PySem.boot_len (pa_cons (pv 2) pa_nil)))
   (pss_one (ps_raise1 rfl mC xC (pa_cons (pe_fstr (pj_cons (pe_fv (pv 0)) (pj_cons pe_str (pj_cons (pe_fv (pv 3)) (pj_cons pe_str (pj_cons (pe_fv (pv 4)) pj_nil))))) (by decide)) pa_nil))))) pss_nil)
  (pss_cons (ps_for PassesOwn.leaving rfl (pi_zipQ false true rfl mz (pa_cons (pe_ix ix_tup (pv 1) pe_int (fun _ _=>rfl)) (pa_cons (pv 2) pa_nil))) (pg_tup rfl (pgs_cons (pg_name (i:=3) scAnsK.nd rfl (Or.inl rfl)) (pgs_cons (pg_name (i:=4) scAnsK.nd rfl (Or.inl rfl)) pgs_nil)))
   (pss_one (ps_expr (pe_call GD hr rfl mD kD bD .nil pass1 (pa_cons (pe_cmpR (op_eqD hu64) (pv 3) (pv 4) (nomark _)) (pa_cons (pe_fstrE (pje_cons pe_str (pje_cons (pe_fv (pv 0)) pje_nil)) (by decide)) pa_nil))))))
  (pss_one (ps_ret (pe_ix ix_tup (pv 1) pe_int (fun _ _=>rfl))))),?_⟩
 refine⟨_,rfl,p,_,_,_,rfl,rfl,SqT.of hp,at0,tk,_,rfl,.inr (SqT.of htk),_,rfl,l,_,rfl,.inl (SqL.of hl),rfl,_,rfl,ite2 (fun c=>?_) (fun c=>?_)⟩
 ·have c':us.length≠ks.length:=fun e=>by
   have:(!decide (V.int (vs.length:Int)=V.int (xs.length:Int)))=true:=c
   rw [l1,l2,e] at this
   simp at this
  have q':Out K cl (R.no 1) H Q E:=by
   have q2:Out K cl (if us.length=ks.length then (if us=ks then .ok k else .no 2) else .no 1) H Q E:=q
   rw [if_neg c'] at q2
   exact q2
  refine⟨_,rfl,p,_,_,_,rfl,rfl,SqT.of hp,at0,tk,_,rfl,.inr (SqT.of htk),?_⟩
  refine⟨_,rfl,l,_,rfl,.inl (SqL.of hl),?_⟩
  have b1:(0:Int)≤(vs.length:Int)∧(vs.length:Int)≤1000000:=⟨by omega,by omega⟩
  have b2:(0:Int)≤(xs.length:Int)∧(xs.length:Int)≤1000000:=⟨by omega,by omega⟩
  exact⟨_,rfl,.inl ⟨z,rfl,Nat.le_trans hz (by decide),_,rfl,by omega,_,rfl,by decide +kernel,_,rfl,.inr ⟨_,rfl,log_small b1.1 b1.2,_,rfl,txt_small b1.1 b1.2,_,rfl,by decide +kernel,_,rfl,.inr ⟨_,rfl,log_small b2.1 b2.2,_,rfl,txt_small b2.1 b2.2,fun z hz=>⟨(by show 1≤sizeLine;decide),q'.2 _ (Same.refl _)⟩⟩⟩⟩⟩
 ·have c':us.length=ks.length:=by
   by_cases e:us.length=ks.length
   ·exact e
   ·exfalso
    apply c
    show(!decide (V.int (vs.length:Int)=V.int (xs.length:Int)))=true
    rw [l1,l2,decide_eq_false (fun z=>e (by have:=V.int.inj z;omega))]
    rfl
  have q':Out K cl (if us=ks then .ok k else .no 2) H Q E:=by
   have q2:Out K cl (if us.length=ks.length then (if us=ks then .ok k else .no 2) else .no 1) H Q E:=q
   rw [if_pos c'] at q2
   exact q2
  refine⟨_,rfl,p,_,_,_,rfl,rfl,SqT.of hp,at0,_,rfl,tk,l,vs,xs,rfl,htk,hl,for_zipQ (b:=false) (c:=true) (xs:=vs) (ys:=xs) (fun i σ H3=>∃v3 v4,σ=[some (.str z),some (.ref p),some (.ref l),v3,v4]∧Same H H3∧us.take i=ks.take i) ?_ (by omega) ?_ ?_ ?_⟩
  ·exact⟨none,none,rfl,Same.refl _,rfl⟩
  ·rintro i σ H3 _ ⟨_,_,_,s3,_⟩
   exact⟨s3 _ _ htk,s3 _ _ hl⟩
  ·rintro i a b t σ H3 ha hb ht ⟨v3,v4,rfl,s3,he⟩
   obtain⟨ka,hka,hA⟩:=kat_get hvs ha
   obtain⟨kb,hkb,hB⟩:=kat_get hks hb
   have s4:=s3.trans (same_new ht (.tup [a,b]))
   refine⟨t,_,rfl,SqT.of upd_same,rfl,_,_,rfl,_,_,rfl,rfl,?_⟩
   refine⟨_,rfl,_,rfl,_,_,kd_dat (hA.same s4).1,kd_dat (hB.same s4).1,sm_shaped hA.2,sm_shaped hB.2,_,rfl,by decide +kernel,_,rfl,.inl ⟨z,rfl,Nat.le_trans hz (by decide),_,rfl,by omega,_,_,rfl,le_arg hz,?_⟩⟩
   show if PyData.eqv (Kd.dat ka) (Kd.dat kb)=true then _ else _
   rw [eqv_dat]
   by_cases e:ka=kb
   ·rw [decide_eq_true e]
    refine iteT ⟨_,_,rfl,s4,?_⟩
    rw [List.take_add_one,List.take_add_one,hka,hkb,he,e]
   ·rw [decide_eq_false e]
    have ne:us≠ks:=fun z=>by rw [z] at hka;rw [hka] at hkb;exact e (Option.some.inj hkb)
    rw [if_neg ne] at q'
    exact iteF (q'.2 _ s4)
  ·rintro σ H3 ⟨v3,v4,rfl,s3,he⟩
   rw [List.take_of_length_le (by omega),List.take_of_length_le (by omega)] at he
   rw [if_pos he] at q'
   exact⟨_,rfl,p,_,_,_,rfl,rfl,SqT.of (s3 _ _ hp),at1,q' _ _ s3 (hx.same s3)⟩
end
end K62
namespace K62
open PySem L2 Kk
theorem ks_two{K:PySem.W.Frag}{H:Hp}{us:List V}{a b:Kd}(h:KsAt K H us [a,b]):∃x y,us=[x,y]∧KAt K H x a∧KAt K H y b:=by
 cases h with
 |cons r t =>
  cases t with
  |cons r2 t2=>cases t2;exact⟨_,_,rfl,r,r2⟩
theorem ks_one{K:PySem.W.Frag}{H:Hp}{us:List V}{a:Kd}(h:KsAt K H us [a]):∃x,us=[x]∧KAt K H x a:=by
 cases h with
 |cons r t=>cases t;exact⟨_,rfl,r⟩
theorem ks_three{K:PySem.W.Frag}{H:Hp}{us:List V}{a b c:Kd}(h:KsAt K H us [a,b,c]):∃x y z,us=[x,y,z]∧KAt K H x a∧KAt K H y b∧KAt K H z c:=by
 cases h with
 |cons r t =>
  obtain⟨y,z,rfl,h2,h3⟩:=ks_two t
  exact⟨_,_,_,rfl,r,h2,h3⟩
section
variable{P:Program}{w:World}{K:PySem.W.Frag}{mg:Str→Option Value}{base:Heap}{cl:Nat→Addr}
abbrev kbN:List Str:=["expression","kinds","form","due"]
theorem scKbf:FnScope kbN ["expression","kinds"] (defScope sKbf):=⟨rfl,rfl,rfl,by decide +kernel,rfl,by decide +kernel,by decide +kernel⟩
set_option maxHeartbeats 0 in
theorem ok_kbf{f fm:Addr}{fd fdm:FuncData} (F:Fun K "kind_by_form" "kind_by_form" sKbf f fd)
  (GD:FnOk P w K mg base (CX1 P w) 1 fm fdm ["does","what"] (spDem (cl 2))) (bD:Binds K fdm ["does","what"] []) (kD:PySem.W.keepIn K (.ref fm)=true) (mD:mg "demand"=some (.ref fm)):FnOk P w K mg base (CX1 P w) 2 f fd ["expression","kinds"] (spKbf K cl):=by
 refine F.okX (k:=1) scKbf (fun vs H Q E h=>?_) (fun cdv A outer s H vs Q E hr h=>?_)
 ·obtain⟨_,_,_,_,_,_,rfl,_⟩:=h
  rfl
 obtain⟨p,l,fm',xs,us,ks,rfl,hp,hl,hus,hkl,h2,q⟩:=h
 have hu64:=hr.units
 refine⟨_,pss_cons (ps_set (i:=2) scKbf.nd rfl (Or.inl rfl) (pe_ix ix_tup (pv 0) pe_int (fun _ _=>rfl)))
  (pss_cons (ps_if (pt_cmpR op_eq (pv 2) pe_str (nomark _)) (pss_one (ps_ret (pe_tup (pa_cons pe_str (pa_cons (pe_ix ix_tup (pv 0) pe_int (fun _ _=>rfl)) pa_nil))))) pss_nil)
  (pss_cons (ps_if (pt_cmpR op_eq (pv 2) pe_str (nomark _))
   (pss_cons (ps_set (i:=3) scKbf.nd rfl (Or.inl rfl) (pe_tup (pa_cons pe_str (pa_cons (pe_ix ix_tup (pv 0) pe_int (fun _ _=>rfl)) pa_nil))))
   (pss_cons (ps_expr (pe_call GD hr rfl mD kD bD .nil pass1 (pa_cons (pe_cmpR (op_eqD hu64) (pv 1) (pe_lst (pa_cons (pv 3) (pa_cons (pv 3) pa_nil))) (nomark _)) (pa_cons pe_str pa_nil))))
   (pss_one (ps_ret (pv 3))))) pss_nil)
  (pss_cons (ps_if (pt_cmpR op_eq (pv 2) pe_str (nomark _))
   (pss_cons (ps_expr (pe_call GD hr rfl mD kD bD .nil pass1 (pa_cons (pe_and (pe_cmpR op_eq (pe_ix ix_tup (pe_ix ix_list (pv 1) pe_int (fun _ _=>rfl)) pe_int (fun _ _=>rfl)) pe_str (nomark _)) (pe_one (pe_cmpR (op_eqD hu64) (pe_ix ix_list (pv 1) pe_int (fun _ _=>rfl)) (pe_ix ix_list (pv 1) pe_int (fun _ _=>rfl)) (nomark _)))) (pa_cons pe_str pa_nil))))
   (pss_one (ps_ret (pe_tup (pa_cons pe_str (pa_cons pe_int pa_nil)))))) pss_nil)
  (pss_cons (ps_if (pt_cmpR op_eq (pv 2) pe_str (nomark _))
   (pss_cons (ps_expr (pe_call GD hr rfl mD kD bD .nil pass1 (pa_cons (pe_cmpR op_eq (pe_ix ix_tup (pe_ix ix_list (pv 1) pe_int (fun _ _=>rfl)) pe_int (fun _ _=>rfl)) pe_str (nomark _)) (pa_cons pe_str pa_nil))))
   (pss_one (ps_ret (pe_tup (pa_cons pe_str (pa_cons (pe_ix ix_tup (pv 0) pe_int (fun _ _=>rfl)) pa_nil)))))) pss_nil)
  (pss_cons (ps_if (pt_cmpR op_eq (pv 2) pe_str (nomark _))
   (pss_cons (ps_expr (pe_call GD hr rfl mD kD bD .nil pass1 (pa_cons (pe_cmpR (op_eqD hu64) (pe_ix ix_list (pv 1) pe_int (fun _ _=>rfl)) (pe_tup (pa_cons pe_str (pa_cons pe_int pa_nil))) (nomark _)) (pa_cons pe_str pa_nil))))
   (pss_cons (ps_expr (pe_call GD hr rfl mD kD bD .nil pass1 (pa_cons (pe_cmpR (op_eqD hu64) (pe_ix ix_list (pv 1) pe_int (fun _ _=>rfl)) (pe_ix ix_list (pv 1) pe_int (fun _ _=>rfl)) (nomark _)) (pa_cons pe_str pa_nil))))
   (pss_one (ps_ret (pe_ix ix_list (pv 1) pe_int (fun _ _=>rfl)))))) pss_nil)
  (pss_cons (ps_expr (pe_call GD hr rfl mD kD bD .nil pass1 (pa_cons (pe_cmpR op_eq (pe_ix ix_tup (pe_ix ix_list (pv 1) pe_int (fun _ _=>rfl)) pe_int (fun _ _=>rfl)) pe_str (nomark _)) (pa_cons (pe_fstrE (pje_cons pe_str (pje_cons (pe_fv (pv 2)) (pje_cons pe_str pje_nil))) (by decide)) pa_nil))))
  (pss_one (ps_ret (pe_ifExp (pt_cmpR op_eq (pv 2) pe_str (nomark _)) (pe_ix ix_tup (pe_ix ix_list (pv 1) pe_int (fun _ _=>rfl)) pe_int (fun _ _=>rfl)) (pe_ix ix_tup (pe_ix ix_list (pv 1) pe_int (fun _ _=>rfl)) pe_int (fun _ _=>rfl))))))))))),?_⟩
 have z17:(Str.ofString "a side of what is compared").length≤10000:=by decide +kernel
 cases fm' with
 |two=>exact absurd rfl h2
 |lit v n =>
  match ks,q with
  |[],q =>
   replace q:Out K cl (.ok (.num n)) H Q E:=q
   refine⟨_,rfl,p,_,_,_,rfl,rfl,SqT.of hp,at0,?_⟩
   refine⟨_,rfl,rfl,_,rfl,yes_s ⟨_,rfl,p,_,_,_,rfl,rfl,SqT.of hp,at2,(by show 2≤sizeLine;decide),fun t ht=>?_⟩⟩
   exact q _ _ (same_new ht _) (num_at upd_same)
  |_::_,q=>exact absurd (show 9 < 4 from q.1) (by decide)
 |op o n =>
  refine⟨_,rfl,p,_,_,_,rfl,rfl,SqT.of hp,at0,?_⟩
  refine⟨_,rfl,rfl,_,rfl,no_s (by decide +kernel) ?_⟩
  refine⟨_,rfl,rfl,_,rfl,yes_s ⟨_,rfl,p,_,_,_,rfl,rfl,SqT.of hp,at2,(by show 2≤sizeLine;decide),fun t ht=>?_⟩⟩
  have s1:=same_new ht (.tup [.str "num",.int n])
  refine⟨_,rfl,_,rfl,_,rfl,(by show 2≤sizeLine;decide),fun l2 hl2=>?_⟩
  have s2:=s1.trans (same_new hl2 (.lst [.ref t,.ref t]))
  have hn:KAt K (upd (upd H t (.tup [.str "num",.int n])) l2 (.lst [.ref t,.ref t])) (.ref t) (.num n):=(num_at upd_same).same (same_new hl2 _)
  refine⟨_,_,.lst (SqL.of (s2 _ _ hl)) (ks_dats (hus.same s2)),.lst (SqL.of upd_same) (ks_dats (ks:=[.num n,.num n]) (.cons hn (.cons hn .nil))),shaped_lst (ks_sm hus),shaped_lst (ks:=[.num n,.num n]) (fun k hk=>by simp at hk;rw [hk];exact num_sm n),_,_,rfl,by decide +kernel,?_⟩
  show if PyData.eqv (.list (ks.map Kd.dat)) (.list ([Kd.num n,.num n].map Kd.dat))=true then _ else _
  rw [eqv_lst,eqv_dats]
  replace q:Out K cl (if ks=[.num n,.num n] then .ok (.num n) else .no 2) H Q E:=q
  by_cases e:ks=[.num n,.num n]
  ·rw [if_pos e] at q
   rw [decide_eq_true e]
   exact iteT ⟨_,rfl,q _ _ s2 hn⟩
  ·rw [if_neg e] at q
   rw [decide_eq_false e]
   exact iteF (q.2 _ s2)
 |test o =>
  match ks,q with
  |[a,b],q =>
   obtain⟨x,y,rfl,hx,hy⟩:=ks_two hus
   obtain⟨px,xx,rfl,tx⟩:=kd_tup hx.1
   replace q:Out K cl (if Kd.isNum a=true∧a=b then .ok (.num 2) else .no 2) H Q E:=q
   refine⟨_,rfl,p,_,_,_,rfl,rfl,SqT.of hp,at0,?_⟩
   refine⟨_,rfl,rfl,_,rfl,no_s (by decide +kernel) ?_⟩
   refine⟨_,rfl,rfl,_,rfl,no_s (by decide +kernel) ?_⟩
   refine⟨_,rfl,rfl,_,rfl,yes_s ?_⟩
   refine⟨_,rfl,l,_,_,_,rfl,rfl,SqL.of hl,at0,px,_,_,_,rfl,rfl,tx,at0,rfl,_,rfl,?_⟩
   rw [hd_num]
   by_cases e:Kd.isNum a=true
   ·rw [e]
    refine iteT ⟨_,rfl,l,_,_,_,rfl,rfl,SqL.of hl,at0,_,rfl,l,_,_,_,rfl,rfl,SqL.of hl,at1,_,_,kd_dat hx.1,kd_dat hy.1,sm_shaped hx.2,sm_shaped hy.2,_,_,rfl,z17,?_⟩
    show if PyData.eqv (Kd.dat a) (Kd.dat b)=true then _ else _
    rw [eqv_dat]
    by_cases e2:a=b
    ·rw [if_pos ⟨e,e2⟩] at q
     rw [decide_eq_true e2]
     exact iteT ⟨(by show 2≤sizeLine;decide),fun t ht=>q _ _ (same_new ht _) (num_at upd_same)⟩
    ·rw [if_neg fun z=>e2 z.2] at q
     rw [decide_eq_false e2]
     exact iteF (q.2 _ (Same.refl _))
   ·rw [if_neg fun z=>e z.1] at q
    rw [Bool.eq_false_iff.mpr e]
    exact iteF ⟨_,_,rfl,z17,iteF (q.2 _ (Same.refl _))⟩
  |[],q=>exact absurd (show 9 < 4 from q.1) (by decide)
  |[_],q=>exact absurd (show 9 < 4 from q.1) (by decide)
  |_::_::_::_,q=>exact absurd (show 9 < 4 from q.1) (by decide)
 |as_ n =>
  match ks,q with
  |[a],q =>
   obtain⟨x,rfl,hx⟩:=ks_one hus
   obtain⟨px,xx,rfl,tx⟩:=kd_tup hx.1
   replace q:Out K cl (if Kd.isNum a=true then .ok (.num n) else .no 2) H Q E:=q
   refine⟨_,rfl,p,_,_,_,rfl,rfl,SqT.of hp,at0,?_⟩
   refine⟨_,rfl,rfl,_,rfl,no_s (by decide +kernel) ?_⟩
   refine⟨_,rfl,rfl,_,rfl,no_s (by decide +kernel) ?_⟩
   refine⟨_,rfl,rfl,_,rfl,no_s (by decide +kernel) ?_⟩
   refine⟨_,rfl,rfl,_,rfl,yes_s ?_⟩
   refine⟨_,rfl,l,_,_,_,rfl,rfl,SqL.of hl,at0,px,_,_,_,rfl,rfl,tx,at0,rfl,_,_,rfl,by decide +kernel,?_⟩
   rw [hd_num]
   by_cases e:Kd.isNum a=true
   ·rw [if_pos e] at q
    rw [e]
    exact iteT ⟨_,rfl,p,_,_,_,rfl,rfl,SqT.of hp,at1,(by show 2≤sizeLine;decide),fun t ht=>q _ _ (same_new ht _) (num_at upd_same)⟩
   ·rw [if_neg e] at q
    rw [Bool.eq_false_iff.mpr e]
    exact iteF (q.2 _ (Same.refl _))
  |[],q=>exact absurd (show 9 < 4 from q.1) (by decide)
  |_::_::_,q=>exact absurd (show 9 < 4 from q.1) (by decide)
 |if_ =>
  match ks,q with
  |[a,b,c],q =>
   obtain⟨x,y,z,rfl,hx,hy,hz⟩:=ks_three hus
   replace q:Out K cl (if a=.num 2 then (if b=c then .ok b else .no 2) else .no 2) H Q E:=q
   refine⟨_,rfl,p,_,_,_,rfl,rfl,SqT.of hp,at0,?_⟩
   refine⟨_,rfl,rfl,_,rfl,no_s (by decide +kernel) ?_⟩
   refine⟨_,rfl,rfl,_,rfl,no_s (by decide +kernel) ?_⟩
   refine⟨_,rfl,rfl,_,rfl,no_s (by decide +kernel) ?_⟩
   refine⟨_,rfl,rfl,_,rfl,no_s (by decide +kernel) ?_⟩
   refine⟨_,rfl,rfl,_,rfl,yes_s ?_⟩
   refine⟨_,rfl,l,_,_,_,rfl,rfl,SqL.of hl,at0,(by show 2≤sizeLine;decide),fun t ht=>?_⟩
   have s1:=same_new ht (.tup [.str "num",.int 2])
   refine⟨_,_,kd_dat (hx.same s1).1,kd_dat (num_at (K:=K) (n:=2) upd_same).1,sm_shaped hx.2,sm_shaped (num_sm 2),_,_,rfl,by decide +kernel,?_⟩
   show if PyData.eqv (Kd.dat a) (Kd.dat (.num 2))=true then _ else _
   rw [eqv_dat]
   by_cases e:a=.num 2
   ·rw [if_pos e] at q
    rw [decide_eq_true e]
    refine iteT ⟨_,rfl,l,_,_,_,rfl,rfl,SqL.of (s1 _ _ hl),at1,_,rfl,l,_,_,_,rfl,rfl,SqL.of (s1 _ _ hl),at2,_,_,kd_dat (hy.same s1).1,kd_dat (hz.same s1).1,sm_shaped hy.2,sm_shaped hz.2,_,_,rfl,by decide +kernel,?_⟩
    show if PyData.eqv (Kd.dat b) (Kd.dat c)=true then _ else _
    rw [eqv_dat]
    by_cases e2:b=c
    ·rw [if_pos e2] at q
     rw [decide_eq_true e2]
     exact iteT ⟨_,rfl,l,_,_,_,rfl,rfl,SqL.of (s1 _ _ hl),at1,q _ _ s1 (hy.same s1)⟩
    ·rw [if_neg e2] at q
     rw [decide_eq_false e2]
     exact iteF (q.2 _ s1)
   ·rw [if_neg e] at q
    rw [decide_eq_false e]
    exact iteF (q.2 _ s1)
  |[],q=>exact absurd (show 9 < 4 from q.1) (by decide)
  |[_],q=>exact absurd (show 9 < 4 from q.1) (by decide)
  |[_,_],q=>exact absurd (show 9 < 4 from q.1) (by decide)
  |_::_::_::_::_,q=>exact absurd (show 9 < 4 from q.1) (by decide)
 |fst =>
  match ks,q with
  |[a],q =>
   obtain⟨x,rfl,hx⟩:=ks_one hus
   obtain⟨px,xx,rfl,tx⟩:=kd_tup hx.1
   refine⟨_,rfl,p,_,_,_,rfl,rfl,SqT.of hp,at0,?_⟩
   refine⟨_,rfl,rfl,_,rfl,no_s (by decide +kernel) ?_⟩
   refine⟨_,rfl,rfl,_,rfl,no_s (by decide +kernel) ?_⟩
   refine⟨_,rfl,rfl,_,rfl,no_s (by decide +kernel) ?_⟩
   refine⟨_,rfl,rfl,_,rfl,no_s (by decide +kernel) ?_⟩
   refine⟨_,rfl,rfl,_,rfl,no_s (by decide +kernel) ?_⟩
   refine⟨_,rfl,l,_,_,_,rfl,rfl,SqL.of hl,at0,px,_,_,_,rfl,rfl,tx,at0,rfl,_,rfl,by decide +kernel,_,rfl,.inl ⟨_,rfl,by decide +kernel,_,rfl,by decide +kernel,_,rfl,by decide +kernel,_,_,rfl,by decide +kernel,?_⟩⟩
   rw [hd_pair]
   cases a with
   |pair ka kb =>
    cases hx.1 with
    |pair t h3 h4 =>
     replace q:Out K cl (.ok ka) H Q E:=q
     refine iteT ⟨_,rfl,rfl,_,rfl,yes_s ⟨_,rfl,l,_,_,_,rfl,rfl,SqL.of hl,at0,px,_,_,_,rfl,rfl,t,at1,?_⟩⟩
     exact q _ _ (Same.refl _) ⟨h3,hx.2.1.1,sm_l hx.2.2⟩
   |num n=>exact iteF ((show Out K cl (R.no 2) H Q E from q).2 _ (Same.refl _))
   |name a b=>exact iteF ((show Out K cl (R.no 2) H Q E from q).2 _ (Same.refl _))
  |[],q=>exact absurd (show 9 < 4 from q.1) (by decide)
  |a::_::_,q=>cases a<;>exact absurd (show 9 < 4 from And.left q) (by decide)
 |snd =>
  match ks,q with
  |[a],q =>
   obtain⟨x,rfl,hx⟩:=ks_one hus
   obtain⟨px,xx,rfl,tx⟩:=kd_tup hx.1
   refine⟨_,rfl,p,_,_,_,rfl,rfl,SqT.of hp,at0,?_⟩
   refine⟨_,rfl,rfl,_,rfl,no_s (by decide +kernel) ?_⟩
   refine⟨_,rfl,rfl,_,rfl,no_s (by decide +kernel) ?_⟩
   refine⟨_,rfl,rfl,_,rfl,no_s (by decide +kernel) ?_⟩
   refine⟨_,rfl,rfl,_,rfl,no_s (by decide +kernel) ?_⟩
   refine⟨_,rfl,rfl,_,rfl,no_s (by decide +kernel) ?_⟩
   refine⟨_,rfl,l,_,_,_,rfl,rfl,SqL.of hl,at0,px,_,_,_,rfl,rfl,tx,at0,rfl,_,rfl,by decide +kernel,_,rfl,.inl ⟨_,rfl,by decide +kernel,_,rfl,by decide +kernel,_,rfl,by decide +kernel,_,_,rfl,by decide +kernel,?_⟩⟩
   rw [hd_pair]
   cases a with
   |pair ka kb =>
    cases hx.1 with
    |pair t h3 h4 =>
     replace q:Out K cl (.ok kb) H Q E:=q
     refine iteT ⟨_,rfl,rfl,_,rfl,no_s (by decide +kernel) ⟨_,rfl,l,_,_,_,rfl,rfl,SqL.of hl,at0,px,_,_,_,rfl,rfl,t,at2,?_⟩⟩
     exact q _ _ (Same.refl _) ⟨h4,hx.2.1.2,sm_r hx.2.2⟩
   |num n=>exact iteF ((show Out K cl (R.no 2) H Q E from q).2 _ (Same.refl _))
   |name a b=>exact iteF ((show Out K cl (R.no 2) H Q E from q).2 _ (Same.refl _))
  |[],q=>exact absurd (show 9 < 4 from q.1) (by decide)
  |a::_::_,q=>cases a<;>exact absurd (show 9 < 4 from And.left q) (by decide)
end
end K62
namespace K62
open PySem L2 Kk
def ClosOk(P:Program)(w:World)(K:PySem.W.Frag)(mg:Str→Option Value)(base:Heap)(k:Nat)(f:Addr)(q t:Str)(H:Hp)(Q:VK)(E:XK):Prop :=
 ∃fd ps sp,H f=some (.fnc fd)∧FnOk P w K mg base (CX1 P w) k f fd ps sp∧Binds K fd ps []∧sp [.str q,.str t] H Q E
def OrcOk(P:Program)(w:World)(K:PySem.W.Frag)(mg:Str→Option Value)(base:Heap)(cl:Nat→Addr)(k:Nat)(f:Addr)(H:Hp)(C:Orc):Prop :=
 ∀q t H1,smW q→smW t→Same H H1→∀(Q:VK) (E:XK),((C q t=none∧∀H2,Same H1 H2→E (.ref (cl 0)) none H2)∨∃us kd,C q t=some (us,kd)∧∀H2 u,Same H1 H2→ToldAt K H2 u us kd→Q u H2)→ClosOk P w K mg base k f q t H1 Q E
theorem OrcOk.same{P:Program}{w:World}{K:PySem.W.Frag}{mg:Str→Option Value}{base:Heap}{cl:Nat→Addr}{k:Nat}{f:Addr}{H H':Hp}{C:Orc}(h:OrcOk P w K mg base cl k f H C)(s:Same H H'):OrcOk P w K mg base cl k f H' C :=
 fun q t H1 w1 w2 s1=>h q t H1 w1 w2 (s.trans s1)
def spKin(P:Program)(w:World)(K:PySem.W.Frag)(mg:Str→Option Value)(base:Heap)(cl:Nat→Addr)(k n:Nat):Sp:=fun vs H Q E=>∃(x:V) (d f:Addr) (mo:Int) (e:Ex) (ρ:Str→Option Kd) (m:Nat) (fd:FuncData) (C:Orc),vs=[x,.ref d,.ref f,.int mo]∧ExAt H x e∧e.ht≤n∧EnvAt K H d ρ m∧m+n≤500∧0≤mo∧mo≤10000∧H f=some (.fnc fd)∧OrcOk P w K mg base cl k f H C∧Out K cl (kin mo C ρ e) H Q E
theorem kat_upd{K:PySem.W.Frag}{H:Hp}{l:Addr}{us us':List V}(hl:H l=some (.lst us)){x:V}{k:Kd}(h:KAt K H x k):KAt K (upd H l (.lst us')) x k:=⟨kd_keep (fun _ _ t=>sqt_upd hl t) h.1,h.2⟩
theorem ks_snoc{K:PySem.W.Frag}{H:Hp}{x:V}{k:Kd}(h:KAt K H x k):∀{xs:List V} {ks:List Kd},KsAt K H xs ks→KsAt K H (xs++[x]) (ks++[k])
 |_,_,.nil=>.cons h .nil
 |_,_,.cons a r=>.cons a (ks_snoc h r)
theorem take_snoc{α:Type}{l:List α}{i:Nat}{x:α}(h:l[i]?=some x):l.take i++[x]=l.take (i+1):=by
 rw [List.take_add_one,h];rfl
theorem take_split{α:Type}{l:List α}{i:Nat}{x:α}(h:l[i]?=some x):∃r,l=l.take i++x::r:=by
 obtain⟨h1,h2⟩:=List.getElem?_eq_some_iff.mp h
 refine⟨l.drop (i+1),?_⟩
 rw [←h2,←List.drop_eq_getElem_cons h1,List.take_append_drop]
theorem fmK_mo{a b:Int}{fm:Fm}(h:fm≠.two)(ks:List Kd):fmK a fm ks=fmK b fm ks:=by
 unfold fmK
 split<;>first|rfl|exact absurd rfl h
theorem bootDict:bootBuiltins "dict"=some (.type "dict"):=by decide +kernel
section
variable{P:Program}{w:World}{K:PySem.W.Frag}{mg:Str→Option Value}{base:Heap}{cl:Nat→Addr}
abbrev kiN:List Str:=["expression","variables","called","most","form","inner","kinds","each"]
abbrev kiP:List Str:=["expression","variables","called","most"]
theorem scKin:FnScope kiN kiP (defScope sKin):=⟨rfl,rfl,rfl,by decide +kernel,rfl,by decide +kernel,by decide +kernel⟩
set_option maxHeartbeats 0 in
theorem ok_kin{f fv fw fa fb ff:Addr}{dV:Value}{fd fdv fdw fda fdb fdf:FuncData}{k:Nat} (F:FunD K "kind_in" "kind_in" sKin dV f fd) (bS:Binds K fd kiP []) (mS:mg "kind_in"=some (.ref f)) (md:mg "dict"=none)
    (GV:FnOk P w K mg base (CX1 P w) 1 fv fdv ["word","variables"] (spVarK K cl)) (bV:Binds K fdv ["word","variables"] []) (kV:PySem.W.keepIn K (.ref fv)=true) (mV:mg "variable_kind"=some (.ref fv))
    (GW:FnOk P w K mg base CX0 1 fw fdw ["expression"] spWithin) (bW:Binds K fdw ["expression"] []) (kW:PySem.W.keepIn K (.ref fw)=true) (mW:mg "within"=some (.ref fw))
    (GA:FnOk P w K mg base (CX1 P w) 2 fa fda ["word","told","kinds"] (spAnsK K cl)) (bA:Binds K fda ["word","told","kinds"] []) (kA:PySem.W.keepIn K (.ref fa)=true) (mA:mg "answer_kind"=some (.ref fa))
    (GB:FnOk P w K mg base (CX1 P w) 2 fb fdb ["kind","most"] (spBounded K (cl 3))) (bB:Binds K fdb ["kind","most"] []) (kB:PySem.W.keepIn K (.ref fb)=true) (mB:mg "bounded"=some (.ref fb))
    (GF:FnOk P w K mg base (CX1 P w) 2 ff fdf ["expression","kinds"] (spKbf K cl)) (bF:Binds K fdf ["expression","kinds"] []) (kF:PySem.W.keepIn K (.ref ff)=true) (mF:mg "kind_by_form"=some (.ref ff)) :
    ∀n,FnOk P w K mg base (CX1 P w) (k+3+n) f fd kiP (spKin P w K mg base cl k n):=by
  intro n
  induction n with
  | zero =>
    refine⟨fun vs H Q E h=>?_,fun A outer s H args us vs Q E _ _ _ _ h=>?_⟩
    · obtain⟨_,_,_,_,_,_,_,_,_,rfl,_⟩:=h
      rfl
    · obtain⟨_,_,_,_,e,_,_,_,_,_,_,h0,_⟩:=h
      cases e<;>simp [Ex.ht] at h0
  | succ n ih =>
  refine F.okX (k:=k+3+n) scKin (fun vs H Q E h=>?_) (fun cdv A outer s H vs Q E hr h=>?_)
  · obtain⟨_,_,_,_,_,_,_,_,_,rfl,_⟩:=h
    rfl
  obtain⟨x,d,g,mo,e,ρ,m,fdc,C,rfl,hx,hn,hd,hm,mo0,mo1,hg,hC,hq⟩:=h
  have hu:=hu_of hr
  have hr1:Room 1 _:=hr.mono (by omega)
  have hr2:Room 2 _:=hr.mono (by omega)
  have hrk:Room k _:=hr.mono (by omega)
  have kS:=F.kp
  obtain⟨t3,d3,k3⟩:∃t,PSs (cxOf (CX1 P w) P w K mg base kiN "kind_in" (defScope sKin) f cdv A outer s H E) (List.drop 3 (defBody sKin)) t ∧
      ∀(p:Addr) (z:Str) (xs:List V) (es:List Ex),x=.ref p→ExsAt H xs es→(∀e∈es,e.ht≤n)→es.length≤n →
        ((∃(fm:Fm) (r:List V),fm.vals=.str z::r∧z≠"call"∧((z="two"∧fm=.two)∨(z≠"two"∧fm≠.two))∧H p=some (.tup (fm.vals++xs))∧((∃v n,fm=.lit v n)→xs=[])∧Out K cl (kin mo C ρ (.nd fm es)) H Q E) ∨
         ∃(p2:Addr) (q t:Str),z="call"∧H p=some (.tup [.str "call",.str q,.str t,.ref p2])∧H p2=some (.tup xs)∧(smW q∧smW t)∧Out K cl (kin mo C ρ (.call q t es)) H Q E) →
        t { nx:=fun _ H'=>Q .non H',rt:=Q } [some x,some (.ref d),some (.ref g),some (.int mo),some (.str z),none,none,none] H:=by
    refine⟨_,pss_cons (ps_set (i:=6) scKin.nd rfl (Or.inl rfl) (pe_lst pa_nil))
      (pss_cons (ps_for PassesOwn.leaving rfl (pi_tup (pe_call GW hr1 rfl mW kW bW .nil pass0 (pa_cons (pv 0) pa_nil))) (pg_name (i:=7) scKin.nd rfl (Or.inl rfl))
        (pss_one (ps_expr (pe_bm PySem.F.plainAttrs_list PySem.F.slot_list_append PySem.F.type_list_append mt_append (pv 6) (pa_cons (pe_call ih hr rfl mS kS bS .nil pass1 (pa_cons (pv 7) (pa_cons (pv 1) (pa_cons (pv 2) (pa_cons (pv 3) pa_nil))))) pa_nil)))))
      (pss_cons (ps_if (pt_cmpR op_eq (pv 4) pe_str (nomark _)) (pss_one (ps_ret (pe_call GA hr2 rfl mA kA bA .nil pass1 (pa_cons (pe_ix ix_tup (pv 0) pe_int (fun _ _=>rfl)) (pa_cons (pe_callV (pv 2) pass1 (pa_cons (pe_ix ix_tup (pv 0) pe_int (fun _ _=>rfl)) (pa_cons (pe_ix ix_tup (pv 0) pe_int (fun _ _=>rfl)) pa_nil))) (pa_cons (pv 6) pa_nil)))))) pss_nil)
      (pss_cons (ps_if (pt_cmpR op_eq (pv 4) pe_str (nomark _)) (pss_one (ps_ret (pe_call GB hr2 rfl mB kB bB .nil pass1 (pa_cons (pe_tup (pa_cons pe_str (pa_cons (pe_ix ix_list (pv 6) pe_int (fun _ _=>rfl)) (pa_cons (pe_ix ix_list (pv 6) pe_int (fun _ _=>rfl)) pa_nil)))) (pa_cons (pv 3) pa_nil))))) pss_nil)
      (pss_one (ps_ret (pe_call GF hr2 rfl mF kF bF .nil pass1 (pa_cons (pv 0) (pa_cons (pv 6) pa_nil)))))))),?_⟩
    intro p z xs es ex hxs hes hel hcase
    subst ex
    refine⟨(by show 0≤sizeLine;decide),fun l hl=>?_⟩
    have s1:=same_new hl (.lst [])
    have stop:∀{c:Nat},kins mo C ρ es=.no c→c < 4∧∀H',Same H H'→E (.ref (cl c)) none H':=fun {c} hc=>by
      rcases hcase with ⟨fm,r,_,_,_,_,_,ho⟩|⟨p2,q,t,_,_,_,_,ho⟩
      · rw [kin,hc] at ho;exact ho
      · rw [kin,hc] at ho;exact ho
    refine⟨_,rfl,.ref p,xs,rfl,?_,fun H2 r s2 hr2'=>⟨r,rfl,⟨xs,SqT.of hr2'⟩,for_tup (xs:=xs) (fun i σ H3=>∃v7 us ks,σ=[some (.ref p),some (.ref d),some (.ref g),some (.int mo),some (.str z),none,some (.ref l),v7]∧Same H H3∧H3 r=some (.tup xs)∧H3 l=some (.lst us)∧us.length=i∧KsAt K H3 us ks∧kins mo C ρ (es.take i)=.ok ks) ?_ ?_ ?_ ?_⟩⟩
    · rcases hcase with ⟨fm,r,e1,e2,e3,e4,e5,_⟩|⟨p2,q,t,rfl,e2,e3,_⟩
      · exact .inl ⟨p,fm,rfl,s1 _ _ e4,e5⟩
      · exact .inr ⟨p,p2,q,t,rfl,s1 _ _ e2,s1 _ _ e3⟩
    · exact⟨none,[],[],rfl,s1.trans s2,hr2',s2 _ _ upd_same,rfl,.nil,by rw [List.take_zero,kins]⟩
    · rintro i σ H3 hi ⟨v7,us,ks,rfl,_,h4,_⟩
      exact SqT.of h4
    · rintro i y σ H3 hy ⟨v7,us,ks,rfl,s3,h3,hl3,hl4,hus,hks⟩
      obtain⟨e,he,hye⟩:=hxs.get hy
      refine⟨_,rfl,.inl ⟨rfl,_,SqL.of hl3⟩,_,rfl,_,rfl,_,rfl,_,rfl,y,d,g,mo,e,ρ,m,fdc,C,rfl,hye.same s3,hes e (List.mem_of_getElem? he),hd.same s3,by omega,mo0,mo1,s3 _ _ hg,hC.same s3,?_⟩
      cases hk:kin mo C ρ e with
      | no c =>
        obtain⟨r',hr'⟩:=take_split he
        have:=stop (c:=c) (by rw [hr'];exact kins_stop hk hks)
        exact⟨this.1,fun H' s'=>this.2 H' (s3.trans s')⟩
      | ok kd =>
        intro H4 u s4 hu4
        have hl5:=s4 _ _ hl3
        refine⟨l,_,_,rfl,rfl,hl5,?_,_,us++[u],ks++[kd],rfl,?_,?_,upd_same,by simp [hl4],?_,?_⟩
        · have h8:=(List.getElem?_eq_some_iff.mp hy).1
          have h9:=hxs.length
          exact small1000 (by omega)
        · exact sput (s3.trans s4) hl
        · rw [upd_ne (ne_of (s4 _ _ h3) hl5 (by intro z;cases z))];exact s4 _ _ h3
        · exact ks_snoc (kat_upd hl5 hu4) (Paired.mapP (hus.same s4) fun _ _ z=>kat_upd hl5 z)
        · rw [←take_snoc he]
          exact kins_snoc hk hks
    · rintro σ H3 ⟨v7,us,ks,rfl,s3,h3,hl3,hl4,hus,hks⟩
      have hxl:=hxs.length
      rw [List.take_of_length_le (by omega)] at hks
      have hkl:=kins_len hks
      rcases hcase with ⟨fm,r,e1,e2,e3,e4,_,ho⟩|⟨p2,q,t,rfl,e2,e3,htl,ho⟩
      · refine⟨_,rfl,rfl,_,rfl,no_s e2 ?_⟩
        rw [kin,hks] at ho
        replace ho:Out K cl (fmK mo fm ks) H Q E:=ho
        rcases e3 with ⟨rfl,rfl⟩|⟨e3,e3'⟩
        · refine⟨_,rfl,rfl,_,rfl,yes_s ?_⟩
          match ks,ho,hus with
          | [a,b],ho,hus =>
            obtain⟨xa,xb,rfl,ha,hb⟩:=ks_two hus
            refine⟨_,rfl,l,_,_,_,rfl,rfl,SqL.of hl3,at0,_,rfl,l,_,_,_,rfl,rfl,SqL.of hl3,at1,(by show 3≤sizeLine;decide),fun t ht=>?_⟩
            have s4:=same_new ht (.tup [.str "pair",xa,xb])
            have hp:KdAt K (upd H3 t (.tup [.str "pair",xa,xb])) (.ref t) (.pair a b):=.pair (SqT.of upd_same) (ha.same s4).1 (hb.same s4).1
            have w1:=ha.2.2.2
            have w2:=hb.2.2.2
            have w3:(Kd.pair a b).words=1+a.words+b.words:=rfl
            replace ho:Out K cl (if ((Kd.pair a b).words:Int) > mo then .no 3 else if Kd.depth (.pair a b)≤50∧(Kd.pair a b).words≤9000 then .ok (.pair a b) else .no 9) H Q E:=ho
            refine⟨_,rfl,.ref t,.pair a b,mo,rfl,hp,by omega,mo0,by omega,fun H' s'=>?_⟩
            by_cases c:((Kd.pair a b).words:Int) > mo
            · rw [if_pos c] at ho ⊢
              exact ho.2 _ (s3.trans (s4.trans s'))
            · rw [if_neg c] at ho ⊢
              by_cases c2:Kd.depth (.pair a b)≤50∧(Kd.pair a b).words≤9000
              · rw [if_pos c2] at ho
                exact ho _ _ (s3.trans (s4.trans s')) ⟨hp.same s',⟨ha.2.1,hb.2.1⟩,c2⟩
              · rw [if_neg c2] at ho
                exact absurd ho.1 (by decide)
          | [],ho,_=>exact absurd (show 9 < 4 from And.left ho) (by decide)
          | [_],ho,_=>exact absurd (show 9 < 4 from And.left ho) (by decide)
          | _::_::_::_,ho,_=>exact absurd (show 9 < 4 from And.left ho) (by decide)
        · refine⟨_,rfl,rfl,_,rfl,no_s e3 ?_⟩
          have ef:fmK mo fm ks=fmK 0 fm ks:=fmK_mo e3' ks
          rw [ef] at ho
          exact⟨_,rfl,_,rfl,p,l,fm,xs,us,ks,rfl,s3 _ _ e4,hl3,hus,by omega,e3',ho.same s3⟩
      · refine⟨_,rfl,rfl,_,rfl,yes_s ?_⟩
        rw [kin,hks] at ho
        replace ho:Out K cl (ansK (C q t) ks) H Q E:=ho
        have hcl:∀Q':VK,(∀us' kd,C q t=some (us',kd)→∀H2 u,Same H3 H2→ToldAt K H2 u us' kd→Q' u H2)→∃fd ps sp kk,H3 g=some (.fnc fd)∧FnOk P w K mg base (CX1 P w) kk g fd ps sp∧Room kk (A.deeper (PyProof.Rows.envOfC "kind_in" (defScope sKin) s.heap.objs.size f cdv))∧Binds K fd ps []∧sp [.str q,.str t] H3 Q' E:=fun Q' hQ'=>by
          obtain⟨fd',ps',sp',c1,c2,c3,c4⟩:=hC q t H3 htl.1 htl.2 s3 Q' E (by
            cases hct:C q t with
            | none =>
              rw [hct] at ho
              exact .inl ⟨rfl,fun H2 s4=>(show Out K cl (R.no 0) H Q E from ho).2 _ (s3.trans s4)⟩
            | some r=>exact .inr ⟨r.1,r.2,rfl,fun H2 u s4 ht=>hQ' _ _ hct H2 u s4 ht⟩)
          exact⟨fd',ps',sp',k,c1,c2,hrk,c3,c4⟩
        refine⟨_,rfl,p,_,_,_,rfl,rfl,SqT.of (s3 _ _ e2),at2,g,fdc,rfl,s3 _ _ hg,_,rfl,p,_,_,_,rfl,rfl,SqT.of (s3 _ _ e2),at1,_,rfl,p,_,_,_,rfl,rfl,SqT.of (s3 _ _ e2),at2,hcl _ fun us' kd hct H2 u s4 ht=>?_⟩
        rw [hct] at ho
        exact⟨_,rfl,t,u,l,us',ks,kd,us,rfl,Nat.le_trans htl.2.2 (by decide),ht,s4 _ _ hl3,hus.same s4,by omega,ho.same (s3.trans s4)⟩
  refine⟨_,pss_cons (ps_set (i:=4) scKin.nd rfl (Or.inl rfl) (pe_ix ix_tup (pv 0) pe_int (fun _ _=>rfl)))
    (pss_cons (ps_if (pt_cmpR op_eq (pv 4) pe_str (nomark _)) (pss_one (ps_ret (pe_call GV hr1 rfl mV kV bV .nil pass1 (pa_cons (pe_ix ix_tup (pv 0) pe_int (fun _ _=>rfl)) (pa_cons (pv 1) pa_nil))))) pss_nil)
    (pss_cons (ps_if (pt_cmpR op_eq (pv 4) pe_str (nomark _)) (pss_cons (ps_set (i:=5) scKin.nd rfl (Or.inl rfl) (pe_callTy call_dict_dK rfl md bootDict (pa_cons (pv 1) pa_nil)))
      (pss_cons (ps_dput hu (pv 5) (pe_ix ix_tup (pv 0) pe_int (fun _ _=>rfl)) (pe_call ih hr rfl mS kS bS .nil pass1 (pa_cons (pe_ix ix_tup (pv 0) pe_int (fun _ _=>rfl)) (pa_cons (pv 1) (pa_cons (pv 2) (pa_cons (pv 3) pa_nil))))) rfl)
      (pss_one (ps_ret (pe_call ih hr rfl mS kS bS .nil pass1 (pa_cons (pe_ix ix_tup (pv 0) pe_int (fun _ _=>rfl)) (pa_cons (pv 5) (pa_cons (pv 2) (pa_cons (pv 3) pa_nil))))))))) pss_nil) d3)),?_⟩
  cases hx with
  | @var p y hp hy =>
    refine⟨_,rfl,p,_,_,_,rfl,rfl,SqT.of hp,at0,?_⟩
    rw [kin] at hq
    exact⟨_,rfl,rfl,_,rfl,yes_s ⟨_,rfl,p,_,_,_,rfl,rfl,SqT.of hp,at1,_,rfl,y,d,ρ,m,rfl,hd,hy,hq⟩⟩
  | @let_ p y a1 a2 b1 b2 hp h1 h2 =>
    simp only [Ex.ht] at hn
    rw [kin] at hq
    obtain⟨kvs,hk1,hk2,hk3⟩:=id hd
    refine⟨_,rfl,p,_,_,_,rfl,rfl,SqT.of hp,at0,?_⟩
    refine⟨_,rfl,rfl,_,rfl,no_s (by decide +kernel) ?_⟩
    refine⟨_,rfl,rfl,_,rfl,yes_s ⟨_,rfl,d,kvs,rfl,hk1,fun i hi=>?_⟩⟩
    have s1:=same_new hi (.dK kvs)
    refine⟨_,rfl,p,_,_,_,rfl,rfl,SqT.of (s1 _ _ hp),at2,_,rfl,_,rfl,_,rfl,a1,d,g,mo,b1,ρ,m,fdc,C,rfl,h1.same s1,by omega,hd.same s1,by omega,mo0,mo1,s1 _ _ hg,hC.same s1,?_⟩
    cases hc:kin mo C ρ b1 with
    | no c =>
      rw [hc] at hq
      exact⟨hq.1,fun H' s'=>hq.2 H' (s1.trans s')⟩
    | ok kd =>
      rw [hc] at hq
      intro H2 u s2 hu2
      have s12:=s1.trans s2
      have hi2:=s2 _ _ (upd_same (H:=H) (a:=i) (o:=.dK kvs))
      refine⟨_,rfl,_,rfl,p,_,_,_,rfl,rfl,SqT.of (s12 _ _ hp),at1,i,_,rfl,DPut.k (k:=Sum.inr y) hi2 (small1000 (by omega)),?_⟩
      have s3:Same H (upd H2 i (.dK (putK kvs (Sum.inr y) u))):=sput s12 hi
      refine⟨_,rfl,p,_,_,_,rfl,rfl,SqT.of (s3 _ _ hp),at3,_,rfl,_,rfl,_,rfl,a2,i,g,mo,b2,(fun z=>if z=y then some kd else ρ z),m+1,fdc,C,rfl,h2.same s3,by omega,?_,by omega,mo0,mo1,s3 _ _ hg,hC.same s3,hq.same s3⟩
      refine⟨_,upd_same,Nat.le_trans (length_putK ..) (by omega),fun z=>?_⟩
      rw [valV_put]
      by_cases ez:z=y
      · subst ez
        refine .inr ⟨kd,u,if_pos rfl,if_pos rfl,⟨kd_keep (fun a xs t=>?_) hu2.1,hu2.2⟩⟩
        rcases t with (t|⟨o,t⟩)|t
        · exact .inl (.inl (by rw [upd_ne (ne_of t hi2 (by intro z;cases z))];exact t))
        · exact .inl (.inr ⟨o,by rw [upd_ne (ne_of t hi2 (by intro z;cases z))];exact t⟩)
        · exact .inr t
      · rw [if_neg fun h=>ez (Sum.inr.inj h)]
        rcases hk3 z with ⟨e1,e2⟩|⟨k',u',e1,e2,e3⟩
        · exact .inl ⟨(if_neg ez).trans e1,e2⟩
        · exact .inr ⟨k',u',(if_neg ez).trans e1,e2,e3.same s3⟩
  | @nd p fm xs es hp hxs hlit =>
    simp only [Ex.ht] at hn
    obtain⟨z,r,e1,z1,z2,z3,z4,_⟩:=fm_head fm
    have hp':=hp
    rw [e1] at hp'
    refine⟨_,rfl,p,_,_,.str z,rfl,rfl,SqT.of hp',at0,?_⟩
    refine⟨_,rfl,rfl,_,rfl,no_s z2 ?_⟩
    refine⟨_,rfl,rfl,_,rfl,no_s z3 ?_⟩
    exact k3 p z xs es rfl hxs (fun e he=>by have:=hts_mem he;omega) (by omega) (.inl ⟨fm,r,e1,z1,z4,hp,hlit,hq⟩)
  | @call p p2 q t xs es hp hp2 hxs htl =>
    simp only [Ex.ht] at hn
    refine⟨_,rfl,p,_,_,_,rfl,rfl,SqT.of hp,at0,?_⟩
    refine⟨_,rfl,rfl,_,rfl,no_s (by decide +kernel) ?_⟩
    refine⟨_,rfl,rfl,_,rfl,no_s (by decide +kernel) ?_⟩
    exact k3 p "call" xs es rfl hxs (fun e he=>by have:=hts_mem he;omega) (by omega) (.inr ⟨p2,q,t,rfl,hp,hp2,htl,hq⟩)
end
end K62
namespace K62
open PySem L2 Kk
def cellOf(ns:List Int)(k:Int):Int :=
 if k < (ns.length:Int) then (match atI (ns.map V.int) k with|some (.int v)=>v|_=>0)
 else if 0 < (ns.length:Int) then (match atI (ns.map V.int) (k*7%(ns.length:Int)) with|some (.int v)=>((v*48271+k*7919)%2147483647)*((v*48271+k*7919)%2147483647)%2147483629|_=>0)
 else (k*7919+5)*(k*7919+5)%2147483629
def spCell(K:PySem.W.Frag):Sp:=fun vs H Q _=>∃(a:Addr) (ns:List Int) (k:Int),vs=[.ref a,.int k]∧SqL K H a (ns.map V.int)∧ns.length≤63∧0≤k∧k≤1000∧Q (.int (cellOf ns k)) H
def spPick(K:PySem.W.Frag):Sp:=fun vs H Q _=>∃(a:Addr) (ns:List Int) (k m:Int),vs=[.ref a,.int k,.int m]∧SqL K H a (ns.map V.int)∧ns.length≤63∧0≤k∧k≤1000∧0 < m∧∀r:Int,0≤r→r < m→Q (.int r) H
def spSize(K:PySem.W.Frag):Sp:=fun vs H Q _=>∃(a:Addr) (ns:List Int) (k:Int),vs=[.ref a,.int k]∧SqL K H a (ns.map V.int)∧ns.length≤63∧0≤k∧k≤1000∧∀(n:Int) H',Same H H'→0 < n→n≤10 ^ 18→Q (.int n) H'
abbrev letters:Str:=Str.ofString "abcdefghijklmnopqrstuvwxyz"
def lt(i:Int):Nat:=letters.cps.toList.getD (i%26).toNat 0
theorem l26:letters.cps.toList.length=26:=by decide +kernel
theorem lz:letters.length≤sizeLine:=by decide +kernel
theorem mod26(i:Int):0≤i%26∧i%26 < 26:=⟨Int.emod_nonneg _ (by decide),Int.emod_lt_of_pos _ (by decide)⟩
theorem get_at{α:Type}{xs:List α}{i:Int}{d:α}(h0:0≤i)(h1:i < xs.length):atI xs i=some (xs.getD i.toNat d):=by
 have hk:i.toNat < xs.length:=by omega
 have e:i=((i.toNat:Nat):Int):=by omega
 have q:atI xs ((i.toNat:Nat):Int)=some (xs.getD i.toNat d):=atI_nat (by rw [List.getD_eq_getElem?_getD,List.getElem?_eq_getElem hk]<;>rfl)
 rw [←e] at q
 exact q
theorem at_lt(i:Int):atI letters.cps.toList (i%26)=some (lt i):=get_at (mod26 i).1 (by rw [l26];exact(mod26 i).2)
theorem lt_fin:∀a < 26,∀b < 26,letters.cps.toList.getD a 0=letters.cps.toList.getD b 0→a=b:=by decide +kernel
theorem lt_small:∀a < 26,letters.cps.toList.getD a 0 < 0x110000:=by decide +kernel
theorem lt_inj{i j:Int}(h:lt i=lt j):i%26=j%26:=by
 have h1:=mod26 i
 have h2:=mod26 j
 have:=lt_fin (i%26).toNat (by omega) (j%26).toNat (by omega) h
 omega
theorem lt_ok(i:Int):lt i < 0x110000:=by
 have h1:=mod26 i
 exact lt_small (i%26).toNat (by omega)
abbrev szs:List Int:=[0,2,3,5,8,11]
def szOf(c:Int):Int:=szs.getD (c / 26%6).toNat 0
theorem sz_fin:∀a < 6,0≤szs.getD a 0∧szs.getD a 0≤11:=by decide +kernel
theorem mod6(i:Int):0≤i%6∧i%6 < 6:=⟨Int.emod_nonneg _ (by decide),Int.emod_lt_of_pos _ (by decide)⟩
theorem sz_le(c:Int):0≤szOf c∧szOf c≤11:=sz_fin _ (by have:=mod6 (c / 26);omega)
theorem at_sz(c:Int):atI (szs.map V.int) (c / 26%6)=some (.int (szOf c)):=by
 have h1:=mod6 (c / 26)
 rw [get_at (xs:=szs.map V.int) (d:=.int 0) h1.1 h1.2]
 unfold szOf
 rw [List.getD_eq_getElem?_getD,List.getD_eq_getElem?_getD,List.getElem?_map,List.getElem?_eq_getElem (show(c / 26%6).toNat < szs.length by show _ < 6;omega)]
 rfl
def atOf(c:Int):Int:=c / 156%(szOf c+1)
theorem at_le(c:Int):0≤atOf c∧atOf c≤szOf c:=by
 have:=sz_le c
 have h1:=Int.emod_nonneg (c / 156) (show szOf c+1≠0 by omega)
 have h2:=Int.emod_lt_of_pos (c / 156) (show 0 < szOf c+1 by omega)
 unfold atOf
 omega
def sg1(i:Int):Str:=⟨#[lt i]⟩
def wd(c m:Int):Str:=Txt.mul (sg1 c) (atOf c)++sg1 m++Txt.mul (sg1 c) (szOf c - atOf c)
abbrev cps(x:Str):List Nat:=x.cps.toList
theorem cps_app(a b:Str):cps (a++b)=cps a++cps b:=by
 show(a.cps++b.cps).toList=_
 rw [Array.toList_append]
theorem wd_ne{c:Int}{i j:Int}(hi:0≤i∧i < 26)(hj:0≤j∧j < 26)(h:wd c i=wd c j):i=j:=by
 have h0:=congrArg cps h
 unfold wd at h0
 rw [cps_app,cps_app,cps_app,cps_app] at h0
 have h1:=List.append_cancel_left (List.append_cancel_right h0)
 have h2:=lt_inj (List.cons.inj h1).1
 omega
theorem sok_sg(i:Int):PyData.strOk (sg1 i)=true:=by
 rw [sok_iff]
 intro d hd
 have:d=lt i:=by simpa [sg1] using hd
 rw [this]
 exact lt_ok i
theorem len_mul1(i:Int){n:Int}(h0:0≤n)(h1:n≤11):((Txt.mul (sg1 i) n).length:Int)≤n:=by
 have e:=PyProof.Rows.len_mul (sg1 i) n
 rw [if_neg (by rw [decide_eq_true_iff];omega)] at e
 have e1:((Str.length (sg1 i):Nat):Int)=1:=rfl
 rw [e1] at e
 omega
theorem wd_sm(c m:Int):smW (wd c m):=by
 have h1:=sz_le c
 have h2:=at_le c
 have l1:=len_mul1 c (n:=atOf c) (by omega) (by omega)
 have l2:=len_mul1 c (n:=szOf c - atOf c) (by omega) (by omega)
 have l3:(sg1 m).length=1:=rfl
 refine⟨sok_app (sok_app (sok_mul (sok_sg c) _) (sok_sg m)) (sok_mul (sok_sg c) _),?_⟩
 unfold wd
 rw [len_app,len_app]
 omega
def spWord:Sp:=fun vs H Q _=>∃c m:Int,vs=[.int c,.int m]∧∀H',Same H H'→Q (.str (wd c m)) H'
section
variable{P:Program}{w:World}{K:PySem.W.Frag}{mg:Str→Option Value}{base:Heap}
theorem scCell:FnScope ["_law_script","_law_k","_law_number"] ["_law_script","_law_k"] (defScope sCell):=⟨rfl,rfl,rfl,by decide +kernel,rfl,by decide +kernel,by decide +kernel⟩
theorem ok_cell{f:Addr}{fd:FuncData} (F:Fun K "_law_cell" "_law_cell" sCell f fd) (ml:mg "len"=none):FnOk P w K mg base CX0 1 f fd ["_law_script","_law_k"] (spCell K):=by
 refine F.ok scCell (fun vs H Q E h=>?_) (fun cdv A outer s H vs Q E hr h=>?_)
 ·obtain⟨a,ns,k,rfl,_⟩:=h
  rfl
 obtain⟨a,ns,k,rfl,hS,h63,h0,h1,q⟩:=h
 refine⟨_,@pss_cons _ _ _ _ _ (ps_if (pt_cmpR op_lt (pv 1) (pe_callB call_len_seq rfl ml PySem.boot_len (@pa_cons _ _ _ _ _ (pv 0) pa_nil rfl)) (nomark _)) (@pss_one _ _ _ (@ps_ret _ _ _ _ (pe_ix ix_list (pv 0) (pv 1) (fun _ _=>rfl)))) pss_nil) (@pss_cons _ _ _ _ _ (ps_set (i:=2) scCell.nd rfl (Or.inl rfl) (pe_op op_add (pe_op op_mul (pv 1) pe_int) pe_int)) (@pss_cons _ _ _ _ _ (ps_if (pt_cmpR op_gt (pe_callB call_len_seq rfl ml PySem.boot_len (@pa_cons _ _ _ _ _ (pv 0) pa_nil rfl)) pe_int (nomark _)) (@pss_one _ _ _ (ps_set (i:=2) scCell.nd rfl (Or.inl rfl) (pe_op op_mod (pe_op op_add (pe_op op_mul (pe_ix ix_list (pv 0) (pe_op op_mod (pe_op op_mul (pv 1) pe_int) (pe_callB call_len_seq rfl ml PySem.boot_len (@pa_cons _ _ _ _ _ (pv 0) pa_nil rfl))) (fun _ _=>rfl)) pe_int) (pe_op op_mul (pv 1) pe_int)) pe_int))) pss_nil) (@pss_one _ _ _ (@ps_ret _ _ _ _ (pe_op op_mod (pe_op op_mul (pv 2) (pv 2)) pe_int))))),?_⟩
 have hl:(ns.map V.int).length=ns.length:=List.length_map _
 unfold cellOf at q
 refine⟨_,rfl,_,rfl,a,_,rfl,.inl hS,_,_,rfl,rfl,_,rfl,?_⟩
 refine ite2 (fun c=>?_) (fun c=>?_)
 ·have c':k < (((ns.map V.int).length:Nat):Int):=of_decide_eq_true c
  rw [hl] at c'
  obtain⟨v,hv⟩:=at_int (ns:=ns) h0 c'
  rw [if_pos c',hv] at q
  exact⟨_,rfl,_,rfl,a,_,_,_,rfl,rfl,hS,hv,q⟩
 ·have c':¬k < (((ns.map V.int).length:Nat):Int):=of_decide_eq_false (Bool.eq_false_iff.mpr c)
  rw [hl] at c'
  rw [if_neg c'] at q
  refine⟨_,rfl,_,_,rfl,rfl,.inr ⟨by omega,by omega⟩,_,_,rfl,rfl,?_⟩
  refine⟨_,rfl,a,_,rfl,.inl hS,_,_,rfl,rfl,_,rfl,?_⟩
  refine ite2 (fun d=>?_) (fun d=>?_)
  ·have d':0 < (((ns.map V.int).length:Nat):Int):=of_decide_eq_true d
   rw [hl] at d'
   obtain⟨v,hv⟩:=at_int (ns:=ns) (i:=k*7%(((ns.map V.int).length:Nat):Int)) (by rw [hl];exact Int.emod_nonneg _ (by omega)) (by rw [hl];exact Int.emod_lt_of_pos _ d')
   have hv':=hv
   rw [hl] at hv'
   rw [if_pos d',hv'] at q
   refine⟨_,rfl,_,rfl,_,_,rfl,rfl,.inr ⟨by omega,by omega⟩,_,rfl,a,_,rfl,.inl hS,_,_,rfl,rfl,(by rw [hl];exact d'),a,_,_,_,rfl,rfl,hS,hv,?_⟩
   refine⟨_,_,rfl,rfl,.inr ⟨by omega,by omega⟩,_,rfl,_,_,rfl,rfl,.inr ⟨by omega,by omega⟩,_,_,rfl,rfl,_,_,rfl,rfl,(by show(0:Int) < 2147483647;decide),?_⟩
   have g0:=Int.emod_nonneg (v*48271+k*7919) (show(2147483647:Int)≠0 by decide)
   have g1:=Int.emod_lt_of_pos (v*48271+k*7919) (show(0:Int) < 2147483647 by decide)
   refine⟨_,rfl,_,rfl,_,_,rfl,rfl,?_,_,_,rfl,rfl,(by show(0:Int) < 2147483629;decide),q⟩
   exact Or.inl ⟨Int.lt_of_lt_of_le (by decide) g0,Int.lt_trans g1 (by decide)⟩
  ·have d':¬0 < (((ns.map V.int).length:Nat):Int):=of_decide_eq_false (Bool.eq_false_iff.mpr d)
   rw [hl] at d'
   rw [if_neg d'] at q
   exact⟨_,rfl,_,rfl,_,_,rfl,rfl,.inl ⟨by omega,by omega⟩,_,_,rfl,rfl,(by show(0:Int) < 2147483629;decide),q⟩
theorem scPick:FnScope ["_law_script","_law_k","_law_many"] ["_law_script","_law_k","_law_many"] (defScope sPick):=⟨rfl,rfl,rfl,by decide +kernel,rfl,by decide +kernel,by decide +kernel⟩
theorem ok_pick{f fC:Addr}{fd fdC:FuncData} (F:Fun K "_law_pick" "_law_pick" sPick f fd) (GC:FnOk P w K mg base CX0 1 fC fdC ["_law_script","_law_k"] (spCell K)) (bC:Binds K fdC ["_law_script","_law_k"] []) (kC:PySem.W.keepIn K (.ref fC)=true) (mC:mg "_law_cell"=some (.ref fC)):FnOk P w K mg base CX0 2 f fd ["_law_script","_law_k","_law_many"] (spPick K):=by
 refine F.ok scPick (fun vs H Q E h=>?_) (fun cdv A outer s H vs Q E hr1 h=>?_)
 ·obtain⟨_,_,_,_,rfl,_⟩:=h
  rfl
 obtain⟨a,ns,k,m,rfl,hS,h63,h0,h1,hm,q⟩:=h
 refine⟨_,@pss_one _ _ _ (@ps_ret _ _ _ _ (pe_op op_mod (pe_op op_mod (pe_op op_add (pe_op op_mul (pe_call GC hr1 rfl mC kC bC .nil pass0 (@pa_cons _ _ _ _ _ (pv 0) (@pa_cons _ _ _ _ _ (pv 1) pa_nil rfl) rfl)) pe_int) (pe_op op_mul (pv 1) pe_int)) pe_int) (pv 2))),?_⟩
 refine⟨_,rfl,_,rfl,a,ns,k,rfl,hS,h63,h0,h1,?_⟩
 refine⟨_,_,rfl,rfl,.inr ⟨by omega,by omega⟩,_,rfl,_,_,rfl,rfl,.inr ⟨by omega,by omega⟩,_,_,rfl,rfl,_,_,rfl,rfl,(by show(0:Int) < 1000003;decide),_,rfl,_,_,rfl,rfl,hm,?_⟩
 exact q _ (Int.emod_nonneg _ (by omega)) (Int.emod_lt_of_pos _ hm)
theorem scWord:FnScope ["_law_cell_here","_law_mark","_law_letters","_law_size_here","_law_at","_law_sign"] ["_law_cell_here","_law_mark"] (defScope sWord):=⟨rfl,rfl,rfl,by decide +kernel,rfl,by decide +kernel,by decide +kernel⟩
theorem ok_word{f:Addr}{fd:FuncData} (F:Fun K "_law_word" "_law_word" sWord f fd):FnOk P w K mg base CX0 1 f fd ["_law_cell_here","_law_mark"] spWord:=by
 refine F.ok scWord (fun vs H Q E h=>?_) (fun cdv A outer s H vs Q E hr h=>?_)
 ·obtain⟨_,_,rfl,_⟩:=h
  rfl
 obtain⟨c,m,rfl,q⟩:=h
 refine⟨_,@pss_cons _ _ _ _ _ (ps_set (i:=2) scWord.nd rfl (Or.inl rfl) pe_str) (@pss_cons _ _ _ _ _ (ps_set (i:=3) scWord.nd rfl (Or.inl rfl) (pe_ix ix_list (pe_lst (@pa_cons _ _ _ _ _ pe_int (@pa_cons _ _ _ _ _ pe_int (@pa_cons _ _ _ _ _ pe_int (@pa_cons _ _ _ _ _ pe_int (@pa_cons _ _ _ _ _ pe_int (@pa_cons _ _ _ _ _ pe_int pa_nil rfl) rfl) rfl) rfl) rfl) rfl)) (pe_op op_mod (pe_op op_fdiv (pv 0) pe_int) pe_int) (fun _ _=>rfl))) (@pss_cons _ _ _ _ _ (ps_set (i:=4) scWord.nd rfl (Or.inl rfl) (pe_op op_mod (pe_op op_fdiv (pv 0) pe_int) (pe_op op_add (pv 3) pe_int))) (@pss_cons _ _ _ _ _ (ps_set (i:=5) scWord.nd rfl (Or.inl rfl) (pe_ix ix_str (pv 2) (pe_op op_mod (pv 0) pe_int) (fun _ _=>rfl))) (@pss_one _ _ _ (@ps_ret _ _ _ _ (pe_op op_add_str (pe_op op_add_str (pe_op op_mulS (pv 5) (pv 4)) (pe_ix ix_str (pv 2) (pe_op op_mod (pv 1) pe_int) (fun _ _=>rfl))) (pe_op op_mulS (pv 5) (pe_op op_sub (pv 3) (pv 4))))))))),?_⟩
 have z1:=sz_le c
 have z2:=at_le c
 have l1:=len_mul1 c (n:=atOf c) (by omega) (by omega)
 have l2:=len_mul1 c (n:=szOf c - atOf c) (by omega) (by omega)
 have l3:(sg1 m).length=1:=rfl
 refine⟨(by show 6≤sizeLine;decide),fun l hl=>?_⟩
 have sL:=same_new hl (.lst (szs.map V.int))
 refine⟨_,rfl,_,_,rfl,rfl,⟨by decide,by decide⟩,_,_,rfl,rfl,(by show(0:Int) < 6;decide),l,_,_,_,rfl,rfl,SqL.of upd_same,at_sz c,?_⟩
 refine⟨_,rfl,_,_,rfl,rfl,⟨by decide,by decide⟩,_,rfl,_,_,rfl,rfl,_,_,rfl,rfl,(by show(0:Int) < szOf c+1;omega),?_⟩
 refine⟨_,rfl,_,rfl,_,_,rfl,rfl,(by show(0:Int) < 26;decide),_,_,_,rfl,rfl,lz,at_lt c,?_⟩
 refine⟨_,rfl,_,rfl,_,_,rfl,rfl,mulOk_small (by show 0≤atOf c;omega) (by show atOf c≤1000;omega) (by show 1≤1000;decide),?_⟩
 refine⟨_,rfl,_,rfl,_,_,rfl,rfl,(by show(0:Int) < 26;decide),_,_,_,rfl,rfl,lz,at_lt m,?_⟩
 refine⟨_,_,rfl,rfl,small (by show(Txt.mul (sg1 c) (atOf c)).length+(sg1 m).length≤30000;omega),?_⟩
 refine⟨_,rfl,_,rfl,_,rfl,_,_,rfl,rfl,_,_,rfl,rfl,mulOk_small (by show 0≤szOf c - atOf c;omega) (by show szOf c - atOf c≤1000;omega) (by show 1≤1000;decide),?_⟩
 refine⟨_,_,rfl,rfl,small (by show(Txt.mul (sg1 c) (atOf c)++sg1 m).length+(Txt.mul (sg1 c) (szOf c - atOf c)).length≤30000;rw [len_app];omega),?_⟩
 exact q _ sL
theorem scSize:FnScope ["_law_script","_law_k","_law_cell_here","_law_sizes"] ["_law_script","_law_k"] (defScope sSize):=⟨rfl,rfl,rfl,by decide +kernel,rfl,by decide +kernel,by decide +kernel⟩
theorem ok_size{f fC fP:Addr}{fd fdC fdP:FuncData} (F:Fun K "_law_size" "_law_size" sSize f fd) (GC:FnOk P w K mg base CX0 1 fC fdC ["_law_script","_law_k"] (spCell K)) (bC:Binds K fdC ["_law_script","_law_k"] []) (kC:PySem.W.keepIn K (.ref fC)=true) (mC:mg "_law_cell"=some (.ref fC))
  (GP:FnOk P w K mg base CX0 2 fP fdP ["_law_script","_law_k","_law_many"] (spPick K)) (bP:Binds K fdP ["_law_script","_law_k","_law_many"] []) (kP:PySem.W.keepIn K (.ref fP)=true) (mP:mg "_law_pick"=some (.ref fP)):FnOk P w K mg base CX0 3 f fd ["_law_script","_law_k"] (spSize K):=by
 refine F.ok scSize (fun vs H Q E h=>?_) (fun cdv A outer s H vs Q E hr2 h=>?_)
 ·obtain⟨_,_,_,rfl,_⟩:=h
  rfl
 obtain⟨a,ns,k,rfl,hS,h63,h0,h1,q⟩:=h
 have hr1:Room 1 _:=hr2.mono (by decide)
 refine⟨_,@pss_cons _ _ _ _ _ (ps_set (i:=2) scSize.nd rfl (Or.inl rfl) (pe_call GC hr1 rfl mC kC bC .nil pass0 (@pa_cons _ _ _ _ _ (pv 0) (@pa_cons _ _ _ _ _ (pv 1) pa_nil rfl) rfl))) (@pss_cons _ _ _ _ _ (ps_set (i:=3) scSize.nd rfl (Or.inl rfl) (pe_lst (@pa_cons _ _ _ _ _ pe_int (@pa_cons _ _ _ _ _ (pe_op op_add pe_int (pe_op op_mod (pv 2) pe_int)) (@pa_cons _ _ _ _ _ (pe_op op_add pe_int (pe_op op_mod (pv 2) (pe_op op_pow pe_int pe_int))) (@pa_cons _ _ _ _ _ (pe_op op_pow pe_int pe_int) pa_nil rfl) rfl) rfl) rfl))) (@pss_one _ _ _ (@ps_ret _ _ _ _ (pe_ix ix_list (pv 3) (pe_call GP hr2 rfl mP kP bP .nil pass0 (@pa_cons _ _ _ _ _ (pv 0) (@pa_cons _ _ _ _ _ (pv 1) (@pa_cons _ _ _ _ _ pe_int pa_nil rfl) rfl) rfl)) (fun _ _=>rfl))))),?_⟩
 refine⟨_,rfl,_,rfl,a,ns,k,rfl,hS,h63,h0,h1,?_⟩
 generalize cellOf ns k=c
 have a0:=Int.emod_nonneg c (show(7:Int)≠0 by decide)
 have a1:=Int.emod_lt_of_pos c (show(0:Int) < 7 by decide)
 have e18:(10:Int) ^ (18:Int).toNat=10 ^ 18:=rfl
 have p18:(0:Int) < 10 ^ 18:=by decide
 have b0:=Int.emod_nonneg c (show(10 ^ 18:Int)≠0 by decide)
 have b1:=Int.emod_lt_of_pos c p18
 refine⟨_,rfl,_,_,rfl,rfl,(by show(0:Int) < 7;decide),_,_,rfl,rfl,?_⟩
 refine⟨_,rfl,_,_,rfl,rfl,⟨by decide,by decide,by decide⟩,_,_,rfl,rfl,p18,_,_,rfl,rfl,?_⟩
 refine⟨_,_,rfl,rfl,⟨by decide,by decide,by decide⟩,(by show 4≤sizeLine;decide),fun l hl=>?_⟩
 have sL:=same_new hl (.lst [.int 2,.int (1+c%7),.int (1+c%10 ^ 18),.int (10 ^ 18)])
 refine⟨_,rfl,_,rfl,_,rfl,a,ns,k,4,rfl,sql_same sL hS,h63,h0,h1,by decide,fun r r0 r1=>?_⟩
 have key:∃n:Int,atI [V.int 2,.int (1+c%7),.int (1+c%10 ^ 18),.int (10 ^ 18)] r=some (.int n)∧0 < n∧n≤10 ^ 18:=by
  have:r=0∨r=1∨r=2∨r=3:=by omega
  rcases this with rfl|rfl|rfl|rfl
  ·exact⟨_,rfl,by decide,by decide⟩
  ·exact⟨_,rfl,by omega,by omega⟩
  ·exact⟨_,rfl,by omega,by omega⟩
  ·exact⟨_,rfl,by decide,by decide⟩
 obtain⟨n,hn,n0,n1⟩:=key
 exact⟨l,_,_,_,rfl,rfl,SqL.of upd_same,hn,q n _ sL n0 n1⟩
end
end K62
namespace K62
open PySem L2 Kk
def AlD:Nat→PyData→Prop
 |0,_=>False
 |_+1,.int _=>True
 |_+1,.str _=>True
 |n+1,.tuple ds=>ds.length≤100∧∀d∈ds,AlD n d
 |_+1,_=>False
theorem dats_get{K:PySem.W.Frag}{H:Hp}:∀{xs:List V} {ds:List PyData} {i:Nat} {x:V} {d:PyData},Dats K H xs ds→xs[i]?=some x→ds[i]?=some d→Dat K H x d
 |_,_,_,_,_,.nil,e,_=>by simp at e
 |_,_,0,_,_,.cons a _,e,f=>by
  obtain rfl:=Option.some.inj e
  obtain rfl:=Option.some.inj f
  exact a
 |_,_,i+1,_,_,.cons _ b,e,f=>dats_get (i:=i) b e f
theorem dats_len{K:PySem.W.Frag}{H:Hp}:∀{xs:List V} {ds:List PyData},Dats K H xs ds→xs.length=ds.length
 |_,_,.nil=>rfl
 |_,_,.cons _ b=>congrArg (·+1) (dats_len b)
theorem ald_kd:∀(k:Kd) (n:Nat),Kd.depth k≤n→AlD (n+1) (Kd.dat k)
 |.num _,n,h=>by
  match n,h with
  |n+1,_=>exact⟨by show 2≤100;decide,fun d hd=>by simp at hd;rcases hd with rfl|rfl<;>trivial⟩
  |0,h=>simp [Kd.depth] at h
 |.name _ _,n,h=>by
  match n,h with
  |n+1,_=>exact⟨by show 3≤100;decide,fun d hd=>by simp at hd;rcases hd with rfl|rfl|rfl<;>trivial⟩
  |0,h=>simp [Kd.depth] at h
 |.pair a b,n,h=>by
  match n,h with
  |n+1,h =>
   simp only [Kd.depth] at h
   have h1:=ald_kd a n (by omega)
   have h2:=ald_kd b n (by omega)
   exact⟨by show 3≤100;decide,fun d hd=>by simp at hd;rcases hd with rfl|rfl|rfl<;>first|trivial|assumption⟩
  |0,h=>simp [Kd.depth] at h
def spSame(K:PySem.W.Frag)(n:Nat):Sp:=fun vs H Q _=>∃(x y:V) (d:PyData),vs=[x,y]∧Dat K H x d∧Dat K H y d∧AlD n d∧Q (.bl true) H
theorem kit_ss(K:PySem.W.Frag):PySem.W.kitOne K (.type "str") (.type "str")=some true:=rfl
theorem kit_is(K:PySem.W.Frag):PySem.W.kitOne K (.type "int") (.type "str")=some false:=rfl
theorem bootBoolT:bootBuiltins "bool"=some (.type "bool"):=by decide +kernel
theorem bootStr:bootBuiltins "str"=some (.type "str"):=by decide +kernel
section
variable{P:Program}{w:World}{K:PySem.W.Frag}{mg:Str→Option Value}{base:Heap}
theorem scSame:FnScope ["_law_found_here","_law_due","_law_k"] ["_law_found_here","_law_due"] (defScope sSame):=⟨rfl,rfl,rfl,by decide +kernel,rfl,by decide +kernel,by decide +kernel⟩
set_option maxHeartbeats 0 in
theorem ok_same{f:Addr}{fd:FuncData} (F:Fun K "_law_same" "_law_same" sSame f fd) (bA:Binds K fd ["_law_found_here","_law_due"] []) (kA:PySem.W.keepIn K (.ref f)=true) (mA:mg "_law_same"=some (.ref f))
  (mis:mg "isinstance"=none) (ms:mg "str"=none) (mt:mg "tuple"=none) (mI:mg "int"=none) (mb:mg "bool"=none) (ml:mg "len"=none) (mr:mg "range"=none) :
  ∀n,FnOk P w K mg base CX0 n f fd ["_law_found_here","_law_due"] (spSame K n)
 |0=>⟨fun vs H Q E h=>by obtain⟨x,y,d,rfl,_⟩:=h;rfl,fun A outer s H args us vs Q E _ _ _ _ h=>by
   obtain⟨x,y,d,_,_,_,h,_⟩:=h
   exact h.elim⟩
 |n+1=>by
  have GA:=ok_same F bA kA mA mis ms mt mI mb ml mr n
  refine F.ok scSame (fun vs H Q E h=>?_) (fun cdv A outer s H vs Q E hrA h=>?_)
  ·obtain⟨x,y,d,rfl,_⟩:=h
   rfl
  obtain⟨x,y,d,rfl,hx,hy,hal,q⟩:=h
  refine⟨_,@pss_cons _ _ _ _ _ (ps_if (L2.pt_val (pe_callB call_isiTA rfl mis bootIsi (@pa_cons _ _ _ _ _ (pv 1) (@pa_cons _ _ _ _ _ (pe_bltn rfl mt bootTuple (v:=.ty "tuple") rfl) pa_nil rfl) rfl))) (@pss_cons _ _ _ _ _ (ps_if (PW.pt (pw_or (pt_not (L2.pt_val (pe_callB call_isiTA rfl mis bootIsi (@pa_cons _ _ _ _ _ (pv 0) (@pa_cons _ _ _ _ _ (pe_bltn rfl mt bootTuple (v:=.ty "tuple") rfl) pa_nil rfl) rfl)))) (pw_or1 (pt_cmpR op_ne (pe_callB call_len_seq rfl ml PySem.boot_len (@pa_cons _ _ _ _ _ (pv 0) pa_nil rfl)) (pe_callB call_len_seq rfl ml PySem.boot_len (@pa_cons _ _ _ _ _ (pv 1) pa_nil rfl)) (nomark _))))) (@pss_one _ _ _ (@ps_ret _ _ _ _ pe_bl)) pss_nil) (@pss_cons _ _ _ _ _ (ps_for PassesOwn.never rfl (pi_range1 rfl mr (@pa_cons _ _ _ _ _ (pe_callB call_len_seq rfl ml PySem.boot_len (@pa_cons _ _ _ _ _ (pv 1) pa_nil rfl)) pa_nil rfl)) (pg_name (i:=2) scSame.nd rfl (Or.inl rfl)) (@pss_one _ _ _ (ps_if (pt_not (L2.pt_val (pe_call GA hrA rfl mA kA bA .nil pass0 (@pa_cons _ _ _ _ _ (pe_ix ix_tup (pv 0) (pv 2) (fun _ _=>rfl)) (@pa_cons _ _ _ _ _ (pe_ix ix_tup (pv 1) (pv 2) (fun _ _=>rfl)) pa_nil rfl) rfl)))) (@pss_one _ _ _ (@ps_ret _ _ _ _ pe_bl)) pss_nil))) (@pss_one _ _ _ (@ps_ret _ _ _ _ pe_bl)))) pss_nil) (@pss_cons _ _ _ _ _ (ps_if (L2.pt_val (pe_callB call_isi rfl mis bootIsi (@pa_cons _ _ _ _ _ (pv 1) (@pa_cons _ _ _ _ _ (pe_bltn rfl ms bootStr (v:=.ty "str") rfl) pa_nil rfl) rfl))) (@pss_one _ _ _ (@ps_ret _ _ _ _ (pe_and (pe_callB call_isi rfl mis bootIsi (@pa_cons _ _ _ _ _ (pv 0) (@pa_cons _ _ _ _ _ (pe_bltn rfl ms bootStr (v:=.ty "str") rfl) pa_nil rfl) rfl)) (pe_one (pe_cmpR op_eq (pv 0) (pv 1) (nomark _)))))) pss_nil) (@pss_one _ _ _ (@ps_ret _ _ _ _ (pe_and (pe_callB call_isi rfl mis bootIsi (@pa_cons _ _ _ _ _ (pv 0) (@pa_cons _ _ _ _ _ (pe_bltn rfl mI bootInt (v:=.ty "int") rfl) pa_nil rfl) rfl)) (pe_and (pe_not (pe_callB call_isi rfl mis bootIsi (@pa_cons _ _ _ _ _ (pv 0) (@pa_cons _ _ _ _ _ (pe_bltn rfl mb bootBoolT (v:=.ty "bool") rfl) pa_nil rfl) rfl))) (pe_one (pe_cmpR op_eq (pv 0) (pv 1) (nomark _)))))))),?_⟩
  cases hy with
  |bl b=>exact hal.elim
  |lst _ _=>exact hal.elim
  |non=>exact hal.elim
  |str s0 =>
   cases hx
   refine⟨_,rfl,.str s0,rfl,.inl ⟨s0,rfl,false,rfl,iteF ?_⟩⟩
   refine⟨_,rfl,.str s0,"str",_,true,rfl,.str s0,kit_ss K,true,rfl,iteT ?_⟩
   refine⟨_,rfl,.str s0,"str",_,true,rfl,.str s0,kit_ss K,true,rfl,iteT ⟨_,rfl,_,rfl,rfl,?_⟩⟩
   show Q (.bl (decide (V.str s0=V.str s0))) H
   rw [decide_eq_true rfl]
   exact q
  |int i0 =>
   cases hx
   refine⟨_,rfl,.int i0,rfl,.inr (.inl ⟨i0,rfl,false,rfl,iteF ?_⟩)⟩
   refine⟨_,rfl,.int i0,"str",_,false,rfl,.int i0,kit_is K,false,rfl,iteF ?_⟩
   refine⟨_,rfl,.int i0,"int",_,true,rfl,.int i0,kit_ii K,true,rfl,iteT ?_⟩
   refine⟨_,rfl,.int i0,"bool",_,false,rfl,.int i0,kit_ib K,false,rfl,true,rfl,iteT ⟨_,rfl,_,rfl,rfl,?_⟩⟩
   show Q (.bl (decide (V.int i0=V.int i0))) H
   rw [decide_eq_true rfl]
   exact q
  |@tup b ys ds hb hys =>
   obtain⟨a,xs,rfl,ha,hxs⟩:∃a xs,x=.ref a∧SqT K H a xs∧Dats K H xs ds:=by
    cases hx with
    |tup h1 h2=>exact⟨_,_,rfl,h1,h2⟩
   obtain⟨h10,hall⟩:=hal
   have hxl:=dats_len hxs
   have hyl:=dats_len hys
   have hl:xs.length=ys.length:=by omega
   refine⟨_,rfl,.ref b,rfl,.inr (.inr ⟨b,_,rfl,hb,true,rfl,iteT ?_⟩)⟩
   refine⟨_,rfl,.ref a,rfl,.inr (.inr ⟨a,_,rfl,ha,true,rfl,iteF ⟨_,rfl,a,_,rfl,.inr ha,_,rfl,b,_,rfl,.inr hb,rfl,_,rfl,ite2 (fun c=>?_) (fun _=>?_)⟩⟩)⟩
   ·have c':(!decide (V.int (xs.length:Int)=V.int (ys.length:Int)))=true:=c
    rw [hl,decide_eq_true rfl] at c'
    exact absurd c' (by decide)
   refine⟨_,rfl,b,_,rfl,.inr hb,_,rfl,by omega,by omega,?_⟩
   refine for_range (n:=((ys.length:Nat):Int).toNat) (fun i σ H2=>H2=H∧∃v,σ=[some (.ref a),some (.ref b),v]) ⟨rfl,none,rfl⟩ ?_ ?_
   ·rintro i σ H2 hi ⟨rfl,v,rfl⟩
    have hi':i < ys.length:=by omega
    have e0:(0:Int)+(i:Int)=(i:Int):=by omega
    rw [e0]
    have gx:xs[i]?=some xs[i]:=List.getElem?_eq_getElem (by omega)
    have gy:ys[i]?=some ys[i]:=List.getElem?_eq_getElem (by omega)
    have gd:ds[i]?=some ds[i]:=List.getElem?_eq_getElem (by omega)
    refine⟨_,rfl,_,rfl,a,_,_,_,rfl,rfl,ha,atI_nat gx,?_⟩
    refine⟨_,rfl,_,rfl,b,_,_,_,rfl,rfl,hb,atI_nat gy,?_⟩
    exact⟨_,_,ds[i],rfl,dats_get hxs gx gd,dats_get hys gy gd,hall _ (List.getElem_mem _),true,rfl,iteF ⟨rfl,_,rfl⟩⟩
   ·rintro σ H2 ⟨rfl,v,rfl⟩
    exact q
end
end K62
namespace K62
open PySem L2 Kk
abbrev Ps:=List (Str × Kd)
def PAt(K:PySem.W.Frag)(H:Hp)(x:V)(p:Str × Kd):Prop:=∃a u,x=.ref a∧H a=some (.tup [.str p.1,u])∧smW p.1∧KAt K H u p.2
theorem PAt.same{K:PySem.W.Frag}{H H':Hp}(s:Same H H'){x:V}{p:Str × Kd}(h:PAt K H x p):PAt K H' x p:=by
 obtain⟨a,u,e,h1,h2,h3⟩:=h
 exact⟨a,u,e,s _ _ h1,h2,h3.same s⟩
abbrev PsAt(K:PySem.W.Frag)(H:Hp):List V→Ps→Prop:=Paired (PAt K H)
def rhoP:Ps→Str→Option Kd
 |[]=>fun _=>none
 |p::r=>fun y=>if y=p.1 then some p.2 else rhoP r y
theorem rhoP_none:∀{ps:Ps} {s:Str},rhoP ps s=none↔s∉ps.map (·.1)
 |[],s=>by simp [rhoP]
 |p::r,s=>by
  unfold rhoP
  by_cases h:s=p.1
  ·simp [h]
  ·rw [if_neg h,rhoP_none];simp [h]
theorem rhoP_snoc:∀{ps:Ps} {x:Str} {k:Kd},x∉ps.map (·.1)→rhoP (ps++[(x,k)])=fun y=>if y=x then some k else rhoP ps y
 |[],x,k,_=>rfl
 |p::r,x,k,h=>by
  funext y
  have h1:x≠p.1:=fun e=>h (by simp [e])
  have h2:x∉r.map (·.1):=fun e=>h (List.mem_cons_of_mem _ e)
  show(if y=p.1 then some p.2 else rhoP (r++[(x,k)]) y)=if y=x then some k else (if y=p.1 then some p.2 else rhoP r y)
  rw [rhoP_snoc h2]
  by_cases e:y=p.1
  ·rw [if_pos e,if_neg (by rw [e];exact Ne.symm h1),if_pos e]
  ·rw [if_neg e,if_neg e]
def lookR(mo:Int)(C:Orc)(ps:Ps)(k:Kd)(e:Ex):Option Nat :=
 if (ps.map (·.1)).Nodup then (match kin mo C (rhoP ps) e with|.ok k'=>if k'=k then none else some 2|.no c=>some (if c < 4 then c else 9)) else some 4
def LOut(cl:Nat→Addr)(r:Option Nat)(H:Hp)(Q:VK)(E:XK):Prop:=match r with
 |none=>∀H',Same H H'→Q .non H'
 |some c=>c < 5∧∀H',Same H H'→E (.ref (cl c)) none H'
def spLookB(P:Program)(w:World)(K:PySem.W.Frag)(mg:Str→Option Value)(base:Heap)(cl:Nat→Addr)(k n:Nat):Sp:=fun vs H Q E=>∃(a:Addr) (xs:List V) (xk xe:V) (f:Addr) (mo:Int) (ps:Ps) (kd:Kd) (e:Ex) (fd:FuncData) (C:Orc),vs=[.ref a,xk,xe,.ref f,.int mo]∧SqT K H a xs∧PsAt K H xs ps∧ps.length≤100∧KAt K H xk kd∧ExAt H xe e∧e.ht≤n∧n≤300∧0≤mo∧mo≤10000∧H f=some (.fnc fd)∧OrcOk P w K mg base cl k f H C∧LOut cl (lookR mo C ps kd e) H Q E
section
variable{P:Program}{w:World}{K:PySem.W.Frag}{mg:Str→Option Value}{base:Heap}{cl:Nat→Addr}
theorem scLookB:FnScope ["params","kind","expression","called","most","variables","word","its"] ["params","kind","expression","called","most"] (defScope sLookB):=⟨rfl,rfl,rfl,by decide +kernel,rfl,by decide +kernel,by decide +kernel⟩
set_option maxHeartbeats 0 in
theorem ok_lookB{f fk fm:Addr}{dV:Value}{fd fdk fdm:FuncData}{k n:Nat} (F:FunD K "look_at_body" "look_at_body" sLookB dV f fd) (m4:mg "Twice"=some (.ref (cl 4))) (x4:PySem.W.excIn K (cl 4) bmVE "ValueError.__new__"=true)
  (GK:FnOk P w K mg base (CX1 P w) (k+3+n) fk fdk kiP (spKin P w K mg base cl k n)) (bK:Binds K fdk kiP []) (kK:PySem.W.keepIn K (.ref fk)=true) (mK:mg "kind_in"=some (.ref fk))
  (GD:FnOk P w K mg base (CX1 P w) 1 fm fdm ["does","what"] (spDem (cl 2))) (bD:Binds K fdm ["does","what"] []) (kD:PySem.W.keepIn K (.ref fm)=true) (mD:mg "demand"=some (.ref fm)) :
  FnOk P w K mg base (CX1 P w) (k+3+n+1) f fd ["params","kind","expression","called","most"] (spLookB P w K mg base cl k n):=by
 refine F.okX (k:=k+3+n) scLookB (fun vs H Q E h=>?_) (fun cdv A outer s H vs Q E hrk h=>?_)
 ·obtain⟨_,_,_,_,_,_,_,_,_,_,_,rfl,_⟩:=h
  rfl
 obtain⟨a,xs,xk,xe,g,mo,ps,kd,e,fdc,C,rfl,hxs,hps,hl9,hk,he,hn,hn3,mo0,mo1,hg,hC,hq⟩:=h
 have hu:=hu_of hrk
 have hu64:=hu64_of hrk
 have hr1:Room 1 _:=hrk.mono (by omega)
 refine⟨_,@pss_cons _ _ _ _ _ (ps_set (i:=5) scLookB.nd rfl (Or.inl rfl) pe_dnewK) (@pss_cons _ _ _ _ _ (ps_for PassesOwn.leaving rfl (pi_tup (pv 0)) (pg_tup rfl (pgs_cons (pg_name (i:=6) scLookB.nd rfl (Or.inl rfl)) (pgs_cons (pg_name (i:=7) scLookB.nd rfl (Or.inl rfl)) pgs_nil))) (@pss_cons _ _ _ _ _ (ps_if (pt_cmp (pc_din hu (pv 6) (pv 5))) (@pss_one _ _ _ (ps_raise1 rfl m4 x4 (@pa_cons _ _ _ _ _ (pe_fstr (pj_cons pe_str (pj_cons (pe_fv (pv 6)) (pj_cons pe_str pj_nil))) (by decide)) pa_nil rfl))) pss_nil) (@pss_one _ _ _ (ps_dput hu (pv 5) (pv 6) (pv 7) rfl)))) (@pss_one _ _ _ (ps_expr (pe_call GD hr1 rfl mD kD bD .nil pass1 (@pa_cons _ _ _ _ _ (pe_cmpR (op_eqD hu64) (pe_call GK hrk rfl mK kK bK .nil pass1 (@pa_cons _ _ _ _ _ (pv 2) (@pa_cons _ _ _ _ _ (pv 5) (@pa_cons _ _ _ _ _ (pv 3) (@pa_cons _ _ _ _ _ (pv 4) pa_nil rfl) rfl) rfl) rfl)) (pv 1) (nomark _)) (@pa_cons _ _ _ _ _ pe_str pa_nil rfl) rfl))))),?_⟩
 refine fun d hd=>?_
 have s1:=same_new hd (.dK [])
 have hpl:=hps.length
 refine⟨_,rfl,a,rfl,⟨xs,s1.tup hxs⟩,for_tup (xs:=xs) (fun i σ H3=>∃v6 v7 kvs,σ=[some (.ref a),some xk,some xe,some (.ref g),some (.int mo),some (.ref d),v6,v7]∧Same H H3∧SqT K H3 a xs∧H3 d=some (.dK kvs)∧kvs.length≤i∧((ps.take i).map (·.1)).Nodup∧EnvAt K H3 d (rhoP (ps.take i)) i) ?_ ?_ ?_ ?_⟩
 ·exact⟨none,none,[],rfl,s1,s1.tup hxs,upd_same,Nat.le_refl _,by simp,[],upd_same,Nat.le_refl _,fun s=>.inl ⟨rfl,rfl⟩⟩
 ·rintro i σ H3 _ ⟨_,_,_,_,_,h,_⟩
  exact h
 ·rintro i x σ H3 hx ⟨v6,v7,kvs,rfl,s3,h3,hk3,hkl,hnd,hv⟩
  obtain⟨⟨sw,kw⟩,hp,b,u,rfl,hb,hsw,hku⟩:=pair_get hps hx
  have hi9:i < ps.length:=(List.getElem?_eq_some_iff.mp hp).1
  obtain⟨kvs',hk3',_,hvs⟩:=id hv
  rw [hk3] at hk3'
  obtain rfl:kvs=kvs':=HO.dK.inj (Option.some.inj hk3')
  refine⟨b,_,rfl,SqT.of (s3 _ _ hb),rfl,_,_,rfl,_,_,rfl,rfl,?_⟩
  refine⟨_,rfl,_,rfl,d,_,rfl,DGet.k (k:=Sum.inr sw) hk3,_,rfl,ite2 (fun c=>?_) (fun c=>?_)⟩
  ·have hin:sw∈(ps.take i).map (·.1):=by
    by_cases z:sw∈(ps.take i).map (·.1)
    ·exact z
    ·exfalso
     have:=rhoP_none.mpr z
     rcases hvs sw with ⟨_,e2⟩|⟨_,_,e1,_⟩
     ·rw [e2] at c;cases c
     ·rw [this] at e1;cases e1
   have h4:¬(ps.map (·.1)).Nodup:=fun hn'=>by
    rw [(take_split hp).choose_spec,List.map_append,List.map_cons] at hn'
    have:=(List.nodup_append.mp hn').2.2 sw hin sw (by simp)
    exact this rfl
   unfold lookR at hq
   rw [if_neg h4] at hq
   exact⟨_,rfl,by decide +kernel,_,rfl,.inl ⟨sw,rfl,Nat.le_trans hsw.2 (by decide),_,rfl,Nat.le_trans hsw.2 (by decide),_,rfl,by decide +kernel,fun z hz=>⟨(by show 1≤sizeLine;decide),hq.2 _ s3⟩⟩⟩
  ·have hni:sw∉(ps.take i).map (·.1):=fun z=>by
    apply c
    rcases hvs sw with ⟨e1,_⟩|⟨_,_,_,e2,_⟩
    ·exact absurd z (rhoP_none.mp e1)
    ·rw [e2];rfl
   refine⟨_,rfl,_,rfl,_,rfl,d,_,rfl,DPut.k (k:=Sum.inr sw) hk3 (small1000 (by omega)),?_⟩
   have e1:ps.take (i+1)=ps.take i++[(sw,kw)]:=(take_snoc hp).symm
   have kp:∀a xs,SqT K H3 a xs→SqT K (upd H3 d (.dK (putK kvs (Sum.inr sw) u))) a xs:=fun a xs t=>by
    rcases t with (t|⟨o,t⟩)|t
    ·exact .inl (.inl (by rw [upd_ne (ne_of t hk3 (by intro z;cases z))];exact t))
    ·exact .inl (.inr ⟨o,by rw [upd_ne (ne_of t hk3 (by intro z;cases z))];exact t⟩)
    ·exact .inr t
   refine⟨_,_,_,rfl,sput s3 hd,kp _ _ h3,upd_same,Nat.le_trans (length_putK ..) (by omega),?_,_,upd_same,Nat.le_trans (length_putK ..) (by omega),fun z=>?_⟩
   ·rw [e1,List.map_append]
    refine List.nodup_append.mpr ⟨hnd,by simp,fun x hx y hy=>?_⟩
    rcases List.mem_singleton.mp hy with rfl
    exact fun e=>hni (e▸hx)
   ·rw [e1,rhoP_snoc hni,valV_put]
    by_cases ez:z=sw
    ·subst ez
     have hku':=hku.same s3
     exact .inr ⟨kw,u,if_pos rfl,if_pos rfl,⟨kd_keep kp hku'.1,hku'.2⟩⟩
    ·rw [if_neg fun h=>ez (Sum.inr.inj h)]
     rcases hvs z with ⟨e1,e2⟩|⟨k',u',e1,e2,e3⟩
     ·exact .inl ⟨(if_neg ez).trans e1,e2⟩
     ·exact .inr ⟨k',u',(if_neg ez).trans e1,e2,⟨kd_keep kp e3.1,e3.2⟩⟩
 ·rintro σ H3 ⟨v6,v7,kvs,rfl,s3,h3,hk3,hkl,hnd,hv⟩
  rw [hpl,List.take_length] at hnd hv
  unfold lookR at hq
  rw [if_pos hnd] at hq
  refine⟨_,rfl,_,rfl,_,rfl,_,rfl,xe,d,g,mo,e,rhoP ps,ps.length,fdc,C,rfl,he.same s3,hn,hv,by omega,mo0,mo1,s3 _ _ hg,hC.same s3,?_⟩
  cases hkn:kin mo C (rhoP ps) e with
  |no c =>
   rw [hkn] at hq
   replace hq:LOut cl (some (if c < 4 then c else 9)) H Q E:=hq
   by_cases hc4:c < 4
   ·rw [if_pos hc4] at hq
    exact⟨hc4,fun H' s'=>hq.2 _ (s3.trans s')⟩
   ·rw [if_neg hc4] at hq
    exact absurd hq.1 (by decide)
  |ok k' =>
   rw [hkn] at hq
   intro H4 u s4 hu4
   have hk4:=(hk.same s3).same s4
   refine⟨_,rfl,_,_,kd_dat hu4.1,kd_dat hk4.1,sm_shaped hu4.2,sm_shaped hk4.2,_,"a function's expression",rfl,by decide +kernel,?_⟩
   show if PyData.eqv (Kd.dat k') (Kd.dat kd)=true then _ else _
   rw [eqv_dat]
   by_cases c:k'=kd
   ·rw [decide_eq_true c]
    replace hq:LOut cl (if k'=kd then none else some 2) H Q E:=hq
    rw [if_pos c] at hq
    exact iteT (hq _ (s3.trans s4))
   ·rw [decide_eq_false c]
    replace hq:LOut cl (if k'=kd then none else some 2) H Q E:=hq
    rw [if_neg c] at hq
    exact iteF (hq.2 _ (s3.trans s4))
end
end K62
namespace L2
open PySem
theorem comp_eachT{K:PySem.W.Frag}{H:Hp}{p:Addr}{xs:List V}(R:Nat→Hp→V→Prop){n:Nat}{κ:List Nat}{g:TG}{te:TE}{σ:St}{Q:VK}
  (st:∀i H H' v,Same H H'→R i H v→R i H' v) (hp:SqT K H p xs) (hx:xs.length≤1000)
  (turn:∀(i:Nat) (u:V) (H3:Hp) (N:V→Hp→Prop) (B:Hp→Prop),xs[i]?=some u→Same H H3→(∀v H4,Same H3 H4→R i H4 v→N v H4) →
   g u (blkSt n κ σ) H3 fun σ4 H4=>σ4.drop n=(blkSt n κ σ).drop n∧tYes σ4 H4 fun b H5=>if b=true then te σ4 H5 N else B H5)
  (fin:∀ys H3 D,Same H H3→ys.length=xs.length→(∀(i:Nat) (v:V),ys[i]?=some v→R i H3 v)→H3 D=none→Q (.ref D) (upd H3 D (.lst ys))) :
  CompRun n κ g tYes te σ (Itt K p) H Q:=by
 refine comp_by (J:=Itt K p) (xs:=xs) (fun i ys H3=>Same H H3∧ys.length=i∧∀(j:Nat) (v:V),ys[j]?=some v→R j H3 v) ⟨Same.refl _,rfl,fun j v h=>nomatch h⟩ (Nat.le_of_lt (small1000 hx)) ?_ ?_ ?_ ?_ ?_ ?_
 ·rintro i ys H3 ⟨_,hl,_⟩
  exact Nat.le_of_eq hl
 ·rintro i u ys H3 hu ⟨s3,_⟩
  exact⟨_,_,s3.tup hp,hu⟩
 ·rintro i ys u H3 H' hn ⟨s3,_⟩ hy
  exact⟨hy.1,hy.2 _ (s3.tup hp)⟩
 ·rintro ys H3 ⟨s3,_⟩
  exact⟨_,s3.tup hp,Nat.le_refl _⟩
 ·rintro i u ys H3 N hN hu ⟨s3,hl,hy⟩
  refine turn i u H3 (fun v H6=>N (ys++[v]) H6) (fun H5=>N ys H5) hu s3 fun v H4 s4 hv=>hN _ _ ⟨s3.trans s4,by rw [List.length_append,hl];rfl,fun j v' hj=>?_⟩
  by_cases c:j < ys.length
  ·rw [List.getElem?_append_left c] at hj
   exact st _ _ _ _ s4 (hy j v' hj)
  ·rw [List.getElem?_append_right (Nat.le_of_not_lt c)] at hj
   have e:j - ys.length=0:=by
    have:=(List.getElem?_eq_some_iff.mp hj).1
    have h1:[v].length=1:=rfl
    omega
   rw [e] at hj
   cases hj
   have ej:j=i:=by omega
   rw [ej]
   exact hv
 ·rintro ys H3 D ⟨s3,hl,hy⟩ hD
  exact fin ys H3 D s3 hl hy hD
theorem comp_eachR{H:Hp}{m:Nat}(R:Nat→Hp→V→Prop){n:Nat}{κ:List Nat}{g:TG}{te:TE}{σ:St}{Q:VK}
  (st:∀i H H' v,Same H H'→R i H v→R i H' v) (hx:m≤1000)
  (turn:∀(i:Nat) (H3:Hp) (N:V→Hp→Prop) (B:Hp→Prop),i < m→Same H H3→(∀v H4,Same H3 H4→R i H4 v→N v H4) →
   g (.int (0+(i:Int))) (blkSt n κ σ) H3 fun σ4 H4=>σ4.drop n=(blkSt n κ σ).drop n∧tYes σ4 H4 fun b H5=>if b=true then te σ4 H5 N else B H5)
  (fin:∀ys H3 D,Same H H3→ys.length=m→(∀(i:Nat) (v:V),ys[i]?=some v→R i H3 v)→H3 D=none→Q (.ref D) (upd H3 D (.lst ys))) :
  CompRun n κ g tYes te σ (Itr 0 m) H Q:=by
 refine comp_by (J:=Itr 0 m) (xs:=rangeV 0 m) (fun i ys H3=>Same H H3∧ys.length=i∧∀(j:Nat) (v:V),ys[j]?=some v→R j H3 v) ⟨Same.refl _,rfl,fun j v h=>nomatch h⟩ (by rw [rangeV_len];exact Nat.le_of_lt (small1000 hx)) ?_ ?_ ?_ ?_ ?_ ?_
 ·rintro i ys H3 ⟨_,hl,_⟩
  exact Nat.le_of_eq hl
 ·rintro i x zs H3 hx _
  exact itr_go hx
 ·rintro i zs x H3 H' hi _ hy
  rw [rangeV_len] at hi
  exact itr_yld' hi hy
 ·rintro zs H3 _
  rw [rangeV_len]
  exact Nat.le_refl _
 ·rintro i u ys H3 N hN hu ⟨s3,hl,hy⟩
  obtain⟨hi9,rfl⟩:=rangeV_get.mp hu
  refine turn i H3 (fun v H6=>N (ys++[v]) H6) (fun H5=>N ys H5) hi9 s3 fun v H4 s4 hv=>hN _ _ ⟨s3.trans s4,by rw [List.length_append,hl];rfl,fun j v' hj=>?_⟩
  by_cases c:j < ys.length
  ·rw [List.getElem?_append_left c] at hj
   exact st _ _ _ _ s4 (hy j v' hj)
  ·rw [List.getElem?_append_right (Nat.le_of_not_lt c)] at hj
   have e:j - ys.length=0:=by
    have:=(List.getElem?_eq_some_iff.mp hj).1
    have h1:[v].length=1:=rfl
    omega
   rw [e] at hj
   cases hj
   have ej:j=i:=by omega
   rw [ej]
   exact hv
 ·rintro ys H3 D ⟨s3,hl,hy⟩ hD
  rw [rangeV_len] at hl
  exact fin ys H3 D s3 hl hy hD
end L2
namespace K62
open PySem L2 Kk
theorem same_add{H H':Hp}{ads:List Addr}(s:Same (dropC ads H) H'):Same H (addC ads H H'):=fun b o e=>by
 unfold addC
 by_cases hb:b∈ads
 ·rw [if_pos hb];exact e
 ·rw [if_neg hb];exact s _ _ (by rw [drop_no hb];exact e)
theorem add_same{H H':Hp}{ads:List Addr}(n:∀a∈ads,H' a=none):Same H' (addC ads H H'):=fun b o e=>by
 unfold addC
 by_cases hb:b∈ads
 ·rw [n b hb] at e;cases e
 ·rw [if_neg hb];exact e
theorem same_lam{H:Hp}{f c:Addr}{q:Str}{fd:FuncData}(hf:H f=none)(hfc:f≠c)(hc:H c=none∨H c=some (.cod q)):Same H (upd (upd H c (.cod q)) f (.fnc fd)):=by
 have s1:Same H (upd H c (.cod q)):=by
  rcases hc with hc|hc
  ·exact same_new hc _
  ·intro b o e
   by_cases hb:b=c
   ·subst hb;rw [upd_same];rw [hc] at e;exact e
   ·rw [upd_ne hb];exact e
 exact s1.trans (same_new (by rw [upd_ne hfc];exact hf) _)
abbrev sCalledI:Stmt:=(defBody sPlain).getD 1 (.Pass ⟨0,0,0,0⟩)
abbrev callQ:Str:=("plain_look"++".<locals>.":Str)++"called"
abbrev tabL:Array Value:=#[.int 103 0,.int 4 0,.str callQ 0]
abbrev caN:List Str:=["part","word"]
abbrev fdCalled(c a1:Addr)(doc pm ctv:Value):FuncData:=PySem.W.fnX "called" callQ (defArgs sCalledI) (defBody sCalledI) (defScope sCalledI) ((["told"]:List Str).zip [a1]) .none .none doc pm none (.ref c) ctv
def spCalledI(C:Addr):Sp:=fun vs H Q E=>∃(d:Addr) (q t:Str) (kvs:List (List Key × V)),vs=[.ref d,.str q,.str t]∧smW q∧smW t∧H d=some (.dT kvs)∧∀H',Same H H'→match valV kvs [.inr q,.inr t] with
 |some u=>Q u H'
 |none=>E (.ref C) none H'
section
variable{P:Program}{w:World}{K:PySem.W.Frag}{mg:Str→Option Value}{base:Heap}{cl:Nat→Addr}
theorem scCalledI:CloScope caN ["told"] (defScope sCalledI):=⟨rfl,rfl,rfl,by decide +kernel,by decide +kernel,by decide +kernel,by decide +kernel,by decide +kernel⟩
theorem ps_raiseC{N:List Str}{qual:Str}{scope:Scope}{f:Addr}{cd:Value}{cv:List (Str × Addr)}{A:Around}{outer:List Env}{s:Shared}{H:Hp}{E:XK}{c:Str}{C:Addr}{e₀:Expr}{es:List Expr}{np cpos pos:Pos}{ta:TA}
  (hg:Gl (cxClo (CX1 P w) P w K mg base N qual scope f cd cv A outer s H E) c) (hm:mg c=some (.ref C)) (q:PySem.W.excIn K C bmVE "ValueError.__new__"=true) (ha:PA (cxClo (CX1 P w) P w K mg base N qual scope f cd cv A outer s H E) (e₀::es) ta)
  (hd:(c==("__debug__":Str))=false:=by decide) (he:starEach (e₀::es) (cxClo (CX1 P w) P w K mg base N qual scope f cd cv A outer s H E).env=(false,eval e₀ (cxClo (CX1 P w) P w K mg base N qual scope f cd cv A outer s H E).env)::starEach es (cxClo (CX1 P w) P w K mg base N qual scope f cd cv A outer s H E).env:=by rfl)
  (hpl:(backTo cpos (starEach es (cxClo (CX1 P w) P w K mg base N qual scope f cd cv A outer s H E).env)).any (·.1)=false:=by rfl) :
  PS (cxClo (CX1 P w) P w K mg base N qual scope f cd cv A outer s H E) (.Raise (some (.Call (.Name c np) (e₀::es) [] cpos)) none pos) (fun _ σ H=>ta σ H fun vs H1=>vs.length≤sizeLine∧E (.ref C) none H1) :=
 ps_raise (X:=cxClo (CX1 P w) P w K mg base N qual scope f cd cv A outer s H E) (W:=fun _ H1=>E (.ref C) none H1) rfl hg hm q ha (fun pins σ H s e h1 vs I hw hx=>Fly.made I rfl rfl rfl hx fun s'' g gd=>⟨e,.ref C,none,H,rfl,g,gd,hw⟩) hd he hpl
set_option maxHeartbeats 0 in
theorem ok_called{f c a1 td:Addr}{doc pm ctv:Value} (mN:mg "NoName"=some (.ref (cl 0))) (xN:PySem.W.excIn K (cl 0) bmVE "ValueError.__new__"=true) :
  FnOk P w K mg base (CX1 P w) 1 f (fdCalled c a1 doc pm ctv) caN (spClo f (fdCalled c a1 doc pm ctv) c callQ [a1] [.ref td] caN.length (fun vs H Q E=>spCalledI (cl 0) (.ref td::vs) H Q E)):=by
 refine fn_inner (k:=0) cxf1 scCalledI rfl (by simp) fun A outer s H vs Q E hr h _=>?_
 have hu:=hu_of hr
 refine⟨_,pss_cons (ps_if (pt_cmp (pc_dnotin hu (pe_tup (@pa_cons _ _ _ _ _ (pv 0) (@pa_cons _ _ _ _ _ (pv 1) pa_nil rfl) rfl)) (pv 2))) (pss_one (ps_raiseC rfl mN xN (@pa_cons _ _ _ _ _ (pe_fstr (pj_cons pe_str (pj_cons (pe_fr (pv 1)) (pj_cons pe_str (pj_cons (pe_fr (pv 0)) (pj_cons pe_str pj_nil))))) (by decide)) pa_nil rfl))) pss_nil)
  (pss_one (ps_ret (pe_dget hu (pv 2) (pe_tup (@pa_cons _ _ _ _ _ (pv 0) (@pa_cons _ _ _ _ _ (pv 1) pa_nil rfl) rfl)) (fun _ _=>rfl)))),?_⟩
 obtain⟨d,q,t,kvs,e,wq,wt,hd,hq⟩:=h
 cases e
 refine⟨_,rfl,_,rfl,(by show 2≤sizeLine;decide),fun p hp=>?_⟩
 have s1:=same_new hp (.tup [.str q,.str t])
 have g:=DGet.t (k:=[Sum.inr q,Sum.inr t]) (s1 _ _ hd) (upd_same (a:=p))
 cases e:valV kvs [Sum.inr q,Sum.inr t] with
 |none =>
  rw [e] at g
  have h1:=hq _ s1
  rw [e] at h1
  exact⟨_,rfl,td,none,rfl,g,_,rfl,iteT ⟨_,rfl,by decide +kernel,_,rfl,t,rfl,wt.1,Nat.le_trans wt.2 (by decide),fun z1 hz1=>⟨_,rfl,Nat.le_trans hz1 (by decide),_,rfl,by decide +kernel,_,rfl,q,rfl,wq.1,Nat.le_trans wq.2 (by decide),fun z2 hz2=>⟨_,rfl,Nat.le_trans hz2 (by decide),_,rfl,by decide +kernel,fun z hz=>⟨(by show 1≤sizeLine;decide),h1⟩⟩⟩⟩⟩
 |some u =>
  rw [e] at g
  refine⟨_,rfl,td,some u,rfl,g,_,rfl,iteF ?_⟩
  refine⟨_,rfl,_,rfl,_,rfl,(by show 2≤sizeLine;decide),fun p2 hp2=>?_⟩
  have s2:=s1.trans (same_new hp2 (.tup [.str q,.str t]))
  have g2:=DGet.t (k:=[Sum.inr q,Sum.inr t]) (s2 _ _ hd) (upd_same (a:=p2))
  rw [e] at g2
  have h1:=hq _ s2
  rw [e] at h1
  exact⟨td,u,rfl,g2,h1⟩
theorem b_called{c a1:Addr}{doc pm ctv:Value}:Binds K (fdCalled c a1 doc pm ctv) caN []:=.all fun us hl=>match us,hl with|[_,_],_=>rfl
end
end K62
namespace K62
open PySem L2 Kk
structure Fn where
 q:Str
 t:Str
 ps:Ps
 k:Kd
 e:Ex
def FnAt(K:PySem.W.Frag)(H:Hp)(x:V)(f:Fn):Prop:=∃(a a1 a2:Addr) (xs:List V) (xk xe:V),x=.ref a∧H a=some (.tup [.ref a1,.ref a2,xk,xe])∧H a1=some (.tup [.str f.q,.str f.t])∧smW f.q∧smW f.t∧SqT K H a2 xs∧PsAt K H xs f.ps∧f.ps.length≤100∧KAt K H xk f.k∧ExAt H xe f.e∧f.e.ht≤60
theorem FnAt.same{K:PySem.W.Frag}{H H':Hp}(s:Same H H'){x:V}{f:Fn}(h:FnAt K H x f):FnAt K H' x f:=by
 obtain⟨a,a1,a2,xs,xk,xe,e,h1,h2,h3,h4,h5,h6,h7,h8,h9,h10⟩:=h
 exact⟨a,a1,a2,xs,xk,xe,e,s _ _ h1,s _ _ h2,h3,h4,s.tup h5,Paired.mapP h6 fun _ _ z=>z.same s,h7,h8.same s,h9.same s,h10⟩
abbrev FnsAt(K:PySem.W.Frag)(H:Hp):List V→List Fn→Prop:=Paired (FnAt K H)
theorem paired_of{α β:Type}{R:α→β→Prop}:∀{xs:List α} {ys:List β},xs.length=ys.length→(∀(i:Nat) (x:α),xs[i]?=some x→∃y,ys[i]?=some y∧R x y)→Paired R xs ys
 |[],[],_,_=>.nil
 |[],_::_,h,_=>nomatch h
 |_::_,[],h,_=>nomatch h
 |x::xs,y::ys,h,hR=>by
  refine .cons ?_ (paired_of (Nat.succ.inj h) fun i z hz=>?_)
  ·obtain⟨y',e,r⟩:=hR 0 x rfl
   cases e
   exact r
  ·exact hR (i+1) z hz
theorem ToldAt.keep{K:PySem.W.Frag}{H H':Hp}{u:V}{us:List Kd}{k:Kd}(h:ToldAt K H u us k)(kp1:∀a xs,H a=some (HO.tup xs)→H' a=some (.tup xs))(kp:∀a xs,SqT K H a xs→SqT K H' a xs):ToldAt K H' u us k:=by
 obtain⟨p,tk,vs,x,e,h1,h2,h3,h4,h5⟩:=h
 exact⟨p,tk,vs,x,e,kp1 _ _ h1,kp1 _ _ h2,Paired.mapP h3 fun _ _ z=>⟨kd_keep kp z.1,z.2⟩,⟨kd_keep kp h4.1,h4.2⟩,h5⟩
def tabC:List Fn→Orc
 |[]=>fun _ _=>none
 |f::r=>fun q t=>if q=f.q∧t=f.t then some (f.ps.map (·.2),f.k) else tabC r q t
theorem tabC_snoc:∀{fs:List Fn} {f:Fn},tabC fs f.q f.t=none→∀q t,tabC (fs++[f]) q t=if q=f.q∧t=f.t then some (f.ps.map (·.2),f.k) else tabC fs q t
 |[],f,_,q,t=>rfl
 |g::r,f,h,q,t=>by
  have hh:(if f.q=g.q∧f.t=g.t then some (g.ps.map (·.2),g.k) else tabC r f.q f.t)=none:=h
  have h1:¬(f.q=g.q∧f.t=g.t):=fun e=>by rw [if_pos e] at hh;cases hh
  rw [if_neg h1] at hh
  show(if q=g.q∧t=g.t then some (g.ps.map (·.2),g.k) else tabC (r++[f]) q t)=if q=f.q∧t=f.t then some (f.ps.map (·.2),f.k) else if q=g.q∧t=g.t then some (g.ps.map (·.2),g.k) else tabC r q t
  rw [tabC_snoc hh]
  by_cases e:q=g.q∧t=g.t
  ·rw [if_pos e,if_neg (fun z=>h1 ⟨z.1.symm.trans e.1,z.2.symm.trans e.2⟩),if_pos e]
  ·rw [if_neg e,if_neg e]
def plainR:List Fn→List Fn→Option Nat
 |_,[]=>none
 |dn,f::r=>if (tabC dn f.q f.t).isSome=true then some 4 else match lookR 8000 (tabC dn) f.ps f.k f.e with
  |some c=>some c
  |none=>plainR (dn++[f]) r
def TabN(K:PySem.W.Frag)(H:Hp)(td:Addr)(fs:List Fn):Prop:=∃kvs,H td=some (.dT kvs)∧kvs.length=fs.length∧∀q t,(tabC fs q t=none∧valV kvs [Sum.inr q,Sum.inr t]=none)∨∃us k u,tabC fs q t=some (us,k)∧valV kvs [Sum.inr q,Sum.inr t]=some u∧ToldAt K H u us k
theorem TabN.same{K:PySem.W.Frag}{H H':Hp}(s:Same H H'){td:Addr}{fs:List Fn}(h:TabN K H td fs):TabN K H' td fs:=by
 obtain⟨kvs,h1,h2,h3⟩:=h
 refine⟨kvs,s _ _ h1,h2,fun q t=>?_⟩
 rcases h3 q t with h|⟨us,k,u,e1,e2,e3⟩
 ·exact .inl h
 ·exact .inr ⟨us,k,u,e1,e2,e3.same s⟩
def POut(K:PySem.W.Frag)(cl:Nat→Addr)(fs:List Fn)(r:Option Nat)(H:Hp)(Q:VK)(E:XK):Prop:=match r with
 |none=>∀H' d,Same H H'→TabN K H' d fs→Q (.ref d) H'
 |some c=>c < 5∧∀H',Same H H'→E (.ref (cl c)) none H'
def spPlain(K:PySem.W.Frag)(cl:Nat→Addr)(T:Addr):Sp:=fun vs H Q E=>∃(l:Addr) (xs:List V) (fs:List Fn),vs=[.ref l]∧H T=some (.tbl tabL)∧SqL K H l xs∧FnsAt K H xs fs∧fs.length≤200∧POut K cl fs (plainR [] fs) H Q E
section
variable{P:Program}{w:World}{K:PySem.W.Frag}{mg:Str→Option Value}{base:Heap}{cl:Nat→Addr}
theorem orc_of{fs:List Fn}{H1 H2:Hp}{g cc a1 td:Addr}{doc pm ctv:Value} (mN:mg "NoName"=some (.ref (cl 0))) (xN:PySem.W.excIn K (cl 0) bmVE "ValueError.__new__"=true)
  (hT:TabN K H1 td fs) (hg:H1 g=some (.fnc (fdCalled cc a1 doc pm ctv))) (hc:H1 cc=some (.cod callQ)) (s:Same H1 H2) (n:∀c∈[a1],H1 c=none) (fz:Froz H2 [a1] [.ref td]):OrcOk P w K mg base cl 1 g H2 (tabC fs):=fun q t H7 w1 w2 s7 Q E hQ=>by
 have fz7:=fz.same s7
 have s8:Same H1 (dropC [a1] H7):=(s.trans s7).dropC n
 obtain⟨kvs,hkv,_,htb⟩:=hT.same s8
 refine⟨_,caN,_,s7 _ _ (s _ _ hg),ok_called (td:=td) mN xN,b_called,rfl,s7 _ _ (s _ _ hg),s7 _ _ (s _ _ hc),fz7,td,q,t,kvs,rfl,w1,w2,hkv,fun H8 s9=>?_⟩
 rcases htb q t with ⟨e1,e2⟩|⟨us,k,u,e1,e2,e3⟩
 ·rw [e2]
  rcases hQ with ⟨_,hE⟩|⟨_,_,z,_⟩
  ·exact fun nC=>hE _ (same_add s9)
  ·rw [e1] at z;cases z
 ·rw [e2]
  rcases hQ with ⟨z,_⟩|⟨us',k',z,hQ⟩
  ·rw [e1] at z;cases z
  ·rw [e1] at z
   obtain⟨rfl,rfl⟩:us=us'∧k=k':=⟨congrArg Prod.fst (Option.some.inj z),congrArg Prod.snd (Option.some.inj z)⟩
   exact fun nC=>hQ _ _ (same_add s9) ((e3.same s9).same (add_same nC))
abbrev plN:List Str:=["program","told","called","name","params","kind","expression"]
theorem scPlain:FnScope plN ["program"] (defScope sPlain):=⟨rfl,rfl,rfl,by decide +kernel,rfl,by decide +kernel,by decide +kernel⟩
set_option maxHeartbeats 0 in
theorem ok_plain{f fb c T:Addr}{fd fdb:FuncData}{tk:Tok} (F:FunT K "plain_look" "plain_look" sPlain f fd c T) (X:K.In base) (m4:mg "Twice"=some (.ref (cl 4))) (x4:PySem.W.excIn K (cl 4) bmVE "ValueError.__new__"=true)
  (mN:mg "NoName"=some (.ref (cl 0))) (xN:PySem.W.excIn K (cl 0) bmVE "ValueError.__new__"=true) (mMW:mg "MOST_WORDS"=some (.int 8000 tk)) (mt:mg "tuple"=none)
  (GB:FnOk P w K mg base (CX1 P w) (1+3+60+1) fb fdb ["params","kind","expression","called","most"] (spLookB P w K mg base cl 1 60)) (bB:Binds K fdb ["params","kind","expression","called","most"] []) (kB:PySem.W.keepIn K (.ref fb)=true) (mB:mg "look_at_body"=some (.ref fb)) :
  FnOk P w K mg base (CX1 P w) 66 f fd ["program"] (spPlain K cl T):=by
 have C0:=F.code X
 refine F.okG (k:=65) scPlain (fun vs H Q E h=>?_) (fun A outer s H vs Q E hrB h=>?_)
 ·obtain⟨_,_,_,rfl,_⟩:=h
  rfl
 obtain⟨l,xs,fs,rfl,hT,hl,hfs,h200,hq⟩:=h
 have hu:=hu_of hrB
 have hr1:Room 1 _:=hrB.mono (by decide)
 refine⟨_,@pss_cons _ _ _ _ _ (ps_set (i:=1) scPlain.nd rfl (Or.inr rfl) pe_dnewT) (@pss_cons _ _ _ _ _ (ps_def (ident:="called") (P:=T) (q:=callQ) (i:=2) scPlain.nd rfl (Or.inl rfl) rfl C0 rfl) (@pss_cons _ _ _ _ _ (ps_for PassesOwn.leaving rfl (pi_list (pv 0)) (pg_tup rfl (pgs_cons (pg_name (i:=3) scPlain.nd rfl (Or.inl rfl)) (pgs_cons (pg_name (i:=4) scPlain.nd rfl (Or.inl rfl)) (pgs_cons (pg_name (i:=5) scPlain.nd rfl (Or.inl rfl)) (pgs_cons (pg_name (i:=6) scPlain.nd rfl (Or.inl rfl)) pgs_nil))))) (@pss_cons _ _ _ _ _ (ps_if (pt_cmp (pc_din hu (pv 3) (pv 1))) (@pss_one _ _ _ (ps_raise1 rfl m4 x4 (@pa_cons _ _ _ _ _ (pe_fstr (pj_cons pe_str (pj_cons (pe_frD hr1 (pv 3)) (pj_cons pe_str pj_nil))) (by decide)) pa_nil rfl))) pss_nil) (@pss_cons _ _ _ _ _ (ps_expr (pe_callF (l:=[(1,"told",s.heap.objs.size+1)]) cxf1 GB hrB rfl mB kB bB .nil pass1 (.cons rfl rfl rfl rfl .nil) (show(["told"]:List Str).Nodup from by decide +kernel) (@pa_cons _ _ _ _ _ (pv 4) (@pa_cons _ _ _ _ _ (pv 5) (@pa_cons _ _ _ _ _ (pv 6) (@pa_cons _ _ _ _ _ (pv 2) (@pa_cons _ _ _ _ _ (pe_glob rfl mMW (v:=.int 8000) ⟨_,rfl⟩) pa_nil rfl) rfl) rfl) rfl) rfl))) (@pss_one _ _ _ (ps_dput hu (pv 1) (pv 3) (@pe_tup _ _ _ _ _ (@pa_cons _ _ _ _ _ (pe_callTy call_tuple_of rfl mt bootTuple (@pa_cons _ _ _ _ _ (pe_comp (own:=["word","its"]) (caps:=[]) (κ:=[]) (g:=gTup K 2 (gCons (gName 0) (gCons (gName 1) gNil))) rfl ⟨rfl,by decide +kernel,by decide +kernel,rfl,rfl,(fun y hy=>nomatch hy),(fun y hy=>nomatch hy)⟩ rfl (pi_tup (pv 4)) (fun _ _ _ _=>(pg_tup rfl (pgs_cons (pg_name (i:=0) (show(["word","its"]:List Str).Nodup from by decide +kernel) rfl (Or.inl rfl)) (pgs_cons (pg_name (i:=1) (show(["word","its"]:List Str).Nodup from by decide +kernel) rfl (Or.inl rfl)) pgs_nil)))) (fun _ _ _ _=>(pv 1))) pa_nil rfl)) (@pa_cons _ _ _ _ _ (pv 5) pa_nil rfl) rfl)) rfl))))) (@pss_one _ _ _ (@ps_ret _ _ _ _ (pv 1))))),?_⟩
 refine fun td htd=>?_
 have s1:=same_new htd (.dT [])
 refine⟨⟨_,s1 _ _ hT,rfl⟩,fun g cc ctv doc hg hgc hcc=>?_⟩
 have s2:=s1.trans (same_lam (fd:=fdCalled cc (s.heap.objs.size+1) doc ((mg "__name__").getD .none) ctv) hg hgc hcc)
 have hgt:g≠td:=fun e=>by rw [e,upd_same] at hg;cases hg
 have hct:cc≠td:=fun e=>by
  rw [e,upd_same] at hcc
  rcases hcc with z|z<;>cases z
 have hxl:=hfs.length
 refine⟨_,rfl,l,rfl,⟨xs,s2.seq hl⟩,for_list (xs:=xs) (fun i σ H3=>∃v3 v4 v5 v6,σ=[some (.ref l),some (.ref td),some (.ref g),v3,v4,v5,v6]∧Same H H3∧TabN K H3 td (fs.take i)∧H3 g=some (.fnc (fdCalled cc (s.heap.objs.size+1) doc ((mg "__name__").getD .none) ctv))∧H3 cc=some (.cod callQ)∧plainR (fs.take i) (fs.drop i)=plainR [] fs) ?_ ?_ ?_ ?_⟩
 ·refine⟨none,none,none,none,rfl,s2,⟨[],?_,rfl,fun q t=>.inl ⟨rfl,rfl⟩⟩,upd_same,by rw [upd_ne (Ne.symm hgc),upd_same],rfl⟩
  rw [upd_ne (Ne.symm hgt),upd_ne (Ne.symm hct),upd_same]
 ·rintro i σ H3 _ ⟨_,_,_,_,_,s3,_⟩
  exact s3.seq hl
 ·rintro i x σ H3 hx ⟨v3,v4,v5,v6,rfl,s3,hT3,hg3,hc3,hR⟩
  obtain⟨f',hf',hfa⟩:=pair_get hfs hx
  have hi9:i < fs.length:=(List.getElem?_eq_some_iff.mp hf').1
  obtain⟨a,a1,a2,us,xk,xe,rfl,ha,ha1,wq,wt,ha2,hus,hu9,hk,he,hht⟩:=hfa.same s3
  have ed:fs.drop i=f'::fs.drop (i+1):=by
   rw [List.drop_eq_getElem_cons hi9]
   congr 1
   exact(List.getElem?_eq_some_iff.mp hf').2
  have hR':=hR
  rw [ed] at hR'
  obtain⟨kvs,hkv,hkl,htb⟩:=id hT3
  refine⟨a,_,rfl,SqT.of ha,rfl,_,_,rfl,_,_,rfl,_,_,rfl,_,_,rfl,rfl,?_⟩
  refine⟨_,rfl,_,rfl,td,_,rfl,DGet.t (k:=[Sum.inr f'.q,Sum.inr f'.t]) hkv ha1,_,rfl,ite2 (fun c=>?_) (fun c=>?_)⟩
  ·have hn4:plainR [] fs=some 4:=by
    rw [←hR']
    have:(tabC (fs.take i) f'.q f'.t).isSome=true:=by
     rcases htb f'.q f'.t with ⟨_,e2⟩|⟨us,k,u,e1,_,_⟩
     ·rw [e2] at c;cases c
     ·rw [e1];rfl
    unfold plainR
    rw [if_pos this]
   rw [hn4] at hq
   have lq:=wq.2
   have lt:=wt.2
   exact⟨_,rfl,by decide +kernel,_,rfl,.tuple [.str f'.q,.str f'.t],_,.tup (SqT.of ha1) (.cons (.str _) (.cons (.str _) .nil)),shw_tup (m:=59) (shws_cons (shw_str wq.1 _) (shws_cons (shw_str wt.1 _) (shws_nil _))),by omega,fun z1 hz1=>⟨_,rfl,hz1,_,rfl,by decide +kernel,fun z hz=>⟨(by show 1≤sizeLine;decide),hq.2 _ s3⟩⟩⟩
  ·have hno:tabC (fs.take i) f'.q f'.t=none:=by
    rcases htb f'.q f'.t with ⟨e1,_⟩|⟨us,k,u,_,e2,_⟩
    ·exact e1
    ·rw [e2] at c;exact absurd rfl c
   have hR2:(match lookR 8000 (tabC (fs.take i)) f'.ps f'.k f'.e with|some c=>some c|none=>plainR (fs.take i++[f']) (fs.drop (i+1)))=plainR [] fs:=by
    rw [←hR',plainR,hno]
    rfl
   refine⟨_,rfl,_,rfl,_,rfl,_,rfl,[.ref td],.cons rfl .nil,fun H5 e5 s6 n6 fz=>?_⟩
   refine⟨a2,us,xk,xe,g,8000,f'.ps,f'.k,f'.e,_,tabC (fs.take i),rfl,s6.tup ha2,Paired.mapP hus fun _ _ z=>z.same s6,hu9,hk.same s6,he.same s6,hht,by decide,by decide,by decide,s6 _ _ hg3,orc_of mN xN hT3 hg3 hc3 s6 n6 fz,?_⟩
   have sD:∀{H':Hp},Same H5 H'→Same H3 (dropC [s.heap.objs.size+1] H'):=fun s'=>(s6.trans s').dropC n6
   cases hlk:lookR 8000 (tabC (fs.take i)) f'.ps f'.k f'.e with
   |some c9 =>
    rw [hlk] at hR2
    have hn9:plainR [] fs=some c9:=hR2.symm
    rw [hn9] at hq
    exact⟨hq.1,fun H' s'=>hq.2 _ (s3.trans (sD s'))⟩
   |none =>
    rw [hlk] at hR2
    intro H' s7
    have s37:=sD s7
    have hul:=hus.length
    refine⟨_,rfl,a2,rfl,⟨us,s37.tup ha2⟩,comp_eachT (xs:=us) (fun j Hz v=>∃k,(f'.ps.map (·.2))[j]?=some k∧KAt K Hz v k) (fun _ _ _ _ s' ⟨k,h1,h2⟩=>⟨k,h1,h2.same s'⟩) (s37.tup ha2) (by omega) (fun j u H7 N B hu7 s8 hN=>?_) (fun ys H7 D s8 hyl hy hD=>?_)⟩
    ·obtain⟨⟨sw,kw⟩,hp',b,u',rfl,hb,hsw,hku⟩:=pair_get hus hu7
     refine⟨b,_,rfl,SqT.of (s8 _ _ (s37 _ _ hb)),rfl,_,_,rfl,_,_,rfl,rfl,rfl,iteT (B:=B H7) ⟨_,rfl,hN _ _ (Same.refl _) ⟨kw,?_,hku.same (s37.trans s8)⟩⟩⟩
     rw [List.getElem?_map,hp']
     rfl
    ·have s38:=s37.trans s8
     have s9:=s38.trans (same_new hD (.lst ys))
     have hks:KsAt K H7 ys (f'.ps.map (·.2)):=by
      refine paired_of (by rw [hyl,List.length_map];exact hul) hy
     refine⟨D,ys,rfl,.inl ⟨SqL.of upd_same,fun t1 ht1=>?_⟩⟩
     have s10:=s9.trans (same_new ht1 (.tup ys))
     refine⟨_,rfl,(by show 2≤sizeLine;decide),fun t2 ht2=>?_⟩
     have s11:=s10.trans (same_new ht2 (.tup [.ref t1,xk]))
     have hkv':=s11 _ _ hkv
     have hl3:kvs.length=i:=by rw [hkl,List.length_take];omega
     refine⟨_,rfl,_,rfl,td,_,rfl,DPut.t (k:=[Sum.inr f'.q,Sum.inr f'.t]) hkv' (s11 _ _ ha1) (small1000 (by omega)),?_⟩
     have hno2:valV kvs [Sum.inr f'.q,Sum.inr f'.t]=none:=by
      rcases htb f'.q f'.t with ⟨_,e2⟩|⟨us,k,u,e1,_,_⟩
      ·exact e2
      ·rw [hno] at e1;cases e1
     have s311:Same H3 _:=s11
     have kp1:∀a xs,_=some (HO.tup xs)→upd _ td (.dT (putK kvs [Sum.inr f'.q,Sum.inr f'.t] (.ref t2))) a=some (.tup xs):=fun a xs t=>by
      rw [upd_ne (ne_of t hkv' (by intro z;cases z))];exact t
     have kp:∀a xs,SqT K _ a xs→SqT K (upd _ td (.dT (putK kvs [Sum.inr f'.q,Sum.inr f'.t] (.ref t2)))) a xs:=fun a xs t=>by
      rcases t with (t|⟨o,t⟩)|t
      ·exact .inl (.inl (kp1 _ _ t))
      ·exact .inl (.inr ⟨o,by rw [upd_ne (ne_of t hkv' (by intro z;cases z))];exact t⟩)
      ·exact .inr t
     have e1:fs.take (i+1)=fs.take i++[f']:=(take_snoc hf').symm
     refine⟨_,_,_,_,rfl,sput (s3.trans s11) htd,⟨_,upd_same,?_,fun q t=>?_⟩,by rw [upd_ne hgt];exact s11 _ _ hg3,by rw [upd_ne hct];exact s11 _ _ hc3,?_⟩
     ·rw [putK_new _ hno2,e1,List.length_append,List.length_append,hkl]
      rfl
     ·rw [e1,tabC_snoc hno,valV_put]
      by_cases ez:q=f'.q∧t=f'.t
      ·obtain⟨rfl,rfl⟩:=ez
       rw [if_pos ⟨rfl,rfl⟩,if_pos rfl]
       refine .inr ⟨_,_,_,rfl,rfl,t2,t1,ys,xk,rfl,kp1 _ _ upd_same,kp1 _ _ ((same_new ht2 _) _ _ upd_same),?_,?_,by rw [List.length_map];omega⟩
       ·exact Paired.mapP hks fun _ _ z=>⟨kd_keep kp (z.same (((same_new hD _).trans (same_new ht1 _)).trans (same_new ht2 _))).1,z.2⟩
       ·exact⟨kd_keep kp (hk.same s11).1,hk.2⟩
      ·rw [if_neg ez,if_neg (fun h=>ez (by
        have h1:=(List.cons.inj h)
        exact⟨Sum.inr.inj h1.1,Sum.inr.inj (List.cons.inj h1.2).1⟩))]
       rcases htb q t with h|⟨us,k,u,e1,e2,e3⟩
       ·exact .inl h
       ·exact .inr ⟨us,k,u,e1,e2,(e3.same s11).keep kp1 kp⟩
     ·rw [e1]
      exact hR2
 ·rintro σ H3 ⟨v3,v4,v5,v6,rfl,s3,hT3,hg3,hc3,hR⟩
  rw [hxl,List.take_length,List.drop_length] at hR
  rw [hxl,List.take_length] at hT3
  rw [←hR] at hq
  exact⟨_,rfl,hq _ _ s3 hT3⟩
end
end K62
namespace K62
open PySem L2 Kk
theorem kin_var{mo:Int}{C:Orc}{ρ:Str→Option Kd}{s:Str}{k:Kd}(h:ρ s=some k):kin mo C ρ (.var s)=.ok k:=by rw [kin,h]
theorem kins_cons{mo:Int}{C:Orc}{ρ:Str→Option Kd}{e:Ex}{es:List Ex}{k:Kd}{ks:List Kd}(h:kin mo C ρ e=.ok k)(h2:kins mo C ρ es=.ok ks):kins mo C ρ (e::es)=.ok (k::ks):=by rw [kins,h,h2]
theorem kins_nil{mo:Int}{C:Orc}{ρ:Str→Option Kd}:kins mo C ρ []=.ok []:=by rw [kins]
theorem kin_nd{mo:Int}{C:Orc}{ρ:Str→Option Kd}{f:Fm}{es:List Ex}{ks:List Kd}(h:kins mo C ρ es=.ok ks):kin mo C ρ (.nd f es)=fmK mo f ks:=by rw [kin,h]
theorem kin_call{mo:Int}{C:Orc}{ρ:Str→Option Kd}{q t:Str}{es:List Ex}{ks:List Kd}(h:kins mo C ρ es=.ok ks):kin mo C ρ (.call q t es)=ansK (C q t) ks:=by rw [kin,h]
theorem wd9(c i:Int):(wd c i).length≤9000:=Nat.le_trans (wd_sm c i).2 (by decide)
theorem not_lit{f:Fm}{xs:List V}(h:∀v n,f≠.lit v n):(∃v n,f=.lit v n)→xs=[]:=fun⟨v,n,e⟩=>absurd e (h v n)
def wl(c:Int):List V:=(List.range 26).map fun(k:Nat)=>V.str (wd c (k:Int))
theorem wl_at(c:Int){r:Int}(h0:0≤r)(h1:r < 26):atI (wl c) r=some (.str (wd c r)):=by
 have e:r=((r.toNat:Nat):Int):=by omega
 have q:atI (wl c) ((r.toNat:Nat):Int)=some (.str (wd c ((r.toNat:Nat):Int))):=atI_nat (by
  unfold wl
  rw [List.getElem?_map,List.getElem?_range (by omega)]
  rfl)
 rw [←e] at q
 exact q
def pk(n:Int)(r:Int):Kd:=if r=0 then .num n else if r=1 then .num 2 else if r=2 then .pair (.num n) (.num 2) else .pair (.num 2) (.pair (.num n) (.num n))
def PK:Kd→Prop
 |.num n=>0 < n
 |.name _ _=>False
 |.pair a b=>PK a∧PK b
theorem pk_ok{n r:Int}(hn:0 < n):PK (pk n r)∧Kd.depth (pk n r)≤3∧(pk n r).words≤5:=by
 unfold pk
 split
 ·exact⟨hn,by show 1≤3;decide,by show 1≤5;decide⟩
 ·split
  ·exact⟨(by show(0:Int) < 2;decide),by show 1≤3;decide,by show 1≤5;decide⟩
  ·split
   ·exact⟨⟨hn,(by show(0:Int) < 2;decide)⟩,by show 2≤3;decide,by show 3≤5;decide⟩
   ·exact⟨⟨(by show(0:Int) < 2;decide),hn,hn⟩,by show 3≤3;decide,by show 5≤5;decide⟩
theorem pair_at{K:PySem.W.Frag}{H:Hp}{p:Addr}{x y:V}{a b:Kd} (h:H p=some (.tup [.str "pair",x,y])) (ha:KAt K H x a) (hb:KAt K H y b) (hd:Kd.depth (Kd.pair a b)≤50∧(Kd.pair a b).words≤9000):KAt K H (.ref p) (.pair a b):=⟨.pair (SqT.of h) ha.1 hb.1,⟨ha.2.1,hb.2.1⟩,hd⟩
structure PoolAt(K:PySem.W.Frag)(H:Hp)(l:Addr)(n:Int):Prop where
 ex:∃x0 x1 x2 x3,H l=some (.lst [x0,x1,x2,x3])∧KAt K H x0 (pk n 0)∧KAt K H x1 (pk n 1)∧KAt K H x2 (pk n 2)∧KAt K H x3 (pk n 3)
theorem PoolAt.same{K:PySem.W.Frag}{H H':Hp}(s:Same H H'){l:Addr}{n:Int}(h:PoolAt K H l n):PoolAt K H' l n:=by
 obtain⟨x0,x1,x2,x3,h,a,b,c,d⟩:=h.ex
 exact⟨x0,x1,x2,x3,s _ _ h,a.same s,b.same s,c.same s,d.same s⟩
theorem PoolAt.get{K:PySem.W.Frag}{H:Hp}{l:Addr}{n:Int}(h:PoolAt K H l n){r:Int}(r0:0≤r)(r1:r < 4):∃xs x,H l=some (.lst xs)∧atI xs r=some x∧KAt K H x (pk n r):=by
 obtain⟨x0,x1,x2,x3,h,a,b,c,d⟩:=h.ex
 have:r=0∨r=1∨r=2∨r=3:=by omega
 rcases this with rfl|rfl|rfl|rfl
 ·exact⟨_,_,h,rfl,a⟩
 ·exact⟨_,_,h,rfl,b⟩
 ·exact⟨_,_,h,rfl,c⟩
 ·exact⟨_,_,h,rfl,d⟩
def startE:Kd→Int→Ex
 |.num n,c=>.nd (.lit (c%n) n) []
 |.pair a b,c=>.nd .two [startE a c,startE b (c / 7)]
 |.name _ _,_=>.var ""
theorem start_ht:∀(k:Kd) (c:Int),(startE k c).ht≤Kd.depth k+2
 |.num _,_=>by simp [startE,Ex.ht,hts,Kd.depth]
 |.name _ _,_=>by simp [startE,Ex.ht,Kd.depth]
 |.pair a b,c=>by
  have h1:=start_ht a c
  have h2:=start_ht b (c / 7)
  simp only [startE,Ex.ht,hts,Kd.depth,List.length_cons,List.length_nil]
  omega
theorem kin_start{mo:Int}{C:Orc}{ρ:Str→Option Kd}:∀(k:Kd) (c:Int),PK k→(k.words:Int)≤mo→Kd.depth k≤50→k.words≤9000→kin mo C ρ (startE k c)=.ok k
 |.num n,c,_,_,_,_=>by
  show kin mo C ρ (.nd (.lit (c%n) n) [])=_
  rw [kin_nd kins_nil]
  rfl
 |.pair a b,c,hp,hw,hd,h9=>by
  have e:(Kd.pair a b).words=1+a.words+b.words:=rfl
  have hl:=sm_l ⟨hd,h9⟩
  have hr:=sm_r ⟨hd,h9⟩
  have h1:=kin_start (mo:=mo) (C:=C) (ρ:=ρ) a c hp.1 (by omega) hl.1 hl.2
  have h2:=kin_start (mo:=mo) (C:=C) (ρ:=ρ) b (c / 7) hp.2 (by omega) hr.1 hr.2
  show kin mo C ρ (.nd .two [startE a c,startE b (c / 7)])=_
  rw [kin_nd (kins_cons h1 (kins_cons h2 kins_nil))]
  show(if ((Kd.pair a b).words:Int) > mo then R.no 3 else if Kd.depth (Kd.pair a b)≤50∧(Kd.pair a b).words≤9000 then R.ok (Kd.pair a b) else R.no 9)=_
  rw [if_neg (by omega),if_pos ⟨hd,h9⟩]
def spPool(K:PySem.W.Frag):Sp:=fun vs H Q _=>∃n:Int,vs=[.int n]∧0 < n∧∀H' l,Same H H'→PoolAt K H' l n→Q (.ref l) H'
def spName:Sp:=fun vs H Q _=>∃(lw:Addr) (c i:Int),vs=[.ref lw,.int i]∧H lw=some (.lst (wl c))∧0≤i∧i < 60∧∀H' p,Same H H'→H' p=some (.tup [.str (wd c (i%3)),.str (wd c (3+i / 3))])→Q (.ref p) H'
def spStart(K:PySem.W.Frag)(n:Nat):Sp:=fun vs H Q _=>∃(x:V) (k:Kd) (c:Int),vs=[x,.int c]∧KdAt K H x k∧PK k∧Kd.depth k≤n∧∀H' y,Same H H'→ExAt H' y (startE k c)→Q y H'
section
variable{P:Program}{w:World}{K:PySem.W.Frag}{mg:Str→Option Value}{base:Heap}
theorem scPool:FnScope ["_law_size_here","_law_number","_law_one"] ["_law_size_here"] (defScope sPool):=⟨rfl,rfl,rfl,by decide +kernel,rfl,by decide +kernel,by decide +kernel⟩
theorem ok_pool{f:Addr}{fd:FuncData} (F:Fun K "_law_pool" "_law_pool" sPool f fd):FnOk P w K mg base CX0 1 f fd ["_law_size_here"] (spPool K):=by
 refine F.ok scPool (fun vs H Q E h=>?_) (fun cdv A outer s H vs Q E hr h=>?_)
 ·obtain⟨n,rfl,_⟩:=h
  rfl
 obtain⟨n,rfl,hn,q⟩:=h
 refine⟨_,@pss_cons _ _ _ _ _ (ps_set (i:=1) scPool.nd rfl (Or.inl rfl) (@pe_tup _ _ _ _ _ (@pa_cons _ _ _ _ _ pe_str (@pa_cons _ _ _ _ _ (pv 0) pa_nil rfl) rfl))) (@pss_cons _ _ _ _ _ (ps_set (i:=2) scPool.nd rfl (Or.inl rfl) (@pe_tup _ _ _ _ _ (@pa_cons _ _ _ _ _ pe_str (@pa_cons _ _ _ _ _ (pv 1) (@pa_cons _ _ _ _ _ (@pe_tup _ _ _ _ _ (@pa_cons _ _ _ _ _ pe_str (@pa_cons _ _ _ _ _ pe_int pa_nil rfl) rfl)) pa_nil rfl) rfl) rfl))) (@pss_one _ _ _ (@ps_ret _ _ _ _ (pe_lst (@pa_cons _ _ _ _ _ (pv 1) (@pa_cons _ _ _ _ _ (@pe_tup _ _ _ _ _ (@pa_cons _ _ _ _ _ pe_str (@pa_cons _ _ _ _ _ pe_int pa_nil rfl) rfl)) (@pa_cons _ _ _ _ _ (pv 2) (@pa_cons _ _ _ _ _ (@pe_tup _ _ _ _ _ (@pa_cons _ _ _ _ _ pe_str (@pa_cons _ _ _ _ _ (@pe_tup _ _ _ _ _ (@pa_cons _ _ _ _ _ pe_str (@pa_cons _ _ _ _ _ pe_int pa_nil rfl) rfl)) (@pa_cons _ _ _ _ _ (@pe_tup _ _ _ _ _ (@pa_cons _ _ _ _ _ pe_str (@pa_cons _ _ _ _ _ (pv 1) (@pa_cons _ _ _ _ _ (pv 1) pa_nil rfl) rfl) rfl)) pa_nil rfl) rfl) rfl)) pa_nil rfl) rfl) rfl) rfl))))),?_⟩
 refine⟨_,rfl,(by show 2≤sizeLine;decide),fun p1 h1=>?_⟩
 have s1:=same_new h1 (.tup [.str "num",.int n])
 refine⟨_,rfl,(by show 2≤sizeLine;decide),fun p2 h2=>?_⟩
 have s2:=same_new h2 (.tup [.str "num",.int 2])
 refine⟨(by show 3≤sizeLine;decide),fun p3 h3=>?_⟩
 have s3:=same_new h3 (.tup [.str "pair",.ref p1,.ref p2])
 refine⟨_,rfl,(by show 2≤sizeLine;decide),fun p4 h4=>?_⟩
 have s4:=same_new h4 (.tup [.str "num",.int 2])
 refine⟨_,rfl,(by show 2≤sizeLine;decide),fun p5 h5=>?_⟩
 have s5:=same_new h5 (.tup [.str "num",.int 2])
 refine⟨_,rfl,_,rfl,(by show 3≤sizeLine;decide),fun p6 h6=>?_⟩
 have s6:=same_new h6 (.tup [.str "pair",.ref p1,.ref p1])
 refine⟨(by show 3≤sizeLine;decide),fun p7 h7=>?_⟩
 have s7:=same_new h7 (.tup [.str "pair",.ref p5,.ref p6])
 refine⟨(by show 4≤sizeLine;decide),fun l hl=>?_⟩
 have s8:=same_new hl (.lst [.ref p1,.ref p4,.ref p3,.ref p7])
 have t78:=s7.trans s8
 have t68:=s6.trans t78
 have t58:=s5.trans t68
 have t48:=s4.trans t58
 have t38:=s3.trans t48
 have t28:=s2.trans t38
 have t18:=s1.trans t28
 have k1:KAt K _ (.ref p1) (.num n):=num_at (t28 _ _ upd_same)
 have k2:KAt K _ (.ref p2) (.num 2):=num_at (t38 _ _ upd_same)
 have k4:KAt K _ (.ref p4) (.num 2):=num_at (t58 _ _ upd_same)
 have k5:KAt K _ (.ref p5) (.num 2):=num_at (t68 _ _ upd_same)
 have k3:KAt K _ (.ref p3) (.pair (.num n) (.num 2)):=pair_at (t48 _ _ upd_same) k1 k2 ⟨by show 2≤50;decide,by show 3≤9000;decide⟩
 have k6:KAt K _ (.ref p6) (.pair (.num n) (.num n)):=pair_at (t78 _ _ upd_same) k1 k1 ⟨by show 2≤50;decide,by show 3≤9000;decide⟩
 have k7:KAt K _ (.ref p7) (.pair (.num 2) (.pair (.num n) (.num n))):=pair_at (s8 _ _ upd_same) k5 k6 ⟨by show 3≤50;decide,by show 5≤9000;decide⟩
 exact q _ l t18 ⟨_,_,_,_,upd_same,k1,k4,k3,k7⟩
theorem scName:FnScope ["_law_words","_law_i"] ["_law_words","_law_i"] (defScope sName):=⟨rfl,rfl,rfl,by decide +kernel,rfl,by decide +kernel,by decide +kernel⟩
theorem ok_name{f:Addr}{fd:FuncData} (F:Fun K "_law_name" "_law_name" sName f fd):FnOk P w K mg base CX0 1 f fd ["_law_words","_law_i"] spName:=by
 refine F.ok scName (fun vs H Q E h=>?_) (fun cdv A outer s H vs Q E hr h=>?_)
 ·obtain⟨_,_,_,rfl,_⟩:=h
  rfl
 obtain⟨lw,c,i,rfl,hw,i0,i1,q⟩:=h
 refine⟨_,@pss_one _ _ _ (@ps_ret _ _ _ _ (@pe_tup _ _ _ _ _ (@pa_cons _ _ _ _ _ (pe_ix ix_list (pv 0) (pe_op op_mod (pv 1) pe_int) (fun _ _=>rfl)) (@pa_cons _ _ _ _ _ (pe_ix ix_list (pv 0) (pe_op op_add pe_int (pe_op op_fdiv (pv 1) pe_int)) (fun _ _=>rfl)) pa_nil rfl) rfl))),?_⟩
 have a0:=Int.emod_nonneg i (show(3:Int)≠0 by decide)
 have a1:=Int.emod_lt_of_pos i (show(0:Int) < 3 by decide)
 refine⟨_,rfl,_,rfl,_,_,rfl,rfl,(by show(0:Int) < 3;decide),lw,_,_,_,rfl,rfl,SqL.of hw,wl_at c a0 (by omega),?_⟩
 refine⟨_,rfl,_,rfl,_,_,rfl,rfl,⟨by decide,by decide⟩,_,_,rfl,rfl,lw,_,_,_,rfl,rfl,SqL.of hw,wl_at c (by omega) (by omega),(by show 2≤sizeLine;decide),fun p hp=>?_⟩
 exact q _ p (same_new hp _) upd_same
theorem scStart:FnScope ["_law_kind","_law_cell_here"] ["_law_kind","_law_cell_here"] (defScope sStart):=⟨rfl,rfl,rfl,by decide +kernel,rfl,by decide +kernel,by decide +kernel⟩
theorem ok_start{f:Addr}{fd:FuncData} (F:Fun K "_law_start" "_law_start" sStart f fd) (bT:Binds K fd ["_law_kind","_law_cell_here"] []) (kT:PySem.W.keepIn K (.ref f)=true) (mT:mg "_law_start"=some (.ref f)) :
  ∀n,FnOk P w K mg base CX0 n f fd ["_law_kind","_law_cell_here"] (spStart K n)
 |0=>⟨fun vs H Q E h=>by obtain⟨x,k,c,rfl,_⟩:=h;rfl,fun A outer s H args us vs Q E _ _ _ _ h=>by
   obtain⟨x,k,c,_,_,_,h,_⟩:=h
   cases k<;>simp [Kd.depth] at h⟩
 |n+1=>by
  have GT:=ok_start F bT kT mT n
  refine F.ok scStart (fun vs H Q E h=>?_) (fun cdv A outer s H vs Q E hrT h=>?_)
  ·obtain⟨x,k,c,rfl,_⟩:=h
   rfl
  obtain⟨x,k,c,rfl,hx,hp,hd,q⟩:=h
  refine⟨_,@pss_cons _ _ _ _ _ (ps_if (pt_cmpR op_eq (pe_ix ix_tup (pv 0) pe_int (fun _ _=>rfl)) pe_str (nomark _)) (@pss_one _ _ _ (@ps_ret _ _ _ _ (@pe_tup _ _ _ _ _ (@pa_cons _ _ _ _ _ pe_str (@pa_cons _ _ _ _ _ (pe_op op_mod (pv 1) (pe_ix ix_tup (pv 0) pe_int (fun _ _=>rfl))) (@pa_cons _ _ _ _ _ (pe_ix ix_tup (pv 0) pe_int (fun _ _=>rfl)) pa_nil rfl) rfl) rfl)))) pss_nil) (@pss_one _ _ _ (@ps_ret _ _ _ _ (@pe_tup _ _ _ _ _ (@pa_cons _ _ _ _ _ pe_str (@pa_cons _ _ _ _ _ (pe_call GT hrT rfl mT kT bT .nil pass0 (@pa_cons _ _ _ _ _ (pe_ix ix_tup (pv 0) pe_int (fun _ _=>rfl)) (@pa_cons _ _ _ _ _ (pv 1) pa_nil rfl) rfl)) (@pa_cons _ _ _ _ _ (pe_call GT hrT rfl mT kT bT .nil pass0 (@pa_cons _ _ _ _ _ (pe_ix ix_tup (pv 0) pe_int (fun _ _=>rfl)) (@pa_cons _ _ _ _ _ (pe_op op_fdiv (pv 1) pe_int) pa_nil rfl) rfl)) pa_nil rfl) rfl) rfl)))),?_⟩
  cases hx with
  |@name=>exact hp.elim
  |@num p m t =>
   refine⟨_,rfl,_,_,_,_,rfl,rfl,t,(show atI [V.str "num",.int m] 0=some (.str "num") from rfl),rfl,_,rfl,iteT ?_⟩
   exact⟨_,rfl,_,rfl,_,_,_,_,rfl,rfl,t,at1,_,_,rfl,rfl,hp,_,rfl,_,_,_,_,rfl,rfl,t,at1,(by show 3≤sizeLine;decide),fun p2 h2=>q _ _ (same_new h2 _) (.nd (f:=.lit (c%m) m) (xs:=[]) upd_same .nil (fun _=>rfl))⟩
  |@pair p y z a b t ha hb =>
   refine⟨_,rfl,_,_,_,_,rfl,rfl,t,(show atI [V.str "pair",y,z] 0=some (.str "pair") from rfl),rfl,_,rfl,iteF ?_⟩
   simp only [Kd.depth] at hd
   refine⟨_,rfl,_,_,_,_,rfl,rfl,t,at1,_,rfl,y,a,c,rfl,ha,hp.1,by omega,fun H1 y1 s1 e1=>?_⟩
   refine⟨_,rfl,_,_,_,_,rfl,rfl,s1.tup t,at2,_,rfl,_,_,rfl,rfl,⟨by decide,by decide⟩,z,b,c / 7,rfl,kd_keep (fun _ _ t=>s1.tup t) hb,hp.2,by omega,fun H2 y2 s2 e2=>?_⟩
   refine⟨(by show 3≤sizeLine;decide),fun p2 h2=>?_⟩
   have s3:=same_new h2 (.tup [.str "two",y1,y2])
   exact q _ _ (s1.trans (s2.trans s3)) (.nd (f:=.two) (xs:=[y1,y2]) upd_same (.cons (e1.same (s2.trans s3)) (.cons (e2.same s3) .nil)) (not_lit nofun))
end
end K62
namespace K62
open PySem L2 Kk
def KOk(k:Kd):Prop:=PK k∧Kd.depth k≤3∧k.words≤5
theorem rhoP_mem:∀{ps:Ps} {x:Str} {k:Kd},(ps.map (·.1)).Nodup→(x,k)∈ps→rhoP ps x=some k
 |p::r,x,k,hn,h=>by
  rw [List.map_cons,List.nodup_cons] at hn
  show(if x=p.1 then some p.2 else rhoP r x)=some k
  rcases List.mem_cons.mp h with e|e
  ·rw [←e,if_pos rfl]
  ·rw [if_neg,rhoP_mem hn.2 e]
   intro z
   exact hn.1 (List.mem_map.mpr ⟨_,e,z⟩)
def Fm.cl:Fm→Prop
 |.op o _=>PyData.strOk o=true
 |.test o=>PyData.strOk o=true
 |_=>True
mutual
def Cl:Ex→Prop
 |.var s=>PyData.strOk s=true
 |.let_ x a b=>PyData.strOk x=true∧Cl a∧Cl b
 |.nd f es=>f.cl∧Cls es
 |.call q t es=>PyData.strOk q=true∧PyData.strOk t=true∧Cls es
def Cls:List Ex→Prop
 |[]=>True
 |e::es=>Cl e∧Cls es
end
theorem cls_snoc{e:Ex}(h:Cl e):∀{es:List Ex},Cls es→Cls (es++[e])
 |[],_=>by show Cls [e];simp only [Cls];exact⟨h,trivial⟩
 |a::es,hs=>by
  simp only [Cls] at hs
  show Cls (a::(es++[e]))
  simp only [Cls]
  exact⟨hs.1,cls_snoc h hs.2⟩
theorem cl_start:∀(k:Kd) (c:Int),PK k→Cl (startE k c)
 |.num n,c,_=>by simp only [startE,Cl,Cls,Fm.cl,and_self]
 |.name _ _,c,h=>h.elim
 |.pair a b,c,h=>by
  simp only [startE,Cl,Cls,Fm.cl,true_and,and_true]
  exact⟨cl_start a c h.1,cl_start b (c / 7) h.2⟩
theorem cl_var{s:Str}(h:smW s):Cl (.var s):=by simp only [Cl];exact h.1
def spArgs(K:PySem.W.Frag):Sp:=fun vs H Q _=>∃(lk lp:Addr) (c:Int) (ys xs:List V) (ks:List Kd) (ps:Ps),vs=[.ref lk,.ref lp,.int c]∧H lk=some (.lst ys)∧KsAt K H ys ks∧ks.length≤3∧(∀k∈ks,KOk k)∧SqT K H lp xs∧PsAt K H xs ps∧ps.length≤3∧(ps.map (·.1)).Nodup ∧
 ∀H' p us es,Same H H'→H' p=some (.tup us)→ExsAt H' us es→(∀C,kins 8000 C (rhoP ps) es=.ok ks)→hts es≤6→es.length=ks.length→Cls es→Q (.ref p) H'
theorem hts_snoc:∀(es:List Ex) (e:Ex),hts (es++[e])=max (hts es) e.ht
 |[],e=>by simp [hts]
 |a::es,e=>by
  show max a.ht (hts (es++[e]))=max (max a.ht (hts es)) e.ht
  rw [hts_snoc es e]
  omega
theorem exs_snoc{H:Hp}{x:V}{e:Ex}(h:ExAt H x e):∀{xs:List V} {es:List Ex},ExsAt H xs es→ExsAt H (xs++[x]) (es++[e])
 |_,_,.nil=>.cons h .nil
 |_,_,.cons a r=>.cons a (exs_snoc h r)
mutual
theorem ExAt.keep{H H':Hp}(s:∀a xs,H a=some (.tup xs)→H' a=some (.tup xs)):∀{x:V} {e:Ex},ExAt H x e→ExAt H' x e
 |_,_,.var h l=>.var (s _ _ h) l
 |_,_,.let_ h a b=>.let_ (s _ _ h) (ExAt.keep s a) (ExAt.keep s b)
 |_,_,.nd h r l=>.nd (s _ _ h) (ExsAt.keep s r) l
 |_,_,.call h h2 r l=>.call (s _ _ h) (s _ _ h2) (ExsAt.keep s r) l
theorem ExsAt.keep{H H':Hp}(s:∀a xs,H a=some (.tup xs)→H' a=some (.tup xs)):∀{xs:List V} {es:List Ex},ExsAt H xs es→ExsAt H' xs es
 |_,_,.nil=>.nil
 |_,_,.cons a r=>.cons (ExAt.keep s a) (ExsAt.keep s r)
end
theorem tup_upd{H:Hp}{l:Addr}{o o2:HO}(hl:H l=some o)(hn:∀xs,o≠.tup xs):∀a xs,H a=some (.tup xs)→upd H l o2 a=some (.tup xs):=fun a xs h=>by
 rw [upd_ne (fun e=>by rw [e,hl] at h;exact hn _ (Option.some.inj h))]
 exact h
theorem atI_mem{α:Type}{xs:List α}{i:Int}{v:α}(h:atI xs i=some v):v∈xs:=by
 unfold atI at h
 obtain⟨j,_,e⟩:=Option.bind_eq_some_iff.mp h
 exact List.mem_of_getElem? e
section
variable{P:Program}{w:World}{K:PySem.W.Frag}{mg:Str→Option Value}{base:Heap}
theorem scArgs:FnScope ["_law_kinds","_law_params","_law_cell_here","_law_args_here","_law_kind","_law_alike"] ["_law_kinds","_law_params","_law_cell_here"] (defScope sArgs):=⟨rfl,rfl,rfl,by decide +kernel,rfl,by decide +kernel,by decide +kernel⟩
set_option maxHeartbeats 0 in
theorem ok_args{f fT:Addr}{fd fdT:FuncData} (F:Fun K "_law_args" "_law_args" sArgs f fd) (ml:mg "len"=none) (mt:mg "tuple"=none)
  (GT:FnOk P w K mg base CX0 3 fT fdT ["_law_kind","_law_cell_here"] (spStart K 3)) (bT:Binds K fdT ["_law_kind","_law_cell_here"] []) (kT:PySem.W.keepIn K (.ref fT)=true) (mT:mg "_law_start"=some (.ref fT)):FnOk P w K mg base CX0 4 f fd ["_law_kinds","_law_params","_law_cell_here"] (spArgs K):=by
 refine F.ok (k:=3) scArgs (fun vs H Q E h=>?_) (fun cdv A outer s H vs Q E hrT h=>?_)
 ·obtain⟨_,_,_,_,_,_,_,rfl,_⟩:=h
  rfl
 obtain⟨lk,lp,c,ys,xs,ks,ps,rfl,hlk,hks,hk3,hko,hlp,hps,hp3,hnd,q⟩:=h
 have hu64:=hu64_of hrT
 refine⟨_,@pss_cons _ _ _ _ _ (ps_set (i:=3) scArgs.nd rfl (Or.inl rfl) (pe_lst pa_nil)) (@pss_cons _ _ _ _ _ (ps_for PassesOwn.never rfl (pi_list (pv 0)) (pg_name (i:=4) scArgs.nd rfl (Or.inr rfl)) (@pss_cons _ _ _ _ _ (ps_comp_if (i0:=5) scArgs.nd rfl (Or.inl rfl) (own:=["_law_x","_law_own"]) (caps:=["_law_kind"]) (κ:=[4]) (g:=gTup K 2 (gCons (gName 0) (gCons (gName 1) gNil))) rfl ⟨rfl,by decide +kernel,by decide +kernel,rfl,rfl,(fun y hy=>by simp only [List.mem_cons,List.not_mem_nil,or_false] at hy;rcases hy with rfl<;>rfl),(fun y hy=>by simp only [List.mem_cons,List.not_mem_nil,or_false] at hy;rcases hy with rfl<;>exact⟨.inl rfl,rfl,.inl rfl⟩)⟩ rfl (pi_tup (pv 1)) (fun _ _ _ _=>(pg_tup rfl (pgs_cons (pg_name (i:=0) (show(["_law_x","_law_own","_law_kind"]:List Str).Nodup from by decide +kernel) rfl (Or.inl rfl)) (pgs_cons (pg_name (i:=1) (show(["_law_x","_law_own","_law_kind"]:List Str).Nodup from by decide +kernel) rfl (Or.inl rfl)) pgs_nil)))) (fun _ _ _ _=>(pt_cmpR (r:=rEqD K false) (op_eqD hu64) (pv 1) (pv 2) (nomark _))) (fun _ _ _ _=>(pv 0))) (@pss_one _ _ _ (ps_if (pt_cmpR op_gt (pe_callB call_len_seq rfl ml PySem.boot_len (@pa_cons _ _ _ _ _ (pv 5) pa_nil rfl)) pe_int (nomark _)) (@pss_one _ _ _ (ps_expr (pe_bm PySem.F.plainAttrs_list PySem.F.slot_list_append PySem.F.type_list_append mt_append (pv 3) (@pa_cons _ _ _ _ _ (@pe_tup _ _ _ _ _ (@pa_cons _ _ _ _ _ pe_str (@pa_cons _ _ _ _ _ (pe_ix ix_list (pv 5) (pe_op op_mod (pv 2) (pe_callB call_len_seq rfl ml PySem.boot_len (@pa_cons _ _ _ _ _ (pv 5) pa_nil rfl))) (fun _ _=>rfl)) pa_nil rfl) rfl)) pa_nil rfl)))) (@pss_one _ _ _ (ps_expr (pe_bm PySem.F.plainAttrs_list PySem.F.slot_list_append PySem.F.type_list_append mt_append (pv 3) (@pa_cons _ _ _ _ _ (pe_call GT hrT rfl mT kT bT .nil pass0 (@pa_cons _ _ _ _ _ (pv 4) (@pa_cons _ _ _ _ _ (pv 2) pa_nil rfl) rfl)) pa_nil rfl)))))))) (@pss_one _ _ _ (@ps_ret _ _ _ _ (pe_callTy call_tuple_of rfl mt bootTuple (@pa_cons _ _ _ _ _ (pv 3) pa_nil rfl))))),?_⟩
 have hyl:=hks.length
 refine⟨(by show 0≤sizeLine;decide),fun l hl=>?_⟩
 have s1:=same_new hl (.lst [])
 refine⟨_,rfl,lk,rfl,⟨ys,SqL.of (s1 _ _ hlk)⟩,for_list (xs:=ys) (fun i σ H3=>∃v4 v5 us es,σ=[some (.ref lk),some (.ref lp),some (.int c),some (.ref l),v4,v5]∧Same H H3∧H3 l=some (.lst us)∧ExsAt H3 us es∧es.length=i∧hts es≤6∧(∀C,kins 8000 C (rhoP ps) es=.ok (ks.take i))∧Cls es) ?_ ?_ ?_ ?_⟩
 ·exact⟨none,none,[],[],rfl,s1,upd_same,.nil,rfl,by simp [hts],fun C=>by rw [kins];rfl,by simp only [Cls]⟩
 ·rintro i σ H3 _ ⟨_,_,_,_,_,s3,_⟩
  exact SqL.of (s3 _ _ hlk)
 ·rintro i x σ H3 hx ⟨v4,v5,us,es,rfl,s3,hl3,hes,hel,hh,hkn,hcl⟩
  obtain⟨k,hk,hxk⟩:=kat_get hks hx
  have hkm:k∈ks:=List.mem_of_getElem? hk
  have hul:=hes.length
  have i3:i < ks.length:=(List.getElem?_eq_some_iff.mp hk).1
  refine⟨_,rfl,lp,rfl,⟨xs,s3.tup hlp⟩,comp_by (J:=Itt K lp) (xs:=xs) (fun j zs H4=>Same H3 H4∧zs.length≤j∧∀v∈zs,∃x,v=.str x∧smW x∧(x,k)∈ps) ⟨Same.refl _,Nat.le_refl _,fun v h=>nomatch h⟩ (Nat.le_of_lt (small1000 (by have:=hps.length;omega))) ?_ ?_ ?_ ?_ ?_ ?_⟩
  ·rintro j zs H4 ⟨_,h,_⟩
   exact h
  ·rintro j u zs H4 hu ⟨s4,_⟩
   exact⟨_,_,s4.tup (s3.tup hlp),hu⟩
  ·rintro j zs u H4 H' hn ⟨s4,_⟩ hy
   exact⟨hy.1,hy.2 _ (s4.tup (s3.tup hlp))⟩
  ·rintro zs H4 ⟨s4,_⟩
   exact⟨_,s4.tup (s3.tup hlp),Nat.le_refl _⟩
  ·rintro j u zs H4 N hN hu ⟨s4,hzl,hz⟩
   obtain⟨⟨sx,kx⟩,hpx,b,u',rfl,hb,hsx,hku⟩:=pair_get hps hu
   have s34:=s3.trans s4
   refine⟨b,_,rfl,SqT.of (s34 _ _ hb),rfl,_,_,rfl,_,_,rfl,rfl,rfl,?_⟩
   refine⟨_,rfl,_,rfl,_,_,kd_dat (hku.same s34).1,kd_dat (hxk.same s34).1,sm_shaped hku.2,sm_shaped hxk.2,_,rfl,?_⟩
   show if PyData.eqv (Kd.dat kx) (Kd.dat k)=true then _ else _
   rw [eqv_dat]
   by_cases e:kx=k
   ·rw [decide_eq_true e]
    subst e
    refine iteT ⟨_,rfl,hN _ _ ⟨s4,by rw [List.length_append];exact Nat.succ_le_succ hzl,fun v hv=>?_⟩⟩
    rcases List.mem_append.mp hv with z|z
    ·exact hz v z
    ·rcases List.mem_singleton.mp z with rfl
     exact⟨sx,rfl,hsx,List.mem_of_getElem? hpx⟩
   ·rw [decide_eq_false e]
    exact iteF (hN _ _ ⟨s4,by omega,hz⟩)
  ·rintro zs H4 D ⟨s4,hzl,hz⟩ hD
   have s5:=s4.trans (same_new hD (.lst zs))
   have s35:=s3.trans s5
   have l5:=s5 _ _ hl3
   refine⟨_,rfl,D,_,rfl,.inl (SqL.of upd_same),_,_,rfl,rfl,_,rfl,ite2 (fun e=>?_) (fun e=>?_)⟩
   ·have e':(0:Int) < (zs.length:Int):=of_decide_eq_true e
    obtain⟨v,hv⟩:=at_ex (xs:=zs) (i:=c%(zs.length:Int)) (Int.emod_nonneg _ (by omega)) (Int.emod_lt_of_pos _ e')
    obtain⟨sx,rfl,hsx,hm⟩:=hz v (atI_mem hv)
    refine⟨_,rfl,.inl ⟨rfl,_,SqL.of l5⟩,_,rfl,_,rfl,_,rfl,D,_,rfl,.inl (SqL.of upd_same),_,_,rfl,rfl,e',D,_,_,_,rfl,rfl,SqL.of upd_same,hv,(by show 2≤sizeLine;decide),fun p hp=>?_⟩
    have s6:=s5.trans (same_new hp (.tup [.str "var",.str sx]))
    have l6:=s6 _ _ hl3
    refine⟨l,_,_,rfl,rfl,l6,small1000 (by omega),_,_,us++[.ref p],es++[.var sx],rfl,sput (s3.trans s6) hl,upd_same,exs_snoc (.var (tup_upd l6 nofun _ _ upd_same) (Nat.le_trans hsx.2 (by decide))) ((hes.same s6).keep (tup_upd l6 nofun)),by rw [List.length_append,hel];rfl,?_,fun C=>?_,cls_snoc (cl_var hsx) hcl⟩
    ·rw [hts_snoc]
     have:(Ex.var sx).ht=1:=by simp only [Ex.ht]
     omega
    ·rw [←take_snoc hk]
     exact kins_snoc (kin_var (rhoP_mem hnd hm)) (hkn C)
   ·obtain⟨g1,g2,g3⟩:=hko k hkm
    refine⟨_,rfl,.inl ⟨rfl,_,SqL.of l5⟩,_,rfl,_,rfl,x,k,c,rfl,(hxk.same s35).1,g1,g2,fun H6 y s6 ey=>?_⟩
    have s56:=s5.trans s6
    have l6:=s56 _ _ hl3
    refine⟨l,_,_,rfl,rfl,l6,small1000 (by omega),_,_,us++[y],es++[startE k c],rfl,sput (s3.trans s56) hl,upd_same,exs_snoc (ey.keep (tup_upd l6 nofun)) ((hes.same s56).keep (tup_upd l6 nofun)),by rw [List.length_append,hel];rfl,?_,fun C=>?_,cls_snoc (cl_start k c g1) hcl⟩
    ·rw [hts_snoc]
     have:=start_ht k c
     omega
    ·rw [←take_snoc hk]
     exact kins_snoc (kin_start k c g1 (by omega) (by omega) (by omega)) (hkn C)
 ·rintro σ H3 ⟨v4,v5,us,es,rfl,s3,hl3,hes,hel,hh,hkn,hcl⟩
  rw [hyl,List.take_length] at hkn
  refine⟨_,rfl,l,us,rfl,.inl ⟨SqL.of hl3,fun p hp=>?_⟩⟩
  exact q _ p us es (s3.trans (same_new hp _)) upd_same (hes.same (same_new hp _)) hkn hh (by rw [hel,hyl]) hcl
end
end K62
namespace K62
open PySem L2 Kk
def PsOk(ps:Ps):Prop:=ps.length≤3∧(ps.map (·.1)).Nodup∧∀p∈ps,KOk p.2
def Told(C:Orc)(fs:List Fn):Prop:=∀g∈fs,C g.q g.t=some (g.ps.map (·.2),g.k)
def FnOkk(f:Fn):Prop:=PsOk f.ps∧KOk f.k
def Body(fs:List Fn)(ps:Ps)(k:Kd)(e:Ex)(n:Nat):Prop:=KOk k∧e.ht≤n∧Cl e∧∀C,Told C fs→kin 8000 C (rhoP ps) e=.ok k
def spBody(K:PySem.W.Frag):Sp:=fun vs H Q _=>∃(a lw lo lr lp:Addr) (ns:List Int) (i c n:Int) (xs ys:List V) (fs:List Fn) (ps:Ps),vs=[.ref a,.int i,.ref lw,.ref lo,.ref lr,.ref lp]∧SqL K H a (ns.map V.int)∧ns.length≤63∧0≤i∧i < 60∧H lw=some (.lst (wl c))∧PoolAt K H lo n∧0 < n∧H lr=some (.lst ys)∧FnsAt K H ys fs∧(fs.length:Int)=i∧(∀f∈fs,FnOkk f)∧SqT K H lp xs∧PsAt K H xs ps∧PsOk ps ∧
 ∀H' p x y k e,Same H H'→H' p=some (.tup [x,y])→KAt K H' x k→ExAt H' y e→Body fs ps k e 8→Q (.ref p) H'
theorem at_get{α:Type}{xs:List α}{i:Int}(h0:0≤i)(h1:i < xs.length):∃x,xs[i.toNat]?=some x∧atI xs i=some x:=by
 have hk:i.toNat < xs.length:=by omega
 have e:i=((i.toNat:Nat):Int):=by omega
 have q:atI xs ((i.toNat:Nat):Int)=some xs[i.toNat]:=atI_nat (by simp)
 rw [←e] at q
 exact⟨_,List.getElem?_eq_getElem hk,q⟩
theorem small_num{n c:Int}{C:Orc}{ρ:Str→Option Kd}:kin 8000 C ρ (startE (.num n) c)=.ok (.num n):=by
 show kin 8000 C ρ (.nd (.lit (c%n) n) [])=_
 rw [kin_nd kins_nil]
 rfl
def ifT:Stmt→List Stmt
 |.If _ b _ _=>b
 |_=>[]
def tryHs:List Stmt→List ExceptHandler
 |.Try _ hs _ _ _::_=>hs
 |_=>[]
abbrev dS:Stmt:=.Pass ⟨0,0,0,0⟩
section
variable{P:Program}{w:World}{K:PySem.W.Frag}{mg:Str→Option Value}{base:Heap}
theorem scBody:FnScope ["_law_script","_law_i","_law_words","_law_pool_here","_law_program_here","_law_params","_law_cell_here","_law_form","_law_name_here","_law_others","_law_kind","_law_expression","_law_args_here","_law_x","_law_one"] ["_law_script","_law_i","_law_words","_law_pool_here","_law_program_here","_law_params"] (defScope sBody):=⟨rfl,rfl,rfl,by decide +kernel,rfl,by decide +kernel,by decide +kernel⟩
set_option maxHeartbeats 0 in
theorem ok_body{f fC fP fT fR:Addr}{fd fdC fdP fdT fdR:FuncData} (F:Fun K "_law_body" "_law_body" sBody f fd) (ml:mg "len"=none)
  (GC:FnOk P w K mg base CX0 1 fC fdC ["_law_script","_law_k"] (spCell K)) (bC:Binds K fdC ["_law_script","_law_k"] []) (kC:PySem.W.keepIn K (.ref fC)=true) (mC:mg "_law_cell"=some (.ref fC))
  (GP:FnOk P w K mg base CX0 2 fP fdP ["_law_script","_law_k","_law_many"] (spPick K)) (bP:Binds K fdP ["_law_script","_law_k","_law_many"] []) (kP:PySem.W.keepIn K (.ref fP)=true) (mP:mg "_law_pick"=some (.ref fP))
  (GT:FnOk P w K mg base CX0 3 fT fdT ["_law_kind","_law_cell_here"] (spStart K 3)) (bT:Binds K fdT ["_law_kind","_law_cell_here"] []) (kT:PySem.W.keepIn K (.ref fT)=true) (mT:mg "_law_start"=some (.ref fT))
  (GR:FnOk P w K mg base CX0 4 fR fdR ["_law_kinds","_law_params","_law_cell_here"] (spArgs K)) (bR:Binds K fdR ["_law_kinds","_law_params","_law_cell_here"] []) (kR:PySem.W.keepIn K (.ref fR)=true) (mR:mg "_law_args"=some (.ref fR)):FnOk P w K mg base CX0 5 f fd ["_law_script","_law_i","_law_words","_law_pool_here","_law_program_here","_law_params"] (spBody K):=by
 refine F.ok (k:=4) scBody (fun vs H Q E h=>?_) (fun cdv A outer s H vs Q E hrR h=>?_)
 ·obtain⟨_,_,_,_,_,_,_,_,_,_,_,_,_,rfl,_⟩:=h
  rfl
 obtain⟨a,lw,lo,lr,lp,ns,i,c0,n,xs,ys,fs,ps,rfl,hS,h63,i0,i1,hw,hpool,hn,hlr,hfs,hfl,hfo,hlp,hps,hpo,q⟩:=h
 have hr1:Room 1 _:=hrR.mono (by decide)
 have hr2:Room 2 _:=hrR.mono (by decide)
 have hrT:Room 3 _:=hrR.mono (by decide)
 have hu64:=hu64_of hrR
 have hyl:=hfs.length
 have hxl:=hps.length
 obtain⟨tb,db,kb⟩:∃t,PSs (cxOf CX0 P w K mg base ["_law_script","_law_i","_law_words","_law_pool_here","_law_program_here","_law_params","_law_cell_here","_law_form","_law_name_here","_law_others","_law_kind","_law_expression","_law_args_here","_law_x","_law_one"] "_law_body" (defScope sBody) f cdv A outer s H E).nox (ifT ((defBody sBody).getD 2 dS)) t ∧
   ∀(c fm:Int) (D:Ends),D.rt=Q→0 < i→t D [some (.ref a),some (.int i),some (.ref lw),some (.ref lo),some (.ref lr),some (.ref lp),some (.int c),some (.int fm),none,none,none,none,none,none,none] H:=by
  refine⟨_,@pss_cons _ _ _ _ _ (ps_asg (pe_ix ix_list (pv 4) (pe_call GP hr2 rfl mP kP bP .nil pass0 (@pa_cons _ _ _ _ _ (pv 0) (@pa_cons _ _ _ _ _ (pe_op op_add pe_int (pe_op op_mul pe_int (pv 1))) (@pa_cons _ _ _ _ _ (pv 1) pa_nil rfl) rfl) rfl)) (fun _ _=>rfl)) (pg_tup rfl (pgs_cons (pg_name (i:=8) scBody.nd rfl (Or.inl rfl)) (pgs_cons (pg_name (i:=9) scBody.nd rfl (Or.inl rfl)) (pgs_cons (pg_name (i:=10) scBody.nd rfl (Or.inl rfl)) (pgs_cons (pg_name (i:=11) scBody.nd rfl (Or.inl rfl)) pgs_nil)))))) (@pss_cons _ _ _ _ _ (ps_set (i:=12) scBody.nd rfl (Or.inl rfl) (pe_call GR hrR rfl mR kR bR .nil pass0 (@pa_cons _ _ _ _ _ (pe_comp (own:=["_law_other"]) (caps:=[]) (κ:=[]) rfl ⟨rfl,by decide +kernel,by decide +kernel,rfl,rfl,(fun y hy=>nomatch hy),(fun y hy=>nomatch hy)⟩ rfl (pi_tup (pv 9)) (fun _ _ _ _=>(pg_name (i:=0) (show(["_law_other"]:List Str).Nodup from by decide +kernel) rfl (Or.inl rfl))) (fun _ _ _ _=>(pe_ix (r:=rIxT K) ix_tup (pv 0) pe_int (fun _ _=>rfl)))) (@pa_cons _ _ _ _ _ (pv 5) (@pa_cons _ _ _ _ _ (pv 6) pa_nil rfl) rfl) rfl))) (@pss_one _ _ _ (@ps_ret _ _ _ _ (@pe_tup _ _ _ _ _ (@pa_cons _ _ _ _ _ (pv 10) (@pa_cons _ _ _ _ _ (@pe_tup _ _ _ _ _ (@pa_cons _ _ _ _ _ pe_str (@pa_cons _ _ _ _ _ (pe_ix ix_tup (pv 8) pe_int (fun _ _=>rfl)) (@pa_cons _ _ _ _ _ (pe_ix ix_tup (pv 8) pe_int (fun _ _=>rfl)) (@pa_cons _ _ _ _ _ (pv 12) pa_nil rfl) rfl) rfl) rfl)) pa_nil rfl) rfl))))),?_⟩
  rintro c fm D hD hi
  refine⟨_,rfl,_,rfl,_,rfl,_,_,rfl,rfl,.inr ⟨by omega,by omega⟩,_,_,rfl,rfl,_,rfl,a,ns,8+4*i,i,rfl,hS,h63,by omega,by omega,hi,fun r r0 r1=>?_⟩
  obtain⟨x,hx,hxa⟩:=at_get (xs:=ys) r0 (by omega)
  obtain⟨g,hg,b,a1,a2,us,xk,xe,rfl,hb,hb1,wq,wt,hb2,hus,hu9,hk,he,hht⟩:=pair_get hfs hx
  have gm:g∈fs:=List.mem_of_getElem? hg
  refine⟨lr,_,_,_,rfl,rfl,SqL.of hlr,hxa,?_⟩
  refine⟨b,_,rfl,SqT.of hb,rfl,_,_,rfl,_,_,rfl,_,_,rfl,_,_,rfl,rfl,?_⟩
  have hul:=hus.length
  obtain⟨⟨g3,_,g5⟩,gk⟩:=hfo g gm
  refine⟨_,rfl,a2,rfl,⟨us,hb2⟩,comp_eachT (xs:=us) (fun j Hz v=>∃k,(g.ps.map (·.2))[j]?=some k∧KAt K Hz v k) (fun _ _ _ _ s' ⟨k,h1,h2⟩=>⟨k,h1,h2.same s'⟩) hb2 (by omega) (fun j u H7 N B hu7 s8 hN=>?_) (fun zs H7 D9 s8 hyl hy hD9=>?_)⟩
  ·obtain⟨⟨sw,kw⟩,hp',b',u',rfl,hb',hsw,hku⟩:=pair_get hus hu7
   refine⟨rfl,iteT (B:=True) ⟨_,rfl,b',_,_,_,rfl,rfl,SqT.of (s8 _ _ hb'),at1,hN _ _ (Same.refl _) ⟨kw,?_,hku.same s8⟩⟩⟩
   rw [List.getElem?_map,hp']
   rfl
  ·have s9:=s8.trans (same_new hD9 (.lst zs))
   have hks:KsAt K H7 zs (g.ps.map (·.2)):=paired_of (by rw [hyl,List.length_map];exact hul) hy
   refine⟨_,rfl,_,rfl,D9,lp,c,zs,xs,g.ps.map (·.2),ps,rfl,upd_same,hks.same (same_new hD9 (.lst zs)),by rw [List.length_map];exact g3,fun k hk=>?_,s9.tup hlp,Paired.mapP hps fun _ _ z=>z.same s9,hpo.1,hpo.2.1,fun H8 p8 us8 es s10 hp8 hes hkn hh hel hcl=>?_⟩
   ·obtain⟨p,hp,rfl⟩:=List.mem_map.mp hk
    exact g5 p hp
   have t8:=s9.trans s10
   refine⟨_,rfl,_,rfl,_,_,_,_,rfl,rfl,SqT.of (t8 _ _ hb1),at0,_,rfl,_,_,_,_,rfl,rfl,SqT.of (t8 _ _ hb1),at1,_,rfl,(by show 4≤sizeLine;decide),fun p1 h1=>?_⟩
   have n1:=same_new h1 (.tup [.str "call",.str g.q,.str g.t,.ref p8])
   refine⟨(by show 2≤sizeLine;decide),fun p2 h2=>?_⟩
   have n2:=same_new h2 (.tup [xk,.ref p1])
   have n12:=n1.trans n2
   rw [hD]
   refine q _ p2 _ _ g.k (.call g.q g.t es) (t8.trans n12) upd_same (hk.same (t8.trans n12)) (.call (n2 _ _ upd_same) (n12 _ _ hp8) (hes.same n12) ⟨wq,wt⟩) ⟨gk,?_,by simp only [Cl];exact⟨wq.1,wt.1,hcl⟩,fun C hC=>?_⟩
   ·rw [List.length_map] at hel
    simp only [Ex.ht]
    omega
   ·rw [kin_call (hkn C),hC g gm]
    show(if _ then (if _ then _ else _) else _)=_
    rw [if_pos rfl,if_pos rfl]
 obtain⟨t4,d4,k4⟩:∃t,PSs (cxOf CX0 P w K mg base ["_law_script","_law_i","_law_words","_law_pool_here","_law_program_here","_law_params","_law_cell_here","_law_form","_law_name_here","_law_others","_law_kind","_law_expression","_law_args_here","_law_x","_law_one"] "_law_body" (defScope sBody) f cdv A outer s H E).nox (List.drop 4 (defBody sBody)) t ∧
   ∀(c fm:Int),t { nx:=fun _ H'=>Q .non H',rt:=Q } [some (.ref a),some (.int i),some (.ref lw),some (.ref lo),some (.ref lr),some (.ref lp),some (.int c),some (.int fm),none,none,none,none,none,none,none] H:=by
  refine⟨_,@pss_cons _ _ _ _ _ (ps_if (pt_cmpR op_eq (pv 7) pe_int (nomark _)) (@pss_cons _ _ _ _ _ (ps_set (i:=14) scBody.nd rfl (Or.inl rfl) (pe_call GT hrT rfl mT kT bT .nil pass0 (@pa_cons _ _ _ _ _ (pe_ix ix_list (pv 3) pe_int (fun _ _=>rfl)) (@pa_cons _ _ _ _ _ (pv 6) pa_nil rfl) rfl))) (@pss_one _ _ _ (@ps_ret _ _ _ _ (@pe_tup _ _ _ _ _ (@pa_cons _ _ _ _ _ (@pe_tup _ _ _ _ _ (@pa_cons _ _ _ _ _ pe_str (@pa_cons _ _ _ _ _ pe_int pa_nil rfl) rfl)) (@pa_cons _ _ _ _ _ (@pe_tup _ _ _ _ _ (@pa_cons _ _ _ _ _ pe_str (@pa_cons _ _ _ _ _ pe_str (@pa_cons _ _ _ _ _ (pv 14) (@pa_cons _ _ _ _ _ (pe_call GT hrT rfl mT kT bT .nil pass0 (@pa_cons _ _ _ _ _ (pe_ix ix_list (pv 3) pe_int (fun _ _=>rfl)) (@pa_cons _ _ _ _ _ (pe_op op_fdiv (pv 6) pe_int) pa_nil rfl) rfl)) pa_nil rfl) rfl) rfl) rfl)) pa_nil rfl) rfl))))) pss_nil) (@pss_cons _ _ _ _ _ (ps_set (i:=10) scBody.nd rfl (Or.inl rfl) (pe_ix ix_list (pv 3) (pe_call GP hr2 rfl mP kP bP .nil pass0 (@pa_cons _ _ _ _ _ (pv 0) (@pa_cons _ _ _ _ _ (pe_op op_add pe_int (pe_op op_mul pe_int (pv 1))) (@pa_cons _ _ _ _ _ pe_int pa_nil rfl) rfl) rfl)) (fun _ _=>rfl))) (@pss_one _ _ _ (@ps_ret _ _ _ _ (@pe_tup _ _ _ _ _ (@pa_cons _ _ _ _ _ (pv 10) (@pa_cons _ _ _ _ _ (pe_call GT hrT rfl mT kT bT .nil pass0 (@pa_cons _ _ _ _ _ (pv 10) (@pa_cons _ _ _ _ _ (pv 6) pa_nil rfl) rfl)) pa_nil rfl) rfl))))),?_⟩
  rintro c fm
  refine⟨_,rfl,rfl,_,rfl,ite2 (fun _=>?_) (fun _=>?_)⟩
  ·obtain⟨ps4,x0,hl4,e4,hk4⟩:=hpool.get (r:=0) (by decide) (by decide)
   replace hk4:KAt K H x0 (.num n):=hk4
   refine⟨_,rfl,lo,_,_,_,rfl,rfl,SqL.of hl4,e4,_,rfl,x0,.num n,c,rfl,hk4.1,hn,(by show 1≤3;decide),fun H1 y1 s1 e1=>?_⟩
   refine⟨(by show 2≤sizeLine;decide),fun p1 h1=>?_⟩
   have n1:=same_new h1 (.tup [.str "num",.int 2])
   have m1:=s1.trans n1
   refine⟨_,rfl,_,rfl,lo,_,_,_,rfl,rfl,SqL.of (m1 _ _ hl4),e4,_,rfl,_,_,rfl,rfl,⟨by decide,by decide⟩,x0,.num n,c / 11,rfl,(hk4.same m1).1,hn,(by show 1≤3;decide),fun H2 y2 s2 e2=>?_⟩
   refine⟨(by show 4≤sizeLine;decide),fun p2 h2=>?_⟩
   have n2:=same_new h2 (.tup [.str "test",.str "<",y1,y2])
   refine⟨(by show 2≤sizeLine;decide),fun p3 h3=>?_⟩
   have n3:=same_new h3 (.tup [.ref p1,.ref p2])
   have n23:=n2.trans n3
   have n123:=s2.trans n23
   refine q _ p3 _ _ (.num 2) (.nd (.test "<") [startE (.num n) c,startE (.num n) (c / 11)]) (m1.trans n123) upd_same (num_at (n123 _ _ upd_same)) (.nd (f:=.test "<") (xs:=[y1,y2]) (n3 _ _ upd_same) (.cons (e1.same (n1.trans n123)) (.cons (e2.same n23) .nil)) (not_lit nofun)) ⟨⟨(by show(0:Int) < 2;decide),by show 1≤3;decide,by show 1≤5;decide⟩,?_,by simp only [Cl,Cls,Fm.cl,and_true];exact⟨by decide +kernel,cl_start _ _ hn,cl_start _ _ hn⟩,fun C hC=>?_⟩
   ·simp only [startE,Ex.ht,hts,List.length_cons,List.length_nil]
    decide
   ·rw [kin_nd (kins_cons small_num (kins_cons small_num kins_nil))]
    show(if Kd.isNum (.num n)=true∧Kd.num n=Kd.num n then R.ok (Kd.num 2) else R.no 2)=_
    rw [if_pos ⟨rfl,rfl⟩]
  ·refine⟨_,rfl,_,rfl,_,rfl,_,_,rfl,rfl,.inr ⟨by omega,by omega⟩,_,_,rfl,rfl,a,ns,8+4*i,4,rfl,hS,h63,by omega,by omega,by decide,fun r r0 r1=>?_⟩
   obtain⟨ps4,x0,hl4,e4,hk4⟩:=hpool.get r0 r1
   obtain⟨g1,g2,g3⟩:=pk_ok (n:=n) (r:=r) hn
   refine⟨lo,_,_,_,rfl,rfl,SqL.of hl4,e4,?_⟩
   refine⟨_,rfl,_,rfl,_,rfl,x0,pk n r,c,rfl,hk4.1,g1,g2,fun H1 y1 s1 e1=>?_⟩
   refine⟨(by show 2≤sizeLine;decide),fun p1 h1=>?_⟩
   have n1:=same_new h1 (.tup [x0,y1])
   refine q _ p1 _ _ (pk n r) (startE (pk n r) c) (s1.trans n1) upd_same (hk4.same (s1.trans n1)) (e1.same n1) ⟨⟨g1,g2,g3⟩,?_,cl_start _ _ g1,fun C hC=>kin_start _ _ g1 (by omega) (by omega) (by omega)⟩
   have:=start_ht (pk n r) c
   omega
 obtain⟨t3,d3,k3⟩:∃t,PSs (cxOf CX0 P w K mg base ["_law_script","_law_i","_law_words","_law_pool_here","_law_program_here","_law_params","_law_cell_here","_law_form","_law_name_here","_law_others","_law_kind","_law_expression","_law_args_here","_law_x","_law_one"] "_law_body" (defScope sBody) f cdv A outer s H E).nox (List.drop 3 (defBody sBody)) t ∧
   ∀(c fm:Int),0≤fm→fm < 5→t { nx:=fun _ H'=>Q .non H',rt:=Q } [some (.ref a),some (.int i),some (.ref lw),some (.ref lo),some (.ref lr),some (.ref lp),some (.int c),some (.int fm),none,none,none,none,none,none,none] H:=by
  refine⟨_,@pss_cons _ _ _ _ _ (ps_if (PW.pt (pw_and (pt_cmpR op_eq (pv 7) pe_int (nomark _)) (pw_and1 (pt_cmpR op_gt (pe_callB call_len_seq rfl ml PySem.boot_len (@pa_cons _ _ _ _ _ (pv 5) pa_nil rfl)) pe_int (nomark _))))) (@pss_cons _ _ _ _ _ (ps_asg (pe_ix ix_tup (pv 5) (pe_call GP hr2 rfl mP kP bP .nil pass0 (@pa_cons _ _ _ _ _ (pv 0) (@pa_cons _ _ _ _ _ (pe_op op_add pe_int (pe_op op_mul pe_int (pv 1))) (@pa_cons _ _ _ _ _ (pe_callB call_len_seq rfl ml PySem.boot_len (@pa_cons _ _ _ _ _ (pv 5) pa_nil rfl)) pa_nil rfl) rfl) rfl)) (fun _ _=>rfl)) (pg_tup rfl (pgs_cons (pg_name (i:=13) scBody.nd rfl (Or.inl rfl)) (pgs_cons (pg_name (i:=10) scBody.nd rfl (Or.inl rfl)) pgs_nil)))) (@pss_one _ _ _ (@ps_ret _ _ _ _ (@pe_tup _ _ _ _ _ (@pa_cons _ _ _ _ _ (pv 10) (@pa_cons _ _ _ _ _ (@pe_tup _ _ _ _ _ (@pa_cons _ _ _ _ _ pe_str (@pa_cons _ _ _ _ _ (pv 13) pa_nil rfl) rfl)) pa_nil rfl) rfl))))) pss_nil) d4,?_⟩
  rintro c fm f0 f1
  refine⟨_,rfl,rfl,_,rfl,ite2 (fun _=>?_) (fun _=>iteF (A:=True) (k4 c fm))⟩
  refine iteT (B:=True) ⟨_,rfl,lp,_,rfl,.inr hlp,_,_,rfl,rfl,_,rfl,ite2 (fun z=>?_) (fun _=>k4 c fm)⟩
  have z':(0:Int) < (xs.length:Int):=of_decide_eq_true z
  refine⟨_,rfl,_,rfl,_,rfl,_,_,rfl,rfl,.inr ⟨by omega,by omega⟩,_,_,rfl,rfl,_,rfl,lp,_,rfl,.inr hlp,a,ns,8+4*i,(xs.length:Int),rfl,hS,h63,by omega,by omega,z',fun r r0 r1=>?_⟩
  obtain⟨x,hx,hxa⟩:=at_get (xs:=xs) r0 r1
  obtain⟨⟨sx,kx⟩,hpx,b,u,rfl,hb,hsx,hku⟩:=pair_get hps hx
  have pm:(sx,kx)∈ps:=List.mem_of_getElem? hpx
  refine⟨lp,_,_,_,rfl,rfl,hlp,hxa,b,_,rfl,SqT.of hb,rfl,_,_,rfl,_,_,rfl,rfl,?_⟩
  refine⟨_,rfl,_,rfl,(by show 2≤sizeLine;decide),fun p1 h1=>?_⟩
  have n1:=same_new h1 (.tup [.str "var",.str sx])
  refine⟨(by show 2≤sizeLine;decide),fun p2 h2=>?_⟩
  have n2:=same_new h2 (.tup [u,.ref p1])
  refine q _ p2 _ _ kx (.var sx) (n1.trans n2) upd_same (hku.same (n1.trans n2)) (.var (n2 _ _ upd_same) (Nat.le_trans hsx.2 (by decide))) ⟨hpo.2.2 _ pm,by simp only [Ex.ht];decide,cl_var hsx,fun C hC=>kin_var (rhoP_mem hpo.2.1 pm)⟩
 refine⟨_,@pss_cons _ _ _ _ _ (ps_set (i:=6) scBody.nd rfl (Or.inl rfl) (pe_call GC hr1 rfl mC kC bC .nil pass0 (@pa_cons _ _ _ _ _ (pv 0) (@pa_cons _ _ _ _ _ (pe_op op_add pe_int (pe_op op_mul pe_int (pv 1))) pa_nil rfl) rfl))) (@pss_cons _ _ _ _ _ (ps_set (i:=7) scBody.nd rfl (Or.inl rfl) (pe_call GP hr2 rfl mP kP bP .nil pass0 (@pa_cons _ _ _ _ _ (pv 0) (@pa_cons _ _ _ _ _ (pe_op op_add pe_int (pe_op op_mul pe_int (pv 1))) (@pa_cons _ _ _ _ _ pe_int pa_nil rfl) rfl) rfl))) (@pss_cons _ _ _ _ _ (ps_if (PW.pt (pw_and (PW.pt (pw_or (pt_cmpR op_eq (pv 7) pe_int (nomark _)) (pw_or1 (pt_cmpR op_eq (pv 7) pe_int (nomark _))))) (pw_and1 (pt_cmpR op_gt (pv 1) pe_int (nomark _))))) db pss_nil) d3)),?_⟩
 refine⟨_,rfl,_,rfl,_,_,rfl,rfl,.inr ⟨by omega,by omega⟩,_,_,rfl,rfl,a,ns,7+4*i,rfl,hS,h63,by omega,by omega,?_⟩
 generalize cellOf ns (7+4*i)=c
 refine⟨_,rfl,_,rfl,_,_,rfl,rfl,.inr ⟨by omega,by omega⟩,_,_,rfl,rfl,a,ns,7+4*i,5,rfl,hS,h63,by omega,by omega,by decide,fun fm f0 f1=>?_⟩
 refine⟨_,rfl,rfl,_,rfl,ite2 (fun _=>?_) (fun _=>⟨_,rfl,rfl,_,rfl,ite2 (fun _=>?_) (fun _=>?_)⟩)⟩
 ·exact iteT (B:=True) ⟨_,rfl,_,_,rfl,rfl,_,rfl,ite2 (fun z=>kb c fm _ rfl (of_decide_eq_true z)) (fun _=>k3 c fm f0 f1)⟩
 ·exact iteT (B:=True) ⟨_,rfl,_,_,rfl,rfl,_,rfl,ite2 (fun z=>kb c fm _ rfl (of_decide_eq_true z)) (fun _=>k3 c fm f0 f1)⟩
 ·exact iteF (A:=True) (k3 c fm f0 f1)
end
end K62
namespace K62
open PySem L2 Kk
theorem Told.mono{C:Orc}{fs gs:List Fn}(h:Told C gs)(s:∀g∈fs,g∈gs):Told C fs:=fun g hg=>h g (s g hg)
theorem Body.let_{fs:List Fn}{ps:Ps}{k:Kd}{e:Ex}{n:Nat}{x:Str}(h:Body fs ps k e n)(hx:smW x):Body fs ps k (.let_ x e (.var x)) (n+2):=by
 obtain⟨h1,h2,h3,h4⟩:=h
 refine⟨h1,by simp only [Ex.ht];omega,by simp only [Cl];exact⟨hx.1,h3,hx.1⟩,fun C hC=>?_⟩
 rw [kin,h4 C hC]
 exact kin_var (if_pos rfl)
theorem Body.if_{fs:List Fn}{ps:Ps}{k:Kd}{e:Ex}{n:Nat}{i:Int}(h:Body fs ps k e n)(hn:5≤n):Body fs ps k (.nd .if_ [.nd (.lit 1 2) [],e,startE k i]) (n+2):=by
 obtain⟨⟨h1,h5,h6⟩,h2,h3,h4⟩:=h
 have:=start_ht k i
 refine⟨⟨h1,h5,h6⟩,by simp only [Ex.ht,hts,List.length_cons,List.length_nil];omega,by simp only [Cl,Cls,Fm.cl,true_and,and_true];exact⟨h3,cl_start k i h1⟩,fun C hC=>?_⟩
 rw [kin_nd (kins_cons (k:=.num 2) (by rw [kin_nd kins_nil];rfl) (kins_cons (h4 C hC) (kins_cons (kin_start k i h1 (by omega) (by omega) (by omega)) kins_nil)))]
 show(if Kd.num 2=Kd.num 2 then (if k=k then R.ok k else R.no 2) else R.no 2)=_
 rw [if_pos rfl,if_pos rfl]
theorem FnAt.keep{K:PySem.W.Frag}{H H':Hp}{x:V}{f:Fn}(h:FnAt K H x f)(kp1:∀a xs,H a=some (HO.tup xs)→H' a=some (.tup xs))(kp:∀a xs,SqT K H a xs→SqT K H' a xs):FnAt K H' x f:=by
 obtain⟨a,a1,a2,xs,xk,xe,e,h1,h2,h3,h4,h5,h6,h7,h8,h9,h10⟩:=h
 refine⟨a,a1,a2,xs,xk,xe,e,kp1 _ _ h1,kp1 _ _ h2,h3,h4,kp _ _ h5,Paired.mapP h6 fun x p z=>?_,h7,⟨kd_keep kp h8.1,h8.2⟩,h9.keep kp1,h10⟩
 obtain⟨a,u,e,g1,g2,g3⟩:=z
 exact⟨a,u,e,kp1 _ _ g1,g2,⟨kd_keep kp g3.1,g3.2⟩⟩
theorem pair_choose{α β:Type}{R:α→β→Prop}:∀{xs:List α},(∀(i:Nat) (x:α),xs[i]?=some x→∃y,R x y)→∃ys,Paired R xs ys
 |[],_=>⟨[],.nil⟩
 |x::xs,h=>by
  obtain⟨y,hy⟩:=h 0 x rfl
  obtain⟨ys,hys⟩:=pair_choose (xs:=xs) fun i z hz=>h (i+1) z hz
  exact⟨y::ys,.cons hy hys⟩
theorem pair_all{α β:Type}{R:α→β→Prop}{S:β→Prop}(hS:∀x y,R x y→S y):∀{xs:List α} {ys:List β},Paired R xs ys→∀y∈ys,S y
 |_,_,.cons a r,y,h=>by
  rcases List.mem_cons.mp h with rfl|h
  ·exact hS _ _ a
  ·exact pair_all hS r y h
theorem pair_app{α β:Type}{R:α→β→Prop}:∀{xs:List α} {ys:List β} {xs2:List α} {ys2:List β},Paired R xs ys→Paired R xs2 ys2→Paired R (xs++xs2) (ys++ys2)
 |_,_,_,_,.nil,h=>h
 |_,_,_,_,.cons a r,h=>.cons a (pair_app r h)
theorem Body.le{fs:List Fn}{ps:Ps}{k:Kd}{e:Ex}{n m:Nat}(h:Body fs ps k e n)(hm:n≤m):Body fs ps k e m:=⟨h.1,Nat.le_trans h.2.1 hm,h.2.2⟩
def psOf(c:Int)(ks:List Kd):Ps:=(List.range ks.length).map fun(j:Nat)=>(wd c (4+(j:Int)),ks.getD j (.num 2))
theorem psOf_get{c:Int}{ks:List Kd}{j:Nat}{k:Kd}(h:ks[j]?=some k):(psOf c ks)[j]?=some (wd c (4+(j:Int)),k):=by
 unfold psOf
 have:=(List.getElem?_eq_some_iff.mp h).1
 rw [List.getElem?_map,List.getElem?_range this]
 show some (wd c (4+(j:Int)),ks.getD j (.num 2))=_
 rw [List.getD_eq_getElem?_getD,h]
 rfl
theorem psOf_ok{c:Int}{ks:List Kd}(h3:ks.length≤3)(hk:∀k∈ks,KOk k):PsOk (psOf c ks):=by
 refine⟨by unfold psOf;rw [List.length_map,List.length_range];exact h3,?_,fun p hp=>?_⟩
 ·unfold psOf
  rw [List.map_map]
  refine List.pairwise_map.mpr (List.Pairwise.imp_of_mem (fun {a b} ha hb hab=>?_) List.nodup_range)
  have a1:=List.mem_range.mp ha
  have b1:=List.mem_range.mp hb
  intro z
  have:=wd_ne (c:=c) (i:=4+(a:Int)) (j:=4+(b:Int)) (by omega) (by omega) z
  exact hab (by omega)
 ·unfold psOf at hp
  obtain⟨j,hj,rfl⟩:=List.mem_map.mp hp
  have hj':=List.mem_range.mp hj
  show KOk (ks.getD j (.num 2))
  rw [List.getD_eq_getElem?_getD,List.getElem?_eq_getElem hj']
  exact hk _ (List.getElem_mem hj')
def ProgOk(c:Int)(fs:List Fn):Prop:=∀(i:Nat) (f:Fn),fs[i]?=some f→f.q=wd c ((i:Int)%3)∧f.t=wd c (3+(i:Int) / 3)∧PsOk f.ps∧Body (fs.take i) f.ps f.k f.e 12
theorem ProgOk.fn{c:Int}{fs:List Fn}(h:ProgOk c fs):∀f∈fs,FnOkk f:=fun f hf=>by
 obtain⟨i,hi⟩:=List.mem_iff_getElem?.mp hf
 obtain⟨_,_,h1,h2,_⟩:=h i f hi
 exact⟨h1,h2⟩
theorem ProgOk.snoc{c:Int}{fs:List Fn}{f:Fn}(h:ProgOk c fs)(h1:f.q=wd c ((fs.length:Int)%3))(h2:f.t=wd c (3+(fs.length:Int) / 3))(h3:PsOk f.ps)(h4:Body fs f.ps f.k f.e 12):ProgOk c (fs++[f]):=fun i g hg=>by
 by_cases hi:i < fs.length
 ·rw [List.getElem?_append_left hi] at hg
  rw [List.take_append_of_le_length (Nat.le_of_lt hi)]
  exact h i g hg
 ·rw [List.getElem?_append_right (by omega)] at hg
  have hz:i - fs.length=0:=by
   have:=(List.getElem?_eq_some_iff.mp hg).1
   have h1:[f].length=1:=rfl
   omega
  rw [hz] at hg
  cases hg
  have ei:i=fs.length:=by omega
  subst ei
  rw [List.take_left']
  ·exact⟨h1,h2,h3,h4⟩
  ·rfl
def spProg(K:PySem.W.Frag):Sp:=fun vs H Q _=>∃(a lw lo:Addr) (ns:List Int) (m c n:Int),vs=[.ref a,.int m,.ref lw,.ref lo]∧SqL K H a (ns.map V.int)∧ns.length≤63∧0≤m∧m≤59∧H lw=some (.lst (wl c))∧PoolAt K H lo n∧0 < n ∧
 ∀H' p ys fs,Same H H'→H' p=some (.lst ys)→FnsAt K H' ys fs→ProgOk c fs→(fs.length:Int)=m→Q (.ref p) H'
def forB:Stmt→List Stmt
 |.For _ _ b _ _=>b
 |_=>[]
section
variable{P:Program}{w:World}{K:PySem.W.Frag}{mg:Str→Option Value}{base:Heap}
theorem scProg:FnScope ["_law_script","_law_many","_law_words","_law_pool_here","_law_program_here","_law_i","_law_kinds","_law_params","_law_kind","_law_body_here","_law_wrap"] ["_law_script","_law_many","_law_words","_law_pool_here"] (defScope sProg):=⟨rfl,rfl,rfl,by decide +kernel,rfl,by decide +kernel,by decide +kernel⟩
set_option maxHeartbeats 0 in
theorem ok_prog{f fP fT fN fB:Addr}{fd fdP fdT fdN fdB:FuncData} (F:Fun K "_law_program" "_law_program" sProg f fd) (ml:mg "len"=none) (mr:mg "range"=none) (mt:mg "tuple"=none)
  (GP:FnOk P w K mg base CX0 2 fP fdP ["_law_script","_law_k","_law_many"] (spPick K)) (bP:Binds K fdP ["_law_script","_law_k","_law_many"] []) (kP:PySem.W.keepIn K (.ref fP)=true) (mP:mg "_law_pick"=some (.ref fP))
  (GT:FnOk P w K mg base CX0 3 fT fdT ["_law_kind","_law_cell_here"] (spStart K 3)) (bT:Binds K fdT ["_law_kind","_law_cell_here"] []) (kT:PySem.W.keepIn K (.ref fT)=true) (mT:mg "_law_start"=some (.ref fT))
  (GN:FnOk P w K mg base CX0 1 fN fdN ["_law_words","_law_i"] spName) (bN:Binds K fdN ["_law_words","_law_i"] []) (kN:PySem.W.keepIn K (.ref fN)=true) (mN:mg "_law_name"=some (.ref fN))
  (GB:FnOk P w K mg base CX0 5 fB fdB ["_law_script","_law_i","_law_words","_law_pool_here","_law_program_here","_law_params"] (spBody K)) (bB:Binds K fdB ["_law_script","_law_i","_law_words","_law_pool_here","_law_program_here","_law_params"] []) (kB:PySem.W.keepIn K (.ref fB)=true) (mB:mg "_law_body"=some (.ref fB)):FnOk P w K mg base CX0 6 f fd ["_law_script","_law_many","_law_words","_law_pool_here"] (spProg K):=by
 refine F.ok (k:=5) scProg (fun vs H Q E h=>?_) (fun cdv A outer s H vs Q E hrB h=>?_)
 ·obtain⟨_,_,_,_,_,_,_,rfl,_⟩:=h
  rfl
 obtain⟨a,lw,lo,ns,m,c,n,rfl,hS,h63,m0,m1,hw,hpool,hn,q⟩:=h
 have hrN:Room 1 _:=hrB.mono (by decide)
 have hr2:Room 2 _:=hrB.mono (by decide)
 have hrT:Room 3 _:=hrB.mono (by decide)
 obtain⟨t6,d6,k6⟩:∃t,PSs (cxOf CX0 P w K mg base ["_law_script","_law_many","_law_words","_law_pool_here","_law_program_here","_law_i","_law_kinds","_law_params","_law_kind","_law_body_here","_law_wrap"] "_law_program" (defScope sProg) f cdv A outer s H E).nox (List.drop 6 (forB ((defBody sProg).getD 1 dS))) t ∧
   ∀(D:Ends) (H3:Hp) (l tp:Addr) (i:Nat) (v6 xk ye vw:V) (ys xs:List V) (fs:List Fn) (ps:Ps) (k:Kd) (e:Ex),i < 60→Same H H3→H l=none→H3 l=some (.lst ys)→FnsAt K H3 ys fs→ProgOk c fs→fs.length=i→H3 tp=some (.tup xs)→PsAt K H3 xs ps→PsOk ps→KAt K H3 xk k→ExAt H3 ye e→Body fs ps k e 12 →
    (∀σ H4 ys' fs',σ=[some (.ref a),some (.int m),some (.ref lw),some (.ref lo),some (.ref l),some (.int (i:Int)),some v6,some (.ref tp),some xk,some ye,some vw]→Same H H4→H4 l=some (.lst ys')→FnsAt K H4 ys' fs'→ProgOk c fs'→fs'.length=i+1→D.nx σ H4) →
    t D [some (.ref a),some (.int m),some (.ref lw),some (.ref lo),some (.ref l),some (.int (i:Int)),some v6,some (.ref tp),some xk,some ye,some vw] H3:=by
  refine⟨_,@pss_one _ _ _ (ps_expr (pe_bm PySem.F.plainAttrs_list PySem.F.slot_list_append PySem.F.type_list_append mt_append (pv 4) (@pa_cons _ _ _ _ _ (@pe_tup _ _ _ _ _ (@pa_cons _ _ _ _ _ (pe_call GN hrN rfl mN kN bN .nil pass0 (@pa_cons _ _ _ _ _ (pv 2) (@pa_cons _ _ _ _ _ (pv 5) pa_nil rfl) rfl)) (@pa_cons _ _ _ _ _ (pv 7) (@pa_cons _ _ _ _ _ (pv 8) (@pa_cons _ _ _ _ _ (pv 9) pa_nil rfl) rfl) rfl) rfl)) pa_nil rfl))),?_⟩
  intro D H3 l tp i v6 xk ye vw ys xs fs ps k e hi s3 hl hl3 hfs hpr hfl htp hps hpo hk he hb hD
  have lf:=hfs.length
  refine⟨_,rfl,.inl ⟨rfl,_,SqL.of hl3⟩,_,rfl,_,rfl,lw,c,(i:Int),rfl,s3 _ _ hw,by omega,by omega,fun H4 p4 s4 hp4=>?_⟩
  refine⟨_,rfl,_,rfl,_,rfl,(by show 4≤sizeLine;decide),fun p5 h5=>?_⟩
  have s5:=s4.trans (same_new h5 (.tup [.ref p4,.ref tp,xk,ye]))
  have l5:=s5 _ _ hl3
  have kp1:=tup_upd (o2:=.lst (ys++[.ref p5])) l5 nofun
  have kp:∀a xs,SqT K _ a xs→SqT K (upd _ l (.lst (ys++[.ref p5]))) a xs:=fun a xs t=>sqt_upd l5 t
  refine⟨l,_,_,rfl,rfl,l5,small1000 (by omega),hD _ _ (ys++[.ref p5]) (fs++[⟨wd c ((i:Int)%3),wd c (3+(i:Int) / 3),ps,k,e⟩]) rfl (sput (s3.trans s5) hl) upd_same (pair_app (Paired.mapP hfs fun _ _ z=>(z.same s5).keep kp1 kp) (.cons ?_ .nil)) (hpr.snoc (by rw [hfl]) (by rw [hfl]) hpo hb) (by rw [List.length_append,hfl];rfl)⟩
  have hb2:=hb.2.1
  refine FnAt.keep (H:=_) ⟨p5,p4,tp,xs,xk,ye,rfl,upd_same,(same_new h5 _) _ _ hp4,wd_sm _ _,wd_sm _ _,SqT.of (s5 _ _ htp),Paired.mapP hps fun _ _ z=>z.same s5,Nat.le_trans hpo.1 (by decide),hk.same s5,he.same s5,by show e.ht≤60;omega⟩ kp1 kp
 obtain⟨t0,d0,k0⟩:∃t,PSs (cxOf CX0 P w K mg base ["_law_script","_law_many","_law_words","_law_pool_here","_law_program_here","_law_i","_law_kinds","_law_params","_law_kind","_law_body_here","_law_wrap"] "_law_program" (defScope sProg) f cdv A outer s H E).nox (forB ((defBody sProg).getD 1 dS)) t ∧
   ∀(D:Ends) (H3:Hp) (l:Addr) (i:Nat) (v6 v7 v8 v9 v10:Option V) (ys:List V) (fs:List Fn),i < 60→Same H H3→H l=none→H3 l=some (.lst ys)→FnsAt K H3 ys fs→ProgOk c fs→fs.length=i →
    (∀σ H4 ys' fs' (w6 w7 w8 w9 w10:Option V),σ=[some (.ref a),some (.int m),some (.ref lw),some (.ref lo),some (.ref l),some (.int (i:Int)),w6,w7,w8,w9,w10]→Same H H4→H4 l=some (.lst ys')→FnsAt K H4 ys' fs'→ProgOk c fs'→fs'.length=i+1→D.nx σ H4) →
    t D [some (.ref a),some (.int m),some (.ref lw),some (.ref lo),some (.ref l),some (.int (i:Int)),v6,v7,v8,v9,v10] H3:=by
  refine⟨_,@pss_cons _ _ _ _ _ (ps_set (i:=6) scProg.nd rfl (Or.inr rfl) (pe_comp (own:=["_law_j"]) (caps:=["_law_pool_here","_law_script","_law_i"]) (κ:=[3,0,5]) rfl ⟨rfl,by decide +kernel,by decide +kernel,rfl,rfl,(fun y hy=>by simp only [List.mem_cons,List.not_mem_nil,or_false] at hy;rcases hy with rfl|rfl|rfl<;>rfl),(fun y hy=>by simp only [List.mem_cons,List.not_mem_nil,or_false] at hy;rcases hy with rfl|rfl|rfl<;>exact⟨.inl rfl,rfl,.inl rfl⟩)⟩ rfl (pi_range1 rfl mr (@pa_cons _ _ _ _ _ (pe_call GP hr2 rfl mP kP bP .nil pass0 (@pa_cons _ _ _ _ _ (pv 0) (@pa_cons _ _ _ _ _ (pe_op op_add pe_int (pe_op op_mul pe_int (pv 5))) (@pa_cons _ _ _ _ _ pe_int pa_nil rfl) rfl) rfl)) pa_nil rfl)) (fun _ _ _ _=>(pg_name (i:=0) (show(["_law_j","_law_pool_here","_law_script","_law_i"]:List Str).Nodup from by decide +kernel) rfl (Or.inl rfl))) (fun _ _ _ _=>(pe_ix (r:=rIxL K) ix_list (pv 1) (pe_call GP hr2 rfl mP kP bP .nil pass0 (@pa_cons _ _ _ _ _ (pv 2) (@pa_cons _ _ _ _ _ (pe_op op_add (pe_op op_add pe_int (pe_op op_mul pe_int (pv 3))) (pv 0)) (@pa_cons _ _ _ _ _ pe_int pa_nil rfl) rfl) rfl)) (fun _ _=>rfl))))) (@pss_cons _ _ _ _ _ (ps_set (i:=7) scProg.nd rfl (Or.inl rfl) (pe_callTy call_tuple_of rfl mt bootTuple (@pa_cons _ _ _ _ _ (pe_comp (own:=["_law_j"]) (caps:=["_law_words","_law_kinds"]) (κ:=[2,6]) rfl ⟨rfl,by decide +kernel,by decide +kernel,rfl,rfl,(fun y hy=>by simp only [List.mem_cons,List.not_mem_nil,or_false] at hy;rcases hy with rfl|rfl<;>rfl),(fun y hy=>by simp only [List.mem_cons,List.not_mem_nil,or_false] at hy;rcases hy with rfl|rfl<;>exact⟨.inl rfl,rfl,.inl rfl⟩)⟩ rfl (pi_range1 rfl mr (@pa_cons _ _ _ _ _ (pe_callB call_len_seq rfl ml PySem.boot_len (@pa_cons _ _ _ _ _ (pv 6) pa_nil rfl)) pa_nil rfl)) (fun _ _ _ _=>(pg_name (i:=0) (show(["_law_j","_law_words","_law_kinds"]:List Str).Nodup from by decide +kernel) rfl (Or.inl rfl))) (fun _ _ _ _=>(@pe_tup _ _ _ _ _ (@pa_cons _ _ _ _ _ (pe_ix (r:=rIxL K) ix_list (pv 1) (pe_op op_add pe_int (pv 0)) (fun _ _=>rfl)) (@pa_cons _ _ _ _ _ (pe_ix (r:=rIxL K) ix_list (pv 2) (pv 0) (fun _ _=>rfl)) pa_nil rfl) rfl)))) pa_nil rfl))) (@pss_cons _ _ _ _ _ (ps_asg (pe_call GB hrB rfl mB kB bB .nil pass0 (@pa_cons _ _ _ _ _ (pv 0) (@pa_cons _ _ _ _ _ (pv 5) (@pa_cons _ _ _ _ _ (pv 2) (@pa_cons _ _ _ _ _ (pv 3) (@pa_cons _ _ _ _ _ (pv 4) (@pa_cons _ _ _ _ _ (pv 7) pa_nil rfl) rfl) rfl) rfl) rfl) rfl)) (pg_tup rfl (pgs_cons (pg_name (i:=8) scProg.nd rfl (Or.inl rfl)) (pgs_cons (pg_name (i:=9) scProg.nd rfl (Or.inl rfl)) pgs_nil)))) (@pss_cons _ _ _ _ _ (ps_set (i:=10) scProg.nd rfl (Or.inl rfl) (pe_call GP hr2 rfl mP kP bP .nil pass0 (@pa_cons _ _ _ _ _ (pv 0) (@pa_cons _ _ _ _ _ (pe_op op_add pe_int (pe_op op_mul pe_int (pv 5))) (@pa_cons _ _ _ _ _ pe_int pa_nil rfl) rfl) rfl))) (@pss_cons _ _ _ _ _ (ps_if (pt_cmpR op_eq (pv 10) pe_int (nomark _)) (@pss_one _ _ _ (ps_set (i:=9) scProg.nd rfl (Or.inl rfl) (@pe_tup _ _ _ _ _ (@pa_cons _ _ _ _ _ pe_str (@pa_cons _ _ _ _ _ (pe_ix ix_list (pv 2) pe_int (fun _ _=>rfl)) (@pa_cons _ _ _ _ _ (pv 9) (@pa_cons _ _ _ _ _ (@pe_tup _ _ _ _ _ (@pa_cons _ _ _ _ _ pe_str (@pa_cons _ _ _ _ _ (pe_ix ix_list (pv 2) pe_int (fun _ _=>rfl)) pa_nil rfl) rfl)) pa_nil rfl) rfl) rfl) rfl)))) pss_nil) (@pss_cons _ _ _ _ _ (ps_if (pt_cmpR op_eq (pv 10) pe_int (nomark _)) (@pss_one _ _ _ (ps_set (i:=9) scProg.nd rfl (Or.inl rfl) (@pe_tup _ _ _ _ _ (@pa_cons _ _ _ _ _ pe_str (@pa_cons _ _ _ _ _ (@pe_tup _ _ _ _ _ (@pa_cons _ _ _ _ _ pe_str (@pa_cons _ _ _ _ _ pe_int (@pa_cons _ _ _ _ _ pe_int pa_nil rfl) rfl) rfl)) (@pa_cons _ _ _ _ _ (pv 9) (@pa_cons _ _ _ _ _ (pe_call GT hrT rfl mT kT bT .nil pass0 (@pa_cons _ _ _ _ _ (pv 8) (@pa_cons _ _ _ _ _ (pv 5) pa_nil rfl) rfl)) pa_nil rfl) rfl) rfl) rfl)))) pss_nil) d6))))),?_⟩
  intro D H3 l i v6 v7 v8 v9 v10 ys fs hi s3 hl hl3 hfs hpr hfl hD
  have lf:=hfs.length
  refine⟨_,rfl,_,rfl,_,_,rfl,rfl,.inr ⟨by omega,by omega⟩,_,_,rfl,rfl,a,ns,8+4*(i:Int),4,rfl,s3.seq hS,h63,by omega,by omega,by decide,fun r r0 r1=>?_⟩
  refine⟨_,rfl,by omega,by omega,comp_eachR (H:=H3) (m:=r.toNat) (fun j Hz v=>∃k,KAt K Hz v k∧KOk k) (fun _ _ _ _ s' ⟨k,h1,h2⟩=>⟨k,h1.same s',h2⟩) (by omega) (fun j H4 N B hj s4 hN=>?_) (fun zs H4 D4 s4 hzl hz hD4=>?_)⟩
  ·refine⟨rfl,iteT (B:=True) ⟨_,rfl,_,rfl,_,rfl,_,_,rfl,rfl,.inr ⟨by omega,by omega⟩,_,_,rfl,rfl,_,rfl,_,_,rfl,rfl,a,ns,9+4*(i:Int)+(0+(j:Int)),4,rfl,(s3.trans s4).seq hS,h63,by omega,by omega,by decide,fun r' a' b'=>?_⟩⟩
   obtain⟨ps4,x0,hl4,e4,hk4⟩:=(hpool.same (s3.trans s4)).get a' b'
   exact⟨lo,_,_,_,rfl,rfl,SqL.of hl4,e4,hN _ _ (Same.refl _) ⟨pk n r',hk4,pk_ok hn⟩⟩
  ·have s5:=s4.trans (same_new hD4 (.lst zs))
   obtain⟨ks,hks⟩:=pair_choose (R:=fun v k=>KAt K H4 v k∧KOk k) hz
   have hkl:=hks.length
   have hko:∀k∈ks,KOk k:=pair_all (fun _ _ z=>z.2) hks
   refine⟨_,rfl,D4,_,rfl,.inl (SqL.of upd_same),_,rfl,by omega,by omega,comp_eachR (H:=upd H4 D4 (.lst zs)) (m:=((zs.length:Nat):Int).toNat) (fun j Hz v=>∃k,ks[j]?=some k∧PAt K Hz v (wd c (4+(j:Int)),k)) (fun _ _ _ _ s' ⟨k,h1,h2⟩=>⟨k,h1,h2.same s'⟩) (by omega) (fun j H6 N B hj s6 hN=>?_) (fun zs2 H6 D6 s6 hyl2 hy2 hD6=>?_)⟩
   ·have e0:(0:Int)+(j:Int)=(j:Int):=by omega
    rw [e0]
    have hj':j < zs.length:=by omega
    have s46:=(same_new hD4 (.lst zs)).trans s6
    obtain⟨k,hk,hkk,hkok⟩:=pair_get hks (List.getElem?_eq_getElem hj')
    refine⟨rfl,iteT (B:=True) ⟨_,rfl,_,rfl,_,_,rfl,rfl,lw,_,_,_,rfl,rfl,SqL.of ((s3.trans (s5.trans s6)) _ _ hw),wl_at c (by omega) (by omega),_,rfl,_,rfl,D4,_,_,_,rfl,rfl,SqL.of (s6 _ _ upd_same),atI_nat (List.getElem?_eq_getElem hj'),(by show 2≤sizeLine;decide),fun p hp=>hN _ _ (same_new hp _) ⟨k,hk,p,_,rfl,upd_same,wd_sm _ _,hkk.same (s46.trans (same_new hp _))⟩⟩⟩
   ·have s36:=s5.trans s6
    have hps2:PsAt K H6 zs2 (psOf c ks):=paired_of (by unfold psOf;rw [List.length_map,List.length_range,hyl2];omega) fun j v hv=>by
     obtain⟨k,h1,h2⟩:=hy2 j v hv
     exact⟨_,psOf_get h1,h2⟩
    have hpo:PsOk (psOf c ks):=psOf_ok (by omega) hko
    have n6:=same_new hD6 (.lst zs2)
    refine⟨D6,zs2,rfl,.inl ⟨SqL.of upd_same,fun tp htp=>?_⟩⟩
    have n7:=n6.trans (same_new htp (.tup zs2))
    have s37:=s36.trans n7
    have t37:=s3.trans s37
    refine⟨_,rfl,_,rfl,_,rfl,_,rfl,_,rfl,_,rfl,a,lw,lo,l,tp,ns,(i:Int),c,n,zs2,ys,fs,psOf c ks,rfl,t37.seq hS,h63,by omega,by omega,t37 _ _ hw,hpool.same t37,hn,s37 _ _ hl3,Paired.mapP hfs fun _ _ z=>z.same s37,by omega,hpr.fn,SqT.of upd_same,Paired.mapP hps2 fun _ _ z=>z.same n7,hpo,fun H8 p8 xk ye k e s8 hp8 hk he hb=>?_⟩
    have u8:=s37.trans s8
    have t8:=s3.trans u8
    have htp8:=s8 _ _ (upd_same (a:=tp) (o:=HO.tup zs2))
    refine⟨p8,_,rfl,SqT.of hp8,rfl,_,_,rfl,_,_,rfl,rfl,?_⟩
    refine⟨_,rfl,_,rfl,_,_,rfl,rfl,.inr ⟨by omega,by omega⟩,_,_,rfl,rfl,a,ns,10+4*(i:Int),4,rfl,t8.seq hS,h63,by omega,by omega,by decide,fun wv w0 w1=>?_⟩
    have fin:∀{H9:Hp} {y9:V} {e9:Ex} {σ:St},Same H8 H9→ExAt H9 y9 e9→Body fs (psOf c ks) k e9 12→σ=[some (.ref a),some (.int m),some (.ref lw),some (.ref lo),some (.ref l),some (.int (i:Int)),some (.ref D4),some (.ref tp),some xk,some y9,some (.int wv)]→t6 D σ H9:=fun {H9 y9 e9 σ} s9 he9 hb9 hσ=>by
     subst hσ
     have u9:=u8.trans s9
     exact k6 D H9 l tp i (.ref D4) xk y9 (.int wv) ys zs2 fs (psOf c ks) k e9 hi (s3.trans u9) hl (u9 _ _ hl3) (Paired.mapP hfs fun _ _ z=>z.same u9) hpr hfl (s9 _ _ htp8) (Paired.mapP hps2 fun _ _ z=>z.same (n7.trans (s8.trans s9))) hpo (hk.same s9) he9 hb9 fun σ H4 ys' fs' e' g1 g2 g3 g4 g5=>hD σ H4 ys' fs' _ _ _ _ _ e' g1 g2 g3 g4 g5
    refine⟨_,rfl,rfl,_,rfl,ite2 (fun z=>?_) (fun z=>?_)⟩
    ·have z':wv=0:=V.int.inj (of_decide_eq_true z)
     have hw8:=t8 _ _ hw
     refine⟨_,rfl,lw,_,_,_,rfl,rfl,SqL.of hw8,wl_at c (r:=4) (by decide) (by decide),_,rfl,_,rfl,lw,_,_,_,rfl,rfl,SqL.of hw8,wl_at c (r:=4) (by decide) (by decide),(by show 2≤sizeLine;decide),fun p9 h9=>⟨(by show 4≤sizeLine;decide),fun p10 h10=>?_⟩⟩
     have n9:=same_new h9 (.tup [.str "var",.str (wd c 4)])
     have n10:=same_new h10 (.tup [.str "let",.str (wd c 4),ye,.ref p9])
     refine⟨_,rfl,rfl,_,rfl,ite2 (fun z2=>?_) (fun _=>fin (e9:=.let_ (wd c 4) e (.var (wd c 4))) (n9.trans n10) (.let_ upd_same (he.same (n9.trans n10)) (.var (n10 _ _ upd_same) (wd9 _ _))) ((hb.let_ (wd_sm c 4)).le (by decide)) rfl)⟩
     have:=V.int.inj (of_decide_eq_true z2)
     omega
    ·refine⟨_,rfl,rfl,_,rfl,ite2 (fun z2=>?_) (fun _=>fin (Same.refl _) he (hb.le (by decide)) rfl)⟩
     obtain⟨g1,g2,g3⟩:=hb.1
     refine⟨(by show 3≤sizeLine;decide),fun p9 h9=>?_⟩
     have n9:=same_new h9 (.tup [.str "lit",.int 1,.int 2])
     refine⟨_,rfl,_,rfl,_,rfl,xk,k,(i:Int),rfl,(hk.same n9).1,g1,g2,fun H9 y9 s9 e9=>⟨(by show 4≤sizeLine;decide),fun p10 h10=>?_⟩⟩
     have n10:=same_new h10 (.tup [.str "if",.ref p9,ye,y9])
     have n910:=n9.trans (s9.trans n10)
     exact fin (e9:=.nd .if_ [.nd (.lit 1 2) [],e,startE k (i:Int)]) n910 (.nd (f:=.if_) (xs:=[.ref p9,ye,y9]) upd_same (.cons (.nd (f:=.lit 1 2) (xs:=[]) ((s9.trans n10) _ _ upd_same) .nil (fun _=>rfl)) (.cons (he.same n910) (.cons (e9.same n10) .nil))) (not_lit nofun)) ((hb.if_ (by decide)).le (by decide)) rfl
 refine⟨_,@pss_cons _ _ _ _ _ (ps_set (i:=4) scProg.nd rfl (Or.inl rfl) (pe_lst pa_nil)) (@pss_cons _ _ _ _ _ (ps_for PassesOwn.never rfl (pi_range1 rfl mr (@pa_cons _ _ _ _ _ (pv 1) pa_nil rfl)) (pg_name (i:=5) scProg.nd rfl (Or.inr rfl)) d0) (@pss_one _ _ _ (@ps_ret _ _ _ _ (pv 4)))),?_⟩
 refine⟨(by show 0≤sizeLine;decide),fun l hl=>?_⟩
 have s1:=same_new hl (.lst [])
 refine⟨_,rfl,_,rfl,by omega,by omega,?_⟩
 refine for_range (n:=m.toNat) (fun i σ H3=>∃v5 v6 v7 v8 v9 v10 ys fs,σ=[some (.ref a),some (.int m),some (.ref lw),some (.ref lo),some (.ref l),v5,v6,v7,v8,v9,v10]∧Same H H3∧H3 l=some (.lst ys)∧FnsAt K H3 ys fs∧ProgOk c fs∧fs.length=i) ⟨none,none,none,none,none,none,[],[],rfl,s1,upd_same,.nil,fun i f h=>by simp at h,rfl⟩ ?_ ?_
 ·rintro i σ H3 hi ⟨v5,v6,v7,v8,v9,v10,ys,fs,rfl,s3,hl3,hfs,hpr,hfl⟩
  have e0:(0:Int)+(i:Int)=(i:Int):=by omega
  rw [e0]
  exact k0 _ _ _ _ _ _ _ _ _ ys fs (by omega) s3 hl hl3 hfs hpr hfl fun σ H4 ys' fs' w6 w7 w8 w9 w10 e s4 g1 g2 g3 g4=>⟨_,w6,w7,w8,w9,w10,ys',fs',e,s4,g1,g2,g3,g4⟩
 ·rintro σ H3 ⟨v5,v6,v7,v8,v9,v10,ys,fs,rfl,s3,hl3,hfs,hpr,hfl⟩
  exact⟨_,rfl,q _ _ _ _ s3 hl3 hfs hpr (by omega)⟩
end
end K62
namespace K62
open PySem L2 Kk
def grE(x:Str)(b:Nat):Ex:=if b=1 then .nd .two [.nd .two [.var x,.var x],.nd (.lit 0 3) []] else .nd .two [.var x,.var x]
def gE(x:Str):List Nat→Ex
 |[]=>.nd (.lit 1 2) []
 |b::r=>.let_ x (grE x b) (gE x r)
def gF:Nat→List Nat→Nat
 |L,[]=>L
 |L,b::r=>gF (2*L+(if b=1 then 1 else 0)) r
theorem gF_ge:∀(r:List Nat) (L:Nat),L≤gF L r
 |[],L=>Nat.le_refl _
 |b::r,L=>by
  have h1:=gF_ge r (2*L+(if b=1 then 1 else 0))
  show L≤gF (2*L+(if b=1 then 1 else 0)) r
  split at h1<;>rename_i h<;>simp only [h,if_true,if_false]<;>omega
theorem gE_ht(x:Str):∀r:List Nat,(gE x r).ht≤r.length+5
 |[]=>by simp [gE,Ex.ht,hts]
 |b::r=>by
  have h1:=gE_ht x r
  have h2:(grE x b).ht≤4:=by
   unfold grE
   split<;>simp [Ex.ht,hts]
  simp only [gE,Ex.ht,List.length_cons]
  omega
theorem gE_cl{x:Str}(hx:smW x):∀r:List Nat,Cl (gE x r)
 |[]=>by simp only [gE,Cl,Cls,Fm.cl,and_self]
 |b::r=>by
  have h1:=gE_cl hx r
  have h2:Cl (grE x b):=by
   unfold grE
   split<;>simp only [Cl,Cls,Fm.cl,true_and,and_true]<;>simp only [hx.1,and_self]
  simp only [gE,Cl]
  exact⟨hx.1,h2,h1⟩
theorem kin_two{C:Orc}{ρ:Str→Option Kd}{e1 e2:Ex}{a b:Kd}(h1:kin 8000 C ρ e1=.ok a)(h2:kin 8000 C ρ e2=.ok b)(hd:Kd.depth (Kd.pair a b)≤50):kin 8000 C ρ (.nd .two [e1,e2])=if (Kd.pair a b).words≤8000 then .ok (.pair a b) else .no 3:=by
 rw [kin_nd (kins_cons h1 (kins_cons h2 kins_nil))]
 show(if ((Kd.pair a b).words:Int) > 8000 then R.no 3 else if Kd.depth (Kd.pair a b)≤50∧(Kd.pair a b).words≤9000 then R.ok (Kd.pair a b) else R.no 9)=_
 by_cases c:(Kd.pair a b).words≤8000
 ·rw [if_neg (by omega),if_pos ⟨hd,by omega⟩,if_pos c]
 ·rw [if_pos (by omega),if_neg c]
theorem kin_two_no{C:Orc}{ρ:Str→Option Kd}{e1 e2:Ex}{n:Nat}(h1:kin 8000 C ρ e1=.no n):kin 8000 C ρ (.nd .two [e1,e2])=.no n:=by
 rw [kin,kins,h1]
theorem kin_let{C:Orc}{ρ:Str→Option Kd}{x:Str}{a b:Ex}{k:Kd}(h:kin 8000 C ρ a=.ok k):kin 8000 C ρ (.let_ x a b)=kin 8000 C (fun y=>if y=x then some k else ρ y) b:=by rw [kin,h]
theorem kin_let_no{C:Orc}{ρ:Str→Option Kd}{x:Str}{a b:Ex}{n:Nat}(h:kin 8000 C ρ a=.no n):kin 8000 C ρ (.let_ x a b)=.no n:=by rw [kin,h]
theorem pair_words(a b:Kd):(Kd.pair a b).words=1+a.words+b.words:=rfl
theorem kin_gr{C:Orc}{x:Str}:∀(r:List Nat) (ρ:Str→Option Kd) (kd:Kd) (L:Nat),ρ x=some kd→kd.words+1=2*L→L≤4000→Kd.depth kd+2*r.length≤50→kin 8000 C ρ (gE x r)=if gF L r≤4000 then .ok (.num 2) else .no 3
 |[],ρ,kd,L,_,_,h4,_=>by
  show kin 8000 C ρ (.nd (.lit 1 2) [])=if L≤4000 then _ else _
  rw [if_pos h4,kin_nd kins_nil]
  rfl
 |b::r,ρ,kd,L,hx,hw,h4,hd=>by
  have w1:=words_pos kd
  have hv:kin 8000 C ρ (.var x)=.ok kd:=kin_var hx
  rw [List.length_cons] at hd
  have d1:Kd.depth (Kd.pair kd kd)=1+max (Kd.depth kd) (Kd.depth kd):=rfl
  have p1:=pair_words kd kd
  have i1:=kin_two hv hv (by omega)
  show kin 8000 C ρ (.let_ x (grE x b) (gE x r))=if gF (2*L+(if b=1 then 1 else 0)) r≤4000 then _ else _
  unfold grE
  by_cases hb:b=1
  ·rw [if_pos hb,if_pos hb]
   have g1:=gF_ge r (2*L+1)
   by_cases c:(Kd.pair kd kd).words≤8000
   ·rw [if_pos c] at i1
    have hl:kin 8000 C ρ (.nd (.lit 0 3) [])=.ok (.num 3):=by rw [kin_nd kins_nil];rfl
    have d2:Kd.depth (Kd.pair (Kd.pair kd kd) (.num 3))=1+max (Kd.depth (Kd.pair kd kd)) 1:=rfl
    have p2:=pair_words (Kd.pair kd kd) (.num 3)
    have p3:(Kd.num 3).words=1:=rfl
    have i2:=kin_two i1 hl (by omega)
    by_cases c2:(Kd.pair (Kd.pair kd kd) (.num 3)).words≤8000
    ·rw [if_pos c2] at i2
     rw [kin_let i2]
     exact kin_gr r _ _ (2*L+1) (if_pos rfl) (by omega) (by omega) (by omega)
    ·rw [if_neg c2] at i2
     rw [kin_let_no i2,if_neg (by omega)]
   ·rw [if_neg c] at i1
    rw [kin_let_no (kin_two_no i1),if_neg (by omega)]
  ·rw [if_neg hb,if_neg hb]
   have g1:=gF_ge r (2*L+0)
   by_cases c:(Kd.pair kd kd).words≤8000
   ·rw [if_pos c] at i1
    rw [kin_let i1]
    exact kin_gr r _ _ (2*L+0) (if_pos rfl) (by omega) (by omega) (by omega)
   ·rw [if_neg c] at i1
    rw [kin_let_no i1,if_neg (by omega)]
def spGrown:Sp:=fun vs H Q _=>∃(lw:Addr) (c lv:Int),vs=[.int lv,.ref lw]∧H lw=some (.lst (wl c))∧1≤lv∧lv≤5000∧∀H' y e,Same H H'→ExAt H' y e→e.ht≤30→Cl e→(∀C ρ,kin 8000 C ρ e=if lv≤4000 then .ok (.num 2) else .no 3)→Q y H'
section
variable{P:Program}{w:World}{K:PySem.W.Frag}{mg:Str→Option Value}{base:Heap}
theorem scGrown:FnScope ["_law_leaves","_law_words","_law_bits","_law_rest","_law_x","_law_body_here","_law_bit","_law_grown_here"] ["_law_leaves","_law_words"] (defScope sGrown):=⟨rfl,rfl,rfl,by decide +kernel,rfl,by decide +kernel,by decide +kernel⟩
set_option maxHeartbeats 0 in
theorem ok_grown{f:Addr}{fd:FuncData} (F:Fun K "_law_grown" "_law_grown" sGrown f fd):FnOk P w K mg base CX0 1 f fd ["_law_leaves","_law_words"] spGrown:=by
 refine F.ok scGrown (fun vs H Q E h=>?_) (fun cdv A outer s H vs Q E hr h=>?_)
 ·obtain⟨_,_,_,rfl,_⟩:=h
  rfl
 obtain⟨lw,c,lv,rfl,hw,v1,v5,q⟩:=h
 refine⟨_,@pss_cons _ _ _ _ _ (ps_set (i:=2) scGrown.nd rfl (Or.inl rfl) (pe_lst pa_nil)) (@pss_cons _ _ _ _ _ (ps_set (i:=3) scGrown.nd rfl (Or.inl rfl) (pv 0)) (@pss_cons _ _ _ _ _ (ps_while PassesOwn.never (pt_cmpR op_gt (pv 3) pe_int (nomark _)) (@pss_cons _ _ _ _ _ (ps_expr (pe_bm PySem.F.plainAttrs_list PySem.F.slot_list_append PySem.F.type_list_append mt_append (pv 2) (@pa_cons _ _ _ _ _ (pe_op op_mod (pv 3) pe_int) pa_nil rfl))) (@pss_one _ _ _ (ps_set (i:=3) scGrown.nd rfl (Or.inl rfl) (pe_op op_fdiv (pv 3) pe_int))))) (@pss_cons _ _ _ _ _ (ps_set (i:=4) scGrown.nd rfl (Or.inl rfl) (@pe_tup _ _ _ _ _ (@pa_cons _ _ _ _ _ pe_str (@pa_cons _ _ _ _ _ (pe_ix ix_list (pv 1) pe_int (fun _ _=>rfl)) pa_nil rfl) rfl))) (@pss_cons _ _ _ _ _ (ps_set (i:=5) scGrown.nd rfl (Or.inl rfl) (@pe_tup _ _ _ _ _ (@pa_cons _ _ _ _ _ pe_str (@pa_cons _ _ _ _ _ pe_int (@pa_cons _ _ _ _ _ pe_int pa_nil rfl) rfl) rfl))) (@pss_cons _ _ _ _ _ (ps_for PassesOwn.never rfl (pi_list (pv 2)) (pg_name (i:=6) scGrown.nd rfl (Or.inl rfl)) (@pss_cons _ _ _ _ _ (ps_set (i:=7) scGrown.nd rfl (Or.inl rfl) (@pe_tup _ _ _ _ _ (@pa_cons _ _ _ _ _ pe_str (@pa_cons _ _ _ _ _ (pv 4) (@pa_cons _ _ _ _ _ (pv 4) pa_nil rfl) rfl) rfl))) (@pss_cons _ _ _ _ _ (ps_if (pt_cmpR op_eq (pv 6) pe_int (nomark _)) (@pss_one _ _ _ (ps_set (i:=7) scGrown.nd rfl (Or.inl rfl) (@pe_tup _ _ _ _ _ (@pa_cons _ _ _ _ _ pe_str (@pa_cons _ _ _ _ _ (@pe_tup _ _ _ _ _ (@pa_cons _ _ _ _ _ pe_str (@pa_cons _ _ _ _ _ (pv 4) (@pa_cons _ _ _ _ _ (pv 4) pa_nil rfl) rfl) rfl)) (@pa_cons _ _ _ _ _ (@pe_tup _ _ _ _ _ (@pa_cons _ _ _ _ _ pe_str (@pa_cons _ _ _ _ _ pe_int (@pa_cons _ _ _ _ _ pe_int pa_nil rfl) rfl) rfl)) pa_nil rfl) rfl) rfl)))) pss_nil) (@pss_one _ _ _ (ps_set (i:=5) scGrown.nd rfl (Or.inl rfl) (@pe_tup _ _ _ _ _ (@pa_cons _ _ _ _ _ pe_str (@pa_cons _ _ _ _ _ (pe_ix ix_list (pv 1) pe_int (fun _ _=>rfl)) (@pa_cons _ _ _ _ _ (pv 7) (@pa_cons _ _ _ _ _ (pv 5) pa_nil rfl) rfl) rfl) rfl))))))) (@pss_one _ _ _ (@ps_ret _ _ _ _ (@pe_tup _ _ _ _ _ (@pa_cons _ _ _ _ _ pe_str (@pa_cons _ _ _ _ _ (pe_ix ix_list (pv 1) pe_int (fun _ _=>rfl)) (@pa_cons _ _ _ _ _ (@pe_tup _ _ _ _ _ (@pa_cons _ _ _ _ _ pe_str (@pa_cons _ _ _ _ _ pe_int (@pa_cons _ _ _ _ _ pe_int pa_nil rfl) rfl) rfl)) (@pa_cons _ _ _ _ _ (pv 5) pa_nil rfl) rfl) rfl) rfl))))))))),?_⟩
 refine⟨(by show 0≤sizeLine;decide),fun l hl=>?_⟩
 have s1:=same_new hl (.lst [])
 refine⟨_,rfl,?_⟩
 refine while_by (fun σ H2=>∃(bs:List Nat) (r j:Nat),σ=[some (.int lv),some (.ref lw),some (.ref l),some (.int (r:Int)),none,none,none,none]∧Same H H2∧H2 l=some (.lst (bs.map fun b:Nat=>V.int (b:Int)))∧bs.length+j=13∧r < 2 ^ j∧1≤r∧gF r bs.reverse=lv.toNat)
  (fun σ _=>match σ with|[_,_,_,some (.int r),_,_,_,_]=>r.toNat|_=>0) ⟨[],lv.toNat,13,by rw [show((lv.toNat:Nat):Int)=lv by omega]<;>rfl,s1,upd_same,rfl,by omega,by omega,rfl⟩ ?_ ?_
 ·rintro σ H2 ⟨bs,r,j,rfl,s2,hl2,hj,hr2,hr1,hF⟩
  refine⟨_,rfl,_,_,rfl,rfl,_,rfl,ite2 (fun z=>?_) (fun z=>?_)⟩
  ·have z':(1:Int) < (r:Int):=of_decide_eq_true z
   have e1:(r:Int) / 2=((r / 2:Nat):Int):=by omega
   have e2:(r:Int)%2=((r%2:Nat):Int):=by omega
   obtain⟨j',rfl⟩:∃j',j=j'+1:=by
    cases j with
    |zero=>rw [Nat.pow_zero] at hr2;omega
    |succ j'=>exact⟨j',rfl⟩
   rw [Nat.pow_succ] at hr2
   refine⟨_,rfl,.inl ⟨rfl,_,SqL.of hl2⟩,_,rfl,_,_,rfl,rfl,(by show(0:Int) < 2;decide),l,_,_,rfl,rfl,hl2,small1000 (by rw [List.length_map];omega),?_⟩
   refine⟨_,rfl,_,_,rfl,rfl,⟨by decide,by decide⟩,?_⟩
   refine⟨⟨bs++[r%2],r / 2,j',by rw [←e1]<;>rfl,sput s2 hl,by rw [List.map_append,upd_same,e2]<;>rfl,by rw [List.length_append];show bs.length+1+j'=13;omega,by omega,by omega,?_⟩,?_⟩
   ·rw [List.reverse_append]
    show gF (2*(r / 2)+(if r%2=1 then 1 else 0)) bs.reverse=_
    rw [show 2*(r / 2)+(if r%2=1 then 1 else 0)=r by split<;>omega]
    exact hF
   ·show((r:Int) / 2).toNat < ((r:Int)).toNat
    omega
  ·have z':¬(1:Int) < (r:Int):=of_decide_eq_false (Bool.eq_false_iff.mpr z)
   obtain rfl:r=1:=by omega
   have hw2:=s2 _ _ hw
   refine⟨_,rfl,lw,_,_,_,rfl,rfl,SqL.of hw2,wl_at c (r:=3) (by decide) (by decide),(by show 2≤sizeLine;decide),fun p1 h1=>?_⟩
   have n1:=same_new h1 (.tup [.str "var",.str (wd c 3)])
   refine⟨(by show 3≤sizeLine;decide),fun p2 h2=>?_⟩
   have n2:=same_new h2 (.tup [.str "lit",.int 1,.int 2])
   have s3:=s2.trans (n1.trans n2)
   have hx1:ExAt (upd (upd H2 p1 (.tup [.str "var",.str (wd c 3)])) p2 (.tup [.str "lit",.int 1,.int 2])) (.ref p1) (.var (wd c 3)):=.var (n2 _ _ upd_same) (wd9 _ _)
   refine⟨_,rfl,l,rfl,⟨_,SqL.of ((n1.trans n2) _ _ hl2)⟩,for_list (xs:=bs.map fun b:Nat=>V.int (b:Int)) (fun i σ H3=>∃v6 v7 y,σ=[some (.int lv),some (.ref lw),some (.ref l),some (.int ((1:Nat):Int)),some (.ref p1),some y,v6,v7]∧Same (upd (upd H2 p1 (.tup [.str "var",.str (wd c 3)])) p2 (.tup [.str "lit",.int 1,.int 2])) H3∧ExAt H3 y (gE (wd c 3) (bs.take i).reverse)) ?_ ?_ ?_ ?_⟩
   ·exact⟨none,none,.ref p2,rfl,Same.refl _,.nd (f:=.lit 1 2) (xs:=[]) upd_same .nil (fun _=>rfl)⟩
   ·rintro i σ H3 _ ⟨_,_,_,_,s4,_⟩
    exact SqL.of (s4 _ _ ((n1.trans n2) _ _ hl2))
   ·rintro i x σ H3 hx ⟨v6,v7,y,rfl,s4,hy⟩
    rw [List.getElem?_map] at hx
    obtain⟨b,hb,rfl⟩:=Option.map_eq_some_iff.mp hx
    have et:(bs.take (i+1)).reverse=b::(bs.take i).reverse:=by rw [←take_snoc hb,List.reverse_append];rfl
    have hw4:=(s3.trans s4) _ _ hw
    have hx4:=hx1.same s4
    refine⟨_,rfl,_,rfl,(by show 3≤sizeLine;decide),fun p3 h3=>?_⟩
    have n3:=same_new h3 (.tup [.str "two",.ref p1,.ref p1])
    refine⟨_,rfl,rfl,_,rfl,ite2 (fun z=>?_) (fun z=>?_)⟩
    ·have z':b=1:=by
      have:=V.int.inj (of_decide_eq_true z)
      omega
     refine⟨_,rfl,_,rfl,(by show 3≤sizeLine;decide),fun p4 h4=>⟨(by show 3≤sizeLine;decide),fun p5 h5=>⟨(by show 3≤sizeLine;decide),fun p6 h6=>?_⟩⟩⟩
     have n4:=same_new h4 (.tup [.str "two",.ref p1,.ref p1])
     have n5:=same_new h5 (.tup [.str "lit",.int 0,.int 3])
     have n6:=same_new h6 (.tup [.str "two",.ref p4,.ref p5])
     have n56:=n5.trans n6
     have n36:=n3.trans (n4.trans n56)
     refine⟨_,rfl,lw,_,_,_,rfl,rfl,SqL.of (n36 _ _ hw4),wl_at c (r:=3) (by decide) (by decide),_,rfl,_,rfl,(by show 4≤sizeLine;decide),fun p7 h7=>?_⟩
     have n7:=same_new h7 (.tup [.str "let",.str (wd c 3),.ref p6,y])
     have n37:=n36.trans n7
     refine⟨_,_,_,rfl,s4.trans n37,?_⟩
     rw [et]
     show ExAt _ _ (.let_ (wd c 3) (grE (wd c 3) b) (gE (wd c 3) (bs.take i).reverse))
     unfold grE
     rw [if_pos z']
     have hx6:=hx4.same n37
     exact .let_ upd_same (.nd (f:=.two) (xs:=[.ref p4,.ref p5]) (n7 _ _ upd_same) (.cons (.nd (f:=.two) (xs:=[.ref p1,.ref p1]) ((n56.trans n7) _ _ upd_same) (.cons hx6 (.cons hx6 .nil)) (not_lit nofun)) (.cons (.nd (f:=.lit 0 3) (xs:=[]) ((n6.trans n7) _ _ upd_same) .nil (fun _=>rfl)) .nil)) (not_lit nofun)) (hy.same n37)
    ·have z':b≠1:=fun e=>z (by subst e;exact decide_eq_true rfl)
     refine⟨_,rfl,lw,_,_,_,rfl,rfl,SqL.of (n3 _ _ hw4),wl_at c (r:=3) (by decide) (by decide),_,rfl,_,rfl,(by show 4≤sizeLine;decide),fun p7 h7=>?_⟩
     have n7:=same_new h7 (.tup [.str "let",.str (wd c 3),.ref p3,y])
     have n37:=n3.trans n7
     refine⟨_,_,_,rfl,s4.trans n37,?_⟩
     rw [et]
     show ExAt _ _ (.let_ (wd c 3) (grE (wd c 3) b) (gE (wd c 3) (bs.take i).reverse))
     unfold grE
     rw [if_neg z']
     have hx6:=hx4.same n37
     exact .let_ upd_same (.nd (f:=.two) (xs:=[.ref p1,.ref p1]) (n7 _ _ upd_same) (.cons hx6 (.cons hx6 .nil)) (not_lit nofun)) (hy.same n37)
   ·rintro σ H3 ⟨v6,v7,y,rfl,s4,hy⟩
    rw [List.length_map,List.take_length] at hy
    have hw4:=(s3.trans s4) _ _ hw
    refine⟨_,rfl,lw,_,_,_,rfl,rfl,SqL.of hw4,wl_at c (r:=3) (by decide) (by decide),(by show 3≤sizeLine;decide),fun p8 h8=>?_⟩
    have n8:=same_new h8 (.tup [.str "lit",.int 0,.int 1])
    refine⟨_,rfl,(by show 4≤sizeLine;decide),fun p9 h9=>?_⟩
    have n9:=same_new h9 (.tup [.str "let",.str (wd c 3),.ref p8,y])
    have n89:=n8.trans n9
    have hh:=gE_ht (wd c 3) bs.reverse
    rw [List.length_reverse] at hh
    refine q _ _ (.let_ (wd c 3) (.nd (.lit 0 1) []) (gE (wd c 3) bs.reverse)) (s3.trans (s4.trans n89)) (.let_ upd_same (.nd (f:=.lit 0 1) (xs:=[]) (n9 _ _ upd_same) .nil (fun _=>rfl)) (hy.same n89)) ?_ ?_ fun C ρ=>?_
    ·simp only [Ex.ht,hts,List.length_nil]
     omega
    ·simp only [Cl,Cls,Fm.cl,and_self,true_and]
     exact⟨(wd_sm c 3).1,gE_cl (wd_sm c 3) _⟩
    ·rw [kin_let (k:=.num 1) (by rw [kin_nd kins_nil];rfl),kin_gr bs.reverse _ (.num 1) 1 (if_pos rfl) rfl (by decide) (by rw [List.length_reverse];show 1+2*bs.length≤50;omega),hF]
     by_cases cc:lv≤4000
     ·rw [if_pos cc,if_pos (by omega)]
     ·rw [if_neg cc,if_neg (by omega)]
 ·rintro σ H2 Q1 Q2 hq ⟨v,e1,i,j,e2,e3,b,e4,h⟩
  exact⟨v,e1,i,j,e2,e3,b,e4,hq _ _ h⟩
end
end K62
namespace K62
open PySem L2 Kk
abbrev nm:Nat→Str
 |0=>"NoName"
 |1=>"NoCount"
 |2=>"WrongKind"
 |3=>"TooBig"
 |_=>"Twice"
def FOut(K:PySem.W.Frag)(fs:List Fn)(r:Option Nat)(H':Hp)(p:Addr):Prop:=match r with
 |none=>∃d,H' p=some (.tup [.str "",.ref d])∧TabN K H' d fs
 |some c=>c < 5∧H' p=some (.tup [.str (nm c),.non])
def spFound(K:PySem.W.Frag)(T:Addr):Sp:=fun vs H Q _=>∃(l:Addr) (xs:List V) (fs:List Fn),vs=[.ref l]∧H T=some (.tbl tabL)∧SqL K H l xs∧FnsAt K H xs fs∧fs.length≤200∧(∀c,plainR [] fs=some c→c < 5)∧∀H' p,Same H H'→FOut K fs (plainR [] fs) H' p→Q (.ref p) H'
section
variable{P:Program}{w:World}{K:PySem.W.Frag}{mg:Str→Option Value}{base:Heap}{cl:Nat→Addr}
abbrev foN:List Str:=["_law_program_here","_law_word_here","_law_found_here"]
theorem scFound:FnScope foN ["_law_program_here"] (defScope sFound):=⟨rfl,rfl,rfl,by decide +kernel,rfl,by decide +kernel,by decide +kernel⟩
set_option maxHeartbeats 0 in
theorem ok_found{f fZ T:Addr}{fd fdZ:FuncData} (F:Fun K "_law_found" "_law_found" sFound f fd)
  (GZ:FnOk P w K mg base (CX1 P w) 66 fZ fdZ ["program"] (spPlain K cl T)) (bZ:Binds K fdZ ["program"] []) (kZ:PySem.W.keepIn K (.ref fZ)=true) (mZ:mg "plain_look"=some (.ref fZ))
  (m0:mg "NoName"=some (.ref (cl 0))) (m1:mg "NoCount"=some (.ref (cl 1))) (m2:mg "WrongKind"=some (.ref (cl 2))) (m3:mg "TooBig"=some (.ref (cl 3))) (m4:mg "Twice"=some (.ref (cl 4)))
  (xm:∀i j,i < 5→j < 5→PySem.W.exmOne K (.ref (cl i)) (.ref (cl j))=some (decide (i=j))):FnOk P w K mg base CX0 67 f fd ["_law_program_here"] (spFound K T):=by
 refine F.ok (k:=66) scFound (fun vs H Q E h=>?_) (fun cdv A outer s H vs Q E hrZ h=>?_)
 ·obtain⟨_,_,_,rfl,_⟩:=h
  rfl
 obtain⟨l,xs,fs,rfl,hT,hl,hfs,h200,hc5,q⟩:=h
 obtain⟨th,hH,hN⟩:∃th,PH (cxOf CX0 P w K mg base foN "_law_found" (defScope sFound) f cdv A outer s H E).nox (tryHs (List.drop 2 (defBody sFound))) th ∧
   ∀n,n < 5→∀D dd ee H' y5,D.nx [some (.ref l),some (.str (nm n)),y5] H'→th D (.ref (cl n)) dd ee [some (.ref l),some (.str ""),y5] H':=by
  refine⟨_,ph_cons rfl m4 (fun e=>pss_one (ps_set (i:=1) scFound.nd rfl (Or.inl rfl) pe_str)) (ph_cons rfl m0 (fun e=>pss_one (ps_set (i:=1) scFound.nd rfl (Or.inl rfl) pe_str)) (ph_cons rfl m2 (fun e=>pss_one (ps_set (i:=1) scFound.nd rfl (Or.inl rfl) pe_str)) (ph_cons rfl m1 (fun e=>pss_one (ps_set (i:=1) scFound.nd rfl (Or.inl rfl) pe_str)) (ph_cons rfl m3 (fun e=>pss_one (ps_set (i:=1) scFound.nd rfl (Or.inl rfl) pe_str)) ph_nil)))),fun n hn D dd ee H' y5 qq=>?_⟩
  have:n=0∨n=1∨n=2∨n=3∨n=4:=by omega
  rcases this with rfl|rfl|rfl|rfl|rfl
  ·exact⟨false,xm 0 4 (by decide) (by decide),iteF ⟨true,xm 0 0 (by decide) (by decide),iteT qq⟩⟩
  ·exact⟨false,xm 1 4 (by decide) (by decide),iteF ⟨false,xm 1 0 (by decide) (by decide),iteF ⟨false,xm 1 2 (by decide) (by decide),iteF ⟨true,xm 1 1 (by decide) (by decide),iteT qq⟩⟩⟩⟩
  ·exact⟨false,xm 2 4 (by decide) (by decide),iteF ⟨false,xm 2 0 (by decide) (by decide),iteF ⟨true,xm 2 2 (by decide) (by decide),iteT qq⟩⟩⟩
  ·exact⟨false,xm 3 4 (by decide) (by decide),iteF ⟨false,xm 3 0 (by decide) (by decide),iteF ⟨false,xm 3 2 (by decide) (by decide),iteF ⟨false,xm 3 1 (by decide) (by decide),iteF ⟨true,xm 3 3 (by decide) (by decide),iteT qq⟩⟩⟩⟩⟩
  ·exact⟨true,xm 4 4 (by decide) (by decide),iteT qq⟩
 refine⟨_,@pss_cons _ _ _ _ _ (ps_set (i:=1) scFound.nd rfl (Or.inl rfl) pe_str) (@pss_cons _ _ _ _ _ (ps_set (i:=2) scFound.nd rfl (Or.inl rfl) pe_non) (@pss_cons _ _ _ _ _ (ps_try fun pins D=>pss_one (ps_set (i:=2) scFound.nd rfl (Or.inl rfl) (pe_callE GZ hrZ rfl mZ kZ bZ .nil (passT rfl rfl hH) (@pa_cons _ _ _ _ _ (pv 0) pa_nil rfl)))) (@pss_one _ _ _ (@ps_ret _ _ _ _ (@pe_tup _ _ _ _ _ (@pa_cons _ _ _ _ _ (pv 1) (@pa_cons _ _ _ _ _ (pv 2) pa_nil rfl) rfl)))))),?_⟩
 refine⟨_,rfl,l,xs,fs,rfl,hT,hl,hfs,h200,?_⟩
 cases hr:plainR [] fs with
 |none =>
  rw [hr] at q
  intro H' d s1 hd
  exact⟨_,rfl,_,rfl,(by show 2≤sizeLine;decide),fun p hp=>q _ p (s1.trans (same_new hp _)) ⟨d,upd_same,hd.same (same_new hp _)⟩⟩
 |some n =>
  rw [hr] at q
  have hn:=hc5 n hr
  refine⟨hn,fun H' s1=>?_⟩
  refine fun ee he=>hN n hn _ _ _ _ _ ?_
  exact⟨_,rfl,_,rfl,(by show 2≤sizeLine;decide),fun p hp=>q _ p (s1.trans (same_new hp _)) ⟨hn,upd_same⟩⟩
end
end K62
namespace L2
open PySem PySem.Spec PyProof.Rows
open Sem (wp)
theorem meets_len_raw{prog:Program}{w:World}(d:Addr)(hd:(d==sysModules)=false):MeetsIn prog w (Builtin.«dict.__len__» ⟨[.ref d],[]⟩) (fun _ R s=>∃o es ep,s.heap.get? d=some o∧o.data=Data.dict es ep∧R (.ok (.ret (.int es.size s.toks))) { s with toks:=s.toks+1 }) :=
 .of_wp fun A R s ⟨o,es,ep,ho,hdat,h⟩=>by
  show wpAny (model prog w) _ (dictSize d >>= _) _ _ s
  unfold dictSize
  refine wpAny_bind (wpAny_bind (wpAny_dictEntries ho hdat (wpAny_pure ?_)))
  show wpAny _ _ (Builtin.Dict.pendingCount d >>= _) _ _ s
  refine wpAny_bind (wpAny_pendingCount_other hd (wpAny_ret_mkInt ?_))
  rw [Nat.add_zero]
  exact h
section
variable{X:Cx}
theorem call_lenDT:CallR X (.builtin "len") (fun xs H Q=>∃a kvs,xs=[V.ref a]∧H a=some (.dT kvs)∧Q (.int kvs.length) H):=by
 intro pins s σ H xs us Q I r h
 obtain⟨a,kvs,rfl,ha,q⟩:=h
 obtain⟨u,rfl,ru⟩:=vals1 r
 cases ru
 obtain⟨hz,hd,vs,rel,o,es,ep,h1,h2,h3,h4,h5,h6⟩:=dt_rd I.hok (.inl ha)
 have hsz:es.size=kvs.length:=by
  have e1:es.toList.length=vs.length:=by rw [h4,List.length_map]
  rw [rel.length]
  simpa using e1
 have ty:s.TypeIs (.ref a) "dict":=Heap.DictOfH.typeIs ⟨o,es,ep,h1,h2,h3,h4,h5,h6⟩
 refine Calls.call_function_entry kind_len plain_len entry_len (args_len1 _) ?_
 unfold Builtin.«len»
 refine wpAny_bind (m:=oneArg "len" _) (wpAny_pure ?_)
 refine wpAny_bind (m:=callSpecial? (.ref a) (Str.ofString "__len__")) (wpAny_callSpecial?_slot (name:=Str.ofString "__len__") ty F.slot_dict_len
  (call_meetsIn F.slot_dict_len ty F.entry_dict_len (F.args_dict_len_1 _) (meets_len_raw a hd) ⟨o,es,ep,h1,h3,?_⟩))
 show wpAny _ _ _ _ _ { s with toks:=s.toks+1 }
 refine wpAny_bind (wpAny_holding (wpAny_pure ?_))
 refine wpAny_bind (wpAny_letGo ?_)
 have hz':es.size≤2 ^ 59:=by rw [hsz];exact Nat.le_trans hz (by rw [sizeLine_eq];decide)
 show wpAny _ _ (if ((es.size:Nat):Int) < 0 then _ else _) _ _ _
 rw [if_neg (by omega)]
 show wpAny _ _ (if ((es.size:Nat):Int)≥2 ^ 63 then _ else _) _ _ _
 rw [if_neg (by omega)]
 rw [hsz]
 exact wpAny_bind (wpAny_mkInt (wpAny_pure ⟨_,rfl,.int kvs.length,H,I.tok _,⟨_,rfl⟩,q⟩))
end
end L2
namespace K62
open PySem L2 Kk
theorem tabC_mem:∀{fs:List Fn} {f:Fn},(fs.map fun f=>(f.q,f.t)).Nodup→f∈fs→tabC fs f.q f.t=some (f.ps.map (·.2),f.k)
 |g::r,f,hn,h=>by
  rw [List.map_cons,List.nodup_cons] at hn
  show(if f.q=g.q∧f.t=g.t then some (g.ps.map (·.2),g.k) else tabC r f.q f.t)=_
  rcases List.mem_cons.mp h with e|e
  ·rw [e,if_pos ⟨rfl,rfl⟩]
  ·rw [if_neg,tabC_mem hn.2 e]
   intro z
   exact hn.1 (List.mem_map.mpr ⟨f,e,by rw [z.1,z.2]⟩)
theorem kit_dd(K:PySem.W.Frag):PySem.W.kitOne K (.type "dict") (.type "dict")=some true:=rfl
def spTold(K:PySem.W.Frag):Sp:=fun vs H Q _=>∃(p l d:Addr) (xs:List V) (fs:List Fn),vs=[.ref p,.ref l]∧H p=some (.tup [.str "",.ref d])∧TabN K H d fs∧SqL K H l xs∧FnsAt K H xs fs∧fs.length≤200∧(fs.map fun f=>(f.q,f.t)).Nodup∧∀H',Same H H'→Q (.bl true) H'
section
variable{P:Program}{w:World}{K:PySem.W.Frag}{mg:Str→Option Value}{base:Heap}
theorem scTold:FnScope ["_law_found_here","_law_program_here","_law_name_here","_law_params","_law_kind","_law_expression","_law_due"] ["_law_found_here","_law_program_here"] (defScope sTold):=⟨rfl,rfl,rfl,by decide +kernel,rfl,by decide +kernel,by decide +kernel⟩
set_option maxHeartbeats 0 in
theorem ok_told{f fA:Addr}{fd fdA:FuncData} (F:Fun K "_law_told" "_law_told" sTold f fd) (ml:mg "len"=none) (mis:mg "isinstance"=none) (mt:mg "tuple"=none) (md:mg "dict"=none)
  (GA:FnOk P w K mg base CX0 62 fA fdA ["_law_found_here","_law_due"] (spSame K 62)) (bA:Binds K fdA ["_law_found_here","_law_due"] []) (kA:PySem.W.keepIn K (.ref fA)=true) (mA:mg "_law_same"=some (.ref fA)):FnOk P w K mg base CX0 63 f fd ["_law_found_here","_law_program_here"] (spTold K):=by
 refine F.ok (k:=62) scTold (fun vs H Q E h=>?_) (fun cdv A outer s H vs Q E hrA h=>?_)
 ·obtain⟨_,_,_,_,_,rfl,_⟩:=h
  rfl
 obtain⟨p,l,d,xs,fs,rfl,hp,hT,hl,hfs,h200,hnd,q⟩:=h
 have hu:=hu_of hrA
 have hxl:=hfs.length
 obtain⟨kvs,hkv,hkl,htb⟩:=id hT
 refine⟨_,@pss_cons _ _ _ _ _ (ps_if (PW.pt (pw_or (pt_cmpR op_ne (pe_ix ix_tup (pv 0) pe_int (fun _ _=>rfl)) pe_str (nomark _)) (pw_or (pt_not (L2.pt_val (pe_callB call_isi rfl mis bootIsi (@pa_cons _ _ _ _ _ (pe_ix ix_tup (pv 0) pe_int (fun _ _=>rfl)) (@pa_cons _ _ _ _ _ (pe_bltn rfl md bootDict (v:=.ty "dict") rfl) pa_nil rfl) rfl)))) (pw_or1 (pt_cmpR op_ne (pe_callB call_lenDT rfl ml PySem.boot_len (@pa_cons _ _ _ _ _ (pe_ix ix_tup (pv 0) pe_int (fun _ _=>rfl)) pa_nil rfl)) (pe_callB call_len_seq rfl ml PySem.boot_len (@pa_cons _ _ _ _ _ (pv 1) pa_nil rfl)) (nomark _)))))) (@pss_one _ _ _ (@ps_ret _ _ _ _ pe_bl)) pss_nil) (@pss_cons _ _ _ _ _ (ps_for PassesOwn.never rfl (pi_list (pv 1)) (pg_tup rfl (pgs_cons (pg_name (i:=2) scTold.nd rfl (Or.inl rfl)) (pgs_cons (pg_name (i:=3) scTold.nd rfl (Or.inl rfl)) (pgs_cons (pg_name (i:=4) scTold.nd rfl (Or.inl rfl)) (pgs_cons (pg_name (i:=5) scTold.nd rfl (Or.inl rfl)) pgs_nil))))) (@pss_cons _ _ _ _ _ (ps_set (i:=6) scTold.nd rfl (Or.inl rfl) (@pe_tup _ _ _ _ _ (@pa_cons _ _ _ _ _ (pe_callTy call_tuple_of rfl mt bootTuple (@pa_cons _ _ _ _ _ (pe_comp (own:=["_law_param"]) (caps:=[]) (κ:=[]) rfl ⟨rfl,by decide +kernel,by decide +kernel,rfl,rfl,(fun y hy=>nomatch hy),(fun y hy=>nomatch hy)⟩ rfl (pi_tup (pv 3)) (fun _ _ _ _=>(pg_name (i:=0) (show(["_law_param"]:List Str).Nodup from by decide +kernel) rfl (Or.inl rfl))) (fun _ _ _ _=>(pe_ix (r:=rIxT K) ix_tup (pv 0) pe_int (fun _ _=>rfl)))) pa_nil rfl)) (@pa_cons _ _ _ _ _ (pv 4) pa_nil rfl) rfl))) (@pss_one _ _ _ (ps_if (PW.pt (pw_or (pt_cmp (pc_dnotin hu (pv 2) (pe_ix ix_tup (pv 0) pe_int (fun _ _=>rfl)))) (pw_or1 (pt_not (L2.pt_val (pe_call GA hrA rfl mA kA bA .nil pass0 (@pa_cons _ _ _ _ _ (pe_dget hu (pe_ix ix_tup (pv 0) pe_int (fun _ _=>rfl)) (pv 2) (fun _ _=>rfl)) (@pa_cons _ _ _ _ _ (pv 6) pa_nil rfl) rfl))))))) (@pss_one _ _ _ (@ps_ret _ _ _ _ pe_bl)) pss_nil)))) (@pss_one _ _ _ (@ps_ret _ _ _ _ pe_bl))),?_⟩
 have ne0:(!decide (V.str ""=V.str ""))=false:=by rw [decide_eq_true rfl];rfl
 refine⟨_,rfl,p,_,_,_,rfl,rfl,SqT.of hp,at0,rfl,_,rfl,ite2 (fun c=>absurd (show(!decide (V.str ""=V.str ""))=true from c) (by rw [ne0];decide)) (fun _=>?_)⟩
 refine⟨_,rfl,p,_,_,_,rfl,rfl,SqT.of hp,at1,.ref d,"dict",_,true,rfl,.dT hkv,kit_dd K,true,rfl,iteF ?_⟩
 have nel:(!decide (V.int (kvs.length:Int)=V.int (xs.length:Int)))=false:=by rw [hkl,hxl,decide_eq_true rfl];rfl
 refine⟨_,rfl,p,_,_,_,rfl,rfl,SqT.of hp,at1,d,kvs,rfl,hkv,_,rfl,l,_,rfl,.inl hl,rfl,_,rfl,ite2 (fun c=>absurd (show(!decide (V.int (kvs.length:Int)=V.int (xs.length:Int)))=true from c) (by rw [nel];decide)) (fun _=>?_)⟩
 refine⟨_,rfl,l,rfl,⟨xs,hl⟩,for_list (xs:=xs) (fun i σ H3=>∃v2 v3 v4 v5 v6,σ=[some (.ref p),some (.ref l),v2,v3,v4,v5,v6]∧Same H H3) ⟨none,none,none,none,none,rfl,Same.refl _⟩ ?_ ?_ ?_⟩
 ·rintro i σ H3 _ ⟨_,_,_,_,_,_,s3⟩
  exact s3.seq hl
 ·rintro i x σ H3 hx ⟨v2,v3,v4,v5,v6,rfl,s3⟩
  obtain⟨f',hf',a,a1,a2,us,xk,xe,rfl,ha,ha1,wq,wt,ha2,hus,hu9,hk,he,hht⟩:=pair_get hfs hx
  have fm:f'∈fs:=List.mem_of_getElem? hf'
  have hul:=hus.length
  refine⟨a,_,rfl,SqT.of (s3 _ _ ha),rfl,_,_,rfl,_,_,rfl,_,_,rfl,_,_,rfl,rfl,?_⟩
  refine⟨_,rfl,a2,rfl,⟨us,s3.tup ha2⟩,comp_eachT (xs:=us) (fun j Hz v=>∃k,(f'.ps.map (·.2))[j]?=some k∧KAt K Hz v k) (fun _ _ _ _ s' ⟨k,h1,h2⟩=>⟨k,h1,h2.same s'⟩) (s3.tup ha2) (by omega) (fun j u H7 N B hu7 s8 hN=>?_) (fun ys H7 D s8 hyl hy hD=>?_)⟩
  ·obtain⟨⟨sw,kw⟩,hp',b,u',rfl,hb,hsw,hku⟩:=pair_get hus hu7
   refine⟨rfl,iteT (B:=True) ⟨_,rfl,b,_,_,_,rfl,rfl,SqT.of ((s3.trans s8) _ _ hb),at1,hN _ _ (Same.refl _) ⟨kw,?_,hku.same (s3.trans s8)⟩⟩⟩
   rw [List.getElem?_map,hp']
   rfl
  ·have hks:KsAt K H7 ys (f'.ps.map (·.2)):=paired_of (by rw [hyl,List.length_map];exact hul) hy
   have n1:=same_new hD (.lst ys)
   refine⟨D,ys,rfl,.inl ⟨SqL.of upd_same,fun t1 ht1=>?_⟩⟩
   have n2:=same_new ht1 (.tup ys)
   refine⟨_,rfl,(by show 2≤sizeLine;decide),fun t2 ht2=>?_⟩
   have n3:=same_new ht2 (.tup [.ref t1,xk])
   have s4:=s3.trans (s8.trans (n1.trans (n2.trans n3)))
   have hd4:=s4 _ _ hkv
   obtain⟨u,hu1,⟨p',tk,vs',x',rfl,g1,g2,g3,g4,g5⟩⟩:∃u,valV kvs [Sum.inr f'.q,Sum.inr f'.t]=some u∧ToldAt K H u (f'.ps.map (·.2)) f'.k:=by
    rcases htb f'.q f'.t with ⟨e1,_⟩|⟨us,k,u,e1,e2,e3⟩
    ·rw [tabC_mem hnd fm] at e1;cases e1
    ·rw [tabC_mem hnd fm] at e1
     cases e1
     exact⟨u,e2,e3⟩
   have g:=DGet.t (k:=[Sum.inr f'.q,Sum.inr f'.t]) hd4 (s4 _ _ ha1)
   rw [hu1] at g
   refine⟨_,rfl,_,rfl,p,_,_,_,rfl,rfl,SqT.of (s4 _ _ hp),at1,d,_,rfl,g,_,rfl,ite2 (fun c=>absurd (show false=true from c) (by decide)) (fun _=>?_)⟩
   have dat1:Dat K _ (.ref p') (.tuple [.tuple ((f'.ps.map (·.2)).map Kd.dat),Kd.dat f'.k]):=.tup (SqT.of (s4 _ _ g1)) (.cons (.tup (SqT.of (s4 _ _ g2)) (ks_dats (g3.same s4))) (.cons (kd_dat (g4.same s4).1) .nil))
   have dat2:Dat K _ (.ref t2) (.tuple [.tuple ((f'.ps.map (·.2)).map Kd.dat),Kd.dat f'.k]):=.tup (SqT.of upd_same) (.cons (.tup (SqT.of (n3 _ _ upd_same)) (ks_dats (hks.same (n1.trans (n2.trans n3))))) (.cons (kd_dat (hk.same s4).1) .nil))
   refine⟨_,rfl,p,_,_,_,rfl,rfl,SqT.of (s4 _ _ hp),at1,_,rfl,d,_,rfl,g,_,rfl,.ref p',.ref t2,_,rfl,dat1,dat2,?_,true,rfl,iteF ⟨_,_,_,_,_,rfl,s4⟩⟩
   have ald:∀k:Kd,Kd.sm k→AlD 60 (Kd.dat k):=fun k hk=>ald_kd k 59 (by have:=hk.2.1;omega)
   have kall:∀k∈f'.ps.map (·.2),Kd.sm k:=ks_sm g3
   refine⟨by show 2≤100;decide,fun d hd=>?_⟩
   simp only [List.mem_cons,List.not_mem_nil,or_false] at hd
   rcases hd with rfl|rfl
   ·refine⟨by rw [List.length_map];exact g5,fun d hd=>?_⟩
    obtain⟨k,hk,rfl⟩:=List.mem_map.mp hd
    exact ald k (kall k hk)
   ·exact ald_kd f'.k 60 (by have:=g4.2.2.1;omega)
 ·rintro σ H3 ⟨v2,v3,v4,v5,v6,rfl,s3⟩
  exact q _ s3
end
end K62
namespace K62
open PySem L2 Kk
theorem cut_to(xs:List V)(k:Nat):cutV xs none (some (k:Int))=xs.take k:=by
 unfold cutV
 rw [HT.sIx_nat,HT.sIx_none]
 simp
def rLen(K:PySem.W.Frag):List V→Hp→VK→Prop:=fun xs H Q=>∃p ys,xs=[V.ref p]∧(SqL K H p ys∨SqT K H p ys)∧Q (.int (ys.length:Int)) H
theorem call_lenK{X:Cx}{K:PySem.W.Frag}(h:X.K=K):CallR X (.builtin "len") (rLen K):=by
 subst h
 exact call_len_seq
def spCalled(K:PySem.W.Frag):Sp:=fun vs H Q _=>∃(a lr:Addr) (ns:List Int) (m:Nat) (ft:Int) (ys:List V) (fs:List Fn),vs=[.ref a,.ref lr,.int m,.int ft]∧SqL K H a (ns.map V.int)∧ns.length≤63∧(ft=6∨ft=7)∧H lr=some (.lst ys)∧FnsAt K H ys fs∧fs.length≤100∧m≤fs.length∧(∀f∈fs,FnOkk f)∧(∀H',Same H H'→Q .non H') ∧
 ∀H' p xk ye k e n,Same H H'→H' p=some (.tup [xk,ye,.str (nm n)])→KAt K H' xk k→ExAt H' ye e→e.ht≤20→n < 4→(∀C ρ,Told C (fs.take m)→kin 8000 C ρ e=.no n)→Q (.ref p) H'
theorem exs_of_pair{H:Hp}:∀{xs:List V} {es:List Ex},Paired (ExAt H) xs es→ExsAt H xs es
 |_,_,.nil=>.nil
 |_,_,.cons a r=>.cons a (exs_of_pair r)
theorem kins_start{C:Orc}{ρ:Str→Option Kd}{c:Int}:∀{ps:Ps},(∀p∈ps,KOk p.2)→kins 8000 C ρ (ps.map fun p=>startE p.2 c)=.ok (ps.map (·.2))
 |[],_=>kins_nil
 |p::r,h=>by
  obtain⟨g1,g2,g3⟩:=h p (.head _)
  exact kins_cons (kin_start p.2 c g1 (by omega) (by omega) (by omega)) (kins_start fun q hq=>h q (.tail _ hq))
theorem hts_start{c:Int}:∀{ps:Ps},(∀p∈ps,KOk p.2)→hts (ps.map fun p=>startE p.2 c)≤5
 |[],_=>by simp [hts]
 |p::r,h=>by
  have h1:=start_ht p.2 c
  have h2:=(h p (.head _)).2.1
  have h3:=hts_start (c:=c) (ps:=r) fun q hq=>h q (.tail _ hq)
  simp only [List.map_cons,hts]
  omega
theorem pair_set{α β:Type}{R:α→β→Prop}{x:α}{y:β}(h:R x y):∀{xs:List α} {ys:List β} {j:Nat},Paired R xs ys→Paired R (xs.set j x) (ys.set j y)
 |_,_,_,.nil=>.nil
 |_,_,0,.cons _ r=>.cons h r
 |_,_,j+1,.cons a r=>.cons a (pair_set (j:=j) h r)
theorem kins_set{C:Orc}{ρ:Str→Option Kd}{e:Ex}{k:Kd}(h:kin 8000 C ρ e=.ok k):∀{es:List Ex} {ks:List Kd} {j:Nat},kins 8000 C ρ es=.ok ks→kins 8000 C ρ (es.set j e)=.ok (ks.set j k)
 |[],ks,j,hk=>by rw [kins] at hk;cases hk;exact kins_nil
 |a::es,ks,j,hk=>by
  rw [kins] at hk
  cases h1:kin 8000 C ρ a with
  |no c=>rw [h1] at hk;cases hk
  |ok k1 =>
   rw [h1] at hk
   cases h2:kins 8000 C ρ es with
   |no c=>rw [h2] at hk;cases hk
   |ok k2 =>
    rw [h2] at hk
    cases hk
    cases j with
    |zero=>exact kins_cons h h2
    |succ j=>exact kins_cons h1 (kins_set (j:=j) h h2)
theorem hts_set{e:Ex}{n:Nat}(h:e.ht≤n):∀{es:List Ex} {j:Nat},hts es≤n→hts (es.set j e)≤n
 |[],j,hh=>hh
 |a::es,0,hh=>by
  simp only [List.set_cons_zero,hts] at hh ⊢
  omega
 |a::es,j+1,hh=>by
  simp only [List.set_cons_succ,hts] at hh ⊢
  have:=hts_set (j:=j) h (es:=es) (by omega)
  omega
theorem pair_ne(k b:Kd):Kd.pair k b≠k:=fun e=>by
 have h1:=congrArg Kd.words e
 rw [pair_words] at h1
 have:=words_pos b
 omega
section
variable{P:Program}{w:World}{K:PySem.W.Frag}{mg:Str→Option Value}{base:Heap}
theorem scCalled:FnScope ["_law_script","_law_program_here","_law_at","_law_fault","_law_ahead","_law_name_here","_law_params","_law_kind","_law_expression","_law_args_here"] ["_law_script","_law_program_here","_law_at","_law_fault"] (defScope sCalled):=⟨rfl,rfl,rfl,by decide +kernel,rfl,by decide +kernel,by decide +kernel⟩
set_option maxHeartbeats 0 in
theorem ok_calledL{f fP fT:Addr}{fd fdP fdT:FuncData} (F:Fun K "_law_called" "_law_called" sCalled f fd) (ml:mg "len"=none) (mt:mg "tuple"=none)
  (GP:FnOk P w K mg base CX0 2 fP fdP ["_law_script","_law_k","_law_many"] (spPick K)) (bP:Binds K fdP ["_law_script","_law_k","_law_many"] []) (kP:PySem.W.keepIn K (.ref fP)=true) (mP:mg "_law_pick"=some (.ref fP))
  (GT:FnOk P w K mg base CX0 3 fT fdT ["_law_kind","_law_cell_here"] (spStart K 3)) (bT:Binds K fdT ["_law_kind","_law_cell_here"] []) (kT:PySem.W.keepIn K (.ref fT)=true) (mT:mg "_law_start"=some (.ref fT)):FnOk P w K mg base CX0 4 f fd ["_law_script","_law_program_here","_law_at","_law_fault"] (spCalled K):=by
 refine F.ok (k:=3) scCalled (fun vs H Q E h=>?_) (fun cdv A outer s H vs Q E hrT h=>?_)
 ·obtain⟨_,_,_,_,_,_,_,rfl,_⟩:=h
  rfl
 obtain⟨a,lr,ns,m,ft,ys,fs,rfl,hS,h63,h67,hlr,hfs,h100,hm,hfo,qn,q⟩:=h
 have hr2:Room 2 _:=hrT.mono (by decide)
 have hyl:=hfs.length
 obtain⟨t2,d2,k2⟩:∃t,PSs (cxOf CX0 P w K mg base ["_law_script","_law_program_here","_law_at","_law_fault","_law_ahead","_law_name_here","_law_params","_law_kind","_law_expression","_law_args_here"] "_law_called" (defScope sCalled) f cdv A outer s H E).nox (List.drop 2 (defBody sCalled)) t ∧
   ∀(la:Addr) (zs:List V) (H3:Hp),Same H H3→H3 la=some (.lst zs)→zs.length≤100→(∀v∈zs,∃g,g∈fs.take m∧FnAt K H v g∧(ft=7→0 < g.ps.length)) →
    t { nx:=fun _ H'=>Q .non H',rt:=Q } [some (.ref a),some (.ref lr),some (.int m),some (.int ft),some (.ref la),none,none,none,none,none] H3:=by
  refine⟨_,@pss_cons _ _ _ _ _ (ps_if (pt_cmpR op_eq (pe_callB call_len_seq rfl ml PySem.boot_len (@pa_cons _ _ _ _ _ (pv 4) pa_nil rfl)) pe_int (nomark _)) (@pss_one _ _ _ (@ps_ret _ _ _ _ pe_non)) pss_nil) (@pss_cons _ _ _ _ _ (ps_asg (pe_ix ix_list (pv 4) (pe_call GP hr2 rfl mP kP bP .nil pass0 (@pa_cons _ _ _ _ _ (pv 0) (@pa_cons _ _ _ _ _ pe_int (@pa_cons _ _ _ _ _ (pe_callB call_len_seq rfl ml PySem.boot_len (@pa_cons _ _ _ _ _ (pv 4) pa_nil rfl)) pa_nil rfl) rfl) rfl)) (fun _ _=>rfl)) (pg_tup rfl (pgs_cons (pg_name (i:=5) scCalled.nd rfl (Or.inl rfl)) (pgs_cons (pg_name (i:=6) scCalled.nd rfl (Or.inl rfl)) (pgs_cons (pg_name (i:=7) scCalled.nd rfl (Or.inl rfl)) (pgs_cons (pg_name (i:=8) scCalled.nd rfl (Or.inl rfl)) pgs_nil)))))) (@pss_cons _ _ _ _ _ (ps_comp (i0:=9) scCalled.nd rfl (Or.inl rfl) (own:=["_law_param"]) (caps:=[]) (κ:=[]) rfl ⟨rfl,by decide +kernel,by decide +kernel,rfl,rfl,(fun y hy=>nomatch hy),(fun y hy=>nomatch hy)⟩ rfl (pi_tup (pv 6)) (fun _ _ _ _=>(pg_name (i:=0) (show(["_law_param"]:List Str).Nodup from by decide +kernel) rfl (Or.inl rfl))) (fun _ _ _ _=>(pe_call GT hrT rfl mT kT bT .nil pass0 (@pa_cons _ _ _ _ _ (pe_ix (r:=rIxT K) ix_tup (pv 0) pe_int (fun _ _=>rfl)) (@pa_cons _ _ _ _ _ pe_int pa_nil rfl) rfl)))) (@pss_cons _ _ _ _ _ (ps_if (pt_cmpR op_eq (pv 3) pe_int (nomark _)) (@pss_cons _ _ _ _ _ (ps_expr (pe_bm PySem.F.plainAttrs_list PySem.F.slot_list_append PySem.F.type_list_append mt_append (pv 9) (@pa_cons _ _ _ _ _ (@pe_tup _ _ _ _ _ (@pa_cons _ _ _ _ _ pe_str (@pa_cons _ _ _ _ _ pe_int (@pa_cons _ _ _ _ _ pe_int pa_nil rfl) rfl) rfl)) pa_nil rfl))) (@pss_one _ _ _ (@ps_ret _ _ _ _ (@pe_tup _ _ _ _ _ (@pa_cons _ _ _ _ _ (pv 7) (@pa_cons _ _ _ _ _ (@pe_tup _ _ _ _ _ (@pa_cons _ _ _ _ _ pe_str (@pa_cons _ _ _ _ _ (pe_ix ix_tup (pv 5) pe_int (fun _ _=>rfl)) (@pa_cons _ _ _ _ _ (pe_ix ix_tup (pv 5) pe_int (fun _ _=>rfl)) (@pa_cons _ _ _ _ _ (pe_callTy call_tuple_of rfl mt bootTuple (@pa_cons _ _ _ _ _ (pv 9) pa_nil rfl)) pa_nil rfl) rfl) rfl) rfl)) (@pa_cons _ _ _ _ _ pe_str pa_nil rfl) rfl) rfl))))) pss_nil) (@pss_cons _ _ _ _ _ (ps_asg (@pe_tup _ _ _ _ _ (@pa_cons _ _ _ _ _ pe_str (@pa_cons _ _ _ _ _ (pe_ix ix_list (pv 9) (pe_op op_sub (pe_callB call_len_seq rfl ml PySem.boot_len (@pa_cons _ _ _ _ _ (pv 9) pa_nil rfl)) pe_int) (fun _ _=>rfl)) (@pa_cons _ _ _ _ _ (@pe_tup _ _ _ _ _ (@pa_cons _ _ _ _ _ pe_str (@pa_cons _ _ _ _ _ pe_int (@pa_cons _ _ _ _ _ pe_int pa_nil rfl) rfl) rfl)) pa_nil rfl) rfl) rfl)) (pg_sub (pv 9) (pe_op op_sub (pe_callB call_len_seq rfl ml PySem.boot_len (@pa_cons _ _ _ _ _ (pv 9) pa_nil rfl)) pe_int) set_list)) (@pss_one _ _ _ (@ps_ret _ _ _ _ (@pe_tup _ _ _ _ _ (@pa_cons _ _ _ _ _ (pv 7) (@pa_cons _ _ _ _ _ (@pe_tup _ _ _ _ _ (@pa_cons _ _ _ _ _ pe_str (@pa_cons _ _ _ _ _ (pe_ix ix_tup (pv 5) pe_int (fun _ _=>rfl)) (@pa_cons _ _ _ _ _ (pe_ix ix_tup (pv 5) pe_int (fun _ _=>rfl)) (@pa_cons _ _ _ _ _ (pe_callTy call_tuple_of rfl mt bootTuple (@pa_cons _ _ _ _ _ (pv 9) pa_nil rfl)) pa_nil rfl) rfl) rfl) rfl)) (@pa_cons _ _ _ _ _ pe_str pa_nil rfl) rfl) rfl)))))))),?_⟩
  intro la zs H3 s3 hla hz1 hz
  refine⟨_,rfl,la,_,rfl,.inl (SqL.of hla),rfl,_,rfl,ite2 (fun _=>qn _ s3) (fun c0=>?_)⟩
  have z0:(0:Int) < (zs.length:Int):=by
   have:zs.length≠0:=fun e=>c0 (by
    show decide (V.int (zs.length:Int)=V.int 0)=true
    rw [e]
    exact decide_eq_true rfl)
   omega
  refine⟨_,rfl,_,rfl,_,rfl,la,_,rfl,.inl (SqL.of hla),a,ns,4,(zs.length:Int),rfl,s3.seq hS,h63,by decide,by decide,z0,fun r r0 r1=>?_⟩
  obtain⟨x,hx,hxa⟩:=at_get (xs:=zs) r0 r1
  obtain⟨g,gm,hg,h7⟩:=hz x (List.mem_of_getElem? hx)
  have gmf:g∈fs:=List.mem_of_mem_take gm
  obtain⟨b,a1,a2,us,xk,xe,rfl,hb,hb1,wq,wt,hb2,hus,hu9,hk,he,hht⟩:=hg
  have hul:=hus.length
  obtain⟨⟨g3,_,g5⟩,gk⟩:=hfo g gmf
  refine⟨la,_,_,_,rfl,rfl,SqL.of hla,hxa,b,_,rfl,SqT.of (s3 _ _ hb),rfl,_,_,rfl,_,_,rfl,_,_,rfl,_,_,rfl,rfl,?_⟩
  refine⟨_,rfl,a2,rfl,⟨us,s3.tup hb2⟩,comp_eachT (xs:=us) (fun j Hz v=>∃e,(g.ps.map fun p=>startE p.2 5)[j]?=some e∧ExAt Hz v e) (fun _ _ _ _ s' ⟨e,h1,h2⟩=>⟨e,h1,h2.same s'⟩) (s3.tup hb2) (by omega) (fun j u H7 N B hu7 s8 hN=>?_) (fun es' H7 D s8 hyl hy hD=>?_)⟩
  ·obtain⟨⟨sw,kw⟩,hp',b',u',rfl,hb',hsw,hku⟩:=pair_get hus hu7
   obtain⟨f1,f2,f3⟩:=g5 _ (List.mem_of_getElem? hp')
   refine⟨rfl,iteT (B:=True) ⟨_,rfl,b',_,_,_,rfl,rfl,SqT.of ((s3.trans s8) _ _ hb'),at1,u',kw,5,rfl,(hku.same (s3.trans s8)).1,f1,f2,fun H8 y s9 ey=>hN _ _ s9 ⟨startE kw 5,?_,ey⟩⟩⟩
   rw [List.getElem?_map,hp']
   rfl
  ·have hes:Paired (ExAt H7) es' (g.ps.map fun p=>startE p.2 5):=paired_of (by rw [hyl,List.length_map];exact hul) hy
   have hel:=hes.length
   have s38:=s3.trans s8
   have n1:=same_new hD (.lst es')
   have s39:=s38.trans n1
   have hkk:∀C ρ,kins 8000 C ρ (g.ps.map fun p=>startE p.2 5)=.ok (g.ps.map (·.2)):=fun C ρ=>kins_start g5
   have hh5:=hts_start (c:=5) g5
   refine⟨_,rfl,rfl,_,rfl,ite2 (fun _=>?_) (fun c6=>?_)⟩
   ·refine⟨_,rfl,.inl ⟨rfl,_,SqL.of upd_same⟩,(by show 3≤sizeLine;decide),fun p3 h3=>?_⟩
    have n3:=same_new h3 (.tup [.str "lit",.int 0,.int 1])
    have hD3:=n3 _ _ (upd_same (a:=D) (o:=HO.lst es'))
    refine⟨D,_,_,rfl,rfl,hD3,small1000 (by rw [List.length_map] at hel;omega),?_⟩
    have hDn:H D=none:=by
     cases e:H D with
     |none=>rfl
     |some o=>rw [s38 _ _ e] at hD;cases hD
    have s40:Same H _:=sput (s39.trans n3) hDn (o:=.lst (es'++[.ref p3]))
    have kp:=tup_upd (o2:=.lst (es'++[.ref p3])) hD3 nofun
    refine⟨_,rfl,_,rfl,_,_,_,_,rfl,rfl,SqT.of (s40 _ _ hb1),at0,_,rfl,_,_,_,_,rfl,rfl,SqT.of (s40 _ _ hb1),at1,_,rfl,D,_,rfl,.inl ⟨SqL.of upd_same,fun t ht=>⟨(by show 4≤sizeLine;decide),fun p4 h4=>⟨(by show 3≤sizeLine;decide),fun p5 h5=>?_⟩⟩⟩⟩
    have m1:=same_new ht (.tup (es'++[.ref p3]))
    have m2:=same_new h4 (.tup [.str "call",.str g.q,.str g.t,.ref t])
    have m3:=same_new h5 (.tup [xk,.ref p4,.str "NoCount"])
    have m23:=m2.trans m3
    have m13:=m1.trans m23
    refine q _ p5 xk (.ref p4) g.k (.call g.q g.t ((g.ps.map fun p=>startE p.2 5)++[.nd (.lit 0 1) []])) 1 (s40.trans m13) upd_same (hk.same (s40.trans m13)) (.call (m3 _ _ upd_same) (m23 _ _ upd_same) (exs_snoc (.nd (f:=.lit 0 1) (xs:=[]) (m13 _ _ (kp _ _ upd_same)) .nil (fun _=>rfl)) ((((exs_of_pair hes).same (n1.trans n3)).keep kp).same m13)) ⟨wq,wt⟩) ?_ (by decide) fun C ρ hC=>?_
    ·simp only [Ex.ht]
     rw [hts_snoc,List.length_append,List.length_map]
     have e1:(Ex.nd (.lit 0 1) []).ht=1:=by simp only [Ex.ht,hts,List.length_nil];decide
     have e2:[Ex.nd (.lit 0 1) []].length=1:=rfl
     omega
    ·rw [kin_call (kins_snoc (k:=.num 1) (by rw [kin_nd kins_nil];rfl) (hkk C ρ)),hC g gm]
     show(if (g.ps.map (·.2)).length=(g.ps.map (·.2)++[Kd.num 1]).length then _ else R.no 1)=_
     rw [if_neg (by simp)]
   ·have f7:ft=7:=by
     rcases h67 with e|e
     ·exact absurd (by rw [e];exact decide_eq_true rfl) c6
     ·exact e
    have g0:=h7 f7
    have hel':es'.length=g.ps.length:=by rw [hel,List.length_map]
    obtain⟨j,hj⟩:∃j,g.ps.length=j+1:=⟨g.ps.length - 1,by omega⟩
    have ej:(es'.length:Int) - 1=((j:Nat):Int):=by omega
    have jl:j < es'.length:=by omega
    have hev:=List.getElem?_eq_getElem jl
    have hat:atI es' ((es'.length:Int) - 1)=some es'[j]:=by rw [ej];exact atI_nat hev
    have hix:ixN es'.length ((es'.length:Int) - 1)=some j:=by
     rw [ej]
     unfold ixN
     rw [if_pos (by omega),if_pos (by omega)]
     simp
    obtain⟨e0,he0,hee⟩:=pair_get hes hev
    obtain⟨⟨sw,kw⟩,hpj⟩:∃p,g.ps[j]?=some p:=⟨_,List.getElem?_eq_getElem (by omega)⟩
    rw [List.getElem?_map,hpj] at he0
    cases he0
    obtain⟨f1,f2,f3⟩:=g5 _ (List.mem_of_getElem? hpj)
    refine⟨_,rfl,_,rfl,D,_,rfl,.inl (SqL.of upd_same),_,_,rfl,rfl,D,_,_,_,rfl,rfl,SqL.of upd_same,hat,(by show 3≤sizeLine;decide),fun p3 h3=>⟨(by show 3≤sizeLine;decide),fun p4 h4=>?_⟩⟩
    have n3:=same_new h3 (.tup [.str "lit",.int 0,.int 2])
    have n4:=same_new h4 (.tup [.str "two",es'[j],.ref p3])
    have n34:=n3.trans n4
    have hD3:=n34 _ _ (upd_same (a:=D) (o:=HO.lst es'))
    refine⟨_,rfl,_,rfl,D,_,rfl,.inl (SqL.of hD3),_,_,rfl,rfl,D,_,_,j,rfl,rfl,hD3,hix,?_⟩
    have hDn:H D=none:=by
     cases e:H D with
     |none=>rfl
     |some o=>rw [s38 _ _ e] at hD;cases hD
    have s40:Same H _:=sput (s39.trans n34) hDn (o:=.lst (es'.set j (.ref p4)))
    have kp:=tup_upd (o2:=.lst (es'.set j (.ref p4))) hD3 nofun
    refine⟨_,rfl,_,rfl,_,_,_,_,rfl,rfl,SqT.of (s40 _ _ hb1),at0,_,rfl,_,_,_,_,rfl,rfl,SqT.of (s40 _ _ hb1),at1,_,rfl,D,_,rfl,.inl ⟨SqL.of upd_same,fun t ht=>⟨(by show 4≤sizeLine;decide),fun p5 h5=>⟨(by show 3≤sizeLine;decide),fun p6 h6=>?_⟩⟩⟩⟩
    have m1:=same_new ht (.tup (es'.set j (.ref p4)))
    have m2:=same_new h5 (.tup [.str "call",.str g.q,.str g.t,.ref t])
    have m3:=same_new h6 (.tup [xk,.ref p5,.str "WrongKind"])
    have m23:=m2.trans m3
    have m13:=m1.trans m23
    have hnew:ExAt _ (.ref p4) (.nd .two [startE kw 5,.nd (.lit 0 2) []]):=.nd (f:=.two) (xs:=[es'[j],.ref p3]) (upd_same (H:=_) (a:=p4) (o:=HO.tup [.str "two",es'[j],.ref p3])) (.cons (hee.same (n1.trans n34)) (.cons (.nd (f:=.lit 0 2) (xs:=[]) (n4 _ _ upd_same) .nil (fun _=>rfl)) .nil)) (not_lit nofun)
    have hall:Paired (ExAt _) (es'.set j (.ref p4)) ((g.ps.map fun p=>startE p.2 5).set j (.nd .two [startE kw 5,.nd (.lit 0 2) []])):=pair_set hnew (Paired.mapP hes fun _ _ z=>z.same (n1.trans n34))
    refine q _ p6 xk (.ref p5) g.k (.call g.q g.t ((g.ps.map fun p=>startE p.2 5).set j (.nd .two [startE kw 5,.nd (.lit 0 2) []]))) 2 (s40.trans m13) upd_same (hk.same (s40.trans m13)) (.call (m3 _ _ upd_same) (m23 _ _ upd_same) (((exs_of_pair hall).keep kp).same m13) ⟨wq,wt⟩) ?_ (by decide) fun C ρ hC=>?_
    ·simp only [Ex.ht]
     rw [List.length_set,List.length_map]
     have:=hts_set (e:=.nd .two [startE kw 5,.nd (.lit 0 2) []]) (n:=8) (by
      have h1:=start_ht kw 5
      have h2:Kd.depth kw≤3:=f2
      simp only [Ex.ht,hts,List.length_cons,List.length_nil]
      omega) (es:=g.ps.map fun p=>startE p.2 5) (j:=j) (by omega)
     omega
    ·have hk2:kin 8000 C ρ (.nd .two [startE kw 5,.nd (.lit 0 2) []])=.ok (.pair kw (.num 2)):=by
      have f3':kw.words≤5:=f3
      have f2':Kd.depth kw≤3:=f2
      rw [kin_two (kin_start kw 5 f1 (by omega) (by omega) (by omega)) (b:=.num 2) (by rw [kin_nd kins_nil];rfl) (by show 1+max (Kd.depth kw) 1≤50;omega),if_pos (by rw [pair_words];show 1+kw.words+1≤8000;omega)]
     rw [kin_call (kins_set hk2 (hkk C ρ)),hC g gm]
     show(if (g.ps.map (·.2)).length=((g.ps.map (·.2)).set j (.pair kw (.num 2))).length then (if g.ps.map (·.2)=(g.ps.map (·.2)).set j (.pair kw (.num 2)) then _ else R.no 2) else _)=_
     rw [if_pos (by rw [List.length_set]),if_neg]
     intro z
     have h1:(g.ps.map (·.2))[j]?=some kw:=by rw [List.getElem?_map,hpj];rfl
     rw [z,List.getElem?_set_self (by rw [List.length_map];omega)] at h1
     exact pair_ne kw (.num 2) (Option.some.inj h1)
 refine⟨_,@pss_cons _ _ _ _ _ (ps_set (i:=4) scCalled.nd rfl (Or.inl rfl) (pe_slice sl_list (pv 1) po_none (po_some (pv 2)))) (@pss_cons _ _ _ _ _ (ps_if (pt_cmpR op_eq (pv 3) pe_int (nomark _)) (@pss_one _ _ _ (ps_comp_if (i0:=4) scCalled.nd rfl (Or.inl rfl) (own:=["_law_function"]) (caps:=[]) (κ:=[]) rfl ⟨rfl,by decide +kernel,by decide +kernel,rfl,rfl,(fun y hy=>nomatch hy),(fun y hy=>nomatch hy)⟩ rfl (pi_list (pv 4)) (fun _ _ _ _=>(pg_name (i:=0) (show(["_law_function"]:List Str).Nodup from by decide +kernel) rfl (Or.inl rfl))) (fun _ _ _ _=>(pt_cmpR op_gt (pe_callB (call_lenK (K:=K) rfl) rfl ml PySem.boot_len (@pa_cons _ _ _ _ _ (pe_ix (r:=rIxT K) ix_tup (pv 0) pe_int (fun _ _=>rfl)) pa_nil rfl)) pe_int (nomark _))) (fun _ _ _ _=>(pv 0)))) pss_nil) d2),?_⟩
 refine⟨_,rfl,_,rfl,_,rfl,lr,_,rfl,SqL.of hlr,fun la hla=>?_⟩
 rw [cut_to]
 have s1:=same_new hla (.lst (ys.take m))
 have hz0:∀(j:Nat) (v:V),(ys.take m)[j]?=some v→∃g,g∈fs.take m∧FnAt K H v g:=fun j v hv=>by
  have hj:j < m:=by
   have:=(List.getElem?_eq_some_iff.mp hv).1
   rw [List.length_take] at this
   omega
  rw [List.getElem?_take_of_lt hj] at hv
  obtain⟨g,hg,h⟩:=pair_get hfs hv
  exact⟨g,List.mem_of_getElem? (i:=j) (by rw [List.getElem?_take_of_lt hj];exact hg),h⟩
 have hl0:(ys.take m).length≤100:=by rw [List.length_take];omega
 refine⟨_,rfl,rfl,_,rfl,ite2 (fun c7=>?_) (fun c7=>?_)⟩
 ·refine⟨_,rfl,la,rfl,⟨_,SqL.of upd_same⟩,comp_by (J:=Itl K la) (xs:=ys.take m) (fun j zs H4=>Same (upd H la (.lst (ys.take m))) H4∧zs.length≤j∧∀v∈zs,∃g,g∈fs.take m∧FnAt K H v g∧(ft=7→0 < g.ps.length)) ⟨Same.refl _,Nat.le_refl _,fun v h=>nomatch h⟩ (Nat.le_of_lt (small1000 (by omega))) ?_ ?_ ?_ ?_ ?_ ?_⟩
  ·rintro j zs H4 ⟨_,h,_⟩
   exact h
  ·rintro j u zs H4 hu ⟨s4,_⟩
   exact⟨_,_,SqL.of (s4 _ _ upd_same),hu⟩
  ·rintro j zs u H4 H' hn ⟨s4,_⟩ hy
   exact⟨hy.1,hy.2 _ (SqL.of (s4 _ _ upd_same))⟩
  ·rintro zs H4 ⟨s4,_⟩
   exact⟨_,SqL.of (s4 _ _ upd_same),Nat.le_refl _⟩
  ·rintro j u zs H4 N hN hu ⟨s4,hzl,hz⟩
   obtain⟨g,gm,hg⟩:=hz0 j u hu
   obtain⟨b,a1,a2,us,xk,xe,rfl,hb,hb1,wq,wt,hb2,hus,hu9,hk,he,hht⟩:=id hg
   have s14:=s1.trans s4
   have hul:=hus.length
   refine⟨rfl,_,rfl,b,_,_,_,rfl,rfl,SqT.of (s14 _ _ hb),at1,a2,us,rfl,.inr (s14.tup hb2),_,_,rfl,rfl,_,rfl,ite2 (fun z=>?_) (fun _=>hN _ _ ⟨s4,by omega,hz⟩)⟩
   have z':(0:Int) < (us.length:Int):=of_decide_eq_true z
   refine⟨_,rfl,hN _ _ ⟨s4,by rw [List.length_append];exact Nat.succ_le_succ hzl,fun v hv=>?_⟩⟩
   rcases List.mem_append.mp hv with z|z
   ·exact hz v z
   ·rcases List.mem_singleton.mp z with rfl
    exact⟨g,gm,hg,fun _=>by omega⟩
  ·rintro zs H4 D ⟨s4,hzl,hz⟩ hD
   have s5:=s1.trans (s4.trans (same_new hD (.lst zs)))
   exact k2 D zs _ s5 upd_same (by omega) fun v hv=>by
    obtain⟨g,h1,h2,h3⟩:=hz v hv
    exact⟨g,h1,h2,h3⟩
 ·refine k2 la _ _ s1 upd_same hl0 fun v hv=>?_
  obtain⟨j,hj⟩:=List.mem_iff_getElem?.mp hv
  obtain⟨g,h1,h2⟩:=hz0 j v hj
  exact⟨g,h1,h2,fun e=>absurd (by rw [e];exact decide_eq_true rfl) c7⟩
end
end K62
namespace K62
open PySem L2 Kk
def OddOk(c:Int)(fs:List Fn)(m:Nat)(o:Fn)(z:Str):Prop:=(z=""∧o.q=wd c 24∧o.t=wd c 25∧∀C,lookR 8000 C o.ps o.k o.e=none) ∨
 ∃n,n < 5∧z=nm n∧((n=4∧(tabC (fs.take m) o.q o.t).isSome=true)∨(o.q=wd c 24∧o.t=wd c 25∧lookR 8000 (tabC (fs.take m)) o.ps o.k o.e=some n))
def spOdd(K:PySem.W.Frag):Sp:=fun vs H Q _=>∃(a lw lo lr:Addr) (ns:List Int) (m:Nat) (c n:Int) (ys:List V) (fs:List Fn),vs=[.ref a,.ref lw,.ref lo,.ref lr,.int m]∧SqL K H a (ns.map V.int)∧ns.length≤63∧H lw=some (.lst (wl c))∧PoolAt K H lo n∧0 < n∧H lr=some (.lst ys)∧FnsAt K H ys fs∧ProgOk c fs∧fs.length≤59∧m≤fs.length ∧
 ∀H' p o x z,Same H H'→H' p=some (.tup [x,.str z])→FnAt K H' x o→OddOk c fs m o z→Q (.ref p) H'
theorem tabC_none:∀{fs:List Fn} {q t:Str},(∀g∈fs,¬(q=g.q∧t=g.t))→tabC fs q t=none
 |[],_,_,_=>rfl
 |g::r,q,t,h=>by
  show(if q=g.q∧t=g.t then some (g.ps.map (·.2),g.k) else tabC r q t)=none
  rw [if_neg (h g (.head _)),tabC_none fun x hx=>h x (.tail _ hx)]
theorem prog_mem{c:Int}{fs:List Fn}(h:ProgOk c fs){g:Fn}(hg:g∈fs):∃i:Nat,i < fs.length∧g.q=wd c ((i:Int)%3)∧g.t=wd c (3+(i:Int) / 3):=by
 obtain⟨i,hi⟩:=List.mem_iff_getElem?.mp hg
 obtain⟨h1,h2,_⟩:=h i g hi
 exact⟨i,(List.getElem?_eq_some_iff.mp hi).1,h1,h2⟩
theorem name_eq{c:Int}{i j:Nat}(hi:i < 59)(hj:j < 59)(h1:wd c ((i:Int)%3)=wd c ((j:Int)%3))(h2:wd c (3+(i:Int) / 3)=wd c (3+(j:Int) / 3)):i=j:=by
 have e1:=wd_ne (by omega) (by omega) h1
 have e2:=wd_ne (by omega) (by omega) h2
 omega
theorem names_nodup{c:Int}{fs:List Fn}(h:ProgOk c fs)(h59:fs.length≤59):(fs.map fun f=>(f.q,f.t)).Nodup:=by
 refine List.pairwise_map.mpr (List.pairwise_iff_getElem.mpr fun i j hi hj hij e=>?_)
 obtain⟨a1,a2,_⟩:=h i _ (List.getElem?_eq_getElem hi)
 obtain⟨b1,b2,_⟩:=h j _ (List.getElem?_eq_getElem hj)
 have e1:=congrArg Prod.fst e
 have e2:=congrArg Prod.snd e
 have:=name_eq (c:=c) (i:=i) (j:=j) (by omega) (by omega) (a1.symm.trans (e1.trans b1)) (a2.symm.trans (e2.trans b2))
 omega
section
variable{P:Program}{w:World}{K:PySem.W.Frag}{mg:Str→Option Value}{base:Heap}
theorem scOdd:FnScope ["_law_script","_law_words","_law_pool_here","_law_program_here","_law_at","_law_name_here","_law_fault","_law_bit","_law_params","_law_behind","_law_args_here","_law_near","_law_found_here","_law_leaves"] ["_law_script","_law_words","_law_pool_here","_law_program_here","_law_at"] (defScope sOdd):=⟨rfl,rfl,rfl,by decide +kernel,rfl,by decide +kernel,by decide +kernel⟩
set_option maxHeartbeats 0 in
theorem ok_odd{f fP fT fG fL:Addr}{fd fdP fdT fdG fdL:FuncData} (F:Fun K "_law_odd" "_law_odd" sOdd f fd) (ml:mg "len"=none) (mt:mg "tuple"=none)
  (GP:FnOk P w K mg base CX0 2 fP fdP ["_law_script","_law_k","_law_many"] (spPick K)) (bP:Binds K fdP ["_law_script","_law_k","_law_many"] []) (kP:PySem.W.keepIn K (.ref fP)=true) (mP:mg "_law_pick"=some (.ref fP))
  (GT:FnOk P w K mg base CX0 3 fT fdT ["_law_kind","_law_cell_here"] (spStart K 3)) (bT:Binds K fdT ["_law_kind","_law_cell_here"] []) (kT:PySem.W.keepIn K (.ref fT)=true) (mT:mg "_law_start"=some (.ref fT))
  (GG:FnOk P w K mg base CX0 1 fG fdG ["_law_leaves","_law_words"] spGrown) (bG:Binds K fdG ["_law_leaves","_law_words"] []) (kG:PySem.W.keepIn K (.ref fG)=true) (mG:mg "_law_grown"=some (.ref fG))
  (GL:FnOk P w K mg base CX0 4 fL fdL ["_law_script","_law_program_here","_law_at","_law_fault"] (spCalled K)) (bL:Binds K fdL ["_law_script","_law_program_here","_law_at","_law_fault"] []) (kL:PySem.W.keepIn K (.ref fL)=true) (mL:mg "_law_called"=some (.ref fL)):FnOk P w K mg base CX0 5 f fd ["_law_script","_law_words","_law_pool_here","_law_program_here","_law_at"] (spOdd K):=by
 refine F.ok (k:=4) scOdd (fun vs H Q E h=>?_) (fun cdv A outer s H vs Q E hrL h=>?_)
 ·obtain⟨_,_,_,_,_,_,_,_,_,_,rfl,_⟩:=h
  rfl
 obtain⟨a,lw,lo,lr,ns,m,c,n,ys,fs,rfl,hS,h63,hw,hpool,hn,hlr,hfs,hpr,h59,hm,q⟩:=h
 have hrG:Room 1 _:=hrL.mono (by decide)
 have hr2:Room 2 _:=hrL.mono (by decide)
 have hrT:Room 3 _:=hrL.mono (by decide)
 have none24:tabC (fs.take m) (wd c 24) (wd c 25)=none:=tabC_none fun g hg e=>by
  obtain⟨i,hi,h1,h2⟩:=prog_mem hpr (List.mem_of_mem_take hg)
  have:=wd_ne (c:=c) (i:=24) (j:=(i:Int)%3) (by decide) (by omega) (e.1.trans h1)
  omega
 have told:Told (tabC (fs.take m)) (fs.take m):=fun g hg=>tabC_mem (by
  have:=names_nodup hpr h59
  exact List.Nodup.sublist ((List.take_sublist m fs).map _) this) hg
 have close:∀{H5:Hp} {p0 p2 p3 p4:Addr} {xs:List V} {ps:Ps} {k:Kd} {e:Ex} {xk ye:V} {z:Str},Same H H5→H5 p0=some (.tup [.str (wd c 24),.str (wd c 25)])→H5 p2=some (.tup xs)→PsAt K H5 xs ps→ps.length≤100→KAt K H5 xk k→ExAt H5 ye e→e.ht≤60→H5 p3=some (.tup [.ref p0,.ref p2,xk,ye])→H5 p4=some (.tup [.ref p3,.str z]) →
   ((z=""∧∀C,lookR 8000 C ps k e=none)∨∃n,n < 5∧z=nm n∧lookR 8000 (tabC (fs.take m)) ps k e=some n)→Q (.ref p4) H5:=fun {H5 p0 p2 p3 p4 xs ps k e xk ye z} s5 g0 g2 gp gl gk ge gh g3 g4 hz=>by
  refine q H5 p4 ⟨wd c 24,wd c 25,ps,k,e⟩ (.ref p3) z s5 g4 ⟨p3,p0,p2,xs,xk,ye,rfl,g3,g0,wd_sm _ _,wd_sm _ _,SqT.of g2,gp,gl,gk,ge,gh⟩ ?_
  rcases hz with ⟨h1,h2⟩|⟨n,h1,h2,h3⟩
  ·exact .inl ⟨h1,rfl,rfl,h2⟩
  ·exact .inr ⟨n,h1,h2,.inr ⟨rfl,rfl,h3⟩⟩
 obtain⟨t12,d12,k12⟩:∃t,PSs (cxOf CX0 P w K mg base ["_law_script","_law_words","_law_pool_here","_law_program_here","_law_at","_law_name_here","_law_fault","_law_bit","_law_params","_law_behind","_law_args_here","_law_near","_law_found_here","_law_leaves"] "_law_odd" (defScope sOdd) f cdv A outer s H E).nox (List.drop 12 (defBody sOdd)) t ∧
   ∀(H3:Hp) (p0 p1:Addr) (ft lv:Int) (v12:Option V),Same H H3→H3 p0=some (.tup [.str (wd c 24),.str (wd c 25)])→H3 p1=some (.tup [.str "num",.int 2])→1≤lv→lv≤5000 →
    t { nx:=fun _ H'=>Q .non H',rt:=Q } [some (.ref a),some (.ref lw),some (.ref lo),some (.ref lr),some (.int m),some (.ref p0),some (.int ft),some (.ref p1),none,none,none,none,v12,some (.int lv)] H3:=by
  refine⟨_,@pss_one _ _ _ (@ps_ret _ _ _ _ (@pe_tup _ _ _ _ _ (@pa_cons _ _ _ _ _ (@pe_tup _ _ _ _ _ (@pa_cons _ _ _ _ _ (pv 5) (@pa_cons _ _ _ _ _ (@pe_tup _ _ _ _ _ pa_nil) (@pa_cons _ _ _ _ _ (pv 7) (@pa_cons _ _ _ _ _ (pe_call GG hrG rfl mG kG bG .nil pass0 (@pa_cons _ _ _ _ _ (pv 13) (@pa_cons _ _ _ _ _ (pv 1) pa_nil rfl) rfl)) pa_nil rfl) rfl) rfl) rfl)) (@pa_cons _ _ _ _ _ (pe_ifExp (pt_cmpR op_gt (pv 13) pe_int (nomark _)) pe_str pe_str) pa_nil rfl) rfl))),?_⟩
  intro H3 p0 p1 ft lv v12 s3 g0 g1 v1 v5
  refine⟨_,rfl,(by show 0≤sizeLine;decide),fun p2 h2=>?_⟩
  have n2:=same_new h2 (.tup [])
  refine⟨_,rfl,_,rfl,_,rfl,lw,c,lv,rfl,(s3.trans n2) _ _ hw,v1,v5,fun H5 y e s5 he hht hcl hk=>?_⟩
  refine⟨(by show 4≤sizeLine;decide),fun p3 h3=>?_⟩
  have n3:=same_new h3 (.tup [.ref p0,.ref p2,.ref p1,y])
  refine⟨_,rfl,_,_,rfl,rfl,_,rfl,ite2 (fun z=>?_) (fun z=>?_)⟩
  ·have z':(4000:Int) < lv:=of_decide_eq_true z
   refine⟨(by show 2≤sizeLine;decide),fun p4 h4=>?_⟩
   have n4:=same_new h4 (.tup [.ref p3,.str "TooBig"])
   have n54:=s5.trans (n3.trans n4)
   have n24:=n2.trans n54
   refine close (ps:=[]) (k:=.num 2) (e:=e) (s3.trans n24) (n24 _ _ g0) (n54 _ _ upd_same) .nil (by decide) (num_at (n24 _ _ g1)) (he.same (n3.trans n4)) (by omega) (n4 _ _ upd_same) upd_same (.inr ⟨3,by decide,rfl,?_⟩)
   unfold lookR
   rw [if_pos (by simp),hk,if_neg (by omega)]
   rfl
  ·have z':¬(4000:Int) < lv:=of_decide_eq_false (Bool.eq_false_iff.mpr z)
   refine⟨(by show 2≤sizeLine;decide),fun p4 h4=>?_⟩
   have n4:=same_new h4 (.tup [.ref p3,.str ""])
   have n54:=s5.trans (n3.trans n4)
   have n24:=n2.trans n54
   refine close (ps:=[]) (k:=.num 2) (e:=e) (s3.trans n24) (n24 _ _ g0) (n54 _ _ upd_same) .nil (by decide) (num_at (n24 _ _ g1)) (he.same (n3.trans n4)) (by omega) (n4 _ _ upd_same) upd_same (.inl ⟨rfl,fun C=>?_⟩)
   unfold lookR
   rw [if_pos (by simp),hk,if_pos (by omega)]
   exact if_pos rfl
 obtain⟨t10,d10,k10⟩:∃t,PSs (cxOf CX0 P w K mg base ["_law_script","_law_words","_law_pool_here","_law_program_here","_law_at","_law_name_here","_law_fault","_law_bit","_law_params","_law_behind","_law_args_here","_law_near","_law_found_here","_law_leaves"] "_law_odd" (defScope sOdd) f cdv A outer s H E).nox (List.drop 10 (defBody sOdd)) t ∧
   ∀(H3:Hp) (p0 p1:Addr) (ft:Int) (v12:Option V),Same H H3→H3 p0=some (.tup [.str (wd c 24),.str (wd c 25)])→H3 p1=some (.tup [.str "num",.int 2]) →
    t { nx:=fun _ H'=>Q .non H',rt:=Q } [some (.ref a),some (.ref lw),some (.ref lo),some (.ref lr),some (.int m),some (.ref p0),some (.int ft),some (.ref p1),none,none,none,none,v12,none] H3:=by
  refine⟨_,@pss_cons _ _ _ _ _ (ps_set (i:=13) scOdd.nd rfl (Or.inl rfl) (pe_op op_add pe_int (pe_call GP hr2 rfl mP kP bP .nil pass0 (@pa_cons _ _ _ _ _ (pv 0) (@pa_cons _ _ _ _ _ pe_int (@pa_cons _ _ _ _ _ pe_int pa_nil rfl) rfl) rfl)))) (@pss_cons _ _ _ _ _ (ps_if (pt_cmpR op_eq (pv 6) pe_int (nomark _)) (@pss_one _ _ _ (ps_set (i:=13) scOdd.nd rfl (Or.inl rfl) (pe_op op_add pe_int (pe_call GP hr2 rfl mP kP bP .nil pass0 (@pa_cons _ _ _ _ _ (pv 0) (@pa_cons _ _ _ _ _ pe_int (@pa_cons _ _ _ _ _ pe_int pa_nil rfl) rfl) rfl))))) pss_nil) d12),?_⟩
  intro H3 p0 p1 ft v12 s3 g0 g1
  refine⟨_,rfl,a,ns,4,200,rfl,s3.seq hS,h63,by decide,by decide,by decide,fun r r0 r1=>⟨_,_,rfl,rfl,?_⟩⟩
  refine⟨_,rfl,rfl,_,rfl,ite2 (fun _=>?_) (fun _=>k12 H3 p0 p1 ft (1+r) v12 s3 g0 g1 (by omega) (by omega))⟩
  exact⟨_,rfl,a,ns,4,3,rfl,s3.seq hS,h63,by decide,by decide,by decide,fun r r0 r1=>⟨_,_,rfl,rfl,k12 H3 p0 p1 ft (3999+r) v12 s3 g0 g1 (by omega) (by omega)⟩⟩
 have nocall:∀{ps:Ps} {q0 t0:Str} {es:List Ex} {ks:List Kd} {k:Kd},(ps.map (·.1)).Nodup→tabC (fs.take m) q0 t0=none→kins 8000 (tabC (fs.take m)) (rhoP ps) es=.ok ks→lookR 8000 (tabC (fs.take m)) ps k (.call q0 t0 es)=some 0:=fun {ps q0 t0 es ks k} h1 h2 h3=>by
  unfold lookR
  rw [if_pos h1,kin_call h3,h2]
  rfl
 obtain⟨tb,db,kb⟩:∃t,PSs (cxOf CX0 P w K mg base ["_law_script","_law_words","_law_pool_here","_law_program_here","_law_at","_law_name_here","_law_fault","_law_bit","_law_params","_law_behind","_law_args_here","_law_near","_law_found_here","_law_leaves"] "_law_odd" (defScope sOdd) f cdv A outer s H E).nox (ifT ((defBody sOdd).getD 9 dS)) t ∧
   ∀(D:Ends) (H3:Hp) (p0 p1:Addr) (ft:Int),D.rt=Q→(ft=6∨ft=7)→Same H H3→H3 p0=some (.tup [.str (wd c 24),.str (wd c 25)])→H3 p1=some (.tup [.str "num",.int 2]) →
    (∀v12 H4,Same H3 H4→D.nx [some (.ref a),some (.ref lw),some (.ref lo),some (.ref lr),some (.int m),some (.ref p0),some (.int ft),some (.ref p1),none,none,none,none,v12,none] H4)→t D [some (.ref a),some (.ref lw),some (.ref lo),some (.ref lr),some (.int m),some (.ref p0),some (.int ft),some (.ref p1),none,none,none,none,none,none] H3:=by
  refine⟨_,@pss_cons _ _ _ _ _ (ps_set (i:=12) scOdd.nd rfl (Or.inl rfl) (pe_call GL hrL rfl mL kL bL .nil pass0 (@pa_cons _ _ _ _ _ (pv 0) (@pa_cons _ _ _ _ _ (pv 3) (@pa_cons _ _ _ _ _ (pv 4) (@pa_cons _ _ _ _ _ (pv 6) pa_nil rfl) rfl) rfl) rfl))) (@pss_one _ _ _ (ps_if (pt_cmpR op_notN (pv 12) pe_non (nomark _)) (@pss_one _ _ _ (@ps_ret _ _ _ _ (@pe_tup _ _ _ _ _ (@pa_cons _ _ _ _ _ (@pe_tup _ _ _ _ _ (@pa_cons _ _ _ _ _ (pv 5) (@pa_cons _ _ _ _ _ (@pe_tup _ _ _ _ _ pa_nil) (@pa_cons _ _ _ _ _ (pe_ix ix_tup (pv 12) pe_int (fun _ _=>rfl)) (@pa_cons _ _ _ _ _ (pe_ix ix_tup (pv 12) pe_int (fun _ _=>rfl)) pa_nil rfl) rfl) rfl) rfl)) (@pa_cons _ _ _ _ _ (pe_ix ix_tup (pv 12) pe_int (fun _ _=>rfl)) pa_nil rfl) rfl)))) pss_nil)),?_⟩
  intro D H3 p0 p1 ft hD hf s3 g0 g1 hnx
  refine⟨_,rfl,_,rfl,_,rfl,_,rfl,a,lr,ns,m,ft,ys,fs,rfl,s3.seq hS,h63,hf,s3 _ _ hlr,Paired.mapP hfs fun _ _ z=>z.same s3,by omega,hm,hpr.fn,fun H4 s4=>?_,fun H4 p xk ye k e n s4 hp hk he hh hn4 hkin=>?_⟩
  ·exact⟨_,rfl,rfl,_,rfl,ite2 (fun c=>absurd (show false=true from c) (by decide)) (fun _=>hnx (some .non) H4 s4)⟩
  ·refine⟨_,rfl,rfl,_,rfl,ite2 (fun _=>?_) (fun c=>absurd (show true=true from rfl) c)⟩
   refine⟨_,rfl,(by show 0≤sizeLine;decide),fun p2 h2=>?_⟩
   have n2:=same_new h2 (.tup [])
   have s34:=s3.trans s4
   have u2:=s34.trans n2
   refine⟨_,rfl,p,_,_,_,rfl,rfl,SqT.of (n2 _ _ hp),at0,_,rfl,p,_,_,_,rfl,rfl,SqT.of (n2 _ _ hp),at1,(by show 4≤sizeLine;decide),fun p3 h3=>?_⟩
   have n3:=same_new h3 (.tup [.ref p0,.ref p2,xk,ye])
   have n23:=n2.trans n3
   refine⟨_,rfl,p,_,_,_,rfl,rfl,SqT.of (n23 _ _ hp),at2,(by show 2≤sizeLine;decide),fun p4 h4=>?_⟩
   have n4:=same_new h4 (.tup [.ref p3,.str (nm n)])
   have n34:=n3.trans n4
   have n24:=n2.trans n34
   rw [hD]
   refine close (ps:=[]) (k:=k) (e:=e) (s34.trans n24) ((s4.trans n24) _ _ g0) (n34 _ _ upd_same) .nil (by decide) (hk.same n24) (he.same n24) (by omega) (n4 _ _ upd_same) upd_same (.inr ⟨n,by omega,rfl,?_⟩)
   unfold lookR
   rw [if_pos (by simp),hkin _ _ told]
   show some (if n < 4 then n else 9)=_
   rw [if_pos hn4]
 obtain⟨t9,d9,k9⟩:∃t,PSs (cxOf CX0 P w K mg base ["_law_script","_law_words","_law_pool_here","_law_program_here","_law_at","_law_name_here","_law_fault","_law_bit","_law_params","_law_behind","_law_args_here","_law_near","_law_found_here","_law_leaves"] "_law_odd" (defScope sOdd) f cdv A outer s H E).nox (List.drop 9 (defBody sOdd)) t ∧
   ∀(H3:Hp) (p0 p1:Addr) (ft:Int),Same H H3→H3 p0=some (.tup [.str (wd c 24),.str (wd c 25)])→H3 p1=some (.tup [.str "num",.int 2]) →
    t { nx:=fun _ H'=>Q .non H',rt:=Q } [some (.ref a),some (.ref lw),some (.ref lo),some (.ref lr),some (.int m),some (.ref p0),some (.int ft),some (.ref p1),none,none,none,none,none,none] H3:=by
  refine⟨_,@pss_cons _ _ _ _ _ (ps_if (PW.pt (pw_or (pt_cmpR op_eq (pv 6) pe_int (nomark _)) (pw_or1 (pt_cmpR op_eq (pv 6) pe_int (nomark _))))) db pss_nil) d10,?_⟩
  intro H3 p0 p1 ft s3 g0 g1
  refine⟨_,rfl,rfl,_,rfl,ite2 (fun z=>?_) (fun _=>⟨_,rfl,rfl,_,rfl,ite2 (fun z=>?_) (fun _=>k10 H3 p0 p1 ft none s3 g0 g1)⟩)⟩
  ·exact kb _ H3 p0 p1 ft rfl (.inl (V.int.inj (of_decide_eq_true z))) s3 g0 g1 fun v12 H4 s4=>k10 H4 p0 p1 ft v12 (s3.trans s4) (s4 _ _ g0) (s4 _ _ g1)
  ·exact kb _ H3 p0 p1 ft rfl (.inr (V.int.inj (of_decide_eq_true z))) s3 g0 g1 fun v12 H4 s4=>k10 H4 p0 p1 ft v12 (s3.trans s4) (s4 _ _ g0) (s4 _ _ g1)
 obtain⟨t8,d8,k8⟩:∃t,PSs (cxOf CX0 P w K mg base ["_law_script","_law_words","_law_pool_here","_law_program_here","_law_at","_law_name_here","_law_fault","_law_bit","_law_params","_law_behind","_law_args_here","_law_near","_law_found_here","_law_leaves"] "_law_odd" (defScope sOdd) f cdv A outer s H E).nox (List.drop 8 (defBody sOdd)) t ∧
   ∀(H3:Hp) (p0 p1:Addr) (ft:Int),Same H H3→H3 p0=some (.tup [.str (wd c 24),.str (wd c 25)])→H3 p1=some (.tup [.str "num",.int 2]) →
    t { nx:=fun _ H'=>Q .non H',rt:=Q } [some (.ref a),some (.ref lw),some (.ref lo),some (.ref lr),some (.int m),some (.ref p0),some (.int ft),some (.ref p1),none,none,none,none,none,none] H3:=by
  refine⟨_,@pss_cons _ _ _ _ _ (ps_if (pt_cmpR op_eq (pv 6) pe_int (nomark _)) (@pss_one _ _ _ (@ps_ret _ _ _ _ (@pe_tup _ _ _ _ _ (@pa_cons _ _ _ _ _ (@pe_tup _ _ _ _ _ (@pa_cons _ _ _ _ _ (pv 5) (@pa_cons _ _ _ _ _ (@pe_tup _ _ _ _ _ pa_nil) (@pa_cons _ _ _ _ _ (@pe_tup _ _ _ _ _ (@pa_cons _ _ _ _ _ pe_str (@pa_cons _ _ _ _ _ pe_int pa_nil rfl) rfl)) (@pa_cons _ _ _ _ _ (@pe_tup _ _ _ _ _ (@pa_cons _ _ _ _ _ pe_str (@pa_cons _ _ _ _ _ pe_int (@pa_cons _ _ _ _ _ pe_int pa_nil rfl) rfl) rfl)) pa_nil rfl) rfl) rfl) rfl)) (@pa_cons _ _ _ _ _ pe_str pa_nil rfl) rfl)))) pss_nil) d9,?_⟩
  intro H3 p0 p1 ft s3 g0 g1
  refine⟨_,rfl,rfl,_,rfl,ite2 (fun _=>?_) (fun _=>k9 H3 p0 p1 ft s3 g0 g1)⟩
  refine⟨_,rfl,(by show 0≤sizeLine;decide),fun p2 h2=>⟨(by show 2≤sizeLine;decide),fun p5 h5=>⟨(by show 3≤sizeLine;decide),fun p6 h6=>⟨(by show 4≤sizeLine;decide),fun p3 h3=>⟨(by show 2≤sizeLine;decide),fun p4 h4=>?_⟩⟩⟩⟩⟩
  have n2:=same_new h2 (.tup [])
  have n5:=same_new h5 (.tup [.str "num",.int 3])
  have n6:=same_new h6 (.tup [.str "lit",.int 1,.int 2])
  have n3:=same_new h3 (.tup [.ref p0,.ref p2,.ref p5,.ref p6])
  have n4:=same_new h4 (.tup [.ref p3,.str "WrongKind"])
  have m34:=n3.trans n4
  have m64:=n6.trans m34
  have m54:=n5.trans m64
  have m24:=n2.trans m54
  refine close (ps:=[]) (k:=.num 3) (e:=.nd (.lit 1 2) []) (s3.trans m24) (m24 _ _ g0) (m54 _ _ upd_same) .nil (by decide) (num_at (m64 _ _ upd_same)) (.nd (f:=.lit 1 2) (xs:=[]) (m34 _ _ upd_same) .nil (fun _=>rfl)) (by simp only [Ex.ht,hts,List.length_nil];decide) (n4 _ _ upd_same) upd_same (.inr ⟨2,by decide,rfl,?_⟩)
  unfold lookR
  rw [if_pos (by simp),kin_nd kins_nil]
  show(if Kd.num 2=Kd.num 3 then none else some 2)=_
  rw [if_neg (by decide)]
 obtain⟨t7,d7,k7⟩:∃t,PSs (cxOf CX0 P w K mg base ["_law_script","_law_words","_law_pool_here","_law_program_here","_law_at","_law_name_here","_law_fault","_law_bit","_law_params","_law_behind","_law_args_here","_law_near","_law_found_here","_law_leaves"] "_law_odd" (defScope sOdd) f cdv A outer s H E).nox (List.drop 7 (defBody sOdd)) t ∧
   ∀(H3:Hp) (p0 p1:Addr) (ft:Int),Same H H3→H3 p0=some (.tup [.str (wd c 24),.str (wd c 25)])→H3 p1=some (.tup [.str "num",.int 2]) →
    t { nx:=fun _ H'=>Q .non H',rt:=Q } [some (.ref a),some (.ref lw),some (.ref lo),some (.ref lr),some (.int m),some (.ref p0),some (.int ft),some (.ref p1),none,none,none,none,none,none] H3:=by
  refine⟨_,@pss_cons _ _ _ _ _ (ps_if (pt_cmpR op_eq (pv 6) pe_int (nomark _)) (@pss_cons _ _ _ _ _ (ps_set (i:=11) scOdd.nd rfl (Or.inl rfl) (pe_ix ix_list (pe_lst (@pa_cons _ _ _ _ _ (@pe_tup _ _ _ _ _ (@pa_cons _ _ _ _ _ pe_str (@pa_cons _ _ _ _ _ (pe_ix ix_list (pv 1) pe_int (fun _ _=>rfl)) pa_nil rfl) rfl)) (@pa_cons _ _ _ _ _ (@pe_tup _ _ _ _ _ (@pa_cons _ _ _ _ _ (pe_ix ix_list (pv 1) pe_int (fun _ _=>rfl)) (@pa_cons _ _ _ _ _ (pe_ix ix_list (pv 1) pe_int (fun _ _=>rfl)) pa_nil rfl) rfl)) (@pa_cons _ _ _ _ _ (@pe_tup _ _ _ _ _ (@pa_cons _ _ _ _ _ (pe_ix ix_list (pv 1) pe_int (fun _ _=>rfl)) (@pa_cons _ _ _ _ _ (pe_ix ix_list (pv 1) pe_int (fun _ _=>rfl)) pa_nil rfl) rfl)) pa_nil rfl) rfl) rfl)) (pe_call GP hr2 rfl mP kP bP .nil pass0 (@pa_cons _ _ _ _ _ (pv 0) (@pa_cons _ _ _ _ _ pe_int (@pa_cons _ _ _ _ _ pe_int pa_nil rfl) rfl) rfl)) (fun _ _=>rfl))) (@pss_one _ _ _ (@ps_ret _ _ _ _ (@pe_tup _ _ _ _ _ (@pa_cons _ _ _ _ _ (@pe_tup _ _ _ _ _ (@pa_cons _ _ _ _ _ (pv 5) (@pa_cons _ _ _ _ _ (@pe_tup _ _ _ _ _ pa_nil) (@pa_cons _ _ _ _ _ (pv 7) (@pa_cons _ _ _ _ _ (@pe_tup _ _ _ _ _ (@pa_cons _ _ _ _ _ pe_str (@pa_cons _ _ _ _ _ (pe_ix ix_tup (pv 11) pe_int (fun _ _=>rfl)) (@pa_cons _ _ _ _ _ (pe_ix ix_tup (pv 11) pe_int (fun _ _=>rfl)) (@pa_cons _ _ _ _ _ (@pe_tup _ _ _ _ _ pa_nil) pa_nil rfl) rfl) rfl) rfl)) pa_nil rfl) rfl) rfl) rfl)) (@pa_cons _ _ _ _ _ pe_str pa_nil rfl) rfl))))) pss_nil) d8,?_⟩
  intro H3 p0 p1 ft s3 g0 g1
  refine⟨_,rfl,rfl,_,rfl,ite2 (fun _=>?_) (fun _=>k8 H3 p0 p1 ft s3 g0 g1)⟩
  have hw3:=s3 _ _ hw
  refine⟨_,rfl,lw,_,_,_,rfl,rfl,SqL.of hw3,wl_at c (r:=3) (by decide) (by decide),(by show 2≤sizeLine;decide),fun q1 e1=>?_⟩
  have n1:=same_new e1 (.tup [.str "",.str (wd c 3)])
  refine⟨_,rfl,lw,_,_,_,rfl,rfl,SqL.of (n1 _ _ hw3),wl_at c (r:=24) (by decide) (by decide),_,rfl,lw,_,_,_,rfl,rfl,SqL.of (n1 _ _ hw3),wl_at c (r:=3) (by decide) (by decide),(by show 2≤sizeLine;decide),fun q2 e2=>?_⟩
  have n2:=same_new e2 (.tup [.str (wd c 24),.str (wd c 3)])
  have n12:=n1.trans n2
  refine⟨_,rfl,lw,_,_,_,rfl,rfl,SqL.of (n12 _ _ hw3),wl_at c (r:=0) (by decide) (by decide),_,rfl,lw,_,_,_,rfl,rfl,SqL.of (n12 _ _ hw3),wl_at c (r:=25) (by decide) (by decide),(by show 2≤sizeLine;decide),fun q3 e3=>?_⟩
  have n3:=same_new e3 (.tup [.str (wd c 0),.str (wd c 25)])
  refine⟨(by show 3≤sizeLine;decide),fun ql el=>?_⟩
  have nl:=same_new el (.lst [.ref q1,.ref q2,.ref q3])
  have n3l:=n3.trans nl
  have n2l:=n2.trans n3l
  have n1l:=n1.trans n2l
  refine⟨_,rfl,a,ns,4,3,rfl,(s3.trans n1l).seq hS,h63,by decide,by decide,by decide,fun r r0 r1=>?_⟩
  have wne:∀i:Int,(wd c i)≠"":=fun i e=>by
   have:=congrArg Str.length e
   unfold wd at this
   rw [len_app,len_app] at this
   have e1:(sg1 i).length=1:=rfl
   have e2:("":Str).length=0:=rfl
   omega
  obtain⟨qn,u0,u1,hat,hqn,w0,w1,hno⟩:∃(qn:Addr) (u0 u1:Str),atI [V.ref q1,.ref q2,.ref q3] r=some (.ref qn)∧(upd (upd (upd (upd H3 q1 (.tup [.str "",.str (wd c 3)])) q2 (.tup [.str (wd c 24),.str (wd c 3)])) q3 (.tup [.str (wd c 0),.str (wd c 25)])) ql (.lst [.ref q1,.ref q2,.ref q3])) qn=some (.tup [.str u0,.str u1])∧smW u0∧smW u1∧tabC (fs.take m) u0 u1=none:=by
   have:r=0∨r=1∨r=2:=by omega
   rcases this with rfl|rfl|rfl
   ·refine⟨q1,_,_,rfl,n2l _ _ upd_same,⟨by decide +kernel,by decide⟩,wd_sm _ _,tabC_none fun g hg e=>?_⟩
    obtain⟨i,hi,h1,h2⟩:=prog_mem hpr (List.mem_of_mem_take hg)
    exact wne _ (e.1.trans h1).symm
   ·refine⟨q2,_,_,rfl,n3l _ _ upd_same,wd_sm _ _,wd_sm _ _,tabC_none fun g hg e=>?_⟩
    obtain⟨i,hi,h1,h2⟩:=prog_mem hpr (List.mem_of_mem_take hg)
    have:=wd_ne (c:=c) (i:=24) (j:=(i:Int)%3) (by decide) (by omega) (e.1.trans h1)
    omega
   ·refine⟨q3,_,_,rfl,nl _ _ upd_same,wd_sm _ _,wd_sm _ _,tabC_none fun g hg e=>?_⟩
    obtain⟨i,hi,h1,h2⟩:=prog_mem hpr (List.mem_of_mem_take hg)
    have:=wd_ne (c:=c) (i:=25) (j:=3+(i:Int) / 3) (by decide) (by omega) (e.2.trans h2)
    omega
  refine⟨ql,_,_,_,rfl,rfl,SqL.of upd_same,hat,?_⟩
  refine⟨_,rfl,(by show 0≤sizeLine;decide),fun p2 h2=>?_⟩
  have k2:=same_new h2 (.tup [])
  refine⟨_,rfl,_,rfl,qn,_,_,_,rfl,rfl,SqT.of (k2 _ _ hqn),at0,_,rfl,qn,_,_,_,rfl,rfl,SqT.of (k2 _ _ hqn),at1,(by show 0≤sizeLine;decide),fun p5 h5=>⟨(by show 4≤sizeLine;decide),fun p6 h6=>⟨(by show 4≤sizeLine;decide),fun p3 h3=>⟨(by show 2≤sizeLine;decide),fun p4 h4=>?_⟩⟩⟩⟩
  have k5:=same_new h5 (.tup [])
  have k6:=same_new h6 (.tup [.str "call",.str u0,.str u1,.ref p5])
  have k3:=same_new h3 (.tup [.ref p0,.ref p2,.ref p1,.ref p6])
  have k4:=same_new h4 (.tup [.ref p3,.str "NoName"])
  have m34:=k3.trans k4
  have m64:=k6.trans m34
  have m54:=k5.trans m64
  have m24:=n1l.trans (k2.trans m54)
  exact close (ps:=[]) (k:=.num 2) (e:=.call u0 u1 []) (s3.trans m24) (m24 _ _ g0) (m54 _ _ upd_same) .nil (by decide) (num_at (m24 _ _ g1)) (.call (xs:=[]) (m34 _ _ upd_same) (m64 _ _ upd_same) .nil ⟨w0,w1⟩) (by simp only [Ex.ht,hts,List.length_nil];decide) (k4 _ _ upd_same) upd_same (.inr ⟨0,by decide,rfl,nocall (by simp) hno kins_nil⟩)
 obtain⟨t6,d6,k6⟩:∃t,PSs (cxOf CX0 P w K mg base ["_law_script","_law_words","_law_pool_here","_law_program_here","_law_at","_law_name_here","_law_fault","_law_bit","_law_params","_law_behind","_law_args_here","_law_near","_law_found_here","_law_leaves"] "_law_odd" (defScope sOdd) f cdv A outer s H E).nox (List.drop 6 (defBody sOdd)) t ∧
   ∀(H3:Hp) (p0 p1:Addr) (ft:Int),Same H H3→H3 p0=some (.tup [.str (wd c 24),.str (wd c 25)])→H3 p1=some (.tup [.str "num",.int 2]) →
    t { nx:=fun _ H'=>Q .non H',rt:=Q } [some (.ref a),some (.ref lw),some (.ref lo),some (.ref lr),some (.int m),some (.ref p0),some (.int ft),some (.ref p1),none,none,none,none,none,none] H3:=by
  refine⟨_,@pss_cons _ _ _ _ _ (ps_if (PW.pt (pw_and (pt_cmpR op_eq (pv 6) pe_int (nomark _)) (pw_and1 (pt_cmpR op_lt (pv 4) (pe_callB call_len_seq rfl ml PySem.boot_len (@pa_cons _ _ _ _ _ (pv 3) pa_nil rfl)) (nomark _))))) (@pss_cons _ _ _ _ _ (ps_set (i:=9) scOdd.nd rfl (Or.inl rfl) (pe_ix ix_list (pv 3) (pe_op op_add (pv 4) (pe_call GP hr2 rfl mP kP bP .nil pass0 (@pa_cons _ _ _ _ _ (pv 0) (@pa_cons _ _ _ _ _ pe_int (@pa_cons _ _ _ _ _ (pe_op op_sub (pe_callB call_len_seq rfl ml PySem.boot_len (@pa_cons _ _ _ _ _ (pv 3) pa_nil rfl)) (pv 4)) pa_nil rfl) rfl) rfl))) (fun _ _=>rfl))) (@pss_cons _ _ _ _ _ (ps_set (i:=10) scOdd.nd rfl (Or.inl rfl) (pe_callTy call_tuple_of rfl mt bootTuple (@pa_cons _ _ _ _ _ (pe_comp (own:=["_law_param"]) (caps:=[]) (κ:=[]) rfl ⟨rfl,by decide +kernel,by decide +kernel,rfl,rfl,(fun y hy=>nomatch hy),(fun y hy=>nomatch hy)⟩ rfl (pi_tup (pe_ix ix_tup (pv 9) pe_int (fun _ _=>rfl))) (fun _ _ _ _=>(pg_name (i:=0) (show(["_law_param"]:List Str).Nodup from by decide +kernel) rfl (Or.inl rfl))) (fun _ _ _ _=>(pe_call GT hrT rfl mT kT bT .nil pass0 (@pa_cons _ _ _ _ _ (pe_ix (r:=rIxT K) ix_tup (pv 0) pe_int (fun _ _=>rfl)) (@pa_cons _ _ _ _ _ pe_int pa_nil rfl) rfl)))) pa_nil rfl))) (@pss_one _ _ _ (@ps_ret _ _ _ _ (@pe_tup _ _ _ _ _ (@pa_cons _ _ _ _ _ (@pe_tup _ _ _ _ _ (@pa_cons _ _ _ _ _ (pv 5) (@pa_cons _ _ _ _ _ (@pe_tup _ _ _ _ _ pa_nil) (@pa_cons _ _ _ _ _ (pe_ix ix_tup (pv 9) pe_int (fun _ _=>rfl)) (@pa_cons _ _ _ _ _ (@pe_tup _ _ _ _ _ (@pa_cons _ _ _ _ _ pe_str (@pa_cons _ _ _ _ _ (pe_ix ix_tup (pe_ix ix_tup (pv 9) pe_int (fun _ _=>rfl)) pe_int (fun _ _=>rfl)) (@pa_cons _ _ _ _ _ (pe_ix ix_tup (pe_ix ix_tup (pv 9) pe_int (fun _ _=>rfl)) pe_int (fun _ _=>rfl)) (@pa_cons _ _ _ _ _ (pv 10) pa_nil rfl) rfl) rfl) rfl)) pa_nil rfl) rfl) rfl) rfl)) (@pa_cons _ _ _ _ _ pe_str pa_nil rfl) rfl)))))) pss_nil) d7,?_⟩
  intro H3 p0 p1 ft s3 g0 g1
  refine⟨_,rfl,rfl,_,rfl,ite2 (fun _=>?_) (fun _=>iteF (A:=True) (k7 H3 p0 p1 ft s3 g0 g1))⟩
  have hyl:=hfs.length
  have hlr3:=s3 _ _ hlr
  refine iteT (B:=True) ⟨_,rfl,_,rfl,lr,_,rfl,.inl (SqL.of hlr3),_,_,rfl,rfl,_,rfl,ite2 (fun z=>?_) (fun _=>k7 H3 p0 p1 ft s3 g0 g1)⟩
  have z':(m:Int) < (ys.length:Int):=of_decide_eq_true z
  refine⟨_,rfl,_,rfl,_,rfl,_,rfl,lr,_,rfl,.inl (SqL.of hlr3),_,rfl,_,_,rfl,rfl,a,ns,4,(ys.length:Int) - (m:Int),rfl,s3.seq hS,h63,by decide,by decide,by omega,fun r r0 r1=>⟨_,_,rfl,rfl,?_⟩⟩
  obtain⟨x,hx,hxa⟩:=at_get (xs:=ys) (i:=(m:Int)+r) (by omega) (by omega)
  obtain⟨g,hg,b,a1,a2,us,xk,xe,rfl,hb,hb1,wq,wt,hb2,hus,hu9,hk,he,hht⟩:=pair_get hfs hx
  obtain⟨h1g,h2g,⟨g3,_,g5⟩,hbg⟩:=hpr _ g hg
  have hjl:=(List.getElem?_eq_some_iff.mp hg).1
  have hul:=hus.length
  have hno:tabC (fs.take m) g.q g.t=none:=tabC_none fun x hx e=>by
   obtain⟨i,hi⟩:=List.mem_iff_getElem?.mp hx
   have him:i < m:=by
    have:=(List.getElem?_eq_some_iff.mp hi).1
    rw [List.length_take] at this
    omega
   rw [List.getElem?_take_of_lt him] at hi
   obtain⟨c1,c2,_⟩:=hpr i x hi
   have:=name_eq (c:=c) (i:=i) (j:=((m:Int)+r).toNat) (by omega) (by omega) (c1.symm.trans (e.1.symm.trans h1g)) (c2.symm.trans (e.2.symm.trans h2g))
   omega
  refine⟨lr,_,_,_,rfl,rfl,SqL.of hlr3,hxa,?_⟩
  refine⟨_,rfl,b,_,_,_,rfl,rfl,SqT.of (s3 _ _ hb),at1,a2,rfl,⟨us,s3.tup hb2⟩,comp_eachT (xs:=us) (fun j Hz v=>∃e,(g.ps.map fun p=>startE p.2 3)[j]?=some e∧ExAt Hz v e) (fun _ _ _ _ s' ⟨e,h1,h2⟩=>⟨e,h1,h2.same s'⟩) (s3.tup hb2) (by omega) (fun j u H7 N B hu7 s8 hN=>?_) (fun es' H7 D s8 hyl hy hD=>?_)⟩
  ·obtain⟨⟨sw,kw⟩,hp',b',u',rfl,hb',hsw,hku⟩:=pair_get hus hu7
   obtain⟨f1,f2,f3⟩:=g5 _ (List.mem_of_getElem? hp')
   refine⟨rfl,iteT (B:=True) ⟨_,rfl,b',_,_,_,rfl,rfl,SqT.of ((s3.trans s8) _ _ hb'),at1,u',kw,3,rfl,(hku.same (s3.trans s8)).1,f1,f2,fun H8 y s9 ey=>hN _ _ s9 ⟨startE kw 3,?_,ey⟩⟩⟩
   rw [List.getElem?_map,hp']
   rfl
  ·have hes:Paired (ExAt H7) es' (g.ps.map fun p=>startE p.2 3):=paired_of (by rw [hyl,List.length_map];exact hul) hy
   have s38:=s3.trans s8
   have n1:=same_new hD (.lst es')
   refine⟨D,es',rfl,.inl ⟨SqL.of upd_same,fun tt htt=>?_⟩⟩
   have nt:=same_new htt (.tup es')
   have s39:=s38.trans (n1.trans nt)
   refine⟨_,rfl,(by show 0≤sizeLine;decide),fun p2 h2=>?_⟩
   have n2:=same_new h2 (.tup [])
   have s40:=s39.trans n2
   refine⟨_,rfl,b,_,_,_,rfl,rfl,SqT.of (s40 _ _ hb),at2,_,rfl,b,_,_,_,rfl,rfl,SqT.of (s40 _ _ hb),at0,a1,_,_,_,rfl,rfl,SqT.of (s40 _ _ hb1),at0,_,rfl,b,_,_,_,rfl,rfl,SqT.of (s40 _ _ hb),at0,a1,_,_,_,rfl,rfl,SqT.of (s40 _ _ hb1),at1,_,rfl,(by show 4≤sizeLine;decide),fun p6 h6=>⟨(by show 4≤sizeLine;decide),fun p3 h3=>⟨(by show 2≤sizeLine;decide),fun p4 h4=>?_⟩⟩⟩
   have n6:=same_new h6 (.tup [.str "call",.str g.q,.str g.t,.ref tt])
   have n3:=same_new h3 (.tup [.ref p0,.ref p2,xk,.ref p6])
   have n4:=same_new h4 (.tup [.ref p3,.str "NoName"])
   have m34:=n3.trans n4
   have m64:=n6.trans m34
   have m24:=n2.trans m64
   have mall:=s8.trans ((n1.trans nt).trans m24)
   have hh5:=hts_start (c:=3) g5
   exact close (ps:=[]) (k:=g.k) (e:=.call g.q g.t (g.ps.map fun p=>startE p.2 3)) (s3.trans mall) (mall _ _ g0) (m64 _ _ upd_same) .nil (by decide) (hk.same (s3.trans mall)) (.call (m34 _ _ upd_same) (m24 _ _ upd_same) ((exs_of_pair hes).same ((n1.trans nt).trans m24)) ⟨wq,wt⟩) (by simp only [Ex.ht];rw [List.length_map];omega) (n4 _ _ upd_same) upd_same (.inr ⟨0,by decide,rfl,nocall (by simp) hno (kins_start g5)⟩)
 obtain⟨t5,d5,k5⟩:∃t,PSs (cxOf CX0 P w K mg base ["_law_script","_law_words","_law_pool_here","_law_program_here","_law_at","_law_name_here","_law_fault","_law_bit","_law_params","_law_behind","_law_args_here","_law_near","_law_found_here","_law_leaves"] "_law_odd" (defScope sOdd) f cdv A outer s H E).nox (List.drop 5 (defBody sOdd)) t ∧
   ∀(H3:Hp) (p0 p1:Addr) (ft:Int),Same H H3→H3 p0=some (.tup [.str (wd c 24),.str (wd c 25)])→H3 p1=some (.tup [.str "num",.int 2]) →
    t { nx:=fun _ H'=>Q .non H',rt:=Q } [some (.ref a),some (.ref lw),some (.ref lo),some (.ref lr),some (.int m),some (.ref p0),some (.int ft),some (.ref p1),none,none,none,none,none,none] H3:=by
  refine⟨_,@pss_cons _ _ _ _ _ (ps_if (pt_cmpR op_eq (pv 6) pe_int (nomark _)) (@pss_one _ _ _ (@ps_ret _ _ _ _ (@pe_tup _ _ _ _ _ (@pa_cons _ _ _ _ _ (@pe_tup _ _ _ _ _ (@pa_cons _ _ _ _ _ (pv 5) (@pa_cons _ _ _ _ _ (@pe_tup _ _ _ _ _ pa_nil) (@pa_cons _ _ _ _ _ (pv 7) (@pa_cons _ _ _ _ _ (@pe_tup _ _ _ _ _ (@pa_cons _ _ _ _ _ pe_str (@pa_cons _ _ _ _ _ (pe_ix ix_tup (pv 5) pe_int (fun _ _=>rfl)) (@pa_cons _ _ _ _ _ (pe_ix ix_tup (pv 5) pe_int (fun _ _=>rfl)) (@pa_cons _ _ _ _ _ (@pe_tup _ _ _ _ _ pa_nil) pa_nil rfl) rfl) rfl) rfl)) pa_nil rfl) rfl) rfl) rfl)) (@pa_cons _ _ _ _ _ pe_str pa_nil rfl) rfl)))) pss_nil) d6,?_⟩
  intro H3 p0 p1 ft s3 g0 g1
  refine⟨_,rfl,rfl,_,rfl,ite2 (fun _=>?_) (fun _=>k6 H3 p0 p1 ft s3 g0 g1)⟩
  refine⟨_,rfl,(by show 0≤sizeLine;decide),fun p2 h2=>?_⟩
  have n2:=same_new h2 (.tup [])
  refine⟨_,rfl,_,rfl,p0,_,_,_,rfl,rfl,SqT.of (n2 _ _ g0),at0,_,rfl,p0,_,_,_,rfl,rfl,SqT.of (n2 _ _ g0),at1,(by show 0≤sizeLine;decide),fun p5 h5=>⟨(by show 4≤sizeLine;decide),fun p6 h6=>⟨(by show 4≤sizeLine;decide),fun p3 h3=>⟨(by show 2≤sizeLine;decide),fun p4 h4=>?_⟩⟩⟩⟩
  have n5:=same_new h5 (.tup [])
  have n6:=same_new h6 (.tup [.str "call",.str (wd c 24),.str (wd c 25),.ref p5])
  have n3:=same_new h3 (.tup [.ref p0,.ref p2,.ref p1,.ref p6])
  have n4:=same_new h4 (.tup [.ref p3,.str "NoName"])
  have m34:=n3.trans n4
  have m64:=n6.trans m34
  have m54:=n5.trans m64
  have m24:=n2.trans m54
  exact close (ps:=[]) (k:=.num 2) (e:=.call (wd c 24) (wd c 25) []) (s3.trans m24) (m24 _ _ g0) (m54 _ _ upd_same) .nil (by decide) (num_at (m24 _ _ g1)) (.call (xs:=[]) (m34 _ _ upd_same) (m64 _ _ upd_same) .nil ⟨wd_sm _ _,wd_sm _ _⟩) (by simp only [Ex.ht,hts,List.length_nil];decide) (n4 _ _ upd_same) upd_same (.inr ⟨0,by decide,rfl,nocall (by simp) none24 kins_nil⟩)
 obtain⟨t4,d4,k4⟩:∃t,PSs (cxOf CX0 P w K mg base ["_law_script","_law_words","_law_pool_here","_law_program_here","_law_at","_law_name_here","_law_fault","_law_bit","_law_params","_law_behind","_law_args_here","_law_near","_law_found_here","_law_leaves"] "_law_odd" (defScope sOdd) f cdv A outer s H E).nox (List.drop 4 (defBody sOdd)) t ∧
   ∀(H3:Hp) (p0 p1:Addr) (ft:Int),Same H H3→H3 p0=some (.tup [.str (wd c 24),.str (wd c 25)])→H3 p1=some (.tup [.str "num",.int 2]) →
    t { nx:=fun _ H'=>Q .non H',rt:=Q } [some (.ref a),some (.ref lw),some (.ref lo),some (.ref lr),some (.int m),some (.ref p0),some (.int ft),some (.ref p1),none,none,none,none,none,none] H3:=by
  refine⟨_,@pss_cons _ _ _ _ _ (ps_if (pt_cmpR op_eq (pv 6) pe_int (nomark _)) (@pss_cons _ _ _ _ _ (ps_set (i:=8) scOdd.nd rfl (Or.inl rfl) (@pe_tup _ _ _ _ _ (@pa_cons _ _ _ _ _ (@pe_tup _ _ _ _ _ (@pa_cons _ _ _ _ _ (pe_ix ix_list (pv 1) pe_int (fun _ _=>rfl)) (@pa_cons _ _ _ _ _ (pv 7) pa_nil rfl) rfl)) (@pa_cons _ _ _ _ _ (@pe_tup _ _ _ _ _ (@pa_cons _ _ _ _ _ (pe_ix ix_list (pv 1) pe_int (fun _ _=>rfl)) (@pa_cons _ _ _ _ _ (pe_ix ix_list (pv 2) pe_int (fun _ _=>rfl)) pa_nil rfl) rfl)) (@pa_cons _ _ _ _ _ (@pe_tup _ _ _ _ _ (@pa_cons _ _ _ _ _ (pe_ix ix_list (pv 1) pe_int (fun _ _=>rfl)) (@pa_cons _ _ _ _ _ (pv 7) pa_nil rfl) rfl)) pa_nil rfl) rfl) rfl))) (@pss_one _ _ _ (@ps_ret _ _ _ _ (@pe_tup _ _ _ _ _ (@pa_cons _ _ _ _ _ (@pe_tup _ _ _ _ _ (@pa_cons _ _ _ _ _ (pv 5) (@pa_cons _ _ _ _ _ (pv 8) (@pa_cons _ _ _ _ _ (pv 7) (@pa_cons _ _ _ _ _ (@pe_tup _ _ _ _ _ (@pa_cons _ _ _ _ _ pe_str (@pa_cons _ _ _ _ _ (pe_ix ix_list (pv 1) pe_int (fun _ _=>rfl)) pa_nil rfl) rfl)) pa_nil rfl) rfl) rfl) rfl)) (@pa_cons _ _ _ _ _ pe_str pa_nil rfl) rfl))))) pss_nil) d5,?_⟩
  intro H3 p0 p1 ft s3 g0 g1
  refine⟨_,rfl,rfl,_,rfl,ite2 (fun _=>?_) (fun _=>k5 H3 p0 p1 ft s3 g0 g1)⟩
  have hw3:=s3 _ _ hw
  refine⟨_,rfl,lw,_,_,_,rfl,rfl,SqL.of hw3,wl_at c (r:=5) (by decide) (by decide),_,rfl,(by show 2≤sizeLine;decide),fun q1 e1=>?_⟩
  have n1:=same_new e1 (.tup [.str (wd c 5),.ref p1])
  obtain⟨ps4,x0,hl4,e4,hk4⟩:=(hpool.same (s3.trans n1)).get (r:=0) (by decide) (by decide)
  replace hk4:KAt K _ x0 (.num n):=hk4
  refine⟨_,rfl,lw,_,_,_,rfl,rfl,SqL.of (n1 _ _ hw3),wl_at c (r:=6) (by decide) (by decide),_,rfl,lo,_,_,_,rfl,rfl,SqL.of hl4,e4,(by show 2≤sizeLine;decide),fun q2 e2=>?_⟩
  have n2:=same_new e2 (.tup [.str (wd c 6),x0])
  have n12:=n1.trans n2
  refine⟨_,rfl,lw,_,_,_,rfl,rfl,SqL.of (n12 _ _ hw3),wl_at c (r:=5) (by decide) (by decide),_,rfl,(by show 2≤sizeLine;decide),fun q3 e3=>?_⟩
  have n3:=same_new e3 (.tup [.str (wd c 5),.ref p1])
  have n13:=n12.trans n3
  refine⟨(by show 3≤sizeLine;decide),fun q4 e4'=>?_⟩
  have n4:=same_new e4' (.tup [.ref q1,.ref q2,.ref q3])
  have n14:=n13.trans n4
  refine⟨_,rfl,_,rfl,_,rfl,_,rfl,lw,_,_,_,rfl,rfl,SqL.of (n14 _ _ hw3),wl_at c (r:=5) (by decide) (by decide),(by show 2≤sizeLine;decide),fun p6 h6=>⟨(by show 4≤sizeLine;decide),fun p3 h3=>⟨(by show 2≤sizeLine;decide),fun p4 h4=>?_⟩⟩⟩
  have n6:=same_new h6 (.tup [.str "var",.str (wd c 5)])
  have n7:=same_new h3 (.tup [.ref p0,.ref q4,.ref p1,.ref p6])
  have n8:=same_new h4 (.tup [.ref p3,.str "Twice"])
  have m78:=n7.trans n8
  have m68:=n6.trans m78
  have m48:=n4.trans m68
  have m38:=n3.trans m48
  have m28:=n2.trans m38
  have m18:=n1.trans m28
  refine close (ps:=[(wd c 5,.num 2),(wd c 6,.num n),(wd c 5,.num 2)]) (k:=.num 2) (e:=.var (wd c 5)) (s3.trans m18) (m18 _ _ g0) (m68 _ _ upd_same) (.cons ⟨q1,_,rfl,m28 _ _ upd_same,wd_sm _ _,num_at (m18 _ _ g1)⟩ (.cons ⟨q2,_,rfl,m38 _ _ upd_same,wd_sm _ _,hk4.same m28⟩ (.cons ⟨q3,_,rfl,m48 _ _ upd_same,wd_sm _ _,num_at (m18 _ _ g1)⟩ .nil))) (by show 3≤100;decide) (num_at (m18 _ _ g1)) (.var (m78 _ _ upd_same) (wd9 _ _)) (by simp only [Ex.ht];decide) (n8 _ _ upd_same) upd_same (.inr ⟨4,by decide,rfl,?_⟩)
  unfold lookR
  rw [if_neg (by simp)]
 refine⟨_,@pss_cons _ _ _ _ _ (ps_set (i:=5) scOdd.nd rfl (Or.inl rfl) (@pe_tup _ _ _ _ _ (@pa_cons _ _ _ _ _ (pe_ix ix_list (pv 1) pe_int (fun _ _=>rfl)) (@pa_cons _ _ _ _ _ (pe_ix ix_list (pv 1) pe_int (fun _ _=>rfl)) pa_nil rfl) rfl))) (@pss_cons _ _ _ _ _ (ps_set (i:=6) scOdd.nd rfl (Or.inl rfl) (pe_call GP hr2 rfl mP kP bP .nil pass0 (@pa_cons _ _ _ _ _ (pv 0) (@pa_cons _ _ _ _ _ pe_int (@pa_cons _ _ _ _ _ pe_int pa_nil rfl) rfl) rfl))) (@pss_cons _ _ _ _ _ (ps_set (i:=7) scOdd.nd rfl (Or.inl rfl) (@pe_tup _ _ _ _ _ (@pa_cons _ _ _ _ _ pe_str (@pa_cons _ _ _ _ _ pe_int pa_nil rfl) rfl))) (@pss_cons _ _ _ _ _ (ps_if (PW.pt (pw_and (pt_cmpR op_eq (pv 6) pe_int (nomark _)) (pw_and1 (pt_cmpR op_gt (pv 4) pe_int (nomark _))))) (@pss_one _ _ _ (@ps_ret _ _ _ _ (@pe_tup _ _ _ _ _ (@pa_cons _ _ _ _ _ (pe_ix ix_list (pv 3) (pe_call GP hr2 rfl mP kP bP .nil pass0 (@pa_cons _ _ _ _ _ (pv 0) (@pa_cons _ _ _ _ _ pe_int (@pa_cons _ _ _ _ _ (pv 4) pa_nil rfl) rfl) rfl)) (fun _ _=>rfl)) (@pa_cons _ _ _ _ _ pe_str pa_nil rfl) rfl)))) pss_nil) d4))),?_⟩
 refine⟨_,rfl,lw,_,_,_,rfl,rfl,SqL.of hw,wl_at c (r:=24) (by decide) (by decide),_,rfl,lw,_,_,_,rfl,rfl,SqL.of hw,wl_at c (r:=25) (by decide) (by decide),(by show 2≤sizeLine;decide),fun p0 h0=>?_⟩
 have n0:=same_new h0 (.tup [.str (wd c 24),.str (wd c 25)])
 refine⟨_,rfl,a,ns,3,14,rfl,n0.seq hS,h63,by decide,by decide,by decide,fun ft f0 f1=>⟨(by show 2≤sizeLine;decide),fun p1 h1=>?_⟩⟩
 have n1:=same_new h1 (.tup [.str "num",.int 2])
 have n01:=n0.trans n1
 have K4:=k4 _ p0 p1 ft n01 (n1 _ _ upd_same) upd_same
 refine⟨_,rfl,rfl,_,rfl,ite2 (fun _=>iteT (B:=True) ⟨_,rfl,_,_,rfl,rfl,_,rfl,ite2 (fun z=>?_) (fun _=>K4)⟩) (fun _=>iteF (A:=True) K4)⟩
 have z':(0:Int) < (m:Int):=of_decide_eq_true z
 have hyl:=hfs.length
 refine⟨_,rfl,_,rfl,_,rfl,a,ns,4,(m:Int),rfl,n01.seq hS,h63,by decide,by decide,z',fun r r0 r1=>?_⟩
 obtain⟨x,hx,hxa⟩:=at_get (xs:=ys) r0 (by omega)
 obtain⟨g,hg,hga⟩:=pair_get hfs hx
 refine⟨lr,_,_,_,rfl,rfl,SqL.of (n01 _ _ hlr),hxa,(by show 2≤sizeLine;decide),fun p4 h4=>?_⟩
 have n4:=same_new h4 (.tup [x,.str "Twice"])
 refine q _ p4 g x "Twice" (n01.trans n4) upd_same (hga.same (n01.trans n4)) (.inr ⟨4,by decide,rfl,.inl ⟨rfl,?_⟩⟩)
 have gm:g∈fs.take m:=List.mem_of_getElem? (i:=r.toNat) (by rw [List.getElem?_take_of_lt (by omega)];exact hg)
 rw [told g gm]
 rfl
end
end K62
namespace K62
open PySem L2 Kk
def Look(T:List Fn)(f:Fn):Prop:=∀C,Told C T→lookR 8000 C f.ps f.k f.e=none
abbrev nms(fs:List Fn):List (Str × Str):=fs.map fun f=>(f.q,f.t)
theorem tabC_fresh{dn:List Fn}{f:Fn}{r:List Fn}(h:(nms (dn++f::r)).Nodup):tabC dn f.q f.t=none:=tabC_none fun g hg e=>by
 unfold nms at h
 rw [List.map_append,List.map_cons] at h
 exact(List.nodup_append.mp h).2.2 (g.q,g.t) (List.mem_map.mpr ⟨g,hg,rfl⟩) (f.q,f.t) (by simp) (by rw [e.1,e.2])
theorem told_self{fs:List Fn}(h:(nms fs).Nodup):Told (tabC fs) fs:=fun _ hg=>tabC_mem h hg
theorem nms_left{a b:List Fn}(h:(nms (a++b)).Nodup):(nms a).Nodup:=by
 unfold nms at h
 rw [List.map_append] at h
 exact(List.nodup_append.mp h).1
theorem plain_go:∀(xs dn ys:List Fn),(nms (dn++xs)).Nodup→(∀a f b,xs=a++f::b→Look (dn++a) f)→plainR dn (xs++ys)=plainR (dn++xs) ys
 |[],dn,ys,_,_=>by rw [List.append_nil];rfl
 |f::r,dn,ys,hn,hl=>by
  have h1:=tabC_fresh hn
  have h2:=hl [] f r rfl (tabC dn) (by rw [List.append_nil];exact told_self (nms_left hn))
  have e:dn++f::r=(dn++[f])++r:=by simp
  show plainR dn (f::(r++ys))=_
  rw [plainR,h1,h2]
  show plainR (dn++[f]) (r++ys)=_
  rw [plain_go r (dn++[f]) ys (by rw [←e];exact hn) fun a g b hg=>by
   have:=hl (f::a) g b (by rw [hg];rfl)
   rw [show dn++f::a=dn++[f]++a by simp] at this
   exact this,e]
theorem plain_none{fs:List Fn}(hn:(nms fs).Nodup)(hl:∀a f b,fs=a++f::b→Look a f):plainR [] fs=none:=by
 have:=plain_go fs [] [] hn hl
 rw [List.append_nil] at this
 rw [this]
 rfl
theorem prog_look{c:Int}{fs:List Fn}(h:ProgOk c fs){a:List Fn}{f:Fn}{b:List Fn}(e:fs=a++f::b):Look a f:=fun C hC=>by
 subst e
 obtain⟨_,_,hp,hb⟩:=h a.length f (by simp)
 rw [List.take_left'] at hb
 ·unfold lookR
  rw [if_pos hp.2.1,hb.2.2.2 C hC]
  exact if_pos rfl
 ·rfl
theorem plain_some{c:Int}{a b:List Fn}{o:Fn}{n:Nat}(h:ProgOk c (a++b))(h59:(a++b).length≤59)(ho:(n=4∧(tabC a o.q o.t).isSome=true)∨(tabC a o.q o.t=none∧lookR 8000 (tabC a) o.ps o.k o.e=some n)):plainR [] (a++o::b)=some n:=by
 rw [plain_go a [] (o::b) (nms_left (names_nodup h h59)) fun x f y e=>prog_look h (b:=y++b) (by rw [e];simp)]
 show plainR a (o::b)=some n
 rw [plainR]
 rcases ho with ⟨rfl,h1⟩|⟨h1,h2⟩
 ·rw [if_pos h1]
 ·rw [h1,h2]
  rfl
theorem plain_both{c:Int}{a b:List Fn}{o:Fn}(h:ProgOk c (a++b))(hn:(nms (a++o::b)).Nodup)(ho:∀C,lookR 8000 C o.ps o.k o.e=none):plainR [] (a++o::b)=none:=plain_none hn fun x f y e=>by
 rcases List.append_eq_append_iff.mp e with ⟨z,e1,e2⟩|⟨z,e1,e2⟩
 ·cases z with
  |nil =>
   cases e2
   exact fun C _=>ho C
  |cons w z =>
   cases e2
   intro C hC
   exact prog_look h (a:=a++z) (f:=f) (b:=y) (by simp) C (hC.mono fun g hg=>by
    rw [e1]
    rcases List.mem_append.mp hg with q|q
    ·exact List.mem_append.mpr (.inl q)
    ·exact List.mem_append.mpr (.inr (.tail _ q)))
 ·cases z with
  |nil =>
   cases e2
   exact fun C _=>ho C
  |cons w z =>
   cases e2
   exact prog_look h (b:=z++b) (by rw [e1];simp)
end K62
namespace K62
open PySem L2 Kk
mutual
theorem eqv_self:∀d:PyData,d.canLay0=true→PyData.eqv d d=true
 |.none,_=>by simp [PyData.eqv]
 |.bool b,_=>by simp [PyData.eqv]
 |.int i,_=>by simp [PyData.eqv]
 |.str x,_=>by rw [eqv_str];simp
 |.list xs,h=>by rw [eqv_lst];exact eqvA_self xs (by simpa [PyData.canLay0] using h)
 |.tuple xs,h=>by rw [eqv_tup];exact eqvA_self xs (by simpa [PyData.canLay0] using h)
 |.dict _,h=>by simp [PyData.canLay0] at h
theorem eqvA_self:∀ds:List PyData,PyData.canLayAll0 ds=true→PyData.eqvAll ds ds=true
 |[],_=>eqvA_nil
 |d::ds,h=>by
  have h':d.canLay0=true∧PyData.canLayAll0 ds=true:=by simpa [PyData.canLayAll0] using h
  rw [eqvA_cons,eqv_self d h'.1,eqvA_self ds h'.2]
  rfl
end
def Shn(K:PySem.W.Frag)(H:Hp)(n:Nat)(x:V):Prop:=∃d,Dat K H x d∧d.canLay0=true∧d.depth≤n
def Shns(K:PySem.W.Frag)(H:Hp)(n:Nat)(xs:List V):Prop:=∃ds,Dats K H xs ds∧PyData.canLayAll0 ds=true∧PyData.depthAll ds≤n
section
variable{K:PySem.W.Frag}{H:Hp}{n:Nat}
theorem shn_str{s:Str}(h:PyData.strOk s=true):Shn K H n (.str s):=⟨_,.str s,by simpa [PyData.canLay0] using h,by simp [PyData.depth]⟩
theorem shn_int{i:Int}:Shn K H n (.int i):=⟨_,.int i,by simp [PyData.canLay0],by simp [PyData.depth]⟩
theorem shns_nil:Shns K H n []:=⟨[],.nil,by simp [PyData.canLayAll0],by simp [PyData.depthAll]⟩
theorem shns_cons{x:V}{xs:List V}(h:Shn K H n x)(r:Shns K H n xs):Shns K H n (x::xs):=by
 obtain⟨d,h1,h2,h3⟩:=h
 obtain⟨ds,g1,g2,g3⟩:=r
 refine⟨d::ds,.cons h1 g1,by simp [PyData.canLayAll0,h2,g2],?_⟩
 simp only [PyData.depthAll]
 omega
theorem Shn.mono{m:Nat}{x:V}(h:Shn K H n x)(e:n≤m):Shn K H m x:=by
 obtain⟨d,h1,h2,h3⟩:=h
 exact⟨d,h1,h2,Nat.le_trans h3 e⟩
theorem shn_tup{a:Addr}{xs:List V}(h:SqT K H a xs)(r:Shns K H n xs):Shn K H (n+1) (.ref a):=by
 obtain⟨ds,g1,g2,g3⟩:=r
 refine⟨.tuple ds,.tup h g1,by simpa [PyData.canLay0] using g2,?_⟩
 simp only [PyData.depth]
 omega
theorem shns_all:∀{xs:List V},(∀x∈xs,Shn K H n x)→Shns K H n xs
 |[],_=>shns_nil
 |x::xs,h=>shns_cons (h x (.head _)) (shns_all fun y hy=>h y (.tail _ hy))
theorem shn_fm{f:Fm}(h:f.cl):∀x∈f.vals,Shn K H n x:=by
 intro x hx
 cases f with
 |lit v m=>simp only [Fm.vals,List.mem_cons,List.not_mem_nil,or_false] at hx;rcases hx with rfl|rfl|rfl<;>first|exact shn_int|exact shn_str (by decide +kernel)|exact shn_str h
 |op o m=>simp only [Fm.vals,List.mem_cons,List.not_mem_nil,or_false] at hx;rcases hx with rfl|rfl|rfl<;>first|exact shn_int|exact shn_str (by decide +kernel)|exact shn_str h
 |test o=>simp only [Fm.vals,List.mem_cons,List.not_mem_nil,or_false] at hx;rcases hx with rfl|rfl<;>first|exact shn_int|exact shn_str (by decide +kernel)|exact shn_str h
 |as_ m=>simp only [Fm.vals,List.mem_cons,List.not_mem_nil,or_false] at hx;rcases hx with rfl|rfl<;>first|exact shn_int|exact shn_str (by decide +kernel)|exact shn_str h
 |if_=>simp only [Fm.vals,List.mem_cons,List.not_mem_nil,or_false] at hx;subst hx;exact shn_str (by decide +kernel)
 |two=>simp only [Fm.vals,List.mem_cons,List.not_mem_nil,or_false] at hx;subst hx;exact shn_str (by decide +kernel)
 |fst=>simp only [Fm.vals,List.mem_cons,List.not_mem_nil,or_false] at hx;subst hx;exact shn_str (by decide +kernel)
 |snd=>simp only [Fm.vals,List.mem_cons,List.not_mem_nil,or_false] at hx;subst hx;exact shn_str (by decide +kernel)
mutual
theorem shn_ex:∀{x:V} {e:Ex},ExAt H x e→Cl e→Shn K H (2*e.ht) x
 |_,_,.var h _,c=>by
  simp only [Cl] at c
  exact(shn_tup (n:=0) (SqT.of h) (shns_cons (shn_str (by decide +kernel)) (shns_cons (shn_str c) shns_nil))).mono (by simp only [Ex.ht];decide)
 |_,_,.let_ (a:=a) (b:=b) h ha hb,c=>by
  simp only [Cl] at c
  have h1:=shn_ex ha c.2.1
  have h2:=shn_ex hb c.2.2
  exact(shn_tup (n:=2*max a.ht b.ht) (SqT.of h) (shns_cons (shn_str (by decide +kernel)) (shns_cons (shn_str c.1) (shns_cons (h1.mono (by omega)) (shns_cons (h2.mono (by omega)) shns_nil))))).mono (by simp only [Ex.ht];omega)
 |_,_,.nd (es:=es) h r _,c=>by
  simp only [Cl] at c
  exact(shn_tup (n:=2*hts es) (SqT.of h) (shns_all fun x hx=>by
   rcases List.mem_append.mp hx with z|z
   ·exact shn_fm c.1 x z
   ·exact shn_exs r c.2 x z)).mono (by simp only [Ex.ht];omega)
 |_,_,.call (es:=es) h h2 r _,c=>by
  simp only [Cl] at c
  exact(shn_tup (n:=2*hts es+1) (SqT.of h) (shns_cons (shn_str (by decide +kernel)) (shns_cons (shn_str c.1) (shns_cons (shn_str c.2.1) (shns_cons (shn_tup (SqT.of h2) (shns_all fun x hx=>shn_exs r c.2.2 x hx)) shns_nil))))).mono (by simp only [Ex.ht];omega)
theorem shn_exs:∀{xs:List V} {es:List Ex},ExsAt H xs es→Cls es→∀x∈xs,Shn K H (2*hts es) x
 |_,_,.nil,_,x,hx=>nomatch hx
 |_,_,.cons a r,c,x,hx=>by
  simp only [Cls] at c
  simp only [hts]
  rcases List.mem_cons.mp hx with e|z
  ·rw [e]
   exact(shn_ex a c.1).mono (by omega)
  ·exact(shn_exs r c.2 x z).mono (by omega)
end
theorem shn_kd{x:V}{k:Kd}(h:KAt K H x k):Shn K H 50 x:=⟨_,kd_dat h.1,lay_kd h.2.1,Nat.le_trans (deep_kd k) h.2.2.1⟩
theorem shn_fn{x:V}{f:Fn}(h:FnAt K H x f)(hc:Cl f.e)(h12:f.e.ht≤12):Shn K H 60 x:=by
 obtain⟨a,a1,a2,xs,xk,xe,rfl,h1,h2,w1,w2,h3,h4,_,h5,h6,_⟩:=h
 refine shn_tup (n:=59) (SqT.of h1) (shns_cons ?_ (shns_cons ?_ (shns_cons ((shn_kd h5).mono (by decide)) (shns_cons ((shn_ex h6 hc).mono (by omega)) shns_nil))))
 ·exact(shn_tup (n:=0) (SqT.of h2) (shns_cons (shn_str w1.1) (shns_cons (shn_str w2.1) shns_nil))).mono (by decide)
 ·refine(shn_tup (n:=51) h3 (shns_all fun x hx=>?_)).mono (by decide)
  obtain⟨i,hi⟩:=List.mem_iff_getElem?.mp hx
  obtain⟨p,_,b,u,rfl,g1,g2,g3⟩:=pair_get h4 hi
  exact shn_tup (n:=50) (SqT.of g1) (shns_cons (shn_str g2.1) (shns_cons (shn_kd g3) shns_nil))
theorem shn_fns{c:Int}{xs:List V}{fs:List Fn}(h:FnsAt K H xs fs)(hp:ProgOk c fs):Shns K H 60 xs:=shns_all fun x hx=>by
 obtain⟨i,hi⟩:=List.mem_iff_getElem?.mp hx
 obtain⟨f,hf,hfa⟩:=pair_get h hi
 obtain⟨_,_,_,hb⟩:=hp i f hf
 exact shn_fn hfa hb.2.2.1 hb.2.1
end
theorem new_at{H:Hp}{p:Addr}(h:H p=none)(o:HO):upd H p o p=some o:=upd_same
theorem pair_take{α β:Type}{R:α→β→Prop}:∀{xs:List α} {ys:List β} (n:Nat),Paired R xs ys→Paired R (xs.take n) (ys.take n)
 |_,_,0,_=>.nil
 |_,_,_+1,.nil=>.nil
 |_,_,n+1,.cons a r=>.cons a (pair_take n r)
theorem pair_drop{α β:Type}{R:α→β→Prop}:∀{xs:List α} {ys:List β} (n:Nat),Paired R xs ys→Paired R (xs.drop n) (ys.drop n)
 |_,_,0,h=>h
 |_,_,_+1,.nil=>.nil
 |_,_,n+1,.cons _ r=>pair_drop n r
theorem other_ok{c:Int}{fs:List Fn}{m:Nat}{o:Fn}{z:Str}(hp:ProgOk c fs)(h59:fs.length≤59)(ho:OddOk c fs m o z) :
  (z=""∧plainR [] (fs.take m++o::fs.drop m)=none∧(nms (fs.take m++o::fs.drop m)).Nodup)∨∃n,n < 5∧z=nm n∧plainR [] (fs.take m++o::fs.drop m)=some n:=by
 have e:fs.take m++fs.drop m=fs:=List.take_append_drop m fs
 have hp':ProgOk c (fs.take m++fs.drop m):=by rw [e];exact hp
 have h59':(fs.take m++fs.drop m).length≤59:=by rw [e];exact h59
 have none24:∀g∈fs,¬(wd c 24=g.q∧wd c 25=g.t):=fun g hg e=>by
  obtain⟨i,hi,h1,h2⟩:=prog_mem hp hg
  have:=wd_ne (c:=c) (i:=24) (j:=(i:Int)%3) (by decide) (by omega) (e.1.trans h1)
  omega
 rcases ho with ⟨h1,h2,h3,h4⟩|⟨n,h1,h2,h3⟩
 ·have hn:(nms (fs.take m++o::fs.drop m)).Nodup:=by
   have hperm:(nms (fs.take m++o::fs.drop m)).Perm (nms (o::fs)):=by
    have:=(List.perm_middle (a:=o) (l₁:=fs.take m) (l₂:=fs.drop m)).map fun f:Fn=>(f.q,f.t)
    rw [e] at this
    exact this
   refine hperm.nodup_iff.mpr ?_
   show((o.q,o.t)::nms fs).Nodup
   refine List.nodup_cons.mpr ⟨fun hm=>?_,names_nodup hp h59⟩
   obtain⟨g,hg,eg⟩:=List.mem_map.mp hm
   have e1:=congrArg Prod.fst eg
   have e2:=congrArg Prod.snd eg
   exact none24 g hg ⟨h2.symm.trans e1.symm,h3.symm.trans e2.symm⟩
  exact .inl ⟨h1,plain_both hp' hn h4,hn⟩
 ·refine .inr ⟨n,h1,h2,plain_some hp' h59' ?_⟩
  rcases h3 with h|⟨h4,h5,h6⟩
  ·exact .inl h
  ·exact .inr ⟨by rw [h4,h5];exact tabC_none fun g hg=>none24 g (List.mem_of_mem_take hg),h6⟩
def spLaw(K:PySem.W.Frag)(T:Addr):Sp:=fun vs H Q _=>∃(a:Addr) (ns:List Int),vs=[.ref a]∧SqL K H a (ns.map V.int)∧ns.length≤63∧H T=some (.tbl tabL)∧∀H',Q (.bl true) H'
section
variable{P:Program}{w:World}{K:PySem.W.Frag}{mg:Str→Option Value}{base:Heap}{cl:Nat→Addr}
theorem bootListT:bootBuiltins "list"=some (.type "list"):=by decide +kernel
theorem scLaw:FnScope ["_law_script","_law_words","_law_pool_here","_law_many","_law_program_here","_law_at","_law_odd_here","_law_due","_law_other","_law_handed","_law_found_here"] ["_law_script"] (defScope sLaw):=⟨rfl,rfl,rfl,by decide +kernel,rfl,by decide +kernel,by decide +kernel⟩
set_option maxHeartbeats 0 in
theorem ok_law{f T fC fP fW fS fO fM fY fF fD:Addr}{fd fdC fdP fdW fdS fdO fdM fdY fdF fdD:FuncData} (F:Fun K "law" "law" sLaw f fd) (mr:mg "range"=none) (mli:mg "list"=none)
  (GC:FnOk P w K mg base CX0 1 fC fdC ["_law_script","_law_k"] (spCell K)) (bC:Binds K fdC ["_law_script","_law_k"] []) (kC:PySem.W.keepIn K (.ref fC)=true) (mC:mg "_law_cell"=some (.ref fC))
  (GP:FnOk P w K mg base CX0 2 fP fdP ["_law_script","_law_k","_law_many"] (spPick K)) (bP:Binds K fdP ["_law_script","_law_k","_law_many"] []) (kP:PySem.W.keepIn K (.ref fP)=true) (mP:mg "_law_pick"=some (.ref fP))
  (GW:FnOk P w K mg base CX0 1 fW fdW ["_law_cell_here","_law_mark"] spWord) (bW:Binds K fdW ["_law_cell_here","_law_mark"] []) (kW:PySem.W.keepIn K (.ref fW)=true) (mW:mg "_law_word"=some (.ref fW))
  (GS:FnOk P w K mg base CX0 3 fS fdS ["_law_script","_law_k"] (spSize K)) (bS:Binds K fdS ["_law_script","_law_k"] []) (kS:PySem.W.keepIn K (.ref fS)=true) (mS:mg "_law_size"=some (.ref fS))
  (GO:FnOk P w K mg base CX0 1 fO fdO ["_law_size_here"] (spPool K)) (bO:Binds K fdO ["_law_size_here"] []) (kO:PySem.W.keepIn K (.ref fO)=true) (mO:mg "_law_pool"=some (.ref fO))
  (GM:FnOk P w K mg base CX0 6 fM fdM ["_law_script","_law_many","_law_words","_law_pool_here"] (spProg K)) (bM:Binds K fdM ["_law_script","_law_many","_law_words","_law_pool_here"] []) (kM:PySem.W.keepIn K (.ref fM)=true) (mM:mg "_law_program"=some (.ref fM))
  (GY:FnOk P w K mg base CX0 5 fY fdY ["_law_script","_law_words","_law_pool_here","_law_program_here","_law_at"] (spOdd K)) (bY:Binds K fdY ["_law_script","_law_words","_law_pool_here","_law_program_here","_law_at"] []) (kY:PySem.W.keepIn K (.ref fY)=true) (mY:mg "_law_odd"=some (.ref fY))
  (GF:FnOk P w K mg base CX0 67 fF fdF ["_law_program_here"] (spFound K T)) (bF:Binds K fdF ["_law_program_here"] []) (kF:PySem.W.keepIn K (.ref fF)=true) (mF:mg "_law_found"=some (.ref fF))
  (GD:FnOk P w K mg base CX0 63 fD fdD ["_law_found_here","_law_program_here"] (spTold K)) (bD:Binds K fdD ["_law_found_here","_law_program_here"] []) (kD:PySem.W.keepIn K (.ref fD)=true) (mD:mg "_law_told"=some (.ref fD)):FnOk P w K mg base CX0 68 f fd ["_law_script"] (spLaw K T):=by
 refine F.ok (k:=67) scLaw (fun vs H Q E h=>?_) (fun cdv A outer s H vs Q E hrF h=>?_)
 ·obtain⟨_,_,rfl,_⟩:=h
  rfl
 obtain⟨a,ns,rfl,hS,h63,hT,q⟩:=h
 have hr1:Room 1 _:=hrF.mono (by decide)
 have hr2:Room 2 _:=hrF.mono (by decide)
 have hr3:Room 3 _:=hrF.mono (by decide)
 have hrO:Room 1 _:=hr1
 have hrM:Room 6 _:=hrF.mono (by decide)
 have hrY:Room 5 _:=hrF.mono (by decide)
 have hrD:Room 63 _:=hrF.mono (by decide)
 have hu64:=hu64_of hrF
 obtain⟨t12,d12,k12⟩:∃t,PSs (cxOf CX0 P w K mg base ["_law_script","_law_words","_law_pool_here","_law_many","_law_program_here","_law_at","_law_odd_here","_law_due","_law_other","_law_handed","_law_found_here"] "law" (defScope sLaw) f cdv A outer s H E).nox (List.drop 12 (defBody sLaw)) t ∧
   ∀(H3:Hp) (lr lh:Addr) (c:Int) (ys:List V) (fs:List Fn) (v1 v2 v3 v5 v6 v7 v8 v10:Option V),Same H H3→H3 lr=some (.lst ys)→H3 lh=some (.lst ys)→FnsAt K H3 ys fs→ProgOk c fs→fs.length≤59 →
    t { nx:=fun _ H'=>Q .non H',rt:=Q } [some (.ref a),v1,v2,v3,some (.ref lr),v5,v6,v7,v8,some (.ref lh),v10] H3:=by
  refine⟨_,@pss_one _ _ _ (@ps_ret _ _ _ _ (pe_and (pe_call GD hrD rfl mD kD bD .nil pass0 (@pa_cons _ _ _ _ _ (pe_call GF hrF rfl mF kF bF .nil pass0 (@pa_cons _ _ _ _ _ (pv 9) pa_nil rfl)) (@pa_cons _ _ _ _ _ (pv 4) pa_nil rfl) rfl)) (pe_one (pe_cmpR (op_eqD hu64) (pv 9) (pv 4) (nomark _))))),?_⟩
  intro H3 lr lh c ys fs v1 v2 v3 v5 v6 v7 v8 v10 s3 hlr hlh hfs hpr h59
  have hnd:=names_nodup hpr h59
  have hpn:plainR [] fs=none:=plain_none hnd fun x f y e=>prog_look hpr e
  refine⟨_,rfl,lh,ys,fs,rfl,s3 _ _ hT,SqL.of hlh,hfs,by omega,(fun c hc=>by rw [hpn] at hc;cases hc),fun H4 p s4 hp=>?_⟩
  rw [hpn] at hp
  obtain⟨d,hpd,htd⟩:=hp
  refine⟨_,rfl,p,lr,d,ys,fs,rfl,hpd,htd,SqL.of (s4 _ _ hlr),Paired.mapP hfs fun _ _ z=>z.same s4,by omega,hnd,fun H5 s5=>⟨true,rfl,iteT ?_⟩⟩
  obtain⟨ds,g1,g2,g3⟩:=shn_fns (Paired.mapP hfs fun _ _ z=>z.same (s4.trans s5)) hpr
  have gl:(PyData.list ds).canLay0=true:=by simpa [PyData.canLay0] using g2
  have gsh:SeqAt.shaped (.list ds)=true:=by
   unfold SeqAt.shaped
   rw [gl,decide_eq_true (show PyData.depth (.list ds)≤64 by simp only [PyData.depth];omega)]
   rfl
  refine⟨_,rfl,_,rfl,.list ds,.list ds,.lst (SqL.of ((s4.trans s5) _ _ hlh)) g1,.lst (SqL.of ((s4.trans s5) _ _ hlr)) g1,gsh,gsh,?_⟩
  show Q (.bl (PyData.eqv (.list ds) (.list ds))) _
  rw [eqv_self _ gl]
  exact q _
 obtain⟨t4,d4,k4⟩:∃t,PSs (cxOf CX0 P w K mg base ["_law_script","_law_words","_law_pool_here","_law_many","_law_program_here","_law_at","_law_odd_here","_law_due","_law_other","_law_handed","_law_found_here"] "law" (defScope sLaw) f cdv A outer s H E).nox (List.drop 4 (defBody sLaw)) t ∧
   ∀(H3:Hp) (lw lo:Addr) (c n mm:Int),Same H H3→H3 lw=some (.lst (wl c))→PoolAt K H3 lo n→0 < n→0≤mm→mm≤59 →
    t { nx:=fun _ H'=>Q .non H',rt:=Q } [some (.ref a),some (.ref lw),some (.ref lo),some (.int mm),none,none,none,none,none,none,none] H3:=by
  refine⟨_,@pss_cons _ _ _ _ _ (ps_set (i:=4) scLaw.nd rfl (Or.inl rfl) (pe_call GM hrM rfl mM kM bM .nil pass0 (@pa_cons _ _ _ _ _ (pv 0) (@pa_cons _ _ _ _ _ (pv 3) (@pa_cons _ _ _ _ _ (pv 1) (@pa_cons _ _ _ _ _ (pv 2) pa_nil rfl) rfl) rfl) rfl))) (@pss_cons _ _ _ _ _ (ps_set (i:=5) scLaw.nd rfl (Or.inl rfl) (pe_call GP hr2 rfl mP kP bP .nil pass0 (@pa_cons _ _ _ _ _ (pv 0) (@pa_cons _ _ _ _ _ pe_int (@pa_cons _ _ _ _ _ (pe_op op_add (pv 3) pe_int) pa_nil rfl) rfl) rfl))) (@pss_cons _ _ _ _ _ (ps_asg (pe_call GY hrY rfl mY kY bY .nil pass0 (@pa_cons _ _ _ _ _ (pv 0) (@pa_cons _ _ _ _ _ (pv 1) (@pa_cons _ _ _ _ _ (pv 2) (@pa_cons _ _ _ _ _ (pv 4) (@pa_cons _ _ _ _ _ (pv 5) pa_nil rfl) rfl) rfl) rfl) rfl)) (pg_tup rfl (pgs_cons (pg_name (i:=6) scLaw.nd rfl (Or.inl rfl)) (pgs_cons (pg_name (i:=7) scLaw.nd rfl (Or.inl rfl)) pgs_nil)))) (@pss_cons _ _ _ _ _ (ps_set (i:=8) scLaw.nd rfl (Or.inl rfl) (pe_op op_cat (pe_op op_cat (pe_slice sl_list (pv 4) po_none (po_some (pv 5))) (pe_lst (@pa_cons _ _ _ _ _ (pv 6) pa_nil rfl))) (pe_slice sl_list (pv 4) (po_some (pv 5)) po_none))) (@pss_cons _ _ _ _ _ (ps_set (i:=9) scLaw.nd rfl (Or.inl rfl) (pe_callTy call_list_of rfl mli bootListT (@pa_cons _ _ _ _ _ (pv 4) pa_nil rfl))) (@pss_cons _ _ _ _ _ (ps_if (pt_not (L2.pt_val (pe_call GD hrD rfl mD kD bD .nil pass0 (@pa_cons _ _ _ _ _ (pe_call GF hrF rfl mF kF bF .nil pass0 (@pa_cons _ _ _ _ _ (pv 9) pa_nil rfl)) (@pa_cons _ _ _ _ _ (pv 4) pa_nil rfl) rfl)))) (@pss_one _ _ _ (@ps_ret _ _ _ _ pe_bl)) pss_nil) (@pss_cons _ _ _ _ _ (ps_set (i:=10) scLaw.nd rfl (Or.inl rfl) (pe_call GF hrF rfl mF kF bF .nil pass0 (@pa_cons _ _ _ _ _ (pv 8) pa_nil rfl))) (@pss_cons _ _ _ _ _ (ps_if (PW.pt (pw_or (PW.pt (pw_and (pt_cmpR op_ne (pv 7) pe_str (nomark _)) (pw_and1 (pt_cmpR op_ne (pe_ix ix_tup (pv 10) pe_int (fun _ _=>rfl)) (pv 7) (nomark _))))) (pw_or1 (PW.pt (pw_and (pt_cmpR op_eq (pv 7) pe_str (nomark _)) (pw_and1 (pt_not (L2.pt_val (pe_call GD hrD rfl mD kD bD .nil pass0 (@pa_cons _ _ _ _ _ (pv 10) (@pa_cons _ _ _ _ _ (pv 8) pa_nil rfl) rfl)))))))))) (@pss_one _ _ _ (@ps_ret _ _ _ _ pe_bl)) pss_nil) d12))))))),?_⟩
  intro H3 lw lo c n mm s3 hw hpool hn m0 m59
  refine⟨_,rfl,_,rfl,_,rfl,_,rfl,a,lw,lo,ns,mm,c,n,rfl,s3.seq hS,h63,m0,m59,hw,hpool,hn,fun H4 lr ys fs s4 hlr hfs hpr hfl=>?_⟩
  have s34:=s3.trans s4
  have h59:fs.length≤59:=by omega
  have hyl:=hfs.length
  have hnd:=names_nodup hpr h59
  have hpn:plainR [] fs=none:=plain_none hnd fun x f y e=>prog_look hpr e
  refine⟨_,rfl,_,rfl,_,_,rfl,rfl,a,ns,6,mm+1,rfl,s34.seq hS,h63,by decide,by decide,by omega,fun m m1 m2=>?_⟩
  obtain⟨m,rfl⟩:∃m':Nat,m=(m':Int):=⟨m.toNat,by omega⟩
  refine⟨_,rfl,_,rfl,_,rfl,_,rfl,_,rfl,a,lw,lo,lr,ns,m,c,n,ys,fs,rfl,s34.seq hS,h63,s4 _ _ hw,hpool.same s4,hn,hlr,hfs,hpr,h59,by omega,fun H5 p o x z s5 hp hx hodd=>?_⟩
  refine⟨p,_,rfl,SqT.of hp,rfl,_,_,rfl,_,_,rfl,rfl,?_⟩
  have hlr5:=s5 _ _ hlr
  refine⟨_,rfl,_,rfl,_,rfl,lr,ys,rfl,SqL.of hlr5,fun p7 h7=>?_⟩
  have n7:=same_new h7 (.lst (cutV ys none (some (m:Int))))
  refine⟨_,rfl,(by show 1≤sizeLine;decide),fun p8 h8=>?_⟩
  have n8:=same_new h8 (.lst [x])
  have n78:=n7.trans n8
  have c1:=cutV_length ys none (some (m:Int))
  have c2:=cutV_length ys (some (m:Int)) none
  refine⟨p7,p8,_,_,rfl,rfl,n8 _ _ upd_same,upd_same,Nat.le_of_lt (small1000 (show(cutV ys none (some (m:Int))).length+1≤1000 by omega)),fun p9 h9=>?_⟩
  have n9:=same_new h9 (.lst (cutV ys none (some (m:Int))++[x]))
  have n79:=n78.trans n9
  refine⟨_,rfl,_,rfl,_,rfl,lr,ys,rfl,SqL.of (n79 _ _ hlr5),fun p10 h10=>?_⟩
  have n10:=same_new h10 (.lst (cutV ys (some (m:Int)) none))
  refine⟨p9,p10,_,_,rfl,rfl,n10 _ _ upd_same,upd_same,Nat.le_of_lt (small1000 (show(cutV ys none (some (m:Int))++[x]).length+(cutV ys (some (m:Int)) none).length≤1000 by rw [List.length_append];show _+1+_≤1000;omega)),fun l2 h11=>?_⟩
  have n11:=same_new h11 (.lst (cutV ys none (some (m:Int))++[x]++cutV ys (some (m:Int)) none))
  have s6:=n79.trans (n10.trans n11)
  refine⟨_,rfl,lr,ys,rfl,.inl (SqL.of (s6 _ _ hlr5)),fun lh h12=>?_⟩
  have n12:=same_new h12 (.lst ys)
  have s7:=s6.trans n12
  have hl2:=n12 _ _ (new_at h11 (.lst (cutV ys none (some (m:Int))++[x]++cutV ys (some (m:Int)) none)))
  have hlh:=new_at h12 (.lst ys)
  generalize hH7:upd _ lh (.lst ys)=H7 at s7 hl2 hlh ⊢
  rw [cut_to,cut_from] at hl2
  have s47:=s5.trans s7
  have s37:=s34.trans s47
  have f7:FnsAt K H7 ys fs:=Paired.mapP hfs fun _ _ z=>z.same s47
  have fo:FnsAt K H7 (ys.take m++[x]++ys.drop m) (fs.take m++o::fs.drop m):=by
   have:=pair_app (pair_app (pair_take m f7) (.cons (hx.same s7) .nil)) (pair_drop m f7)
   rw [List.append_assoc (fs.take m) [o]] at this
   exact this
  have fol:(fs.take m++o::fs.drop m).length≤200:=by
   have e1:=congrArg List.length (List.take_append_drop m fs)
   rw [List.length_append] at e1
   rw [List.length_append,List.length_cons]
   omega
  refine⟨_,rfl,lh,ys,fs,rfl,s37 _ _ hT,SqL.of hlh,f7,by omega,(fun c hc=>by rw [hpn] at hc;cases hc),fun H8 p2 s8 hp2=>?_⟩
  rw [hpn] at hp2
  obtain⟨d,hpd,htd⟩:=hp2
  have f8:FnsAt K H8 ys fs:=Paired.mapP f7 fun _ _ z=>z.same s8
  refine⟨_,rfl,p2,lr,d,ys,fs,rfl,hpd,htd,SqL.of ((s7.trans s8) _ _ hlr5),f8,by omega,hnd,fun H9 s9=>⟨true,rfl,iteF ?_⟩⟩
  have s79:=s8.trans s9
  have s39:=s37.trans s79
  have fo9:FnsAt K H9 _ _:=Paired.mapP fo fun _ _ z=>z.same s79
  have fin:∀(H10:Hp) (v:Option V),Same H9 H10→t12 { nx:=fun _ H'=>Q .non H',rt:=Q } [some (.ref a),some (.ref lw),some (.ref lo),some (.int mm),some (.ref lr),some (.int (m:Int)),some x,some (.str z),some (.ref l2),some (.ref lh),v] H10:=fun H10 v s10=>by
   have s710:=s79.trans s10
   exact k12 H10 lr lh c ys fs _ _ _ _ _ _ _ v (s37.trans s710) ((s7.trans s710) _ _ hlr5) (s710 _ _ hlh) (Paired.mapP f7 fun _ _ z=>z.same s710) hpr h59
  rcases other_ok hpr h59 hodd with ⟨rfl,h1,h2⟩|⟨n',hn5,rfl,h1⟩
  ·refine⟨_,rfl,l2,_,_,rfl,s39 _ _ hT,SqL.of (s79 _ _ hl2),fo9,fol,(fun c hc=>by rw [h1] at hc;cases hc),fun H10 p3 s10 hp3=>?_⟩
   rw [h1] at hp3
   obtain⟨d3,hpd3,htd3⟩:=hp3
   refine⟨_,rfl,rfl,_,rfl,ite2 (fun c=>absurd c (by decide +kernel)) (fun _=>iteF (A:=True) ?_)⟩
   refine⟨_,rfl,rfl,_,rfl,ite2 (fun _=>?_) (fun c=>absurd (show decide (V.str ""=V.str "")=true from decide_eq_true rfl) c)⟩
   refine⟨_,rfl,_,rfl,p3,l2,d3,_,_,rfl,hpd3,htd3,SqL.of ((s79.trans s10) _ _ hl2),Paired.mapP fo9 fun _ _ z=>z.same s10,fol,h2,fun H11 s11=>⟨true,rfl,iteF ?_⟩⟩
   exact fin _ _ (s10.trans s11)
  ·refine⟨_,rfl,l2,_,_,rfl,s39 _ _ hT,SqL.of (s79 _ _ hl2),fo9,fol,(fun c hc=>by rw [h1] at hc;cases hc;exact hn5),fun H10 p3 s10 hp3=>?_⟩
   rw [h1] at hp3
   obtain⟨_,hpd3⟩:=hp3
   have nne:nm n'≠"":=by
    have:n'=0∨n'=1∨n'=2∨n'=3∨n'=4:=by omega
    rcases this with rfl|rfl|rfl|rfl|rfl<;>decide +kernel
   have e1:(!decide (V.str (nm n')=V.str ""))=true:=by
    rw [decide_eq_false fun e=>nne (V.str.inj e)]
    rfl
   have e2:(!decide (V.str (nm n')=V.str (nm n')))=false:=by
    rw [decide_eq_true rfl]
    rfl
   refine⟨_,rfl,rfl,_,rfl,ite2 (fun _=>?_) (fun c=>absurd e1 c)⟩
   refine⟨_,rfl,p3,_,_,_,rfl,rfl,SqT.of hpd3,at0,_,rfl,rfl,_,rfl,ite2 (fun c=>absurd (e2.symm.trans c) (by decide)) (fun _=>iteF (A:=True) ?_)⟩
   refine⟨_,rfl,rfl,_,rfl,ite2 (fun c=>absurd (V.str.inj (of_decide_eq_true c)) nne) (fun _=>iteF (A:=True) ?_)⟩
   exact fin _ _ s10
 refine⟨_,@pss_cons _ _ _ _ _ (ps_comp (i0:=1) scLaw.nd rfl (Or.inl rfl) (own:=["_law_mark"]) (caps:=["_law_script"]) (κ:=[0]) rfl ⟨rfl,by decide +kernel,by decide +kernel,rfl,rfl,(fun y hy=>by simp only [List.mem_cons,List.not_mem_nil,or_false] at hy;rcases hy with rfl<;>rfl),(fun y hy=>by simp only [List.mem_cons,List.not_mem_nil,or_false] at hy;rcases hy with rfl<;>exact⟨.inl rfl,rfl,.inl rfl⟩)⟩ rfl (pi_range1 rfl mr (@pa_cons _ _ _ _ _ pe_int pa_nil rfl)) (fun _ _ _ _=>(pg_name (i:=0) (show(["_law_mark","_law_script"]:List Str).Nodup from by decide +kernel) rfl (Or.inl rfl))) (fun _ _ _ _=>(pe_call GW hr1 rfl mW kW bW .nil pass0 (@pa_cons _ _ _ _ _ (pe_call GC hr1 rfl mC kC bC .nil pass0 (@pa_cons _ _ _ _ _ (pv 1) (@pa_cons _ _ _ _ _ pe_int pa_nil rfl) rfl)) (@pa_cons _ _ _ _ _ (pv 0) pa_nil rfl) rfl)))) (@pss_cons _ _ _ _ _ (ps_set (i:=2) scLaw.nd rfl (Or.inl rfl) (pe_call GO hrO rfl mO kO bO .nil pass0 (@pa_cons _ _ _ _ _ (pe_call GS hr3 rfl mS kS bS .nil pass0 (@pa_cons _ _ _ _ _ (pv 0) (@pa_cons _ _ _ _ _ pe_int pa_nil rfl) rfl)) pa_nil rfl))) (@pss_cons _ _ _ _ _ (ps_set (i:=3) scLaw.nd rfl (Or.inl rfl) (pe_call GP hr2 rfl mP kP bP .nil pass0 (@pa_cons _ _ _ _ _ (pv 0) (@pa_cons _ _ _ _ _ pe_int (@pa_cons _ _ _ _ _ pe_int pa_nil rfl) rfl) rfl))) (@pss_cons _ _ _ _ _ (ps_if (pt_cmpR op_eq (pe_call GP hr2 rfl mP kP bP .nil pass0 (@pa_cons _ _ _ _ _ (pv 0) (@pa_cons _ _ _ _ _ pe_int (@pa_cons _ _ _ _ _ pe_int pa_nil rfl) rfl) rfl)) pe_int (nomark _)) (@pss_one _ _ _ (ps_set (i:=3) scLaw.nd rfl (Or.inl rfl) (pe_op op_add pe_int (pe_call GP hr2 rfl mP kP bP .nil pass0 (@pa_cons _ _ _ _ _ (pv 0) (@pa_cons _ _ _ _ _ pe_int (@pa_cons _ _ _ _ _ pe_int pa_nil rfl) rfl) rfl))))) pss_nil) d4))),?_⟩
 refine⟨_,rfl,by omega,by omega,comp_eachR (m:=26) (fun j Hz v=>v=.str (wd (cellOf ns 0) (j:Int))) (fun _ _ _ _ _ h=>h) (by omega) (fun j H2 N B hj s2 hN=>?_) (fun zs H2 lw s2 hzl hz hlw=>?_)⟩
 ·exact⟨rfl,iteT (B:=True) ⟨_,rfl,a,ns,0,rfl,sql_same s2 hS,h63,by decide,by decide,_,rfl,cellOf ns 0,_,rfl,fun H3 s3=>hN _ _ s3 (by rw [show(0:Int)+(j:Int)=(j:Int) by omega])⟩⟩
 have ez:zs=wl (cellOf ns 0):=by
  apply List.ext_getElem?
  intro i
  unfold wl
  rw [List.getElem?_map]
  by_cases hi:i < 26
  ·rw [List.getElem?_range hi,List.getElem?_eq_getElem (by omega)]
   exact congrArg some (hz i _ (List.getElem?_eq_getElem (by omega)))
  ·rw [List.getElem?_eq_none (by omega),List.getElem?_eq_none (l:=List.range 26) (by rw [List.length_range];omega)]
   rfl
 subst ez
 have s3:=s2.trans (same_new hlw (.lst (wl (cellOf ns 0))))
 have hw3:=new_at hlw (.lst (wl (cellOf ns 0)))
 generalize upd H2 lw (.lst (wl (cellOf ns 0)))=H3 at s3 hw3 ⊢
 have hS3:=sql_same s3 hS
 refine⟨_,rfl,a,ns,1,rfl,hS3,h63,by decide,by decide,fun n H4 s4 n0 n1=>⟨n,rfl,n0,fun H5 lo s5 hpool=>?_⟩⟩
 have s45:=s4.trans s5
 have s35:=s3.trans s45
 have hS5:=sql_same s45 hS3
 refine⟨_,rfl,a,ns,2,9,rfl,hS5,h63,by decide,by decide,by decide,fun mm m0 m1=>?_⟩
 refine⟨_,rfl,a,ns,5,6,rfl,hS5,h63,by decide,by decide,by decide,fun r r0 r1=>⟨rfl,_,rfl,ite2 (fun _=>?_) (fun _=>?_)⟩⟩
 ·exact⟨_,rfl,a,ns,2,40,rfl,hS5,h63,by decide,by decide,by decide,fun r r0 r1=>⟨_,_,rfl,rfl,k4 H5 lw lo _ n (20+r) s35 (s45 _ _ hw3) hpool n0 (by omega) (by omega)⟩⟩
 ·exact k4 H5 lw lo _ n mm s35 (s45 _ _ hw3) hpool n0 m0 (by omega)
end
end K62
namespace K62
open PySem L2 Kk
def clOf(a b c d e:Addr):Nat→Addr
 |0=>a
 |1=>b
 |2=>c
 |3=>d
 |_=>e
section
variable{K:PySem.W.Frag}
theorem bindK4{f T:Addr}{fd:FuncData}{oT:Value}{dT:Option Addr}{nT:Nat}{sT:Array (Option Value)}{tk:Tok} (F:FunD K "kind_in" "kind_in" sKin (.ref T) f fd) (lT:K.lookup T=some ⟨oT,dT,.seq #[.int 40 tk] nT,sT⟩):Binds K fd kiP [] :=
 F.binds lT fun _ _ _ _ _ _ us hl=>by
  have hl':us.length=4:=by simpa using hl
  match us,hl' with
  |[_,_,_,_],_=>exact⟨_,rfl,rfl⟩
theorem bindB5{f T:Addr}{fd:FuncData}{oT:Value}{dT:Option Addr}{nT:Nat}{sT:Array (Option Value)}{tk:Tok} (F:FunD K "look_at_body" "look_at_body" sLookB (.ref T) f fd) (lT:K.lookup T=some ⟨oT,dT,.seq #[.int 40 tk] nT,sT⟩):Binds K fd ["params","kind","expression","called","most"] [] :=
 F.binds lT fun _ _ _ _ _ _ us hl=>by
  have hl':us.length=5:=by simpa using hl
  match us,hl' with
  |[_,_,_,_,_],_=>exact⟨_,rfl,rfl⟩
theorem xm_of{a b c d e:Addr}(x00:PySem.W.exmOne K (.ref a) (.ref a)=some true)(x01:PySem.W.exmOne K (.ref a) (.ref b)=some false)(x02:PySem.W.exmOne K (.ref a) (.ref c)=some false)(x03:PySem.W.exmOne K (.ref a) (.ref d)=some false)(x04:PySem.W.exmOne K (.ref a) (.ref e)=some false)(x10:PySem.W.exmOne K (.ref b) (.ref a)=some false)(x11:PySem.W.exmOne K (.ref b) (.ref b)=some true)(x12:PySem.W.exmOne K (.ref b) (.ref c)=some false)(x13:PySem.W.exmOne K (.ref b) (.ref d)=some false)(x14:PySem.W.exmOne K (.ref b) (.ref e)=some false)(x20:PySem.W.exmOne K (.ref c) (.ref a)=some false)(x21:PySem.W.exmOne K (.ref c) (.ref b)=some false)(x22:PySem.W.exmOne K (.ref c) (.ref c)=some true)(x23:PySem.W.exmOne K (.ref c) (.ref d)=some false)(x24:PySem.W.exmOne K (.ref c) (.ref e)=some false)(x30:PySem.W.exmOne K (.ref d) (.ref a)=some false)(x31:PySem.W.exmOne K (.ref d) (.ref b)=some false)(x32:PySem.W.exmOne K (.ref d) (.ref c)=some false)(x33:PySem.W.exmOne K (.ref d) (.ref d)=some true)(x34:PySem.W.exmOne K (.ref d) (.ref e)=some false)(x40:PySem.W.exmOne K (.ref e) (.ref a)=some false)(x41:PySem.W.exmOne K (.ref e) (.ref b)=some false)(x42:PySem.W.exmOne K (.ref e) (.ref c)=some false)(x43:PySem.W.exmOne K (.ref e) (.ref d)=some false)(x44:PySem.W.exmOne K (.ref e) (.ref e)=some true):∀i j,i < 5→j < 5→PySem.W.exmOne K (.ref (clOf a b c d e i)) (.ref (clOf a b c d e j))=some (decide (i=j))
 |0,0,_,_=>x00
 |0,1,_,_=>x01
 |0,2,_,_=>x02
 |0,3,_,_=>x03
 |0,4,_,_=>x04
 |1,0,_,_=>x10
 |1,1,_,_=>x11
 |1,2,_,_=>x12
 |1,3,_,_=>x13
 |1,4,_,_=>x14
 |2,0,_,_=>x20
 |2,1,_,_=>x21
 |2,2,_,_=>x22
 |2,3,_,_=>x23
 |2,4,_,_=>x24
 |3,0,_,_=>x30
 |3,1,_,_=>x31
 |3,2,_,_=>x32
 |3,3,_,_=>x33
 |3,4,_,_=>x34
 |4,0,_,_=>x40
 |4,1,_,_=>x41
 |4,2,_,_=>x42
 |4,3,_,_=>x43
 |4,4,_,_=>x44
 |_+5,_,h,_=>by omega
 |0,_+5,_,h=>by omega
 |1,_+5,_,h=>by omega
 |2,_+5,_,h=>by omega
 |3,_+5,_,h=>by omega
 |4,_+5,_,h=>by omega
end
end K62
namespace PySem.W.Fast
def tw15400432472935924730:=()
def tw2040371756376410795:=()
def tw14051906964084241452:=()
def tw13991985468228228488:=()
def tw110767272812871782:=()
def tw17419621377236401721:=()
def tw15946248621373843705:=()
def tw5423712390251075927:=()
def tw6664279100605280881:=()
def tw10344007015647394125:=()
def tw3212154034927274094:=()
def tw11108306691005480374:=()
def tw16930546986697234999:=()
def tw5001282636873292760:=()
def tw2066319802447330249:=()
def tw17034071868070126626:=()
def tw577898564220059666:=()
def tw16226724100326894458:=()
def tw16388284665839943439:=()
def tw13302849993704692485:=()
def tw10054015418959265915:=()
def tw9296603769861702135:=()
def tw9931950679875196177:=()
def tw2607429381058676875:=()
def tw5887102327409188427:=()
def tw1609235745316056938:=()
def tw12882256557872174783:=()
def tw4366433241116211406:=()
def tw3008139619164585541:=()
def tw1197322274043764597:=()
def tw8294690705339554263:=()
def tw16249596908297763756:=()
def tw1942104450646080577:=()
def tw16580088583439430972:=()
def tw7102299281328562839:=()
def tw17305645698211205488:=()
def tw900467753230499228:=()
def tw13873006312413893215:=()
def tw9728898712488148757:=()
def tw14424651749169088598:=()
def tw1792003522329977905:=()
def tw18192742482059827153:=()
def tw17185301184878340366:=()
def tw767143970409467305:=()
def tw5009663367382030219:=()
def tw3074321066221786232:=()
def tw12224518678760274195:=()
def tw17661192553453599527:=()
def tw7667772750665962327:=()
def tw1277099836077650269:=()
def tw17150188399344910200:=()
def tw12451525276640153403:=()
def tw3668737900605869471:=()
def tw8875985970966243034:=()
def tw15549324890960951641:=()
def tw11082713389403228885:=()
def tw6291478034575056278:=()
def tw2537924324589103279:=()
def tw17513032107160422687:=()
def tw1407376994513921501:=()
def tw6206593235570210984:=()
def tw12986363725760369169:=()
def tw3138377535259204387:=()
def tw2861185900501207699:=()
def tw1902280389058867872:=()
def tw13821926676698503997:=()
def tw3110480909927076506:=()
def tw15127986833340036471:=()
def tw9674327158804683992:=()
def tw693838179790765973:=()
def tw15101400101521729107:=()
def tw15643261677554866815:=()
def tw6905893909291115157:=()
def tw932000849904499692:=()
def tw16315636408820840647:=()
def tw12670252602710866137:=()
def tw5855539236224400754:=()
def tw18416809495085939223:=()
def tw8391217151396092625:=()
def tw17711235901414783956:=()
def tw17945984817388733238:=()
def tw8794885932543257388:=()
def tw8534901406323654714:=()
def tw7749809065731289489:=()
def tw1635615574794025183:=()
def tw15229186620450587441:=()
def tw2905639571450630735:=()
def tw4797107112497942658:=()
def tw16216663235128439170:=()
def tw10968484822258252971:=()
def tw14368218726848300415:=()
def tw15034637589443650764:=()
def tw6976115969283883878:=()
def tw5828910618004967530:=()
def tw1029338243368247203:=()
def tw15537636311591000514:=()
def tw2798025616811374906:=()
def tw6711733671528043360:=()
def tw6288940058428979381:=()
def tw1401468216790120034:=()
def tw10163500517111179818:=()
def tw8057620440435421815:=()
def tw13773027017376469926:=()
def tw2811742938970490795:=()
def tw13427988280240226116:=()
def tw3723678262451899610:=()
def tw16575547963722361990:=()
def tw10292074317693988431:=()
def tw5369527894305390989:=()
def tw11294874292853382913:=()
def tw9262441348810575300:=()
def tw3877901104421608162:=()
def tw9263403022835997290:=()
def tw13289560353181258461:=()
def tw4078950477356504757:=()
def tw5634467215992899345:=()
def tw10286367804163122327:=()
def tw7380035159171281934:=()
def tw6909078134878713617:=()
def tw2995871086435762710:=()
def tw14591541923606570446:=()
def tw15595091231254730828:=()
def tw927962399581383253:=()
def tw15419257340039441355:=()
def tw3290622202799444044:=()
def tw10005448526701269311:=()
def tw15154599485259683762:=()
def tw8508700741196512372:=()
def tw16019626599117812430:=()
def tw16533431980812845223:=()
def tw11854191485167291671:=()
def tw1268021233190100662:=()
def tw7112801509437993948:=()
def tw8339106459461015337:=()
def tw4962874046900715646:=()
def tw10396783342141694294:=()
def tw4315764482031384865:=()
def tw8014838199948261836:=()
def tw17259776261693860942:=()
def tw12513759763095225862:=()
def tw17298206854572996256:=()
def tw14575282314160206600:=()
def tw6441767104894079187:=()
def tw7338411695726215542:=()
def tw4780538572251362823:=()
def tw5668417472058711812:=()
def tw1612728781879321265:=()
def tw323536475441365604:=()
def tw14770344946234784994:=()
def tw3726701837546393764:=()
def tw8591561978987482113:=()
def tw8786291545178850512:=()
def tw10584380816892802902:=()
def tw2384200505007738104:=()
def tw8537406556690241126:=()
def tw3848362538280539524:=()
def tw1211565560861494432:=()
def tw7667231795812943294:=()
def tw2602526636643995025:=()
def tw8870143927530296279:=()
def tw9829774653199260093:=()
def tw13230948159144694930:=()
def tw15682585908146726519:=()
def tw6332726710125919382:=()
def tw11981473970424392034:=()
def tw8850295519700657740:=()
def tw11829831970638519262:=()
def tw14798662209007566686:=()
def tw1254155535964156337:=()
def tw4775989762778455026:=()
def tw14141674056528349629:=()
def tw8773987104436539157:=()
def tw16539483063008734009:=()
def tw16860625250054447454:=()
def tw1409596594870679136:=()
def tw15885941970050584268:=()
def tw5345376874833535187:=()
def tw11442855649341070770:=()
def tw11010317006963390952:=()
def tw10081297141337398446:=()
def tw5456749449485665167:=()
def tw17245384996212951318:=()
def tw7841271448435900805:=()
def tw4680297543999375066:=()
def tw7941215101568962249:=()
def tw9730994904754528976:=()
def tw17841994406440046187:=()
def tw7067987164708470591:=()
def tw12512671300857752338:=()
def tw49727258249810728:=()
def tw4105564958700198072:=()
def tw1120990946080075186:=()
def tw2159521424241952692:=()
def tw6438711044779348067:=()
def tw916493894906165565:=()
def tw612897224535596807:=()
def tw12806003392476884921:=()
def tw11961583432655099817:=()
def tw939529679848585545:=()
def tw15658837550846826126:=()
def tw1458355805123490226:=()
def tw11303450137329394903:=()
def tw1545306515926075492:=()
def tw15585444430550258404:=()
def tw1516575913880443841:=()
def tw10824506862358562928:=()
def tw12832101345332389504:=()
def tw9398020365831705002:=()
def tw14446390087629368098:=()
def tw6043703268322361672:=()
def tw2754308677077959543:=()
def tw14691740049647199771:=()
def tw3807079685062520922:=()
def tw12905638678764416279:=()
def tw1298759117226208123:=()
def tw1247889571740448041:=()
def tw7637434742181471602:=()
def tw6541933545977910139:=()
def tw7506340478570309003:=()
def tw12456048349631384431:=()
def tw3496708463764389063:=()
def tw2618074827225584284:=()
def tw7069477995892612000:=()
def tw3471909315122761509:=()
def tw2775158140321319024:=()
def tw6508170489974450172:=()
def tw10211353372182186897:=()
def tw1944115012654060563:=()
def tw6840587352889797797:=()
def tw6673609401061861791:=()
def tw6400667814860486962:=()
def tw11869559671018276968:=()
def tw11552150337639983454:=()
def tw687100891649172910:=()
def tw287238923052284766:=()
def tw17602243970208400783:=()
def tw5201073447975191126:=()
def tw11717818201542994540:=()
def tw9087277232578711876:=()
def tw17561909183909441889:=()
def tw5629379164504112267:=()
def tw6543961240363759198:=()
def tw11984668218844494860:=()
def tw5921911731354779788:=()
def tw2683023750485839512:=()
def tw3345052554493140393:=()
def tw12571667031419887937:=()
def tw10115016520372704677:=()
def tw3464135150095152075:=()
def tw16893012713319485792:=()
def tw13734759574298619937:=()
def tw6214527506703170881:=()
def tw1634634587237610357:=()
def tw18322362269704403714:=()
def tw12173950637324742415:=()
def tw8120010906935480843:=()
def tw6007574092692551787:=()
def tw5937502091094899936:=()
def tw14105241108104960504:=()
end PySem.W.Fast
namespace K62
open PySem L2 Kk
set_option maxHeartbeats 0 in
theorem all_mk{l:PySem.W.OpenLaw}{q:Program}{w:World}{K:PySem.W.Frag}{h:Heap}{mg:Str→Option Value}{fa f1 f2 f3 f4 f5 f6 f7 f8 f9 f10 f11 f12 f13 f14 f15 f16 f17 f18 f19 f20 f21 f22 f23 f24 f25:Addr}(X:K.In h)(G:h.Ns mainGlobals mg) (hfa:mg "law"=some (.ref fa))
  {od1 an1 od2 an2 od3 an3 od4 an4 od5 an5 od6 an6 od7 an7 od8 an8 od9 an9 od10 an10 od11 an11 od12 an12 od13 an13 od14 an14 od15 an15 od16 an16 od17 an17 od18 an18 od19 an19 od20 an20 od21 an21 od22 an22 od23 an23 od24 an24 od25 an25:Option Addr} {sl1 sl2 sl3 sl4 sl5 sl6 sl7 sl8 sl9 sl10 sl11 sl12 sl13 sl14 sl15 sl16 sl17 sl18 sl19 sl20 sl21 sl22 sl23 sl24 sl25:Array (Option Value)} {oc1 kV1 dc1 pm1 ct1 cd1 oc2 kV2 dc2 pm2 ct2 cd2 oc3 kV3 dc3 pm3 ct3 cd3 oc4 kV4 dc4 pm4 ct4 cd4 oc5 kV5 dc5 pm5 ct5 cd5 oc6 kV6 dc6 pm6 ct6 cd6 oc7 kV7 dc7 pm7 ct7 cd7 oc8 kV8 dc8 pm8 ct8 oc9 kV9 dc9 pm9 ct9 cd9 oc10 kV10 dc10 pm10 ct10 cd10 oc11 kV11 dc11 pm11 ct11 cd11 oc12 kV12 dc12 pm12 ct12 cd12 oc13 kV13 dc13 pm13 ct13 cd13 oc14 kV14 dc14 pm14 ct14 cd14 oc15 kV15 dc15 pm15 ct15 cd15 oc16 kV16 dc16 pm16 ct16 cd16 oc17 kV17 dc17 pm17 ct17 cd17 oc18 kV18 dc18 pm18 ct18 cd18 oc19 kV19 dc19 pm19 ct19 cd19 oc20 kV20 dc20 pm20 ct20 cd20 oc21 kV21 dc21 pm21 ct21 cd21 oc22 kV22 dc22 pm22 ct22 cd22 oc23 kV23 dc23 pm23 ct23 cd23 oc24 kV24 dc24 pm24 ct24 cd24 oc25 kV25 dc25 pm25 ct25 cd25:Value} {cc8 PT8:Addr}
  {pA fk TD fb TB CA CC CW CT CZ:Addr} {nA nQ nQ2:Nat} {odk ank dT odb anb dT2:Option Addr} {slk sT slb sT2:Array (Option Value)} {ock kVk dck pmk cdk ctk oT ocb kVb dcb pmb cdb ctb oT2:Value} {tk tk2 tkM g1 g2 g3 g4 g5 g6 g7 g8 y1 y2 y3 y4 y5 y6 y7 y8:Tok}
  (a1:PySem.W.nsIn K mainGlobals "within"=some (some (.ref f1))) (l1:K.lookup f1=some ⟨oc1,od1,.func (PySem.W.fnOf "within" "within" (defArgs sWithin) (defBody sWithin) (defScope sWithin) .none kV1 dc1 pm1 an1 cd1 ct1),sl1⟩) (c1:PySem.W.codeIn K cd1 "within"=true) (k1:PySem.W.keepIn K (.ref f1)=true)
  (a2:PySem.W.nsIn K mainGlobals "words_in"=some (some (.ref f2))) (l2:K.lookup f2=some ⟨oc2,od2,.func (PySem.W.fnOf "words_in" "words_in" (defArgs sWords) (defBody sWords) (defScope sWords) .none kV2 dc2 pm2 an2 cd2 ct2),sl2⟩) (c2:PySem.W.codeIn K cd2 "words_in"=true) (k2:PySem.W.keepIn K (.ref f2)=true)
  (a3:PySem.W.nsIn K mainGlobals "bounded"=some (some (.ref f3))) (l3:K.lookup f3=some ⟨oc3,od3,.func (PySem.W.fnOf "bounded" "bounded" (defArgs sBounded) (defBody sBounded) (defScope sBounded) .none kV3 dc3 pm3 an3 cd3 ct3),sl3⟩) (c3:PySem.W.codeIn K cd3 "bounded"=true) (k3:PySem.W.keepIn K (.ref f3)=true)
  (a4:PySem.W.nsIn K mainGlobals "variable_kind"=some (some (.ref f4))) (l4:K.lookup f4=some ⟨oc4,od4,.func (PySem.W.fnOf "variable_kind" "variable_kind" (defArgs sVarK) (defBody sVarK) (defScope sVarK) .none kV4 dc4 pm4 an4 cd4 ct4),sl4⟩) (c4:PySem.W.codeIn K cd4 "variable_kind"=true) (k4:PySem.W.keepIn K (.ref f4)=true)
  (a5:PySem.W.nsIn K mainGlobals "answer_kind"=some (some (.ref f5))) (l5:K.lookup f5=some ⟨oc5,od5,.func (PySem.W.fnOf "answer_kind" "answer_kind" (defArgs sAnsK) (defBody sAnsK) (defScope sAnsK) .none kV5 dc5 pm5 an5 cd5 ct5),sl5⟩) (c5:PySem.W.codeIn K cd5 "answer_kind"=true) (k5:PySem.W.keepIn K (.ref f5)=true)
  (a6:PySem.W.nsIn K mainGlobals "kind_by_form"=some (some (.ref f6))) (l6:K.lookup f6=some ⟨oc6,od6,.func (PySem.W.fnOf "kind_by_form" "kind_by_form" (defArgs sKbf) (defBody sKbf) (defScope sKbf) .none kV6 dc6 pm6 an6 cd6 ct6),sl6⟩) (c6:PySem.W.codeIn K cd6 "kind_by_form"=true) (k6:PySem.W.keepIn K (.ref f6)=true)
  (a7:PySem.W.nsIn K mainGlobals "demand"=some (some (.ref f7))) (l7:K.lookup f7=some ⟨oc7,od7,.func (PySem.W.fnOf "demand" "demand" (defArgs sDem) (defBody sDem) (defScope sDem) .none kV7 dc7 pm7 an7 cd7 ct7),sl7⟩) (c7:PySem.W.codeIn K cd7 "demand"=true) (k7:PySem.W.keepIn K (.ref f7)=true)
  (a8:PySem.W.nsIn K mainGlobals "plain_look"=some (some (.ref f8))) (l8:K.lookup f8=some ⟨oc8,od8,.func (PySem.W.fnOf "plain_look" "plain_look" (defArgs sPlain) (defBody sPlain) (defScope sPlain) .none kV8 dc8 pm8 an8 (.ref cc8) ct8),sl8⟩) (c8:PySem.W.codeIn K (.ref cc8) "plain_look"=true) (k8:PySem.W.keepIn K (.ref f8)=true)
  (a9:PySem.W.nsIn K mainGlobals "_law_cell"=some (some (.ref f9))) (l9:K.lookup f9=some ⟨oc9,od9,.func (PySem.W.fnOf "_law_cell" "_law_cell" (defArgs sCell) (defBody sCell) (defScope sCell) .none kV9 dc9 pm9 an9 cd9 ct9),sl9⟩) (c9:PySem.W.codeIn K cd9 "_law_cell"=true) (k9:PySem.W.keepIn K (.ref f9)=true)
  (a10:PySem.W.nsIn K mainGlobals "_law_pick"=some (some (.ref f10))) (l10:K.lookup f10=some ⟨oc10,od10,.func (PySem.W.fnOf "_law_pick" "_law_pick" (defArgs sPick) (defBody sPick) (defScope sPick) .none kV10 dc10 pm10 an10 cd10 ct10),sl10⟩) (c10:PySem.W.codeIn K cd10 "_law_pick"=true) (k10:PySem.W.keepIn K (.ref f10)=true)
  (a11:PySem.W.nsIn K mainGlobals "_law_word"=some (some (.ref f11))) (l11:K.lookup f11=some ⟨oc11,od11,.func (PySem.W.fnOf "_law_word" "_law_word" (defArgs sWord) (defBody sWord) (defScope sWord) .none kV11 dc11 pm11 an11 cd11 ct11),sl11⟩) (c11:PySem.W.codeIn K cd11 "_law_word"=true) (k11:PySem.W.keepIn K (.ref f11)=true)
  (a12:PySem.W.nsIn K mainGlobals "_law_size"=some (some (.ref f12))) (l12:K.lookup f12=some ⟨oc12,od12,.func (PySem.W.fnOf "_law_size" "_law_size" (defArgs sSize) (defBody sSize) (defScope sSize) .none kV12 dc12 pm12 an12 cd12 ct12),sl12⟩) (c12:PySem.W.codeIn K cd12 "_law_size"=true) (k12:PySem.W.keepIn K (.ref f12)=true)
  (a13:PySem.W.nsIn K mainGlobals "_law_same"=some (some (.ref f13))) (l13:K.lookup f13=some ⟨oc13,od13,.func (PySem.W.fnOf "_law_same" "_law_same" (defArgs sSame) (defBody sSame) (defScope sSame) .none kV13 dc13 pm13 an13 cd13 ct13),sl13⟩) (c13:PySem.W.codeIn K cd13 "_law_same"=true) (k13:PySem.W.keepIn K (.ref f13)=true)
  (a14:PySem.W.nsIn K mainGlobals "_law_pool"=some (some (.ref f14))) (l14:K.lookup f14=some ⟨oc14,od14,.func (PySem.W.fnOf "_law_pool" "_law_pool" (defArgs sPool) (defBody sPool) (defScope sPool) .none kV14 dc14 pm14 an14 cd14 ct14),sl14⟩) (c14:PySem.W.codeIn K cd14 "_law_pool"=true) (k14:PySem.W.keepIn K (.ref f14)=true)
  (a15:PySem.W.nsIn K mainGlobals "_law_name"=some (some (.ref f15))) (l15:K.lookup f15=some ⟨oc15,od15,.func (PySem.W.fnOf "_law_name" "_law_name" (defArgs sName) (defBody sName) (defScope sName) .none kV15 dc15 pm15 an15 cd15 ct15),sl15⟩) (c15:PySem.W.codeIn K cd15 "_law_name"=true) (k15:PySem.W.keepIn K (.ref f15)=true)
  (a16:PySem.W.nsIn K mainGlobals "_law_start"=some (some (.ref f16))) (l16:K.lookup f16=some ⟨oc16,od16,.func (PySem.W.fnOf "_law_start" "_law_start" (defArgs sStart) (defBody sStart) (defScope sStart) .none kV16 dc16 pm16 an16 cd16 ct16),sl16⟩) (c16:PySem.W.codeIn K cd16 "_law_start"=true) (k16:PySem.W.keepIn K (.ref f16)=true)
  (a17:PySem.W.nsIn K mainGlobals "_law_args"=some (some (.ref f17))) (l17:K.lookup f17=some ⟨oc17,od17,.func (PySem.W.fnOf "_law_args" "_law_args" (defArgs sArgs) (defBody sArgs) (defScope sArgs) .none kV17 dc17 pm17 an17 cd17 ct17),sl17⟩) (c17:PySem.W.codeIn K cd17 "_law_args"=true) (k17:PySem.W.keepIn K (.ref f17)=true)
  (a18:PySem.W.nsIn K mainGlobals "_law_body"=some (some (.ref f18))) (l18:K.lookup f18=some ⟨oc18,od18,.func (PySem.W.fnOf "_law_body" "_law_body" (defArgs sBody) (defBody sBody) (defScope sBody) .none kV18 dc18 pm18 an18 cd18 ct18),sl18⟩) (c18:PySem.W.codeIn K cd18 "_law_body"=true) (k18:PySem.W.keepIn K (.ref f18)=true)
  (a19:PySem.W.nsIn K mainGlobals "_law_program"=some (some (.ref f19))) (l19:K.lookup f19=some ⟨oc19,od19,.func (PySem.W.fnOf "_law_program" "_law_program" (defArgs sProg) (defBody sProg) (defScope sProg) .none kV19 dc19 pm19 an19 cd19 ct19),sl19⟩) (c19:PySem.W.codeIn K cd19 "_law_program"=true) (k19:PySem.W.keepIn K (.ref f19)=true)
  (a20:PySem.W.nsIn K mainGlobals "_law_grown"=some (some (.ref f20))) (l20:K.lookup f20=some ⟨oc20,od20,.func (PySem.W.fnOf "_law_grown" "_law_grown" (defArgs sGrown) (defBody sGrown) (defScope sGrown) .none kV20 dc20 pm20 an20 cd20 ct20),sl20⟩) (c20:PySem.W.codeIn K cd20 "_law_grown"=true) (k20:PySem.W.keepIn K (.ref f20)=true)
  (a21:PySem.W.nsIn K mainGlobals "_law_called"=some (some (.ref f21))) (l21:K.lookup f21=some ⟨oc21,od21,.func (PySem.W.fnOf "_law_called" "_law_called" (defArgs sCalled) (defBody sCalled) (defScope sCalled) .none kV21 dc21 pm21 an21 cd21 ct21),sl21⟩) (c21:PySem.W.codeIn K cd21 "_law_called"=true) (k21:PySem.W.keepIn K (.ref f21)=true)
  (a22:PySem.W.nsIn K mainGlobals "_law_odd"=some (some (.ref f22))) (l22:K.lookup f22=some ⟨oc22,od22,.func (PySem.W.fnOf "_law_odd" "_law_odd" (defArgs sOdd) (defBody sOdd) (defScope sOdd) .none kV22 dc22 pm22 an22 cd22 ct22),sl22⟩) (c22:PySem.W.codeIn K cd22 "_law_odd"=true) (k22:PySem.W.keepIn K (.ref f22)=true)
  (a23:PySem.W.nsIn K mainGlobals "_law_found"=some (some (.ref f23))) (l23:K.lookup f23=some ⟨oc23,od23,.func (PySem.W.fnOf "_law_found" "_law_found" (defArgs sFound) (defBody sFound) (defScope sFound) .none kV23 dc23 pm23 an23 cd23 ct23),sl23⟩) (c23:PySem.W.codeIn K cd23 "_law_found"=true) (k23:PySem.W.keepIn K (.ref f23)=true)
  (a24:PySem.W.nsIn K mainGlobals "_law_told"=some (some (.ref f24))) (l24:K.lookup f24=some ⟨oc24,od24,.func (PySem.W.fnOf "_law_told" "_law_told" (defArgs sTold) (defBody sTold) (defScope sTold) .none kV24 dc24 pm24 an24 cd24 ct24),sl24⟩) (c24:PySem.W.codeIn K cd24 "_law_told"=true) (k24:PySem.W.keepIn K (.ref f24)=true)
  (a25:PySem.W.nsIn K mainGlobals "law"=some (some (.ref f25))) (l25:K.lookup f25=some ⟨oc25,od25,.func (PySem.W.fnOf "law" "law" (defArgs sLaw) (defBody sLaw) (defScope sLaw) .none kV25 dc25 pm25 an25 cd25 ct25),sl25⟩) (c25:PySem.W.codeIn K cd25 "law"=true) (k25:PySem.W.keepIn K (.ref f25)=true)
  (t8:PySem.W.tabIn K "plain_look"=some (cc8,PT8)) (h8:PySem.W.codeHdIn K cc8 PT8=true) (r8:∃d,(PyProof.Rows.recsOf q).find? (fun e=>e.name==("plain_look":Str))=some d)
  (nT:PySem.W.noTabs K=true) (nD:([PT8]:List Addr).Nodup)
  (eH:PySem.W.nsIn K mainGlobals "AHEAD"=some (some (.ref pA)))
  (lH:K.lookup pA=some ⟨.type "dict",none,.dict #[⟨hashStr w "op",.str "op" g1,.int 3 y1⟩,⟨hashStr w "test",.str "test" g2,.int 2 y2⟩,⟨hashStr w "as",.str "as" g3,.int 2 y3⟩,⟨hashStr w "let",.str "let" g4,.int 2 y4⟩,⟨hashStr w "if",.str "if" g5,.int 1 y5⟩,⟨hashStr w "two",.str "two" g6,.int 1 y6⟩,⟨hashStr w "first",.str "first" g7,.int 1 y7⟩,⟨hashStr w "second",.str "second" g8,.int 1 y8⟩] nA,#[]⟩)
  (qH:(pA==sysModules)=false)
  (af:PySem.W.nsIn K mainGlobals "kind_in"=some (some (.ref fk)))
  (lf:K.lookup fk=some ⟨ock,odk,.func (PySem.W.fnOf "kind_in" "kind_in" (defArgs sKin) (defBody sKin) (defScope sKin) (.ref TD) kVk dck pmk ank cdk ctk),slk⟩)
  (cf:PySem.W.codeIn K cdk "kind_in"=true)
  (kf:PySem.W.keepIn K (.ref fk)=true)
  (lT:K.lookup TD=some ⟨oT,dT,.seq #[.int 40 tk] nQ,sT⟩)
  (ab:PySem.W.nsIn K mainGlobals "look_at_body"=some (some (.ref fb)))
  (lb:K.lookup fb=some ⟨ocb,odb,.func (PySem.W.fnOf "look_at_body" "look_at_body" (defArgs sLookB) (defBody sLookB) (defScope sLookB) (.ref TB) kVb dcb pmb anb cdb ctb),slb⟩)
  (cb:PySem.W.codeIn K cdb "look_at_body"=true)
  (kb:PySem.W.keepIn K (.ref fb)=true)
  (lT2:K.lookup TB=some ⟨oT2,dT2,.seq #[.int 40 tk2] nQ2,sT2⟩)
  (aMW:PySem.W.nsIn K mainGlobals "MOST_WORDS"=some (some (.int 8000 tkM)))
  (aA:PySem.W.nsIn K mainGlobals "NoName"=some (some (.ref CA)))
  (aC:PySem.W.nsIn K mainGlobals "NoCount"=some (some (.ref CC)))
  (aW:PySem.W.nsIn K mainGlobals "WrongKind"=some (some (.ref CW)))
  (aT:PySem.W.nsIn K mainGlobals "TooBig"=some (some (.ref CT)))
  (aZ:PySem.W.nsIn K mainGlobals "Twice"=some (some (.ref CZ)))
  (xA:PySem.W.excIn K CA bmVE "ValueError.__new__"=true)
  (xC:PySem.W.excIn K CC bmVE "ValueError.__new__"=true)
  (xW:PySem.W.excIn K CW bmVE "ValueError.__new__"=true)
  (xT:PySem.W.excIn K CT bmVE "ValueError.__new__"=true)
  (xZ:PySem.W.excIn K CZ bmVE "ValueError.__new__"=true)
  (u00:PySem.W.exmOne K (.ref CA) (.ref CA)=some true)
  (u01:PySem.W.exmOne K (.ref CA) (.ref CC)=some false)
  (u02:PySem.W.exmOne K (.ref CA) (.ref CW)=some false)
  (u03:PySem.W.exmOne K (.ref CA) (.ref CT)=some false)
  (u04:PySem.W.exmOne K (.ref CA) (.ref CZ)=some false)
  (u10:PySem.W.exmOne K (.ref CC) (.ref CA)=some false)
  (u11:PySem.W.exmOne K (.ref CC) (.ref CC)=some true)
  (u12:PySem.W.exmOne K (.ref CC) (.ref CW)=some false)
  (u13:PySem.W.exmOne K (.ref CC) (.ref CT)=some false)
  (u14:PySem.W.exmOne K (.ref CC) (.ref CZ)=some false)
  (u20:PySem.W.exmOne K (.ref CW) (.ref CA)=some false)
  (u21:PySem.W.exmOne K (.ref CW) (.ref CC)=some false)
  (u22:PySem.W.exmOne K (.ref CW) (.ref CW)=some true)
  (u23:PySem.W.exmOne K (.ref CW) (.ref CT)=some false)
  (u24:PySem.W.exmOne K (.ref CW) (.ref CZ)=some false)
  (u30:PySem.W.exmOne K (.ref CT) (.ref CA)=some false)
  (u31:PySem.W.exmOne K (.ref CT) (.ref CC)=some false)
  (u32:PySem.W.exmOne K (.ref CT) (.ref CW)=some false)
  (u33:PySem.W.exmOne K (.ref CT) (.ref CT)=some true)
  (u34:PySem.W.exmOne K (.ref CT) (.ref CZ)=some false)
  (u40:PySem.W.exmOne K (.ref CZ) (.ref CA)=some false)
  (u41:PySem.W.exmOne K (.ref CZ) (.ref CC)=some false)
  (u42:PySem.W.exmOne K (.ref CZ) (.ref CW)=some false)
  (u43:PySem.W.exmOne K (.ref CZ) (.ref CT)=some false)
  (u44:PySem.W.exmOne K (.ref CZ) (.ref CZ)=some true)
  (z1:PySem.W.nsIn K mainGlobals "len"=some none)
  (z2:PySem.W.nsIn K mainGlobals "range"=some none)
  (z3:PySem.W.nsIn K mainGlobals "isinstance"=some none)
  (z4:PySem.W.nsIn K mainGlobals "tuple"=some none)
  (z5:PySem.W.nsIn K mainGlobals "str"=some none)
  (z6:PySem.W.nsIn K mainGlobals "int"=some none)
  (z7:PySem.W.nsIn K mainGlobals "bool"=some none)
  (z8:PySem.W.nsIn K mainGlobals "dict"=some none)
  (z9:PySem.W.nsIn K mainGlobals "zip"=some none)
  (z10:PySem.W.nsIn K mainGlobals "list"=some none) :
  ∃(fd:FuncData) (tabs:List (Addr × Array Value)) (sp:Sp),(∀(s:Shared) (v:Value),BindsTo s fd ⟨[v],[]⟩ [("_law_script",v)])∧TabsOf q K tabs∧(tabs.map (·.1)).Nodup∧PySem.W.noTabs K=true∧(∀base:Heap,K.In base→base.Ns mainGlobals mg→FnOk l.prog w K mg base CX0 68 fa fd ["_law_script"] sp) ∧
   ∀(H:Hp) (a:Addr) (ns:List Int),ns.length≤63→(∀t∈tabs,H t.1=some (.tbl t.2))→SqL K H a (ns.map V.int)→sp [.ref a] H (fun v _=>v=.bl true) fun _ _ _=>False:=by
 have e:=hfa.symm.trans (PySem.W.mg_of X G a25)
 cases e
 have F1:=fun_mk (st:=sWithin) l1 c1 k1
 have F2:=fun_mk (st:=sWords) l2 c2 k2
 have F3:=fun_mk (st:=sBounded) l3 c3 k3
 have F4:=fun_mk (st:=sVarK) l4 c4 k4
 have F5:=fun_mk (st:=sAnsK) l5 c5 k5
 have F6:=fun_mk (st:=sKbf) l6 c6 k6
 have F7:=fun_mk (st:=sDem) l7 c7 k7
 have F8:=funt_mk (st:=sPlain) l8 c8 k8 h8
 have F9:=fun_mk (st:=sCell) l9 c9 k9
 have F10:=fun_mk (st:=sPick) l10 c10 k10
 have F11:=fun_mk (st:=sWord) l11 c11 k11
 have F12:=fun_mk (st:=sSize) l12 c12 k12
 have F13:=fun_mk (st:=sSame) l13 c13 k13
 have F14:=fun_mk (st:=sPool) l14 c14 k14
 have F15:=fun_mk (st:=sName) l15 c15 k15
 have F16:=fun_mk (st:=sStart) l16 c16 k16
 have F17:=fun_mk (st:=sArgs) l17 c17 k17
 have F18:=fun_mk (st:=sBody) l18 c18 k18
 have F19:=fun_mk (st:=sProg) l19 c19 k19
 have F20:=fun_mk (st:=sGrown) l20 c20 k20
 have F21:=fun_mk (st:=sCalled) l21 c21 k21
 have F22:=fun_mk (st:=sOdd) l22 c22 k22
 have F23:=fun_mk (st:=sFound) l23 c23 k23
 have F24:=fun_mk (st:=sTold) l24 c24 k24
 have F25:=fun_mk (st:=sLaw) l25 c25 k25
 have b1:=F1.binds (ps:=["expression"]) fun _ _ _ _ _ _ us hl=>match us,hl with|[_],_=>rfl
 have b2:=F2.binds (ps:=["kind"]) fun _ _ _ _ _ _ us hl=>match us,hl with|[_],_=>rfl
 have b3:=F3.binds (ps:=["kind","most"]) fun _ _ _ _ _ _ us hl=>match us,hl with|[_,_],_=>rfl
 have b4:=F4.binds (ps:=["word","variables"]) fun _ _ _ _ _ _ us hl=>match us,hl with|[_,_],_=>rfl
 have b5:=F5.binds (ps:=["word","told","kinds"]) fun _ _ _ _ _ _ us hl=>match us,hl with|[_,_,_],_=>rfl
 have b6:=F6.binds (ps:=["expression","kinds"]) fun _ _ _ _ _ _ us hl=>match us,hl with|[_,_],_=>rfl
 have b7:=F7.binds (ps:=["does","what"]) fun _ _ _ _ _ _ us hl=>match us,hl with|[_,_],_=>rfl
 have b8:=F8.fn.binds (ps:=["program"]) fun _ _ _ _ _ _ us hl=>match us,hl with|[_],_=>rfl
 have b9:=F9.binds (ps:=["_law_script","_law_k"]) fun _ _ _ _ _ _ us hl=>match us,hl with|[_,_],_=>rfl
 have b10:=F10.binds (ps:=["_law_script","_law_k","_law_many"]) fun _ _ _ _ _ _ us hl=>match us,hl with|[_,_,_],_=>rfl
 have b11:=F11.binds (ps:=["_law_cell_here","_law_mark"]) fun _ _ _ _ _ _ us hl=>match us,hl with|[_,_],_=>rfl
 have b12:=F12.binds (ps:=["_law_script","_law_k"]) fun _ _ _ _ _ _ us hl=>match us,hl with|[_,_],_=>rfl
 have b13:=F13.binds (ps:=["_law_found_here","_law_due"]) fun _ _ _ _ _ _ us hl=>match us,hl with|[_,_],_=>rfl
 have b14:=F14.binds (ps:=["_law_size_here"]) fun _ _ _ _ _ _ us hl=>match us,hl with|[_],_=>rfl
 have b15:=F15.binds (ps:=["_law_words","_law_i"]) fun _ _ _ _ _ _ us hl=>match us,hl with|[_,_],_=>rfl
 have b16:=F16.binds (ps:=["_law_kind","_law_cell_here"]) fun _ _ _ _ _ _ us hl=>match us,hl with|[_,_],_=>rfl
 have b17:=F17.binds (ps:=["_law_kinds","_law_params","_law_cell_here"]) fun _ _ _ _ _ _ us hl=>match us,hl with|[_,_,_],_=>rfl
 have b18:=F18.binds (ps:=["_law_script","_law_i","_law_words","_law_pool_here","_law_program_here","_law_params"]) fun _ _ _ _ _ _ us hl=>match us,hl with|[_,_,_,_,_,_],_=>rfl
 have b19:=F19.binds (ps:=["_law_script","_law_many","_law_words","_law_pool_here"]) fun _ _ _ _ _ _ us hl=>match us,hl with|[_,_,_,_],_=>rfl
 have b20:=F20.binds (ps:=["_law_leaves","_law_words"]) fun _ _ _ _ _ _ us hl=>match us,hl with|[_,_],_=>rfl
 have b21:=F21.binds (ps:=["_law_script","_law_program_here","_law_at","_law_fault"]) fun _ _ _ _ _ _ us hl=>match us,hl with|[_,_,_,_],_=>rfl
 have b22:=F22.binds (ps:=["_law_script","_law_words","_law_pool_here","_law_program_here","_law_at"]) fun _ _ _ _ _ _ us hl=>match us,hl with|[_,_,_,_,_],_=>rfl
 have b23:=F23.binds (ps:=["_law_program_here"]) fun _ _ _ _ _ _ us hl=>match us,hl with|[_],_=>rfl
 have b24:=F24.binds (ps:=["_law_found_here","_law_program_here"]) fun _ _ _ _ _ _ us hl=>match us,hl with|[_,_],_=>rfl
 refine⟨PySem.W.fnOf "law" "law" (defArgs sLaw) (defBody sLaw) (defScope sLaw) .none kV25 dc25 pm25 an25 cd25 ct25,[(PT8,tabL)],spLaw K PT8,fun s v=>.of_eq rfl,List.forall_mem_cons.mpr ⟨⟨"plain_look",cc8,r8.choose,t8,r8.choose_spec⟩,fun t ht=>nomatch ht⟩,nD,nT,fun base hB _=>?_,fun H a ns hn hT hS=>⟨a,ns,rfl,hS,hn,hT _ (.head _),fun _=>rfl⟩⟩
 have hA:DKt K w pA ahs:=dkt_of lH qH (.cons rfl (.cons rfl (.cons rfl (.cons rfl (.cons rfl (.cons rfl (.cons rfl (.cons rfl .nil)))))))) (by decide +kernel)
 have FK:FunD K "kind_in" "kind_in" sKin (.ref TD) fk (PySem.W.fnOf "kind_in" "kind_in" (defArgs sKin) (defBody sKin) (defScope sKin) (.ref TD) kVk dck pmk ank cdk ctk):=⟨⟨ock,odk,kVk,dck,pmk,ank,cdk,ctk,slk,rfl,lf,cf⟩,kf⟩
 have FB:FunD K "look_at_body" "look_at_body" sLookB (.ref TB) fb (PySem.W.fnOf "look_at_body" "look_at_body" (defArgs sLookB) (defBody sLookB) (defScope sLookB) (.ref TB) kVb dcb pmb anb cdb ctb):=⟨⟨ocb,odb,kVb,dcb,pmb,anb,cdb,ctb,slb,rfl,lb,cb⟩,kb⟩
 have GWt:=ok_within (P:=l.prog) (w:=w) (base:=base) (mg:=mg) F1 (PySem.W.mg_of X G eH) hA
 have GWi:=ok_words (P:=l.prog) (w:=w) (base:=base) (mg:=mg) F2 (PySem.W.mg_none_of X G z1)
 have GB:=ok_bounded (P:=l.prog) (w:=w) (base:=base) (mg:=mg) F3 GWi b2 k2 (PySem.W.mg_of X G a2) (PySem.W.mg_of X G aT) xT
 have GD:=ok_dem (P:=l.prog) (w:=w) (base:=base) (mg:=mg) F7 (PySem.W.mg_of X G aW) xW
 have GVK:=ok_varK (P:=l.prog) (w:=w) (base:=base) (mg:=mg) (cl:=clOf CA CC CW CT CZ) F4 (PySem.W.mg_of X G aA) xA
 have GAK:=ok_ansK (P:=l.prog) (w:=w) (base:=base) (mg:=mg) (cl:=clOf CA CC CW CT CZ) F5 (PySem.W.mg_of X G aC) xC (PySem.W.mg_none_of X G z1) (PySem.W.mg_none_of X G z9) GD b7 k7 (PySem.W.mg_of X G a7)
 have GKF:=ok_kbf (P:=l.prog) (w:=w) (base:=base) (mg:=mg) (cl:=clOf CA CC CW CT CZ) F6 GD b7 k7 (PySem.W.mg_of X G a7)
 have GK:=ok_kin (P:=l.prog) (w:=w) (base:=base) (mg:=mg) (cl:=clOf CA CC CW CT CZ) (k:=1) FK (bindK4 FK lT) (PySem.W.mg_of X G af) (PySem.W.mg_none_of X G z8) GVK b4 k4 (PySem.W.mg_of X G a4) GWt b1 k1 (PySem.W.mg_of X G a1) GAK b5 k5 (PySem.W.mg_of X G a5) GB b3 k3 (PySem.W.mg_of X G a3) GKF b6 k6 (PySem.W.mg_of X G a6) 60
 have GLB:=ok_lookB (P:=l.prog) (w:=w) (base:=base) (mg:=mg) (cl:=clOf CA CC CW CT CZ) (k:=1) (n:=60) FB (PySem.W.mg_of X G aZ) xZ GK (bindK4 FK lT) kf (PySem.W.mg_of X G af) GD b7 k7 (PySem.W.mg_of X G a7)
 have GZ:=ok_plain (P:=l.prog) (w:=w) (base:=base) (mg:=mg) (cl:=clOf CA CC CW CT CZ) F8 hB (PySem.W.mg_of X G aZ) xZ (PySem.W.mg_of X G aA) xA (PySem.W.mg_of X G aMW) (PySem.W.mg_none_of X G z4) GLB (bindB5 FB lT2) kb (PySem.W.mg_of X G ab)
 have GC:=ok_cell (P:=l.prog) (w:=w) (base:=base) (mg:=mg) F9 (PySem.W.mg_none_of X G z1)
 have GP:=ok_pick (P:=l.prog) (w:=w) (base:=base) (mg:=mg) F10 GC b9 k9 (PySem.W.mg_of X G a9)
 have GWd:=ok_word (P:=l.prog) (w:=w) (base:=base) (mg:=mg) F11
 have GS:=ok_size (P:=l.prog) (w:=w) (base:=base) (mg:=mg) F12 GC b9 k9 (PySem.W.mg_of X G a9) GP b10 k10 (PySem.W.mg_of X G a10)
 have GA:=ok_same (P:=l.prog) (w:=w) (base:=base) (mg:=mg) F13 b13 k13 (PySem.W.mg_of X G a13) (PySem.W.mg_none_of X G z3) (PySem.W.mg_none_of X G z5) (PySem.W.mg_none_of X G z4) (PySem.W.mg_none_of X G z6) (PySem.W.mg_none_of X G z7) (PySem.W.mg_none_of X G z1) (PySem.W.mg_none_of X G z2) 62
 have GO:=ok_pool (P:=l.prog) (w:=w) (base:=base) (mg:=mg) F14
 have GN:=ok_name (P:=l.prog) (w:=w) (base:=base) (mg:=mg) F15
 have GT:=ok_start (P:=l.prog) (w:=w) (base:=base) (mg:=mg) F16 b16 k16 (PySem.W.mg_of X G a16) 3
 have GR:=ok_args (P:=l.prog) (w:=w) (base:=base) (mg:=mg) F17 (PySem.W.mg_none_of X G z1) (PySem.W.mg_none_of X G z4) GT b16 k16 (PySem.W.mg_of X G a16)
 have GBd:=ok_body (P:=l.prog) (w:=w) (base:=base) (mg:=mg) F18 (PySem.W.mg_none_of X G z1) GC b9 k9 (PySem.W.mg_of X G a9) GP b10 k10 (PySem.W.mg_of X G a10) GT b16 k16 (PySem.W.mg_of X G a16) GR b17 k17 (PySem.W.mg_of X G a17)
 have GM:=ok_prog (P:=l.prog) (w:=w) (base:=base) (mg:=mg) F19 (PySem.W.mg_none_of X G z1) (PySem.W.mg_none_of X G z2) (PySem.W.mg_none_of X G z4) GP b10 k10 (PySem.W.mg_of X G a10) GT b16 k16 (PySem.W.mg_of X G a16) GN b15 k15 (PySem.W.mg_of X G a15) GBd b18 k18 (PySem.W.mg_of X G a18)
 have GG:=ok_grown (P:=l.prog) (w:=w) (base:=base) (mg:=mg) F20
 have GL:=ok_calledL (P:=l.prog) (w:=w) (base:=base) (mg:=mg) F21 (PySem.W.mg_none_of X G z1) (PySem.W.mg_none_of X G z4) GP b10 k10 (PySem.W.mg_of X G a10) GT b16 k16 (PySem.W.mg_of X G a16)
 have GY:=ok_odd (P:=l.prog) (w:=w) (base:=base) (mg:=mg) F22 (PySem.W.mg_none_of X G z1) (PySem.W.mg_none_of X G z4) GP b10 k10 (PySem.W.mg_of X G a10) GT b16 k16 (PySem.W.mg_of X G a16) GG b20 k20 (PySem.W.mg_of X G a20) GL b21 k21 (PySem.W.mg_of X G a21)
 have GF:=ok_found (P:=l.prog) (w:=w) (base:=base) (mg:=mg) (cl:=clOf CA CC CW CT CZ) F23 GZ b8 k8 (PySem.W.mg_of X G a8) (PySem.W.mg_of X G aA) (PySem.W.mg_of X G aC) (PySem.W.mg_of X G aW) (PySem.W.mg_of X G aT) (PySem.W.mg_of X G aZ) (xm_of u00 u01 u02 u03 u04 u10 u11 u12 u13 u14 u20 u21 u22 u23 u24 u30 u31 u32 u33 u34 u40 u41 u42 u43 u44)
 have GTd:=ok_told (P:=l.prog) (w:=w) (base:=base) (mg:=mg) F24 (PySem.W.mg_none_of X G z1) (PySem.W.mg_none_of X G z3) (PySem.W.mg_none_of X G z4) (PySem.W.mg_none_of X G z8) GA b13 k13 (PySem.W.mg_of X G a13)
 exact ok_law (P:=l.prog) (w:=w) (base:=base) (mg:=mg) F25 (PySem.W.mg_none_of X G z2) (PySem.W.mg_none_of X G z10) GC b9 k9 (PySem.W.mg_of X G a9) GP b10 k10 (PySem.W.mg_of X G a10) GWd b11 k11 (PySem.W.mg_of X G a11) GS b12 k12 (PySem.W.mg_of X G a12) GO b14 k14 (PySem.W.mg_of X G a14) GM b19 k19 (PySem.W.mg_of X G a19) GY b22 k22 (PySem.W.mg_of X G a22) GF b23 k23 (PySem.W.mg_of X G a23) GTd b24 k24 (PySem.W.mg_of X G a24)
end K62
open PySem PySem.W PyProof.Rows
set_option maxRecDepth 100000 in
set_option maxHeartbeats 0 in
theorem PySem.Challenge.cw_sealhouse_k62_plain_programs_holds : PySem.Challenge.rw_sealhouse_k62_plain_programs.Holds := by
 w_on;o_law;k_head;(case hw=>w_witness2)
 k_fill
 refine L2.walk_ofT (l:=PySem.Challenge.rw_sealhouse_k62_plain_programs) (n:=63) (k:=68) (x:="_law_script") (CX:=fun _=>L2.CX0) rfl (by decide) rfl ⟨rfl,by decide,by decide,rfl⟩ (by intro w h Y;first|exact PySem.W.km_in_of Y|exact PySem.W.kIn_of Y) ?F (fun _ _ _ _ _ z=>z)
 case F =>
  intro w mg fa h KX G hmg
  refine' K62.all_mk KX G hmg ?a1 ?l1 ?c1 ?k1 ?a2 ?l2 ?c2 ?k2 ?a3 ?l3 ?c3 ?k3 ?a4 ?l4 ?c4 ?k4 ?a5 ?l5 ?c5 ?k5 ?a6 ?l6 ?c6 ?k6 ?a7 ?l7 ?c7 ?k7 ?a8 ?l8 ?c8 ?k8 ?a9 ?l9 ?c9 ?k9 ?a10 ?l10 ?c10 ?k10 ?a11 ?l11 ?c11 ?k11 ?a12 ?l12 ?c12 ?k12 ?a13 ?l13 ?c13 ?k13 ?a14 ?l14 ?c14 ?k14 ?a15 ?l15 ?c15 ?k15 ?a16 ?l16 ?c16 ?k16 ?a17 ?l17 ?c17 ?k17 ?a18 ?l18 ?c18 ?k18 ?a19 ?l19 ?c19 ?k19 ?a20 ?l20 ?c20 ?k20 ?a21 ?l21 ?c21 ?k21 ?a22 ?l22 ?c22 ?k22 ?a23 ?l23 ?c23 ?k23 ?a24 ?l24 ?c24 ?k24 ?a25 ?l25 ?c25 ?k25 ?t8 ?h8 ?r8 ?nT ?nD ?eH ?lH ?qH ?af ?lf ?cf ?kf ?lT ?ab ?lb ?cb ?kb ?lT2 ?aMW ?aA ?aC ?aW ?aT ?aZ ?xA ?xC ?xW ?xT ?xZ ?u00 ?u01 ?u02 ?u03 ?u04 ?u10 ?u11 ?u12 ?u13 ?u14 ?u20 ?u21 ?u22 ?u23 ?u24 ?u30 ?u31 ?u32 ?u33 ?u34 ?u40 ?u41 ?u42 ?u43 ?u44 ?z1 ?z2 ?z3 ?z4 ?z5 ?z6 ?z7 ?z8 ?z9 ?z10
  (case a1=>k_is)
  (case l1=>k_is)
  (case c1=>k_is)
  (case k1=>k_is)
  (case a2=>k_is)
  (case l2=>k_is)
  (case c2=>k_is)
  (case k2=>k_is)
  (case a3=>k_is)
  (case l3=>k_is)
  (case c3=>k_is)
  (case k3=>k_is)
  (case a4=>k_is)
  (case l4=>k_is)
  (case c4=>k_is)
  (case k4=>k_is)
  (case a5=>k_is)
  (case l5=>k_is)
  (case c5=>k_is)
  (case k5=>k_is)
  (case a6=>k_is)
  (case l6=>k_is)
  (case c6=>k_is)
  (case k6=>k_is)
  (case a7=>k_is)
  (case l7=>k_is)
  (case c7=>k_is)
  (case k7=>k_is)
  (case a8=>k_is)
  (case l8=>k_is)
  (case c8=>k_is)
  (case k8=>k_is)
  (case a9=>k_is)
  (case l9=>k_is)
  (case c9=>k_is)
  (case k9=>k_is)
  (case a10=>k_is)
  (case l10=>k_is)
  (case c10=>k_is)
  (case k10=>k_is)
  (case a11=>k_is)
  (case l11=>k_is)
  (case c11=>k_is)
  (case k11=>k_is)
  (case a12=>k_is)
  (case l12=>k_is)
  (case c12=>k_is)
  (case k12=>k_is)
  (case a13=>k_is)
  (case l13=>k_is)
  (case c13=>k_is)
  (case k13=>k_is)
  (case a14=>k_is)
  (case l14=>k_is)
  (case c14=>k_is)
  (case k14=>k_is)
  (case a15=>k_is)
  (case l15=>k_is)
  (case c15=>k_is)
  (case k15=>k_is)
  (case a16=>k_is)
  (case l16=>k_is)
  (case c16=>k_is)
  (case k16=>k_is)
  (case a17=>k_is)
  (case l17=>k_is)
  (case c17=>k_is)
  (case k17=>k_is)
  (case a18=>k_is)
  (case l18=>k_is)
  (case c18=>k_is)
  (case k18=>k_is)
  (case a19=>k_is)
  (case l19=>k_is)
  (case c19=>k_is)
  (case k19=>k_is)
  (case a20=>k_is)
  (case l20=>k_is)
  (case c20=>k_is)
  (case k20=>k_is)
  (case a21=>k_is)
  (case l21=>k_is)
  (case c21=>k_is)
  (case k21=>k_is)
  (case a22=>k_is)
  (case l22=>k_is)
  (case c22=>k_is)
  (case k22=>k_is)
  (case a23=>k_is)
  (case l23=>k_is)
  (case c23=>k_is)
  (case k23=>k_is)
  (case a24=>k_is)
  (case l24=>k_is)
  (case c24=>k_is)
  (case k24=>k_is)
  (case a25=>k_is)
  (case l25=>k_is)
  (case c25=>k_is)
  (case k25=>k_is)
  (case t8=>first|k_is|exact rfl)
  (case h8=>first|kernel_rfl|exact rfl)
  (case r8=>exact⟨_,rfl⟩)
  (case nT=>first|kernel_rfl|exact rfl)
  (case nD=>decide)
  (case eH=>k_is)
  (case lH=>with_unfolding_all exact rfl)
  (case qH=>decide)
  (case af=>k_is)
  (case lf=>k_is)
  (case cf=>k_is)
  (case kf=>k_is)
  (case lT=>k_is)
  (case ab=>k_is)
  (case lb=>k_is)
  (case cb=>k_is)
  (case kb=>k_is)
  (case lT2=>k_is)
  (case aMW=>k_is)
  (case aA=>k_is)
  (case aC=>k_is)
  (case aW=>k_is)
  (case aT=>k_is)
  (case aZ=>k_is)
  (case xA=>with_unfolding_all exact rfl)
  (case xC=>with_unfolding_all exact rfl)
  (case xW=>with_unfolding_all exact rfl)
  (case xT=>with_unfolding_all exact rfl)
  (case xZ=>with_unfolding_all exact rfl)
  (case u00=>exact rfl)
  (case u01=>exact rfl)
  (case u02=>exact rfl)
  (case u03=>exact rfl)
  (case u04=>exact rfl)
  (case u10=>exact rfl)
  (case u11=>exact rfl)
  (case u12=>exact rfl)
  (case u13=>exact rfl)
  (case u14=>exact rfl)
  (case u20=>exact rfl)
  (case u21=>exact rfl)
  (case u22=>exact rfl)
  (case u23=>exact rfl)
  (case u24=>exact rfl)
  (case u30=>exact rfl)
  (case u31=>exact rfl)
  (case u32=>exact rfl)
  (case u33=>exact rfl)
  (case u34=>exact rfl)
  (case u40=>exact rfl)
  (case u41=>exact rfl)
  (case u42=>exact rfl)
  (case u43=>exact rfl)
  (case u44=>exact rfl)
  (case z1=>k_is)
  (case z2=>k_is)
  (case z3=>k_is)
  (case z4=>k_is)
  (case z5=>k_is)
  (case z6=>k_is)
  (case z7=>k_is)
  (case z8=>k_is)
  (case z9=>k_is)
  (case z10=>k_is)
#print axioms PySem.Challenge.cw_sealhouse_k62_plain_programs_holds
