import PyProof.Rows.All
import Wide.All
import OpenK.AllK
import Wide.FinOn
import Lean
import PyProof.EqAt
import PyProof.EqKinds
import PyProof.TupleCall
import PySem.Challenge.RW_sealhouse_k53_functions_within
set_option maxHeartbeats 0
set_option Elab.async false
set_option linter.all false
set_option maxRecDepth 100000
namespace L2
open PySem PySem.Spec PyProof.Rows
abbrev Key:=Sum Int Str
def mj:Key->Value->Bool
 |.inl k,v=>Value.isInt k v
 |.inr x,v=>Value.isStrOf x v
def Aa(w:World):Key->Int
 |.inl k=>hashInt k
 |.inr x=>hashStr w x
theorem bp:∀{k:Key} {v:Value},mj k v=true->(∃i t,k=Sum.inl i/\v=Value.int i t)\/(∃x t,k=Sum.inr x/\v=Value.str x t)
 |.inl i,v,h=>by
  obtain⟨t,e⟩:=Value.isInt_shape (k:=i) (v:=v) h
  exact .inl ⟨i,t,rfl,e⟩
 |.inr x,v,h=>by
  obtain⟨t,e⟩:=Value.isStrOf_shape (x:=x) (v:=v) h
  exact .inr ⟨x,t,rfl,e⟩
theorem rp(i:Int)(t:Tok):mj (.inl i) (.int i t)=true:=by simp [mj,Value.isInt]
theorem qo(x:Str)(t:Tok):mj (.inr x) (.str x t)=true:=by simp [mj,Value.isStrOf]
theorem wO(a b:Int):decide ((Sum.inl a:Key)=Sum.inl b)=(a==b):=by
 by_cases e:a=b
 ·subst e;simp
 ·have h:¬(Sum.inl a:Key)=Sum.inl b:=fun q=>e (Sum.inl.inj q)
  rw [decide_eq_false h]
  exact(beq_eq_false_iff_ne.mpr e).symm
theorem xL(a b:Str):decide ((Sum.inr a:Key)=Sum.inr b)=decide (a=b):=by
 by_cases e:a=b
 ·subst e;simp
 ·have h:¬(Sum.inr a:Key)=Sum.inr b:=fun q=>e (Sum.inr.inj q)
  rw [decide_eq_false h,decide_eq_false e]
theorem xV(a:Int)(b:Str):decide ((Sum.inl a:Key)=Sum.inr b)=false:=decide_eq_false (fun q=>nomatch q)
theorem xu(a:Str)(b:Int):decide ((Sum.inr a:Key)=Sum.inl b)=false:=decide_eq_false (fun q=>nomatch q)
def aS(prog:Program)(w:World):PySem.KeyKind prog w Key where
 is:=mj
 hash:=Aa w
 inj:=fun v a b ha hb=>by
  rcases bp ha with ⟨i,t,rfl,rfl⟩|⟨x,t,rfl,rfl⟩
  ·rcases bp hb with ⟨j,u,rfl,e⟩|⟨y,u,rfl,e⟩
   ·injection e with e1 _;rw [e1]
   ·exact nomatch e
  ·rcases bp hb with ⟨j,u,rfl,e⟩|⟨y,u,rfl,e⟩
   ·exact nomatch e
   ·injection e with e1 _;rw [e1]
 byValue:=fun k v h=>by
  rcases bp h with ⟨i,t,rfl,rfl⟩|⟨x,t,rfl,rfl⟩<;>rfl
 pyHash:=fun hv h=>by
  rcases bp hv with ⟨i,t,rfl,rfl⟩|⟨x,t,rfl,rfl⟩
  ·exact wpAny_pyHash_int h
  ·exact wpAny_pyHash_str h
 eqBool:=fun hu hv h=>by
  rcases bp hu with ⟨i,t,rfl,rfl⟩|⟨x,t,rfl,rfl⟩
  ·rcases bp hv with ⟨j,u,rfl,rfl⟩|⟨y,u,rfl,rfl⟩
   ·rw [wO] at h;exact wpAny_eqBool_int h
   ·rw [xV] at h;exact SeqAt.EqAt.int_str i t y u _ _ _ _ h
  ·rcases bp hv with ⟨j,u,rfl,rfl⟩|⟨y,u,rfl,rfl⟩
   ·rw [xu] at h;exact SeqAt.EqAt.str_int x t j u _ _ _ _ h
   ·rw [xL] at h;exact wpAny_eqBool_str h
 «strs»:=fun k x t v h=>by
  rcases bp h with ⟨i,u,rfl,e⟩|⟨y,u,rfl,e⟩
  ·exact nomatch e
  ·injection e with e1 _
   subst e1
   cases v<;>rfl
theorem nX(prog:Program)(w:World)(k:Key)(v:Value):(aS prog w).is k v=mj k v:=rfl
theorem lR(prog:Program)(w:World)(i:Int)(t:Tok):(aS prog w).is (.inl i) (.int i t)=true:=rp i t
theorem eY(prog:Program)(w:World)(x:Str)(t:Tok):(aS prog w).is (.inr x) (.str x t)=true:=qo x t
inductive V where
 |non|bl (b:Bool)|int (i:Int)|str (x:Str)|byt (b:Array UInt8)|flt (b:UInt64)|ref (a:Addr)|ty (n:String)
 deriving DecidableEq
def br:V->Value->Prop
 |.non,u=>u=Value.none
 |.bl b,u=>u=Value.bool b
 |.int i,u=>∃t,u=Value.int i t
 |.str x,u=>∃t,u=Value.str x t
 |.byt b,u=>∃t,u=Value.bytes b t
 |.flt b,u=>∃t,u=Value.float b t
 |.ref a,u=>u=Value.ref a
 |.ty n,u=>u=Value.type n
abbrev bg:List V->List Value->Prop:=Paired br
theorem bg.length{xs:List V}{us:List Value}(r:bg xs us):xs.length=us.length:=Paired.length r
theorem bg.get:∀{xs:List V} {us:List Value} {i:Nat} {x:V},bg xs us->xs[i]?=some x->∃u,us[i]?=some u/\br x u
 |_,_,_,_,.nil,e=>by simp at e
 |_,_,0,_,.cons r _,e=>by simp at e;subst e;exact⟨_,rfl,r⟩
 |_,_,i+1,x,.cons _ t,e=>by
  obtain⟨u,h1,h2⟩:=bg.get (i:=i) (x:=x) t (by simpa using e)
  exact⟨u,by simpa using h1,h2⟩
theorem bg.set{x:V}{u:Value}(r:br x u):∀{xs:List V} {us:List Value} (i:Nat),bg xs us->bg (xs.set i x) (us.set i u)
 |_,_,_,.nil=>.nil
 |_,_,0,.cons _ t=>.cons r t
 |_,_,i+1,.cons q t=>.cons q (bg.set r i t)
theorem bg.append:∀{xs ys:List V} {us ws:List Value},bg xs us->bg ys ws->bg (xs++ys) (us++ws)
 |_,_,_,_,.nil,s=>s
 |_,_,_,_,.cons r t,s=>.cons r (bg.append t s)
theorem bg.take:∀{xs:List V} {us:List Value} (n:Nat),bg xs us->bg (xs.take n) (us.take n)
 |_,_,0,_=>.nil
 |_,_,_+1,.nil=>.nil
 |_,_,n+1,.cons r t=>.cons r (bg.take n t)
theorem bg.drop:∀{xs:List V} {us:List Value} (n:Nat),bg xs us->bg (xs.drop n) (us.drop n)
 |_,_,0,r=>r
 |_,_,_+1,.nil=>.nil
 |_,_,n+1,.cons _ t=>bg.drop n t
def kx:Option V->Option Value->Prop
 |some v,some u=>br v u
 |none,none=>True
 |_,_=>False
def KV{κ:Type}:List (κ × V)->List (κ × Value)->Prop:=Paired fun(p:κ × V) (q:κ × Value)=>p.1=q.1/\br p.2 q.2
def kV:Key->V
 |.inl i=>.int i
 |.inr x=>.str x
inductive HO where
 |lst (xs:List V)
 |tup (xs:List V)
 |dK (kvs:List (Key × V))|dT (kvs:List (List Key × V))
 |set (S:Int->Bool) (n:Nat)
 |ins (C dx:Addr) (fs:List (Str × V))
 |own (x:Addr)
 |xd (fs:List (Str × V))
 |met (f x:Addr)
 |rng (lo hi:Int)
 |frz (o:Obj) (u:HO)
 |tbl (ps:Array Value)
 |cod (q:Str)|cel (v:V)|fnc (fd:FuncData)
 |ext (φ:Heap->Prop)
abbrev Hp:=Addr->Option HO
def upd(H:Hp)(a:Addr)(o:HO):Hp:=fun b=>if b=a then some o else H b
theorem ac{H:Hp}{a:Addr}{o:HO}:upd H a o a=some o:=by unfold upd;rw [if_pos rfl]
theorem am{H:Hp}{a b:Addr}{o:HO}(h:b≠a):upd H a o b=H b:=by unfold upd;rw [if_neg h]
theorem d9{H:Hp}{a:Addr}{o u:HO}:upd (upd H a o) a u=upd H a u:=by
 funext b;unfold upd;split<;>rfl
theorem kr{H:Hp}{a b:Addr}{o u:HO}(h:H a=some o)(h':H b=some u)(d:o≠u):a≠b:=by
 intro e;subst e;rw [h] at h';exact d (Option.some.inj h')
theorem ax{H:Hp}{a b:Addr}{o:HO}(h:H a=some o)(h':H b=none):a≠b:=by
 intro e;subst e;rw [h] at h';cases h'
def d8:List Value->Pos->Option Str
 |.int l _::.int c _::.str q _::r,p=>if l==p.line&&c==p.col then some q else d8 r p
 |_,_=>none
inductive FxO where
 |tup (xs:List V)|cod (q:Str)
def FxO.ho:FxO->HO
 |.tup xs=>.tup xs
 |.cod q=>.cod q
section
variable(P:Program)(w:World)
def cG(H:Hp)(h:Heap)(a:Addr):HO->Prop
 |.lst xs=>xs.length<=sizeLine/\∃(its:List Value) (n:Nat),bg xs its/\h.get? a=some { cls:=.type "list",data:=.seq its.toArray n }
 |.tup xs=>xs.length<=sizeLine/\∃its:List Value,bg xs its/\IsTup h a its.toArray
 |.dK kvs=>kvs.length<=sizeLine/\(a==sysModules)=false/\∃vs,KV kvs vs/\h.DictOf (aS P w) a vs
 |.dT kvs=>kvs.length<=sizeLine/\(a==sysModules)=false/\∃xs:List (List Key × Addr × Value),
   Paired (fun(p:List Key × V) (q:List Key × Addr × Value)=>p.1=q.1/\H q.2.1=some (.tup (p.1.map kV))/\br p.2 q.2.2) kvs xs /\
   ∃o es ep,h.get? a=some o/\o.ExactDict/\o.data=.dict es ep/\es.toList=xs.map (entryOfKey (tupleKind (aS P w)))/\(xs.map (·.1)).Nodup
 |.set S n=>h.SetOf (intKind P w) a S n
 |.ins C dx fs=>H dx=some (.own a)/\fs.length<=1000/\dx≠a/\h.get? a=some (W.instObj C dx) /\
   ∃mA,h.Ns1 dx mA/\(∀f,kx (fs.lookup f) (mA f))/\PySem.Within mA (fs.map (·.1))
 |.own _=>∃o,h.get? a=some o
 |.xd fs=>∃mA,h.Ns1 a mA/\∀f,kx (fs.lookup f) (mA f)
 |.rng lo hi=>∃t u v,h.get? a=some { cls:=.type "range",data:=.fields #[.int lo t,.int hi u,.int 1 v] }
 |.frz o u=>h.get? a=some o/\cG H h a u
 |.tbl ps=>∃tb:Array Value,h.get? a=some { cls:=.none,data:=.fields tb }/\TriplesOk tb.toList/\∀(p:Pos) (q:Str),d8 ps.toList p=some q->∀cv,codeAmong p tb.toList=some cv->∃c,cv=Value.ref c/\H c=some (.cod q)
 |.cod q=>h.CodeRec (.ref a) q
 |.cel v=>∃u,br v u/\h.IsCell a (some u)
 |.fnc fd=>∃oc od sl,h.get? a=some ⟨oc,od,.func fd,sl⟩
 |.met f x=>h.get? a=some (W.methodObj (.ref f) (.ref x))
 |.ext φ=>φ h/\(∃o,h.get? a=some o)/\∀h1 h2:Heap,φ h1->(∀o,h1.get? a=some o->h2.get? a=some o)->φ h2
def HOk(H:Hp)(h:Heap):Prop:=∀a o,H a=some o->cG P w H h a o
end
section
variable{P:Program}{w:World}{H H':Hp}{h h':Heap}{a:Addr}{o:HO}
theorem cG.lt(x:cG P w H h a o):a < h.objs.size:=by
 cases o with
 |lst xs=>obtain⟨_,_,_,_,e⟩:=x;exact Heap.lt_size e
 |tup xs=>obtain⟨_,_,_,p⟩:=x;exact p.lt
 |dK kvs=>obtain⟨_,_,_,_,o,_,_,e,_⟩:=x;exact Heap.lt_size e
 |dT kvs=>obtain⟨_,_,_,_,o,_,_,e,_⟩:=x;exact Heap.lt_size e
 |set S n=>obtain⟨o,_,_,_,e,_⟩:=x;exact Heap.lt_size e
 |ins C dx fs=>obtain⟨_,_,_,e,_⟩:=x;exact Heap.lt_size e
 |own y=>obtain⟨_,e⟩:=x;exact Heap.lt_size e
 |xd fs=>obtain⟨_,⟨_,_,_,e,_⟩,_⟩:=x;exact Heap.lt_size e
 |rng lo hi=>obtain⟨_,_,_,e⟩:=x;exact Heap.lt_size e
 |frz ob u=>obtain⟨e,_⟩:=x;exact Heap.lt_size e
 |tbl ps=>obtain⟨_,e,_⟩:=x;exact Heap.lt_size e
 |cod q=>obtain⟨_,_,_,_,e0,e,_⟩:=x;cases e0;exact Heap.lt_size e
 |cel v=>obtain⟨_,_,_,e,_⟩:=x;exact Heap.lt_size e
 |fnc fd=>obtain⟨_,_,_,e⟩:=x;exact Heap.lt_size e
 |met f y=>exact Heap.lt_size (show h.get? a=some _ from x)
 |ext φ=>obtain⟨_,⟨_,e⟩,_⟩:=x;exact Heap.lt_size e
theorem Paired.mapP{α β:Type}{F G:α->β->Prop}:∀{l₁:List α} {l₂:List β},Paired F l₁ l₂->(∀a b,F a b->G a b)->Paired G l₁ l₂
 |_,_,.nil,_=>.nil
 |_,_,.cons r t,f=>.cons (f _ _ r) (Paired.mapP t f)
theorem Paired.imp'{α β:Type}{F G:α->β->Prop}(f:∀a b,F a b->G a b){l₁:List α}{l₂:List β}(r:Paired F l₁ l₂):Paired G l₁ l₂:=Paired.mapP r f
theorem cG.stay(x:cG P w H h a o)(k:∀b u,(b=a\/H b=some (.own a))->h.get? b=some u->h'.get? b=some u)
  (ho:∀b,H b=some (.own a)->H' b=some (.own a)) (ht:∀b (xs:FxO),H b=some xs.ho->H' b=some xs.ho):cG P w H' h' a o:=by
 induction o with
 |lst xs=>obtain⟨z,its,n,r,e⟩:=x;exact⟨z,its,n,r,k _ _ (.inl rfl) e⟩
 |tup xs=>obtain⟨z,its,r,ob,e,c⟩:=x;exact⟨z,its,r,ob,k _ _ (.inl rfl) e,c⟩
 |dK kvs=>obtain⟨z,y,vs,r,ob,es,ep,e,c⟩:=x;exact⟨z,y,vs,r,ob,es,ep,k _ _ (.inl rfl) e,c⟩
 |dT kvs =>
  obtain⟨z,y,xs,r,ob,es,ep,e,c⟩:=x
  exact⟨z,y,xs,Paired.mapP r fun p q z=>⟨z.1,ht _ (.tup _) z.2.1,z.2.2⟩,ob,es,ep,k _ _ (.inl rfl) e,c⟩
 |set S n=>obtain⟨ob,es,ep,t,e,c⟩:=x;exact⟨ob,es,ep,t,k _ _ (.inl rfl) e,c⟩
 |ins C dx fs =>
  obtain⟨d,z,ne,e,mA,⟨od,es,ep,e2,c⟩,r⟩:=x
  exact⟨ho _ d,z,ne,k _ _ (.inl rfl) e,mA,⟨od,es,ep,k _ _ (.inr d) e2,c⟩,r⟩
 |own y=>obtain⟨ob,e⟩:=x;exact⟨ob,k _ _ (.inl rfl) e⟩
 |xd fs=>obtain⟨mA,⟨od,es,ep,e,c⟩,r⟩:=x;exact⟨mA,⟨od,es,ep,k _ _ (.inl rfl) e,c⟩,r⟩
 |rng lo hi=>obtain⟨t,u,v,e⟩:=x;exact⟨t,u,v,k _ _ (.inl rfl) e⟩
 |frz ob u ih=>obtain⟨e,q⟩:=x;exact⟨k _ _ (.inl rfl) e,ih q⟩
 |tbl ps =>
  obtain⟨tb,e,tr,q⟩:=x
  exact⟨tb,k a _ (.inl rfl) e,tr,fun p z hz cv hc=>let ⟨c,e1,e2⟩:=q p z hz cv hc;⟨c,e1,ht c (.cod z) e2⟩⟩
 |cod q=>obtain⟨c,ob,vs,t,e0,e,r⟩:=x;cases e0;exact⟨_,ob,vs,t,rfl,k _ _ (.inl rfl) e,r⟩
 |cel v=>obtain⟨u,r,ob,e,d⟩:=x;exact⟨u,r,ob,k _ _ (.inl rfl) e,d⟩
 |fnc fd=>obtain⟨oc,od,sl,e⟩:=x;exact⟨oc,od,sl,k _ _ (.inl rfl) e⟩
 |met f y =>
  have e:h.get? a=some (W.methodObj (.ref f) (.ref y)):=x
  show h'.get? a=some (W.methodObj (.ref f) (.ref y))
  exact k a _ (.inl rfl) e
 |ext φ=>obtain⟨p,⟨o,e⟩,st⟩:=x;exact⟨st _ _ p fun o q=>k _ _ (.inl rfl) q,⟨o,k _ _ (.inl rfl) e⟩,st⟩
theorem HOk.lt(x:HOk P w H h)(e:H a=some o):a < h.objs.size:=(x a o e).lt
theorem HOk.fresh(x:HOk P w H h)(e:h.objs.size<=a):H a=none:=by
 cases q:H a with
 |none=>rfl
 |some u=>exact absurd (Nat.lt_of_lt_of_le (x.lt q) e) (Nat.lt_irrefl _)
theorem HOk.kept(x:HOk P w H h)(k:∀b u,h.get? b=some u->h'.get? b=some u):HOk P w H h':=fun a o e =>
 (x a o e).stay (fun b u _ q=>k b u q) (fun _ q=>q) fun _ _ q=>q
theorem HOk.laid(x:HOk P w H h)(k:∀b u,h.get? b=some u->h'.get? b=some u)(hp:h.objs.size<=a)(new:cG P w (upd H a o) h' a o):HOk P w (upd H a o) h':=fun b u e=>by
 have hn:=x.fresh hp
 by_cases hb:b=a
 ·subst hb;rw [ac] at e;cases e;exact new
 ·rw [am hb] at e
  exact(x b u e).stay (fun c v _ q=>k c v q) (fun c q=>by rw [am (ax q hn)];exact q) fun c xs q=>by rw [am (ax q hn)];exact q
end
def Rd(H:Hp)(a:Addr)(u:HO):Prop:=H a=some u\/∃o,H a=some (.frz o u)
theorem Rd.ok{P:Program}{w:World}{H:Hp}{h:Heap}{a:Addr}{u:HO}(r:Rd H a u)(x:HOk P w H h):cG P w H h a u:=by
 rcases r with r|⟨o,r⟩
 ·exact x a u r
 ·obtain⟨_,q⟩:=x a _ r
  exact q
def Mut:Option HO->Prop
 |some (.lst _)=>True
 |some (.dK _)=>True
 |some (.dT _)=>True
 |some (.set _ _)=>True
 |some (.ins _ _ _)=>True
 |some (.ext _)=>True
 |_=>False
section
variable{P:Program}{w:World}{H:Hp}{h h':Heap}{x e:Addr}{o':HO}
theorem HOk.write(ok:HOk P w H h)(mu:Mut (H x))(he:e=x\/H e=some (.own x))(k:∀b u,b≠e->h.get? b=some u->h'.get? b=some u)(heo:∃u,h'.get? e=some u)
  (new:cG P w (upd H x o') h' x o'):HOk P w (upd H x o') h':=fun b u q=>by
 have nown:∀c y,H c=some (.own y)->c≠x:=fun c y r z=>by subst z;rw [r] at mu;exact mu
 have ntup:∀c (xs:FxO),H c=some xs.ho->c≠x:=fun c xs r z=>by subst z;rw [r] at mu;cases xs<;>exact mu
 by_cases hb:b=x
 ·subst hb;rw [ac] at q;cases q;exact new
 ·rw [am hb] at q
  by_cases hbe:b=e
  ·have q':H b=some (.own x):=by
    rcases he with z|z
    ·exact absurd (hbe.trans z) hb
    ·rw [hbe];exact z
   rw [q] at q';cases q'
   obtain⟨v,hv⟩:=heo
   exact⟨v,by rw [hbe];exact hv⟩
  ·refine(ok b u q).stay (fun c v hc r=>k c v ?_ r) (fun c r=>by rw [am (nown c b r)];exact r) fun c xs r=>by rw [am (ntup c xs r)];exact r
   rcases hc with rfl|hc
   ·exact hbe
   ·rintro rfl
    rcases he with z|z
    ·exact nown c b hc z
    ·rw [hc] at z;cases z;exact hb rfl
end
structure Un(fs ex:List Addr)(H H':Hp)(h h':Heap):Prop where
 keep:∀b o,h.get? b=some o->H b=none->b∉fs->b∉ex->h'.get? b=some o
 slot:∀b o,h.get? b=some o->H b=none->b∈fs->b∉ex->∃sl,h'.get? b=some { o with slots:=sl }
 free:∀b o,h.get? b=some o->H b=none->b∉ex->H' b=none
 there:∀b o,h.get? b=some o->b∉ex->∃o',h'.get? b=some o'
 tups:∀b xs,H b=some (.tup xs)->H' b=some (.tup xs)
 frzs:∀b o u,H b=some (.frz o u)->H' b=some (.frz o u)
 tbls:∀b ps,H b=some (.tbl ps)->∃more,H' b=some (.tbl (ps++more))
section
variable{fs fs' ex ex':List Addr}{H H1 H2:Hp}{h h1 h2 h':Heap}{a x e:Addr}{o:HO}
theorem Un.any(u:Un fs ex H H1 h h1){b:Addr}{ob:Obj}(q:h.get? b=some ob)(n:H b=none)(hx:b∉ex):∃sl,h1.get? b=some { ob with slots:=sl }:=by
 by_cases hb:b∈fs
 ·exact u.slot b ob q n hb hx
 ·exact⟨ob.slots,u.keep b ob q n hb hx⟩
theorem Un.kept(k:∀b u,h.get? b=some u->h'.get? b=some u):Un fs ex H H h h' :=
 ⟨fun b ob q _ _ _=>k b ob q,fun b ob q _ _ _=>⟨ob.slots,k b ob q⟩,fun _ _ _ n _=>n,fun b ob q _=>⟨ob,k b ob q⟩,fun _ _ q=>q,fun _ _ _ q=>q,fun _ ps q=>⟨#[],by rw [q];simp⟩⟩
theorem Un.refl:Un fs ex H H h h:=Un.kept fun _ _ q=>q
theorem Un.laid(k:∀b u,h.get? b=some u->h'.get? b=some u)(hp:h.objs.size<=a)(hn:H a=none):Un fs ex H (upd H a o) h h' where
 keep:=fun b u q _ _ _=>k b u q
 slot:=fun b u q _ _ _=>⟨u.slots,k b u q⟩
 free:=fun b u q n _=>by rw [am (Nat.ne_of_lt (Nat.lt_of_lt_of_le (Heap.lt_size q) hp))];exact n
 there:=fun b u q _=>⟨u,k b u q⟩
 tups:=fun b xs q=>by rw [am (ax q hn)];exact q
 frzs:=fun b u xs q=>by rw [am (ax q hn)];exact q
 tbls:=fun b ps q=>⟨#[],by rw [am (ax q hn),q];simp⟩
theorem Un.write(mu:Mut (H x))(he:e=x\/H e=some (.own x))(k:∀b u,b≠e->h.get? b=some u->h'.get? b=some u)(heo:∃u,h'.get? e=some u):Un fs ex H (upd H x o) h h':=by
 have hx:∀b,H b=none->b≠x:=fun b n z=>by subst z;rw [n] at mu;exact mu
 have hb:∀b,H b=none->b≠e:=fun b n z=>by
  subst z
  rcases he with r|r
  ·exact hx b n r
  ·rw [n] at r;cases r
 have hm:∀b u,H b=some u->¬Mut (some u)->b≠x:=fun b u q nm z=>by subst z;rw [q] at mu;exact nm mu
 refine⟨fun b u q n _ _=>k b u (hb b n) q,fun b u q n _ _=>⟨u.slots,k b u (hb b n) q⟩,fun b u q n _=>by rw [am (hx b n)];exact n,fun b u q _=>?_,
  fun b xs q=>by rw [am (hm b _ q fun z=>z)];exact q,fun b u xs q=>by rw [am (hm b _ q fun z=>z)];exact q,fun b ps q=>⟨#[],by rw [am (hm b _ q fun z=>z),q];simp⟩⟩
 by_cases hbe:b=e
 ·subst hbe;exact heo
 ·exact⟨u,k b u hbe q⟩
end
def trk(h:Heap)(H:Hp):List Addr:=(List.range h.objs.size).filter fun a=>(H a).isSome
def sB(h:Heap)(H:Hp):Heap:=W.hideAll h (trk h H)
theorem qa(h:Heap)(H:Hp):(sB h H).objs.size=h.objs.size:=W.hideAll_size _ _
theorem sS{h:Heap}{H:Hp}{b:Addr}{o:Obj}(e:h.get? b=some o)(n:H b=none):(sB h H).get? b=some o :=
 W.hideAll_get _ e fun hm=>by
  have q:(H b).isSome=true:=(List.mem_filter.mp hm).2
  rw [n] at q;simp at q
theorem vG{h:Heap}{H:Hp}{b:Addr}{o:Obj}(e:(sB h H).get? b=some o):h.get? b=some o/\H b=none:=by
 have e':h.get? b=some o:=W.of_hideAll (trk h H) e
 refine⟨e',?_⟩
 cases q:H b with
 |none=>rfl
 |some x =>
  have hm:b∈trk h H:=List.mem_filter.mpr ⟨List.mem_range.mpr (Heap.lt_size e'),by simp [q]⟩
  have z:(sB h H).get? b=none:=W.hideAll_none (trk h H) hm
  rw [z] at e;cases e
def vn(g h:Heap)(L:Addr):List (Addr × Obj):=(List.range h.objs.size).filterMap fun a=>if a=L\/(g.get? a).isSome=true then none else (h.get? a).map fun o=>(a,o)
def rest(g h:Heap)(L d:Addr):List (Addr × Obj):=(vn g h L).filter fun p=>decide (p.1≠d)
structure Mod(K:W.Frag)(mg:Str->Option Value)(base:Heap):Prop where
 kin:K.In base
 glob:base.Ns mainGlobals mg
 blt:∃mb,base.Ns builtinsNs mb/\∀x:Str,x≠"__name__"->mb x=bootBuiltins x
 nolimit:base.NoLimit
 bmn:∃bm ob,mg "__builtins__"=some (.ref bm)/\bm≠builtinsNs/\base.get? bm=some ob/\ob.cls=.type "module"/\ob.dict=some builtinsNs/\ob.data=.plain
structure Cx where
 prog:Program
 w:World
 K:W.Frag
 mg:Str->Option Value
 base:Heap
 A:Around
 N:List Str
 s₀:Shared
 H₀:Hp
 env:Env
 outer:List Env
 stack:List Env
 ex:List Addr
 fn:Str->Bool
 calm:Bool
 pn:List (Addr × Obj)
 xe:Value->Shared->Prop
def frs(l:List Env):List Addr:=l.filterMap (·.frame)
abbrev Cx.fs(X:Cx):List Addr:=frs X.outer
def Vis(sc:Scope)(x:Str):Prop:=sc.names.lookup x=some .local\/sc.names.lookup x=some .cell\/sc.names.lookup x=some .free
def Loc(sc:Scope)(x:Str):Prop:=sc.names.lookup x=some .local\/sc.names.lookup x=some .cell
def Al(env:Env)(h:Heap)(m:Str->Option Value)(x:Str)(u:Value):Prop :=
 (env.kindOf x=some .local/\m x=some u)\/((env.kindOf x=some .cell\/env.kindOf x=some .free)/\∃c,env.cells.lookup x=some c/\h.IsCell c (some u))
structure Cx.Ok(X:Cx):Prop where
 mod:Mod X.K X.mg X.base
 kind:X.env.scope.kind=.function
 glob:X.env.globals=mainGlobals
 blt:X.env.builtins=builtinsNs
 above:X.s₀.heap.objs.size<=X.env.locals
 inj:∀x y c,X.env.cells.lookup x=some c->X.env.cells.lookup y=some c->x=y
 has:∀x,(X.env.kindOf x=some .cell\/X.env.kindOf x=some .free)->∃c,X.env.cells.lookup x=some c
 cab:∀x c,X.fn x=true->X.env.cells.lookup x=some c->X.s₀.heap.objs.size<=c
 hd:X.calm=true->X.A.handled=none
 frames:X.A.frames=some X.stack
 stk:X.stack=X.outer\/(X.stack=X.env::X.outer/\X.env.frame=some X.env.locals)
 exf:∀b∈X.ex,b≠X.env.locals/\∀x c,X.env.cells.lookup x=some c->c≠b
 bs:∀b o,X.base.get? b=some o->X.s₀.heap.get? b=some o/\X.H₀ b=none
 bsz:X.base.objs.size<=X.s₀.heap.objs.size
 noex:∀b o,X.base.get? b=some o->b∉X.ex
 exfs:∀b∈X.ex,b∉X.fs
 funs:X.s₀.heap.FunFrames X.base X.outer
 frf:∀b∈X.fs,X.H₀ b=none
structure Inv(X:Cx)(pins:List (Addr × Obj))(σ:List (Option V))(H:Hp)(s:Shared):Prop where
 ok:X.Ok
 os:s.os=X.s₀.os
 bare:AllBare s.gens
 base:Un X.fs X.ex X.H₀ H X.s₀.heap s.heap
 loc:∃m,s.heap.Ns X.env.locals m/\∀(i:Nat) (x:Str) (v:V),X.N[i]?=some x->σ[i]?=some (some v)->Vis X.env.scope x->∃u,br v u/\Al X.env s.heap m x u
 cell:∀x c,X.env.cells.lookup x=some c->∃v,s.heap.IsCell c v
 free:H X.env.locals=none
 freeC:∀x c,X.env.cells.lookup x=some c->H c=none
 pin:∀p∈X.pn++pins,s.heap.get? p.1=some p.2/\H p.1=none/\p.1≠X.env.locals/\p.1∉X.fs/\∀v,p.2.data≠.cell v
 hok:HOk X.prog X.w H s.heap
 len:σ.length=X.N.length
section
variable{X:Cx}{pins:List (Addr × Obj)}{σ:List (Option V)}{H H':Hp}{s:Shared}{h':Heap}
theorem Cx.Ok.nofr(ok:X.Ok){b:Addr}{o:Obj}(e:X.base.get? b=some o):b∉X.fs:=fun hb=>by
 have:=(ok.funs.mem hb).1
 rw [e] at this;cases this
theorem Inv.bs(I:Inv X pins σ H s):∀b o,X.base.get? b=some o->s.heap.get? b=some o/\H b=none:=fun b o e =>
 ⟨I.base.keep b o (I.ok.bs b o e).1 (I.ok.bs b o e).2 (I.ok.nofr e) (I.ok.noex b o e),I.base.free b o (I.ok.bs b o e).1 (I.ok.bs b o e).2 (I.ok.noex b o e)⟩
theorem Inv.bk(I:Inv X pins σ H s):∀b o,X.base.get? b=some o->s.heap.get? b=some o:=fun b o e=>(I.bs b o e).1
theorem Inv.mod(I:Inv X pins σ H s):Mod X.K X.mg X.base:=I.ok.mod
theorem Inv.kIn(I:Inv X pins σ H s):X.K.In s.heap:=I.ok.mod.kin.keeps I.bk
theorem Inv.lt(I:Inv X pins σ H s):X.env.locals < s.heap.objs.size:=let ⟨_,hn,_⟩:=I.loc;hn.lt
theorem Inv.sz(I:Inv X pins σ H s):X.s₀.heap.objs.size<=s.heap.objs.size:=Nat.le_trans I.ok.above (Nat.le_of_lt I.lt)
theorem Inv.nofs(I:Inv X pins σ H s){a:Addr}(h:s.heap.objs.size<=a):a∉X.fs:=fun hb=>by
 obtain⟨_,o,ho,_⟩:=I.ok.funs.mem hb
 exact absurd (Nat.lt_of_lt_of_le (Heap.lt_size ho) (Nat.le_trans I.sz h)) (Nat.lt_irrefl _)
theorem Inv.cne(I:Inv X pins σ H s):∀x c,X.env.cells.lookup x=some c->c≠X.env.locals:=fun x c e z=>by
 obtain⟨v,o,ho,hd⟩:=I.cell x c e
 obtain⟨m,⟨o',es,ep,ho',hd',_⟩,_⟩:=I.loc
 rw [z,ho'] at ho;cases ho;rw [hd'] at hd;cases hd
theorem Inv.funs(I:Inv X pins σ H s):s.heap.FunFrames X.base X.outer:=by
 have all:∀(l:List Env),(∀b∈frs l,b∈X.fs)->X.s₀.heap.FunFrames X.base l->s.heap.FunFrames X.base l:=by
  intro l
  induction l with
  |nil=>intro _ _;trivial
  |cons env r ih =>
   intro hs hl
   obtain⟨hk,⟨L,o,hf,hn,ho,hd⟩,hr⟩:=hl
   have hL:L∈X.fs:=hs L (by unfold frs;rw [List.filterMap_cons,hf];exact List.mem_cons_self)
   obtain⟨sl,e⟩:=I.base.slot L o ho (I.ok.frf L hL) hL fun z=>I.ok.exfs L z hL
   exact⟨hk,⟨L,_,hf,hn,e,hd⟩,ih (fun b hb=>hs b (by unfold frs;rw [List.filterMap_cons,hf];exact List.mem_cons_of_mem _ hb)) hr⟩
 exact all X.outer (fun _ hb=>hb) I.ok.funs
theorem Inv.stack(I:Inv X pins σ H s):s.heap.FunFrames X.base X.stack:=by
 rcases I.ok.stk with e|⟨e,hf⟩
 ·rw [e];exact I.funs
 ·rw [e]
  obtain⟨m,hn,_⟩:=I.loc
  refine .cons (by rw [I.ok.kind];decide) hf hn ?_ I.funs
  exact Heap.get?_none_of_le (Nat.le_trans I.ok.bsz I.ok.above)
theorem Inv.stkSub(I:Inv X pins σ H s):∀b∈frs X.stack,b∈X.env.locals::X.fs:=fun b hb=>by
 rcases I.ok.stk with e|⟨e,hf⟩
 ·rw [e] at hb;exact List.mem_cons_of_mem _ hb
 ·rw [e] at hb
  unfold frs at hb
  rw [List.filterMap_cons,hf] at hb
  exact hb
theorem Inv.stkFree(I:Inv X pins σ H s):∀b∈frs X.stack,H b=none:=fun b hb=>by
 rcases List.mem_cons.mp (I.stkSub b hb) with e|hb
 ·rw [e];exact I.free
 ·obtain⟨_,o,ho,_⟩:=I.ok.funs.mem hb
  exact I.base.free b o ho (I.ok.frf b hb) fun z=>I.ok.exfs b z hb
theorem Inv.step{g':Array GenState}{t':Nat}{d':Drawn}{ch:List Addr}(I:Inv X pins σ H s)
  (hch:∀b∈ch,(b∈X.ex\/X.s₀.heap.objs.size<=b)/\b≠X.env.locals/\(∀x c,X.env.cells.lookup x=some c->c≠b)/\∀p∈X.pn++pins,p.1≠b)
  (keep:∀b o,b≠X.env.locals->b∉X.fs->b∉ch->s.heap.get? b=some o->H b=none->h'.get? b=some o)
  (slot:∀b o,b≠X.env.locals->b∈X.fs->b∉ch->s.heap.get? b=some o->H b=none->∃sl,h'.get? b=some { o with slots:=sl }) (free:∀b o,b∉ch->s.heap.get? b=some o->H b=none->H' b=none)
  (there:∀b o,b∉ch->s.heap.get? b=some o->∃o',h'.get? b=some o')
  (tups:∀b xs,H b=some (.tup xs)->H' b=some (.tup xs)) (frzs:∀b o u,H b=some (.frz o u)->H' b=some (.frz o u)) (tbls:∀b ps,H b=some (.tbl ps)->∃more,H' b=some (.tbl (ps++more)))
  (ns:∀m,s.heap.Ns X.env.locals m->h'.Ns X.env.locals m) (hok:HOk X.prog X.w H' h') (hg:AllBare g') :
  Inv X pins σ H' { s with heap:=h',gens:=g',drawn:=d',toks:=t' }:=by
 have neL:∀b o,X.s₀.heap.get? b=some o->b≠X.env.locals:=fun b o e=>Nat.ne_of_lt (Nat.lt_of_lt_of_le (Heap.lt_size e) I.ok.above)
 have neC:∀b o,X.s₀.heap.get? b=some o->b∉X.ex->b∉ch:=fun b o e hx hb=>by
  rcases (hch b hb).1 with z|z
  ·exact hx z
  ·exact absurd (Nat.lt_of_lt_of_le (Heap.lt_size e) z) (Nat.lt_irrefl _)
 have cellK:∀x c,X.env.cells.lookup x=some c->∀v,s.heap.IsCell c v->h'.IsCell c v:=fun x c e v ⟨o,ho,hd⟩=>by
  have nch:c∉ch:=fun z=>(hch c z).2.2.1 x c e rfl
  by_cases hc:c∈X.fs
  ·obtain⟨sl,q⟩:=slot c o (I.cne x c e) hc nch ho (I.freeC x c e)
   exact⟨_,q,hd⟩
  ·exact⟨o,keep c o (I.cne x c e) hc nch ho (I.freeC x c e),hd⟩
 refine⟨I.ok,I.os,hg,⟨fun b o e n hb hx=>?_,fun b o e n hb hx=>?_,fun b o e n hx=>?_,fun b o e hx=>?_,fun b xs e=>tups b xs (I.base.tups b xs e),fun b o xs e=>frzs b o xs (I.base.frzs b o xs e),fun b ps e=>?_⟩,?_,fun x c e=>?_,?_,fun x c e=>?_,fun p hp=>?_,hok,I.len⟩
 ·exact keep b o (neL b o e) hb (neC b o e hx) (I.base.keep b o e n hb hx) (I.base.free b o e n hx)
 ·obtain⟨sl,e1⟩:=I.base.slot b o e n hb hx
  obtain⟨sl',e2⟩:=slot b _ (neL b o e) hb (neC b o e hx) e1 (I.base.free b o e n hx)
  exact⟨sl',e2⟩
 ·obtain⟨o',e1⟩:=I.base.there b o e hx
  exact free b o' (neC b o e hx) e1 (I.base.free b o e n hx)
 ·obtain⟨o',e1⟩:=I.base.there b o e hx
  exact there b o' (neC b o e hx) e1
 ·obtain⟨m1,e1⟩:=I.base.tbls b ps e
  obtain⟨m2,e2⟩:=tbls b _ e1
  exact⟨m1++m2,by rw [e2,Array.append_assoc]⟩
 ·obtain⟨m,hn,hl⟩:=I.loc
  refine⟨m,ns m hn,fun i x v e1 e2 e3=>?_⟩
  obtain⟨u,r,l⟩:=hl i x v e1 e2 e3
  refine⟨u,r,?_⟩
  rcases l with l|⟨k,c,e,z⟩
  ·exact .inl l
  ·exact .inr ⟨k,c,e,cellK x c e _ z⟩
 ·obtain⟨v,z⟩:=I.cell x c e
  exact⟨v,cellK x c e v z⟩
 ·obtain⟨m,⟨o,_,_,ho,_⟩,_⟩:=I.loc
  exact free _ o (fun z=>(hch _ z).2.1 rfl) ho I.free
 ·obtain⟨v,o,ho,hd⟩:=I.cell x c e
  exact free c o (fun z=>(hch c z).2.2.1 x c e rfl) ho (I.freeC x c e)
 ·obtain⟨e,n,ne,nf,d⟩:=I.pin p hp
  have nch:p.1∉ch:=fun z=>(hch p.1 z).2.2.2 p hp rfl
  exact⟨keep p.1 p.2 ne nf nch e n,free p.1 p.2 nch e n,ne,nf,d⟩
theorem Inv.un{t':Nat}(I:Inv X pins σ H s)(u:Un X.fs [] H H' s.heap h')(hok:HOk X.prog X.w H' h'):Inv X pins σ H' { s with heap:=h',toks:=t' }:=by
 obtain⟨m,⟨o,es,ep,ho,r⟩,_⟩:=id I.loc
 obtain⟨sl,hL⟩:=u.any ho I.free (by simp)
 exact I.step (g':=s.gens) (d':=s.drawn) (ch:=[]) (fun _ z=>nomatch z) (fun b o _ hb _ e n=>u.keep b o e n hb (by simp)) (fun b o _ hb _ e n=>u.slot b o e n hb (by simp)) (fun b o _ e n=>u.free b o e n (by simp)) (fun b o _ e=>u.there b o e (by simp)) u.tups u.frzs u.tbls (fun m' hm=>by
  obtain⟨o',es',ep',ho',r'⟩:=hm
  rw [ho] at ho';cases ho'
  exact⟨_,es',ep',hL,r'⟩) hok I.bare
theorem Inv.call{g':Array GenState}{t':Nat}{d':Drawn}{ch:List Addr}(I:Inv X pins σ H s)(u:Un (frs X.stack) ch H H' s.heap h')(hok:HOk X.prog X.w H' h')(hg:AllBare g')
  (hch:∀b∈ch,(b∈X.ex\/X.s₀.heap.objs.size<=b)/\b≠X.env.locals/\(∀x c,X.env.cells.lookup x=some c->c≠b)/\∀p∈X.pn++pins,p.1≠b) :
  Inv X pins σ H' { s with heap:=h',gens:=g',drawn:=d',toks:=t' }:=by
 obtain⟨m,⟨o,es,ep,ho,r⟩,_⟩:=id I.loc
 obtain⟨sl,hL⟩:=u.any ho I.free fun z=>(hch _ z).2.1 rfl
 exact I.step (ch:=ch) hch (fun b o hL hb hc e n=>u.keep b o e n (fun z=>(List.mem_cons.mp (I.stkSub b z)).elim hL hb) hc) (fun b o _ _ hc e n=>u.any e n hc) (fun b o hc e n=>u.free b o e n hc) (fun b o hc e=>u.there b o e hc) u.tups u.frzs u.tbls (fun m' hm=>by
  obtain⟨o',es',ep',ho',r'⟩:=hm
  rw [ho] at ho';cases ho'
  exact⟨_,es',ep',hL,r'⟩) hok hg
theorem Inv.turned{t':Nat}{it:Addr}(I:Inv X pins σ H s)(k:∀b o,b≠it->s.heap.get? b=some o->h'.get? b=some o)(hn:H it=none)(hL:it≠X.env.locals)
  (h1:it∈X.ex\/X.s₀.heap.objs.size<=it) (h2:∀x c,X.env.cells.lookup x=some c->c≠it) (h3:∀p∈X.pn++pins,p.1≠it):Inv X pins σ H { s with heap:=h',toks:=t' }:=by
 have nit:∀b u,H b=some u->b≠it:=fun b u e z=>by rw [z,hn] at e;cases e
 refine I.step (g':=s.gens) (d':=s.drawn) (ch:=[it]) (fun b hb=>?_) (fun b o _ _ hc e _=>k b o (fun z=>hc (by simp [z])) e) (fun b o _ _ hc e _=>⟨o.slots,k b o (fun z=>hc (by simp [z])) e⟩) (fun _ _ _ _ n=>n)
  (fun b o hc e=>⟨o,k b o (fun z=>hc (by simp [z])) e⟩) (fun _ _ e=>e) (fun _ _ _ e=>e) (fun b ps e=>⟨#[],by rw [e];simp⟩) (fun m hm=>?_) (fun b u e=>?_) I.bare
 ·have e:b=it:=by simpa using hb
  subst e
  exact⟨h1,hL,h2,h3⟩
 ·obtain⟨o,es,ep,ho,r⟩:=hm
  exact⟨o,es,ep,k _ o (Ne.symm hL) ho,r⟩
 ·refine(I.hok b u e).stay (fun c v hc q=>k c v ?_ q) (fun _ q=>q) fun _ _ q=>q
  rcases hc with z|z
  ·rw [z];exact nit b u e
  ·exact nit c _ z
theorem Inv.tok(I:Inv X pins σ H s)(t:Nat):Inv X pins σ H { s with toks:=t }:=I.un (h':=s.heap) (t':=t) Un.refl I.hok
theorem Inv.kept{t':Nat}(I:Inv X pins σ H s)(k:∀b u,s.heap.get? b=some u->h'.get? b=some u):Inv X pins σ H { s with heap:=h',toks:=t' }:=I.un (Un.kept k) (I.hok.kept k)
theorem Inv.laid{a:Addr}{o:HO}{t':Nat}(I:Inv X pins σ H s)(k:∀b u,s.heap.get? b=some u->h'.get? b=some u)(hp:s.heap.objs.size<=a)(new:cG X.prog X.w (upd H a o) h' a o) :
  Inv X pins σ (upd H a o) { s with heap:=h',toks:=t' }:=I.un (Un.laid k hp (I.hok.fresh hp)) (I.hok.laid k hp new)
theorem Inv.write{x e:Addr}{o:HO}{t':Nat}(I:Inv X pins σ H s)(mu:Mut (H x))(he:e=x\/H e=some (.own x))(k:∀b u,b≠e->s.heap.get? b=some u->h'.get? b=some u)(heo:∃u,h'.get? e=some u)
  (new:cG X.prog X.w (upd H x o) h' x o):Inv X pins σ (upd H x o) { s with heap:=h',toks:=t' }:=I.un (Un.write mu he k heo) (I.hok.write mu he k heo new)
theorem Inv.weak{σ':List (Option V)}(I:Inv X pins σ H s)(hl:σ'.length=σ.length)(w:∀(i:Nat) v,σ'[i]?=some (some v)->σ[i]?=some (some v)):Inv X pins σ' H s :=
 ⟨I.ok,I.os,I.bare,I.base,let ⟨m,hn,hl'⟩:=I.loc;⟨m,hn,fun i x v e1 e2 e3=>hl' i x v e1 (w i v e2) e3⟩,I.cell,I.free,I.freeC,I.pin,I.hok,hl.trans I.len⟩
theorem Inv.pins_of{pins':List (Addr × Obj)}(I:Inv X pins σ H s)(h:∀p∈pins',s.heap.get? p.1=some p.2/\H p.1=none/\p.1≠X.env.locals/\p.1∉X.fs/\∀v,p.2.data≠.cell v):Inv X pins' σ H s :=
 ⟨I.ok,I.os,I.bare,I.base,I.loc,I.cell,I.free,I.freeC,fun p hp=>(List.mem_append.mp hp).elim (fun z=>I.pin p (List.mem_append_left _ z)) (h p),I.hok,I.len⟩
theorem mY{N:List Str}(hN:N.Nodup){i j:Nat}{x:Str}(a:N[i]?=some x)(b:N[j]?=some x):i=j:=by
 obtain⟨h1,e1⟩:=List.getElem?_eq_some_iff.mp a
 obtain⟨h2,e2⟩:=List.getElem?_eq_some_iff.mp b
 exact(List.getElem_inj hN).mp (e1.trans e2.symm)
theorem iy{M:Model}{A:Around}{E:Value->Shared->Prop}{i:Nat}{x:Str}{v:V}{u:Value}{Q:Unit->Shared->Prop}(I:Inv X pins σ H s)(hN:X.N.Nodup)(hi:X.N[i]?=some x)(hx:Loc X.env.scope x)(r:br v u)
  (h:∀s',Inv X pins (σ.set i (some v)) H s'->(∃a,Heap.SameBut a s.heap s'.heap/\(a=X.env.locals\/X.env.cells.lookup x=some a))->Q () s') (hf:X.fn x=true\/X.env.scope.names.lookup x=some .local:=by first|exact .inl rfl|exact .inr rfl|assumption):wpAny M A (storeName X.env x u) Q E s:=by
 obtain⟨m,hn,hl⟩:=id I.loc
 have hcls:(X.env.scope.kind==.class||(X.env.scope.kind==.module&&X.env.locals != X.env.globals))=false:=by rw [I.ok.kind];rfl
 have hiσ:i < σ.length:=by rw [I.len];exact(List.getElem?_eq_some_iff.mp hi).1
 have cne:=I.cne
 have tracked:∀{a:Addr} {h':Heap},(∃o,s.heap.get? a=some o/\H a=none)->Heap.SameBut a s.heap h'->HOk X.prog X.w H h':=fun {a h'} ha hs b ob e=>by
  obtain⟨_,_,hfree⟩:=ha
  refine(I.hok b ob e).stay (fun c w' hc q=>(hs.2 c ?_).trans q) (fun _ q=>q) fun _ _ q=>q
  rintro rfl
  rcases hc with rfl|hc
  ·rw [hfree] at e;cases e
  ·rw [hfree] at hc;cases hc
 rcases hx with hk|hk
 ·refine wpAny_storeName_local hk hn (fun h' hn' hs=>?_) hcls
  obtain⟨oL,_,_,hoL,_⟩:=id hn
  refine h _ ⟨I.ok,I.os,I.bare,⟨fun b o e n hb hx=>?_,fun b o e n hb hx=>?_,I.base.free,fun b o e hx=>?_,I.base.tups,I.base.frzs,I.base.tbls⟩,⟨_,hn',fun j y v' e1 e2 e3=>?_⟩,fun y c e=>?_,I.free,I.freeC,fun p hp=>?_,tracked ⟨oL,hoL,I.free⟩ hs,by simpa using I.len⟩ ⟨_,hs,.inl rfl⟩
  ·exact(hs.2 b (Nat.ne_of_lt (Nat.lt_of_lt_of_le (Heap.lt_size e) I.ok.above))).trans (I.base.keep b o e n hb hx)
  ·obtain⟨sl,e1⟩:=I.base.slot b o e n hb hx
   exact⟨sl,(hs.2 b (Nat.ne_of_lt (Nat.lt_of_lt_of_le (Heap.lt_size e) I.ok.above))).trans e1⟩
  ·obtain⟨o',e1⟩:=I.base.there b o e hx
   exact⟨o',(hs.2 b (Nat.ne_of_lt (Nat.lt_of_lt_of_le (Heap.lt_size e) I.ok.above))).trans e1⟩
  ·by_cases hj:j=i
   ·subst hj
    rw [hi] at e1;cases e1
    rw [List.getElem?_set_self hiσ] at e2
    cases e2
    exact⟨u,r,.inl ⟨hk,by simp⟩⟩
   ·rw [List.getElem?_set_ne (Ne.symm hj)] at e2
    obtain⟨u',r',q⟩:=hl j y v' e1 e2 e3
    refine⟨u',r',?_⟩
    rcases q with ⟨k,e⟩|⟨k,c,e,z⟩
    ·refine .inl ⟨k,?_⟩
     have:y≠x:=fun e=>hj (mY hN e1 (e▸hi))
     simp [this,e]
    ·exact .inr ⟨k,c,e,z.sameBut hs (cne y c e)⟩
  ·obtain⟨w',z⟩:=I.cell y c e
   exact⟨w',z.sameBut hs (cne y c e)⟩
  ·obtain⟨e,n,ne,nf,d⟩:=I.pin p hp
   exact⟨(hs.2 p.1 ne).trans e,n,ne,nf,d⟩
 ·have hfn:X.fn x=true:=by
   rcases hf with z|z
   ·exact z
   ·rw [z] at hk;cases hk
  obtain⟨c,hc⟩:=I.ok.has x (.inl hk)
  obtain⟨w',z⟩:=I.cell x c hc
  refine wpAny_storeName_cell I.ok.kind hk hc z (fun h' hc' hs=>?_)
  obtain⟨oc,hoc,hocd⟩:=id z
  refine h { s with heap:=h' } ⟨I.ok,I.os,I.bare,⟨fun b o e n hb hx=>?_,fun b o e n hb hx=>?_,I.base.free,fun b o e hx=>?_,I.base.tups,I.base.frzs,I.base.tbls⟩,⟨m,hn.sameBut hs (Ne.symm (cne x c hc)),fun j y v' e1 e2 e3=>?_⟩,fun y c' e=>?_,I.free,I.freeC,fun p hp=>?_,tracked ⟨oc,hoc,I.freeC x c hc⟩ hs,by simpa using I.len⟩ ⟨c,hs,.inr hc⟩
  ·exact(hs.2 b (Nat.ne_of_lt (Nat.lt_of_lt_of_le (Heap.lt_size e) (I.ok.cab x c hfn hc)))).trans (I.base.keep b o e n hb hx)
  ·obtain⟨sl,e1⟩:=I.base.slot b o e n hb hx
   exact⟨sl,(hs.2 b (Nat.ne_of_lt (Nat.lt_of_lt_of_le (Heap.lt_size e) (I.ok.cab x c hfn hc)))).trans e1⟩
  ·obtain⟨o',e1⟩:=I.base.there b o e hx
   exact⟨o',(hs.2 b (Nat.ne_of_lt (Nat.lt_of_lt_of_le (Heap.lt_size e) (I.ok.cab x c hfn hc)))).trans e1⟩
  ·by_cases hj:j=i
   ·subst hj
    rw [hi] at e1;cases e1
    rw [List.getElem?_set_self hiσ] at e2
    cases e2
    exact⟨u,r,.inr ⟨.inl hk,c,hc,hc'⟩⟩
   ·rw [List.getElem?_set_ne (Ne.symm hj)] at e2
    obtain⟨u',r',q⟩:=hl j y v' e1 e2 e3
    refine⟨u',r',?_⟩
    rcases q with q|⟨k,c',e,z'⟩
    ·exact .inl q
    ·refine .inr ⟨k,c',e,z'.sameBut hs ?_⟩
     rintro rfl
     exact hj (mY hN e1 (I.ok.inj _ _ _ e hc▸hi))
  ·by_cases hcc:c'=c
   ·subst hcc;exact⟨_,hc'⟩
   ·obtain⟨w2,z2⟩:=I.cell y c' e
    exact⟨w2,z2.sameBut hs hcc⟩
  ·obtain⟨e,n,ne,nf,d⟩:=I.pin p hp
   refine⟨(hs.2 p.1 ?_).trans e,n,ne,nf,d⟩
   intro q
   rw [q,hoc] at e
   have q':oc=p.2:=Option.some.inj e
   exact d w' (by rw [<-q'];exact hocd)
theorem cM{M:Model}{A:Around}{E:Value->Shared->Prop}{i:Nat}{x:Str}{v:V}{u:Value}{Q:Unit->Shared->Prop}(I:Inv X pins σ H s)(hN:X.N.Nodup)(hi:X.N[i]?=some x)(hx:Loc X.env.scope x)(r:br v u)
  (h:∀s',Inv X pins (σ.set i (some v)) H s'->Q () s') (hf:X.fn x=true\/X.env.scope.names.lookup x=some .local:=by first|exact .inl rfl|exact .inr rfl|assumption):wpAny M A (storeName X.env x u) Q E s :=
 iy I hN hi hx r (fun s' I' _=>h s' I') hf
theorem Inv.call'{s':Shared}{ch:List Addr}(I:Inv X pins σ H s)(ho:s'.os=s.os)(u:Un (frs X.stack) ch H H' s.heap s'.heap)(hok:HOk X.prog X.w H' s'.heap)(hg:AllBare s'.gens)
  (hch:∀b∈ch,(b∈X.ex\/X.s₀.heap.objs.size<=b)/\b≠X.env.locals/\(∀x c,X.env.cells.lookup x=some c->c≠b)/\∀p∈X.pn++pins,p.1≠b):Inv X pins σ H' s':=by
 obtain⟨h',g',d',t',o'⟩:=s'
 have e:o'=s.os:=ho
 subst e
 exact I.call (g':=g') (t':=t') (d':=d') u hok hg hch
end
abbrev XK:=Value->Option Addr->Hp->Prop
abbrev St:=List (Option V)
abbrev VK:=V->Hp->Prop
abbrev TE:=St->Hp->VK->Prop
abbrev TT:=St->Hp->(Bool->Hp->Prop)->Prop
abbrev TA:=St->Hp->(List V->Hp->Prop)->Prop
structure fG where
 nx:St->Hp->Prop
 rt:VK
 bk:St->Hp->Prop:=fun _ _=>False
 ct:St->Hp->Prop:=fun _ _=>False
abbrev TS:=fG->St->Hp->Prop
def EP(X:Cx)(pins:List (Addr × Obj))(σ:St)(Q:VK)(u:Value)(s':Shared):Prop:=∃v H',Inv X pins σ H' s'/\br v u/\Q v H'
def TP(X:Cx)(pins:List (Addr × Obj))(σ:St)(Q:Bool->Hp->Prop)(b:Bool)(s':Shared):Prop:=∃H',Inv X pins σ H' s'/\Q b H'
def AP(X:Cx)(pins:List (Addr × Obj))(σ:St)(Q:List V->Hp->Prop)(us:List Value)(s':Shared):Prop:=∃vs H',Inv X pins σ H' s'/\bg vs us/\Q vs H'
def SP(X:Cx)(pins:List (Addr × Obj))(D:fG)(f:Flow)(s':Shared):Prop :=
 match f with
 |.next=>∃σ' H',Inv X pins σ' H' s'/\D.nx σ' H'
 |.brk=>∃σ' H',Inv X pins σ' H' s'/\D.bk σ' H'
 |.cont=>∃σ' H',Inv X pins σ' H' s'/\D.ct σ' H'
 |.ret u=>∃v σ' H',Inv X pins σ' H' s'/\br v u/\D.rt v H'
def PE(X:Cx)(e:Expr)(t:TE):Prop :=
 ∀(pins:List (Addr × Obj)) (s:Shared) (σ:St) (H:Hp) (Q:VK),Inv X pins σ H s->t σ H Q->wpAny (model X.prog X.w) X.A (eval e X.env) (EP X pins σ Q) X.xe s
def PT(X:Cx)(e:Expr)(t:TT):Prop :=
 ∀(pins:List (Addr × Obj)) (s:Shared) (σ:St) (H:Hp) (Q:Bool->Hp->Prop),Inv X pins σ H s->t σ H Q->wpAny (model X.prog X.w) X.A (isTrue e X.env (eval e X.env)) (TP X pins σ Q) X.xe s
def PW(X:Cx)(e:Expr)(t:TT):Prop :=
 ∀(whole:Sem Value) (pins:List (Addr × Obj)) (s:Shared) (σ:St) (H:Hp) (Q:Bool->Hp->Prop),Inv X pins σ H s->t σ H Q->wpAny (model X.prog X.w) X.A (isTrue e X.env whole) (TP X pins σ Q) X.xe s
theorem PW.pt{X:Cx}{e:Expr}{t:TT}(h:PW X e t):PT X e t:=h _
def PA(X:Cx)(es:List Expr)(t:TA):Prop :=
 ∀(pos:Pos) (pins:List (Addr × Obj)) (s:Shared) (σ:St) (H:Hp) (Q:List V->Hp->Prop),Inv X pins σ H s->t σ H Q->wpAny (model X.prog X.w) X.A (spliced (backTo pos (starEach es X.env))) (AP X pins σ Q) X.xe s
def PS(X:Cx)(st:Stmt)(t:TS):Prop :=
 ∀(pins:List (Addr × Obj)) (s:Shared) (σ:St) (H:Hp) (D:fG),Inv X pins σ H s->t D σ H->wpAny (model X.prog X.w) X.A (exec st X.env) (SP X pins D) X.xe s
def PSs(X:Cx)(st:List Stmt)(t:TS):Prop :=
 ∀(pins:List (Addr × Obj)) (s:Shared) (σ:St) (H:Hp) (D:fG),Inv X pins σ H s->t D σ H->wpAny (model X.prog X.w) X.A (execs st X.env) (SP X pins D) X.xe s
theorem thn{α:Type}{t:Sem α}{Q Q':α->Shared->Prop}{M:Model}{A:Around}{E:Value->Shared->Prop}{s:Shared}(h:wpAny M A t Q E s)(hQ:∀a s,Q a s->Q' a s):wpAny M A t Q' E s:=wpAny_mono h hQ fun _ _ x=>x
section
variable{X:Cx}
inductive Wi (i:Nat) (σ:St) (H:Hp) (Q:VK):Prop
 |mk (v:V) (h:σ[i]?=some (some v)) (q:Q v H)
def yJ(i:Nat):TE:=fun σ H Q=>Wi i σ H Q
def tC(v:V):TE:=fun _ H Q=>Q v H
theorem wz{i:Nat}{x:Str}{pos:Pos}(hN:X.N[i]?=some x)(hv:Vis X.env.scope x) (hd:(x==("__debug__":Str))=false:=by decide) (hcd:(x==("__classdict__":Str))=false:=by decide):PE X (.Name x pos) (yJ i):=by
 intro pins s σ H Q I h
 obtain⟨v,e,h⟩:=h
 obtain⟨m,hn,hl⟩:=I.loc
 obtain⟨u,r,l⟩:=hl i x v hN e hv
 have fin:EP X pins σ Q u s:=⟨v,H,I,r,h⟩
 rcases l with ⟨hk,hm⟩|⟨hk,c,hc,hcell⟩
 ·exact wpAny_Name (wpAny_loadName_local I.ok.kind hk hn hm fin) hd
 ·rcases hk with hk|hk
  ·exact wpAny_Name (wpAny_loadName_cell I.ok.kind hk hc hcell fin) hd
  ·exact wpAny_Name (wpAny_loadName_free I.ok.kind hk hc hcell fin hcd) hd
theorem ag{i j pos}:PE X (.Constant (.int i) j pos) (tC (.int i)):=fun _ _ _ H _ I h=>wpAny_Constant_int ⟨.int i,H,I.tok _,⟨_,rfl⟩,h⟩
theorem xw{b j pos}:PE X (.Constant (.bool b) j pos) (tC (.bl b)):=fun _ _ _ H _ I h=>Constant_bool ⟨.bl b,H,I,rfl,h⟩
theorem wx{j pos}:PE X (.Constant .none j pos) (tC .non):=fun _ _ _ H _ I h=>Constant_none ⟨.non,H,I,rfl,h⟩
theorem ai{x j pos}:PE X (.Constant (.str x) j pos) (tC (.str x)):=fun _ _ _ H _ I h=>Calls.Constant_str ⟨.str x,H,I.tok _,⟨_,rfl⟩,h⟩
def Gl(X:Cx)(x:Str):Prop:=X.env.kindOf x=some .globalImplicit
theorem gn{E:Value->Shared->Prop}{pins:List (Addr × Obj)}{s:Shared}{σ:St}{H:Hp}{x:Str}{u:Value}{pos:Pos}{Q:Value->Shared->Prop}(I:Inv X pins σ H s)(hg:Gl X x)(hm:X.mg x=some u)(h:Q u s)
  (hd:(x==("__debug__":Str))=false:=by decide):wpAny (model X.prog X.w) X.A (eval (.Name x pos) X.env) Q E s :=
 Calls.Name_function_global I.ok.kind hg (Calls.loadGlobal_global (by rw [I.ok.glob];exact I.mod.glob.keeps I.bk) hm h) hd
theorem nR{E:Value->Shared->Prop}{pins:List (Addr × Obj)}{s:Shared}{σ:St}{H:Hp}{x:Str}{u:Value}{pos:Pos}{Q:Value->Shared->Prop}(I:Inv X pins σ H s)(hg:Gl X x)(hm:X.mg x=none)(hv:bootBuiltins x=some u)(h:Q u s)
  (hn:x≠"__name__":=by decide) (hd:(x==("__debug__":Str))=false:=by decide):wpAny (model X.prog X.w) X.A (eval (.Name x pos) X.env) Q E s:=by
 obtain⟨mb,h1,h2⟩:=I.mod.blt
 exact Calls.Name_function_global I.ok.kind hg (Calls.loadGlobal_builtin (by rw [I.ok.glob];exact I.mod.glob.keeps I.bk) hm (by rw [I.ok.blt];exact h1.keeps I.bk) ((h2 x hn).trans hv) h) hd
theorem vf{x:Str}{v:V}{u:Value}{pos:Pos}(hg:Gl X x)(hm:X.mg x=some u)(r:br v u) (hd:(x==("__debug__":Str))=false:=by decide):PE X (.Name x pos) (tC v) :=
 fun _ _ _ H _ I h=>gn I hg hm ⟨v,H,I,r,h⟩ hd
variable{a b:Expr}{ta tb:TE}{pos:Pos}
def PC(X:Cx)(op:CmpOp)(a b:Expr)(t:TE):Prop :=
 ∀(pins:List (Addr × Obj)) (s:Shared) (σ:St) (H:Hp) (Q:VK),Inv X pins σ H s->t σ H Q ->
  wpAny (model X.prog X.w) X.A (eval a X.env) (fun v s₁=>wpAny (model X.prog X.w) X.A (eval b X.env) (fun u s₂=>wpAny (model X.prog X.w) X.A (compareOp op v u) (EP X pins σ Q) X.xe s₂) X.xe s₁) X.xe s
inductive Wb (x:V) (H:Hp) (Q:Bool->Hp->Prop):Prop
 |mk (c:Bool) (h:x=.bl c) (q:Q c H)
def tB(t:TE):TT:=fun σ H Q=>t σ H fun x H1=>Wb x H1 Q
theorem fN{op:CmpOp}{t:TE}(h:PC X op a b t)(h1:behindInMarks op b=false:=by first|exact nobehind _ (by decide) (by decide)|rfl):PT X (.Compare a [op] [b] pos) (tB t):=by
 intro pins s σ H Q I hw
 refine wpAny_isTrue_Compare1 (thn (h pins s σ H _ I hw) fun v s1 h1=>thn h1 fun u s2 h2=>thn h2 fun c s3 ⟨x,H1,I1,r1,q1⟩=>?_) h1
 obtain⟨d,rfl,q⟩:=q1
 cases r1
 exact wpAny_truthy_bool ⟨H1,I1,q⟩
theorem pt_val{e:Expr}{t:TE}(h:PE X e t)(he:∀whole,isTrue e X.env whole=(do let v <-whole;standAt e.pos;holding [v] (truthy v)):=by intro _;rfl):PT X e (tB t):=by
 intro pins s σ H Q I hw
 refine isTrue_plain (thn (h pins s σ H _ I hw) fun v s1 ⟨x,H1,I1,r1,q1⟩=>?_) (he _)
 obtain⟨d,rfl,q⟩:=q1
 cases r1
 exact wpAny_truthy_bool ⟨H1,I1,q⟩
variable{tA tB':TT}{rest:List Expr}
def zO(t u:TT):TT:=fun σ H Q=>t σ H fun c H1=>if c=true then u σ H1 Q else Q false H1
def tOr(t u:TT):TT:=fun σ H Q=>t σ H fun c H1=>if c=true then Q true H1 else u σ H1 Q
def zZ(t:TT):TT:=fun σ H Q=>t σ H fun c H1=>Q (!c) H1
theorem qw(ha:PT X a tA):PW X (.BoolOp .And [a] pos) tA:=by
 intro wh pins s σ H Q I h
 refine isTrue_and (thn (ha pins s σ H Q I h) fun c s1 e=>?_)
 cases c with
 |true=>exact isTrue_and_nil e
 |false=>exact e
theorem xh(ha:PT X a tA):PW X (.BoolOp .Or [a] pos) tA:=by
 intro wh pins s σ H Q I h
 refine isTrue_or (thn (ha pins s σ H Q I h) fun c s1 e=>?_)
 cases c with
 |false=>exact isTrue_or_nil e
 |true=>exact e
theorem t0(ha:PT X a tA)(hb:PW X (.BoolOp .And (b::rest) pos) tB'):PW X (.BoolOp .And (a::b::rest) pos) (zO tA tB'):=by
 intro wh pins s σ H Q I h
 refine isTrue_and (thn (ha pins s σ H _ I h) fun c s1 ⟨H1,I1,q1⟩=>?_)
 cases c with
 |true=>exact hb wh pins s1 σ H1 Q I1 q1
 |false=>exact⟨H1,I1,q1⟩
theorem wL(ha:PT X a tA)(hb:PW X (.BoolOp .Or (b::rest) pos) tB'):PW X (.BoolOp .Or (a::b::rest) pos) (tOr tA tB'):=by
 intro wh pins s σ H Q I h
 refine isTrue_or (thn (ha pins s σ H _ I h) fun c s1 ⟨H1,I1,q1⟩=>?_)
 cases c with
 |true=>exact⟨H1,I1,q1⟩
 |false=>exact hb wh pins s1 σ H1 Q I1 q1
theorem yc(ha:PT X a tA):PT X (.UnaryOp .Not a pos) (zZ tA):=by
 intro pins s σ H Q I h
 exact isTrue_not (ha pins s σ H (fun c H1=>Q (!c) H1) I h)
def zf(ta tb:TE):TE:=fun σ H Q=>ta σ H fun x H1=>∃c,x=.bl c/\if c=true then tb σ H1 Q else Q (.bl false) H1
def zV(ta tb:TE):TE:=fun σ H Q=>ta σ H fun x H1=>∃c,x=.bl c/\if c=true then Q (.bl true) H1 else tb σ H1 Q
theorem rg{op}{t:TE}(h:PE X a t):PE X (.BoolOp op [a] pos) t:=fun pins s σ H Q I hw=>BoolOp_one (h pins s σ H Q I hw)
theorem uH(ha:PE X a ta)(hb:PE X (.BoolOp .And (b::rest) pos) tb):PE X (.BoolOp .And (a::b::rest) pos) (zf ta tb):=by
 intro pins s σ H Q I h
 refine BoolOp_and (thn (ha pins s σ H _ I h) fun v s1 ⟨x,H1,I1,r1,q1⟩=>?_)
 obtain⟨c,rfl,q1⟩:=q1
 cases r1
 refine wpAny_truthy_bool ?_
 cases c with
 |true=>exact hb pins s1 σ H1 Q I1 q1
 |false=>exact⟨.bl false,H1,I1,rfl,q1⟩
theorem yQ(ha:PE X a ta)(hb:PE X (.BoolOp .Or (b::rest) pos) tb):PE X (.BoolOp .Or (a::b::rest) pos) (zV ta tb):=by
 intro pins s σ H Q I h
 refine BoolOp_or (thn (ha pins s σ H _ I h) fun v s1 ⟨x,H1,I1,r1,q1⟩=>?_)
 obtain⟨c,rfl,q1⟩:=q1
 cases r1
 refine wpAny_truthy_bool ?_
 cases c with
 |false=>exact hb pins s1 σ H1 Q I1 q1
 |true=>exact⟨.bl true,H1,I1,rfl,q1⟩
def tIf(t:TT)(ta tb:TE):TE:=fun σ H Q=>t σ H fun c H1=>if c=true then ta σ H1 Q else tb σ H1 Q
theorem jr{c:Expr}(hc:PT X c tA)(ha:PE X a ta)(hb:PE X b tb):PE X (.IfExp c a b pos) (tIf tA ta tb):=by
 intro pins s σ H Q I h
 refine wpAny_IfExp (thn (hc pins s σ H _ I h) fun d s1 ⟨H1,I1,q1⟩=>?_)
 cases d with
 |true=>exact ha pins s1 σ H1 Q I1 q1
 |false=>exact hb pins s1 σ H1 Q I1 q1
end
def SqL(K:W.Frag)(H:Hp)(a:Addr)(xs:List V):Prop :=
 Rd H a (.lst xs) \/
  ∃(o:Obj) (its:Array Value) (n:Nat),K.lookup a=some o/\o.cls=.type "list"/\o.dict=none/\o.data=.seq its n/\its.size<=sizeLine/\bg xs its.toList
def SqT(K:W.Frag)(H:Hp)(a:Addr)(xs:List V):Prop :=
 Rd H a (.tup xs) \/
  ∃(o:Obj) (its:Array Value) (n:Nat),K.lookup a=some o/\o.cls=.type "tuple"/\o.data=.seq its n/\its.size<=sizeLine/\bg xs its.toList
def Ab:Value->Option V
 |.none=>some .non
 |.bool b=>some (.bl b)
 |.int i _=>some (.int i)
 |.str x _=>some (.str x)
 |.bytes b _=>some (.byt b)
 |.float b _=>some (.flt b)
 |.ref a=>some (.ref a)
 |.type n=>some (.ty n)
 |_=>none
theorem br.abs{x:V}{u:Value}(r:br x u):Ab u=some x:=by
 cases x with
 |non=>cases r;rfl
 |bl _=>cases r;rfl
 |int _=>obtain⟨t,rfl⟩:=r;rfl
 |str _=>obtain⟨t,rfl⟩:=r;rfl
 |byt _=>obtain⟨t,rfl⟩:=r;rfl
 |flt _=>obtain⟨t,rfl⟩:=r;rfl
 |ref _=>cases r;rfl
 |ty _=>cases r;rfl
theorem br.inj{x y:V}{u:Value}(r:br x u)(q:br y u):x=y:=Option.some.inj (r.abs.symm.trans q.abs)
theorem bg.inj:∀{xs ys:List V} {us:List Value},bg xs us->bg ys us->xs=ys
 |_,_,_,.nil,.nil=>rfl
 |_,_,_,.cons r t,.cons r' t'=>by rw [r.inj r',bg.inj t t']
section
variable{X:Cx}{pins:List (Addr × Obj)}{σ:St}{H:Hp}{s:Shared}{a:Addr}{xs ys:List V}
theorem SqL.of{K:W.Frag}(h:H a=some (.lst xs)):SqL K H a xs:=.inl (.inl h)
theorem SqT.of{K:W.Frag}(h:H a=some (.tup xs)):SqT K H a xs:=.inl (.inl h)
theorem Inv.list(I:Inv X pins σ H s)(h:SqL X.K H a xs):∃its:List Value,bg xs its/\PlainL s.heap a its.toArray/\xs.length<=sizeLine:=by
 rcases h with h|⟨o,its,n,hk,hc,hd,hs,hz,r⟩
 ·obtain⟨z,its,n,r,e⟩:=h.ok I.hok
  exact⟨its,r,⟨_,n,e,rfl,rfl,rfl⟩,z⟩
 ·refine⟨its.toList,r,⟨o,n,I.kIn a o hk,hc,hd,by simpa using hs⟩,?_⟩
  have e:=r.length
  simp only [Array.length_toList] at e
  omega
theorem Inv.tuple(I:Inv X pins σ H s)(h:SqT X.K H a xs):∃its:List Value,bg xs its/\IsTup s.heap a its.toArray/\xs.length<=sizeLine:=by
 rcases h with h|⟨o,its,n,hk,hc,hs,hz,r⟩
 ·obtain⟨z,its,r,p⟩:=h.ok I.hok
  exact⟨its,r,p,z⟩
 ·refine⟨its.toList,r,⟨o,I.kIn a o hk,hc,n,by simpa using hs⟩,?_⟩
  have e:=r.length
  simp only [Array.length_toList] at e
  omega
theorem Inv.list_inj(I:Inv X pins σ H s)(h:SqL X.K H a xs)(h':SqL X.K H a ys):xs=ys:=by
 obtain⟨its,r,⟨o,n,e,_,_,d⟩,_⟩:=I.list h
 obtain⟨its',r',⟨o',n',e',_,_,d'⟩,_⟩:=I.list h'
 rw [e] at e';cases e'
 rw [d] at d'
 injection d' with d1 _
 have:its=its':=by simpa using congrArg Array.toList d1
 subst this
 exact r.inj r'
theorem Inv.tuple_inj(I:Inv X pins σ H s)(h:SqT X.K H a xs)(h':SqT X.K H a ys):xs=ys:=by
 obtain⟨its,r,⟨o,e,_,n,d⟩,_⟩:=I.tuple h
 obtain⟨its',r',⟨o',e',_,n',d'⟩,_⟩:=I.tuple h'
 rw [e] at e';cases e'
 rw [d] at d'
 injection d' with d1 _
 have:its=its':=by simpa using congrArg Array.toList d1
 subst this
 exact r.inj r'
end
abbrev Cx.wish(X:Cx)(E:Value->Shared->Prop):Cx:={ X with xe:=E }
abbrev Cx.nox(X:Cx):Cx:=X.wish fun _ _=>False
theorem Cx.Ok.wish{X:Cx}(ok:X.Ok)(E:Value->Shared->Prop):(X.wish E).Ok :=
 ⟨ok.mod,ok.kind,ok.glob,ok.blt,ok.above,ok.inj,ok.has,ok.cab,ok.hd,ok.frames,ok.stk,ok.exf,ok.bs,ok.bsz,ok.noex,ok.exfs,ok.funs,ok.frf⟩
theorem Cx.Ok.unwish{X:Cx}{E:Value->Shared->Prop}(ok:(X.wish E).Ok):X.Ok :=
 ⟨ok.mod,ok.kind,ok.glob,ok.blt,ok.above,ok.inj,ok.has,ok.cab,ok.hd,ok.frames,ok.stk,ok.exf,ok.bs,ok.bsz,ok.noex,ok.exfs,ok.funs,ok.frf⟩
section
variable{X:Cx}{pins:List (Addr × Obj)}{σ:St}{H:Hp}{s:Shared}{E:Value->Shared->Prop}
theorem Inv.wish(I:Inv X pins σ H s)(E:Value->Shared->Prop):Inv (X.wish E) pins σ H s:=⟨I.ok.wish E,I.os,I.bare,I.base,I.loc,I.cell,I.free,I.freeC,I.pin,I.hok,I.len⟩
theorem Inv.unwish(I:Inv (X.wish E) pins σ H s):Inv X pins σ H s:=⟨I.ok.unwish,I.os,I.bare,I.base,I.loc,I.cell,I.free,I.freeC,I.pin,I.hok,I.len⟩
theorem SP.unwish{D:fG}{f:Flow}{s':Shared}(h:SP (X.wish E) pins D f s'):SP X pins D f s':=by
 cases f with
 |next=>obtain⟨σ',H',I,q⟩:=h;exact⟨σ',H',I.unwish,q⟩
 |brk=>obtain⟨σ',H',I,q⟩:=h;exact⟨σ',H',I.unwish,q⟩
 |cont=>obtain⟨σ',H',I,q⟩:=h;exact⟨σ',H',I.unwish,q⟩
 |ret u=>obtain⟨v,σ',H',I,r,q⟩:=h;exact⟨v,σ',H',I.unwish,r,q⟩
theorem PSs.nox{st:List Stmt}{t:TS}(h:PSs X.nox st t):PSs X st t:=fun pins s σ H D I hw =>
 wpAny_mono (h pins s σ H D (I.wish _) hw) (fun _ _ q=>q.unwish) fun _ _ z=>False.elim z
end
section
variable{X:Cx}{st:Stmt}{rest:List Stmt}{t u:TS}{e:Expr}{te:TE}{pos:Pos}
def yo:TS:=fun D σ H=>D.nx σ H
def zm(t u:TS):TS:=fun D σ H=>t { D with nx:=u D } σ H
theorem aI:PSs X [] yo:=fun _ _ σ H _ I h=>wpAny_execs_nil ⟨σ,H,I,h⟩
theorem ah(h1:PS X st t)(h2:PSs X rest u):PSs X (st::rest) (zm t u):=by
 intro pins s σ H D I h
 refine wpAny_execs_cons (thn (h1 pins s σ H { D with nx:=u D } I h) fun f s1 q=>?_)
 cases f with
 |next =>
  obtain⟨σ',H',I',q⟩:=q
  exact h2 pins s1 σ' H' D I' q
 |ret v=>exact q
 |brk=>exact q
 |cont=>exact q
theorem ao(h1:PS X st t):PSs X [st] t:=by
 intro pins s σ H D I h
 refine wpAny_execs_cons (thn (h1 pins s σ H D I h) fun f s1 q=>?_)
 cases f with
 |next=>exact wpAny_execs_nil q
 |ret v=>exact q
 |brk=>exact q
 |cont=>exact q
theorem Inv.quiet{pins:List (Addr × Obj)}{σ:St}{H:Hp}{s:Shared}(I:Inv X pins σ H s):interactive X.env=false:=by simp [interactive,I.ok.kind]
def ze(te:TE):TS:=fun D σ H=>te σ H fun _ H1=>D.nx σ H1
theorem aO(he:PE X e te)(hs:swapsWith e none pos.line X.env=pure false:=by rfl):PS X (.Expr e pos) (ze te):=by
 intro pins s σ H D I h
 exact wpAny_Expr_any (thn (he pins s σ H _ I h) fun v s1 ⟨x,H1,I1,r1,q1⟩=>⟨σ,H1,I1,q1⟩) I.quiet hs
def Ai(te:TE):TS:=fun D σ H=>te σ H D.rt
theorem aM(he:PE X e te):PS X (.Return (some e) pos) (Ai te):=by
 intro pins s σ H D I h
 exact wpAny_Return_some (thn (he pins s σ H _ I h) fun v s1 ⟨x,H1,I1,r1,q1⟩=>⟨x,σ,H1,I1,r1,q1⟩)
def AD(c:TT)(t u:TS):TS:=fun D σ H=>c σ H fun b H1=>if b=true then t D σ H1 else u D σ H1
theorem bc{c:Expr}{a b:List Stmt}{tc:TT}(hc:PT X c tc)(ha:PSs X a t)(hb:PSs X b u):PS X (.If c a b pos) (AD tc t u):=by
 intro pins s σ H D I h
 refine wpAny_If (thn (hc pins s σ H _ I h) fun d s1 ⟨H1,I1,q1⟩=>?_)
 cases d with
 |true=>exact ha pins s1 σ H1 D I1 q1
 |false=>exact hb pins s1 σ H1 D I1 q1
end
abbrev TG:=V->St->Hp->(St->Hp->Prop)->Prop
abbrev TGs:=List V->St->Hp->(St->Hp->Prop)->Prop
def PG(X:Cx)(target:Expr)(t:TG):Prop :=
 ∀(pins:List (Addr × Obj)) (s:Shared) (σ:St) (H:Hp) (v:V) (u:Value) (Q:St->Hp->Prop),Inv X pins σ H s->br v u->t v σ H Q ->
  wpAny (model X.prog X.w) X.A (assign target X.env u) (fun _ s'=>∃σ' H',Inv X pins σ' H' s'/\Q σ' H') X.xe s
def PGs(X:Cx)(ts:List Expr)(t:TGs):Prop :=
 ∀(pins:List (Addr × Obj)) (s:Shared) (σ:St) (H:Hp) (vs:List V) (us:List Value) (Q:St->Hp->Prop),Inv X pins σ H s->bg vs us->t vs σ H Q ->
  wpAny (model X.prog X.w) X.A (assignInOrder ((assignEach ts X.env).map (·.2)) us) (fun _ s'=>∃σ' H',Inv X pins σ' H' s'/\Q σ' H') X.xe s
abbrev yz:=V->V->V->Hp->(Hp->Prop)->Prop
def zp(X:Cx)(t:yz):Prop :=
 ∀(pins:List (Addr × Obj)) (s:Shared) (σ:St) (H:Hp) (o i v:V) (ov iv u:Value) (Q:Hp->Prop),Inv X pins σ H s->br o ov->br i iv->br v u->t o i v H Q ->
  wpAny (model X.prog X.w) X.A (setItem ov iv u) (fun _ s'=>∃H',Inv X pins σ H' s'/\Q H') X.xe s
abbrev TIp:=V->V->Hp->VK->Prop
def PIp(X:Cx)(op:Operator)(t:TIp):Prop :=
 ∀(pins:List (Addr × Obj)) (s:Shared) (σ:St) (H:Hp) (x y:V) (v u:Value) (Q:VK),Inv X pins σ H s->br x v->br y u->t x y H Q ->
  wpAny (model X.prog X.w) X.A (inplaceOp op v u) (EP X pins σ Q) X.xe s
section
variable{X:Cx}{pos:Pos}
def fJ(i:Nat):TG:=fun v σ H Q=>Q (σ.set i (some v)) H
theorem aY{i:Nat}{x:Str}(hN:X.N.Nodup)(hi:X.N[i]?=some x)(hx:Loc X.env.scope x)(hf:X.fn x=true\/X.env.scope.names.lookup x=some .local:=by first|exact .inl rfl|exact .inr rfl|assumption):PG X (.Name x pos) (fJ i):=by
 intro pins s σ H v u Q I r h
 exact wpAny_assign_Name (cM I hN hi hx r (fun s' I'=>⟨_,H,I',h⟩) hf)
def yC:TGs:=fun vs σ H Q=>vs=[]/\Q σ H
inductive Wc (t:TG) (u:TGs) (vs:List V) (σ:St) (H:Hp) (Q:St->Hp->Prop):Prop
 |mk (v:V) (r:List V) (h:vs=v::r) (q:t v σ H fun σ' H'=>u r σ' H' Q)
def qR(t:TG)(u:TGs):TGs:=fun vs σ H Q=>Wc t u vs σ H Q
theorem dG:PGs X [] yC:=by
 intro pins s σ H vs us Q I r h
 obtain⟨e,h⟩:=h
 subst e
 cases r
 exact assignInOrder_nil ⟨σ,H,I,h⟩
theorem aU{e:Expr}{es:List Expr}{t:TG}{u:TGs}(h1:PG X e t)(h2:PGs X es u)
  (hs:(assignEach (e::es) X.env).map (·.2)=assign e X.env::(assignEach es X.env).map (·.2):=by rfl):PGs X (e::es) (qR t u):=by
 intro pins s σ H vs us Q I r h
 obtain⟨v,vr,e1,h⟩:=h
 subst e1
 cases r with
 |cons r rr =>
  rw [hs]
  refine assignInOrder_cons (thn (h1 pins s σ H _ _ _ I r h) fun _ s1 ⟨σ1,H1,I1,q1⟩=>?_)
  exact h2 pins s1 σ1 H1 _ _ Q I1 rr q1
def zk(K:W.Frag)(n:Nat)(t:TGs):TG:=fun v σ H Q=>∃a xs,v=.ref a/\SqT K H a xs/\xs.length=n/\t xs σ H Q
theorem eT{es:List Expr}{k:Nat}{t:TGs}{n:Nat}(hc:X.calm=true)(h:PGs X es t)
  (hn:(assignEach es X.env).length=n:=by rfl) (hst:(assignEach es X.env).findIdx? (·.1)=none:=by rfl):PG X (.Tuple es k pos) (zk X.K n t):=by
 intro pins s σ H v u Q I r hw
 obtain⟨a,xs,e1,hq,hl,hw⟩:=hw
 subst e1
 cases r
 obtain⟨its,rv,ht,hz⟩:=I.tuple hq
 refine assign_Tuple_tuple (I.ok.hd hc) ht (by simp [hn,<-hl,rv.length]) hst fun h' hx=>?_
 have I1:Inv X pins σ H { s with heap:=h' }:=I.kept (t':=s.toks) fun b o e=>hx b o (Nat.ne_of_lt (Heap.lt_size e)) e
 exact h pins _ σ H xs _ Q I1 (by simpa using rv) hw
def Ay(to ti:TE)(t:yz):TG:=fun v σ H Q=>to σ H fun o H1=>ti σ H1 fun i H2=>t o i v H2 fun H3=>Q σ H3
theorem qZ{o i:Expr}{to ti:TE}{t:yz}(ho:PE X o to)(hi:PE X i ti)(hs:zp X t)
  (ha:∀v,assign (.Subscript o i pos) X.env v=(do
   let ov <-holding [v] (eval o X.env)
   let iv <-holding [v,ov] (eval i X.env)
   standAt pos
   holding [v,ov,iv] (setItem ov iv v)
   release [v,ov,iv] []):=by intro _;rfl):PG X (.Subscript o i pos) (Ay to ti t):=by
 intro pins s σ H v u Q I r h
 rw [ha]
 refine wpAny_bind (wpAny_holding (thn (ho pins s σ H _ I h) fun ov s1 ⟨x,H1,I1,r1,q1⟩=>?_))
 refine wpAny_bind (wpAny_holding (thn (hi pins s1 σ H1 _ I1 q1) fun iv s2 ⟨y,H2,I2,r2,q2⟩=>?_))
 refine wpAny_bind (wpAny_standAt (wpAny_bind (wpAny_holding (thn (hs pins s2 σ H2 x y v ov iv u _ I2 r1 r2 r q2) fun _ s3 ⟨H3,I3,q3⟩=>?_))))
 exact wpAny_release ⟨σ,H3,I3,q3⟩
def vV(te:TE)(g:TG):TS:=fun D σ H=>te σ H fun x H1=>g x σ H1 D.nx
theorem jh{tg e:Expr}{te:TE}{g:TG}(he:PE X e te)(hg:PG X tg g)(hs:swapsWithSole [tg] e pos.line X.env=pure false:=by rfl)(hw:swappedStores [tg] e X.env=pure none:=by rfl)
  (h1:(assignEach [tg] X.env).map (·.2)=[assign tg X.env]:=by rfl):PS X (.Assign [tg] e pos) (vV te g):=by
 intro pins s σ H D I h
 refine wpAny_Assign_stores (thn (he pins s σ H _ I h) fun v s1 ⟨x,H1,I1,r1,q1⟩=>?_) hs hw
 rw [h1]
 exact thn (hg pins s1 σ H1 x v _ I1 r1 q1) fun _ s2 q=>q
theorem ay{i:Nat}{x:Str}{e:Expr}{te:TE}{pos':Pos}(hN:X.N.Nodup)(hi:X.N[i]?=some x)(hx:Loc X.env.scope x)(he:PE X e te)(hs:swapsWith e (some (.Name x pos')) pos.line X.env=pure false:=by rfl)(hf:X.fn x=true\/X.env.scope.names.lookup x=some .local:=by first|exact .inl rfl|exact .inr rfl|assumption) :
  PS X (.Assign [.Name x pos'] e pos) (vV te (fJ i)):=by
 intro pins s σ H D I h
 refine wpAny_Assign_Name (thn (he pins s σ H _ I h) fun v s1 ⟨y,H1,I1,r1,q1⟩=>?_) hs
 exact cM I1 hN hi hx r1 (fun s2 I2=>⟨_,H1,I2,q1⟩) hf
def Ae(i j:Nat)(ta:TA):TS:=fun D σ H=>ta σ H fun vs H1=>∃v w,vs=[v,w]/\D.nx ((σ.set i (some v)).set j (some w)) H1
theorem wu{i j:Nat}{x y:Str}{a b:Expr}{ta:TA}{px py pt:Pos}{kt k2 pt2}(hc:X.calm=true)(hN:X.N.Nodup)(hi:X.N[i]?=some x)(hj:X.N[j]?=some y)(hij:i≠j)
  (hx:X.env.scope.names.lookup x=some .local) (hy:X.env.scope.names.lookup y=some .local) (ha:PA X [a,b] ta)
  (hw:swappedStores [.Tuple [.Name x px,.Name y py] kt pt] (.Tuple [a,b] k2 pt2) X.env=pure (some [x,y]))
  (hs:swapsWithSole [.Tuple [.Name x px,.Name y py] kt pt] (.Tuple [a,b] k2 pt2) pos.line X.env=pure false:=by rfl) :
  PS X (.Assign [.Tuple [.Name x px,.Name y py] kt pt] (.Tuple [a,b] k2 pt2) pos) (Ae i j ta):=by
 intro pins s σ H D I h
 rw [exec_Assign_arm]
 refine wpAny_bind (wpAny_standAt ?_)
 rw [hs]
 refine wpAny_bind (wpAny_pure ?_)
 rw [if_neg (by decide)]
 refine wpAny_bind (Tuple_ (thn (ha _ pins s σ H _ I h) fun us s1 ⟨vs,H1,I1,r1,q1⟩=>?_))
 obtain⟨v,w,e1,q1⟩:=q1
 subst e1
 obtain⟨u1,u2,rfl,rv,rw'⟩:∃u1 u2,us=[u1,u2]/\br v u1/\br w u2:=by
  cases r1 with
  |cons p q =>
   cases q with
   |cons p' q' =>
    cases q'
    exact⟨_,_,rfl,p,p'⟩
 refine wpAny_newObj_type ?_ (by show 2<=sizeLine;decide)
 have I2:Inv X pins σ H1 { s1 with heap:=s1.heap.push { cls:=.type "tuple",data:=.seq [u1,u2].toArray } }:=I1.kept (t':=s1.toks) fun b o e=>Heap.get?_push_of_some _ e
 rw [hw]
 refine wpAny_bind (wpAny_pure ?_)
 show wpAny (model X.prog X.w) X.A (do rule "assign.swapped-stores";let items <-unpackItems (.ref s1.heap.objs.size) 2 none;assignInOrder [fun v=>bindName X.env y v,fun v=>bindName X.env x v] items.reverse;pure Flow.next) _ _ _
 refine wpAny_bind (wpAny_rule (wpAny_bind (unpackItems_tuple (items:=#[u1,u2]) (I.ok.hd hc) (IsTup.new s1.heap _) fun h' hx'=>?_)))
 have I3:=I2.kept (h':=h') (t':=s1.toks) fun b o e=>hx' b o (Nat.ne_of_lt (Heap.lt_size e)) e
 show wpAny _ _ (assignInOrder [fun v=>bindName X.env y v,fun v=>bindName X.env x v] [u2,u1] >>= fun _=>pure Flow.next) _ _ _
 refine wpAny_bind (assignInOrder_cons (wpAny_bindName (cM I3 hN hj (.inl hy) rw' (fun s2 I4=>?_) (.inr hy))))
 refine assignInOrder_cons (wpAny_bindName (cM I4 hN hi (.inl hx) rv (fun s3 I5=>assignInOrder_nil (wpAny_pure ?_)) (.inr hx)))
 rw [List.set_comm _ _ (Ne.symm hij)] at I5
 exact⟨_,H1,I5,q1⟩
def zP(i:Nat)(te:TE)(ti:TIp):TS:=fun D σ H=>∃x,σ[i]?=some (some x)/\te σ H fun y H1=>ti x y H1 fun z H2=>D.nx (σ.set i (some z)) H2
theorem uu{i:Nat}{x:Str}{e:Expr}{te:TE}{op:Operator}{ti:TIp}{pos':Pos}(hN:X.N.Nodup)(hi:X.N[i]?=some x)(hx:Loc X.env.scope x)(he:PE X e te)(ho:PIp X op ti)(hf:X.fn x=true\/X.env.scope.names.lookup x=some .local:=by first|exact .inl rfl|exact .inr rfl|assumption) :
  PS X (.AugAssign (.Name x pos') op e pos) (zP i te ti):=by
 intro pins s σ H D I h
 obtain⟨v,e1,h⟩:=h
 obtain⟨m,hn,hl⟩:=I.loc
 have vis:Vis X.env.scope x:=by rcases hx with k|k;exact .inl k;exact .inr (.inl k)
 obtain⟨u,r,l⟩:=hl i x v hi e1 vis
 refine wpAny_AugAssign_Name ?_
 have go:wpAny (model X.prog X.w) X.A (eval e X.env) (fun w s₂=>wpAny (model X.prog X.w) X.A (inplaceOp op u w) (fun r s₃=>wpAny (model X.prog X.w) X.A (storeName X.env x r) (fun _=>SP X pins D .next) X.xe s₃) X.xe s₂) X.xe s:=by
  refine thn (he pins s σ H _ I h) fun w s1 ⟨y,H1,I1,r1,q1⟩=>?_
  refine thn (ho pins s1 σ H1 v y u w _ I1 r r1 q1) fun z s2 ⟨zv,H2,I2,r2,q2⟩=>?_
  exact cM I2 hN hi hx r2 (fun s3 I3=>⟨_,H2,I3,q2⟩) hf
 rcases l with ⟨hk,hm⟩|⟨hk,c,hc,hcell⟩
 ·exact wpAny_loadName_local I.ok.kind hk hn hm go
 ·rcases hk with hk|hk
  ·exact wpAny_loadName_cell I.ok.kind hk hc hcell go
  ·rcases hx with k|k
   ·have:X.env.scope.names.lookup x=some .free:=hk
    rw [k] at this;cases this
   ·have:X.env.scope.names.lookup x=some .free:=hk
    rw [k] at this;cases this
def ipI(f:Int->Int->Int):TIp:=fun x y H Q=>∃i j,x=.int i/\y=.int j/\Q (.int (f i j)) H
theorem uf:PIp X .Add (ipI fun i j=>i+j):=by
 intro pins s σ H x y v u Q I r1 r2 h
 obtain⟨i,j,e1,e2,q⟩:=h
 subst e1;subst e2
 obtain⟨t,rfl⟩:=r1
 obtain⟨t',rfl⟩:=r2
 exact iadd_int ⟨.int _,H,I.tok _,⟨_,rfl⟩,q⟩
def pK(c:TT)(tb:TS):TS:=fun D σ H=>∃W:Nat->St->Hp->Prop,(∃m,W m σ H)/\∀m σ H,W m σ H ->
 c σ H fun b H1=>if b=true then ∃N:St->Hp->Prop,(∀σ' H',N σ' H'->∃m',m' < m/\W m' σ' H')/\tb { D with nx:=N,ct:=N,bk:=D.nx } σ H1 else D.nx σ H1
theorem jB{c:Expr}{body:List Stmt}{tc:TT}{tb:TS}(hp:PassesOwn (model X.prog X.w) X.A X.env X.xe)(hc:PT X c tc)(hb:PSs X body tb):PS X (.While c body [] pos) (pK tc tb):=by
 intro pins s σ H D I h
 obtain⟨W,⟨m0,w0⟩,turn⟩:=h
 refine wpAny_While (codeAny_whileLoop (fun n s'=>∃σ' H',Inv X pins σ' H' s'/\W n σ' H') ?_ m0 ⟨σ,H,I,w0⟩)
 rintro n s1 ⟨σ1,H1,I1,w1⟩
 refine wpAny_passesOwn hp (thn (hc pins s1 σ1 H1 _ I1 (turn n σ1 H1 w1)) fun b s2 ⟨H2,I2,q2⟩=>?_)
 cases b with
 |true =>
  obtain⟨N,hN,q2⟩:=q2
  rw [if_pos rfl]
  refine wpAny_passesOwn hp (thn (hb pins s2 σ1 H2 _ I2 q2) fun f s3 q3=>?_)
  cases f with
  |next =>
   obtain⟨σ3,H3,I3,n3⟩:=q3
   obtain⟨m',hm,w3⟩:=hN σ3 H3 n3
   exact⟨m',hm,σ3,H3,I3,w3⟩
  |cont =>
   obtain⟨σ3,H3,I3,n3⟩:=q3
   obtain⟨m',hm,w3⟩:=hN σ3 H3 n3
   exact⟨m',hm,σ3,H3,I3,w3⟩
  |brk=>exact q3
  |ret v=>exact q3
 |false =>
  rw [if_neg Bool.false_ne_true]
  exact wpAny_execs_nil ⟨σ1,H2,I2,q2⟩
end
structure It where
 go:Nat->Hp->Prop
 yld:Nat->Hp->V->Hp->Prop
 stop:Nat->Hp->Prop
def lc(X:Cx)(pins:List (Addr × Obj))(H:Hp)(b:Addr):Prop :=
 H b=none/\b≠X.env.locals/\b∉X.fs/\(b∈X.ex\/X.s₀.heap.objs.size<=b)/\(∀x c,X.env.cells.lookup x=some c->c≠b)/\∀p∈X.pn++pins,p.1≠b
theorem Inv.fpOk{X:Cx}{pins:List (Addr × Obj)}{σ:St}{H H':Hp}{s:Shared}{b:Addr}(I:Inv X pins σ H s)(hb:s.heap.objs.size<=b)(hn:H' b=none):lc X pins H' b:=by
 refine⟨hn,Nat.ne_of_gt (Nat.lt_of_lt_of_le I.lt hb),I.nofs hb,.inr (Nat.le_trans I.sz hb),fun x c e z=>?_,fun p hp z=>?_⟩
 ·obtain⟨v,q⟩:=I.cell x c e
  exact absurd (Nat.lt_of_lt_of_le q.lt (by rw [z];exact hb)) (Nat.lt_irrefl _)
 ·exact absurd (Nat.lt_of_lt_of_le (Heap.lt_size (I.pin p hp).1) (by rw [z];exact hb)) (Nat.lt_irrefl _)
structure vK(P:Program)(w:World)(K:W.Frag)(tg:Expr)(J:It)(fp:List Addr)(it:Addr)(tn:Nat->Heap->Prop):Prop where
 mem:it∈fp
 obj:∀i h,tn i h->∀b∈fp,∃o,h.get? b=some o/\∀v,o.data≠.cell v
 keep:∀i h h',tn i h->(∀b∈fp,∀o,h.get? b=some o->h'.get? b=some o)->tn i h'
 item:∀(X:Cx),X.prog=P->X.w=w->X.K=K->X.calm=true->∀(i:Nat) (pins:List (Addr × Obj)) (s:Shared) (σ:St) (H:Hp) (E:Value->Shared->Prop),Inv X pins σ H s->(∀b∈fp,lc X pins H b)->tn i s.heap->J.go i H ->
  wpAny (model P w) X.A (pyNext (.ref it)) (fun r s1=>∃u,r=some u /\
   wpAny (model P w) X.A (letOwnedTupleGo tg (.ref it) u) (fun _ s2=>∃x H',Inv X pins σ H' s2/\br x u/\J.yld i H x H'/\tn (i+1) s2.heap/\∀b∈fp,H' b=none) E s1) E s
 done:∀(X:Cx),X.prog=P->X.w=w->X.K=K->X.calm=true->∀(i:Nat) (pins:List (Addr × Obj)) (s:Shared) (σ:St) (H:Hp) (E:Value->Shared->Prop),Inv X pins σ H s->(∀b∈fp,lc X pins H b)->tn i s.heap->J.stop i H ->
  wpAny (model P w) X.A (pyNext (.ref it)) (fun r s1=>r=none/\Inv X pins σ H s1) E s
 self:∀(A:Around) (i:Nat) (s:Shared) (Q:Value->Shared->Prop) (E:Value->Shared->Prop),tn i s.heap->Q (.ref it) s->wpAny (model P w) A (pyIter (.ref it)) Q E s
abbrev TI:=St->Hp->(It->Hp->Prop)->Prop
def PIE(X:Cx)(pins:List (Addr × Obj))(σ:St)(tg:Expr)(R:It->Hp->Prop)(itv:Value)(s2:Shared):Prop :=
 ∃(it:Addr) (fp:List Addr) (tn:Nat->Heap->Prop) (J:It) (H':Hp),itv=.ref it/\Inv X pins σ H' s2/\vK X.prog X.w X.K tg J fp it tn/\tn 0 s2.heap/\(∀b∈fp,lc X pins H' b)/\R J H'
def PI(X:Cx)(tg iter:Expr)(wi:TI):Prop :=
 ∀(pins:List (Addr × Obj)) (s:Shared) (σ:St) (H:Hp) (R:It->Hp->Prop),Inv X pins σ H s->wi σ H R ->
  wpAny (model X.prog X.w) X.A (eval iter X.env) (fun v s1=>wpAny (model X.prog X.w) X.A (pyIter v) (PIE X pins σ tg R) X.xe s1) X.xe s
theorem tm{M:Model}{A:Around}{E:Value->Shared->Prop}{s:Shared}{tg:Expr}{it:Addr}{u:Value}{o:Obj}{n:String}{vs:Array Value}{Q:Unit->Shared->Prop}(ho:s.heap.get? it=some o)(hc:o.cls=.type n)(hd:o.data=.fields vs)
    (hn:["enumerate","zip","dict_itemiterator","dict_reverseitemiterator","odict_iterator","itertools.zip_longest","itertools.pairwise"].contains n=false) (hQ:Q () s):wpAny M A (letOwnedTupleGo tg (.ref it) u) Q E s:=by
  unfold letOwnedTupleGo
  cases tg<;>first
    | exact wpAny_pure hQ
    | (cases u<;>first
        | exact wpAny_pure hQ
        | (refine wpAny_bind (wpAny_load ho ?_)
           rw [hc,hd]
           show wpAny M A (if (["enumerate","zip","dict_itemiterator","dict_reverseitemiterator","odict_iterator","itertools.zip_longest","itertools.pairwise"].contains n&&vs[0]?==some (rawInt _))=true then _ else _) Q E s
           rw [if_neg (by intro h;rw [hn,Bool.false_and] at h;cases h)]
           exact wpAny_pure hQ))
def Itl(K:W.Frag)(a:Addr):It :=
 ⟨fun i H=>∃xs x,SqL K H a xs/\xs[i]?=some x,fun i H x H'=>H'=H/\∀xs,SqL K H a xs->xs[i]?=some x,fun i H=>∃xs,SqL K H a xs/\xs.length<=i⟩
def Itt(K:W.Frag)(a:Addr):It :=
 ⟨fun i H=>∃xs x,SqT K H a xs/\xs[i]?=some x,fun i H x H'=>H'=H/\∀xs,SqT K H a xs->xs[i]?=some x,fun i H=>∃xs,SqT K H a xs/\xs.length<=i⟩
def Itr(lo:Int)(n:Nat):It:=⟨fun i _=>i < n,fun i H x H'=>H'=H/\x=.int (lo+i),fun i _=>n<=i⟩
theorem rF{P:Program}{w:World}{K:W.Frag}{tg:Expr}(a it:Addr):vK P w K tg (Itl K a) [it] it (fun i h=>h.IsListIter it a i) where
 mem:=by simp
 obj:=fun i h st b hb=>by
  have e:b=it:=by simpa using hb
  subst e
  obtain⟨o,e,c,d⟩:=st
  exact⟨o,e,fun v z=>by rw [d] at z;cases z⟩
 keep:=fun i h h' st k=>st.at fun o e=>k it (by simp) o e
 item:=by
  intro X hP hw hK hc i pins s σ H E I hf st hg
  subst hP hw hK
  obtain⟨xs,x,hq,hx⟩:=hg
  obtain⟨its,rv,p,hz⟩:=I.list hq
  obtain⟨u,hu,ru⟩:=rv.get hx
  obtain⟨f0,f1,f2,f3,f4,f5⟩:=hf it (by simp)
  refine wpAny_pyNext_list_item st p.isList (x:=u) (by simpa using hu) fun h' st' sb=>?_
  have I1:Inv X pins σ H { s with heap:=h' }:=I.turned (t':=s.toks) (fun b o hb e=>(sb.2 b hb).trans e) f0 f1 f3 f4 f5
  obtain⟨o,e,c,d⟩:=id st'
  exact⟨u,rfl,tm (s:={ s with heap:=h' }) e c d (by decide) ⟨x,H,I1,ru,⟨rfl,fun ys hy=>by rw [I.list_inj hy hq];exact hx⟩,st',fun b hb=>(hf b hb).1⟩⟩
 done:=by
  intro X hP hw hK hc i pins s σ H E I hf st hg
  subst hP hw hK
  obtain⟨xs,hq,hx⟩:=hg
  obtain⟨its,rv,p,hz⟩:=I.list hq
  obtain⟨f0,f1,f2,f3,f4,f5⟩:=hf it (by simp)
  have hl:=rv.length
  exact wpAny_pyNext_list_end (I.ok.hd hc) st p.isList (by simp;omega) fun h' eb=>⟨rfl,I.turned (t':=s.toks) (fun b o hb e=>eb b o hb e) f0 f1 f3 f4 f5⟩
 self:=fun _ _ _ _ _ st h=>wpAny_pyIter_listiter st h
theorem oA{P:Program}{w:World}{K:W.Frag}{tg:Expr}(a it:Addr):vK P w K tg (Itt K a) [it] it (fun i h=>h.IsTupleIter it a i) where
 mem:=by simp
 obj:=fun i h st b hb=>by
  have e:b=it:=by simpa using hb
  subst e
  obtain⟨o,e,c,d⟩:=st
  exact⟨o,e,fun v z=>by rw [d] at z;cases z⟩
 keep:=fun i h h' st k=>st.at fun o e=>k it (by simp) o e
 item:=by
  intro X hP hw hK hc i pins s σ H E I hf st hg
  subst hP hw hK
  obtain⟨xs,x,hq,hx⟩:=hg
  obtain⟨its,rv,p,hz⟩:=I.tuple hq
  obtain⟨u,hu,ru⟩:=rv.get hx
  obtain⟨f0,f1,f2,f3,f4,f5⟩:=hf it (by simp)
  refine wpAny_pyNext_tuple_item st (show s.heap.IsTuple a its.toArray from p) (x:=u) (by simpa using hu) fun h' st' sb=>?_
  have I1:Inv X pins σ H { s with heap:=h' }:=I.turned (t':=s.toks) (fun b o hb e=>(sb.2 b hb).trans e) f0 f1 f3 f4 f5
  obtain⟨o,e,c,d⟩:=id st'
  exact⟨u,rfl,tm (s:={ s with heap:=h' }) e c d (by decide) ⟨x,H,I1,ru,⟨rfl,fun ys hy=>by rw [I.tuple_inj hy hq];exact hx⟩,st',fun b hb=>(hf b hb).1⟩⟩
 done:=by
  intro X hP hw hK hc i pins s σ H E I hf st hg
  subst hP hw hK
  obtain⟨xs,hq,hx⟩:=hg
  obtain⟨its,rv,p,hz⟩:=I.tuple hq
  obtain⟨f0,f1,f2,f3,f4,f5⟩:=hf it (by simp)
  have hl:=rv.length
  exact wpAny_pyNext_tuple_end (I.ok.hd hc) st (show s.heap.IsTuple a its.toArray from p) (by simp;omega) fun h' eb=>⟨rfl,I.turned (t':=s.toks) (fun b o hb e=>eb b o hb e) f0 f1 f3 f4 f5⟩
 self:=fun _ _ _ _ _ st h=>wpAny_pyIter_tupleiter st h
theorem oM{P:Program}{w:World}{K:PySem.W.Frag}{tg:Expr}(it:Addr)(lo:Int)(n:Nat):vK P w K tg (Itr lo n) [it] it (fun i h=>IsRangeIter h it (lo+(i:Nat)*1) ((n:Int) - (i:Nat)) 1) where
 mem:=by simp
 obj:=fun i h st b hb=>by
  have e:b=it:=by simpa using hb
  subst e
  exact⟨_,st,fun v z=>by
   have z':Data.fields _=Data.cell v:=z
   cases z'⟩
 keep:=fun i h h' st k=>k it (by simp) _ st
 item:=by
  intro X hP hw hK hc i pins s σ H E I hf st hg
  subst hP hw hK
  obtain⟨f0,f1,f2,f3,f4,f5⟩:=hf it (by simp)
  have W:=Walks.range (prog:=X.prog) (w:=X.w) (I.ok.hd hc) it lo 1 n
  refine W.item i s _ _ hg st fun v h' tk hv st' kk=>?_
  obtain⟨t,rfl⟩:=hv
  have I1:Inv X pins σ H { s with heap:=h',toks:=tk }:=I.turned (fun b o hb e=>kk b o (by simpa using hb) e) f0 f1 f3 f4 f5
  refine⟨_,rfl,tm (s:={ s with heap:=h',toks:=tk }) (n:="range_iterator") st' rfl rfl (by decide) ⟨.int (lo+i),H,I1,⟨t,?_⟩,⟨rfl,rfl⟩,st',fun b hb=>(hf b hb).1⟩⟩
  rw [Int.mul_one]
 done:=by
  intro X hP hw hK hc i pins s σ H E I hf st hg
  subst hP hw hK
  obtain⟨f0,f1,f2,f3,f4,f5⟩:=hf it (by simp)
  exact wpAny_pyNext_range_end (I.ok.hd hc) st (by have:n<=i:=hg;omega) fun h' eb=>⟨rfl,I.turned (t':=s.toks) (fun b o hb e=>eb b o hb e) f0 f1 f3 f4 f5⟩
 self:=fun _ _ _ _ _ st h=>wpAny_pyIter_rangeiter st h
section
variable{X:Cx}{tg:Expr}
def zg(K:W.Frag)(tl:TE):TI:=fun σ H R=>tl σ H fun x H1=>∃a,x=.ref a/\(∃xs,SqL K H1 a xs)/\R (Itl K a) H1
def As(K:W.Frag)(tl:TE):TI:=fun σ H R=>tl σ H fun x H1=>∃a,x=.ref a/\(∃xs,SqT K H1 a xs)/\R (Itt K a) H1
theorem qg{l:Expr}{tl:TE}(hl:PE X l tl):PI X tg l (zg X.K tl):=by
 intro pins s σ H R I h
 refine thn (hl pins s σ H _ I h) fun v s1 ⟨x,H1,I1,r1,q1⟩=>?_
 obtain⟨a,e,⟨xs,hq⟩,q⟩:=q1
 subst e
 cases r1
 obtain⟨its,rv,p,hz⟩:=I1.list hq
 refine wpAny_pyIter_list p.isList ?_
 refine⟨s1.heap.objs.size,[s1.heap.objs.size],_,_,H1,rfl,I1.kept (t':=s1.toks) fun b o e=>Heap.get?_push_of_some _ e,rF a _,⟨_,Heap.get?_push_size _ rfl,rfl,rfl⟩,fun b hb=>?_,q⟩
 have e:b=s1.heap.objs.size:=by simpa using hb
 subst e
 exact I1.fpOk (Nat.le_refl _) (I1.hok.fresh (Nat.le_refl _))
theorem nw{l:Expr}{tl:TE}(hl:PE X l tl):PI X tg l (As X.K tl):=by
 intro pins s σ H R I h
 refine thn (hl pins s σ H _ I h) fun v s1 ⟨x,H1,I1,r1,q1⟩=>?_
 obtain⟨a,e,⟨xs,hq⟩,q⟩:=q1
 subst e
 cases r1
 obtain⟨its,rv,p,hz⟩:=I1.tuple hq
 refine wpAny_pyIter_tuple (show s1.heap.IsTuple a its.toArray from p) ?_
 refine⟨s1.heap.objs.size,[s1.heap.objs.size],_,_,H1,rfl,I1.kept (t':=s1.toks) fun b o e=>Heap.get?_push_of_some _ e,oA a _,⟨_,Heap.get?_push_size _ rfl,rfl,rfl⟩,fun b hb=>?_,q⟩
 have e:b=s1.heap.objs.size:=by simpa using hb
 subst e
 exact I1.fpOk (Nat.le_refl _) (I1.hok.fresh (Nat.le_refl _))
theorem r6{pins:List (Addr × Obj)}{σ:St}{H:Hp}{s:Shared}{R:It->Hp->Prop}{E:Value->Shared->Prop}{lo hi:Int}{t u v:Tok}{tk:Nat}(I:Inv X pins σ H s)(h1:-(2 ^ 62)<=lo)(h2:lo < 2 ^ 62)(h3:-(2 ^ 62)<=hi)(h4:hi < 2 ^ 62)
  (q:R (Itr lo (hi - lo).toNat) H):wpAny (model X.prog X.w) X.A (pyIter (.ref s.heap.objs.size)) (PIE X pins σ tg R) E { s with heap:=s.heap.push { cls:=.type "range",data:=.fields #[.int lo t,.int hi u,.int 1 v] },toks:=tk }:=by
 refine wpAny_pyIter_range (IsRange.new ..) (small_one h1 h2 h3 h4) ?_
 have I1:Inv X pins σ H { s with heap:=s.heap.push { cls:=.type "range",data:=.fields #[.int lo t,.int hi u,.int 1 v] },toks:=tk }:=I.kept fun b o e=>Heap.get?_push_of_some _ e
 refine⟨(s.heap.push { cls:=.type "range",data:=.fields #[.int lo t,.int hi u,.int 1 v] }).objs.size,[(s.heap.push { cls:=.type "range",data:=.fields #[.int lo t,.int hi u,.int 1 v] }).objs.size],_,_,H,rfl,
  I1.kept (t':=tk) fun b o e=>Heap.get?_push_of_some _ e,oM _ lo (hi - lo).toNat,?_,fun b hb=>?_,q⟩
 ·have e1:lo+((0:Nat):Int)*1=lo:=by simp
  have e2:(((hi - lo).toNat:Nat):Int) - ((0:Nat):Int)=Builtin.Range.rangeSize lo hi 1:=by rw [rangeSize_one];split<;>omega
  show IsRangeIter _ _ (lo+((0:Nat):Int)*1) ((((hi - lo).toNat:Nat):Int) - ((0:Nat):Int)) 1
  rw [e1,e2]
  exact Heap.get?_push_size _ rfl
 ·have e:b=(s.heap.push { cls:=.type "range",data:=.fields #[.int lo t,.int hi u,.int 1 v] }).objs.size:=by simpa using hb
  subst e
  exact I1.fpOk (Nat.le_refl _) (I1.hok.fresh (Nat.le_refl _))
def yY(ta:TA):TI:=fun σ H R=>ta σ H fun vs H1=>∃j:Int,vs=[.int j]/\-(2 ^ 62)<=j/\j < 2 ^ 62/\R (Itr 0 j.toNat) H1
theorem rK{a:Expr}{ta:TA}{p pos:Pos} (hg:Gl X "range") (hm:X.mg "range"=none) (ha:PA X [a] ta) (hs:starEach [a] X.env=[(false,eval a X.env)]:=by rfl):PI X tg (.Call (.Name "range" p) [a] [] pos) (yY ta):=by
 intro pins s σ H R I h
 refine Call_ (nR I hg hm boot_range (PyProof.Rows.callWith_type1 (thn (ha pos pins s σ H _ I h) fun us s1 ⟨vs,H1,I1,r1,q1⟩=>?_) hs rfl))
 obtain⟨j,e,q1,q2,q⟩:=q1
 subst e
 cases r1 with
 |cons r rr =>
  cases rr
  obtain⟨t,rfl⟩:=r
  exact call_range_1 (r6 I1 (by omega) (by omega) q1 q2 (by simpa using q))
def Am(wi:TI)(g:TG)(tb:TS):TS:=fun D σ H=>wi σ H fun J H1=>∃W:Nat->Nat->St->Hp->Prop,(∃m,W 0 m σ H1)/\∀i m σ H,W i m σ H ->
 (J.stop i H/\D.nx σ H)\/(J.go i H/\∃N:St->Hp->Prop,(∀σ' H',N σ' H'->∃m',m' < m/\W (i+1) m' σ' H')/\∀x H',J.yld i H x H'->g x σ H' fun σ2 H2=>tb { D with nx:=N,ct:=N,bk:=D.nx } σ2 H2)
def iH(fp:List Addr)(h:Heap):List (Addr × Obj):=fp.filterMap fun b=>(h.get? b).map fun o=>(b,o)
theorem dP{fp:List Addr}{h:Heap}{b:Addr}{o:Obj}(hb:b∈fp)(e:h.get? b=some o):(b,o)∈iH fp h:=List.mem_filterMap.mpr ⟨b,hb,by rw [e];rfl⟩
theorem oZ{fp:List Addr}{h:Heap}{p:Addr × Obj}(hp:p∈iH fp h):p.1∈fp/\h.get? p.1=some p.2:=by
 obtain⟨b,hb,e⟩:=List.mem_filterMap.mp hp
 cases q:h.get? b with
 |none=>rw [q] at e;cases e
 |some o =>
  rw [q] at e
  have e':(b,o)=p:=Option.some.inj e
  subst e'
  exact⟨hb,q⟩
theorem Inv.pinned{pins:List (Addr × Obj)}{σ:St}{H:Hp}{s:Shared}{fp:List Addr}(I:Inv X pins σ H s)(hf:∀b∈fp,lc X pins H b)(ho:∀b∈fp,∃o,s.heap.get? b=some o/\∀v,o.data≠.cell v):Inv X (pins++iH fp s.heap) σ H s :=
 I.pins_of fun p hp=>(List.mem_append.mp hp).elim (fun z=>I.pin p (List.mem_append_right _ z)) fun z=>by
  obtain⟨hb,e⟩:=oZ z
  obtain⟨f0,f1,f2,_⟩:=hf p.1 hb
  obtain⟨o,e',d⟩:=ho p.1 hb
  rw [e] at e';cases e'
  exact⟨e,f0,f1,f2,d⟩
theorem Inv.unpinned{pins pl:List (Addr × Obj)}{σ:St}{H:Hp}{s:Shared}(I:Inv X (pins++pl) σ H s):Inv X pins σ H s:=I.pins_of fun p hp=>I.pin p (List.mem_append_right _ (List.mem_append_left _ hp))
theorem gu{iter:Expr}{body:List Stmt}{wi:TI}{g:TG}{tb:TS}{pos:Pos}(hp:PassesOwn (model X.prog X.w) X.A X.env X.xe)(hc:X.calm=true)(hi:PI X tg iter wi)(hg:PG X tg g)(hb:PSs X body tb)
  (hs:∀x,foldedSetIterable iter X.env x=pure x:=by intro _;rfl):PS X (.For tg iter body [] pos) (Am wi g tb):=by
 intro pins s σ H D I h
 refine wpAny_For (thn (hi pins s σ H _ I h) fun v s1 h1=>thn h1 fun itv s2 h2=>?_) hs
 obtain⟨it,fp,tn,J,H2,e,I2,T,st2,f2,W,⟨m0,w0⟩,turn⟩:=h2
 subst e
 have stat:∀{H':Hp},(∀b∈fp,H' b=none)->∀b∈fp,lc X pins H' b:=fun hn b hb=>⟨hn b hb,(f2 b hb).2⟩
 refine codeAny_forLoop_any (fun n s'=>∃i σ' H',Inv X pins σ' H' s'/\tn i s'.heap/\(∀b∈fp,H' b=none)/\W i n σ' H') ?_ m0 ⟨0,σ,H2,I2,st2,fun b hb=>(f2 b hb).1,w0⟩
 rintro n s3 ⟨i,σ3,H3,I3,st3,fr3,w3⟩
 rcases turn i n σ3 H3 w3 with ⟨stop,qn⟩|⟨go,N,hN,step⟩
 ·refine wpAny_passesOwn hp (thn (T.done X rfl rfl rfl hc i pins s3 σ3 H3 X.xe I3 (stat fr3) st3 stop) fun r s4 ⟨hr,I4⟩=>?_)
  subst hr
  exact wpAny_execs_nil ⟨σ3,H3,I4,qn⟩
 ·refine wpAny_passesOwn hp (thn (T.item X rfl rfl rfl hc i pins s3 σ3 H3 X.xe I3 (stat fr3) st3 go) fun r s4 ⟨u,hr,h4⟩=>?_)
  subst hr
  refine wpAny_passesOwn hp (thn h4 fun _ s5 ⟨x,H5,I5,r5,y5,st5,fr5⟩=>?_)
  have I5':=I5.pinned (stat fr5) (T.obj _ _ st5)
  refine wpAny_passesOwn hp (thn (hg _ s5 σ3 H5 x u _ I5' r5 (step x H5 y5)) fun _ s6 ⟨σ6,H6,I6,q6⟩=>?_)
  refine wpAny_passesOwn hp (thn (hb _ s6 σ6 H6 _ I6 q6) fun f s7 q7=>?_)
  have again:∀{σ7:St} {H7:Hp},Inv X (pins++iH fp s5.heap) σ7 H7 s7->N σ7 H7->∃m,m < n/\∃i σ' H',Inv X pins σ' H' s7/\tn i s7.heap/\(∀b∈fp,H' b=none)/\W i m σ' H':=fun {σ7 H7} I7 n7=>by
   obtain⟨m',hm,w7⟩:=hN σ7 H7 n7
   refine⟨m',hm,i+1,σ7,H7,I7.unpinned,T.keep _ _ _ st5 fun b hb o e=>(I7.pin (b,o) (List.mem_append_right _ (List.mem_append_right _ (dP hb e)))).1,fun b hb=>?_,w7⟩
   obtain⟨o,e,d⟩:=T.obj _ _ st5 b hb
   exact(I7.pin (b,o) (List.mem_append_right _ (List.mem_append_right _ (dP hb e)))).2.1
  cases f with
  |next=>obtain⟨σ7,H7,I7,n7⟩:=q7;exact again I7 n7
  |cont=>obtain⟨σ7,H7,I7,n7⟩:=q7;exact again I7 n7
  |brk=>obtain⟨σ7,H7,I7,q7⟩:=q7;exact⟨σ7,H7,I7.unpinned,q7⟩
  |ret v=>obtain⟨x7,σ7,H7,I7,r7,q7⟩:=q7;exact⟨x7,σ7,H7,I7.unpinned,r7,q7⟩
end
theorem mG{K:PySem.W.Frag}{a:Addr}{xs:List V}{g:TG}{tb:TS}{D:fG}{σ:St}{H:Hp}(Pv:Nat->St->Hp->Prop)(h0:Pv 0 σ H)(hl:∀i σ H,i<=xs.length->Pv i σ H->SqL K H a xs)
  (hs:∀i x σ H,xs[i]?=some x->Pv i σ H->g x σ H fun σ2 H2=>tb { D with nx:=Pv (i+1),ct:=Pv (i+1),bk:=D.nx } σ2 H2) (hd:∀σ H,Pv xs.length σ H->D.nx σ H) :
  ∃W:Nat->Nat->St->Hp->Prop,(∃m,W 0 m σ H)/\∀i m σ H,W i m σ H ->
   ((Itl K a).stop i H/\D.nx σ H)\/((Itl K a).go i H/\∃N:St->Hp->Prop,(∀σ' H',N σ' H'->∃m',m' < m/\W (i+1) m' σ' H')/\∀x H',(Itl K a).yld i H x H'->g x σ H' fun σ2 H2=>tb { D with nx:=N,ct:=N,bk:=D.nx } σ2 H2):=by
 refine⟨fun i m σ H=>m=xs.length - i/\i<=xs.length/\Pv i σ H,⟨xs.length,by simp,Nat.zero_le _,h0⟩,?_⟩
 rintro i m σ H ⟨rfl,hi,p⟩
 have q:=hl i σ H hi p
 by_cases hlt:i < xs.length
 ·refine .inr ⟨⟨xs,xs[i],q,by simp [hlt]⟩,Pv (i+1),fun σ' H' p'=>⟨xs.length - (i+1),by omega,rfl,hlt,p'⟩,fun x H' y=>?_⟩
  obtain⟨e,y⟩:=y
  subst e
  exact hs i x σ _ (y xs q) p
 ·have e:i=xs.length:=by omega
  subst e
  exact .inl ⟨⟨xs,q,Nat.le_refl _⟩,hd σ H p⟩
theorem rf{K:PySem.W.Frag}{a:Addr}{xs:List V}{g:TG}{tb:TS}{D:fG}{σ:St}{H:Hp}(Pv:Nat->St->Hp->Prop)(h0:Pv 0 σ H)(hl:∀i σ H,i<=xs.length->Pv i σ H->SqT K H a xs)
  (hs:∀i x σ H,xs[i]?=some x->Pv i σ H->g x σ H fun σ2 H2=>tb { D with nx:=Pv (i+1),ct:=Pv (i+1),bk:=D.nx } σ2 H2) (hd:∀σ H,Pv xs.length σ H->D.nx σ H) :
  ∃W:Nat->Nat->St->Hp->Prop,(∃m,W 0 m σ H)/\∀i m σ H,W i m σ H ->
   ((Itt K a).stop i H/\D.nx σ H)\/((Itt K a).go i H/\∃N:St->Hp->Prop,(∀σ' H',N σ' H'->∃m',m' < m/\W (i+1) m' σ' H')/\∀x H',(Itt K a).yld i H x H'->g x σ H' fun σ2 H2=>tb { D with nx:=N,ct:=N,bk:=D.nx } σ2 H2):=by
 refine⟨fun i m σ H=>m=xs.length - i/\i<=xs.length/\Pv i σ H,⟨xs.length,by simp,Nat.zero_le _,h0⟩,?_⟩
 rintro i m σ H ⟨rfl,hi,p⟩
 have q:=hl i σ H hi p
 by_cases hlt:i < xs.length
 ·refine .inr ⟨⟨xs,xs[i],q,by simp [hlt]⟩,Pv (i+1),fun σ' H' p'=>⟨xs.length - (i+1),by omega,rfl,hlt,p'⟩,fun x H' y=>?_⟩
  obtain⟨e,y⟩:=y
  subst e
  exact hs i x σ _ (y xs q) p
 ·have e:i=xs.length:=by omega
  subst e
  exact .inl ⟨⟨xs,q,Nat.le_refl _⟩,hd σ H p⟩
theorem mq{c:TT}{tb:TS}{D:fG}{σ:St}{H:Hp}(Pv:St->Hp->Prop)(μ:St->Hp->Nat)(h0:Pv σ H)
  (hs:∀σ H,Pv σ H->c σ H fun b H1=>if b=true then tb { D with nx:=fun σ' H'=>Pv σ' H'/\μ σ' H' < μ σ H,ct:=fun σ' H'=>Pv σ' H'/\μ σ' H' < μ σ H,bk:=D.nx } σ H1 else D.nx σ H1)
  (mono:∀σ H Q Q',(∀b H1,Q b H1->Q' b H1)->c σ H Q->c σ H Q'):pK c tb D σ H:=by
 refine⟨fun m σ H=>m=μ σ H/\Pv σ H,⟨_,rfl,h0⟩,?_⟩
 rintro m σ H ⟨rfl,p⟩
 refine mono σ H _ _ (fun b H1 q=>?_) (hs σ H p)
 cases b with
 |true=>exact⟨_,fun σ' H' ⟨p',l⟩=>⟨_,l,rfl,p'⟩,q⟩
 |false=>exact q
abbrev R2:=V->V->Hp->VK->Prop
def OpR(X:Cx)(f:Value->Value->Sem Value)(r:R2):Prop :=
 ∀(pins:List (Addr × Obj)) (s:Shared) (σ:St) (H:Hp) (x y:V) (v u:Value) (Q:VK),Inv X pins σ H s->br x v->br y u->r x y H Q ->
  wpAny (model X.prog X.w) X.A (f v u) (EP X pins σ Q) X.xe s
def ke(X:Cx)(f:Value)(r:List V->Hp->VK->Prop):Prop :=
 ∀(pins:List (Addr × Obj)) (s:Shared) (σ:St) (H:Hp) (xs:List V) (us:List Value) (Q:VK),Inv X pins σ H s->bg xs us->r xs H Q ->
  wpAny (model X.prog X.w) X.A (call f us) (EP X pins σ Q) X.xe s
def tOp(r:R2)(ta tb:TE):TE:=fun σ H Q=>ta σ H fun x H1=>tb σ H1 fun y H2=>r x y H2 Q
inductive Wd (C:Int->Int->Prop) (g:Int->Int->V) (x y:V) (H:Hp) (Q:VK):Prop
 |mk (i j:Int) (a:x=.int i) (b:y=.int j) (c:C i j) (q:Q (g i j) H)
def rI(C:Int->Int->Prop)(g:Int->Int->V):R2:=fun x y H Q=>Wd C g x y H Q
inductive We (g:Int->Int->V) (x y:V) (H:Hp) (Q:VK):Prop
 |mk (i j:Int) (a:x=.int i) (b:y=.int j) (q:Q (g i j) H)
def rI0(g:Int->Int->V):R2:=fun x y H Q=>We g x y H Q
section
variable{X:Cx}{a b c:Expr}{ta tb tc:TE}{pos:Pos}
theorem yG(ha:PE X a ta)(hb:PE X b tb){pins:List (Addr × Obj)}{s:Shared}{σ:St}{H:Hp}{R:V->V->Hp->Prop}(I:Inv X pins σ H s)
  (h:ta σ H fun x H1=>tb σ H1 fun y H2=>R x y H2) {Q:Value->Shared->Prop} {f:Value->Value->Sem Value}
  (hf:∀v u s2 x y H2,Inv X pins σ H2 s2->br x v->br y u->R x y H2->wpAny (model X.prog X.w) X.A (f v u) Q X.xe s2) :
  wpAny (model X.prog X.w) X.A (eval a X.env) (fun v s₁=>wpAny (model X.prog X.w) X.A (eval b X.env) (fun u s₂=>wpAny (model X.prog X.w) X.A (f v u) Q X.xe s₂) X.xe s₁) X.xe s:=by
 refine thn (ha pins s σ H _ I h) fun v s1 ⟨x,H1,I1,r1,q1⟩=>?_
 refine thn (hb pins s1 σ H1 _ I1 q1) fun u s2 ⟨y,H2,I2,r2,q2⟩=>?_
 exact hf v u s2 x y H2 I2 r1 r2 q2
theorem bt{op:Operator}{r:R2}(ho:OpR X (binaryOp op) r)(ha:PE X a ta)(hb:PE X b tb):PE X (.BinOp a op b pos) (tOp r ta tb):=by
 intro pins s σ H Q I h
 exact wpAny_BinOp (yG ha hb I h fun v u s2 x y H2 I2 rx ry q=>ho pins s2 σ H2 x y v u Q I2 rx ry q)
theorem opI{f:Value->Value->Sem Value}{C:Int->Int->Prop}{g:Int->Int->Int}
  (rule:∀(i j:Int) (t u:Tok) (s:Shared) (Q:Value->Shared->Prop) (E:Value->Shared->Prop),C i j->Q (.int (g i j) s.toks) { s with toks:=s.toks+1 }->wpAny (model X.prog X.w) X.A (f (.int i t) (.int j u)) Q E s) :
  OpR X f (rI C fun i j=>.int (g i j)):=by
 intro pins s σ H x y v u Q I rx ry h
 obtain⟨i,j,rfl,rfl,hc,q⟩:=h
 obtain⟨t,rfl⟩:=rx
 obtain⟨t',rfl⟩:=ry
 exact rule i j t t' s _ _ hc ⟨.int (g i j),H,I.tok _,⟨_,rfl⟩,q⟩
theorem zo{f:Value->Value->Sem Value}{g:Int->Int->Int}
  (rule:∀(i j:Int) (t u:Tok) (s:Shared) (Q:Value->Shared->Prop) (E:Value->Shared->Prop),Q (.int (g i j) s.toks) { s with toks:=s.toks+1 }->wpAny (model X.prog X.w) X.A (f (.int i t) (.int j u)) Q E s) :
  OpR X f (rI0 fun i j=>.int (g i j)):=by
 intro pins s σ H x y v u Q I rx ry h
 obtain⟨i,j,rfl,rfl,q⟩:=h
 obtain⟨t,rfl⟩:=rx
 obtain⟨t',rfl⟩:=ry
 exact rule i j t t' s _ _ ⟨.int (g i j),H,I.tok _,⟨_,rfl⟩,q⟩
theorem zB{f:Value->Value->Sem Value}{g:Int->Int->Bool}
  (rule:∀(i j:Int) (t u:Tok) (s:Shared) (Q:Value->Shared->Prop) (E:Value->Shared->Prop),Q (.bool (g i j)) s->wpAny (model X.prog X.w) X.A (f (.int i t) (.int j u)) Q E s) :
  OpR X f (rI0 fun i j=>.bl (g i j)):=by
 intro pins s σ H x y v u Q I rx ry h
 obtain⟨i,j,rfl,rfl,q⟩:=h
 obtain⟨t,rfl⟩:=rx
 obtain⟨t',rfl⟩:=ry
 exact rule i j t t' s _ _ ⟨.bl (g i j),H,I,rfl,q⟩
def Av(i j:Int):Prop:=0 < j/\j < 1073741824
def zS(i j:Int):Prop:=0<=j/\j<=1000000/\i.natAbs < 2 ^ 64
def yl(i j:Int):Prop:=(-(2 ^ 64) < i/\i < 2 ^ 64)\/(-(2 ^ 64) < j/\j < 2 ^ 64)
theorem yl.ok{i j:Int}(h:yl i j):IntMulOk i j:=by
 rcases h with ⟨h1,h2⟩|⟨h1,h2⟩
 ·exact .of_left (intBits_le_64 h1 h2)
 ·exact .of_right (intBits_le_64 h1 h2)
theorem fK:OpR X (binaryOp .Add) (rI0 fun i j=>.int (i+j)):=zo fun _ _ _ _ _ _ _ q=>add_int q
theorem qQ:OpR X (binaryOp .Sub) (rI0 fun i j=>.int (i - j)):=zo fun _ _ _ _ _ _ _ q=>sub_int q
theorem ie:OpR X (binaryOp .Mult) (rI yl fun i j=>.int (i*j)):=opI fun _ _ _ _ _ _ _ hc q=>mul_int q hc.ok
theorem lW:OpR X (binaryOp .FloorDiv) (rI Av fun i j=>.int (i / j)):=opI fun i j _ _ _ _ _ hc q=>by
 have h1:(0:Int) < j:=hc.1
 have h2:j < 1073741824:=hc.2
 exact floordiv_int (by omega) (by rw [Int.fdiv_eq_ediv_of_nonneg i (by omega)];exact q) (.inl (PyProof.noPylong_small (by omega)))
theorem eg:OpR X (binaryOp .Mod) (rI (fun _ j=>0 < j) fun i j=>.int (i%j)):=opI fun i j _ _ _ _ _ hc q=>by
 have h1:(0:Int) < j:=hc
 exact mod_int' (by omega) (by rw [Int.fmod_eq_emod_of_nonneg i (by omega)];exact q)
theorem ut:OpR X (binaryOp .Pow) (rI zS fun i j=>.int (i ^ j.toNat)):=opI fun _ _ _ _ _ _ _ hc q=>pow_int_small hc.1 hc.2.1 hc.2.2 q
def zr:V->V->Bool
 |.non,.non=>true|.non,.int _=>true|.int _,.non=>true|.non,.bl _=>true|.bl _,.non=>true|.non,.str _=>true|.str _,.non=>true
 |.int _,.int _=>true|.bl _,.bl _=>true|.str _,.str _=>true|.byt _,.byt _=>true
 |.int _,.str _=>true|.str _,.int _=>true|.bl _,.str _=>true|.str _,.bl _=>true
 |_,_=>false
def rEq:R2:=fun x y H Q=>zr x y=true/\Q (.bl (decide (x=y))) H
def rNe:R2:=fun x y H Q=>zr x y=true/\Q (.bl (!decide (x=y))) H
theorem pJ{i j:Int}:decide (V.int i=V.int j)=(i==j):=by
 rw [Bool.eq_iff_iff]
 simp
theorem uK{i j:Bool}:decide (V.bl i=V.bl j)=(i==j):=by
 rw [Bool.eq_iff_iff]
 simp
theorem qx{i j:Str}:decide (V.str i=V.str j)=(i==j):=by
 rw [Bool.eq_iff_iff]
 simp
theorem qv{i j:Array UInt8}:decide (V.byt i=V.byt j)=(i.toList==j.toList):=by
 rw [Bool.eq_iff_iff]
 cases i
 cases j
 simp
theorem bf{pins:List (Addr × Obj)}{σ:St}{H:Hp}{s:Shared}{Q:VK}{k k':Bool}(I:Inv X pins σ H s)(q:Q (.bl k) H)(e:k=k'):EP X pins σ Q (.bool k') s:=by
 subst e
 exact⟨.bl k,H,I,rfl,q⟩
theorem bu:OpR X (compareOp .Eq) rEq:=by
 intro pins s σ H x y v u Q I rx ry h
 obtain⟨hs,q⟩:=h
 cases x with
 |non =>
  cases rx
  cases y with
  |non=>cases ry;exact PySem.EqNone.eq_none_none (bf I q (by simp))
  |bl j=>cases ry;exact PySem.EqNone.eq_none_bool (bf I q (by simp))
  |int j=>obtain⟨t',rfl⟩:=ry;exact PySem.EqNone.eq_none_int (bf I q (by simp))
  |str j=>obtain⟨t',rfl⟩:=ry;exact PySem.EqNone.eq_none_str (bf I q (by simp))
  |_=>exact absurd (show false=true from hs) Bool.false_ne_true
 |bl i =>
  cases rx
  cases y with
  |non=>cases ry;exact PySem.EqNone.eq_bool_none (bf I q (by simp))
  |bl j=>cases ry;exact eq_bool (bf I q uK)
  |str j=>obtain⟨t',rfl⟩:=ry;exact PySem.EqMixed.eq_bool_str (bf I q (by simp))
  |_=>exact absurd (show false=true from hs) Bool.false_ne_true
 |int i =>
  obtain⟨t,rfl⟩:=rx
  cases y with
  |non=>cases ry;exact PySem.EqNone.eq_int_none (bf I q (by simp))
  |int j=>obtain⟨t',rfl⟩:=ry;exact eq_int (bf I q pJ)
  |str j=>obtain⟨t',rfl⟩:=ry;exact PySem.EqMixed.eq_int_str (bf I q (by simp))
  |_=>exact absurd (show false=true from hs) Bool.false_ne_true
 |str i =>
  obtain⟨t,rfl⟩:=rx
  cases y with
  |non=>cases ry;exact PySem.EqNone.eq_str_none (bf I q (by simp))
  |bl j=>cases ry;exact PySem.EqMixed.eq_str_bool (bf I q (by simp))
  |int j=>obtain⟨t',rfl⟩:=ry;exact PySem.EqMixed.eq_str_int (bf I q (by simp))
  |str j=>obtain⟨t',rfl⟩:=ry;exact eq_str (bf I q qx)
  |_=>exact absurd (show false=true from hs) Bool.false_ne_true
 |byt i =>
  obtain⟨t,rfl⟩:=rx
  cases y with
  |byt j=>obtain⟨t',rfl⟩:=ry;exact W.eq_bytes (bf I q qv)
  |_=>exact absurd (show false=true from hs) Bool.false_ne_true
 |_=>cases y<;>exact absurd (show false=true from hs) Bool.false_ne_true
theorem yw:OpR X (compareOp .NotEq) rNe:=by
 intro pins s σ H x y v u Q I rx ry h
 obtain⟨hs,q⟩:=h
 cases x with
 |non =>
  cases rx
  cases y with
  |non=>cases ry;exact PySem.EqNone.ne_none_none (bf I q (by simp))
  |bl j=>cases ry;exact PySem.EqNone.ne_none_bool (bf I q (by simp))
  |int j=>obtain⟨t',rfl⟩:=ry;exact PySem.EqNone.ne_none_int (bf I q (by simp))
  |str j=>obtain⟨t',rfl⟩:=ry;exact PySem.EqNone.ne_none_str (bf I q (by simp))
  |_=>exact absurd (show false=true from hs) Bool.false_ne_true
 |bl i =>
  cases rx
  cases y with
  |non=>cases ry;exact PySem.EqNone.ne_bool_none (bf I q (by simp))
  |bl j=>cases ry;exact ne_bool (bf I q (congrArg not uK))
  |str j=>obtain⟨t',rfl⟩:=ry;exact PySem.EqMixed.ne_bool_str (bf I q (by simp))
  |_=>exact absurd (show false=true from hs) Bool.false_ne_true
 |int i =>
  obtain⟨t,rfl⟩:=rx
  cases y with
  |non=>cases ry;exact PySem.EqNone.ne_int_none (bf I q (by simp))
  |int j=>obtain⟨t',rfl⟩:=ry;exact ne_int (bf I q (congrArg not pJ))
  |str j=>obtain⟨t',rfl⟩:=ry;exact PySem.EqMixed.ne_int_str (bf I q (by simp))
  |_=>exact absurd (show false=true from hs) Bool.false_ne_true
 |str i =>
  obtain⟨t,rfl⟩:=rx
  cases y with
  |non=>cases ry;exact PySem.EqNone.ne_str_none (bf I q (by simp))
  |bl j=>cases ry;exact PySem.EqMixed.ne_str_bool (bf I q (by simp))
  |int j=>obtain⟨t',rfl⟩:=ry;exact PySem.EqMixed.ne_str_int (bf I q (by simp))
  |str j=>obtain⟨t',rfl⟩:=ry;exact ne_str (bf I q (congrArg not qx))
  |_=>exact absurd (show false=true from hs) Bool.false_ne_true
 |byt i =>
  obtain⟨t,rfl⟩:=rx
  cases y with
  |byt j=>obtain⟨t',rfl⟩:=ry;exact W.ne_bytes (bf I q (congrArg not qv))
  |_=>exact absurd (show false=true from hs) Bool.false_ne_true
 |_=>cases y<;>exact absurd (show false=true from hs) Bool.false_ne_true
theorem yx:OpR X (compareOp .Lt) (rI0 fun i j=>.bl (decide (i < j))):=zB fun _ _ _ _ _ _ _ q=>lt_int q
theorem mh:OpR X (compareOp .Gt) (rI0 fun i j=>.bl (decide (j < i))):=zB fun _ _ _ _ _ _ _ q=>gt_int q
theorem uR:OpR X (compareOp .IsNot) (fun x y H Q=>y=.non/\Q (.bl (!decide (x=.non))) H):=by
 intro pins s σ H x y v u Q I rx ry h
 obtain⟨rfl,q⟩:=h
 cases ry
 refine isnot_none_gen (bf I q ?_)
 cases x<;>first
  |(cases rx;rfl)
  |(obtain⟨t,rfl⟩:=rx;rfl)
theorem aE(b:Expr){op:CmpOp}(h:op≠.In:=by decide)(h2:op≠.NotIn:=by decide):behindInMarks op b=false:=by
 have e1:(op==CmpOp.In)=false:=by cases op<;>first|rfl|exact absurd rfl h
 have e2:(op==CmpOp.NotIn)=false:=by cases op<;>first|rfl|exact absurd rfl h2
 cases b<;>simp [behindInMarks,e1,e2]
theorem cH{op:CmpOp}{r:R2}(ho:OpR X (compareOp op) r)(ha:PE X a ta)(hb:PE X b tb)(hm:behindInMarks op b=false):PE X (.Compare a [op] [b] pos) (tOp r ta tb):=by
 intro pins s σ H Q I h
 exact wpAny_Compare1 (yG ha hb I h fun v u s2 x y H2 I2 rx ry q=>ho pins s2 σ H2 x y v u Q I2 rx ry q) hm
def yp(t:TE):TT:=fun σ H Q=>t σ H fun x H'=>Wb x H' Q
theorem aB{op:CmpOp}{r:R2}(ho:OpR X (compareOp op) r)(ha:PE X a ta)(hb:PE X b tb)(hm:behindInMarks op b=false):PT X (.Compare a [op] [b] pos) (yp (tOp r ta tb)):=by
 intro pins s σ H Q I h
 refine wpAny_isTrue_Compare1 (thn (ha pins s σ H _ I h) fun v s1 ⟨x,H1,I1,r1,q1⟩=>thn (hb pins s1 σ H1 _ I1 q1) fun u s2 ⟨y,H2,I2,r2,q2⟩ =>
  thn (ho pins s2 σ H2 x y v u _ I2 r1 r2 q2) fun c s3 ⟨z,H3,I3,r3,k,e,q3⟩=>?_) hm
 subst e
 cases r3
 exact wpAny_truthy_bool ⟨H3,I3,q3⟩
theorem j5:(sizeLine:Nat) < 2 ^ 63:=by rw [sizeLine_eq];decide
theorem jb:OpR X (binaryOp .Add) (fun x y H Q=>∃i j,x=.str i/\y=.str j/\i.length+j.length<=sizeLine/\Q (.str (i++j)) H):=by
 intro pins s σ H x y v u Q I rx ry h
 obtain⟨i,j,rfl,rfl,hz,q⟩:=h
 obtain⟨t,rfl⟩:=rx
 obtain⟨t',rfl⟩:=ry
 exact add_str (fun t' tk=>⟨.str (i++j),H,I.tok _,⟨_,rfl⟩,q⟩) hz
theorem lu{x:V}{us:List Value}(r:bg [x] us):∃u,us=[u]/\br x u:=by
 cases r with
 |cons r1 r2=>cases r2;exact⟨_,rfl,r1⟩
theorem rG:ke X (.type "int") (fun xs H Q=>(∃i,xs=[.int i]/\Q (.int i) H)\/∃k,xs=[.bl k]/\Q (.int (if k then 1 else 0)) H):=by
 intro pins s σ H xs us Q I r h
 rcases h with ⟨i,rfl,q⟩|⟨k,rfl,q⟩
 ·obtain⟨u,rfl,t,rfl⟩:=lu r
  exact call_int_int ⟨.int i,H,I,⟨_,rfl⟩,q⟩
 ·obtain⟨u,rfl,r1⟩:=lu r
  cases r1
  exact call_int_bool ⟨.int (if k then 1 else 0),H,I.tok _,⟨_,rfl⟩,q⟩
end
structure vY(h:Heap)(x dx C:Addr)(mA:Str->Option Value):Prop where
 obj:h.get? x=some (W.instObj C dx)
 ns:h.Ns1 dx mA
 ne:dx≠x
theorem pF{h:Heap}{dx:Addr}{mA:Str->Option Value}(n:h.Ns1 dx mA):∃od,h.get? dx=some od/\∀name,W.lookIn name od=some (mA name):=by
 obtain⟨o,es,ep,ho,hd,hk,_,hm⟩:=n
 refine⟨o,ho,fun name=>?_⟩
 have e:=hm name
 unfold nsFind findBy at e
 rw [<-Array.find?_toList] at e
 unfold W.lookIn
 rw [hd]
 dsimp only
 split
 ·rename_i y q
  rw [q] at e
  exact congrArg some e
 ·rename_i q
  rw [q] at e
  have a:es.toList.any (·.refKey)=false:=by
   rw [List.any_eq_false]
   intro y hy
   obtain⟨z,t,hkey⟩:=hk y (Array.mem_toList_iff.mp hy)
   simp [DictEntry.refKey,hkey]
  have a':¬es.toList.any (·.refKey)=true:=by rw [a];exact Bool.false_ne_true
  rw [if_neg a']
  exact congrArg some e
theorem vY.look{h:Heap}{x dx C:Addr}{mA:Str->Option Value}(I:vY h x dx C mA):∃od,W.InstAt h x (W.instObj C dx) C (some od)/\∀name,W.lookIn name od=some (mA name) :=
 let ⟨od,ho,hl⟩:=pF I.ns
 ⟨od,⟨I.obj,rfl,rfl,ho⟩,hl⟩
section
variable{prog:Program}{w:World}{A:Around}{E:Value->Shared->Prop}{s:Shared}{K:W.Frag}{x dx C f:Addr}{mA:Str->Option Value}{name:Str}{v:Value}
theorem vD{expr:Bool}{Q:Value->Shared->Prop}(X:K.In s.heap)(I:vY s.heap x dx C mA)(hg:W.plainGet K C name=true)(hh:W.hasDictIn K C=true)
  (ha:W.findIn K (.ref C) name=some none) (hv:mA name=some v) (hv':W.handedIn v=true) (h:Q v { s with toks:=s.toks+1 }) :
  wpAny (model prog w) A (getAttr (.ref x) name expr) Q E s:=by
 obtain⟨od,J,hl⟩:=I.look
 exact W.get_value X J (W.plainGet_of hg).1 (W.findObj_own hh ha rfl (by rw [hl,hv])) hv' h
theorem uP{ns:List Str}{Q:Unit->Shared->Prop}(X:K.In s.heap)(I:vY s.heap x dx C mA)
  (hs:W.findIn K (.ref C) "__setattr__"=some (some (.builtin "object.__setattr__"))) (hp:W.plainOver K C=true) (ht:W.takerIn K C name=some none) (hh:W.hasDictIn K C=true)
  (hw:PySem.Within mA ns) (hsz:ns.length<=sizeLine)
  (h:∀h',vY h' x dx C (fun y=>if y=name then some v else mA y)->Heap.SameBut dx s.heap h'->Q () { s with heap:=h',toks:=s.toks+2 }) :
  wpAny (model prog w) A (setAttr (.ref x) name v) Q E s:=by
 obtain⟨od,J,hl⟩:=I.look
 refine W.set_plain X J hs (W.osa_open (s:={ s with toks:=s.toks+1 }) (r:=none) X J hp ht fun b=>?_)
 obtain⟨cd,hc,hd'⟩:=W.any_some hh
 have hx:s.heap.get? x=some ⟨.ref C,some dx,.plain,#[]⟩:=I.obj
 refine wpAny_bind (wpAny_pure (wpAny_bind (wpAny_bind (wpAny_loadPart hx (wpAny_bind (W.Looks.here (s:={ s with toks:=s.toks+1 }) (W.looks_clsIn X hc) ?_))))))
 rw [hd']
 refine wpAny_pure (a:=some dx) (wpAny_bind (wpAny_pure (wpAny_bind ?_)))
 refine wpAny_nsSet1 (s:={ s with toks:=s.toks+1 }) I.ns fun h' hn2 hs2=>?_
 obtain⟨oD,esD,epD,hoD,hdD,hcD⟩:=hn2.count (PySem.Within.cons name v hw)
 refine wpAny_bind (wpAny_lookBehind hoD (by rw [hdD];exact pastItsLine_dict (Nat.le_trans hcD (by rw [List.length_cons];omega))) ?_)
 exact wpAny_pure (h _ ⟨(hs2.2 _ (Ne.symm I.ne)).trans I.obj,hn2,I.ne⟩ hs2)
theorem tX{R:Result->Shared->Prop}{vs:List Value}{kw:List (Str × Value)}(X:K.In s.heap)(hm:W.makesIn K C=true)
  (hi:W.findIn K (.ref C) "__init__"=some (some (.ref f))) (hf:W.typeIn K (.ref f)=some (.type "function"))
  (h:codeAny (model prog w) (A.under (.builtin "type.__call__" ⟨.ref C::vs,kw⟩)) (.call (.ref f) ⟨.ref (s.heap.objs.size+1)::vs,kw⟩) (W.InitBack (s.heap.objs.size+1) R)
   { s with heap:=(s.heap.push W.emptyDict).push (W.instObj C s.heap.objs.size) }) :
  codeAny (model prog w) A (.call (.ref C) ⟨vs,kw⟩) R s:=by
 obtain⟨hh,g,d,t,os⟩:=s
 exact W.make_core (W.makes_of X hm) (W.looks_findIn X hi) (fun self=>W.bind_fn X self hf) (.inl rfl) h
end
def j6(f:Str)(v:V):List (Str × V)->List (Str × V)
 |[]=>[(f,v)]
 |(g,x)::r=>if g=f then (g,v)::r else (g,x)::j6 f v r
theorem bz(f g:Str)(v:V):∀fs:List (Str × V),(j6 f v fs).lookup g=if g=f then some v else fs.lookup g
 |[]=>by
  show List.lookup g [(f,v)]=_
  by_cases h:g=f
  ·have hb:(g==f)=true:=beq_iff_eq.mpr h
   simp only [List.lookup,hb,if_pos h]
  ·have hb:(g==f)=false:=beq_eq_false_iff_ne.mpr h
   simp only [List.lookup,hb,if_neg h]
 |(k,x)::r=>by
  have ih:=bz f g v r
  rw [show j6 f v ((k,x)::r)=(if k=f then (k,v)::r else (k,x)::j6 f v r) from rfl]
  by_cases hk:k=f
  ·rw [if_pos hk]
   by_cases h:g=k
   ·have hb:(g==k)=true:=beq_iff_eq.mpr h
    simp only [List.lookup,hb,if_pos (h.trans hk)]
   ·have hb:(g==k)=false:=beq_eq_false_iff_ne.mpr h
    simp only [List.lookup,hb,if_neg (fun e:g=f=>h (e.trans hk.symm))]
  ·rw [if_neg hk]
   by_cases h:g=k
   ·have hb:(g==k)=true:=beq_iff_eq.mpr h
    simp only [List.lookup,hb,if_neg (fun e:g=f=>hk (h.symm.trans e))]
   ·have hb:(g==k)=false:=beq_eq_false_iff_ne.mpr h
    simp only [List.lookup,hb]
    exact ih
theorem gU(f:Str)(v:V):∀fs:List (Str × V),f∈(j6 f v fs).map (·.1)/\∀g,g∈fs.map (·.1)->g∈(j6 f v fs).map (·.1)
 |[]=>⟨by simp [j6],fun g h=>by simp at h⟩
 |(k,x)::r=>by
  obtain⟨i1,i2⟩:=gU f v r
  rw [show j6 f v ((k,x)::r)=(if k=f then (k,v)::r else (k,x)::j6 f v r) from rfl]
  by_cases hk:k=f
  ·rw [if_pos hk]
   subst hk
   exact⟨by simp,fun g h=>by simpa using h⟩
  ·rw [if_neg hk]
   refine⟨?_,fun g h=>?_⟩
   ·rw [List.map_cons]
    exact List.mem_cons_of_mem _ i1
   ·rw [List.map_cons] at h ⊢
    rcases List.mem_cons.mp h with e|e
    ·exact List.mem_cons.mpr (.inl e)
    ·exact List.mem_cons_of_mem _ (i2 g e)
theorem gQ(f:Str)(v:V):∀fs:List (Str × V),(j6 f v fs).length<=fs.length+1
 |[]=>by simp [j6]
 |(k,x)::r=>by
  have ih:=gQ f v r
  rw [show j6 f v ((k,x)::r)=(if k=f then (k,v)::r else (k,x)::j6 f v r) from rfl]
  by_cases hk:k=f
  ·rw [if_pos hk,List.length_cons,List.length_cons];omega
  ·rw [if_neg hk,List.length_cons,List.length_cons];omega
theorem kx.some_of{v:V}{o:Option Value}(r:kx (some v) o):∃u,o=some u/\br v u:=by
 cases o with
 |none=>exact(show False from r).elim
 |some u=>exact⟨u,rfl,r⟩
theorem qP{v:V}{u:Value}(r:br v u):W.handedIn u=true:=by
 cases v with
 |non=>cases (show u=Value.none from r);rfl
 |bl b=>cases (show u=Value.bool b from r);rfl
 |int i=>obtain⟨t,e⟩:=(show ∃t,u=Value.int i t from r);cases e;rfl
 |str x=>obtain⟨t,e⟩:=(show ∃t,u=Value.str x t from r);cases e;rfl
 |byt b=>obtain⟨t,e⟩:=(show ∃t,u=Value.bytes b t from r);cases e;rfl
 |flt b=>obtain⟨t,e⟩:=(show ∃t,u=Value.float b t from r);cases e;rfl
 |ref a=>cases (show u=Value.ref a from r);rfl
 |ty n=>cases (show u=Value.type n from r);rfl
section
variable{P:Program}{w:World}{H H':Hp}{h h':Heap}{a C dx:Addr}{fs fs':List (Str × V)}
theorem rO(hok:HOk P w H h)(e:H a=some (.ins C dx fs)):∃mA,vY h a dx C mA/\(∀f,kx (fs.lookup f) (mA f))/\PySem.Within mA (fs.map (·.1))/\fs.length<=1000/\H dx=some (.own a):=by
 obtain⟨d,z,ne,ob,mA,n,r,q⟩:=(show cG P w H h a (.ins C dx fs) from hok a _ e)
 exact⟨mA,⟨ob,n,ne⟩,r,q,z,d⟩
end
structure Cls(K:W.Frag)(C:Addr):Prop where
 pg:W.plainGet K C Str.empty=true
 hd:W.hasDictIn K C=true
 po:W.plainOver K C=true
 sa:W.findIn K (.ref C) "__setattr__"=some (some (.builtin "object.__setattr__"))
theorem Cls.get{K:W.Frag}{C:Addr}(c:Cls K C)(f:Str):W.plainGet K C f=true:=c.pg
def bx(K:W.Frag)(C:Addr)(f:Str):Prop:=W.findIn K (.ref C) f=some none
theorem bx.taker{K:W.Frag}{C:Addr}{f:Str}(n:bx K C f):W.takerIn K C f=some none:=by
 unfold W.takerIn
 rw [show W.findIn K (.ref C) f=some none from n]
 rfl
structure Con(K:W.Frag)(C:Addr)(f:Str)(v:V)(u:Value):Prop where
 at_:W.findIn K (.ref C) f=some (some u)
 rel:br v u
 get:W.specialIn K u "__get__"=some none
 cp:W.copiedNames.contains f=false
structure AH(K:W.Frag)(C:Addr)(m:Str)(f:Addr):Prop where
 at_:W.findIn K (.ref C) m=some (some (.ref f))
 fn:W.isFn K (.ref f)=true
 kp:W.keepIn K (.ref f)=true
section
variable{X:Cx}{pins:List (Addr × Obj)}{σ:St}{H:Hp}{s:Shared}{a C dx:Addr}{fs:List (Str × V)}{f:Str}{v:V}{A:Around}{E:Value->Shared->Prop}
theorem nY{b:Bool}{Q:Value->Shared->Prop}(I:Inv X pins σ H s)(e:H a=some (.ins C dx fs))(c:Cls X.K C)(n:bx X.K C f)(l:fs.lookup f=some v)
  (h:∀u s',Inv X pins σ H s'->br v u->Q u s'):wpAny (model X.prog X.w) A (getAttr (.ref a) f b) Q E s:=by
 obtain⟨mA,O,r,_,_,_⟩:=rO I.hok e
 obtain⟨u,hu,ru⟩:=kx.some_of (v:=v) (o:=mA f) (by rw [<-l];exact r f)
 exact vD I.kIn O (c.get f) c.hd n hu (qP ru) (h u _ (I.tok _) ru)
theorem oE{y:V}{u:Value}{Q:Unit->Shared->Prop}(I:Inv X pins σ H s)(e:H a=some (.ins C dx fs))(c:Cls X.K C)(n:bx X.K C f)(hl:fs.length < 1000)(ry:br y u)
  (h:∀s',Inv X pins σ (upd H a (.ins C dx (j6 f y fs))) s'->Q () s'):wpAny (model X.prog X.w) A (setAttr (.ref a) f u) Q E s:=by
 obtain⟨mA,O,r,wi,_,ho⟩:=rO I.hok e
 have hz:(fs.map (·.1)).length<=sizeLine:=by rw [List.length_map,sizeLine_eq];omega
 refine uP I.kIn O c.sa c.po n.taker c.hd wi hz fun h' O' sb=>h _ ?_
 have hd:∃o,h'.get? dx=some o:=let ⟨o,_,_,e',_⟩:=O'.ns;⟨o,e'⟩
 refine I.write (x:=a) (e:=dx) (by rw [e];exact True.intro) (.inr ho) (fun b q hb z=>(sb.2 b hb).trans z) hd ?_
 refine⟨by rw [am O.ne];exact ho,?_,O.ne,O'.obj,_,O'.ns,fun g=>?_,fun g hg=>?_⟩
 ·have:=gQ f y fs;omega
 ·show kx ((j6 f y fs).lookup g) (if g=f then some u else mA g)
  rw [bz]
  by_cases q:g=f
  ·rw [if_pos q,if_pos q];exact ry
  ·rw [if_neg q,if_neg q];exact r g
 ·by_cases q:g=f
  ·rw [q];exact(gU f y fs).1
  ·refine(gU f y fs).2 g (wi g fun z=>hg ?_)
   show(if g=f then some u else mA g)=none
   rw [if_neg q];exact z
theorem Inv.made(I:Inv X pins σ H s):Inv X pins σ (upd (upd H s.heap.objs.size (.own (s.heap.objs.size+1))) (s.heap.objs.size+1) (.ins C s.heap.objs.size []))
  { s with heap:=(s.heap.push W.emptyDict).push (W.instObj C s.heap.objs.size) }:=by
 have e1:(s.heap.push W.emptyDict).get? s.heap.objs.size=some W.emptyDict:=Heap.get?_push_size s.heap rfl
 have e2:((s.heap.push W.emptyDict).push (W.instObj C s.heap.objs.size)).get? (s.heap.objs.size+1)=some (W.instObj C s.heap.objs.size):=by
  have:=Heap.get?_push_size (s.heap.push W.emptyDict) (o:=W.instObj C s.heap.objs.size) rfl
  rwa [Heap.size_push] at this
 have e3:(s.heap.push W.emptyDict).Ns s.heap.objs.size (fun _=>none):=⟨W.emptyDict,#[],_,e1,rfl,(fun e he=>absurd he (by simp)),fun _=>rfl⟩
 have I1:=I.laid (a:=s.heap.objs.size) (o:=.own (s.heap.objs.size+1)) (h':=s.heap.push W.emptyDict) (t':=s.toks) (fun b u q=>Heap.get?_push_of_some _ q) (Nat.le_refl _) ⟨_,e1⟩
 refine I1.laid (a:=s.heap.objs.size+1) (o:=.ins C s.heap.objs.size []) (t':=s.toks) (fun b u q=>Heap.get?_push_of_some _ q) (Nat.le_of_eq (Heap.size_push _ _)) ?_
 have ne:s.heap.objs.size≠s.heap.objs.size+1:=Nat.ne_of_lt (Nat.lt_succ_self _)
 refine⟨by rw [am ne,ac],Nat.zero_le _,ne,e2,fun _=>none,(Heap.Ns1.of_empty e3).at fun o q=>Heap.get?_push_of_some _ q,fun _=>True.intro,fun y hy=>absurd rfl hy⟩
theorem vH{prog:Program}{w:World}{env:Env}{e:Expr}{f:Str}{pos:Pos}{s:Shared}{Q:Value->Shared->Prop}(hb:attributeBase e f env (eval e env)=eval e env)
  (h:wpAny (model prog w) A (eval e env) (fun o s₁=>wpAny (model prog w) A (getAttr o f true) Q E s₁) E s):wpAny (model prog w) A (eval (.Attribute e f pos) env) Q E s :=
 Attribute_any_ h (by rw [arm_eval_Attribute,hb])
end
def zC(K:W.Frag)(ta:TE)(f:Str):TE:=fun σ H Q=>ta σ H fun x H1=>∃a C dx fs v,x=.ref a/\H1 a=some (.ins C dx fs)/\Cls K C/\bx K C f/\fs.lookup f=some v/\Q v H1
def AC(K:W.Frag)(ta tv:TE)(f:Str):TS:=fun D σ H=>tv σ H fun y H1=>ta σ H1 fun x H2=>∃a C dx fs,x=.ref a/\H2 a=some (.ins C dx fs)/\Cls K C/\bx K C f/\fs.length < 1000 /\
 D.nx σ (upd H2 a (.ins C dx (j6 f y fs)))
section
variable{X:Cx}{o e value:Expr}{f:Str}{pos pos' tpos:Pos}{ta tv:TE}
theorem cO(he:PE X e ta)(hb:attributeBase e f X.env (eval e X.env)=eval e X.env):PE X (.Attribute e f pos) (zC X.K ta f):=by
 intro pins s σ H Q I h
 refine vH hb (thn (he pins s σ H _ I h) fun u s1 ⟨x,H1,I1,rx,a,C,dx,fs,v,ex,ea,c,n,l,q⟩=>?_)
 subst ex
 obtain rfl:u=Value.ref a:=rx
 exact nY I1 ea c n l fun u' s2 I2 ru=>⟨v,H1,I2,ru,q⟩
theorem tZ(ha:PE X o ta)(hv:PE X value tv)(hs:swapsWith value (some (.Attribute o f pos')) pos.line X.env=pure false):PS X (.Assign [.Attribute o f pos'] value pos) (AC X.K ta tv f):=by
 intro pins s σ H D I h
 refine plainObj_wpAny_Assign_Attribute (thn (hv pins s σ H _ I h) fun u s1 ⟨y,H1,I1,ry,q⟩=>thn (ha pins s1 σ H1 _ I1 q) fun ov s2 ⟨x,H2,I2,rx,a,C,dx,fs,ex,ea,c,n,l,q2⟩=>?_) hs
 subst ex
 obtain rfl:ov=Value.ref a:=rx
 exact oE I2 ea c n l ry fun s3 I3=>⟨σ,_,I3,q2⟩
end
section
variable{X:Cx}{pins:List (Addr × Obj)}{σ:St}{H:Hp}{s:Shared}{A:Around}{E:Value->Shared->Prop}{Q:Value->Shared->Prop}{c:Value}{b:Bool}
inductive qY (K:W.Frag) (H:Hp):V->Value->Prop where
 |non:qY K H .non (.type "NoneType")
 |bl (x:Bool):qY K H (.bl x) (.type "bool")
 |int (i:Int):qY K H (.int i) (.type "int")
 |str (x:Str):qY K H (.str x) (.type "str")
 |flt (x:UInt64):qY K H (.flt x) (.type "float")
 |lst {a:Addr} {xs:List V} (e:H a=some (.lst xs)):qY K H (.ref a) (.type "list")
 |frz {a:Addr} {o:Obj} {xs:List V} (e:H a=some (.frz o (.lst xs))):qY K H (.ref a) (.type "list")
 |tup {a:Addr} {xs:List V} (e:H a=some (.tup xs)):qY K H (.ref a) (.type "tuple")
 |dK {a:Addr} {kvs:List (Key × V)} (e:H a=some (.dK kvs)):qY K H (.ref a) (.type "dict")
 |dT {a:Addr} {kvs:List (List Key × V)} (e:H a=some (.dT kvs)):qY K H (.ref a) (.type "dict")
 |ins {a C dx:Addr} {fs:List (Str × V)} (e:H a=some (.ins C dx fs)) (cl:Cls K C) (ha:W.findIn K (.ref C) "__class__"=some (some (.builtin "object.__class__")))
   (hn:W.specialIn K (.builtin "object.__class__") "__get__"=some (some (.builtin "getset_descriptor.__get__"))) (htk:W.takesIn K (.builtin "object.__class__")=some true)
   (hm:W.mroIn K C (.type "object")=some true):qY K H (.ref a) (.ref C)
end
structure cA(k:Nat)(A:Around):Prop where
 hd:A.handled=none
 dp:A.depth+3*k+5 < recursionLimit
 un:A.units+16*k+200 < cLine
 gd:A.guards=some []
theorem cA.mono{j k:Nat}{A:Around}(r:cA k A)(h:j<=k):cA j A:=⟨r.hd,by have:=r.dp;omega,by have:=r.un;omega,r.gd⟩
theorem cA.deeper{k:Nat}{A:Around}(r:cA (k+1) A)(env:Env):cA k (A.deeper env) :=
 ⟨r.hd,by have:=r.dp;show A.depth+1+3*k+5 < _;omega,by have:=r.un;show A.units+3+16*k+200 < _;omega,r.gd⟩
theorem n5{A:Around}{C:Addr}{us:List Value}{kw:List (Str × Value)}:(A.under (.builtin "type.__call__" ⟨.ref C::us,kw⟩)).depth=A.depth+1:=by
 first|rfl|simp [Around.under,Code.weight,Code.isCreation,Code.isGuard,Code.isCaller,Code.frames,Code.isFrame,guardIds]
theorem nW{A:Around}{C:Addr}{us:List Value}{kw:List (Str × Value)}:(A.under (.builtin "type.__call__" ⟨.ref C::us,kw⟩)).units=A.units+1:=by
 first|rfl|simp [Around.under,Code.cUnits,Code.frames,Code.isFrame]
theorem lE{A:Around}{C:Addr}{us:List Value}{kw:List (Str × Value)}:(A.under (.builtin "type.__call__" ⟨.ref C::us,kw⟩)).guards=A.guards:=by
 first|rfl|simp [Around.under,Code.guards,Code.isGuard,guardIds,pushGuards]
theorem cA.make{k:Nat}{A:Around}(r:cA (k+1) A)(C:Addr)(us:List Value)(kw:List (Str × Value)):cA k (A.under (.builtin "type.__call__" ⟨.ref C::us,kw⟩)) :=
 ⟨r.hd,by have:=r.dp;rw [n5];omega,by have:=r.un;rw [nW];omega,lE.trans r.gd⟩
theorem cA.depth{k:Nat}{A:Around}(r:cA k A):A.depth < recursionLimit:=by have:=r.dp;omega
theorem cA.units{k:Nat}{A:Around}(r:cA k A):A.units+64 < cLine:=by have:=r.un;omega
def zH:TA:=fun _ H Q=>Q [] H
def vq(ta:TE)(tr:TA):TA:=fun σ H Q=>ta σ H fun x H1=>tr σ H1 fun xs H2=>Q (x::xs) H2
section
variable{X:Cx}{e:Expr}{es:List Expr}{te:TE}{t:TA}{pos:Pos}
theorem ae:PA X [] zH:=fun _ _ _ _ H Q I h=>Calls.spliced_nil ⟨[],H,I,.nil,h⟩
theorem aa(ha:PE X e te)(hr:PA X es t)(hs:starEach (e::es) X.env=(false,eval e X.env)::starEach es X.env:=by rfl):PA X (e::es) (vq te t):=by
 intro pos pins s σ H Q I h
 rw [hs]
 show wpAny _ _ (spliced ((false,eval e X.env)::backTo pos (starEach es X.env))) _ _ s
 refine Calls.spliced_cons (thn (ha pins s σ H _ I h) fun u s1 ⟨x,H1,I1,r1,q1⟩=>?_)
 exact thn (hr pos pins s1 σ H1 _ I1 q1) fun us s2 ⟨xs,H2,I2,r2,q2⟩=>⟨x::xs,H2,I2,.cons r1 r2,q2⟩
structure Wf(o:List V->HO)(xs:List V)(H:Hp)(Q:VK):Prop where
 h:xs.length<=sizeLine
 q:∀p,H p=none->Q (.ref p) (upd H p (o xs))
def Ac(t:TA):TE:=fun σ H Q=>t σ H fun xs H1=>Wf .tup xs H1 Q
def Au(t:TA):TE:=fun σ H Q=>t σ H fun xs H1=>Wf .lst xs H1 Q
theorem ak{x1}(h:PA X es t):PE X (.Tuple es x1 pos) (Ac t):=by
 intro pins s σ H Q I hq
 refine wpAny_Tuple_spliced (thn (h pos pins s σ H _ I hq) fun us s1 ⟨xs,H1,I1,r,z,q⟩=>⟨by rw [<-r.length];exact z,?_⟩)
 have hf:H1 s1.heap.objs.size=none:=I1.hok.fresh (Nat.le_refl _)
 refine⟨.ref s1.heap.objs.size,upd H1 s1.heap.objs.size (.tup xs),I1.laid (t':=s1.toks) (fun b u e=>Heap.get?_push_of_some _ e) (Nat.le_refl _) ?_,rfl,q _ hf⟩
 exact⟨z,us,r,⟨_,Heap.get?_push_size _ rfl,rfl,_,rfl⟩⟩
theorem dq(h:PA X es t):PE X (.List es pos) (Au t):=by
 intro pins s σ H Q I hq
 refine wpAny_List_spliced (thn (h pos pins s σ H _ I hq) fun us s1 ⟨xs,H1,I1,r,z,q⟩=>⟨by rw [<-r.length];exact z,?_⟩)
 have hf:H1 s1.heap.objs.size=none:=I1.hok.fresh (Nat.le_refl _)
 refine⟨.ref s1.heap.objs.size,upd H1 s1.heap.objs.size (.lst xs),I1.laid (t':=s1.toks) (fun b u e=>Heap.get?_push_of_some _ e) (Nat.le_refl _) ?_,rfl,q _ hf⟩
 exact⟨z,us,0,r,Heap.get?_push_size _ rfl⟩
end
abbrev Sp:=List V->Hp->VK->XK->Prop
abbrev CXT:=List Env->Hp->Shared->XK->Value->Shared->Prop
structure tR(P:Program)(w:World)(K:W.Frag)(mg:Str->Option Value)(base:Heap)(A:Around)(outer:List Env)(s:Shared)(H:Hp):Prop where
 frames:A.frames=some outer
 mod:Mod K mg base
 bs:∀b o,base.get? b=some o->s.heap.get? b=some o/\H b=none
 bsz:base.objs.size<=s.heap.objs.size
 funs:s.heap.FunFrames base outer
 frf:∀b∈frs outer,H b=none
 hok:HOk P w H s.heap
 bare:AllBare s.gens
def CE(outer:List Env)(P:Program)(w:World)(H:Hp)(s:Shared)(Q:VK)(u:Value)(s':Shared):Prop :=
 ∃v H',s'.os=s.os/\AllBare s'.gens/\Un (frs outer) [] H H' s.heap s'.heap/\HOk P w H' s'.heap/\br v u/\Q v H'
def CR(CX:CXT)(outer:List Env)(P:Program)(w:World)(H:Hp)(s:Shared)(Q:VK)(E:XK)(r:Result)(s':Shared):Prop :=
 match r with
 |.ok (.ret u)=>CE outer P w H s Q u s'
 |.ok _=>False
 |.error e=>CX outer H s E e s'
structure aV(P:Program)(w:World)(K:W.Frag)(mg:Str->Option Value)(base:Heap)(CX:CXT)(k:Nat)(f:Addr)(fd:FuncData)(ps:List Str)(sp:Sp):Prop where
 len:∀vs H Q E,sp vs H Q E->vs.length=ps.length
 run:∀(A:Around) (outer:List Env) (s:Shared) (H:Hp) (args:Args) (us:List Value) (vs:List V) (Q:VK) (E:XK),cA k A->tR P w K mg base A outer s H->BindsTo s fd args (ps.zip us)->bg vs us->sp vs H Q E ->
  codeAny (model P w) A (.call (.ref f) args) (CR CX outer P w H s Q E) s
theorem tR.make{P:Program}{w:World}{K:W.Frag}{mg:Str->Option Value}{base:Heap}{A:Around}{outer:List Env}{s:Shared}{H:Hp}(e:tR P w K mg base A outer s H)(C:Addr)(us:List Value)(kw:List (Str × Value)) :
  tR P w K mg base (A.under (.builtin "type.__call__" ⟨.ref C::us,kw⟩)) outer s H:=⟨by first|exact e.frames|(simpa [Around.under,Code.envs,Code.isFrame,pushEnvs] using e.frames),e.mod,e.bs,e.bsz,e.funs,e.frf,e.hok,e.bare⟩
section
variable{X:Cx}{pins:List (Addr × Obj)}{σ:St}{H:Hp}{s s':Shared}
theorem Inv.env0(I:Inv X pins σ H s):tR X.prog X.w X.K X.mg X.base X.A X.stack s H :=
 ⟨I.ok.frames,I.ok.mod,I.bs,Nat.le_trans I.ok.bsz I.sz,I.stack,I.stkFree,I.hok,I.bare⟩
theorem Inv.after{Q:VK}{u:Value}(I:Inv X pins σ H s)(h:CE X.stack X.prog X.w H s Q u s'):EP X pins σ Q u s':=by
 obtain⟨v,H',os,bare,un,hok,r,q⟩:=h
 obtain⟨hh,g,d,t,os'⟩:=s'
 obtain rfl:os'=s.os:=os
 exact⟨v,H',I.call (h':=hh) (g':=g) (d':=d) (t':=t) (ch:=[]) un hok bare (fun b z=>absurd z (by simp)),r,q⟩
end
def zc(sp:Sp)(dvs:List V)(E:XK)(t:TA):TE:=fun σ H Q=>t σ H fun vs H1=>sp (vs++dvs) H1 Q E
def yK(C:Addr)(sp:Sp)(dvs:List V)(E:XK)(t:TA):TE:=fun σ H Q=>t σ H fun vs H1=>∀x dx,H1 x=none->H1 dx=none->dx≠x ->
 sp (.ref x::(vs++dvs)) (upd (upd H1 dx (.own x)) x (.ins C dx [])) (fun v H2=>v=.non/\Q (.ref x) H2) E
def aL(K:W.Frag)(fd:FuncData)(ps:List Str)(ds:List Value):Prop :=
 ∀(s:Shared) (us:List Value),K.In s.heap->(us++ds).length=ps.length->BindsTo s fd ⟨us,[]⟩ (ps.zip (us++ds))
theorem aL.all{K:W.Frag}{fd:FuncData}{ps:List Str}(h:∀us:List Value,us.length=ps.length->bindArgs fd ⟨us,[]⟩=pure (ps.zip us)):aL K fd ps []:=fun s us _ hl=>by
 rw [List.append_nil] at hl ⊢
 exact .of_eq (h us hl)
def cT(CX:CXT)(X:Cx)(E:XK):Prop:=∀(pins:List (Addr × Obj)) (σ:St) (H:Hp) (s:Shared) (e:Value) (s':Shared),Inv X pins σ H s->CX X.stack H s E e s'->X.xe e s'
section
variable{X:Cx}{CX:CXT}{k:Nat}{f C:Addr}{fd:FuncData}{ps:List Str}{sp:Sp}{dvs:List V}{ds:List Value}{E:XK}{x m:Str}{p pos apos:Pos}{e o:Expr}{es:List Expr}{ta:TE}{t:TA}
theorem uk{pins:List (Addr × Obj)}{σ:St}{H:Hp}{s:Shared}{Q:VK}{us:List Value}{vs:List V}(F:aV X.prog X.w X.K X.mg X.base CX k f fd ps sp)(hr:cA k X.A)(hb:aL X.K fd ps ds)(hd:bg dvs ds)(hx:cT CX X E)
  (I:Inv X pins σ H s) (r:bg vs us) (h:sp (vs++dvs) H Q E):wpAny (model X.prog X.w) X.A (call (.ref f) us) (EP X pins σ Q) X.xe s:=by
 have r2:bg (vs++dvs) (us++ds):=r.append hd
 have hl:(us++ds).length=ps.length:=by rw [<-r2.length];exact F.len _ _ _ _ h
 refine wpAny_call (codeAny_mono (F.run X.A X.stack s H ⟨us,[]⟩ (us++ds) (vs++dvs) Q E hr I.env0 (hb s us I.kIn hl) r2 h) fun r s' hq=>?_)
 cases r with
 |error e=>exact hx pins σ H s e s' I hq
 |ok fl =>
  cases fl with
  |ret u=>exact I.after hq
  |next=>exact False.elim hq
  |brk=>exact False.elim hq
  |cont=>exact False.elim hq
theorem au(F:aV X.prog X.w X.K X.mg X.base CX k f fd ps sp)(hr:cA k X.A)(hg:Gl X x)(hm:X.mg x=some (.ref f))(hk:W.keepIn X.K (.ref f)=true)(hb:aL X.K fd ps ds)(hd:bg dvs ds)(hx:cT CX X E)
  (ha:PA X (e::es) t) (hdb:(x==("__debug__":Str))=false:=by decide) (he:starEach (e::es) X.env=(false,eval e X.env)::starEach es X.env:=by rfl) (hpl:(backTo pos (starEach es X.env)).any (·.1)=false:=by rfl) :
  PE X (.Call (.Name x p) (e::es) [] pos) (zc sp dvs E t):=by
 intro pins s σ H Q I h
 refine wpAny_Call_Name_kw (gn I hg hm ?_ hdb)
 refine W.callWith_K (h₀:=X.base) I.ok.mod.kin hk (thn (ha pos pins s σ H _ I h) fun us s1 ⟨vs,H1,I1,r,q⟩=>⟨I1.kIn,?_⟩) he hpl
 exact uk F hr hb hd hx I1 r q
structure Mk(K:W.Frag)(C f:Addr):Prop where
 makes:W.makesIn K C=true
 init:W.findIn K (.ref C) "__init__"=some (some (.ref f))
 fn:W.isFn K (.ref f)=true
 kp:W.keepIn K (.ref C)=true
theorem tW{pins:List (Addr × Obj)}{σ:St}{H:Hp}{s:Shared}{Q:VK}{us:List Value}{vs:List V}(M:Mk X.K C f)(F:aV X.prog X.w X.K X.mg X.base CX k f fd ps sp)(hr:cA (k+1) X.A)(hb:aL X.K fd ps ds)(hd:bg dvs ds)
  (hx:cT CX X E) (I:Inv X pins σ H s) (r:bg vs us)
  (h:∀x dx,H x=none->H dx=none->dx≠x->sp (.ref x::(vs++dvs)) (upd (upd H dx (.own x)) x (.ins C dx [])) (fun v H2=>v=.non/\Q (.ref x) H2) E) :
  wpAny (model X.prog X.w) X.A (call (.ref C) us) (EP X pins σ Q) X.xe s:=by
 have hq:=h (s.heap.objs.size+1) s.heap.objs.size (I.hok.fresh (Nat.le_succ _)) (I.hok.fresh (Nat.le_refl _)) (Nat.ne_of_lt (Nat.lt_succ_self _))
 have I2:=Inv.made (C:=C) I
 have r2:bg (V.ref (s.heap.objs.size+1)::(vs++dvs)) (Value.ref (s.heap.objs.size+1)::(us++ds)):=.cons rfl (r.append hd)
 have hl:(Value.ref (s.heap.objs.size+1)::us++ds).length=ps.length:=by
  have e:=r2.length
  rw [F.len _ _ _ _ hq] at e
  exact e.symm
 refine wpAny_call (tX (f:=f) I.kIn M.makes M.init (beq_iff_eq.mp M.fn) (codeAny_mono (F.run _ X.stack _ _ ⟨Value.ref (s.heap.objs.size+1)::us,[]⟩ (Value.ref (s.heap.objs.size+1)::(us++ds)) _ _ E (hr.make C us [])
  (I2.env0.make C us []) (hb _ (Value.ref (s.heap.objs.size+1)::us) I2.kIn hl) r2 hq) fun r s' hq'=>?_))
 cases r with
 |error e=>exact hx pins σ _ _ e s' I2 hq'
 |ok fl =>
  cases fl with
  |ret u =>
   obtain⟨v,H',I3,rv,ev,q3⟩:=I2.after hq'
   subst ev
   exact⟨rv,⟨V.ref (s.heap.objs.size+1),H',I3,rfl,q3⟩⟩
  |next=>exact False.elim hq'
  |brk=>exact False.elim hq'
  |cont=>exact False.elim hq'
theorem lQ(M:Mk X.K C f)(F:aV X.prog X.w X.K X.mg X.base CX k f fd ps sp)(hr:cA (k+1) X.A)(hg:Gl X x)(hm:X.mg x=some (.ref C))(hb:aL X.K fd ps ds)(hd:bg dvs ds)(hx:cT CX X E)
  (ha:PA X (e::es) t) (hdb:(x==("__debug__":Str))=false:=by decide) (he:starEach (e::es) X.env=(false,eval e X.env)::starEach es X.env:=by rfl) (hpl:(backTo pos (starEach es X.env)).any (·.1)=false:=by rfl) :
  PE X (.Call (.Name x p) (e::es) [] pos) (yK C sp dvs E t):=by
 intro pins s σ H Q I h
 refine wpAny_Call_Name_kw (gn I hg hm ?_ hdb)
 refine W.callWith_K (h₀:=X.base) I.ok.mod.kin M.kp (thn (ha pos pins s σ H _ I h) fun us s1 ⟨vs,H1,I1,r,q⟩=>⟨I1.kIn,?_⟩) he hpl
 exact tW M F hr hb hd hx I1 r q
end
section
variable{X:Cx}{CX:CXT}{k:Nat}{f C:Addr}{fd:FuncData}{ps ks:List Str}{sp:Sp}{E:XK}{x m:Str}{p pos apos kpos:Pos}{e o:Expr}{es:List Expr}{kws:List Keyword}{te ta:TE}{t tk:TA}{nm:Option Str}
structure zF(K:W.Frag)(fd:FuncData)(ps ks:List Str)(g:List Value->List Value->List Value)(gV:List V->List V->List V):Prop where
 to:∀(s:Shared) (us ws:List Value),K.In s.heap->(g us ws).length=ps.length->BindsTo s fd ⟨us,ks.zip ws⟩ (ps.zip (g us ws))
 rel:∀{vs:List V} {us:List Value} {zs:List V} {ws:List Value},bg vs us->bg zs ws->bg (gV vs zs) (g us ws)
variable{g:List Value->List Value->List Value}{gV:List V->List V->List V}
end
structure aJ(N P:List Str)(sc:Scope):Prop where
 kind:sc.kind=.function
 co:sc.isCoroutine=false
 gen:sc.isGenerator=false
 nd:N.Nodup
 pre:N.take P.length=P
 par:∀x∈P,sc.names.lookup x=some .local\/sc.names.lookup x=some .cell
 nofree:∀y∈sc.names,y.2≠.free
theorem jP{kindOf:Str->Option NameKind}{x:Str}:∀{binds:List (Str × Value)} {m:Str->Option Value},(∀v,(x,v)∉binds)->bindL kindOf binds m x=m x
 |[],_,_=>rfl
 |(n,v)::r,m,h=>by
  unfold bindL
  rw [jP fun w hw=>h w (List.mem_cons_of_mem _ hw)]
  split
  ·have:x≠n:=by rintro rfl;exact h v List.mem_cons_self
   simp [this]
  ·rfl
theorem kJ{kindOf:Str->Option NameKind}{x:Str}:∀{binds:List (Str × Value)} {m:Str->Option Value},(∀v,(x,v)∉binds)->bindC kindOf binds m x=m x
 |[],_,_=>rfl
 |(n,v)::r,m,h=>by
  unfold bindC
  rw [kJ fun w hw=>h w (List.mem_cons_of_mem _ hw)]
  split
  ·rfl
  ·have:x≠n:=by rintro rfl;exact h v List.mem_cons_self
   simp [this]
theorem jW{kindOf:Str->Option NameKind}{x:Str}{v:Value}:∀{P:List Str} {vs:List Value} {i:Nat} {m:Str->Option Value},P.Nodup->P[i]?=some x->vs[i]?=some v->kindOf x=some .local ->
  bindL kindOf (P.zip vs) m x=some v
 |[],_,_,_,_,h,_,_=>by simp at h
 |_::_,[],_,_,_,_,h,_=>by simp at h
 |p::P,w::vs,0,m,nd,h1,h2,hk=>by
  simp at h1 h2;subst h1;subst h2
  show bindL kindOf ((p,w)::P.zip vs) m p=_
  unfold bindL
  rw [jP fun v hv=>(List.nodup_cons.mp nd).1 (List.of_mem_zip hv).1,if_pos hk]
  simp
 |p::P,w::vs,i+1,m,nd,h1,h2,hk=>by
  show bindL kindOf ((p,w)::P.zip vs) m x=_
  unfold bindL
  exact jW (i:=i) (List.nodup_cons.mp nd).2 (by simpa using h1) (by simpa using h2) hk
theorem jZ{kindOf:Str->Option NameKind}{x:Str}{v:Value}:∀{P:List Str} {vs:List Value} {i:Nat} {m:Str->Option Value},P.Nodup->P[i]?=some x->vs[i]?=some v->kindOf x≠some .local ->
  bindC kindOf (P.zip vs) m x=some v
 |[],_,_,_,_,h,_,_=>by simp at h
 |_::_,[],_,_,_,_,h,_=>by simp at h
 |p::P,w::vs,0,m,nd,h1,h2,hk=>by
  simp at h1 h2;subst h1;subst h2
  show bindC kindOf ((p,w)::P.zip vs) m p=_
  unfold bindC
  rw [kJ fun v hv=>(List.nodup_cons.mp nd).1 (List.of_mem_zip hv).1,if_neg hk]
  simp
 |p::P,w::vs,i+1,m,nd,h1,h2,hk=>by
  show bindC kindOf ((p,w)::P.zip vs) m x=_
  unfold bindC
  exact jZ (i:=i) (List.nodup_cons.mp nd).2 (by simpa using h1) (by simpa using h2) hk
def fh(N:List Str)(vs:List V):St:=vs.map some++List.replicate (N.length - vs.length) none
def dI(CX:CXT)(P:Program)(w:World)(K:W.Frag)(mg:Str->Option Value)(base:Heap)(N:List Str)(qual:Str)(scope:Scope)(f:Addr)(cd:Value)(A:Around)(outer:List Env)(s:Shared)(H:Hp)(E:XK):Cx where
 prog:=P
 w:=w
 K:=K
 mg:=mg
 base:=base
 A:=A.deeper (envOfC qual scope s.heap.objs.size f cd)
 N:=N
 s₀:=s
 H₀:=H
 env:=envOfC qual scope s.heap.objs.size f cd
 outer:=outer
 stack:=envOfC qual scope s.heap.objs.size f cd::outer
 ex:=[]
 calm:=true
 fn:=fun _=>true
 pn:=[]
 xe:=fun e s'=>wpAny (model P w) (A.deeper (envOfC qual scope s.heap.objs.size f cd)) (leaving (envOfC qual scope s.heap.objs.size f cd) e) (fun _ s''=>CX outer H s E e s'') (fun e' s''=>CX outer H s E e' s'') s'
theorem m5{sc:Scope}{n:Nat}{x:Str}(h:sc.names.lookup x=some .cell):∃c,(cellsFrom n sc.names []).lookup x=some c:=by
 have q:=W.cellsFrom_some sc.names n [] (.inl h)
 exact Option.isSome_iff_exists.mp q
theorem rP{CX:CXT}{P:Program}{w:World}{K:W.Frag}{mg:Str->Option Value}{base:Heap}{N ps:List Str}{qual:Str}{scope:Scope}{f:Addr}{cd:Value}{A:Around}{outer:List Env}{s s1:Shared}{H:Hp}{E:XK}{us:List Value}{vs:List V}
  (S:aJ N ps scope) (hd:A.handled=none) (e0:tR P w K mg base A outer s H) (hl:vs.length=ps.length) (r:bg vs us)
  (x:InCallC s s.heap.objs.size (bindL (envOfC qual scope s.heap.objs.size f cd).kindOf (ps.zip us) fun _=>none) (cellsFrom (s.heap.objs.size+1) scope.names []) (bindC (envOfC qual scope s.heap.objs.size f cd).kindOf (ps.zip us) fun _=>none) s1) :
  Inv (dI CX P w K mg base N qual scope f cd A outer s H E) [] (fh N vs) H s1:=by
 have hpl:ps.length<=N.length:=by have:=congrArg List.length S.pre;rw [List.length_take] at this;omega
 obtain⟨h1,tk,rfl,hk⟩:=x.done
 have noA:∀b:Addr,b∉(dI CX P w K mg base N qual scope f cd A outer s H E).ex:=fun b z=>absurd (show b∈([]:List Addr) from z) (by simp)
 refine⟨⟨e0.mod,S.kind,rfl,rfl,Nat.le_refl _,fun y z c h1 h2=>?_,fun y hy=>?_,fun y c _ h=>?_,fun _=>hd,Around.frames_deeper e0.frames,.inr ⟨rfl,rfl⟩,fun b z=>absurd z (noA b),e0.bs,e0.bsz,fun b _ _=>noA b,fun b z=>absurd z (noA b),e0.funs,e0.frf⟩,
  rfl,e0.bare,Un.kept hk,⟨_,x.toInCall.ns,fun i y v h1 h2 h3=>?_⟩,fun y c h=>⟨_,x.cell y c h⟩,e0.hok.fresh (Nat.le_refl _),fun y c h=>?_,fun p hp=>absurd (show p∈([]:List (Addr × Obj)) from hp) (by simp),e0.hok.kept hk,?_⟩
 ·exact name_of_addr x.apart (PySem.mem_of_lookup h1) (PySem.mem_of_lookup h2)
 ·have hy:scope.names.lookup y=some .cell\/scope.names.lookup y=some .free:=hy
  rcases hy with hy|hy
  ·exact m5 hy
  ·exact absurd rfl (S.nofree _ (PySem.mem_of_lookup hy))
 ·exact Nat.le_of_lt (x.above y c (PySem.mem_of_lookup h))
 ·have hi:i < vs.length:=by
   unfold fh at h2
   by_cases hi:i < vs.length
   ·exact hi
   ·rw [List.getElem?_append_right (by simpa using hi)] at h2
    rw [List.getElem?_replicate] at h2
    split at h2<;>cases h2
  have ha:vs[i]?=some v:=by
   unfold fh at h2
   rw [List.getElem?_append_left (by simpa using hi),List.getElem?_map] at h2
   cases e:vs[i]? with
   |none=>rw [e] at h2;cases h2
   |some a=>rw [e] at h2;cases h2;rfl
  obtain⟨u,hu,rv⟩:=r.get ha
  have hp:ps[i]?=some y:=by
   rw [<-S.pre,List.getElem?_take_of_lt (by omega)];exact h1
  have ndP:ps.Nodup:=by rw [<-S.pre];exact S.nd.sublist (List.take_sublist _ _)
  refine⟨u,rv,?_⟩
  rcases S.par y (List.mem_of_getElem? hp) with k|k
  ·exact .inl ⟨k,jW ndP hp hu k⟩
  ·obtain⟨c,e⟩:=m5 (n:=s.heap.objs.size+1) k
   refine .inr ⟨.inl k,c,e,?_⟩
   have q:=x.cell y c e
   rw [jZ ndP hp hu (by show scope.names.lookup y≠_;rw [k];decide)] at q
   exact q
 ·exact e0.hok.fresh (Nat.le_of_lt (x.above y c (PySem.mem_of_lookup h)))
 ·unfold fh
  show _=N.length
  rw [List.length_append,List.length_map,List.length_replicate]
  omega
theorem tY{CX:CXT}{P:Program}{w:World}{K:W.Frag}{mg:Str->Option Value}{base:Heap}{k:Nat}{f:Addr}{name qual:Str}{params:Arguments}{body:List Stmt}{scope:Scope}{dV kV doc pm cdv ct oc:Value}{an od:Option Addr}
  {osl:Array (Option Value)} {N ps:List Str} {sp:Sp} (lk:K.lookup f=some ⟨oc,od,.func (W.fnOf name qual params body scope dV kV doc pm an cdv ct),osl⟩) (hcd:W.codeIn K cdv qual=true) (S:aJ N ps scope)
  (len:∀vs H Q E,sp vs H Q E->vs.length=ps.length)
  (hbody:∀(A:Around) (outer:List Env) (s:Shared) (H:Hp) (vs:List V) (Q:VK) (E:XK),cA k (A.deeper (envOfC qual scope s.heap.objs.size f cdv))->sp vs H Q E ->
   ∃t,PSs (dI CX P w K mg base N qual scope f cdv A outer s H E) body t/\t { nx:=fun _ H'=>Q .non H',rt:=Q } (fh N vs) H) :
  aV P w K mg base CX (k+1) f (W.fnOf name qual params body scope dV kV doc pm an cdv ct) ps sp:=by
 refine⟨len,fun A outer s H args us vs Q E hr e0 hb r hsp=>?_⟩
 have hl:=len _ _ _ _ hsp
 have KX:K.In s.heap:=e0.mod.kin.keeps fun b o e=>(e0.bs b o e).1
 have lim:s.heap.NoLimit:=e0.mod.nolimit.keeps fun b o e=>(e0.bs b o e).1
 have hkind:∀y∈ps.zip us,scope.names.lookup y.1=some .local\/(scope.names.lookup y.1=some .cell/\((cellsFrom (s.heap.objs.size+1) scope.names []).lookup y.1).isSome=true):=fun⟨n,v⟩ hy=>by
  rcases S.par n (List.of_mem_zip hy).1 with q|q
  ·exact .inl q
  ·exact .inr ⟨q,W.cellsFrom_some _ _ _ (.inl q)⟩
 refine codeAny_call_function hr.depth (KX _ _ lk) rfl S.co S.gen rfl (W.codeRec_of KX hcd) (hb _ _ _ _ ?_)
 refine wpAny_newFunctionEnv_cells S.kind hkind fun env he s1 x=>?_
 subst he
 refine⟨lim.keeps x.toInCall.keep,codeAny_func ?_⟩
 obtain⟨t,ht,hq⟩:=hbody A outer s H vs Q E (hr.deeper _) hsp
 have I:Inv (dI CX P w K mg base N qual scope f cdv A outer s H E) [] (fh N vs) H s1:=rP S hr.hd e0 hl r x
 refine wpAny_mono (ht [] s1 (fh N vs) H _ I hq) (fun fl s' hs=>?_) fun e s' hs=>hs
 have fin:∀{σ':St} {H':Hp} {v:V} {u:Value},Inv (dI CX P w K mg base N qual scope f cdv A outer s H E) [] σ' H' s'->br v u->Q v H'->CE outer P w H s Q u s' :=
  fun {σ' H' v u} J rv q=>⟨v,H',J.os,J.bare,J.base,J.hok,rv,q⟩
 cases fl with
 |ret u =>
  obtain⟨v,σ',H',J,rv,q⟩:=hs
  exact fin J rv q
 |next =>
  obtain⟨σ',H',J,q⟩:=hs
  exact fin (v:=V.non) (u:=Value.none) J rfl q
 |brk =>
  obtain⟨_,_,_,q⟩:=hs
  exact False.elim q
 |cont =>
  obtain⟨_,_,_,q⟩:=hs
  exact False.elim q
section
variable{X:Cx}{x:Str}{p pos:Pos}{e:Expr}{es:List Expr}{t:TA}{id T:String}{r:List V->Hp->VK->Prop}
def tCB(r:List V->Hp->VK->Prop)(t:TA):TE:=fun σ H Q=>t σ H fun vs H1=>r vs H1 Q
theorem bU(hc:ke X (.builtin id) r)(hg:Gl X x)(hm:X.mg x=none)(hv:bootBuiltins x=some (.builtin id))(ha:PA X (e::es) t) (hn:x≠"__name__":=by decide) (hdb:(x==("__debug__":Str))=false:=by decide)
  (he:starEach (e::es) X.env=(false,eval e X.env)::starEach es X.env:=by rfl) (hpl:(backTo pos (starEach es X.env)).any (·.1)=false:=by rfl):PE X (.Call (.Name x p) (e::es) [] pos) (tCB r t):=by
 intro pins s σ H Q I h
 refine wpAny_Call_Name_kw (nR I hg hm hv ?_ hn hdb)
 exact PyProof.Rows.callWith_builtin1 (thn (ha pos pins s σ H _ I h) fun us s1 ⟨vs,H1,I1,r1,q1⟩=>hc pins s1 σ H1 vs us Q I1 r1 q1) he hpl
theorem cw(hc:ke X (.type T) r)(hg:Gl X x)(hm:X.mg x=none)(hv:bootBuiltins x=some (.type T))(ha:PA X (e::es) t) (hn:x≠"__name__":=by decide) (hdb:(x==("__debug__":Str))=false:=by decide)
  (he:starEach (e::es) X.env=(false,eval e X.env)::starEach es X.env:=by rfl) (hpl:(backTo pos (starEach es X.env)).any (·.1)=false:=by rfl):PE X (.Call (.Name x p) (e::es) [] pos) (tCB r t):=by
 intro pins s σ H Q I h
 refine wpAny_Call_Name_kw (nR I hg hm hv ?_ hn hdb)
 exact PyProof.Rows.callWith_type1 (thn (ha pos pins s σ H _ I h) fun us s1 ⟨vs,H1,I1,r1,q1⟩=>hc pins s1 σ H1 vs us Q I1 r1 q1) he hpl
end
end L2
namespace HT
open PySem PyProof.Rows
section
open PySem.SeqAt
open PySem.AutoSeq1 (wpAny_loadPart')
open PySem.MeetsSeq PySem.MeetsSeq2 PySem.MeetsSeq3
end
section
variable{prog:Program}{w:World}{A:Around}{E:Value->Shared->Prop}{s:Shared}
def sIx(n d:Nat):Option Int->Nat
 |none=>d
 |some v=>if v < 0 then (v+(n:Int)).toNat else min v.toNat n
theorem sIx_none(n d:Nat):sIx n d none=d:=rfl
theorem sIx_nat(n d k:Nat):sIx n d (some (k:Int))=min k n:=by
 show(if (k:Int) < 0 then ((k:Int)+(n:Int)).toNat else min (k:Int).toNat n)=min k n
 rw [if_neg (by omega),Int.toNat_natCast]
theorem xn(n d:Nat)(hd:d<=n)(o:Option Int):sIx n d o<=n:=by
 cases o with
 |none=>exact hd
 |some v =>
  show(if v < 0 then (v+(n:Int)).toNat else min v.toNat n)<=n
  by_cases hv:v < 0
  ·rw [if_pos hv];omega
  ·rw [if_neg hv];exact Nat.min_le_right _ _
theorem pH(v:Int)(n d:Nat):(if v < 0 then max (v+(n:Int)) 0 else min v (n:Int))=((sIx n d (some v):Nat):Int):=by
 show(if v < 0 then max (v+(n:Int)) 0 else min v (n:Int))=(((if v < 0 then (v+(n:Int)).toNat else min v.toNat n):Nat):Int)
 by_cases hv:v < 0
 ·simp only [if_pos hv];omega
 ·simp only [if_neg hv];omega
theorem ou(lo hi:Option Int)(n:Nat):Builtin.Slice.sliceAdjust lo hi 1 (n:Int)=(((sIx n 0 lo:Nat):Int),((sIx n n hi:Nat):Int)):=by
 have h1:¬((1:Int) < 0):=by omega
 unfold Builtin.Slice.sliceAdjust
 simp only [h1,if_false]
 refine Prod.ext ?_ ?_
 ·cases lo with
  |none=>rfl
  |some v=>exact pH v n 0
 ·cases hi with
  |none=>rfl
  |some v=>exact pH v n n
theorem oh(i j:Nat):Builtin.Slice.slicePlaces (i:Int) (j:Int) 1=j - i:=by
 unfold Builtin.Slice.slicePlaces
 have h1:(1:Int) > 0:=by omega
 simp only [h1,if_true,Int.ediv_one]
 split<;>omega
theorem iZ{v:Value}{o:Option Int}{Q:Option Int->Shared->Prop}(p:IsPart v o)(h:Q o s):wpAny (model prog w) A (Builtin.Slice.slicePartIndex v) Q E s:=by
 cases p with
 |none=>exact slicePart_none h
 |int i t=>exact slicePart_int h
theorem gF{sl:Addr}{vl vu:Value}{lo hi:Option Int}{n:Nat}{Q:Int × Int × Nat->Shared->Prop}(hs:s.heap.IsSliceOf sl vl vu .none)(pl:IsPart vl lo)(pu:IsPart vu hi)
  (h:Q (((sIx n 0 lo:Nat):Int),1,sIx n n hi - sIx n 0 lo) s):wpAny (model prog w) A (Builtin.Slice.sliceApplied (.ref sl) (pure (n:Int))) Q E s:=by
 obtain⟨os,hos,hcs,hds⟩:=id hs
 unfold Builtin.Slice.sliceApplied Builtin.Slice.sliceFields
 refine wpAny_bind (wpAny_bind (wpAny_field hos hds (x:=vl) rfl (wpAny_bind (wpAny_field hos hds (x:=vu) rfl (wpAny_bind (wpAny_field hos hds (x:=.none) rfl (wpAny_pure ?_)))))))
 refine wpAny_bind (slicePart_none ?_)
 show wpAny _ _ (if ((1:Int)==0)=true then _ else _) _ _ s
 rw [if_neg (by decide)]
 refine wpAny_bind (iZ pl (wpAny_bind (iZ pu (wpAny_bind (wpAny_pure ?_)))))
 show wpAny _ _ (match Builtin.Slice.sliceAdjust lo hi 1 (n:Int) with|(lo,hi)=>pure (lo,(1:Int),Builtin.Slice.slicePlaces lo hi 1)) _ _ s
 rw [ou lo hi n]
 show wpAny _ _ (pure (((sIx n 0 lo:Nat):Int),(1:Int),Builtin.Slice.slicePlaces ((sIx n 0 lo:Nat):Int) ((sIx n n hi:Nat):Int) 1)) _ _ s
 rw [oh]
 exact wpAny_pure h
theorem rX(xs:Array Value)(i k:Nat):((List.range k).filterMap fun(m:Nat)=>xs[((i:Int)+(m:Int)*1).toNat]?).toArray=((xs.toList.drop i).take k).toArray:=by
 have e:(fun(m:Nat)=>xs[((i:Int)+(m:Int)*1).toNat]?)=fun m=>xs[i+m]?:=by
  funext m
  have:((i:Int)+(m:Int)*1).toNat=i+m:=by omega
  rw [this]
 rw [e]
 have:=pick_run xs i k
 rw [List.filterMap_map] at this
 have e2:((fun x=>xs[x]?)∘fun x=>i+x)=fun m=>xs[i+m]?:=rfl
 rw [e2] at this
 rw [this]
theorem getItem_tuple_cut{t sl:Addr}{items:Array Value}{vl vu:Value}{lo hi:Option Int}{Q:Value->Shared->Prop}(ht:IsTup s.heap t items)(hs:s.heap.IsSliceOf sl vl vu .none)(pl:IsPart vl lo)(pu:IsPart vu hi)
  (hw:¬(sIx items.size 0 lo=0/\sIx items.size items.size hi=items.size))
  (h:Q (.ref s.heap.objs.size) { s with heap:=s.heap.push { cls:=.type "tuple",data:=.seq ((items.toList.drop (sIx items.size 0 lo)).take (sIx items.size items.size hi - sIx items.size 0 lo)).toArray } })
  (hsz:items.size<=sizeLine):wpAny (model prog w) A (getItem (.ref t) (.ref sl)) Q E s:=by
 have htake:sizeOk (.seq ((items.toList.drop (sIx items.size 0 lo)).take (sIx items.size items.size hi - sIx items.size 0 lo)).toArray):=by
  show((items.toList.drop (sIx items.size 0 lo)).take (sIx items.size items.size hi - sIx items.size 0 lo)).toArray.size<=sizeLine
  rw [List.size_toArray,List.length_take,List.length_drop,Array.length_toList]
  omega
 have hj:sIx items.size items.size hi<=items.size:=xn _ _ (Nat.le_refl _) hi
 obtain⟨os,hos,hcs,hds⟩:=id hs
 have hTs:s.TypeIs (.ref sl) "slice":=⟨os,hos,hcs⟩
 unfold getItem
 try with_reducible refine wpAny_holding ?_
 first|refine wpAny_bind (wpAny_pure ?_)|skip
 refine wpAny_bind (wpAny_sequenceKey ht.typeIs (by decide) ?_)
 refine wpAny_bind (wpAny_callSpecial?_slot (name:=Str.ofString "__getitem__") ht.typeIs PyProof.Rows.slot_tuple_getitem
  (wpAny_call_entry PyProof.Rows.slot_tuple_getitem ht.typeIs entry_tuple_getitem ?_ (args_tuple_getitem _ _)))
 show wpAny _ _ (Builtin.Tuple.tupleItemsOf (.ref t) >>= _) _ _ s
 refine wpAny_bind (tupleItemsOf_ ht ?_)
 refine wpAny_bind (wpAny_typeOf hTs ?_)
 rw [if_pos (by decide)]
 refine wpAny_bind (gF hs pl pu ?_)
 have hno:¬((((sIx items.size 0 lo:Nat):Int)==0&&(1:Int)==1&&(sIx items.size items.size hi - sIx items.size 0 lo)==items.size)=true):=by
  intro q
  rw [Bool.and_eq_true,Bool.and_eq_true] at q
  have q1:((sIx items.size 0 lo:Nat):Int)=0:=eq_of_beq q.1.1
  have q2:sIx items.size items.size hi - sIx items.size 0 lo=items.size:=eq_of_beq q.2
  exact hw ⟨by omega,by omega⟩
 show wpAny _ _ (if (((sIx items.size 0 lo:Nat):Int)==0&&(1:Int)==1&&(sIx items.size items.size hi - sIx items.size 0 lo)==items.size)=true then _ else _) _ _ s
 rw [if_neg hno,rX]
 first
  |exact wpAny_bind (m:=Builtin.Tuple.tupleExact _) (wpAny_newObj_type (wpAny_pure ⟨_,rfl,wpAny_pure h⟩) htake)
  |exact wpAny_bind (m:=Builtin.Tuple.tupleExact _) (wpAny_newObj_type (wpAny_bind (wpAny_pure (wpAny_pure ⟨_,rfl,wpAny_pure h⟩))) htake)
  |exact wpAny_bind (wpAny_bind (m:=Builtin.Tuple.tupleExact _) (wpAny_newObj_type (wpAny_pure (wpAny_pure ⟨_,rfl,wpAny_pure h⟩)) htake))
  |exact wpAny_bind (wpAny_bind (m:=Builtin.Tuple.tupleExact _) (wpAny_newObj_type (wpAny_pure ⟨_,rfl,wpAny_pure h⟩) htake))
end
end HT
namespace L2
open PySem PySem.Spec PyProof.Rows
abbrev TO:=St->Hp->(Option Int->Hp->Prop)->Prop
def PO(X:Cx)(e:Option Expr)(t:TO):Prop :=
 ∀(pins:List (Addr × Obj)) (s:Shared) (σ:St) (H:Hp) (Q:Option Int->Hp->Prop),Inv X pins σ H s->t σ H Q ->
  wpAny (model X.prog X.w) X.A (evalPart e X.env) (fun u s'=>∃o H',Inv X pins σ H' s'/\IsPart u o/\Q o H') X.xe s
def vv:TO:=fun _ H Q=>Q none H
def yT(t:TE):TO:=fun σ H Q=>t σ H fun x H1=>∃i,x=.int i/\Q (some i) H1
section
variable{X:Cx}{e:Expr}{te:TE}{lo hi:Option Expr}{tl th:TO}{pos p2:Pos}
theorem lF:PO X none vv:=by
 intro pins s σ H Q I h
 rw [evalPart_none]
 exact wpAny_pure ⟨none,H,I,.none,h⟩
theorem lK(h:PE X e te):PO X (some e) (yT te):=by
 intro pins s σ H Q I hw
 rw [evalPart_some]
 refine thn (h pins s σ H _ I hw) fun u s1 ⟨x,H1,I1,r1,q1⟩=>?_
 obtain⟨i,rfl,q⟩:=q1
 obtain⟨t,rfl⟩:=r1
 exact⟨some i,H1,I1,.int i t,q⟩
def SlR(X:Cx)(r:V->Option Int->Option Int->Hp->VK->Prop):Prop :=
 ∀(pins:List (Addr × Obj)) (s:Shared) (σ:St) (H:Hp) (x:V) (v vl vu:Value) (lo hi:Option Int) (sl:Addr) (Q:VK),Inv X pins σ H s->br x v->s.heap.IsSliceOf sl vl vu .none->IsPart vl lo->IsPart vu hi->r x lo hi H Q ->
  ∃T id,typeLookup (.type T) "__getitem__"=pure (some (.builtin id))/\s.TypeIs v T/\wpAny (model X.prog X.w) X.A (getItem v (.ref sl)) (EP X pins σ Q) X.xe s
def tSl(r:V->Option Int->Option Int->Hp->VK->Prop)(te:TE)(tl th:TO):TE:=fun σ H Q=>te σ H fun x H1=>tl σ H1 fun l H2=>th σ H2 fun u H3=>r x l u H3 Q
theorem jy{r:V->Option Int->Option Int->Hp->VK->Prop}(hr:SlR X r)(he:PE X e te)(hl:PO X lo tl)(hu:PO X hi th):PE X (.Subscript e (.Slice lo hi none p2) pos) (tSl r te tl th):=by
 intro pins s σ H Q I h
 refine Subscript_ (thn (he pins s σ H _ I h) fun v s1 ⟨x,H1,I1,r1,q1⟩=>?_)
 refine wpAny_Slice (thn (hl pins s1 σ H1 _ I1 q1) fun vl s2 ⟨l,H2,I2,pl,q2⟩=>thn (hu pins s2 σ H2 _ I2 q2) fun vu s3 ⟨u,H3,I3,pu,q3⟩=>?_)
 rw [evalPart_none]
 refine wpAny_pure ?_
 have I4:Inv X pins σ H3 { s3 with heap:=s3.heap.push { cls:=.type "slice",data:=.fields #[vl,vu,.none] } }:=I3.kept (t':=s3.toks) fun b ob q=>Heap.get?_push_of_some _ q
 obtain⟨T,id,hT,ht,hg⟩:=hr pins { s3 with heap:=s3.heap.push { cls:=.type "slice",data:=.fields #[vl,vu,.none] } } σ H3 x v vl vu l u s3.heap.objs.size Q I4 r1 (Heap.IsSliceOf.new ..) pl pu q3
 show wpAny (model X.prog X.w) X.A (subscriptTail e (.Slice lo hi none p2) v (.ref s3.heap.objs.size)) (EP X pins σ Q) X.xe { s3 with heap:=s3.heap.push { cls:=.type "slice",data:=.fields #[vl,vu,.none] } }
 exact tail_any (ops:=[.ref s3.heap.objs.size,v]) ht hT hg (by with_unfolding_all rfl)
def nE(xs:List V)(lo hi:Option Int):List V:=(xs.drop (HT.sIx xs.length 0 lo)).take (HT.sIx xs.length xs.length hi - HT.sIx xs.length 0 lo)
theorem ij(xs:List V)(lo hi:Option Int):(nE xs lo hi).length<=xs.length:=by
 unfold nE
 rw [List.length_take,List.length_drop]
 omega
def AA(K:W.Frag):V->Option Int->Option Int->Hp->VK->Prop:=fun x lo hi H Q=>∃a xs,x=.ref a/\SqT K H a xs /\
 ¬(HT.sIx xs.length 0 lo=0/\HT.sIx xs.length xs.length hi=xs.length)/\∀p,H p=none->Q (.ref p) (upd H p (.tup (nE xs lo hi)))
theorem xQ:SlR X (AA X.K):=by
 intro pins s σ H x v vl vu lo hi sl Q I rx hs pl pu h
 obtain⟨a,xs,rfl,hx,hw,q⟩:=h
 cases rx
 obtain⟨its,r,ht,hz⟩:=I.tuple hx
 have hlen:its.toArray.size=xs.length:=by rw [List.size_toArray];exact r.length.symm
 refine⟨"tuple",_,PyProof.Rows.slot_tuple_getitem.lookup,ht.typeIs,?_⟩
 refine HT.getItem_tuple_cut ht hs pl pu (by rw [hlen];exact hw) ?_ (by rw [hlen];exact hz)
 rw [hlen]
 refine⟨.ref s.heap.objs.size,_,I.laid (t':=s.toks) (o:=.tup (nE xs lo hi)) (fun b ob q=>Heap.get?_push_of_some _ q) (Nat.le_refl _) ?_,rfl,q _ (I.hok.fresh (Nat.le_refl _))⟩
 exact⟨Nat.le_trans (ij xs lo hi) hz,_,(r.drop (HT.sIx xs.length 0 lo)).take (HT.sIx xs.length xs.length hi - HT.sIx xs.length 0 lo),IsTup.new _ _⟩
end
def ixN(n:Nat)(i:Int):Option Nat:=if 0<=i then (if i < n then some i.toNat else none) else if -(n:Int)<=i then some (i+n).toNat else none
def atI{α:Type}(xs:List α)(i:Int):Option α:=(ixN xs.length i).bind fun j=>xs[j]?
theorem rj{n:Nat}{i:Int}{j:Nat}(h:ixN n i=some j):seqIndex? i n=some j/\j < n/\-(n:Int)<=i/\i < n:=by
 unfold ixN at h
 by_cases h0:0<=i
 ·rw [if_pos h0] at h
  by_cases h1:i < n
  ·rw [if_pos h1] at h
   have e:i.toNat=j:=Option.some.inj h
   exact⟨by rw [seqIndex_of h0 h1,e],by omega,by omega,h1⟩
  ·rw [if_neg h1] at h;cases h
 ·rw [if_neg h0] at h
  by_cases h1:-(n:Int)<=i
  ·rw [if_pos h1] at h
   have e:(i+n).toNat=j:=Option.some.inj h
   exact⟨by rw [seqIndex_neg (by omega) h1,e],by omega,h1,by omega⟩
  ·rw [if_neg h1] at h;cases h
theorem lL{α:Type}{xs:List α}{i:Int}{v:α}(h:atI xs i=some v):∃j,seqIndex? i xs.length=some j/\xs[j]?=some v/\j < xs.length/\-(xs.length:Int)<=i/\i < xs.length:=by
 unfold atI at h
 cases e:ixN xs.length i with
 |none=>rw [e] at h;cases h
 |some j =>
  rw [e] at h
  obtain⟨h1,h2,h3,h4⟩:=rj e
  exact⟨j,h1,h,h2,h3,h4⟩
theorem eZ{α:Type}{xs:List α}{j:Nat}{v:α}(h:xs[j]?=some v):atI xs (j:Int)=some v:=by
 have hj:j < xs.length:=(List.getElem?_eq_some_iff.mp h).1
 have e:ixN xs.length (j:Int)=some j:=by
  unfold ixN
  rw [if_pos (by omega),if_pos (by omega)];simp
 unfold atI;rw [e];exact h
def vk(b:Expr):Prop:=∀o i,subscripted b false o i=operate [o,i] (getItem o i)
def IxR(X:Cx)(r:R2):Prop :=
 ∀(value slice:Expr) (pins:List (Addr × Obj)) (s:Shared) (σ:St) (H:Hp) (x y:V) (v u:Value) (Q:VK),Inv X pins σ H s->br x v->br y u->r x y H Q ->
  subscripted slice false v u=operate [v,u] (getItem v u)->wpAny (model X.prog X.w) X.A (subscriptTail value slice v u) (EP X pins σ Q) X.xe s
def MtR(X:Cx)(id:String)(r:V->List V->Hp->VK->Prop):Prop :=
 ∀(pins:List (Addr × Obj)) (s:Shared) (σ:St) (H:Hp) (x:V) (xs:List V) (v:Value) (us:List Value) (Q:VK),Inv X pins σ H s->br x v->bg xs us->r x xs H Q ->
  wpAny (model X.prog X.w) X.A (call (.builtin id) (v::us)) (EP X pins σ Q) X.xe s
section
variable{X:Cx}{a b:Expr}{ta tb:TE}{pos:Pos}
theorem aq{r:R2}(hr:IxR X r)(ha:PE X a ta)(hb:PE X b tb)(hs:vk b):PE X (.Subscript a b pos) (tOp r ta tb):=by
 intro pins s σ H Q I h
 exact Subscript_ (yG ha hb I h fun v u s2 x y H2 I2 rx ry q=>hr a b pins s2 σ H2 x y v u Q I2 rx ry q (hs _ _))
inductive Wg (S:W.Frag->Hp->Addr->List V->Prop) (K:W.Frag) (x y:V) (H:Hp) (Q:VK):Prop
 |mk (p:Addr) (xs:List V) (i:Int) (v:V) (a:x=.ref p) (b:y=.int i) (c:S K H p xs) (d:atI xs i=some v) (q:Q v H)
def z8(K:W.Frag):R2:=fun x y H Q=>Wg SqL K x y H Q
def Ad(K:W.Frag):R2:=fun x y H Q=>Wg SqT K x y H Q
def zY:R2:=fun x y H Q=>∃z i c,x=.str z/\y=.int i/\z.length<=sizeLine/\atI z.cps.toList i=some c/\Q (.str ⟨#[c]⟩) H
theorem ap:IxR X (z8 X.K):=by
 intro value slice pins s σ H x y v u Q I rx ry h hs
 obtain⟨p,xs,i,z,rfl,rfl,hq,he,q⟩:=h
 cases rx
 obtain⟨t,rfl⟩:=ry
 obtain⟨its,r,pl,hz⟩:=I.list hq
 obtain⟨j,h1,h2,h3,h4,h5⟩:=lL he
 obtain⟨w,ew,rw'⟩:=r.get h2
 have hl:=r.length
 have hn:=j5
 have fin:EP X pins σ Q w s:=⟨z,H,I,rw',q⟩
 by_cases h0:0<=i
 ·have hj:i.toNat=j:=by
   rw [seqIndex_of h0 h5] at h1
   exact Option.some.inj h1
  exact item_listR pl.isList h0 (by omega) (by rw [hj];simpa using ew) fin hs
 ·have hj:(i+(its.toArray.size:Int)).toNat=j:=by
   rw [seqIndex_neg (by omega) h4] at h1
   rw [List.size_toArray,<-hl]
   exact Option.some.inj h1
  exact subscriptTail_builtinR (x:=w) pl.isList.typeIs slot_list_getitem.lookup
   (wpAny_getItem_list_neg (Q:=fun r s'=>r=w/\EP X pins σ Q r s') pl.isList (by omega) (by rw [List.size_toArray]<;>omega) (by omega) (by rw [hj];simpa using ew) ⟨rfl,fin⟩) hs
theorem aG:IxR X (Ad X.K):=by
 intro value slice pins s σ H x y v u Q I rx ry h hs
 obtain⟨p,xs,i,z,rfl,rfl,hq,he,q⟩:=h
 cases rx
 obtain⟨t,rfl⟩:=ry
 obtain⟨its,r,pl,hz⟩:=I.tuple hq
 obtain⟨j,h1,h2,h3,h4,h5⟩:=lL he
 obtain⟨w,ew,rw'⟩:=r.get h2
 have hl:=r.length
 have hn:=j5
 have fin:EP X pins σ Q w s:=⟨z,H,I,rw',q⟩
 exact subscriptTail_builtinR (x:=w) pl.typeIs slot_tuple_getitem.lookup
  (getItem_tuple (j:=j) (Q:=fun r s'=>r=w/\EP X pins σ Q r s') pl (by omega) (by omega) (by rw [List.size_toArray,<-hl];exact h1) (by simpa using ew) ⟨rfl,fin⟩) hs
theorem pU:IxR X zY:=by
 intro value slice pins s σ H x y v u Q I rx ry h hs
 obtain⟨z,i,c,rfl,rfl,hz,he,q⟩:=h
 obtain⟨t,rfl⟩:=rx
 obtain⟨t',rfl⟩:=ry
 obtain⟨j,h1,h2,h3,h4,h5⟩:=lL he
 have hl:z.cps.toList.length=z.length:=by simp [Str.length]
 rw [hl] at h1 h4 h5
 have hn:=j5
 exact tail_any (typeIs_str s z t) slot_str_getitem.lookup (getItem_str (c:=c) (by
  have e1:decide (i < -(2 ^ 63:Int))=false:=decide_eq_false (by omega)
  have e2:decide (i≥2 ^ 63)=false:=decide_eq_false (by omega)
  rw [e1,e2,Bool.or_false]) (by rw [h1];simpa using h2) ⟨.str ⟨#[c]⟩,H,I.tok _,⟨_,rfl⟩,q⟩) hs
theorem nZ(its:List Value)(n j:Nat)(u:Value):Obj.mapSeq (·.setIfInBounds j u) { cls:=.type "list",data:=.seq its.toArray n }={ cls:=.type "list",data:=.seq (its.set j u).toArray n }:=by
 simp [Obj.mapSeq]
theorem Inv.lst{pins:List (Addr × Obj)}{σ:St}{H:Hp}{s:Shared}{p:Addr}{xs:List V}(I:Inv X pins σ H s)(h:H p=some (.lst xs)) :
  ∃(its:List Value) (n:Nat),bg xs its/\s.heap.get? p=some { cls:=.type "list",data:=.seq its.toArray n }/\xs.length<=sizeLine:=by
 obtain⟨z,its,n,r,e⟩:=I.hok p _ h
 exact⟨its,n,r,e,z⟩
theorem Inv.lstUpd{pins:List (Addr × Obj)}{σ:St}{H:Hp}{s:Shared}{p:Addr}{xs ys:List V}{its its':List Value}{n n':Nat}{f:Obj->Obj}(I:Inv X pins σ H s)(h:H p=some (.lst xs))
  (ho:s.heap.get? p=some { cls:=.type "list",data:=.seq its.toArray n }) (hf:f { cls:=.type "list",data:=.seq its.toArray n }={ cls:=.type "list",data:=.seq its'.toArray n' }) (r:bg ys its') (hz:ys.length<=sizeLine) (t:Nat) :
  Inv X pins σ (upd H p (.lst ys)) { s with heap:=s.heap.update p f,toks:=t }:=by
 have e:(s.heap.update p f).get? p=some { cls:=.type "list",data:=.seq its'.toArray n' }:=by
  rw [Heap.get?_update_self f ho (by rw [hf]<;>rfl),hf]
 refine I.write (x:=p) (e:=p) (by rw [h];trivial) (.inl rfl) (fun b u hb q=>(Heap.get?_update_other _ _ (Ne.symm hb)).trans q) ⟨_,e⟩ ?_
 exact⟨hz,its',n',r,e⟩
def yq:V->V->V->Hp->(Hp->Prop)->Prop:=fun o i v H Q=>∃p xs k j,o=.ref p/\i=.int k/\H p=some (.lst xs)/\ixN xs.length k=some j/\Q (upd H p (.lst (xs.set j v)))
theorem jO:zp X yq:=by
 intro pins s σ H o i v ov iv u Q I ro ri rv h
 obtain⟨p,xs,k,j,rfl,rfl,hp,hj,q⟩:=h
 cases ro
 obtain⟨t,rfl⟩:=ri
 obtain⟨its,n,r,ho,hz⟩:=I.lst hp
 obtain⟨h1,h2,h3,h4⟩:=rj hj
 have hl:=r.length
 have hn:=j5
 have I':Inv X pins σ (upd H p (.lst (xs.set j v))) { s with heap:=s.heap.update p (Obj.mapSeq (·.setIfInBounds j u)) } :=
  I.lstUpd hp ho (nZ its n j u) (r.set rv j) (by rw [List.length_set];exact hz) s.toks
 by_cases h0:0<=k
 ·have hk:k.toNat=j:=by
   rw [seqIndex_of h0 h4] at h1
   exact Option.some.inj h1
  exact W.ki_setAt ho h0 (by omega) (by rw [List.size_toArray,<-hl];exact h4) (by rw [hk];exact⟨_,I',q⟩)
 ·have hk:(k+(its.toArray.size:Int)).toNat=j:=by
   rw [seqIndex_neg (by omega) h3] at h1
   rw [List.size_toArray,<-hl]
   exact Option.some.inj h1
  exact W.ki_setBack ho (by omega) (by rw [List.size_toArray,<-hl];exact h3) (by omega) (by rw [hk];exact⟨_,I',q⟩)
theorem kH(lo hi:Option Int)(n:Nat):(sliceBounds lo hi none n).1=((HT.sIx n 0 lo:Nat):Int)/\(sliceBounds lo hi none n).2.1=((HT.sIx n n hi:Nat):Int)/\(sliceBounds lo hi none n).2.2=1:=by
 refine⟨?_,?_,rfl⟩
 ·cases lo with
  |none=>simp [sliceBounds,HT.sIx]
  |some i =>
   simp only [sliceBounds,HT.sIx,Option.getD_none,show(1:Int) > 0 by decide,if_true]
   by_cases h:i < 0
   ·simp only [h,if_true]<;>omega
   ·simp only [h,if_false]<;>omega
 ·cases hi with
  |none=>simp [sliceBounds,HT.sIx]
  |some i =>
   simp only [sliceBounds,HT.sIx,Option.getD_none,show(1:Int) > 0 by decide,if_true]
   by_cases h:i < 0
   ·simp only [h,if_true]<;>omega
   ·simp only [h,if_false]<;>omega
theorem jM(its:List Value)(lo hi:Option Int):slicePick its.toArray lo hi none=((its.drop (HT.sIx its.length 0 lo)).take (HT.sIx its.length its.length hi - HT.sIx its.length 0 lo)).toArray:=by
 obtain⟨h1,h2,h3⟩:=kH lo hi its.toArray.size
 unfold slicePick
 rw [h1,h2,h3]
 simp only [sliceRange_one,pick_run,List.size_toArray]<;>rfl
def zL(K:W.Frag):V->Option Int->Option Int->Hp->VK->Prop:=fun x lo hi H Q=>∃a xs,x=.ref a/\SqL K H a xs/\∀p,H p=none->Q (.ref p) (upd H p (.lst (nE xs lo hi)))
theorem qb:SlR X (zL X.K):=by
 intro pins s σ H x v vl vu lo hi sl Q I rx hs pl pu h
 obtain⟨a,xs,rfl,hx,q⟩:=h
 cases rx
 obtain⟨its,r,ht,hz⟩:=I.list hx
 have hlen:=r.length
 refine⟨"list",_,slot_list_getitem.lookup,ht.isList.typeIs,?_⟩
 refine wpAny_getItem_list_slice ht.isList hs pl pu .none (by simp) ?_ (by rw [List.size_toArray]<;>omega)
 rw [jM,<-hlen]
 refine⟨.ref s.heap.objs.size,_,I.laid (t':=s.toks) (o:=.lst (nE xs lo hi)) (fun b ob q=>Heap.get?_push_of_some _ q) (Nat.le_refl _) ?_,rfl,q _ (I.hok.fresh (Nat.le_refl _))⟩
 exact⟨Nat.le_trans (ij xs lo hi) hz,_,0,(r.drop (HT.sIx xs.length 0 lo)).take (HT.sIx xs.length xs.length hi - HT.sIx xs.length 0 lo),Heap.get?_push_size _ rfl⟩
def js:V->Bool
 |.non=>true
 |.bl _=>true
 |.int _=>true
 |.str _=>true
 |_=>false
def eqV:V->V->Bool
 |.non,.non=>true
 |.bl a,.bl b=>a==b
 |.bl a,.int b=>(if a then 1 else 0)==b
 |.int a,.bl b=>a==(if b then 1 else 0)
 |.int a,.int b=>a==b
 |.str a,.str b=>a==b
 |_,_=>false
theorem wb{A:Around}{s:Shared}{y x:V}{u v:Value}(ry:br y u)(rx:br x v)(fy:js y=true)(fx:js x=true):SeqAt.EqAt A s u v (eqV y x):=by
 cases y with
 |non =>
  cases ry
  cases x with
  |non=>cases rx;exact SeqAt.EqAt.same _
  |bl b=>cases rx;exact SeqAt.EqAt.none_bool b
  |int b=>obtain⟨t,rfl⟩:=rx;exact SeqAt.EqAt.none_int b t
  |str b=>obtain⟨t,rfl⟩:=rx;exact SeqAt.EqAt.none_str b t
  |_=>exact absurd (show false=true from fx) Bool.false_ne_true
 |bl a =>
  cases ry
  cases x with
  |non=>cases rx;exact SeqAt.EqAt.bool_none a
  |bl b=>cases rx;exact SeqAt.EqAt.bool_bool a b
  |int b=>obtain⟨t,rfl⟩:=rx;exact SeqAt.EqAt.bool_int a b t
  |str b=>obtain⟨t,rfl⟩:=rx;exact SeqAt.EqAt.bool_str a b t
  |_=>exact absurd (show false=true from fx) Bool.false_ne_true
 |int a =>
  obtain⟨t',rfl⟩:=ry
  cases x with
  |non=>cases rx;exact SeqAt.EqAt.int_none a t'
  |bl b=>cases rx;exact SeqAt.EqAt.int_bool a t' b
  |int b=>obtain⟨t,rfl⟩:=rx;exact SeqAt.EqAt.int_int a t' b t
  |str b=>obtain⟨t,rfl⟩:=rx;exact SeqAt.EqAt.int_str a t' b t
  |_=>exact absurd (show false=true from fx) Bool.false_ne_true
 |str a =>
  obtain⟨t',rfl⟩:=ry
  cases x with
  |non=>cases rx;exact SeqAt.EqAt.str_none a t'
  |bl b=>cases rx;exact SeqAt.EqAt.str_bool a t' b
  |int b=>obtain⟨t,rfl⟩:=rx;exact SeqAt.EqAt.str_int a t' b t
  |str b=>obtain⟨t,rfl⟩:=rx;exact SeqAt.EqAt.str_str a t' b t
  |_=>exact absurd (show false=true from fx) Bool.false_ne_true
 |_=>exact absurd (show false=true from fy) Bool.false_ne_true
def eqU(x:V)(u:Value):Bool:=match u with
 |.none=>eqV .non x
 |.bool b=>eqV (.bl b) x
 |.int i _=>eqV (.int i) x
 |.str z _=>eqV (.str z) x
 |_=>false
theorem uD{x y:V}{u:Value}(r:br y u)(f:js y=true):eqU x u=eqV y x:=by
 cases y with
 |non=>cases r;rfl
 |bl b=>cases r;rfl
 |int i=>obtain⟨t,rfl⟩:=r;rfl
 |str z=>obtain⟨t,rfl⟩:=r;rfl
 |_=>exact absurd (show false=true from f) Bool.false_ne_true
theorem lV{x:V}:∀{xs:List V} {us:List Value},bg xs us->xs.all js=true->us.any (eqU x)=xs.any fun y=>eqV y x
 |_,_,.nil,_=>rfl
 |y::xs,u::us,.cons r t,f=>by
  rw [List.all_cons,Bool.and_eq_true] at f
  rw [List.any_cons,List.any_cons,uD r f.1,lV t f.2]
theorem jk{A:Around}{s:Shared}{x:V}{v:Value}(rx:br x v)(fx:js x=true):∀{xs:List V} {us:List Value},bg xs us->xs.all js=true->∀u∈us,SeqAt.EqAt A s u v (eqU x u)
 |_,_,.nil,_=>fun u hu=>by cases hu
 |y::xs,u::us,.cons r t,f=>fun u' hu=>by
  rw [List.all_cons,Bool.and_eq_true] at f
  rcases List.mem_cons.mp hu with rfl|hu
  ·rw [uD r f.1];exact wb r rx f.1 fx
  ·exact jk rx fx t f.2 u' hu
def inV(x:V)(xs:List V):Bool:=xs.any fun y=>eqV y x
def rIn(K:W.Frag)(neg:Bool):R2:=fun x y H Q=>∃p xs,y=.ref p/\(SqL K H p xs\/SqT K H p xs)/\js x=true/\xs.all js=true/\Q (.bl (if neg then !inV x xs else inV x xs)) H
theorem qt:OpR X (compareOp .In) (rIn X.K false):=by
 intro pins s σ H x y v u Q I rx ry h
 obtain⟨p,xs,rfl,hq,fx,fs,q⟩:=h
 cases ry
 rcases hq with hq|hq
 ·obtain⟨its,r,pl,hz⟩:=I.list hq
  refine SeqAt.in_listAt (eqU x) pl.isList (fun w hw=>jk rx fx r fs w (by simpa using hw)) ⟨.bl _,H,I,rfl,?_⟩
  rw [show its.toArray.any (eqU x)=its.any (eqU x) by simp,lV r fs]
  exact q
 ·obtain⟨its,r,pl,hz⟩:=I.tuple hq
  refine SeqAt.in_tupleAt (eqU x) pl (fun w hw=>jk rx fx r fs w (by simpa using hw)) ⟨.bl _,H,I,rfl,?_⟩
  rw [show its.toArray.any (eqU x)=its.any (eqU x) by simp,lV r fs]
  exact q
theorem aR:ke X (.builtin "len") (fun xs H Q=>∃p ys,xs=[.ref p]/\(SqL X.K H p ys\/SqT X.K H p ys)/\Q (.int ys.length) H):=by
 intro pins s σ H xs us Q I r h
 obtain⟨p,ys,rfl,hq,q⟩:=h
 obtain⟨u,rfl,rx⟩:=lu r
 cases rx
 have hn:=j5
 rcases hq with hq|hq
 ·obtain⟨its,r',pl,hz⟩:=I.list hq
  have hlen:=r'.length
  exact Calls.call_len_list pl.isList (by simp only [List.size_toArray]<;>omega) ⟨.int ys.length,H,I.tok _,⟨s.toks+1,by rw [List.size_toArray,hlen]⟩,q⟩
 ·obtain⟨its,r',pl,hz⟩:=I.tuple hq
  have hlen:=r'.length
  exact len_tuple pl (by simp only [List.size_toArray]<;>omega) ⟨.int ys.length,H,I.tok _,⟨s.toks+1,by rw [List.size_toArray,hlen]⟩,q⟩
theorem cU:ke X (.type "tuple") (fun xs H Q=>∃p ys,xs=[.ref p]/\((SqL X.K H p ys/\∀l,H l=none->Q (.ref l) (upd H l (.tup ys)))\/(SqT X.K H p ys/\Q (.ref p) H))):=by
 intro pins s σ H xs us Q I r h
 obtain⟨p,ys,rfl,h⟩:=h
 obtain⟨u,rfl,rx⟩:=lu r
 cases rx
 rcases h with ⟨hq,q⟩|⟨hq,q⟩
 ·obtain⟨its,r',pl,hz⟩:=I.list hq
  have hlen:=r'.length
  refine call_tuple_list pl.isList (fun h' kp=>?_) (by simp only [List.size_toArray]<;>omega)
  have I1:Inv X pins σ H { s with heap:=h' }:=I.kept (t':=s.toks) kp
  have I2:Inv X pins σ (upd H h'.objs.size (.tup ys)) { s with heap:=h'.push { cls:=.type "tuple",data:=.seq its.toArray } } :=
   I1.laid (t':=s.toks) (fun b o e=>Heap.get?_push_of_some _ e) (Nat.le_refl _) (show cG X.prog X.w _ _ _ (.tup ys) from⟨hz,its,r',IsTup.new _ _⟩)
  exact⟨.ref h'.objs.size,_,I2,rfl,q _ (I1.hok.fresh (Nat.le_refl _))⟩
 ·obtain⟨its,r',pl,hz⟩:=I.tuple hq
  exact call_tuple_same pl ⟨.ref p,H,I,rfl,q⟩
def tyV(K:W.Frag)(T:String)(x:V)(H:Hp):Prop:=match x with
 |.str _=>T="str"
 |.int _=>T="int"
 |.ref p=>(T="list"/\∃xs,SqL K H p xs)\/(T="tuple"/\∃o,K.lookup p=some o/\o.cls=.type "tuple"/\o.dict=none) \/
   (T="dict"/\((∃kvs,H p=some (.dK kvs))\/∃kvs,H p=some (.dT kvs)))\/(T="set"/\∃S n,H p=some (.set S n))
 |_=>False
theorem qJ{pins:List (Addr × Obj)}{σ:St}{H:Hp}{s:Shared}{T:String}{x:V}{v:Value}(I:Inv X pins σ H s)(r:br x v)(ty:tyV X.K T x H) :
  s.TypeIs v T/\∀a,v=.ref a->∃ob,s.heap.get? a=some ob/\ob.dict=none:=by
 cases x with
 |str z =>
  obtain⟨t,rfl⟩:=r
  cases (show T="str" from ty)
  exact⟨typeIs_str s z t,fun _ e=>nomatch e⟩
 |int i =>
  obtain⟨t,rfl⟩:=r
  cases (show T="int" from ty)
  exact⟨typeIs_int s i t,fun _ e=>nomatch e⟩
 |ref p =>
  cases r
  rcases ty with ⟨rfl,xs,hq⟩|⟨rfl,o,hk,hc,hd⟩|⟨rfl,hk⟩|⟨rfl,S,n,hk⟩
  ·obtain⟨its,_,pl,_⟩:=I.list hq
   refine⟨pl.isList.typeIs,fun a e=>?_⟩
   cases e
   obtain⟨o,n,e,c,hd,_⟩:=pl
   exact⟨o,e,hd⟩
  ·refine⟨⟨o,I.kIn p o hk,hc⟩,fun a e=>?_⟩
   cases e
   exact⟨o,I.kIn _ o hk,hd⟩
  ·have z:∃o,s.heap.get? p=some o/\o.ExactDict:=by
    rcases hk with ⟨kvs,hk⟩|⟨kvs,hk⟩
    ·obtain⟨_,_,_,_,o,_,_,e,ex,_⟩:=I.hok p _ hk
     exact⟨o,e,ex⟩
    ·obtain⟨_,_,_,_,o,_,_,e,ex,_⟩:=I.hok p _ hk
     exact⟨o,e,ex⟩
   obtain⟨o,e,ex⟩:=z
   refine⟨⟨o,e,ex.1⟩,fun a e2=>?_⟩
   cases e2
   exact⟨o,e,ex.2.1⟩
  ·obtain⟨o,_,_,_,e,ex,_⟩:=I.hok p _ hk
   refine⟨⟨o,e,ex.1⟩,fun a e2=>?_⟩
   cases e2
   exact⟨o,e,ex.2.1⟩
 |_=>exact False.elim ty
def zJ(K:W.Frag)(T:String)(r:V->List V->Hp->VK->Prop)(to:TE):TE:=fun σ H Q=>to σ H fun x H1=>tyV K T x H1/\r x [] H1 Q
structure Wh(K:W.Frag)(T:String)(r:V->List V->Hp->VK->Prop)(t:TA)(x:V)(σ:St)(H:Hp)(Q:VK):Prop where
 h:tyV K T x H
 q:t σ H fun xs H2=>r x xs H2 Q
def tBM(K:W.Frag)(T:String)(r:V->List V->Hp->VK->Prop)(to:TE)(t:TA):TE:=fun σ H Q=>to σ H fun x H1=>Wh K T r t x σ H1 Q
variable{o e:Expr}{es:List Expr}{to:TE}{t:TA}{name:Str}{apos cpos:Pos}{T id:String}{r:V->List V->Hp->VK->Prop}
theorem o9(pa:PlainAttrs T)(slot:Slot T name id) (hty:typeOf (.builtin id)=pure (.type "method_descriptor")) (hm:MtR X id r) (ho:PE X o to)
  (hbase:attributeBase o name X.env (eval o X.env)=eval o X.env:=by rfl) (hline:(apos.endLine==cpos.line)=true:=by rfl):PE X (.Call (.Attribute o name apos) [] [] cpos) (zJ X.K T r to):=by
 intro pins s σ H Q I h
 refine wpAny_Call_method0_late hbase hline (thn (ho pins s σ H _ I h) fun v s1 ⟨x,H1,I1,r1,ty,q1⟩=>?_)
 obtain⟨h1,h2⟩:=qJ I1 r1 ty
 exact⟨T,id,pa,slot,hty,h1,h2,Calls.callWith_builtin rfl (PySem.evalArgs_none (hm pins s1 σ H1 x [] v [] Q I1 r1 .nil q1))⟩
theorem eQ(pa:PlainAttrs T)(slot:Slot T name id) (hty:typeOf (.builtin id)=pure (.type "method_descriptor")) (hm:MtR X id r) (ho:PE X o to) (ha:PA X (e::es) t)
  (hbase:attributeBase o name X.env (eval o X.env)=eval o X.env:=by rfl)
  (hfew:((backTo cpos (starEach (e::es) X.env)).all (fun x=>!x.1)&&(backToKw cpos (keywordEach [] X.env)).all (fun x=>x.1.isSome)
   && decide ((e::es).length+([]:List Keyword).length+(if ([]:List Keyword).isEmpty then 0 else 1) < 30))=true:=by rfl)
  (hline:(apos.endLine==cpos.line)=true:=by rfl) (hs:starEach (e::es) X.env=(false,eval e X.env)::starEach es X.env:=by rfl) (hplain:(backTo cpos (starEach es X.env)).any (·.1)=false:=by rfl) :
  PE X (.Call (.Attribute o name apos) (e::es) [] cpos) (tBM X.K T r to t):=by
 intro pins s σ H Q I h
 refine wpAny_Call_method_late hbase hfew hline rfl (thn (ho pins s σ H _ I h) fun v s1 ⟨x,H1,I1,r1,ty,q1⟩=>?_)
 obtain⟨h1,h2⟩:=qJ I1 r1 ty
 refine⟨T,id,pa,slot,hty,h1,h2,?_⟩
 have hA:=ha cpos pins s1 σ H1 _ I1 q1
 rw [hs] at hA ⊢
 refine Calls.callWith_builtin (by show(false||(backTo cpos (starEach es X.env)).any (·.1))=false;rw [hplain]<;>rfl) (Calls.evalArgs_plain ?_)
 exact thn hA fun us s2 ⟨vs,H2,I2,r2,q2⟩=>hm pins s2 σ H2 x vs v us Q I2 r1 r2 q2
end
def MtM(X:Cx)(id:String)(r:V->List V->Hp->VK->Prop):Prop :=
 ∀(pins:List (Addr × Obj)) (s:Shared) (σ:St) (H:Hp) (x:V) (xs:List V) (v:Value) (us:List Value) (Q:VK),Inv X pins σ H s->br x v->bg xs us->r x xs H Q ->
  wpAny (model X.prog X.w) X.A (call (.builtin id) (v::us)) (EP X pins σ Q) X.xe s
theorem bg.one:∀{x:V} {us:List Value},bg [x] us->∃u,us=[u]/\br x u
 |_,_,.cons r .nil=>⟨_,rfl,r⟩
theorem bg.two:∀{x y:V} {us:List Value},bg [x,y] us->∃u v,us=[u,v]/\br x u/\br y v
 |_,_,_,.cons r (.cons q .nil)=>⟨_,_,rfl,r,q⟩
theorem bg.zero:∀{us:List Value},bg [] us->us=[]
 |_,.nil=>rfl
theorem bg.dropLast{xs:List V}{us:List Value}(h:bg xs us):bg xs.dropLast us.dropLast:=by
 induction h with
 |nil=>exact .nil
 |cons r t ih =>
  cases t with
  |nil=>exact .nil
  |cons q t'=>exact .cons r ih
theorem oB{α:Type}(l:List α):l.eraseIdx (l.length - 1)=l.dropLast:=by
 induction l with
 |nil=>rfl
 |cons a r ih =>
  cases r with
  |nil=>rfl
  |cons b r =>
   have e:(a::b::r).length - 1=((b::r).length - 1)+1:=by
    have h1:(a::b::r).length=r.length+2:=rfl
    have h2:(b::r).length=r.length+1:=rfl
    omega
   rw [e,List.eraseIdx_cons_succ,ih]
   all_goals rfl
section
variable{X:Cx}{pins:List (Addr × Obj)}{σ:St}{H:Hp}{s:Shared}{l b:Addr}{xs ys zs:List V}
theorem Inv.lset{its its':List Value}{n:Nat}{f:Array Value->Array Value}{t':Nat}(I:Inv X pins σ H s)(hH:H l=some (.lst xs))
  (e:s.heap.get? l=some { cls:=.type "list",data:=.seq its.toArray n }) (hf:f its.toArray=its'.toArray) (hv:bg ys its') (hz:ys.length<=sizeLine) :
  Inv X pins σ (upd H l (.lst ys)) { s with heap:=s.heap.update l (Obj.mapSeq f),toks:=t' }:=by
 have q:=PySem.IsL.update e f
 rw [hf] at q
 refine I.write (x:=l) (e:=l) (by rw [hH];exact trivial) (.inl rfl) (fun b' u hb hu=>(Heap.get?_update_other s.heap (Obj.mapSeq f) (Ne.symm hb)).trans hu) ⟨_,q⟩ ?_
 exact⟨hz,its',_,hv,q⟩
theorem Inv.lnew{its:List Value}{t':Nat}(I:Inv X pins σ H s)(hv:bg ys its)(hz:ys.length<=sizeLine) :
  Inv X pins σ (upd H s.heap.objs.size (.lst ys)) { s with heap:=s.heap.push { cls:=.type "list",data:=.seq its.toArray },toks:=t' } :=
 I.laid (fun _ _ q=>Heap.get?_push_of_some _ q) (Nat.le_refl _) ⟨hz,its,0,hv,Heap.get?_push_size _ rfl⟩
theorem Inv.fresh(I:Inv X pins σ H s):H s.heap.objs.size=none:=I.hok.fresh (Nat.le_refl _)
theorem Inv.lstM(I:Inv X pins σ H s)(hH:H l=some (.lst xs)):xs.length<=sizeLine/\∃(its:List Value) (n:Nat),bg xs its/\xs.length=its.length/\s.heap.get? l=some { cls:=.type "list",data:=.seq its.toArray n }:=by
 obtain⟨z,its,n,r,e⟩:=I.hok l _ hH
 exact⟨z,its,n,r,r.length,e⟩
end
section
variable{X:Cx}
def vI:V->List V->Hp->VK->Prop:=fun x vs H Q=>∃l xs y,x=.ref l/\vs=[y]/\H l=some (.lst xs)/\xs.length < sizeLine/\Q .non (upd H l (.lst (xs++[y])))
theorem bo:MtM X "list.append" vI:=by
 intro pins s σ H x vs v us Q I rx rv h
 obtain⟨l,xs,y,rfl,rfl,hH,hz,q⟩:=h
 cases rx
 obtain⟨u,rfl,ru⟩:=rv.one
 obtain⟨z,its,n,r,hl,e⟩:=I.lstM hH
 refine call_meets F.slot_list_append ⟨_,e,rfl⟩ F.entry_list_append (F.args_list_append_2 _ _) (PySem.list_append l its.toArray n u (by rw [List.size_toArray];omega)) ⟨e,?_⟩
 refine⟨.non,_,I.lset (its':=its++[u]) hH e (by simp) (r.append (.cons ru .nil)) ?_,rfl,q⟩
 rw [List.length_append,List.length_singleton]
 omega
def zU:V->List V->Hp->VK->Prop:=fun x vs H Q=>∃l xs y,x=.ref l/\vs=[]/\H l=some (.lst xs)/\xs[xs.length - 1]?=some y/\Q y (upd H l (.lst xs.dropLast))
theorem o0:MtM X "list.pop" zU:=by
 intro pins s σ H x vs v us Q I rx rv h
 obtain⟨l,xs,y,rfl,rfl,hH,hy,q⟩:=h
 cases rx
 have hus:=rv.zero
 subst hus
 obtain⟨z,its,n,r,hl,e⟩:=I.lstM hH
 obtain⟨u,hu,ru⟩:=r.get hy
 have hy':its.toArray[its.toArray.size - 1]?=some u:=by
  show its.toArray[its.length - 1]?=some u
  rw [<-Array.getElem?_toList,<-hl]
  exact hu
 refine call_meets F.slot_list_pop ⟨_,e,rfl⟩ F.entry_list_pop (F.args_list_pop_1 _) (MeetsSeq.list_pop_last l its.toArray n u hy' (by rw [List.size_toArray];omega)) ⟨e,?_⟩
 refine⟨y,_,I.lset (its':=its.dropLast) hH e ?_ r.dropLast ?_,ru,q⟩
 ·show its.toArray.eraseIdxIfInBounds (its.toArray.size - 1)=its.dropLast.toArray
  rw [List.size_toArray,List.eraseIdxIfInBounds_toArray,oB]
 ·rw [List.length_dropLast]
  omega
def Ak:R2:=fun x y H Q=>∃l b xs zs,x=.ref l/\y=.ref b/\H l=some (.lst xs)/\H b=some (.lst zs)/\xs.length+zs.length<=sizeLine/\∀p,H p=none->Q (.ref p) (upd H p (.lst (xs++zs)))
theorem ub:OpR X (binaryOp .Add) Ak:=by
 intro pins s σ H x y v u Q I rx ry h
 obtain⟨l,b,xs,zs,rfl,rfl,hH,hB,hz,q⟩:=h
 cases rx
 cases ry
 obtain⟨z,its,n,r,hl,e⟩:=I.lstM hH
 obtain⟨z2,its2,n2,r2,hl2,e2⟩:=I.lstM hB
 refine PySem.P.add_list e e2 ?_ (by rw [List.size_toArray,List.size_toArray];omega)
 have ea:its.toArray++its2.toArray=(its++its2).toArray:=by simp
 rw [ea]
 exact⟨.ref _,_,I.lnew (t':=s.toks) (r.append r2) (by rw [List.length_append];omega),rfl,q _ I.fresh⟩
end
section
variable{prog:Program}{w:World}{A:Around}{E:Value->Shared->Prop}{s:Shared}
end
section
variable{X:Cx}
end
section
variable{κ:Type}[DecidableEq κ]
def du(kvs:List (κ × V))(k:κ):Option V:=(kvs.find? fun kv=>decide (kv.1=k)).map (·.2)
def bi(kvs:List (κ × V))(k:κ)(v:V):List (κ × V) :=
 if (kvs.any fun kv=>decide (kv.1=k))=true then kvs.map (fun kv=>if kv.1=k then (kv.1,v) else kv) else kvs++[(k,v)]
theorem cy{p:κ × V}{r:List (κ × V)}{k:κ}(e:p.1=k):du (p::r) k=some p.2:=by simp [du,List.find?_cons,e]
theorem cu{p:κ × V}{r:List (κ × V)}{k:κ}(e:¬p.1=k):du (p::r) k=du r k:=by simp [du,List.find?_cons,e]
theorem fu(k:κ):∀kvs:List (κ × V),(kvs.any fun kv=>decide (kv.1=k))=(du kvs k).isSome
 |[]=>rfl
 |p::r=>by
  rw [List.any_cons]
  by_cases e:p.1=k
  ·simp only [cy e,decide_eq_true e,Bool.true_or,Option.isSome_some]
  ·rw [cu e,decide_eq_false e,Bool.false_or];exact fu k r
theorem mE(k j:κ)(y:V):∀kvs:List (κ × V),du (kvs.map fun kv=>if kv.1=k then (kv.1,y) else kv) j=(du kvs j).map fun x=>if j=k then y else x
 |[]=>rfl
 |p::r=>by
  have ih:=mE k j y r
  rw [List.map_cons]
  by_cases h:p.1=k
  ·rw [if_pos h]
   by_cases e:p.1=j
   ·rw [cy (p:=(p.1,y)) e,cy e,Option.map_some,if_pos (e.symm.trans h)]
   ·rw [cu (p:=(p.1,y)) e,cu e,ih]
  ·rw [if_neg h]
   by_cases e:p.1=j
   ·rw [cy (p:=p) e,cy e,Option.map_some,if_neg (fun z=>h (e.trans z))]
   ·rw [cu (p:=p) e,cu e,ih]
theorem ky(k j:κ)(y:V):∀kvs:List (κ × V),du kvs k=none->du (kvs++[(k,y)]) j=if j=k then some y else du kvs j
 |[],_=>by
  by_cases e:k=j
  ·rw [if_pos e.symm];exact cy (p:=(k,y)) e
  ·rw [if_neg (fun z=>e z.symm)];exact cu (p:=(k,y)) e
 |p::r,hn=>by
  rw [List.cons_append]
  have hk:¬p.1=k:=fun z=>by rw [cy z] at hn;cases hn
  rw [cu hk] at hn
  have ih:=ky k j y r hn
  by_cases e:p.1=j
  ·rw [cy e,cy e,if_neg (fun z=>hk (e.trans z))]
  ·rw [cu e,cu e,ih]
theorem fU(kvs:List (κ × V))(k j:κ)(y:V):du (bi kvs k y) j=if j=k then some y else du kvs j:=by
 unfold bi
 by_cases a:(kvs.any fun kv=>decide (kv.1=k))=true
 ·rw [if_pos a,mE]
  rw [fu] at a
  by_cases e:j=k
  ·obtain⟨x,hx⟩:=Option.isSome_iff_exists.mp a
   rw [if_pos e,e,hx,Option.map_some,if_pos rfl]
  ·rw [if_neg e]
   cases du kvs j with
   |none=>rfl
   |some x=>rw [Option.map_some,if_neg e]
 ·rw [if_neg a]
  refine ky k j y kvs ?_
  rw [fu] at a
  cases q:du kvs k with
  |none=>rfl
  |some x=>rw [q] at a;exact(a rfl).elim
theorem cg(kvs:List (κ × V))(k:κ)(v:V):(bi kvs k v).length<=kvs.length+1:=by
 unfold bi
 split
 ·rw [List.length_map];omega
 ·rw [List.length_append,List.length_cons,List.length_nil];omega
theorem tH{kvs:List (κ × V)}{k:κ}(v:V)(h:du kvs k=none):bi kvs k v=kvs++[(k,v)]:=by
 unfold bi
 rw [fu,h]
 exact if_neg (by decide)
theorem kx.isSome_eq{o:Option V}{u:Option Value}(r:kx o u):o.isSome=u.isSome:=by
 cases o with
 |none=>cases u with
  |none=>rfl
  |some _=>exact(show False from r).elim
 |some _=>cases u with
  |none=>exact(show False from r).elim
  |some _=>rfl
theorem kx.getD{o:Option V}{u:Option Value}{d:V}{d':Value}(r:kx o u)(rd:br d d'):br (o.getD d) (u.getD d'):=by
 cases o with
 |none=>cases u with
  |none=>exact rd
  |some _=>exact(show False from r).elim
 |some _=>cases u with
  |none=>exact(show False from r).elim
  |some _=>exact r
theorem KV.val{kvs:List (κ × V)}{vs:List (κ × Value)}(r:KV kvs vs)(k:κ):kx (du kvs k) (valueAt vs k):=by
 unfold KV at r
 induction r with
 |nil=>exact True.intro
 |@cons p q ps qs h t ih =>
  obtain⟨h1,h2⟩:=h
  by_cases e:p.1=k
  ·have e':q.1=k:=h1.symm.trans e
   have b:valueAt (q::qs) k=some q.2:=by simp [valueAt,List.find?_cons,e']
   rw [cy e,b];exact h2
  ·have e':¬q.1=k:=fun z=>e (h1.trans z)
   have b:valueAt (q::qs) k=valueAt qs k:=by simp [valueAt,List.find?_cons,e']
   rw [cu e,b];exact ih
theorem KV.any{kvs:List (κ × V)}{vs:List (κ × Value)}(r:KV kvs vs)(k:κ):(kvs.any fun kv=>decide (kv.1=k))=vs.any fun kv=>decide (kv.1=k):=by
 unfold KV at r
 induction r with
 |nil=>rfl
 |cons h t ih=>rw [List.any_cons,List.any_cons,ih,h.1]
theorem KV.repl{kvs:List (κ × V)}{vs:List (κ × Value)}(r:KV kvs vs)(k:κ){y:V}{u:Value}(ry:br y u) :
  KV (kvs.map fun kv=>if kv.1=k then (kv.1,y) else kv) (vs.map fun kv=>if kv.1=k then (kv.1,u) else kv):=by
 unfold KV at r ⊢
 induction r with
 |nil=>exact .nil
 |@cons p q ps qs h t ih =>
  rw [List.map_cons,List.map_cons]
  refine .cons ?_ ih
  obtain⟨h1,h2⟩:=h
  by_cases e:p.1=k
  ·rw [if_pos e,if_pos (h1.symm.trans e)];exact⟨h1,ry⟩
  ·rw [if_neg e,if_neg (fun z=>e (h1.trans z))];exact⟨h1,h2⟩
theorem KV.put{kvs:List (κ × V)}{vs:List (κ × Value)}(r:KV kvs vs)(k:κ){y:V}{u:Value}(ry:br y u):KV (bi kvs k y) (stored vs k u):=by
 unfold bi stored
 rw [r.any k]
 by_cases e:(vs.any fun kv=>decide (kv.1=k))=true
 ·rw [if_pos e,if_pos e];exact r.repl k ry
 ·rw [if_neg e,if_neg e];exact Paired.snoc r ⟨rfl,ry⟩
theorem KV.length{kvs:List (κ × V)}{vs:List (κ × Value)}(r:KV kvs vs):kvs.length=vs.length:=Paired.length r
end
theorem jX{P:Program}{w:World}{k:Key}{u:Value}(r:br (kV k) u):(aS P w).is k u=true:=by
 cases k with
 |inl i=>obtain⟨t,e⟩:=(show ∃t,u=Value.int i t from r);subst e;exact lR P w i t
 |inr x=>obtain⟨t,e⟩:=(show ∃t,u=Value.str x t from r);subst e;exact eY P w x t
theorem jS{P:Program}{w:World}:∀{ks:List Key} {us:List Value},bg (ks.map kV) us->ItemsAre (aS P w) ks us
 |[],_,r=>by rw [List.map_nil] at r;cases r;exact .nil
 |k::ks,_,r=>by
  rw [List.map_cons] at r
  cases r with
  |cons h t=>exact .cons (jX h) (jS t)
abbrev KT(H:Hp):List (List Key × V)->List (List Key × Addr × Value)->Prop:=Paired fun p q=>p.1=q.1/\H q.2.1=some (.tup (p.1.map kV))/\br p.2 q.2.2
theorem KT.val{H:Hp}{kvs:List (List Key × V)}{xs:List (List Key × Addr × Value)}(r:KT H kvs xs)(k:List Key):kx (du kvs k) ((atKey xs k).map (·.2)):=by
 induction r with
 |nil=>exact True.intro
 |@cons p q ps qs h t ih =>
  obtain⟨h1,_,h2⟩:=h
  by_cases e:p.1=k
  ·have e':q.1=k:=h1.symm.trans e
   have b:atKey (q::qs) k=some q.2:=by simp [atKey,List.find?_cons,e']
   rw [cy e,b];exact h2
  ·have e':¬q.1=k:=fun z=>e (h1.trans z)
   have b:atKey (q::qs) k=atKey qs k:=by simp [atKey,List.find?_cons,e']
   rw [cu e,b];exact ih
theorem KT.repl{H:Hp}{kvs:List (List Key × V)}{xs:List (List Key × Addr × Value)}(r:KT H kvs xs)(k:List Key){y:V}{u:Value}(ry:br y u) :
  KT H (kvs.map fun kv=>if kv.1=k then (kv.1,y) else kv) (xs.map (putAt k u)):=by
 induction r with
 |nil=>exact .nil
 |@cons p q ps qs h t ih =>
  rw [List.map_cons,List.map_cons]
  refine .cons ?_ ih
  obtain⟨h1,h2,h3⟩:=h
  unfold putAt
  by_cases e:p.1=k
  ·rw [if_pos e,if_pos (h1.symm.trans e)];exact⟨h1,h2,ry⟩
  ·rw [if_neg e,if_neg (fun z=>e (h1.trans z))];exact⟨h1,h2,h3⟩
theorem KT.put{H:Hp}{kvs:List (List Key × V)}{xs:List (List Key × Addr × Value)}(r:KT H kvs xs)(k:List Key){b:Addr}{y:V}{u:Value}(hb:H b=some (.tup (k.map kV)))(ry:br y u) :
  KT H (bi kvs k y) (storedH xs k b u):=by
 have e:(kvs.any fun kv=>decide (kv.1=k))=(atKey xs k).isSome:=by
  rw [fu,(r.val k).isSome_eq,Option.isSome_map]
 unfold bi storedH
 rw [e]
 by_cases q:(atKey xs k).isSome=true
 ·rw [if_pos q,if_pos q];exact r.repl k ry
 ·rw [if_neg q,if_neg q];exact Paired.snoc r ⟨rfl,hb,ry⟩
theorem KT.keeps{H H':Hp}{kvs:List (List Key × V)}{xs:List (List Key × Addr × Value)}(r:KT H kvs xs)(ht:∀b ys,H b=some (.tup ys)->H' b=some (.tup ys)):KT H' kvs xs :=
 Paired.mapP r fun _ _ z=>⟨z.1,ht _ _ z.2.1,z.2.2⟩
section
variable{P:Program}{w:World}{H:Hp}{h:Heap}{a:Addr}
theorem xJ{u:HO}(ok:HOk P w H h)(e:Rd H a u):cG P w H h a u:=e.ok ok
theorem kl{kvs:List (Key × V)}(ok:HOk P w H h)(e:Rd H a (.dK kvs)):kvs.length<=sizeLine/\(a==sysModules)=false/\∃vs,KV kvs vs/\h.DictOf (aS P w) a vs :=
 show cG P w H h a (.dK kvs) from xJ ok e
theorem jY{kvs:List (Key × V)}(ok:HOk P w H h)(e:H a=some (.dK kvs)):kvs.length<=sizeLine/\(a==sysModules)=false/\∃vs,KV kvs vs/\h.DictOf (aS P w) a vs:=kl ok (.inl e)
theorem i8{ks:List Key}(ok:HOk P w H h)(e:H a=some (.tup (ks.map kV))):(tupleKind (aS P w)).is h ks a:=by
 obtain⟨_,its,r,o,h1,h2,n,h3⟩:=(show cG P w H h a (.tup (ks.map kV)) from ok a _ e)
 exact⟨o,its.toArray,n,h1,h2,h3,by simpa using jS r⟩
theorem lB{kvs:List (List Key × V)}(ok:HOk P w H h)(e:Rd H a (.dT kvs)):kvs.length<=sizeLine/\(a==sysModules)=false /\
  ∃xs,KT H kvs xs/\h.DictOfH (tupleKind (aS P w)) a xs:=by
 obtain⟨z,y,xs,r,o,es,ep,h1,h2,h3,h4,h5⟩:=(show cG P w H h a (.dT kvs) from xJ ok e)
 refine⟨z,y,xs,r,o,es,ep,h1,h2,h3,h4,fun x hx=>?_,h5⟩
 have all:∀{l:List (List Key × V)} {m:List (List Key × Addr × Value)},KT H l m->∀x∈m,(tupleKind (aS P w)).is h x.1 x.2.1:=by
  intro l m q
  induction q with
  |nil=>intro x hx;exact nomatch hx
  |@cons p q ps qs hq t ih =>
   intro x hx
   rcases List.mem_cons.mp hx with e|hx
   ·subst e
    exact i8 ok (by rw [<-hq.1];exact hq.2.1)
   ·exact ih x hx
 exact all r x hx
theorem yA{kvs:List (List Key × V)}(ok:HOk P w H h)(e:H a=some (.dT kvs)):kvs.length<=sizeLine/\(a==sysModules)=false /\
  ∃xs,KT H kvs xs/\h.DictOfH (tupleKind (aS P w)) a xs:=lB ok (.inl e)
end
def eK(H:Hp)(a:Addr)(y:V)(r:Option V):Prop :=
 (∃kvs k,Rd H a (.dK kvs)/\y=kV k/\r=du kvs k)\/∃kvs k b,Rd H a (.dT kvs)/\y=.ref b/\H b=some (.tup (k.map kV))/\r=du kvs k
def qU(H:Hp)(a:Addr)(y v:V)(H':Hp):Prop :=
 (∃kvs k,H a=some (.dK kvs)/\y=kV k/\kvs.length < sizeLine/\H'=upd H a (.dK (bi kvs k v))) \/
 ∃kvs k b,H a=some (.dT kvs)/\y=.ref b/\H b=some (.tup (k.map kV))/\kvs.length < sizeLine/\H'=upd H a (.dT (bi kvs k v))
theorem eK.k{H:Hp}{a:Addr}{kvs:List (Key × V)}{k:Key}(e:H a=some (.dK kvs)):eK H a (kV k) (du kvs k):=.inl ⟨kvs,k,.inl e,rfl,rfl⟩
theorem eK.t{H:Hp}{a b:Addr}{kvs:List (List Key × V)}{k:List Key}(e:H a=some (.dT kvs))(eb:H b=some (.tup (k.map kV))):eK H a (.ref b) (du kvs k):=.inr ⟨kvs,k,b,.inl e,rfl,eb,rfl⟩
theorem qU.k{H:Hp}{a:Addr}{kvs:List (Key × V)}{k:Key}{v:V}(e:H a=some (.dK kvs))(hl:kvs.length < sizeLine):qU H a (kV k) v (upd H a (.dK (bi kvs k v))):=.inl ⟨kvs,k,e,rfl,hl,rfl⟩
theorem qU.t{H:Hp}{a b:Addr}{kvs:List (List Key × V)}{k:List Key}{v:V}(e:H a=some (.dT kvs))(eb:H b=some (.tup (k.map kV)))(hl:kvs.length < sizeLine) :
  qU H a (.ref b) v (upd H a (.dT (bi kvs k v))):=.inr ⟨kvs,k,b,e,rfl,eb,hl,rfl⟩
section
variable{X:Cx}{pins:List (Addr × Obj)}{σ:St}{H:Hp}{s:Shared}{a:Addr}{y v:V}{u r:Value}{o:Option V}{A:Around}{E:Value->Shared->Prop}
theorem Inv.big(I:Inv X pins σ H s):sysModules < s.heap.objs.size:=by
 have h:mainGlobals < s.heap.objs.size:=(I.mod.glob.keeps I.bk).lt
 exact Nat.lt_trans (by decide) h
theorem rq{Q:Value->Shared->Prop}(hu:A.units+1 < cLine)(I:Inv X pins σ H s)(g:eK H a y (some v))(ry:br y u)(h:∀w' s',Inv X pins σ H s'->br v w'->Q w' s') :
  wpAny (model X.prog X.w) A (getItem (.ref a) u) Q E s:=by
 rcases g with ⟨kvs,k,e,ey,l⟩|⟨kvs,k,b,e,ey,eb,l⟩
 ·subst ey
  obtain⟨z,hd,vs,rel,dd⟩:=kl I.hok e
  obtain⟨w',hw,rw'⟩:=kx.some_of (v:=v) (o:=valueAt vs k) (by rw [l];exact rel.val k)
  exact wpAny_getItem_of (jX ry) dd.mapOf hw (h w' _ (I.tok _) rw')
 ·subst ey
  cases (show u=Value.ref b from ry)
  obtain⟨z,hd,xs,rel,dd⟩:=lB I.hok e
  obtain⟨w',hw,rw'⟩:=kx.some_of (v:=v) (o:=(atKey xs k).map (·.2)) (by rw [l];exact rel.val k)
  obtain⟨p,hp,hp2⟩:=Option.map_eq_some_iff.mp hw
  refine wpAny_getItem_heap (tupleKind_room_in1 hu) (i8 I.hok eb) dd hp ?_
  rw [hp2]
  exact h w' _ (I.tok _) rw'
theorem zI{Q:Value->Shared->Prop}(hu:A.units+1 < cLine)(I:Inv X pins σ H s)(g:eK H a y o)(ry:br y u)(h:∀s',Inv X pins σ H s'->Q (.bool o.isSome) s') :
  wpAny (model X.prog X.w) A (compareOp .In u (.ref a)) Q E s:=by
 rcases g with ⟨kvs,k,e,ey,l⟩|⟨kvs,k,b,e,ey,eb,l⟩
 ·subst ey
  obtain⟨z,hd,vs,rel,dd⟩:=kl I.hok e
  refine wpAny_in_of (jX ry) hd dd.mapOf ?_
  rw [<-(rel.val k).isSome_eq,<-l]
  exact h _ (I.tok _)
 ·subst ey
  cases (show u=Value.ref b from ry)
  obtain⟨z,hd,xs,rel,dd⟩:=lB I.hok e
  refine wpAny_in_heap (tupleKind_room_in1 hu) (i8 I.hok eb) hd dd ?_
  have q:=(rel.val k).isSome_eq
  rw [Option.isSome_map] at q
  rw [<-q,<-l]
  exact h _ (I.tok _)
theorem vB{Q:Value->Shared->Prop}(hu:A.units+1 < cLine)(I:Inv X pins σ H s)(g:eK H a y o)(ry:br y u)(h:∀s',Inv X pins σ H s'->Q (.bool (!o.isSome)) s') :
  wpAny (model X.prog X.w) A (compareOp .NotIn u (.ref a)) Q E s:=by
 rcases g with ⟨kvs,k,e,ey,l⟩|⟨kvs,k,b,e,ey,eb,l⟩
 ·subst ey
  obtain⟨z,hd,vs,rel,dd⟩:=kl I.hok e
  refine wpAny_notIn_of (jX ry) hd dd.mapOf ?_
  rw [<-(rel.val k).isSome_eq,<-l]
  exact h _ (I.tok _)
 ·subst ey
  cases (show u=Value.ref b from ry)
  obtain⟨z,hd,xs,rel,dd⟩:=lB I.hok e
  refine wpAny_notIn_heap (tupleKind_room_in1 hu) (i8 I.hok eb) hd dd ?_
  have q:=(rel.val k).isSome_eq
  rw [Option.isSome_map] at q
  rw [<-q,<-l]
  exact h _ (I.tok _)
theorem ma{h':Heap}{t':Nat}{ob:HO}(I:Inv X pins σ H s)(mu:Mut (H a))(hs:Heap.SameBut a s.heap h')(he:∃q,h'.get? a=some q)(new:cG X.prog X.w (upd H a ob) h' a ob) :
  Inv X pins σ (upd H a ob) { s with heap:=h',toks:=t' } :=
 I.write (x:=a) (e:=a) mu (.inl rfl) (fun b q hb z=>(hs.2 b hb).trans z) he new
theorem uG{P:Program}{w:World}{H':Hp}{h':Heap}{kvs:List (Key × V)}{vs:List (Key × Value)}(z:kvs.length<=sizeLine)(hd:(a==sysModules)=false)(rel:KV kvs vs)(dd:h'.DictOf (aS P w) a vs) :
  cG P w H' h' a (.dK kvs):=⟨z,hd,vs,rel,dd⟩
theorem rQ{H':Hp}{Q:Unit->Shared->Prop}(hu:A.units+1 < cLine)(I:Inv X pins σ H s)(g:qU H a y v H')(ry:br y u)(rv:br v r)(h:∀s',Inv X pins σ H' s'->Q () s') :
  wpAny (model X.prog X.w) A (setItem (.ref a) u r) Q E s:=by
 rcases g with ⟨kvs,k,e,ey,l,eH⟩|⟨kvs,k,b,e,ey,eb,l,eH⟩
 ·subst ey eH
  obtain⟨z,hd,vs,rel,dd⟩:=jY I.hok e
  have hz:vs.length<=sizeLine:=by rw [<-rel.length];exact z
  have hl:(bi kvs k v).length<=sizeLine:=by have:=cg kvs k v;omega
  refine wpAny_setItem_pairs (hsz:=hz) (jX ry) dd fun h' dd' hs=>h _ ?_
  have he:∃q,h'.get? a=some q:=let ⟨q,_,_,hq,_⟩:=dd';⟨q,hq⟩
  exact ma I (by rw [e];exact True.intro) hs he (uG hl hd (rel.put k rv) dd')
 ·subst ey eH
  cases (show u=Value.ref b from ry)
  obtain⟨z,hd,xs,rel,dd⟩:=yA I.hok e
  have hz:xs.length<=sizeLine:=by rw [<-Paired.length rel];exact z
  have hl:(bi kvs k v).length<=sizeLine:=by have:=cg kvs k v;omega
  refine wpAny_setItem_heap (hsz:=hz) (tupleKind_room_in1 hu) (i8 I.hok eb) dd fun h' dd' hs=>h _ ?_
  obtain⟨q,es,ep,hq,h2,h3,h4,_,h5⟩:=dd'
  refine ma I (by rw [e];exact True.intro) hs ⟨q,hq⟩ ⟨hl,hd,_,(rel.put k eb rv).keeps fun c ys ec=>?_,q,es,ep,hq,h2,h3,h4,h5⟩
  rw [am (kr ec e (fun z=>nomatch z))]
  exact ec
end
section
variable{X:Cx}{pins:List (Addr × Obj)}{σ:St}{H:Hp}{s:Shared}{a:Addr}{kvs:List (Key × V)}{k:Key}{u:Value}{A:Around}{E:Value->Shared->Prop}
theorem zd{Q:Value->Shared->Prop}(I:Inv X pins σ H s)(e:Rd H a (.dK kvs))(h:∀t s',Inv X pins σ H s'->Q (.int kvs.length t) s'):wpAny (model X.prog X.w) A (call (.builtin "len") [.ref a]) Q E s:=by
 obtain⟨z,hd,vs,rel,dd⟩:=kl I.hok e
 refine call_len_dict hd dd (by rw [<-rel.length];rw [sizeLine_eq] at z;omega) ?_
 rw [<-rel.length]
 exact h _ _ (I.tok _)
end
def yR(i:Expr):Prop:=∀ov iv,subscripted i false ov iv=operate [ov,iv] (getItem ov iv)
theorem rD{prog:Program}{w:World}{A:Around}{E:Value->Shared->Prop}{s:Shared}{env:Env}{value slice:Expr}{pos:Pos}{T id:String}{Q:Value->Shared->Prop}
  (hl:typeLookup (.type T) "__getitem__"=pure (some (.builtin id))) (hs:yR slice)
  (h:wpAny (model prog w) A (eval value env) (fun o s₁=>wpAny (model prog w) A (eval slice env) (fun i s₂=>s₂.TypeIs o T/\wpAny (model prog w) A (getItem o i) Q E s₂) E s₁) E s) :
  wpAny (model prog w) A (eval (.Subscript value slice pos) env) Q E s:=by
 refine Subscript_ (wpAny_mono h (fun o s₁ h₁=>wpAny_mono h₁ (fun i s₂ h₂=>?_) fun _ _ x=>x) fun _ _ x=>x)
 obtain⟨hT,h₂⟩:=h₂
 unfold subscriptTail
 refine wpAny_bind ?_
 rw [getitemInPython_of_ne hT.not_modules]
 refine wpAny_bind (wpAny_specialOf hT hl ?_)
 have fin:wpAny (model prog w) A (subscripted slice false o i) (fun r s₃=>wpAny (model prog w) A (letTemporaryGo value o r >>= fun _=>pure r) Q E s₃) E s₂:=by
  rw [hs o i]
  exact wpAny_operating (wpAny_mono h₂ (fun r s₃ h₃=>wpAny_bind (wpAny_letTemporaryGo (wpAny_pure h₃))) fun _ _ x=>x)
 first
  |exact wpAny_pure (wpAny_bind fin)
  |exact wpAny_bind (wpAny_pure (wpAny_bind fin))
  |exact wpAny_bind fin
theorem lN{X:Cx}{pins:List (Addr × Obj)}{σ:St}{H:Hp}{s:Shared}{a:Addr}{y:V}{o:Option V}(I:Inv X pins σ H s)(g:eK H a y o):s.TypeIs (.ref a) "dict":=by
 rcases g with ⟨kvs,k,e,_,_⟩|⟨kvs,k,b,e,_,_,_⟩
 ·obtain⟨_,_,vs,_,dd⟩:=kl I.hok e
  exact dd.typeIs
 ·obtain⟨_,_,xs,_,dd⟩:=lB I.hok e
  exact dd.typeIs
def yI(td ty:TE):TE:=fun σ H Q=>td σ H fun x H1=>ty σ H1 fun y H2=>∃a v,x=.ref a/\eK H2 a y (some v)/\Q v H2
def zK(ty td:TE):TE:=fun σ H Q=>ty σ H fun y H1=>td σ H1 fun x H2=>∃a o,x=.ref a/\eK H2 a y o/\Q (.bl o.isSome) H2
def vo(ty td:TE):TE:=fun σ H Q=>ty σ H fun y H1=>td σ H1 fun x H2=>∃a o,x=.ref a/\eK H2 a y o/\Q (.bl (!o.isSome)) H2
def yB(td ty tv:TE):TS:=fun D σ H=>tv σ H fun v H1=>td σ H1 fun x H2=>ty σ H2 fun y H3=>∃a H4,x=.ref a/\qU H3 a y v H4/\D.nx σ H4
section
variable{X:Cx}{o i e value:Expr}{pos pos' tpos:Pos}{td ty tv:TE}
theorem dc(hu:X.A.units+1 < cLine)(ho:PE X o td)(hi:PE X i ty)(hs:yR i):PE X (.Subscript o i pos) (yI td ty):=by
 intro pins s σ H Q I h
 refine rD PySem.F.slot_dict_getitem.lookup hs (thn (ho pins s σ H _ I h) fun u s1 ⟨x,H1,I1,rx,q1⟩=>thn (hi pins s1 σ H1 _ I1 q1) fun iv s2 ⟨y,H2,I2,ry,a,v,ex,g,q2⟩=>?_)
 subst ex
 obtain rfl:u=Value.ref a:=rx
 exact⟨lN I2 g,rq hu I2 g ry fun w' s3 I3 rw'=>⟨v,H2,I3,rw',q2⟩⟩
theorem nL(hu:X.A.units+1 < cLine)(hi:PE X i ty)(ho:PE X o td):PC X .In i o (zK ty td):=by
 intro pins s σ H Q I h
 refine thn (hi pins s σ H _ I h) fun iv s1 ⟨y,H1,I1,ry,q1⟩=>thn (ho pins s1 σ H1 _ I1 q1) fun u s2 ⟨x,H2,I2,rx,a,ov,ex,g,q2⟩=>?_
 subst ex
 obtain rfl:u=Value.ref a:=rx
 exact zI hu I2 g ry fun s3 I3=>⟨.bl ov.isSome,H2,I3,rfl,q2⟩
theorem eC(hu:X.A.units+1 < cLine)(hi:PE X i ty)(ho:PE X o td):PC X .NotIn i o (vo ty td):=by
 intro pins s σ H Q I h
 refine thn (hi pins s σ H _ I h) fun iv s1 ⟨y,H1,I1,ry,q1⟩=>thn (ho pins s1 σ H1 _ I1 q1) fun u s2 ⟨x,H2,I2,rx,a,ov,ex,g,q2⟩=>?_
 subst ex
 obtain rfl:u=Value.ref a:=rx
 exact vB hu I2 g ry fun s3 I3=>⟨.bl (!ov.isSome),H2,I3,rfl,q2⟩
theorem ig(hu:X.A.units+1 < cLine)(ho:PE X o td)(hi:PE X i ty)(hv:PE X value tv)(hs:swapsWith value (some (.Subscript o i pos')) pos.line X.env=pure false) :
  PS X (.Assign [.Subscript o i pos'] value pos) (yB td ty tv):=by
 intro pins s σ H D I h
 refine wpAny_Assign_Subscript (thn (hv pins s σ H _ I h) fun r s1 ⟨v,H1,I1,rv,q1⟩=>thn (ho pins s1 σ H1 _ I1 q1) fun u s2 ⟨x,H2,I2,rx,q2⟩=>thn (hi pins s2 σ H2 _ I2 q2) fun iv s3 ⟨y,H3,I3,ry,a,H4,ex,g,q3⟩=>?_) hs
 subst ex
 obtain rfl:u=Value.ref a:=rx
 exact rQ hu I3 g ry rv fun s4 I4=>⟨σ,H4,I4,q3⟩
end
theorem nU{P:Program}{w:World}{H:Hp}(h:Heap)(hb:sysModules < h.objs.size):cG P w H (h.push { cls:=.type "dict",data:=.dict #[] }) h.objs.size (.dK []) :=
 ⟨Nat.zero_le _,beq_eq_false_iff_ne.mpr (Ne.symm (Nat.ne_of_lt hb)),[],.nil,Heap.DictOf.new h⟩
theorem se{P:Program}{w:World}{H:Hp}(h:Heap)(hb:sysModules < h.objs.size):cG P w H (h.push { cls:=.type "dict",data:=.dict #[] }) h.objs.size (.dT []) :=
 ⟨Nat.zero_le _,beq_eq_false_iff_ne.mpr (Ne.symm (Nat.ne_of_lt hb)),[],.nil,_,#[],0,Heap.get?_push_size _ rfl,⟨rfl,rfl,rfl⟩,rfl,rfl,List.nodup_nil⟩
def xF:TE:=fun _ H Q=>∀p,H p=none->Q (.ref p) (upd H p (.dK []))
def wt:TE:=fun _ H Q=>∀p,H p=none->Q (.ref p) (upd H p (.dT []))
section
variable{X:Cx}{pos:Pos}
theorem ju:PE X (.Dict [] [] pos) xF:=fun pins s σ H Q I h =>
 wpAny_Dict_empty ⟨.ref s.heap.objs.size,_,I.laid (a:=s.heap.objs.size) (o:=.dK []) (t':=s.toks) (fun _ _ q=>Heap.get?_push_of_some _ q) (Nat.le_refl _) (nU s.heap I.big),rfl,h _ (I.hok.fresh (Nat.le_refl _))⟩
theorem nS:PE X (.Dict [] [] pos) wt:=fun pins s σ H Q I h =>
 wpAny_Dict_empty ⟨.ref s.heap.objs.size,_,I.laid (a:=s.heap.objs.size) (o:=.dT []) (t':=s.toks) (fun _ _ q=>Heap.get?_push_of_some _ q) (Nat.le_refl _) (se s.heap I.big),rfl,h _ (I.hok.fresh (Nat.le_refl _))⟩
end
def pB:List (TE × TE)->St->Hp->(List (V × V)->Hp->Prop)->Prop
 |[],_,H,Q=>Q [] H
 |(tk,tv)::r,σ,H,Q=>tk σ H fun x H1=>tv σ H1 fun y H2=>pB r σ H2 fun ps H3=>Q ((x,y)::ps) H3
abbrev VV:List (V × V)->List (Value × Value)->Prop:=Paired fun p q=>br p.1 q.1/\br p.2 q.2
def PPs(X:Cx)(pos:Pos)(keys:List (Option Expr))(values:List Expr)(trs:List (TE × TE)):Prop :=
 ∀(pins:List (Addr × Obj)) (s:Shared) (σ:St) (H:Hp) (Q:List (V × V)->Hp->Prop),Inv X pins σ H s->pB trs σ H Q ->
  wpAny (model X.prog X.w) X.A (evalPairs (pairTrees keys values X.env pos)) (fun vs s'=>∃ps H',Inv X pins σ H' s'/\VV ps vs/\Q ps H') X.xe s
theorem iz{X:Cx}{pos:Pos}:PPs X pos [] [] []:=fun pins s σ H Q I h=>pairTrees_nil_walk ⟨[],H,I,.nil,h⟩
theorem dw{X:Cx}{pos:Pos}{k v:Expr}{ks:List (Option Expr)}{vs:List Expr}{tk tv:TE}{trs:List (TE × TE)}(hk:PE X k tk)(hv:PE X v tv)(hr:PPs X pos ks vs trs) :
  PPs X pos (some k::ks) (v::vs) ((tk,tv)::trs):=fun pins s σ H Q I h =>
 pairTrees_cons_walk (thn (hk pins s σ H _ I h) fun u s1 ⟨x,H1,I1,rx,q1⟩=>thn (hv pins s1 σ H1 _ I1 q1) fun w2 s2 ⟨y,H2,I2,ry,q2⟩ =>
  thn (hr pins s2 σ H2 _ I2 q2) fun ws s3 ⟨ps,H3,I3,rel,q3⟩=>⟨(x,y)::ps,H3,I3,.cons ⟨rx,ry⟩ rel,q3⟩)
def ku(kvs more:List (Key × V)):List (Key × V):=more.foldl (fun acc kv=>bi acc kv.1 kv.2) kvs
theorem KV.merge:∀{more:List (Key × V)} {rs:List (Key × Value)} {kvs:List (Key × V)} {vs:List (Key × Value)},KV more rs->KV kvs vs->KV (ku kvs more) (merged vs rs):=by
 intro more rs kvs vs r
 unfold KV at r
 induction r generalizing kvs vs with
 |nil=>intro q;exact q
 |@cons p q ps qs h t ih =>
  intro r0
  have e:KV (bi kvs p.1 p.2) (stored vs q.1 q.2):=by
   have:=r0.put p.1 h.2
   rw [<-h.1];exact this
  exact ih e
theorem fD:∀(more kvs:List (Key × V)),(ku kvs more).length<=kvs.length+more.length
 |[],kvs=>by show kvs.length<=kvs.length+0;omega
 |p::r,kvs=>by
  have h1:=fD r (bi kvs p.1 p.2)
  have h2:=cg kvs p.1 p.2
  show(ku (bi kvs p.1 p.2) r).length<=_
  rw [List.length_cons];omega
theorem iR{P:Program}{w:World}:∀{kvs:List (Key × V)} {ws:List (Value × Value)},VV (kvs.map fun kv=>(kV kv.1,kv.2)) ws->∃rs,Carries (aS P w) ws rs/\KV kvs rs
 |[],_,r=>by rw [List.map_nil] at r;cases r;exact⟨[],True.intro,.nil⟩
 |p::kvs,_,r=>by
  rw [List.map_cons] at r
  cases r with
  |@cons a b as bs h t =>
   obtain⟨rs,c,q⟩:=iR (P:=P) (w:=w) t
   obtain⟨b1,b2⟩:=b
   exact⟨(p.1,b2)::rs,⟨jX h.1,rfl,c⟩,.cons ⟨rfl,h.2⟩ q⟩
def yu(trs:List (TE × TE)):TE:=fun σ H Q=>∀p,H p=none->pB trs σ (upd H p (.dK [])) fun ps H2=>H2 p=some (.dK [])/\∃kvs:List (Key × V),ps=kvs.map (fun kv=>(kV kv.1,kv.2))/\kvs.length<=15/\Q (.ref p) (upd H2 p (.dK (ku [] kvs)))
theorem hX{X:Cx}{pos:Pos}{keys:List (Option Expr)}{values:List Expr}{trs:List (TE × TE)}(h:PPs X pos keys values trs)(hall:keys.all (·.isSome)=true)(hl:keys.length=values.length)(h0:keys≠[])
  (h15:keys.length<=15):PE X (.Dict keys values pos) (yu trs):=by
 intro pins s σ H Q I q
 have hn:=I.hok.fresh (Nat.le_refl s.heap.objs.size)
 have I1:=I.laid (a:=s.heap.objs.size) (o:=.dK []) (h':=s.heap.push { cls:=.type "dict",data:=.dict #[] }) (t':=s.toks) (fun _ _ q=>Heap.get?_push_of_some _ q) (Nat.le_refl _) (nU s.heap I.big)
 refine wpAny_Dict_walk (knd:=aS X.prog X.w) hall hl h0 h15 (thn (h pins _ σ _ _ I1 (q _ hn)) fun ws s2 ⟨ps,H2,I2,rel,e,kvs,ep,lk,q2⟩=>?_)
 subst ep
 obtain⟨rs,c,rk⟩:=iR (P:=X.prog) (w:=X.w) rel
 obtain⟨z,hd,vs0,r0,dd⟩:=jY I2.hok e
 cases r0
 refine⟨rs,c,dd,fun h' dd' hs=>⟨.ref s.heap.objs.size,_,?_,rfl,q2⟩⟩
 have hz:(ku [] kvs).length<=sizeLine:=by
  have h1:=fD kvs []
  rw [List.length_nil] at h1
  rw [sizeLine_eq];omega
 have he:∃q,h'.get? s.heap.objs.size=some q:=let ⟨q,_,_,hq,_⟩:=dd';⟨q,hq⟩
 exact ma I2 (by rw [e];exact True.intro) hs he (uG hz hd (rk.merge .nil) dd')
structure M1(X:Cx)(o:Expr)(m:Str)(apos:Pos)(e:Expr)(cpos:Pos):Prop where
 base:attributeBase o m X.env (eval o X.env)=eval o X.env
 few:((backTo cpos (starEach [e] X.env)).all (fun x=>!x.1)&&(backToKw cpos (keywordEach [] X.env)).all (fun x=>x.1.isSome)
  && decide (([e]:List Expr).length+([]:List Keyword).length+(if ([]:List Keyword).isEmpty then 0 else 1) < 30))=true
 line:(apos.endLine==cpos.line)=true
 trees:backTo cpos (starEach [e] X.env)=[(false,eval e X.env)]
structure M2(X:Cx)(o:Expr)(m:Str)(apos:Pos)(e f:Expr)(cpos:Pos):Prop where
 base:attributeBase o m X.env (eval o X.env)=eval o X.env
 few:((backTo cpos (starEach [e,f] X.env)).all (fun x=>!x.1)&&(backToKw cpos (keywordEach [] X.env)).all (fun x=>x.1.isSome)
  && decide (([e,f]:List Expr).length+([]:List Keyword).length+(if ([]:List Keyword).isEmpty then 0 else 1) < 30))=true
 line:(apos.endLine==cpos.line)=true
 trees:backTo cpos (starEach [e,f] X.env)=[(false,eval e X.env),(false,eval f X.env)]
def IsD(H:Hp)(a:Addr):Prop:=(∃kvs,Rd H a (.dK kvs))\/∃kvs,Rd H a (.dT kvs)
theorem wG{X:Cx}{pins:List (Addr × Obj)}{σ:St}{H:Hp}{s:Shared}{a:Addr}(I:Inv X pins σ H s)(d:IsD H a) :
  s.TypeIs (.ref a) "dict"/\(∀b,Value.ref a=.ref b->∃ob,s.heap.get? b=some ob/\ob.dict=none)/\(a==sysModules)=false:=by
 rcases d with ⟨kvs,e⟩|⟨kvs,e⟩
 ·obtain⟨_,hd,vs,_,dd⟩:=kl I.hok e
  refine⟨dd.typeIs,fun b q=>?_,hd⟩
  cases q
  obtain⟨ob,_,_,h1,h2,_⟩:=dd
  exact⟨ob,h1,h2.2.1⟩
 ·obtain⟨_,hd,xs,_,dd⟩:=lB I.hok e
  refine⟨dd.typeIs,fun b q=>?_,hd⟩
  cases q
  obtain⟨ob,_,_,h1,h2,_⟩:=dd
  exact⟨ob,h1,h2.2.1⟩
section
variable{X:Cx}{pins:List (Addr × Obj)}{σ:St}{H:Hp}{s:Shared}{a:Addr}{y d:V}{u r:Value}{o:Option V}{A:Around}{E:Value->Shared->Prop}
theorem wU{Q:Value->Shared->Prop}(hu:A.units+1 < cLine)(I:Inv X pins σ H s)(g:eK H a y o)(ry:br y u)(rd:br d r)(h:∀w' s',Inv X pins σ H s'->br (o.getD d) w'->Q w' s') :
  wpAny (model X.prog X.w) A (call (.builtin "dict.get") [.ref a,u,r]) Q E s:=by
 rcases g with ⟨kvs,k,e,ey,l⟩|⟨kvs,k,b,e,ey,eb,l⟩
 ·subst ey
  obtain⟨z,hd,vs,rel,dd⟩:=kl I.hok e
  refine call_meetsIn PySem.F.slot_dict_get dd.typeIs PySem.F.entry_dict_get (PySem.F.args_dict_get_3 _ _ _) (meets_dict_get_default (aS X.prog X.w) a (jX ry) hd r) ⟨_,dd.mapOf,h _ _ (I.tok _) ?_⟩
  rw [l]
  exact(rel.val k).getD rd
 ·subst ey
  cases (show u=Value.ref b from ry)
  obtain⟨z,hd,xs,rel,dd⟩:=lB I.hok e
  refine call_meetsIn PySem.F.slot_dict_get dd.typeIs PySem.F.entry_dict_get (PySem.F.args_dict_get_3 _ _ _) (meetsH_dict_get_default (tupleKind (aS X.prog X.w)) a b hd r) ⟨tupleKind_room_in1 hu,k,xs,i8 I.hok eb,dd,h _ _ (I.tok _) ?_⟩
  rw [l]
  exact(rel.val k).getD rd
end
def wT(td ty tx:TE):TE:=fun σ H Q=>td σ H fun x H1=>∃a,x=.ref a/\IsD H1 a/\ty σ H1 fun y H2=>tx σ H2 fun z H3=>∃o,eK H3 a y o/\Q (o.getD z) H3
section
variable{X:Cx}{o e f:Expr}{apos cpos:Pos}{td ty tx:TE}
theorem tS(hu:X.A.units+1 < cLine)(ho:PE X o td)(he:PE X e ty)(hf:PE X f tx) (m:M2 X o "get" apos e f cpos):PE X (.Call (.Attribute o "get" apos) [e,f] [] cpos) (wT td ty tx):=by
 intro pins s σ H Q I h
 refine wpAny_Call_method m.base m.few m.line PySem.F.plainAttrs_dict PySem.F.slot_dict_get PySem.F.type_dict_get (thn (ho pins s σ H _ I h) fun u s1 ⟨x,H1,I1,rx,a,ex,d,q1⟩=>?_)
 subst ex
 obtain rfl:u=Value.ref a:=rx
 obtain⟨t1,t2,_⟩:=wG I1 d
 refine⟨t1,t2,?_⟩
 rw [m.trees]
 refine Calls.callWith_builtin rfl (Calls.evalArgs_plain (Calls.spliced_cons (thn (he pins s1 σ H1 _ I1 q1) fun iv s2 ⟨y,H2,I2,ry,q2⟩ =>
  Calls.spliced_cons (thn (hf pins s2 σ H2 _ I2 q2) fun fv s3 ⟨z,H3,I3,rz,ov,g,q3⟩=>Calls.spliced_nil ?_))))
 exact wU hu I3 g ry rz fun w' s4 I4 rw'=>⟨_,H3,I4,rw',q3⟩
end
section
variable{X:Cx}{pins:List (Addr × Obj)}{σ:St}{H:Hp}{s:Shared}{a:Addr}{kvs:List (Key × V)}{A:Around}{E:Value->Shared->Prop}
end
section
variable{X:Cx}{pins:List (Addr × Obj)}{σ:St}{H:Hp}{s:Shared}{a:Addr}{y:V}{u:Value}{A:Around}{E:Value->Shared->Prop}
end
end L2
namespace Att
open PySem PySem.W PySem.Calls PyProof.Rows
theorem gR{P:Params}{h:Heap}:∀(ns:List Int) (vs:List Value),WellAll P h vs (ns.map WData.int)->IntsAre vs ns:=by
 intro ns
 induction ns with
 |nil =>
  intro vs w
  rw [List.map_nil] at w
  cases w
  exact .nil
 |cons n ns ih =>
  intro vs w
  rw [List.map_cons] at w
  cases w with
  |cons a b =>
   cases a
   exact .cons _ _ (ih _ b)
theorem qB{l:OpenLaw}{n:Nat}(hn:l.most=some n){P:Params}{h:Heap}{args:List WData}{vals:List Value}
  (hpre:l.row.toRowW.claim.pre args=true) (hwl:WellAll P h vals args) :
  ∃a vs ns,vals=[Value.ref a]/\args=[WData.list (ns.map WData.int)]/\h.get? a=some { cls:=.type "list",data:=.seq vs.toArray }/\IntsAre vs ns/\ns.length<=n:=by
 have hsh:WShape.hasAll [] args [.list .int]=true:=(pre_splitW hpre).1
 have hc:l.pre.holds [] { args:=args }=true:=(pre_splitW hpre).2
 obtain⟨d,r,rfl,h1,h2⟩:=hasAllW_cons hsh
 obtain rfl:=hasAllW_nil h2
 obtain⟨xs,rfl,h3⟩:=hasW_list h1
 obtain⟨ns,rfl⟩:=items_int h3
 have hlen:ns.length<=n:=by
  unfold OpenLaw.pre at hc
  have h4:(WTm.not (.lt (.lit (.int (n:Int))) (.len (.arg 0)))).holds [] { args:=[.list (ns.map .int)] }=true:=by
   have h4:=(holds_andW hc).1
   rw [hn] at h4
   exact h4
  have h5:=condW_of h4 (w_not (w_lt w_lit (w_len_list (w_arg rfl))))
  rw [List.length_map] at h5
  refine Nat.le_of_not_lt fun q=>?_
  have q':(n:Int) < ((ns.length:Nat):Int):=by omega
  first
   |(rw [decide_eq_true q'] at h5;exact absurd h5 (by decide))
   |(simp at h5;omega)
 cases hwl with
 |cons w1 w2 =>
  cases w2
  cases w1 with
  |list ho hall=>exact⟨_,_,ns,rfl,rfl,ho,gR ns _ hall,hlen⟩
theorem o8(l:OpenLaw)(args:List WData):l.row.toRowW.claim.post args (.bool true) args=true :=
 postW_of (r:=l.row.toRowW) (X:=(true==true))
  (show WShape.has [] (.bool true) .bool=true by first|rfl|decide|simp [WShape.has,WShape.arms,WShape.armsAll])
  (show(WTm.eq .res (.lit (.bool true))).value [] { args:=args,res:=some (.bool true),after:=args }=some (.bool (true==true)) from w_eq_bool (w_res rfl) w_lit) rfl
theorem attach_call{l:OpenLaw}{n:Nat}{q:Program}{loose:List Str}{XP:(Str->Option Value)->Heap->Prop}{YP:World->Heap->Prop}{d:DefRec}
  (hn:l.most=some n) (hdf:d.params.defaults=[])
  (call:∀(w:World) (s₀ s₁:Shared) (mg mb:Str->Option Value) (fa:Addr) (o:Obj) (pm cd doc:Value) (a:Addr) (vs:List Value) (ns:List Int),
   Ground q loose [] XP w s₀ mg mb s₁.heap->YP w s₁.heap ->
   s₁.heap.get? fa=some o->o.data=.func (docDef d.name d.params d.body d.scope pm cd doc)->s₁.heap.CodeRec cd d.name->mg d.name=some (.ref fa) ->
   s₁.heap.get? a=some { cls:=.type "list",data:=.seq vs.toArray }->IntsAre vs ns->ns.length<=n->s₁.gens=#[] ->
   codeAny (model l.prog w) callerA (.call (.ref fa) ⟨[.ref a],[]⟩) (fun r s'=>r=.ok (.ret (.bool true))/\OldK s₁.heap s'.heap/\s'.os=s₁.os/\AllBare s'.gens) s₁) :
  WalkO q loose XP YP l.row.toRowW d [] (fun f vs=>PySem.call f vs):=by
 intro w s₀ s₁ mg mb G Y fa o pm cd doc dV kV ho hd hcd hD hmg hg args vals as hpre hlay hrd hwl hlo
 obtain rfl:dV=.none:=Dflts.none hD hdf
 obtain rfl:kV=.none:=Dflts.noKw hD
 obtain⟨a,vs,ns,rfl,rfl,hobj,hints,hlen⟩:=qB hn hpre hwl
 refine enter_call (codeAny_mono (call w s₀ s₁ mg mb fa o pm cd doc a vs ns G Y ho (fd_plain hd) hcd hmg hobj hints hlen hg) fun r s' hq=>?_)
 obtain⟨rfl,h2,h3,h4⟩:=hq
 exact⟨.inl ⟨.bool true,.bool true,[],rfl,fun _=>rfl,.bool true,o8 l _,fun _=>⟨List.Pairwise.nil,fun _ hm=>(nomatch hm)⟩⟩,h2,h3,h4⟩
section
variable{prog:Program}{w:World}{A:Around}{E:Value->Shared->Prop}{s:Shared}{K:Frag}
def zy(h:Heap)(L d:Addr):List (Addr × Obj):=(List.range h.objs.size).filterMap fun a=>if a=L\/a=d then none else (h.get? a).map fun o=>(a,o)
end
end Att
namespace L2
open PySem PySem.Spec PyProof.Rows
theorem j8:∀{vs:List Value} {ns:List Int},IntsAre vs ns->bg (ns.map V.int) vs
 |_,_,.nil=>.nil
 |_,_,.cons n t h=>.cons ⟨t,rfl⟩ (j8 h)
abbrev KOf{K:W.Frag}{h:Heap}(_:K.In h):W.Frag:=K
def vg(s:Stmt)(j:Nat):Stmt:=match s with
 |.ClassDef _ _ _ body _ _ _ _ _ _ _=>body.getD j (.Pass ⟨0,0,0,0⟩)
 |_=>.Pass ⟨0,0,0,0⟩
def aD(s:Stmt):Arguments:=match s with
 |.FunctionDef _ a _ _ _ _ _ _ _ _=>a
 |_=>{ posonlyargs:=[],args:=[],vararg:=none,kwonlyargs:=[],kw_defaults:=[],kwarg:=none,defaults:=[] }
def aw(s:Stmt):List Stmt:=match s with
 |.FunctionDef _ _ b _ _ _ _ _ _ _=>b
 |_=>[]
def aj(s:Stmt):Scope:=match s with
 |.FunctionDef _ _ _ _ _ _ sc _ _ _=>sc
 |_=>{ kind:=.function,names:=[],isGenerator:=false,isCoroutine:=false }
abbrev CX0:CXT:=fun _ _ _ _ _ _=>False
abbrev E0:XK:=fun _ _ _=>False
theorem bQ{X:Cx}:cT CX0 X E0:=fun _ _ _ _ _ _ _ h=>h.elim
structure Fun(K:W.Frag)(x qual:Str)(st:Stmt)(f:Addr)(fd:FuncData):Prop where
 ex:∃(oc:Value) (od:Option Addr) (kV doc pm:Value) (an:Option Addr) (cdv ct:Value) (osl:Array (Option Value)),
  fd=W.fnOf x qual (aD st) (aw st) (aj st) .none kV doc pm an cdv ct/\K.lookup f=some ⟨oc,od,.func fd,osl⟩/\W.codeIn K cdv qual=true
 kp:W.keepIn K (.ref f)=true
section
variable{P:Program}{w:World}{K:W.Frag}{mg:Str->Option Value}{base:Heap}
theorem Fun.ok{x qual:Str}{st:Stmt}{f:Addr}{fd:FuncData}{N ps:List Str}{k:Nat}{sp:Sp}(F:Fun K x qual st f fd)(S:aJ N ps (aj st))(len:∀vs H Q E,sp vs H Q E->vs.length=ps.length)
  (hbody:∀(cdv:Value) (A:Around) (outer:List Env) (s:Shared) (H:Hp) (vs:List V) (Q:VK) (E:XK),cA k (A.deeper (envOfC qual (aj st) s.heap.objs.size f cdv))->sp vs H Q E ->
   ∃t,PSs (dI CX0 P w K mg base N qual (aj st) f cdv A outer s H E).nox (aw st) t/\t { nx:=fun _ H'=>Q .non H',rt:=Q } (fh N vs) H):aV P w K mg base CX0 (k+1) f fd ps sp:=by
 obtain⟨oc,od,kV,doc,pm,an,cdv,ct,osl,rfl,lk,hcd⟩:=F.ex
 refine tY lk hcd S len fun A outer s H vs Q E hr hsp=>?_
 obtain⟨t,h,q⟩:=hbody cdv A outer s H vs Q E hr hsp
 exact⟨t,h.nox,q⟩
theorem Fun.binds{x qual:Str}{st:Stmt}{f:Addr}{fd:FuncData}{ps:List Str}(F:Fun K x qual st f fd)
  (h:∀(kV doc pm:Value) (an:Option Addr) (cdv ct:Value) (us:List Value),us.length=ps.length->bindArgs (W.fnOf x qual (aD st) (aw st) (aj st) .none kV doc pm an cdv ct) ⟨us,[]⟩=pure (ps.zip us)):aL K fd ps []:=by
 obtain⟨oc,od,kV,doc,pm,an,cdv,ct,osl,rfl,lk,hcd⟩:=F.ex
 exact .all (h kV doc pm an cdv ct)
theorem bw{x qual:Str}{st:Stmt}{f:Addr}{oc:Value}{od an:Option Addr}{osl:Array (Option Value)}{kV doc pm cdv ct:Value}(l:K.lookup f=some ⟨oc,od,.func (W.fnOf x qual (aD st) (aw st) (aj st) .none kV doc pm an cdv ct),osl⟩)
  (c:W.codeIn K cdv qual=true) (k:W.keepIn K (.ref f)=true):Fun K x qual st f (W.fnOf x qual (aD st) (aw st) (aj st) .none kV doc pm an cdv ct):=⟨⟨oc,od,kV,doc,pm,an,cdv,ct,osl,rfl,l,c⟩,k⟩
end
theorem fH{A:Around}{k:Nat}(hr:cA k A):A.units+1 < cLine:=Nat.lt_of_le_of_lt (Nat.add_le_add_left (by decide:1<=64) _) hr.units
theorem dJ{n:Nat}(h:n<=1000):n < sizeLine:=Nat.lt_of_le_of_lt h (by decide)
section
variable{X:Cx}
theorem pv(i:Nat){x:Str}{pos:Pos}(hN:X.N[i]?=some x:=by rfl)(hv:Vis X.env.scope x:=by first|exact Or.inl rfl|exact Or.inr (Or.inl rfl)|exact Or.inr (Or.inr rfl)) (hd:(x==("__debug__":Str))=false:=by decide)
  (hcd:(x==("__classdict__":Str))=false:=by decide):PE X (.Name x pos) (yJ i):=wz hN hv hd hcd
theorem ce{A B:Prop}(h:B):if false=true then A else B:=by
 rw [if_neg Bool.false_ne_true]
 exact h
theorem dZ{A B:Prop}(h:A):if true=true then A else B:=by
 rw [if_pos rfl]
 exact h
theorem dH{c A B:Prop}[Decidable c](h1:c->A)(h2:¬c->B):if c then A else B:=by
 by_cases h:c
 ·rw [if_pos h]
  exact h1 h
 ·rw [if_neg h]
  exact h2 h
def aH(H H':Hp):Prop:=∀b o,H b=some o->H' b=some o
theorem aH.refl(H:Hp):aH H H:=fun _ _ h=>h
theorem aH.trans{H H1 H2:Hp}(a:aH H H1)(b:aH H1 H2):aH H H2:=fun c o h=>b c o (a c o h)
theorem aH.free{H H':Hp}(e:aH H H'){l:Addr}(h:H' l=Option.none):H l=Option.none:=by
 cases q:H l with
 |none=>rfl
 |some o =>
  rw [e l o q] at h
  cases h
theorem aH.seq{K:W.Frag}{H H':Hp}{a:Addr}{xs:List V}(e:aH H H')(h:SqL K H a xs):SqL K H' a xs:=by
 rcases h with (h|⟨o,h⟩)|h
 ·exact .inl (.inl (e _ _ h))
 ·exact .inl (.inr ⟨o,e _ _ h⟩)
 ·exact .inr h
theorem qX:ke X (.builtin "len") (fun xs H Q=>∃a kvs,xs=[V.ref a]/\H a=some (.dK kvs)/\Q (.int kvs.length) H):=by
 intro pins s σ H xs us Q I r h
 obtain⟨a,kvs,rfl,ha,q⟩:=h
 obtain⟨u,rfl,ru⟩:=lu r
 cases ru
 exact zd I (.inl ha) fun t s' I'=>⟨.int kvs.length,H,I',⟨t,rfl⟩,q⟩
end
section
variable{κ:Type}[DecidableEq κ]
end
section
variable{X:Cx}{tg:Expr}
end
abbrev blk(X:Cx)(N':List Str)(sc:Scope)(cl:List (Str × Addr))(s₀:Shared)(H₀:Hp)(C:Addr)(ex:List Addr):Cx :=
 { X with N:=N',s₀:=s₀,H₀:=H₀,env:=compEnvC sc cl C X.env,outer:=X.stack,ex:=ex,fn:=fun _=>false,xe:=fun _ _=>False }
structure iA(X:Cx)(caps:List Str)(sc:Scope)(cl:List (Str × Addr)):Prop where
 kind:sc.kind=.function
 nocell:∀y∈sc.names,y.2≠.cell
 names:∀y∈sc.names,y.2=.local->sc.names.lookup y.1=some .local
 clos:closureFor sc X.env=pure cl
 has:(sc.names.all fun y=>y.2 != .free||(cl.lookup y.1).isSome)=true
 sub:∀y∈cl,X.env.cells.lookup y.1=some y.2
 caps:∀x∈caps,(X.env.kindOf x=some .cell\/X.env.kindOf x=some .free)/\(cl.lookup x).isSome=true/\((relabel sc X.env).names.lookup x=some .cell\/(relabel sc X.env).names.lookup x=some .free)
theorem eW{env:Env}:∀{names:List (Str × NameKind)} {x:Str} {k:NameKind},(names.map fun(n,k)=>if (k==NameKind.free&&env.scope.kind==.function&&env.kindOf n==some .cell) then (n,NameKind.cell) else (n,k)).lookup x=some k ->
  ∃k',(x,k')∈names/\(k'=k\/k'=.free)
 |[],_,_,h=>by simp at h
 |(n,k0)::r,x,k,h=>by
  have h':List.lookup x ((if (k0==NameKind.free&&env.scope.kind==.function&&env.kindOf n==some .cell)=true then (n,NameKind.cell) else (n,k0))::(r.map fun(n,k)=>if (k==NameKind.free&&env.scope.kind==.function&&env.kindOf n==some .cell) then (n,NameKind.cell) else (n,k)))=some k:=h
  by_cases hx:x=n
  ·subst hx
   refine⟨k0,List.mem_cons_self,?_⟩
   by_cases hc:(k0==NameKind.free&&env.scope.kind==.function&&env.kindOf x==some .cell)=true
   ·have hf:(k0==NameKind.free)=true:=by
     rw [Bool.and_eq_true,Bool.and_eq_true] at hc
     exact hc.1.1
    exact .inr (by cases k0<;>first|rfl|exact absurd hf (by decide))
   ·rw [if_neg hc,List.lookup_cons_self] at h'
    exact .inl (Option.some.inj h')
  ·have hb:(x==n)=false:=beq_eq_false_iff_ne.mpr hx
   have h2:(r.map fun(n,k)=>if (k==NameKind.free&&env.scope.kind==.function&&env.kindOf n==some .cell) then (n,NameKind.cell) else (n,k)).lookup x=some k:=by
    split at h'<;>simpa [List.lookup_cons,hb] using h'
   obtain⟨k',hm,hk⟩:=eW h2
   exact⟨k',List.mem_cons_of_mem _ hm,hk⟩
theorem iA.hasc{X:Cx}{caps:List Str}{sc:Scope}{cl:List (Str × Addr)}(S:iA X caps sc cl){x:Str}(h:(relabel sc X.env).names.lookup x=some .cell\/(relabel sc X.env).names.lookup x=some .free):∃c,cl.lookup x=some c:=by
 have key:(x,NameKind.free)∈sc.names:=by
  rcases h with h|h
  ·obtain⟨k',hm,hk⟩:=eW h
   rcases hk with rfl|rfl
   ·exact absurd rfl (S.nocell _ hm)
   ·exact hm
  ·obtain⟨k',hm,hk⟩:=eW h
   rcases hk with rfl|rfl<;>exact hm
 have q:=List.all_eq_true.mp S.has _ key
 have q2:(cl.lookup x).isSome=true:=by simpa using q
 exact Option.isSome_iff_exists.mp q2
theorem iA.subc{X:Cx}{caps:List Str}{sc:Scope}{cl:List (Str × Addr)}(S:iA X caps sc cl){x:Str}{c:Addr}(h:cl.lookup x=some c):X.env.cells.lookup x=some c:=S.sub _ (PySem.mem_of_lookup h)
def cS(n:Nat)(κ:List Nat)(σ:St):St:=List.replicate n none++κ.map fun k=>(σ[k]?).join
def jn(n:Nat)(κ:List Nat)(g:TG)(tc:TT)(te:TE)(σ:St)(J:It)(H1:Hp)(Q:VK):Prop :=
 ∃W:Nat->Nat->List V->Hp->Prop,(∃m,W 0 m [] H1)/\∀i m ys H2,W i m ys H2 ->
  (J.stop i H2/\∀D,H2 D=none->Q (.ref D) (upd H2 D (.lst ys))) \/
  (J.go i H2/\ys.length < sizeLine/\∀x H3,J.yld i H2 x H3->g x (cS n κ σ) H3 fun σ4 H4=>σ4.drop n=(cS n κ σ).drop n /\
   tc σ4 H4 fun b H5=>if b=true then te σ4 H5 fun v H6=>∃m',m' < m/\W (i+1) m' (ys++[v]) H6 else ∃m',m' < m/\W (i+1) m' ys H5)
def oI(n:Nat)(κ:List Nat)(wi:TI)(g:TG)(tc:TT)(te:TE):TE:=fun σ H Q=>wi σ H fun J H1=>jn n κ g tc te σ J H1 Q
def vW:TT:=fun _ H Q=>Q true H
theorem pe{σ:St}{H:Hp}{A B:Hp->Prop}(h:A H):vW σ H fun b H5=>if b=true then A H5 else B H5:=by
 show(if true=true then A H else B H)
 rw [if_pos rfl]
 exact h
section
variable{X:Cx}{pins:List (Addr × Obj)}{σ:St}{H:Hp}{s:Shared}
theorem Inv.block{caps:List Str}{own:List Str}{κ:List Nat}{sc:Scope}{cl:List (Str × Addr)}{fp:List Addr}{h₁:Heap}{tk:Nat}(S:iA X caps sc cl)(hκ:κ.map (fun k=>X.N[k]?)=caps.map some)(I:Inv X pins σ H s)
  (f2:∀b∈fp,lc X pins H b) (hfp:∀b∈fp,b < s.heap.objs.size)
  {hp:Heap} {ol:Obj} (ehp:hp=s.heap.push ol) (hns:h₁.Ns hp.objs.size fun _=>none) (old:∀b o,hp.get? b=some o->h₁.get? b=some o) :
  Inv (blk X (own++caps) sc cl { s with heap:=hp } H hp.objs.size (s.heap.objs.size::fp)) pins (cS own.length κ σ) H { s with heap:=h₁,toks:=tk }:=by
 have hsz:hp.objs.size=s.heap.objs.size+1:=by rw [ehp,Heap.size_push]
 have up:∀b o,s.heap.get? b=some o->hp.get? b=some o:=fun b o e=>by rw [ehp];exact Heap.get?_push_of_some _ e
 have I3:Inv X pins σ H { s with heap:=hp }:=I.kept (t':=s.toks) up
 have stk:∀b,b≠X.env.locals->b∉X.fs->b∉frs X.stack:=fun b h1 h2 z=>(List.mem_cons.mp (I.stkSub b z)).elim h1 h2
 have dD:s.heap.objs.size≠X.env.locals:=Nat.ne_of_gt I.lt
 have cellLt:∀x c,X.env.cells.lookup x=some c->c < s.heap.objs.size:=fun x c e=>by
  obtain⟨v,q⟩:=I.cell x c e
  exact q.lt
 have ltC:∀b,b < s.heap.objs.size->b≠hp.objs.size:=fun b hb=>by rw [hsz];exact Nat.ne_of_lt (Nat.lt_succ_of_lt hb)
 have cellK:∀c v,s.heap.IsCell c v->h₁.IsCell c v:=fun c v ⟨o,ho,hd⟩=>⟨o,old _ _ (up _ _ ho),hd⟩
 refine⟨⟨I.ok.mod,?_,I.ok.glob,I.ok.blt,Nat.le_refl _,fun x y c h1 h2=>I.ok.inj x y c (S.subc h1) (S.subc h2),fun x h=>S.hasc h,fun _ _ z=>absurd z Bool.false_ne_true,I.ok.hd,I.ok.frames,.inl rfl,fun b hb=>?_,fun b o e=>⟨up _ _ (I.bs b o e).1,(I.bs b o e).2⟩,
   Nat.le_trans (Nat.le_trans I.ok.bsz I.sz) (by show s.heap.objs.size<=hp.objs.size;rw [hsz];exact Nat.le_succ _),fun b o e hb=>?_,fun b hb=>?_,I3.stack,I.stkFree⟩,
  rfl,I.bare,Un.kept old,⟨_,hns,fun i x v e1 e2 e3=>?_⟩,fun x c h=>?_,I.hok.fresh (by rw [hsz];exact Nat.le_succ _),fun x c h=>I.freeC x c (S.subc h),fun p hp'=>?_,I.hok.kept fun b u e=>old _ _ (up _ _ e),?_⟩
 ·show(relabel sc X.env).kind=.function
  exact S.kind
 ·show b≠hp.objs.size/\∀x c,cl.lookup x=some c->c≠b
  rcases List.mem_cons.mp hb with rfl|hb
  ·exact⟨by rw [hsz];exact Nat.ne_of_lt (Nat.lt_succ_self _),fun x c h=>Nat.ne_of_lt (cellLt x c (S.subc h))⟩
  ·exact⟨ltC b (hfp b hb),fun x c h=>(f2 b hb).2.2.2.2.1 x c (S.subc h)⟩
 ·have hlt:b < X.s₀.heap.objs.size:=Nat.lt_of_lt_of_le (Heap.lt_size e) I.ok.bsz
  rcases List.mem_cons.mp hb with rfl|hb
  ·exact absurd (Nat.lt_of_lt_of_le hlt I.sz) (Nat.lt_irrefl _)
  ·rcases (f2 b hb).2.2.2.1 with z|z
   ·exact I.ok.noex b o e z
   ·exact absurd (Nat.lt_of_lt_of_le hlt z) (Nat.lt_irrefl _)
 ·rcases List.mem_cons.mp hb with rfl|hb
  ·exact stk _ dD (I.nofs (Nat.le_refl _))
  ·exact stk _ (f2 b hb).2.1 (f2 b hb).2.2.1
 ·have e1':(own++caps)[i]?=some x:=e1
  have hlen:(List.replicate own.length (none:Option V)).length=own.length:=List.length_replicate
  have hge:own.length<=i:=by
   refine Nat.le_of_not_lt fun hlt=>?_
   unfold cS at e2
   rw [List.getElem?_append_left (by rw [hlen];exact hlt),List.getElem?_replicate,if_pos hlt] at e2
   cases e2
  unfold cS at e2
  rw [List.getElem?_append_right (by rw [hlen];exact hge),hlen,List.getElem?_map] at e2
  rw [List.getElem?_append_right hge] at e1'
  cases ek:κ[i - own.length]? with
  |none=>rw [ek] at e2;cases e2
  |some k =>
   rw [ek] at e2
   have e2':(σ[k]?).join=some v:=Option.some.inj e2
   have e4:σ[k]?=some (some v):=by
    cases eσ:σ[k]? with
    |none=>rw [eσ] at e2';cases e2'
    |some w=>rw [eσ] at e2';exact congrArg some e2'
   have e5:X.N[k]?=some x:=by
    have z:=congrArg (fun l=>l[i - own.length]?) hκ
    simp only [List.getElem?_map,ek,e1',Option.map_some] at z
    exact Option.some.inj z
   obtain⟨c1,c2,c3⟩:=S.caps x (List.mem_of_getElem? e1')
   obtain⟨m,hn,hl⟩:=I.loc
   obtain⟨u,r,l⟩:=hl k x v e5 e4 (c1.elim (fun z=>.inr (.inl z)) fun z=>.inr (.inr z))
   refine⟨u,r,?_⟩
   rcases l with ⟨hk,_⟩|⟨_,c,hc,hcell⟩
   ·rcases c1 with z|z<;>(rw [hk] at z;cases z)
   ·obtain⟨c',hc'⟩:=Option.isSome_iff_exists.mp c2
    have ecc:c'=c:=Option.some.inj ((S.subc hc').symm.trans hc)
    subst ecc
    exact .inr ⟨c3,c',hc',cellK _ _ hcell⟩
 ·obtain⟨v,q⟩:=I.cell x c (S.subc h)
  exact⟨v,cellK c v q⟩
 ·obtain⟨e,n,ne,nf,d⟩:=I.pin p hp'
  exact⟨old _ _ (up _ _ e),n,ltC _ (Heap.lt_size e),stk _ ne nf,d⟩
 ·show(cS own.length κ σ).length=(own++caps).length
  have z:=congrArg List.length hκ
  rw [List.length_map,List.length_map] at z
  unfold cS
  rw [List.length_append,List.length_append,List.length_replicate,List.length_map,z]
theorem Inv.unblock{own caps:List Str}{sc:Scope}{cl:List (Str × Addr)}{fp:List Addr}{H':Hp}{s4:Shared}{σ':St}{pins':List (Addr × Obj)}{hp h':Heap}{ol:Obj}{ys:List V}{its:List Value}{cap:Nat}(I:Inv X pins σ H s)
  (f2:∀b∈fp,lc X pins H b) (ehp:hp=s.heap.push ol)
  (J:Inv (blk X (own++caps) sc cl { s with heap:=hp } H hp.objs.size (s.heap.objs.size::fp)) pins' σ' H' s4)
  (hD:s4.heap.get? s.heap.objs.size=some { cls:=.type "list",data:=.seq its.toArray cap }) (nD:H' s.heap.objs.size=none) (r:bg ys its) (hz:ys.length<=sizeLine) (sb:Heap.SameBut hp.objs.size s4.heap h') :
  Inv X pins σ (upd H' s.heap.objs.size (.lst ys)) { s4 with heap:=h' }:=by
 have hsz:hp.objs.size=s.heap.objs.size+1:=by rw [ehp,Heap.size_push]
 have up:∀b o,s.heap.get? b=some o->hp.get? b=some o:=fun b o e=>by rw [ehp];exact Heap.get?_push_of_some _ e
 have nDs:H s.heap.objs.size=none:=I.hok.fresh (Nat.le_refl _)
 have neD:∀b o,s.heap.get? b=some o->b≠s.heap.objs.size:=fun b o e=>Nat.ne_of_lt (Heap.lt_size e)
 have neC:∀b o,s.heap.get? b=some o->b≠hp.objs.size:=fun b o e=>by rw [hsz];exact Nat.ne_of_lt (Nat.lt_succ_of_lt (Heap.lt_size e))
 have nex:∀b o,s.heap.get? b=some o->b∉fp->b∉s.heap.objs.size::fp:=fun b o e hb z=>(List.mem_cons.mp z).elim (neD b o e) hb
 have u:=J.base
 have hDC:s.heap.objs.size≠hp.objs.size:=by rw [hsz];exact Nat.ne_of_lt (Nat.lt_succ_self _)
 have eD:h'.get? s.heap.objs.size=some { cls:=.type "list",data:=.seq its.toArray cap }:=(sb.2 _ hDC).trans hD
 refine I.call' (ch:=fp) J.os ⟨fun b o e n hb hx=>?_,fun b o e n hb hx=>?_,fun b o e n hx=>?_,fun b o e hx=>?_,fun b xs e=>?_,fun b o x e=>?_,fun b ps e=>?_⟩ (fun b o e=>?_) J.bare fun b hb=>?_
 ·exact(sb.2 b (neC b o e)).trans (u.keep b o (up _ _ e) n hb (nex b o e hx))
 ·obtain⟨sl,q⟩:=u.slot b o (up _ _ e) n hb (nex b o e hx)
  exact⟨sl,(sb.2 b (neC b o e)).trans q⟩
 ·rw [am (neD b o e)]
  exact u.free b o (up _ _ e) n (nex b o e hx)
 ·obtain⟨o',q⟩:=u.there b o (up _ _ e) (nex b o e hx)
  exact⟨o',(sb.2 b (neC b o e)).trans q⟩
 ·rw [am (ax e nDs)]
  exact u.tups b xs e
 ·rw [am (ax e nDs)]
  exact u.frzs b o x e
 ·rw [am (ax e nDs)]
  exact u.tbls b ps e
 ·by_cases hb:b=s.heap.objs.size
  ·subst hb
   rw [ac] at e
   cases e
   exact⟨hz,its,cap,r,eD⟩
  ·rw [am hb] at e
   have nC:∀c w,H' c=some w->c≠hp.objs.size:=fun c w q=>ax q J.free
   refine(J.hok b o e).stay (fun c v hc q=>(sb.2 c ?_).trans q) (fun c q=>by rw [am (ax q nD)];exact q) fun c xs q=>by rw [am (ax q nD)];exact q
   rcases hc with rfl|hc
   ·exact nC c o e
   ·exact nC c _ hc
 ·obtain⟨_,f1,_,f3,f4,f5⟩:=f2 b hb
  exact⟨f3,f1,f4,f5⟩
end
section
variable{X:Cx}
theorem pR{J:It}{xs:List V}{n:Nat}{κ:List Nat}{g:TG}{tc:TT}{te:TE}{σ:St}{H:Hp}{Q:VK}(Pv:Nat->List V->Hp->Prop)(h0:Pv 0 [] H)(hz:xs.length<=sizeLine)(hlen:∀i ys H2,Pv i ys H2->ys.length<=i)
  (hgo:∀i x ys H2,xs[i]?=some x->Pv i ys H2->J.go i H2) (hyl:∀i ys x H2 H',i < xs.length->Pv i ys H2->J.yld i H2 x H'->H'=H2/\xs[i]?=some x) (hst:∀ys H2,Pv xs.length ys H2->J.stop xs.length H2)
  (hs:∀i x ys H2 (N:List V->Hp->Prop),(∀ys' H',Pv (i+1) ys' H'->N ys' H')->xs[i]?=some x->Pv i ys H2->g x (cS n κ σ) H2 fun σ4 H4=>σ4.drop n=(cS n κ σ).drop n/\tc σ4 H4 fun b H5=>if b=true then te σ4 H5 fun v H6=>N (ys++[v]) H6 else N ys H5)
  (hQ:∀ys H2 D,Pv xs.length ys H2->H2 D=none->Q (.ref D) (upd H2 D (.lst ys))) :
  jn n κ g tc te σ J H Q:=by
 refine⟨fun i m ys H2=>m=xs.length - i/\i<=xs.length/\Pv i ys H2,⟨xs.length,rfl,Nat.zero_le _,h0⟩,?_⟩
 rintro i m ys H2 ⟨rfl,hi,p⟩
 by_cases hlt:i < xs.length
 ·have e:xs[i]?=some xs[i]:=List.getElem?_eq_getElem hlt
  refine .inr ⟨hgo i _ ys H2 e p,Nat.lt_of_le_of_lt (hlen i ys H2 p) (Nat.lt_of_lt_of_le hlt hz),fun x H3 y=>?_⟩
  obtain⟨rfl,ex⟩:=hyl i ys x H2 H3 hlt p y
  exact hs i x ys _ (fun ys' H'=>∃m',m' < xs.length - i/\m'=xs.length - (i+1)/\i+1<=xs.length/\Pv (i+1) ys' H') (fun ys' H' p'=>⟨xs.length - (i+1),by omega,rfl,hlt,p'⟩) ex p
 ·obtain rfl:i=xs.length:=by omega
  exact .inl ⟨hst ys H2 p,fun D hD=>hQ ys H2 D p hD⟩
def iw(lo:Int)(n:Nat):List V:=(List.range n).map fun i=>V.int (lo+(i:Nat))
theorem eJ(lo:Int)(n:Nat):(iw lo n).length=n:=by simp [iw]
theorem gj{lo:Int}{n i:Nat}{x:V}:(iw lo n)[i]?=some x↔i < n/\x=.int (lo+i):=by
 unfold iw
 rw [List.getElem?_map]
 by_cases h:i < n
 ·rw [List.getElem?_range h]
  simp [h,eq_comm]
 ·rw [List.getElem?_eq_none (by simp;omega)]
  simp [h]
theorem xB{lo:Int}{n:Nat}{H:Hp}{i:Nat}{x:V}(h:(iw lo n)[i]?=some x):(Itr lo n).go i H:=(gj.mp h).1
theorem sK{lo:Int}{n:Nat}{H H':Hp}{i:Nat}{x:V}(hi:i < n)(h:(Itr lo n).yld i H x H'):H'=H/\(iw lo n)[i]?=some x:=⟨h.1,gj.mpr ⟨hi,h.2⟩⟩
end
mutual
inductive Dat (K:W.Frag) (H:Hp):V->PyData->Prop
 |non:Dat K H .non .none
 |bl (b:Bool):Dat K H (.bl b) (.bool b)
 |int (i:Int):Dat K H (.int i) (.int i)
 |str (x:Str):Dat K H (.str x) (.str x)
 |tup {a:Addr} {xs:List V} {ds:List PyData}:SqT K H a xs->fq K H xs ds->Dat K H (.ref a) (.tuple ds)
 |lst {a:Addr} {xs:List V} {ds:List PyData}:SqL K H a xs->fq K H xs ds->Dat K H (.ref a) (.list ds)
inductive fq (K:W.Frag) (H:Hp):List V->List PyData->Prop
 |nil:fq K H [] []
 |cons {x:V} {d:PyData} {xs:List V} {ds:List PyData}:Dat K H x d->fq K H xs ds->fq K H (x::xs) (d::ds)
end
theorem aH.tup{K:W.Frag}{H H':Hp}{a:Addr}{xs:List V}(e:aH H H')(h:SqT K H a xs):SqT K H' a xs:=by
 rcases h with (h|⟨o,h⟩)|h
 ·exact .inl (.inl (e _ _ h))
 ·exact .inl (.inr ⟨o,e _ _ h⟩)
 ·exact .inr h
mutual
theorem Dat.same{K:W.Frag}{H H':Hp}(e:aH H H'):∀{x:V} {d:PyData},Dat K H x d->Dat K H' x d
 |_,_,.non=>.non
 |_,_,.bl b=>.bl b
 |_,_,.int i=>.int i
 |_,_,.str x=>.str x
 |_,_,.tup h r=>.tup (e.tup h) (fq.same e r)
 |_,_,.lst h r=>.lst (e.seq h) (fq.same e r)
theorem fq.same{K:W.Frag}{H H':Hp}(e:aH H H'):∀{xs:List V} {ds:List PyData},fq K H xs ds->fq K H' xs ds
 |_,_,.nil=>.nil
 |_,_,.cons h r=>.cons (Dat.same e h) (fq.same e r)
end
section
variable{X:Cx}{pins:List (Addr × Obj)}{σ:St}{H:Hp}{s:Shared}
mutual
theorem Dat.reads(I:Inv X pins σ H s):∀{x:V} {d:PyData} {v:Value},Dat X.K H x d->br x v->∃as,Reads s.heap v d as
 |_,_,_,.non,r=>by cases r;exact⟨_,.none⟩
 |_,_,_,.bl b,r=>by cases r;exact⟨_,.bool b⟩
 |_,_,_,.int i,r=>by obtain⟨t,rfl⟩:=r;exact⟨_,.int i t⟩
 |_,_,_,.str x,r=>by obtain⟨t,rfl⟩:=r;exact⟨_,.str x t⟩
 |_,_,_,.tup hq ds,r=>by
  cases r
  obtain⟨its,rv,p,_⟩:=I.tuple hq
  obtain⟨as,q⟩:=fq.reads I ds rv
  obtain⟨o,e,c,n,dt⟩:=p
  exact⟨as,.tuple e c dt (by simpa using q)⟩
 |_,_,_,.lst hq ds,r=>by
  cases r
  obtain⟨its,rv,p,_⟩:=I.list hq
  obtain⟨as,q⟩:=fq.reads I ds rv
  obtain⟨o,n,e,c,_,dt⟩:=p
  exact⟨_,.list e c dt (by simpa using q)⟩
theorem fq.reads(I:Inv X pins σ H s):∀{xs:List V} {ds:List PyData} {vs:List Value},fq X.K H xs ds->bg xs vs->∃as,ReadsAll s.heap vs ds as
 |_,_,_,.nil,r=>by cases r;exact⟨_,.nil⟩
 |_,_,_,.cons h t,r=>by
  cases r with
  |cons r1 r2 =>
   obtain⟨as,q⟩:=Dat.reads I h r1
   obtain⟨bs,q2⟩:=fq.reads I t r2
   exact⟨_,.cons q q2⟩
end
end
section
variable{X:Cx}
def Az(K:W.Frag)(neg:Bool):R2:=fun x y H Q=>∃dx dy,Dat K H x dx/\Dat K H y dy/\SeqAt.shaped dx=true/\SeqAt.shaped dy=true/\Q (.bl (if neg then !PyData.eqv dx dy else PyData.eqv dx dy)) H
theorem gz(hu:X.A.units+64 < cLine):OpR X (compareOp .Eq) (Az X.K false):=by
 intro pins s σ H x y v u Q I rx ry h
 obtain⟨dx,dy,hx,hy,sx,sy,q⟩:=h
 obtain⟨as,ra⟩:=Dat.reads I hx rx
 obtain⟨bs,rb⟩:=Dat.reads I hy ry
 exact eq_dataH ra rb sx sy hu ⟨.bl _,H,I,rfl,q⟩
theorem dQ{ds:List PyData}(h:PyData.canLayAll0 ds=true){d:PyData}(hd:d∈ds):d.canLay0=true:=PyData.canLay0_of_mem ds d h hd
theorem gv{h:Heap}:∀{vs:List Value} {ds:List PyData} {as:List Addr},ReadsAll h vs ds as->∀v∈vs,∃d∈ds,∃bs,Reads h v d bs
 |_,_,_,.nil,v,hv=>nomatch hv
 |_,_,_,.cons r t,v,hv=>by
  rcases List.mem_cons.mp hv with rfl|hv
  ·exact⟨_,List.mem_cons_self,_,r⟩
  ·obtain⟨d,hd,bs,q⟩:=gv t v hv
   exact⟨d,List.mem_cons_of_mem _ hd,bs,q⟩
open Classical in
noncomputable def qr(h:Heap)(d:PyData)(v:Value):Bool:=if q:∃e,∃bs,Reads h v e bs then PyData.eqv q.choose d else false
theorem jH{h:Heap}{d e:PyData}{v:Value}{as:List Addr}(hl:e.canLay0=true)(r:Reads h v e as):qr h d v=PyData.eqv e d:=by
 unfold qr
 have q:∃e,∃bs,Reads h v e bs:=⟨e,as,r⟩
 rw [dif_pos q]
 obtain⟨bs,r2⟩:=q.choose_spec
 rw [SeqAt.Reads.unique e _ v as bs hl r r2]
theorem rh:OpR X (binaryOp .Mult) (fun x y H Q=>∃z n,x=.str z/\y=.int n/\MulOk z n/\Q (.str (Txt.mul z n)) H):=by
 intro pins s σ H x y v u Q I rx ry h
 obtain⟨z,n,rfl,rfl,hm,q⟩:=h
 obtain⟨t,rfl⟩:=rx
 obtain⟨t',rfl⟩:=ry
 exact SB.mul hm fun t' k=>⟨.str _,H,I.tok _,⟨_,rfl⟩,q⟩
theorem gZ{z:Str}{n:Int}(h0:0<=n)(h1:n<=1000)(h2:z.length<=1000):MulOk z n:=by
 refine⟨?_,fun h3 _=>?_,fun _ _=>?_⟩
 ·rw [decide_eq_false (by omega),decide_eq_false (by omega)]<;>rfl
 ·have hn:0 < n:=by omega
  have hm:(z.length:Int)*n<=1000*1000:=Int.mul_le_mul (by omega) h1 h0 (by decide)
  have e:(z.length:Int)<=(2 ^ 63 - 1) / n:=Int.le_ediv_of_mul_le hn (by omega)
  omega
 ·unfold Builtin.Str.tooLong sizeLine
  refine decide_eq_false ?_
  have:z.length*n.toNat<=1000*1000:=Nat.mul_le_mul h2 (by omega)
  omega
end
def rW(h:Heap)(d:Addr)(es:Array DictEntry)(ep:Nat):Prop:=∃o,h.get? d=some o/\o.ExactDict/\o.data=.dict es ep
theorem rW.at{h h':Heap}{d:Addr}{es:Array DictEntry}{ep:Nat}(x:rW h d es ep)(k:∀o,h.get? d=some o->h'.get? d=some o):rW h' d es ep:=let ⟨o,e,r⟩:=x;⟨o,k _ e,r⟩
theorem rW.lt{h:Heap}{d:Addr}{es:Array DictEntry}{ep:Nat}(x:rW h d es ep):d < h.objs.size:=let ⟨_,e,_⟩:=x;Heap.lt_size e
section
variable{prog:Program}{w:World}{A:Around}{E:Value->Shared->Prop}{s:Shared}
theorem tG{d:Addr}{es:Array DictEntry}{ep:Nat}{Q:Value->Shared->Prop}(hd:(d==sysModules)=false)(hm:rW s.heap d es ep)
  (hQ:Q (.ref s.heap.objs.size) { s with heap:=s.heap.push { cls:=.type "dict_keyiterator",data:=.fields #[.ref d,.int 0 0,.int es.size 0,.int ep 0] } }):wpAny (model prog w) A (pyIter (.ref d)) Q E s:=by
 obtain⟨o,ho,hx,hdat⟩:=hm
 have tyD:s.TypeIs (.ref d) "dict":=⟨o,ho,hx.1⟩
 refine wpAny_pyIter_slot tyD F.slot_dict_iter (wpAny_call_entry F.slot_dict_iter tyD F.entry_dict_iter ?_ (F.args_dict_iter_1 _))
 unfold Builtin.«dict.__iter__» Builtin.Dict.dictSlotNone
 refine wpAny_bind (wpAny_bind (wpAny_notOrdered_dict tyD ?_))
 refine wpAny_pure (show wpAny _ _ (Builtin.Dict.showsAll d >>= _) _ _ s from ?_)
 unfold Builtin.Dict.showsAll
 rw [if_neg (fun z=>Bool.false_ne_true (hd.symm.trans z))]
 refine wpAny_bind (wpAny_pure (wpAny_bind (wpAny_dictEntries ho hdat (wpAny_bind (wpAny_dictEpoch ho hdat ?_)))))
 exact wpAny_bind (wpAny_newObj_type (wpAny_pure ⟨_,rfl,"dict_keyiterator",_,⟨_,Heap.get?_push_size _ rfl,rfl⟩,F.slot_dict_keyiterator_next.lookup,hQ⟩))
theorem rY{it d:Addr}{i ep:Nat}{es:Array DictEntry}{Q:Option Value->Shared->Prop}(hit:s.heap.IsKeyIter it d i es.size ep)(hm:rW s.heap d es ep)(hi:i < es.size)
  (hQ:∀h',h'.IsKeyIter it d (i+1) es.size ep->Heap.SameBut it s.heap h'->Q (some es[i].key) { s with heap:=h' }):wpAny (model prog w) A (pyNext (.ref it)) Q E s:=by
 have tyI:=hit.typeIs
 obtain⟨oi,hoi,hci,hdi⟩:=id hit
 obtain⟨od,hod,_,hdd⟩:=hm
 unfold pyNext
 refine wpAny_bind (wpAny_attempt (wpAny_callSpecial?_slot (name:=Str.ofString "__next__") tyI F.slot_dict_keyiterator_next (wpAny_call_entry F.slot_dict_keyiterator_next tyI F.entry_dict_keyiterator_next ?_ (F.args_dict_keyiterator_next_1 _))))
 refine wpAny_bind (wpAny_pure (wpAny_bind (wpAny_bind ?_)))
 first|refine wpAny_bind (wpAny_typeNameOfWhole_keyiter tyI (wpAny_pure ?_))|refine wpAny_bind (wpAny_typeNameOf_keyiter tyI (wpAny_pure ?_))
 refine wpAny_bind (wpAny_fieldsOf hoi hdi ?_)
 simp only [show Builtin.Dict_items.ownsTuple "dict_keyiterator"=false from by decide,Bool.false_eq_true,if_false]
 show wpAny _ _ (if (Value.ref d==.none)=true then _ else _) _ _ s
 have ne0:¬((Value.ref d==Value.none)=true):=fun z=>Bool.false_ne_true z
 rw [if_neg ne0]
 refine wpAny_bind (wpAny_pure (wpAny_bind (wpAny_dictEntries hod hdd ?_)))
 rw [if_neg (by simp)]
 refine wpAny_bind (wpAny_pure (wpAny_bind (wpAny_dictEpoch hod hdd ?_)))
 rw [if_neg (by simp)]
 refine wpAny_pure ?_
 simp only [show ¬((i:Int) < 0) from Int.not_lt.mpr (Int.natCast_nonneg i),if_false,Int.toNat_natCast,Array.getElem?_eq_getElem hi]
 refine wpAny_bind ?_
 first|refine wpAny_bind (wpAny_typeNameOfWhole_keyiter tyI (wpAny_pure ?_))|refine wpAny_bind (wpAny_typeNameOf_keyiter tyI (wpAny_pure ?_))
 refine wpAny_bind (wpAny_isOneOf_keyiter tyI ?_)
 refine(show wpAny _ _ (setField (.ref it) 1 (rawInt ((i:Int)+1)) >>= _) _ _ s from wpAny_bind (wpAny_setField hoi hdi (by simp) ?_))
 have new:(s.heap.update it (Obj.mapFields (·.setIfInBounds 1 (rawInt ((i:Int)+1))))).IsKeyIter it d (i+1) es.size ep :=
  ⟨_,Heap.get?_update_self _ hoi (Obj.isFreed_of_fields (Obj.data_mapFields hdi _)),(Obj.cls_mapFields ..).trans hci,by rw [Obj.data_mapFields hdi];simp [rawInt]⟩
 refine wpAny_bind (wpAny_holding (wpAny_bind (wpAny_isOneOf_keyiter (s:={ s with heap:=s.heap.update it (Obj.mapFields (·.setIfInBounds 1 (rawInt ((i:Int)+1)))) }) new.typeIs ?_)))
 exact(show wpAny _ _ (pure es[i].key) _ _ _ from wpAny_pure (wpAny_pure ⟨_,rfl,wpAny_pure (hQ _ new (Heap.SameBut.update ..))⟩))
theorem vz{it d:Addr}{i ep:Nat}{es:Array DictEntry}{Q:Option Value->Shared->Prop}(hh:A.handled=none)(hit:s.heap.IsKeyIter it d i es.size ep)(hm:rW s.heap d es ep)(hi:es.size<=i)
  (hF:∀h',Heap.ExtBut it s.heap h'->Q none { s with heap:=h' }):wpAny (model prog w) A (pyNext (.ref it)) Q E s:=by
 have tyI:=hit.typeIs
 obtain⟨oi,hoi,hci,hdi⟩:=id hit
 obtain⟨od,hod,_,hdd⟩:=hm
 unfold pyNext
 refine wpAny_bind (wpAny_attempt (wpAny_callSpecial?_slot (name:=Str.ofString "__next__") tyI F.slot_dict_keyiterator_next (wpAny_call_entry F.slot_dict_keyiterator_next tyI F.entry_dict_keyiterator_next ?_ (F.args_dict_keyiterator_next_1 _))))
 refine wpAny_bind (wpAny_pure (wpAny_bind (wpAny_bind ?_)))
 first|refine wpAny_bind (wpAny_typeNameOfWhole_keyiter tyI (wpAny_pure ?_))|refine wpAny_bind (wpAny_typeNameOf_keyiter tyI (wpAny_pure ?_))
 refine wpAny_bind (wpAny_fieldsOf hoi hdi ?_)
 simp only [show Builtin.Dict_items.ownsTuple "dict_keyiterator"=false from by decide,Bool.false_eq_true,if_false]
 show wpAny _ _ (if (Value.ref d==.none)=true then _ else _) _ _ s
 have ne0:¬((Value.ref d==Value.none)=true):=fun z=>Bool.false_ne_true z
 rw [if_neg ne0]
 refine wpAny_bind (wpAny_pure (wpAny_bind (wpAny_dictEntries hod hdd ?_)))
 rw [if_neg (by simp)]
 refine wpAny_bind (wpAny_pure (wpAny_bind (wpAny_dictEpoch hod hdd ?_)))
 rw [if_neg (by simp)]
 refine wpAny_pure ?_
 simp only [show ¬((i:Int) < 0) from Int.not_lt.mpr (Int.natCast_nonneg i),if_false,Int.toNat_natCast,Array.getElem?_eq_none hi]
 refine wpAny_bind ?_
 first|refine wpAny_bind (wpAny_typeNameOfWhole_keyiter tyI (wpAny_pure ?_))|refine wpAny_bind (wpAny_typeNameOf_keyiter tyI (wpAny_pure ?_))
 refine(show wpAny _ _ (setField (.ref it) 0 .none >>= _) _ _ s from wpAny_bind (wpAny_setField hoi hdi (by simp) ?_))
 refine(show wpAny _ _ (newExc (.type "StopIteration") [] >>= _) _ _ _ from wpAny_bind ?_)
 simp only [newExc,newTuple]
 refine wpAny_bind (wpAny_newObj_type (dict:=none) ?_ (by size_fits))
 refine wpAny_bind (m:=firstArgMember _ _) (wpAny_of_eq (a:=Value.none) (by first|rfl|(simp only [firstArgMember];rfl)) (wpAny_newObj_type ?_ (by size_fits)))
 simp only [raiseNew]
 refine wpAny_bind (m:=_) (wpAny_handled ?_)
 rw [(show A.in1.handled=none from hh)]
 refine wpAny_bind (wpAny_pure (wpAny_throw (wpAny_bind ?_)))
 refine wpAny_isInstance (b:=true) (T:="StopIteration") ⟨_,Heap.get?_push_size _ rfl,rfl⟩ isSubtype_stop ?_
 exact wpAny_pure (hF _ (((Heap.SameBut.update ..).extBut.push _).push _))
theorem Walks.raw(hh:A.handled=none)(I d:Addr)(hne:d≠I)(es:Array DictEntry)(ep:Nat) :
  Walks prog w A I [I,d] [I] es.size (fun i v=>∃e,es[i]?=some e/\v=e.key) (fun i h=>h.IsKeyIter I d i es.size ep/\rW h d es ep) where
 sub:=fun b hb=>List.mem_cons.mpr (.inl (List.mem_singleton.mp hb))
 frame:=fun _ _ _ st hk=>⟨st.1.at fun o e=>hk I List.mem_cons_self o e,st.2.at fun o e=>hk d (List.mem_cons_of_mem _ List.mem_cons_self) o e⟩
 item:=fun i s Q E hi st hQ=>rY st.1 st.2 hi fun h' new sb=>hQ _ h' s.toks ⟨es[i],Array.getElem?_eq_getElem hi,rfl⟩ ⟨new,st.2.at fun o e=>sb.extBut d o hne e⟩ fun b o hb e=>sb.extBut b o (fun z=>hb (List.mem_singleton.mpr z)) e
 done:=fun s Q E st hQ=>vz hh st.1 st.2 (Nat.le_refl _) fun h' eb=>hQ h' s.toks fun b o hb e=>eb b o (fun z=>hb (List.mem_singleton.mpr z)) e
 self:=fun _ _ _ _ st q=>wpAny_pyIter_keyiter st.1 q
theorem vC{d:Addr}{es:Array DictEntry}{ep:Nat}(lo:(d==sysModules)=false):W.KdlSrc prog w "dict" d d es.size (fun i v=>∃e,es[i]?=some e/\v=e.key) (fun h=>rW h d es ep) where
 type:=fun _ hm=>let ⟨o,e,x,_⟩:=hm;⟨o,e,x.1⟩
 there:=fun _ hm=>⟨hm.lt,hm.lt⟩
 keep:=fun _ _ hm hk=>hm.at fun o e=>hk d (.inl rfl) o e
 notList:=by decide
 notTuple:=by decide
 hint:=fun _ _ _ _ hm hq=>W.kdl_hint_dict (let ⟨o,e,x,_⟩:=hm;⟨o,e,x.1⟩) hq
 iter:=fun _ _ hh hm=>⟨_,_,(fun _ _ hq=>tG lo hm hq),Walks.raw hh _ d (Nat.ne_of_lt hm.lt) es ep,⟨⟨_,Heap.get?_push_size _ rfl,rfl,rfl⟩,hm.at fun o e=>Heap.get?_push_of_some _ e⟩⟩
end
section
variable{X:Cx}
theorem kX(hc:X.calm=true):ke X (.type "list") (fun xs H Q=>∃a kvs,xs=[.ref a]/\H a=some (.dT kvs) /\
  ∀(ks:List Addr) l,H l=none->Paired (fun(p:List Key × V) (k:Addr)=>H k=some (.tup (p.1.map kV))) kvs ks->Q (.ref l) (upd H l (.lst (ks.map V.ref)))):=by
 intro pins s σ H xs us Q I r h
 obtain⟨a,kvs,rfl,ha,q⟩:=h
 obtain⟨u,rfl,ru⟩:=lu r
 cases ru
 obtain⟨z,hd,ys,rel,o,es,ep,e,ex,dt,eqs,_⟩:=I.hok a _ ha
 have hlen:es.size=ys.length:=by
  have:=congrArg List.length eqs
  rw [List.length_map] at this
  simpa using this
 have hl2:kvs.length=ys.length:=Paired.length rel
 refine W.kdl_call (vC hd) (I.ok.hd hc) ⟨o,e,ex,dt⟩ (by rw [hlen,<-hl2];exact z) fun h' tk acc' c' hk hD hacc=>?_
 have eacc:acc'.toList=ys.map fun y=>Value.ref y.2.1:=by
  apply List.ext_getElem?
  intro j
  rw [List.getElem?_map]
  by_cases hj:j < ys.length
  ·have hj2:j < acc'.size:=by rw [hacc.1,hlen];exact hj
   obtain⟨en,hen,hv⟩:=hacc.2 j acc'[j] (Array.getElem?_eq_getElem hj2)
   have e1:es.toList[j]?=some en:=by rw [<-hen];simp
   rw [eqs,List.getElem?_map,List.getElem?_eq_getElem hj] at e1
   have e2:=Option.some.inj e1
   rw [show acc'.toList[j]?=some acc'[j] by simp [hj2],hv,<-e2,List.getElem?_eq_getElem hj]
   rfl
  ·rw [List.getElem?_eq_none (by rw [Array.length_toList,hacc.1,hlen];omega),List.getElem?_eq_none (by omega)]
   rfl
 have rk:∀{kvs:List (List Key × V)} {ys:List (List Key × Addr × Value)},Paired (fun(p:List Key × V) (q:List Key × Addr × Value)=>p.1=q.1/\H q.2.1=some (.tup (p.1.map kV))/\br p.2 q.2.2) kvs ys ->
   Paired (fun(p:List Key × V) (k:Addr)=>H k=some (.tup (p.1.map kV))) kvs (ys.map fun y=>y.2.1):=fun {kvs ys} p=>by
  induction p with
  |nil=>exact .nil
  |cons h _ ih=>exact .cons h.2.1 ih
 have vr:∀ks:List Addr,bg (ks.map V.ref) (ks.map Value.ref):=fun ks=>by
  induction ks with
  |nil=>exact .nil
  |cons k ks ih=>exact .cons rfl ih
 refine⟨.ref s.heap.objs.size,_,I.laid (o:=.lst ((ys.map fun y=>y.2.1).map V.ref)) hk (Nat.le_refl _) ?_,rfl,q _ _ (I.hok.fresh (Nat.le_refl _)) (rk rel)⟩
 refine⟨by rw [List.length_map,List.length_map,<-hl2];exact z,_,c',vr _,?_⟩
 rw [hD,show acc'=((ys.map fun y=>y.2.1).map Value.ref).toArray from by rw [List.map_map,<-Array.toArray_toList (xs:=acc'),eacc];rfl]
end
end L2
namespace Kk
open PySem L2
inductive Kd where
 |num (n:Int)
 |name (q t:Str)
 |pair (a b:Kd)
 deriving DecidableEq
def Kd.words:Kd->Nat
 |.num _=>1
 |.name _ _=>1
 |.pair a b=>1+a.words+b.words
def Kd.leaves:Kd->List Kd
 |.num n=>[.num n]
 |.name q t=>[.name q t]
 |.pair a b=>a.leaves++b.leaves
def Kd.leaf:Kd->Bool
 |.pair _ _=>false
 |_=>true
theorem dB:∀k:Kd,k.words+1=2*k.leaves.length
 |.num _=>rfl
 |.name _ _=>rfl
 |.pair a b=>by
  have h1:=dB a
  have h2:=dB b
  show 1+a.words+b.words+1=2*(a.leaves++b.leaves).length
  rw [List.length_append]
  omega
theorem dM:∀k:Kd,0 < k.leaves.length
 |.num _=>Nat.zero_lt_one
 |.name _ _=>Nat.zero_lt_one
 |.pair a b=>by
  have h1:=dM a
  show 0 < (a.leaves++b.leaves).length
  rw [List.length_append]
  omega
inductive bJ (K:W.Frag) (H:Hp):V->Kd->Prop
 |num {a:Addr} {n:Int}:SqT K H a [.str "num",.int n]->bJ K H (.ref a) (.num n)
 |name {a:Addr} {q t:Str}:SqT K H a [.str "name",.str q,.str t]->bJ K H (.ref a) (.name q t)
 |pair {a:Addr} {x y:V} {k l:Kd}:SqT K H a [.str "pair",x,y]->bJ K H x k->bJ K H y l->bJ K H (.ref a) (.pair k l)
theorem bJ.same{K:W.Frag}{H H':Hp}(e:aH H H'):∀{x:V} {k:Kd},bJ K H x k->bJ K H' x k
 |_,_,.num h=>.num (e.tup h)
 |_,_,.name h=>.name (e.tup h)
 |_,_,.pair h a b=>.pair (e.tup h) (a.same e) (b.same e)
inductive cE (K:W.Frag) (H:Hp):List V->List Kd->Prop
 |nil:cE K H [] []
 |cons {x:V} {k:Kd} {xs:List V} {ks:List Kd}:bJ K H x k->cE K H xs ks->cE K H (x::xs) (k::ks)
theorem cE.same{K:W.Frag}{H H':Hp}(e:aH H H'):∀{xs:List V} {ks:List Kd},cE K H xs ks->cE K H' xs ks
 |_,_,.nil=>.nil
 |_,_,.cons a b=>.cons (a.same e) (b.same e)
theorem cE.length{K:W.Frag}{H:Hp}:∀{xs:List V} {ks:List Kd},cE K H xs ks->xs.length=ks.length
 |_,_,.nil=>rfl
 |_,_,.cons _ b=>congrArg (·+1) b.length
theorem cE.append{K:W.Frag}{H:Hp}:∀{xs ys:List V} {ks ls:List Kd},cE K H xs ks->cE K H ys ls->cE K H (xs++ys) (ks++ls)
 |_,_,_,_,.nil,h=>h
 |_,_,_,_,.cons a b,h=>.cons a (b.append h)
end Kk
namespace L2
open PySem PySem.Spec PyProof.Rows
section
variable{α β:Type}{P:Shared->Prop}
def ar(P:Shared->Prop)(t:Sem α):Prop:=∀(M:Model) (Γ:PySem.Ctx) (Q:α->Pos->Shared->Prop) (E:Value->Pos->Shared->Prop) (p:Pos) (s:Shared),P s->Sem.wp M Γ t Q E p s ->
 Sem.wp M Γ t (fun a p' s'=>Q a p' s'/\P s') (fun e p' s'=>E e p' s'/\P s') p s
theorem ar.ret(a:α):ar P (Pure.pure a:Sem α):=fun _ _ _ _ _ _ h q=>⟨q,h⟩
theorem ar.no(x:String):ar P (unsupported x:Sem α):=fun _ _ _ _ _ _ _ q=>False.elim q
theorem ar.then{m:Sem α}{f:α->Sem β}(hm:ar P m)(hf:∀a,ar P (f a)):ar P (m >>= f):=fun M Γ Q E p s h q=>by
 rw [Sem.wp_bind'] at q ⊢
 exact Sem.wp_mono M Γ m (fun a p' s' z=>hf a M Γ Q E p' s' z.2 z.1) (fun _ _ _ z=>z) p s (hm M Γ _ E p s h q)
theorem ar.ld(a:Addr):ar P (load a):=fun _ _ _ _ _ _ h ⟨o,e,q⟩=>⟨o,e,q,h⟩
theorem ar.stk:ar P stack:=fun _ _ _ _ _ _ h q=>⟨q,h⟩
theorem ar.ite{c:Prop}[Decidable c]{a b:Sem α}(ha:ar P a)(hb:ar P b):ar P (if c then a else b):=by split<;>assumption
theorem ar.wpAny{t:Sem α}(k:ar P t){M:Model}{A:Around}{Q:α->Shared->Prop}{E:Value->Shared->Prop}{s:Shared}(hp:P s)(h:wpAny M A t Q E s):wpAny M A t (fun a s'=>Q a s'/\P s') (fun e s'=>E e s'/\P s') s :=
 fun Γ p hΓ=>k M Γ _ _ p s hp (h Γ p hΓ)
def bv(x:Addr)(d:Option Addr)(s:Shared):Prop:=∃ob,s.heap.get? x=some ob/\ob.dict=d
variable{x:Addr}{d:Option Addr}
theorem ar.up{a:Addr}{f:Obj->Obj}(hf:∀o:Obj,o.isFreed=false->(f o).dict=o.dict/\(f o).isFreed=false):ar (bv x d) (update a f):=fun _ _ _ _ _ s h q=>by
 refine⟨q.1,q.2,?_⟩
 obtain⟨ob,e,hd⟩:=h
 have hfr:=(Heap.get?_some_iff.mp e).2
 by_cases hx:a=x
 ·subst hx
  exact⟨_,Heap.get?_update_self f e (hf ob hfr).2,(hf ob hfr).1.trans hd⟩
 ·exact⟨ob,(Heap.get?_update_other _ f hx).trans e,hd⟩
theorem ar.new{o:Obj}:ar (bv x d) (alloc o):=fun _ _ _ _ _ s h q=>by
 obtain⟨ob,e,hd⟩:=h
 exact⟨q,ob,Heap.get?_push_of_some _ e,hd⟩
theorem ar.flds{v:Value}:ar P (fieldsOf v):=by
 unfold fieldsOf
 split
 ·refine ar.then (ar.ld _) fun o=>?_
  split
  ·exact ar.ret _
  ·exact ar.no _
 ·exact ar.no _
theorem ar.fld{v:Value}{i:Nat}:ar P (field v i):=by
 unfold field
 refine ar.then ar.flds fun vs=>?_
 split
 ·exact ar.ret _
 ·exact ar.no _
theorem ar.setF{v u:Value}{i:Nat}:ar (bv x d) (setField v i u):=by
 unfold setField
 split
 ·unfold updateField
  refine ar.then (ar.ld _) fun o=>?_
  split
  ·refine ar.ite (ar.up fun o ho=>?_) (ar.no _)
   obtain⟨c,dd,dt,sl⟩:=o
   cases dt<;>exact⟨rfl,ho⟩
  ·exact ar.no _
 ·exact ar.no _
theorem ar.flight{e:Value}{f:Option Addr}:ar (bv x d) (setFlight e f):=by
 unfold setFlight
 exact ar.then ar.fld fun tb=>ar.ite ar.setF (ar.ret _)
theorem ar.ready:∀l:List Env,ar (bv x d) (readyFrames l)
 |[]=>ar.ret _
 |env::outer=>by
  unfold readyFrames
  split
  ·refine ar.then (ar.ld _) fun o=>ar.ite (ar.ret _) (ar.then ?_ fun im=>ar.then ?_ fun bk=>ar.then (ar.up fun o ho=>⟨rfl,by obtain⟨c,dd,dt,sl⟩:=o;cases dt<;>first|rfl|exact ho⟩) fun _=>ar.ready outer)
   ·unfold behindIsImport
    exact ar.ite (ar.ret _) (ar.ite (ar.ret _) (ar.then ar.fld fun _=>ar.ret _))
   ·cases outer with
    |nil =>
     unfold keptBack
     refine ar.ite (ar.ret _) (ar.then ?_ fun _=>ar.ret _)
     unfold underTheClaimsCaller
     exact ar.then ar.stk fun _=>ar.ret _
    |cons c r=>exact ar.ret _
  ·exact ar.no _
theorem ar.frame{env:Env}:ar (bv x d) (PySem.frameOf env):=by
 unfold PySem.frameOf
 refine ar.then (ar.then ar.stk fun _=>ar.ret _) fun l=>ar.then ?_ fun r=>?_
 ·generalize l.dropWhile (fun y=>y.frame != env.frame)=l2
  cases l2 with
  |nil=>exact ar.ret _
  |cons e r=>exact ar.then (ar.ready (e::r)) fun _=>ar.ret _
 ·split
  ·exact ar.ret _
  ·exact ar.no _
theorem ar.entry{a b c e f:Value}{pl:List Value}:ar (bv x d) (EntryCells.newEntry a b c e f pl):=by
 unfold EntryCells.newEntry newFields newObj
 have st:∀(dt:Data) (dd:Option Addr),ar (bv x d) (newObjAsIs (.type "traceback") dt dd):=fun dt dd=>by
  unfold newObjAsIs
  exact ar.then ar.new fun a=>ar.ret _
 exact ar.ite (ar.then (ar.no _) fun _=>st _ _) (st _ _)
theorem ar.note{e:Value}{env:Env}:ar (bv x d) (noteFrame e env):=by
 unfold noteFrame
 split
 ·rename_i fr _
  refine ar.then ar.fld fun hd=>?_
  have go:ar (bv x d) (do setField e 1 (<-EntryCells.newEntry hd (<-PySem.frameOf env) .none (rawInt fr) .none (<-entryPlaceOf fr (hd != .none)))) :=
   ar.then ar.frame fun _=>ar.then (by
    unfold entryPlaceOf
    refine ar.then ar.stk fun _=>?_
    split
    ·exact ar.ret _
    ·exact ar.ret _) fun _=>ar.then ar.entry fun _=>ar.setF
  exact ar.ite (ar.then ar.fld fun _=>ar.ite (ar.ret _) (ar.then ar.setF fun _=>go)) go
 ·exact ar.no _
theorem ar.leave{e:Value}{env:Env}:ar (bv x d) (leaving env e):=by
 unfold leaving
 exact ar.then ar.note fun _=>ar.flight
end
section
variable{P:Program}{w:World}
theorem cG.there{H:Hp}{h:Heap}{a:Addr}{o:HO}(x:cG P w H h a o):∃u,h.get? a=some u:=by
 cases o with
 |lst xs=>obtain⟨_,_,_,_,e⟩:=x;exact⟨_,e⟩
 |tup xs=>obtain⟨_,_,_,ob,e,_⟩:=x;exact⟨_,e⟩
 |dK kvs=>obtain⟨_,_,_,_,o,_,_,e,_⟩:=x;exact⟨_,e⟩
 |dT kvs=>obtain⟨_,_,_,_,o,_,_,e,_⟩:=x;exact⟨_,e⟩
 |set S n=>obtain⟨o,_,_,_,e,_⟩:=x;exact⟨_,e⟩
 |ins C dx fs=>obtain⟨_,_,_,e,_⟩:=x;exact⟨_,e⟩
 |own y=>exact x
 |xd fs=>obtain⟨_,⟨_,_,_,e,_⟩,_⟩:=x;exact⟨_,e⟩
 |rng lo hi=>obtain⟨_,_,_,e⟩:=x;exact⟨_,e⟩
 |frz ob u=>obtain⟨e,_⟩:=x;exact⟨_,e⟩
 |tbl ps=>obtain⟨_,e,_⟩:=x;exact⟨_,e⟩
 |cod q=>obtain⟨_,_,_,_,e0,e,_⟩:=x;cases e0;exact⟨_,e⟩
 |cel v=>obtain⟨_,_,_,e,_⟩:=x;exact⟨_,e⟩
 |fnc fd=>obtain⟨_,_,_,e⟩:=x;exact⟨_,e⟩
 |met f y=>exact⟨_,(show h.get? a=some _ from x)⟩
 |ext φ=>obtain⟨_,e,_⟩:=x;exact e
structure Fly(P:Program)(w:World)(outer:List Env)(H:Hp)(s:Shared)(x:Addr)(cls:Value)(H':Hp)(s':Shared):Prop where
 os:s'.os=s.os
 bare:AllBare s'.gens
 un:Un (frs outer) [] H H' s.heap s'.heap
 hok:HOk P w H' s'.heap
 fl:∃B a0,Heap.FlyingW B outer x cls a0 s'.heap/\(∀b o,H' b=some o->∃u,B.get? b=some u)/\∀b o,s.heap.get? b=some o->b∉frs outer->∃u,B.get? b=some u
 free:H' x=none
def CX1(P:Program)(w:World):CXT:=fun outer H s E e s'=>∃x cls d H',e=.ref x/\Fly P w outer H s x cls H' s'/\bv x d s'/\E cls d H'
end
section
variable{X:Cx}{pins:List (Addr × Obj)}{σ:St}{H H':Hp}{s s':Shared}{x:Addr}{cls:Value}{E:Value->Shared->Prop}{Q:Unit->Shared->Prop}
theorem Inv.notSt(I:Inv X pins σ H s){b:Addr}(h1:b≠X.env.locals)(h2:b∉X.fs):b∉frs X.stack:=fun z=>(List.mem_cons.mp (I.stkSub b z)).elim h1 h2
theorem Inv.oldL(I:Inv X pins σ H s){b:Addr}{o:Obj}(e:X.s₀.heap.get? b=some o):b≠X.env.locals:=Nat.ne_of_lt (Nat.lt_of_lt_of_le (Heap.lt_size e) I.ok.above)
theorem Fly.leave(I:Inv X pins σ H s)(hst:X.stack=X.env::X.outer)(hfr:X.env.frame=some X.env.locals)(hex:X.ex=[])(f:Fly X.prog X.w X.stack H s x cls H' s'){d:Option Addr}(hdi:bv x d s')
  (hQ:∀s'',Fly X.prog X.w X.outer X.H₀ X.s₀ x cls H' s''->bv x d s''->Q () s''):wpAny (model X.prog X.w) X.A (leaving X.env (.ref x)) Q E s':=by
 refine wpAny_mono (ar.leave.wpAny (E:=E) (Q:=fun _ s''=>Fly X.prog X.w X.outer X.H₀ X.s₀ x cls H' s'') hdi ?_) (fun _ s'' z=>hQ s'' z.1 z.2) fun _ _ z=>z.1
 obtain⟨B,a0,fl,c1,c2⟩:=f.fl
 rw [hst] at fl
 have nx:∀b:Addr,b∉X.ex:=fun b=>by rw [hex];simp
 refine wpAny_leaves_onW (by rw [I.ok.frames,hst]) hfr fl fun h' fl' up=>?_
 have st:∀b o,B.get? b=some o->h'.get? b=some o:=fl'.1
 have same:∀b u v,B.get? b=some u->s'.heap.get? b=some v->u=v:=fun b u v h1 h2=>by
  have h3:=fl.1 b u h1
  rw [h2] at h3
  exact(Option.some.inj h3).symm
 have slot:∀b o,X.s₀.heap.get? b=some o->X.H₀ b=none->b∈X.fs->∃sl,h'.get? b=some { o with slots:=sl }:=fun b o e n hb=>by
  obtain⟨sl,e1⟩:=I.base.slot b o e n hb (nx b)
  obtain⟨sl2,e2⟩:=f.un.any e1 (I.base.free b o e n (nx b)) (by simp)
  obtain⟨_,of,ho,hnf⟩:=I.ok.funs.mem hb
  rw [e] at ho
  cases ho
  obtain⟨sl3,e3⟩:=up b _ e2 hnf
  exact⟨sl3,e3⟩
 refine⟨f.os.trans I.os,f.bare,⟨fun b o e n hb _=>?_,fun b o e n hb _=>slot b o e n hb,fun b o e n _=>?_,fun b o e _=>?_,fun b xs e=>f.un.tups b xs (I.base.tups b xs e),fun b o u e=>f.un.frzs b o u (I.base.frzs b o u e),fun b ps e=>?_⟩,fun a o e=>?_,⟨B,a0,fl',c1,fun b o e hb=>?_⟩,f.free⟩
 ·have e1:=I.base.keep b o e n hb (nx b)
  have n1:=I.base.free b o e n (nx b)
  have hb':=I.notSt (I.oldL e) hb
  have e2:=f.un.keep b o e1 n1 hb' (by simp)
  obtain⟨u,hu⟩:=c2 b o e1 hb'
  exact same b u o hu e2▸st b u hu
 ·obtain⟨o',e1⟩:=I.base.there b o e (nx b)
  exact f.un.free b o' e1 (I.base.free b o e n (nx b)) (by simp)
 ·by_cases hb:b∈X.fs
  ·obtain⟨sl,e1⟩:=slot b o e (I.ok.frf b hb) hb
   exact⟨_,e1⟩
  ·obtain⟨o',e1⟩:=I.base.there b o e (nx b)
   obtain⟨u,hu⟩:=c2 b o' e1 (I.notSt (I.oldL e) hb)
   exact⟨u,st b u hu⟩
 ·obtain⟨m1,e1⟩:=I.base.tbls b ps e
  obtain⟨m2,e2⟩:=f.un.tbls b _ e1
  exact⟨m1++m2,by rw [e2,Array.append_assoc]⟩
 ·refine(f.hok a o e).stay (fun b u hb q=>?_) (fun _ q=>q) fun _ _ q=>q
  have t:∃o',H' b=some o':=by
   rcases hb with z|z
   ·exact⟨o,by rw [z];exact e⟩
   ·exact⟨_,z⟩
  obtain⟨o',e'⟩:=t
  obtain⟨v,hv⟩:=c1 b o' e'
  exact same b v u hv q▸st b v hv
 ·obtain⟨o',e1⟩:=I.base.there b o e (nx b)
  exact c2 b o' e1 (I.notSt (I.oldL e) hb)
theorem Fly.first{oe:Obj}{vs:Array Value}{a0:Value}(I:Inv X pins σ H s)(hst:X.stack=X.env::X.outer)(hfr:X.env.frame=some X.env.locals)(hex:X.ex=[])(hx:s.heap.get? x=some oe)(hcl:oe.cls=cls)(hdt:oe.data=.fields vs)
  (h1:vs[1]?=some .none) (h0:vs[0]?=some a0) (hn:X.s₀.heap.get? x=none) (hH:H x=none)
  (hQ:∀s'',Fly X.prog X.w X.outer X.H₀ X.s₀ x cls H s''->bv x oe.dict s''->Q () s''):wpAny (model X.prog X.w) X.A (leaving X.env (.ref x)) Q E s:=by
 have nx:∀b:Addr,b∉X.ex:=fun b=>by rw [hex];simp
 refine wpAny_mono (ar.leave.wpAny (E:=E) (Q:=fun _ s''=>Fly X.prog X.w X.outer X.H₀ X.s₀ x cls H s'') ⟨oe,hx,rfl⟩ ?_) (fun _ s'' z=>hQ s'' z.1 z.2) fun _ _ z=>z.1
 have hl:s.heap.FunFrames (W.hideAll s.heap (x::frs X.stack)) (X.env::X.outer) :=
  W.funFrames_hide (base:=X.base) (by rw [<-hst];exact I.stack) fun env he a hf=>by
   rw [hst]
   exact .tail _ (List.mem_filterMap.mpr ⟨env,he,hf⟩)
 have hen:(W.hideAll s.heap (x::frs X.stack)).get? x=none:=W.hideAll_none _ (.head _)
 refine wpAny_leaving_firstW (a0:=a0) (by rw [I.ok.frames,hst]) hl hfr hx (fun b o q=>W.of_hideAll _ q) hen hdt h1 h0 fun h' hL=>?_
 obtain⟨k1,⟨_,_,k2⟩,k3,up⟩:=hL
 rw [hcl] at k3
 have st:∀b o,s.heap.get? b=some o->b∉frs X.stack->b≠x->h'.get? b=some o:=fun b o e hb hbx=>k1 b o (W.hideAll_get _ e fun z=>(List.mem_cons.mp z).elim hbx hb)
 have old:∀b o,X.s₀.heap.get? b=some o->b≠x:=fun b o e z=>by rw [z,hn] at e;cases e
 have slot:∀b o,X.s₀.heap.get? b=some o->X.H₀ b=none->b∈X.fs->∃sl,h'.get? b=some { o with slots:=sl }:=fun b o e n hb=>by
  obtain⟨sl,e1⟩:=I.base.slot b o e n hb (nx b)
  obtain⟨_,of,ho,hnf⟩:=I.ok.funs.mem hb
  rw [e] at ho
  cases ho
  obtain⟨sl3,e3⟩:=up b _ e1 hnf
  exact⟨sl3,e3⟩
 have trk:∀b o,H b=some o->b∉frs X.stack/\b≠x:=fun b o e=>⟨fun z=>(by rw [I.stkFree b z] at e;cases e),fun z=>(by rw [z,hH] at e;cases e)⟩
 refine⟨I.os,I.bare,⟨fun b o e n hb _=>st b o (I.base.keep b o e n hb (nx b)) (I.notSt (I.oldL e) hb) (old b o e),fun b o e n hb _=>slot b o e n hb,fun b o e n _=>I.base.free b o e n (nx b),fun b o e _=>?_,I.base.tups,I.base.frzs,I.base.tbls⟩,fun a o e=>?_,⟨_,_,⟨k1,hen,k2,k3⟩,fun b o e=>?_,fun b o e hb=>?_⟩,hH⟩
 ·by_cases hb:b∈X.fs
  ·obtain⟨sl,e1⟩:=slot b o e (I.ok.frf b hb) hb
   exact⟨_,e1⟩
  ·obtain⟨o',e1⟩:=I.base.there b o e (nx b)
   exact⟨o',st b o' e1 (I.notSt (I.oldL e) hb) (old b o e)⟩
 ·refine(I.hok a o e).stay (fun b u hb q=>?_) (fun _ q=>q) fun _ _ q=>q
  have hb':∃o',H b=some o':=by
   rcases hb with z|z
   ·exact⟨o,by rw [z];exact e⟩
   ·exact⟨_,z⟩
  obtain⟨o',e'⟩:=hb'
  exact st b u q (trk b o' e').1 (trk b o' e').2
 ·obtain⟨u,hu⟩:=(I.hok b o e).there
  exact⟨u,W.hideAll_get _ hu fun z=>(List.mem_cons.mp z).elim (trk b o e).2 (trk b o e).1⟩
 ·obtain⟨o',e1⟩:=I.base.there b o e (nx b)
  exact⟨o',W.hideAll_get _ e1 fun z=>(List.mem_cons.mp z).elim (old b o e) (I.notSt (I.oldL e) hb)⟩
theorem Fly.made{h1:Heap}{vs:List Value}(I:Inv X pins σ H s)(hst:X.stack=X.env::X.outer)(hfr:X.env.frame=some X.env.locals)(hex:X.ex=[])(hx:Heap.MadeExcOf s.heap h1 x cls vs)
  (hQ:∀s'',Fly X.prog X.w X.outer X.H₀ X.s₀ x cls H s''->bv x none s''->Q () s''):wpAny (model X.prog X.w) X.A (leaving X.env (.ref x)) Q E { s with heap:=h1 }:=by
 obtain⟨t,he,_,_⟩:=hx.there
 have I1:Inv X pins σ H { s with heap:=h1 }:=I.kept hx.keeps
 refine Fly.first I1 hst hfr hex he rfl rfl rfl rfl ?_ ?_ hQ
 ·cases q:X.s₀.heap.get? x with
  |none=>rfl
  |some o =>
   obtain⟨u,hu⟩:=I.base.there x o q (by rw [hex];simp)
   have:=hx.new
   rw [hu] at this
   cases this
 ·cases q:H x with
  |none=>rfl
  |some o =>
   obtain⟨u,hu⟩:=(I.hok x o q).there
   have:=hx.new
   rw [hu] at this
   cases this
end
section
variable{P:Program}{w:World}{K:W.Frag}{mg:Str->Option Value}{base:Heap}{N:List Str}{qual:Str}{scope:Scope}{f:Addr}{cd:Value}{A:Around}{outer:List Env}{s:Shared}{H:Hp}{E:XK}
theorem cB:cT (CX1 P w) (dI (CX1 P w) P w K mg base N qual scope f cd A outer s H E) E:=fun pins σ H1 s1 e s' I h=>by
 obtain⟨x,cls,d,H',rfl,fl,hd,hE⟩:=h
 exact Fly.leave I rfl rfl rfl fl hd fun s'' g gd=>⟨x,cls,d,H',rfl,g,gd,hE⟩
end
theorem rM{K:W.Frag}{h:Heap}{mg:Str->Option Value}{c:Str}{C:Addr}{bmB:List Value}{newId:String}(kin:K.In h)(hm:mg c=some (.ref C))(q:W.excIn K C bmB newId=true):OwnCls c C bmB newId mg h:=by
 refine⟨hm,?_⟩
 unfold W.excIn at q
 split at q
 next ddx cdx slx look =>
  split at q
  next C2 tl z0 z1 z2 z3 nn z5 hmro hsl =>
   simp only [Bool.not_eq_true',Bool.and_eq_true,beq_iff_eq] at q
   obtain⟨⟨⟨⟨⟨e1,e2⟩,hdel⟩,htl⟩,hok⟩,hni⟩:=q
   obtain⟨nm,bs,mro,ns,qn,hd,sn,sub,ab,col,del⟩:=cdx
   obtain⟨sll⟩:=slx
   dsimp only at hmro hdel hok hni hsl
   subst e1 e2 hmro hdel hsl
   exact⟨tl,ns,nm,qn,bs,hd,sn,sub,ab,col,ddx,z0,z1,z2,z3,z5,_,kin _ _ look,.of_isNs (W.isNs_of_in kin hok),W.nsMap_none_of_in kin hok hni,W.tail_of_in kin htl⟩
  next=>cases q
 next=>cases q
abbrev iM:List Value:=[.type "ValueError",.type "Exception",.type "BaseException",.type "object"]
theorem tO{X:Cx}{c:Str}{C:Addr}{e₀:Expr}{es:List Expr}{np cpos pos:Pos}{ta:TA}{W:St->Hp->Prop}(hc:X.calm=true)(hg:Gl X c)(hm:X.mg c=some (.ref C)) (q:PySem.W.excIn X.K C iM "ValueError.__new__"=true)
  (ha:PA X (e₀::es) ta) (hW:∀(pins:List (Addr × Obj)) (σ:St) (H:Hp) (s:Shared) (e:Addr) (h1:Heap) (vs:List Value),Inv X pins σ H s->W σ H->Heap.MadeExcOf s.heap h1 e (.ref C) vs->X.xe (.ref e) { s with heap:=h1 })
  (hd:(c==("__debug__":Str))=false:=by decide) (he:starEach (e₀::es) X.env=(false,eval e₀ X.env)::starEach es X.env:=by rfl) (hpl:(backTo cpos (starEach es X.env)).any (·.1)=false:=by rfl) :
  PS X (.Raise (some (.Call (.Name c np) (e₀::es) [] cpos)) none pos) (fun _ σ H=>ta σ H fun vs H1=>vs.length<=sizeLine/\W σ H1):=by
 intro pins s σ H D I h
 obtain⟨tl,N,nm,qq,bs,hdct,sn,sub,ab,col,dd,k0,k1,k2,k3,k5,mN,hC,hN,hni,T⟩:=(rM I.mod.kin hm q).obj
 refine wpAny_Raise_call_subU (C:=C) (nm:=nm) (q:=qq) (N:=N) (bs:=bs) (bm:=tl) (hdct:=hdct) (sn:=sn) (sub:=sub) (ab:=ab) (col:=col) (dd:=dd) (k0:=k0) (k1:=k1) (k2:=k2) (k3:=k3) (k5:=k5)
  PySem.F.excBase_ValueError (by decide +kernel) PySem.F.excBase_ValueError (mN:=mN) (T.hasType PySem.F.excBase_ValueError.hasBase) (I.ok.hd hc) ?_ hni (gn I hg hm ⟨rfl,?_⟩ hd)
 ·rw [he]
  show(false||(backTo cpos (starEach es X.env)).any (·.1))=false
  rw [hpl]
  rfl
 ·have h2:=ha cpos pins s σ H _ I h
  rw [he] at h2 ⊢
  refine Calls.evalArgs_plain (wpAny_mono h2 (fun us s2 ⟨vs,H1,I1,rv,hl,hw⟩=>⟨rfl,?_,I1.bk _ _ hC,hN.keeps I1.bk,T.keeps I1.bk,fun h' e hx=>hW pins σ H1 s2 e h' us I1 hw hx⟩) fun _ _ z=>z)
  rw [<-rv.length]
  exact hl
section
variable{P:Program}{w:World}{K:W.Frag}{mg:Str->Option Value}{base:Heap}
theorem bE{N:List Str}{qual:Str}{scope:Scope}{f:Addr}{cd:Value}{A:Around}{outer:List Env}{s:Shared}{H:Hp}{E:XK}{c:Str}{C:Addr}{e₀:Expr}{es:List Expr}{np cpos pos:Pos}{ta:TA}
  (hg:Gl (dI (CX1 P w) P w K mg base N qual scope f cd A outer s H E) c) (hm:mg c=some (.ref C)) (q:PySem.W.excIn K C iM "ValueError.__new__"=true) (ha:PA (dI (CX1 P w) P w K mg base N qual scope f cd A outer s H E) (e₀::es) ta)
  (hd:(c==("__debug__":Str))=false:=by decide) (he:starEach (e₀::es) (envOfC qual scope s.heap.objs.size f cd)=(false,eval e₀ (envOfC qual scope s.heap.objs.size f cd))::starEach es (envOfC qual scope s.heap.objs.size f cd):=by rfl)
  (hpl:(backTo cpos (starEach es (envOfC qual scope s.heap.objs.size f cd))).any (·.1)=false:=by rfl) :
  PS (dI (CX1 P w) P w K mg base N qual scope f cd A outer s H E) (.Raise (some (.Call (.Name c np) (e₀::es) [] cpos)) none pos) (fun _ σ H=>ta σ H fun vs H1=>vs.length<=sizeLine/\E (.ref C) none H1) :=
 tO (X:=dI (CX1 P w) P w K mg base N qual scope f cd A outer s H E) (W:=fun _ H1=>E (.ref C) none H1) rfl hg hm q ha (fun pins σ H s e h1 vs I hw hx=>Fly.made I rfl rfl rfl hx fun s'' g gd=>⟨e,.ref C,none,H,rfl,g,gd,hw⟩) hd he hpl
theorem Fun.okX{x qual:Str}{st:Stmt}{f:Addr}{fd:FuncData}{N ps:List Str}{k:Nat}{sp:Sp}(F:Fun K x qual st f fd)(S:aJ N ps (aj st))(len:∀vs H Q E,sp vs H Q E->vs.length=ps.length)
  (hbody:∀(cdv:Value) (A:Around) (outer:List Env) (s:Shared) (H:Hp) (vs:List V) (Q:VK) (E:XK),cA k (A.deeper (envOfC qual (aj st) s.heap.objs.size f cdv))->sp vs H Q E ->
   ∃t,PSs (dI (CX1 P w) P w K mg base N qual (aj st) f cdv A outer s H E) (aw st) t/\t { nx:=fun _ H'=>Q .non H',rt:=Q } (fh N vs) H):aV P w K mg base (CX1 P w) (k+1) f fd ps sp:=by
 obtain⟨oc,od,kV,doc,pm,an,cdv,ct,osl,rfl,lk,hcd⟩:=F.ex
 exact tY lk hcd S len fun A outer s H vs Q E hr hsp=>hbody cdv A outer s H vs Q E hr hsp
end
section
variable{X:Cx}{pins:List (Addr × Obj)}{σ:St}{H H':Hp}{s s':Shared}{x:Addr}{cls:Value}
theorem Fly.on{h':Heap}(f:Fly X.prog X.w X.stack H s x cls H' s')(I:Inv X pins σ H s){B:Heap}{a0 a1:Value}(fl:Heap.FlyingW B X.stack x cls a0 s'.heap)(c1:∀b o,H' b=some o->∃u,B.get? b=some u)
  (c2:∀b o,s.heap.get? b=some o->b∉frs X.stack->∃u,B.get? b=some u) (fl':Heap.FlyingW B X.stack x cls a1 h') (up:s'.heap.UpToSlots h'):Fly X.prog X.w X.stack H s x cls H' { s' with heap:=h' }:=by
 have st:∀b o,B.get? b=some o->h'.get? b=some o:=fl'.1
 have same:∀b u v,B.get? b=some u->s'.heap.get? b=some v->u=v:=fun b u v h1 h2=>by
  have h3:=fl.1 b u h1
  rw [h2] at h3
  exact(Option.some.inj h3).symm
 have slot:∀b o,s.heap.get? b=some o->H b=none->b∈frs X.stack->∃sl,h'.get? b=some { o with slots:=sl }:=fun b o e n hb=>by
  obtain⟨sl2,e2⟩:=f.un.any e n (by simp)
  obtain⟨_,of,ho,hnf⟩:=I.stack.mem hb
  rw [e] at ho
  cases ho
  obtain⟨sl3,e3⟩:=up b _ e2 hnf
  exact⟨sl3,e3⟩
 refine⟨f.os,f.bare,⟨fun b o e n hb _=>?_,fun b o e n hb _=>slot b o e n hb,f.un.free,fun b o e _=>?_,f.un.tups,f.un.frzs,f.un.tbls⟩,fun a o e=>?_,⟨B,a1,fl',c1,c2⟩,f.free⟩
 ·have e2:=f.un.keep b o e n hb (by simp)
  obtain⟨u,hu⟩:=c2 b o e hb
  exact same b u o hu e2▸st b u hu
 ·by_cases hb:b∈frs X.stack
  ·obtain⟨sl,e1⟩:=slot b o e (I.stkFree b hb) hb
   exact⟨_,e1⟩
  ·obtain⟨u,hu⟩:=c2 b o e hb
   exact⟨u,st b u hu⟩
 ·refine(f.hok a o e).stay (fun b u hb q=>?_) (fun _ q=>q) fun _ _ q=>q
  have t:∃o',H' b=some o':=by
   rcases hb with z|z
   ·exact⟨o,by rw [z];exact e⟩
   ·exact⟨_,z⟩
  obtain⟨o',e'⟩:=t
  obtain⟨v,hv⟩:=c1 b o' e'
  exact same b v u hv q▸st b v hv
theorem Fly.inv(f:Fly X.prog X.w X.stack H s x cls H' s')(I:Inv X pins σ H s):Inv X pins σ H' s':=I.call' (ch:=[]) f.os f.un f.hok f.bare fun b z=>absurd z (by simp)
theorem Fly.there(f:Fly X.prog X.w X.stack H s x cls H' s'):∃ob,s'.heap.get? x=some ob/\ob.cls=cls:=by
 obtain⟨B,a0,fl,_⟩:=f.fl
 exact fl.there
theorem Fly.again{A:Around}{E:Value->Shared->Prop}{Q:Unit->Shared->Prop}(f:Fly X.prog X.w X.stack H s x cls H' s')(I:Inv X pins σ H s){d:Option Addr}(hdi:bv x d s')(hQ:∀s'',Fly X.prog X.w X.stack H s x cls H' s''->bv x d s''->Q () s'') :
  wpAny (model X.prog X.w) A (setFlight (.ref x) none) Q E s':=by
 refine wpAny_mono (ar.flight.wpAny (E:=E) (Q:=fun _ s''=>Fly X.prog X.w X.stack H s x cls H' s'') hdi ?_) (fun _ s'' z=>hQ s'' z.1 z.2) fun _ _ z=>z.1
 obtain⟨B,a0,fl,c1,c2⟩:=f.fl
 exact lands_againW fl fun h' fl' up=>f.on I fl c1 c2 fl' up
theorem Fly.look{E E2:Value->Shared->Prop}{Q:Unit->Shared->Prop}(f:Fly X.prog X.w X.stack H s x cls H' s')(I:Inv X pins σ H s)(hst:X.stack=X.env::X.outer)(hfr:X.env.frame=some X.env.locals){d:Option Addr}(hdi:bv x d s')
  (hQ:∀s'',Fly X.prog X.w X.stack H s x cls H' s''->bv x d s''->Q () s''):wpAny (model X.prog X.w) X.A (noteFrame (.ref x) X.env) (fun _ s2=>wpAny (model X.prog X.w) X.A (setFlight (.ref x) none) Q E2 s2) E s':=by
 obtain⟨B,a0,fl,c1,c2⟩:=f.fl
 have fl0:=fl
 rw [hst] at fl
 refine wpAny_mono (ar.note.wpAny (E:=E) (Q:=fun _ s2=>wpAny (model X.prog X.w) X.A (setFlight (.ref x) none) (fun _ s''=>Fly X.prog X.w X.stack H s x cls H' s'') E2 s2) hdi ?_) (fun _ s2 z=>?_) fun _ _ z=>z.1
 ·refine wpAny_looks_onW (by rw [I.ok.frames,hst]) hfr fl fun h' hd up=>?_
  refine wpAny_landsW hd fun h2 fl2 up2=>?_
  rw [<-hst] at fl2
  exact f.on I fl0 c1 c2 fl2 (up.trans up2)
 ·exact wpAny_mono (ar.flight.wpAny z.2 z.1) (fun _ s'' y=>hQ s'' y.1 y.2) fun _ _ y=>y.1
end
abbrev Cx.inE(X:Cx)(e:Addr):Cx:={ X with A:=X.A.mark (some (.ref e)),calm:=false }
section
variable{X:Cx}{pins:List (Addr × Obj)}{σ:St}{H:Hp}{s:Shared}
theorem Cx.Ok.inE{e:Addr}(ok:X.Ok):(X.inE e).Ok:=⟨ok.mod,ok.kind,ok.glob,ok.blt,ok.above,ok.inj,ok.has,ok.cab,fun z=>absurd z (by simp),ok.frames,ok.stk,ok.exf,ok.bs,ok.bsz,ok.noex,ok.exfs,ok.funs,ok.frf⟩
theorem Inv.inE{e:Addr}(I:Inv X pins σ H s):Inv (X.inE e) pins σ H s:=⟨I.ok.inE,I.os,I.bare,I.base,I.loc,I.cell,I.free,I.freeC,I.pin,I.hok,I.len⟩
theorem Inv.outE{e:Addr}{E:Value->Shared->Prop}(ok:X.Ok)(I:Inv ((X.inE e).wish E) pins σ H s):Inv X pins σ H s:=⟨ok,I.os,I.bare,I.base,I.loc,I.cell,I.free,I.freeC,I.pin,I.hok,I.len⟩
theorem SP.outE{e:Addr}{E:Value->Shared->Prop}{D:fG}{f:Flow}{s':Shared}(ok:X.Ok)(h:SP ((X.inE e).wish E) pins D f s'):SP X pins D f s':=by
 cases f with
 |next=>obtain⟨σ',H',I,q⟩:=h;exact⟨σ',H',I.outE ok,q⟩
 |brk=>obtain⟨σ',H',I,q⟩:=h;exact⟨σ',H',I.outE ok,q⟩
 |cont=>obtain⟨σ',H',I,q⟩:=h;exact⟨σ',H',I.outE ok,q⟩
 |ret u=>obtain⟨v,σ',H',I,r,q⟩:=h;exact⟨v,σ',H',I.outE ok,r,q⟩
end
abbrev TH:=fG->Value->Option Addr->Addr->St->Hp->Prop
def PH(X:Cx)(hs:List ExceptHandler)(t:TH):Prop :=
 ∀(pins:List (Addr × Obj)) (σ:St) (H H':Hp) (s s':Shared) (D:fG) (cls:Value) (d:Option Addr) (e:Addr),Inv X pins σ H s->Fly X.prog X.w X.stack H s e cls H' s'->bv e d s'->t D cls d e σ H' ->
  wpAny (model X.prog X.w) X.A (handleBy (.ref e) X.env hs) (SP X pins D) X.xe s'
theorem xO{X:Cx}:PH X [] (fun _ _ _ _ _ _=>False):=fun _ _ _ _ _ _ _ _ _ _ _ _ _ h=>h.elim
theorem jD{X:Cx}{d:Str}{vd:Value}{np pos:Pos}{b₀:Stmt}{suite:List Stmt}{rest:List ExceptHandler}{th:TS}{tr:TH}(hg:Gl X d)(hm:X.mg d=some vd)(hb:∀e,PSs (X.inE e).nox (b₀::suite) th)(hr:PH X rest tr)
  (hd:(d==("__debug__":Str))=false:=by decide) :
  PH X (.ExceptHandler (some (.Name d np)) none (b₀::suite) pos::rest) (fun D cls dd e σ H=>∃b,W.exmOne X.K cls vd=some b/\if b=true then th D σ H else tr D cls dd e σ H):=by
 intro pins σ H H' s s' D cls dd e I f hdi h
 obtain⟨b,hx,h⟩:=h
 have I1:=f.inv I
 obtain⟨ob,hob,hcl⟩:=f.there
 have LT:W.Looks (model X.prog X.w) s'.heap (typeOf (.ref e)) cls:=by
  rw [<-hcl]
  exact(W.Looks.ld hob).andThen .now
 refine wpAny_handleBy_cons (codeAny_handlers_test (Calls.Name_function_global I1.ok.kind hg (Calls.loadGlobal_global (by rw [I1.ok.glob];exact I1.mod.glob.keeps I1.bk) hm ?_) hd)) (by intro q;cases q)
 refine(W.exm_one I1.kIn LT hx).here ?_
 cases b with
 |false=>exact hr pins σ H H' s s' D cls dd e I f hdi h
 |true =>
  refine codeAny_handlers_suite (f.again I hdi fun s2 f2 _=>?_)
  have I2:=(f2.inv I).inE (e:=e)
  exact wpAny_mono (hb e pins s2 σ H' D (I2.wish _) h) (fun fl s3 q=>SP.outE I1.ok q) fun _ _ z=>False.elim z
def AB(X:Cx)(hs:List ExceptHandler)(pins:List (Addr × Obj))(D:fG):Value->Shared->Prop:=fun e s1 =>
 wpAny (model X.prog X.w) X.A (noteFrame e X.env) (fun _ s2=>wpAny (model X.prog X.w) X.A (setFlight e none) (fun _ s3=>wpAny (model X.prog X.w) X.A (handleBy e X.env hs) (SP X pins D) X.xe s3) X.xe s2) X.xe s1
abbrev Cx.tryIn(X:Cx)(hs:List ExceptHandler)(pins:List (Addr × Obj))(D:fG):Cx:={ X with pn:=X.pn++pins,xe:=AB X hs pins D }
section
variable{X:Cx}{hs:List ExceptHandler}{pins pins':List (Addr × Obj)}{D D':fG}{σ:St}{H:Hp}{s:Shared}
theorem Cx.Ok.tryIn(ok:X.Ok):(X.tryIn hs pins D).Ok:=⟨ok.mod,ok.kind,ok.glob,ok.blt,ok.above,ok.inj,ok.has,ok.cab,ok.hd,ok.frames,ok.stk,ok.exf,ok.bs,ok.bsz,ok.noex,ok.exfs,ok.funs,ok.frf⟩
theorem Cx.Ok.tryOut(ok:(X.tryIn hs pins D).Ok):X.Ok:=⟨ok.mod,ok.kind,ok.glob,ok.blt,ok.above,ok.inj,ok.has,ok.cab,ok.hd,ok.frames,ok.stk,ok.exf,ok.bs,ok.bsz,ok.noex,ok.exfs,ok.funs,ok.frf⟩
theorem Inv.tryIn(I:Inv X pins σ H s):Inv (X.tryIn hs pins D) [] σ H s:=⟨I.ok.tryIn,I.os,I.bare,I.base,I.loc,I.cell,I.free,I.freeC,fun p hp=>I.pin p (by simpa using hp),I.hok,I.len⟩
theorem Inv.tryOut(I:Inv (X.tryIn hs pins D) pins' σ H s):Inv X pins σ H s:=⟨I.ok.tryOut,I.os,I.bare,I.base,I.loc,I.cell,I.free,I.freeC,fun p hp=>I.pin p (List.mem_append_left _ hp),I.hok,I.len⟩
theorem SP.tryOut{f:Flow}{s':Shared}(h:SP (X.tryIn hs pins D') [] D f s'):SP X pins D f s':=by
 cases f with
 |next=>obtain⟨σ',H',I,q⟩:=h;exact⟨σ',H',I.tryOut,q⟩
 |brk=>obtain⟨σ',H',I,q⟩:=h;exact⟨σ',H',I.tryOut,q⟩
 |cont=>obtain⟨σ',H',I,q⟩:=h;exact⟨σ',H',I.tryOut,q⟩
 |ret u=>obtain⟨v,σ',H',I,r,q⟩:=h;exact⟨v,σ',H',I.tryOut,r,q⟩
end
theorem xt{X:Cx}{body:List Stmt}{h₀:ExceptHandler}{hs:List ExceptHandler}{pos:Pos}{tb:fG->TS}(hb:∀pins D,PSs (X.tryIn (h₀::hs) pins D) body (tb D)):PS X (.Try body (h₀::hs) [] [] pos) (fun D σ H=>tb D D σ H):=by
 intro pins s σ H D I h
 refine wpAny_Try_except (wpAny_mono (hb pins D [] s σ H D I.tryIn h) (fun f s1 q=>?_) fun _ _ z=>z)
 have q':=SP.tryOut q
 cases f with
 |next=>exact wpAny_execs_nil q'
 |brk=>exact q'
 |cont=>exact q'
 |ret u=>exact q'
theorem yt{X:Cx}{hs:List ExceptHandler}{pins:List (Addr × Obj)}{D:fG}{th:TH}(hst:X.stack=X.env::X.outer)(hfr:X.env.frame=some X.env.locals)(hh:PH X hs th) :
  ∀(pins':List (Addr × Obj)) (σ:St) (H:Hp) (s:Shared) (e:Value) (s':Shared),Inv (X.tryIn hs pins D) pins' σ H s->CX1 X.prog X.w X.stack H s (fun cls d H'=>∀x,H' x=none->th D cls d x σ H') e s'->(X.tryIn hs pins D).xe e s':=by
 intro pins' σ H s e s' I h
 obtain⟨x,cls,d,H',rfl,f,hdi,hE⟩:=h
 have I0:Inv X pins σ H s:=I.tryOut
 exact Fly.look f I0 hst hfr hdi fun s'' f2 d2=>hh pins σ H H' s s'' D cls d x I0 f2 d2 (hE x f.free)
section
variable{X:Cx}{CX:CXT}{k:Nat}{f C:Addr}{fd:FuncData}{ps:List Str}{sp:Sp}{dvs:List V}{ds:List Value}{E:St->XK}{x m:Str}{p pos apos:Pos}{e o:Expr}{es:List Expr}{ta:TE}{t:TA}
theorem sI(F:aV X.prog X.w X.K X.mg X.base CX k f fd ps sp)(hr:cA k X.A)(hg:Gl X x)(hm:X.mg x=some (.ref f))(hk:W.keepIn X.K (.ref f)=true)(hb:aL X.K fd ps ds)(hd:bg dvs ds)
  (hx:∀(pins:List (Addr × Obj)) (σ:St) (H:Hp) (s:Shared) (e:Value) (s':Shared),Inv X pins σ H s->CX X.stack H s (E σ) e s'->X.xe e s') (ha:PA X (e::es) t)
  (hdb:(x==("__debug__":Str))=false:=by decide) (he:starEach (e::es) X.env=(false,eval e X.env)::starEach es X.env:=by rfl) (hpl:(backTo pos (starEach es X.env)).any (·.1)=false:=by rfl) :
  PE X (.Call (.Name x p) (e::es) [] pos) (fun σ H Q=>t σ H fun vs H1=>sp (vs++dvs) H1 Q (E σ)):=by
 intro pins s σ H Q I h
 refine wpAny_Call_Name_kw (gn I hg hm ?_ hdb)
 refine W.callWith_K (h₀:=X.base) I.ok.mod.kin hk (thn (ha pos pins s σ H _ I h) fun us s1 ⟨vs,H1,I1,r,q⟩=>⟨I1.kIn,?_⟩) he hpl
 have r2:bg (vs++dvs) (us++ds):=r.append hd
 have hl:(us++ds).length=ps.length:=by rw [<-r2.length];exact F.len _ _ _ _ q
 refine wpAny_call (codeAny_mono (F.run X.A X.stack s1 H1 ⟨us,[]⟩ (us++ds) (vs++dvs) Q (E σ) hr I1.env0 (hb s1 us I1.kIn hl) r2 q) fun r s' hq=>?_)
 cases r with
 |error e=>exact hx pins σ H1 s1 e s' I1 hq
 |ok fl =>
  cases fl with
  |ret u=>exact I1.after hq
  |next=>exact False.elim hq
  |brk=>exact False.elim hq
  |cont=>exact False.elim hq
end
section
variable{X:Cx}{pos:Pos}{e:Expr}{es:List Expr}{te:TE}
abbrev TJ:=St->Hp->(Hp->Prop)->Prop
def PJ(X:Cx)(es:List Expr)(t:TJ):Prop :=
 ∀(pins:List (Addr × Obj)) (s:Shared) (σ:St) (H:Hp) (acc:Str) (Z:Hp->Prop),acc.length+2000000*es.length<=sizeLine->Inv X pins σ H s->t σ H Z ->
  Joins (model X.prog X.w) X.A X.xe (evalEach es X.env) acc (fun out s1=>out.length<=sizeLine/\∃H1,Inv X pins σ H1 s1/\Z H1) s
theorem dW:PJ X [] (fun _ H Z=>Z H):=fun _ _ _ H _ _ hz I h=>⟨Nat.le_trans (Nat.le_add_right _ _) hz,H,I,h⟩
theorem az{tj:TJ}(he:PE X e te)(hr:PJ X es tj):PJ X (e::es) (fun σ H Z=>te σ H fun v H1=>∃y:Str,v=.str y/\y.length<=2000000/\tj σ H1 Z):=by
 intro pins s σ H acc Z hz I h
 refine thn (he pins s σ H _ I h) fun u s1 ⟨v,H1,I1,r,y,hv,hy,q⟩=>?_
 subst hv
 obtain⟨t,rfl⟩:=r
 have e1:(acc++y).length=acc.length+y.length:=by
  show Array.size (acc.cps++y.cps)=_
  rw [Array.size_append]
  rfl
 have e2:(e::es).length=es.length+1:=rfl
 rw [e2] at hz
 refine⟨y,t,rfl,by omega,hr pins s1 σ H1 (acc++y) Z (by omega) I1 q⟩
theorem cI{v1 v2:Expr}{rest:List Expr}{tj:TJ}(hj:PJ X (v1::v2::rest) tj)(hl:(v1::v2::rest).length<=8) :
  PE X (.JoinedStr (v1::v2::rest) pos) (fun σ H Q=>tj σ H fun H1=>∀z:Str,z.length<=sizeLine->Q (.str z) H1):=by
 intro pins s σ H Q I h
 have hz:Str.empty.length+2000000*(v1::v2::rest).length<=sizeLine:=by
  have e0:Str.empty.length=0:=rfl
  rw [sizeLine_eq,e0]
  rw [Nat.zero_add]
  exact Nat.le_trans (Nat.mul_le_mul_left _ hl) (Nat.le_of_ble_eq_true rfl)
 refine wpAny_JoinedStr ?_
 have j:=hj pins s σ H Str.empty _ hz I h
 exact joins_mono _ _ (fun out s1 ⟨h1,H1,I1,q⟩=>⟨h1,.str out,H1,I1.tok _,⟨_,rfl⟩,q out h1⟩) _ j
where joins_mono {M:Model} {A:Around} {E:Value->Shared->Prop}:∀(parts:List (Sem Value)) (acc:Str) {Q Q':Str->Shared->Prop},(∀out s,Q out s->Q' out s)->∀s,Joins M A E parts acc Q s->Joins M A E parts acc Q' s
 |[],acc,_,_,hq,s,h=>hq _ _ h
 |x::rest,acc,_,_,hq,s,h=>thn (show wpAny _ _ _ _ _ _ from h) fun v s1 ⟨y,t,e1,e2,e3⟩=>⟨y,t,e1,e2,joins_mono rest (acc++y) hq s1 e3⟩
theorem dN(he:PE X e te):PE X (.FormattedValue e (-1) none pos) (fun σ H Q=>te σ H fun v H1=>(∃y:Str,v=.str y/\y.length<=sizeLine/\Q (.str y) H1)\/∃i:Int,v=.int i/\i.natAbs.log2 < 1920/\Q (.str (toString i)) H1):=by
 intro pins s σ H Q I h
 refine FormattedValue_plain (thn (he pins s σ H _ I h) fun u s1 ⟨v,H1,I1,r,q⟩=>?_)
 rcases q with ⟨y,rfl,hy,q⟩|⟨i,rfl,hi,q⟩
 ·obtain⟨t,rfl⟩:=r
  exact formatField_str (fun t' tk=>⟨.str y,H1,I1.tok _,⟨_,rfl⟩,q⟩) hy
 ·obtain⟨t,rfl⟩:=r
  exact formatField_int_small hi ⟨.str _,H1,I1.tok _,⟨_,rfl⟩,q⟩
theorem sY(he:PE X e te):PE X (.FormattedValue e 114 none pos) (fun σ H Q=>te σ H fun v H1=>∃y:Str,v=.str y/\PyData.strOk y=true/\y.length<=9000/\∀z:Str,z.length<=100000->Q (.str z) H1):=by
 intro pins s σ H Q I h
 refine wpAny_FormattedValue_repr (thn (he pins s σ H _ I h) fun u s1 ⟨v,H1,I1,r,y,hv,hok,hy,q⟩=>?_)
 subst hv
 obtain⟨t,rfl⟩:=r
 have hl:=StrLaws.reprText_len y fun c hc=>by
  have h1:y.cps.all (· < 0x110000)=true:=hok
  rw [Array.all_eq_true_iff_forall_mem] at h1
  have h2:=h1 c (by simpa using hc)
  have h3:c < 0x110000:=by simpa using h2
  exact Nat.lt_trans h3 (by decide)
 have hz:(reprText y).length<=sizeLine:=Nat.le_trans hl (by rw [sizeLine_eq];omega)
 refine wpAny_pyReprObj_str ?_ hz
 exact formatField_str (fun t' tk=>⟨.str _,H1,(I1.tok _).tok _,⟨_,rfl⟩,q _ (by omega)⟩) hz
end
section
variable{prog:Program}{w:World}{A:Around}{s:Shared}{E:Value->Shared->Prop}{K:Type}[DecidableEq K]{knd:KeyKind prog w K}
end
section
variable{X:Cx}
theorem oa{kvs:List (Key × V)}(hn:(kvs.map (·.1)).Nodup):∀p∈kvs,du kvs p.1=some p.2:=by
 intro p hp
 induction kvs with
 |nil=>cases hp
 |cons q r ih =>
  have hn:=List.nodup_cons.mp (List.map_cons▸hn)
  unfold du
  rw [List.find?_cons]
  by_cases e:q.1=p.1
  ·have eq:q=p:=by
    rcases List.mem_cons.mp hp with z|z
    ·exact z.symm
    ·exact absurd (List.mem_map.mpr ⟨p,z,e.symm⟩) hn.1
   rw [decide_eq_true e,eq]<;>rfl
  ·rw [decide_eq_false e]
   have hp':p∈r:=(List.mem_cons.mp hp).resolve_left fun z=>e (by rw [z])
   exact ih hn.2 hp'
theorem eE:ke X (.type "dict") (fun xs H Q=>∃a kvs,xs=[.ref a]/\H a=some (.dK kvs)/\∀l,H l=none->Q (.ref l) (upd H l (.dK kvs))):=by
 intro pins s σ H xs us Q I r h
 obtain⟨a,kvs,rfl,ha,q⟩:=h
 obtain⟨u,rfl,ru⟩:=lu r
 cases ru
 obtain⟨z,hd,vs,rel,dd⟩:=jY I.hok ha
 refine PySem.kt_call_dict hd dd (by rw [<-rel.length];exact z) fun h' dd' hs=>?_
 have keep:∀b o,s.heap.get? b=some o->h'.get? b=some o:=fun b o e=>(hs.2 b (Nat.ne_of_lt (Heap.lt_size e))).trans (Heap.get?_push_of_some _ e)
 refine⟨.ref s.heap.objs.size,_,I.laid (o:=.dK kvs) (t':=s.toks) keep (Nat.le_refl _) ⟨z,beq_eq_false_iff_ne.mpr (Ne.symm (Nat.ne_of_lt I.big)),vs,rel,dd'⟩,rfl,q _ (I.hok.fresh (Nat.le_refl _))⟩
theorem tI{pins:List (Addr × Obj)}{σ:St}{H:Hp}{s:Shared}{a:Addr}{kvs:List (Key × V)}(I:Inv X pins σ H s)(e:H a=some (.dK kvs)):(kvs.map (·.1)).Nodup:=by
 obtain⟨_,_,vs,rel,dd⟩:=jY I.hok e
 obtain⟨_,_,_,_,_,_,_,_,hn⟩:=dd
 have ek:∀{l:List (Key × V)} {m:List (Key × Value)},KV l m->l.map (·.1)=m.map (·.1):=fun {l m} p=>by
  unfold KV at p
  induction p with
  |nil=>rfl
  |cons h _ ih=>rw [List.map_cons,List.map_cons,ih,h.1]
 rw [ek rel]
 exact hn
end
structure zA(K:W.Frag)(D:Addr):Prop where
 is:(match K.lookup D with|some ⟨_,_,.cls _,_⟩=>true|_=>false)=true
 ga:W.findIn K (.ref D) "__getattribute__"=some (some (.builtin "BaseException.__getattribute__"))
 gh:W.findIn K (.ref D) "__getattr__"=some none
 cl:W.findIn K (.ref D) "__class__"=some (some (.builtin "object.__class__"))
 sp:W.specialIn K (.builtin "object.__class__") "__get__"=some (some (.builtin "getset_descriptor.__get__"))
 tk:W.takesIn K (.builtin "object.__class__")=some true
 ob:W.mroIn K D (.type "object")=some true
 be:W.mroIn K D (.type "BaseException")=some true
section
variable{prog:Program}{w:World}{A:Around}{E:Value->Shared->Prop}{s:Shared}{K:W.Frag}{x D:Addr}
end
section
variable{X:Cx}
end
section
variable{X:Cx}{pins:List (Addr × Obj)}{σ:St}{H H':Hp}{s s':Shared}{x:Addr}{cls:Value}
def fG.gone(D:fG)(i:Nat):fG:={ nx:=fun σ H=>D.nx (σ.set i none) H,rt:=D.rt,bk:=fun σ H=>D.bk (σ.set i none) H,ct:=fun σ H=>D.ct (σ.set i none) H }
end
structure jR(K:W.Frag)(x qual:Str)(st:Stmt)(dV:Value)(f:Addr)(fd:FuncData):Prop where
 ex:∃(oc:Value) (od:Option Addr) (kV doc pm:Value) (an:Option Addr) (cdv ct:Value) (osl:Array (Option Value)),
  fd=W.fnOf x qual (aD st) (aw st) (aj st) dV kV doc pm an cdv ct/\K.lookup f=some ⟨oc,od,.func fd,osl⟩/\W.codeIn K cdv qual=true
 kp:W.keepIn K (.ref f)=true
section
variable{P:Program}{w:World}{K:W.Frag}{mg:Str->Option Value}{base:Heap}
theorem jR.okX{x qual:Str}{st:Stmt}{dV:Value}{f:Addr}{fd:FuncData}{N ps:List Str}{k:Nat}{sp:Sp}(F:jR K x qual st dV f fd)(S:aJ N ps (aj st))(len:∀vs H Q E,sp vs H Q E->vs.length=ps.length)
  (hbody:∀(cdv:Value) (A:Around) (outer:List Env) (s:Shared) (H:Hp) (vs:List V) (Q:VK) (E:XK),cA k (A.deeper (envOfC qual (aj st) s.heap.objs.size f cdv))->sp vs H Q E ->
   ∃t,PSs (dI (CX1 P w) P w K mg base N qual (aj st) f cdv A outer s H E) (aw st) t/\t { nx:=fun _ H'=>Q .non H',rt:=Q } (fh N vs) H):aV P w K mg base (CX1 P w) (k+1) f fd ps sp:=by
 obtain⟨oc,od,kV,doc,pm,an,cdv,ct,osl,rfl,lk,hcd⟩:=F.ex
 exact tY lk hcd S len fun A outer s H vs Q E hr hsp=>hbody cdv A outer s H vs Q E hr hsp
theorem jR.binds{x qual:Str}{st:Stmt}{T:Addr}{f:Addr}{fd:FuncData}{ps:List Str}{oT:Value}{dT:Option Addr}{its:Array Value}{nT:Nat}{sT:Array (Option Value)}{ds:List Value}(F:jR K x qual st (.ref T) f fd)(lT:K.lookup T=some ⟨oT,dT,.seq its nT,sT⟩)
  (h:∀(kV doc pm:Value) (an:Option Addr) (cdv ct:Value) (us:List Value),(us++ds).length=ps.length->∃k:Option (Array Value)->Sem (List (Str × Value)),
   bindArgs (W.fnOf x qual (aD st) (aw st) (aj st) (.ref T) kV doc pm an cdv ct) ⟨us,[]⟩=seqItems? (.ref T) >>= k/\k (some its)=pure (ps.zip (us++ds))):aL K fd ps ds:=by
 obtain⟨oc,od,kV,doc,pm,an,cdv,ct,osl,rfl,lk,hcd⟩:=F.ex
 intro s us kin hl
 obtain⟨k,h1,h2⟩:=h kV doc pm an cdv ct us hl
 exact BindsTo.of_defaults rfl (kin _ _ lT) rfl h1 h2
end
section
variable{X:Cx}
theorem sJ{i0:Nat}{y0:Str}{py0 spos:Pos}{tg elt iter:Expr}{ifs:List Expr}{own caps:List Str}{κ:List Nat}{sc:Scope}{cl:List (Str × Addr)}{pos:Pos}{wi:TI}{g:TG}{tc:TT}{te:TE}(hN:X.N.Nodup)(hi0:X.N[i0]?=some y0)(hy0:Loc X.env.scope y0)(hcalm:X.calm=true)(S:iA X caps sc cl)(hκ:κ.map (fun k=>X.N[k]?)=caps.map some)
  (hi:PI X tg iter wi) (hg:∀s₀ H₀ C ex,PG (blk X (own++caps) sc cl s₀ H₀ C ex) tg g)
  (hc:∀s₀ H₀ C ex (pins:List (Addr × Obj)) (s:Shared) (σ:St) (H:Hp) (Q:Bool->Hp->Prop),Inv (blk X (own++caps) sc cl s₀ H₀ C ex) pins σ H s->tc σ H Q ->
   wpAny (model X.prog X.w) X.A (forIn ifs true fun c r=>if r=true then do let ok <-isTrue c (compEnvC sc cl C X.env) (eval c (compEnvC sc cl C X.env));pure (ForInStep.yield ok) else pure (ForInStep.yield r)) (TP (blk X (own++caps) sc cl s₀ H₀ C ex) pins σ Q) (fun _ _=>False) s)
  (he:∀s₀ H₀ C ex,PE (blk X (own++caps) sc cl s₀ H₀ C ex) elt te)
  (hs:∀x,foldedSetIterable iter X.env x=pure x:=by intro _;rfl) (hsw:swapsWith (.ListComp elt [⟨tg,iter,ifs,0⟩] sc pos) (some (.Name y0 py0)) spos.line X.env=pure true:=by rfl)
  (hf0:X.fn y0=true\/X.env.scope.names.lookup y0=some .local:=by first|exact .inl rfl|exact .inr rfl|assumption) :
  PS X (.Assign [.Name y0 py0] (.ListComp elt [⟨tg,iter,ifs,0⟩] sc pos) spos) (vV (oI own.length κ wi g tc te) (fJ i0)):=by
 intro pins s σ H D0 I h
 rw [exec_Assign_Name_used _ _ _ _ hsw]
 refine wpAny_bind (wpAny_standAt (wpAny_bind ?_))
 show wpAny _ X.A (do let _ <-comprehension (.ListComp elt [⟨tg,iter,ifs,0⟩] sc pos) sc X.env _ (newList []) false (eval iter X.env) (some (assign (.Name y0 py0) X.env))) _ _ s
 refine wpAny_bind (wpAny_mono (wpAny_comprehension_free (use:=some (assign (.Name y0 py0) X.env)) (Q:=fun _ s'=>SP X pins D0 .next s') rfl hs S.clos S.kind S.names (thn (hi pins s σ H _ I h) fun v s1 h1=>thn h1 fun itv s2 h2=>?_))
  (fun _ s' hq=>wpAny_pure (wpAny_pure hq)) fun _ _ e=>e)
 obtain⟨it,fp,tn,J,H2,e,I2,T,st2,f2,W,⟨m0,w0⟩,turn⟩:=h2
 subst e
 have hfp:∀b∈fp,b < s2.heap.objs.size:=fun b hb=>by
  obtain⟨o,e,_⟩:=T.obj _ _ st2 b hb
  exact Heap.lt_size e
 refine wpAny_newObj_type (wpAny_newFunctionEnv S.nocell (fun y hy=>nomatch hy) (fun h₁ hns hsb=>?_) S.kind)
 generalize ehp:s2.heap.push { cls:=.type "list",dict:=none,data:=.seq ([]:List Value).toArray }=hp at hns hsb ⊢
 have hsz:hp.objs.size=s2.heap.objs.size+1:=by rw [<-ehp,Heap.size_push]
 have hDC:s2.heap.objs.size≠hp.objs.size:=by rw [hsz];exact Nat.ne_of_lt (Nat.lt_succ_self _)
 have old:∀b o,hp.get? b=some o->h₁.get? b=some o:=fun b o e=>(hsb.2 b (Nat.ne_of_lt (Heap.lt_size e))).trans (Heap.get?_push_of_some _ e)
 have eD:h₁.get? s2.heap.objs.size=some { cls:=.type "list",data:=.seq ([]:List Value).toArray }:=old _ _ (by rw [<-ehp];exact Heap.get?_push_size _ rfl)
 have I0:=Inv.block (own:=own) (h₁:=h₁) (tk:=s2.toks+([]:List (Str × Value)).length) S hκ I2 f2 hfp ehp.symm hns old
 have stkD:s2.heap.objs.size∉frs X.stack:=fun z=>(List.mem_cons.mp (I2.stkSub _ z)).elim (Nat.ne_of_gt I2.lt) (I2.nofs (Nat.le_refl _))
 have cellD:∀x c,cl.lookup x=some c->c≠s2.heap.objs.size:=fun x c q=>by
  obtain⟨v,z⟩:=I2.cell x c (S.subc q)
  exact Nat.ne_of_lt z.lt
 have pinD:∀p∈X.pn++pins,p.1≠s2.heap.objs.size:=fun p hp=>Nat.ne_of_lt (Heap.lt_size (I2.pin p hp).1)
 have stkF:∀b∈fp,b∉frs X.stack:=fun b hb z=>(List.mem_cons.mp (I2.stkSub _ z)).elim (f2 b hb).2.1 (f2 b hb).2.2.1
 have loop:codeAny (model X.prog X.w) X.A (.compLoop (.ListComp elt [⟨tg,iter,ifs,0⟩] sc pos) 0 (.ref it) (.ref s2.heap.objs.size) (compEnvC sc cl hp.objs.size X.env))
   (compPost (model X.prog X.w) X.A X.xe (some (assign (.Name y0 py0) X.env)) (fun _ s'=>SP X pins D0 .next s') (.ref s2.heap.objs.size) hp.objs.size) { s2 with heap:=h₁,toks:=s2.toks+([]:List (Str × Value)).length }:=by
  refine codeAny_loop rfl (fun n s'=>∃(i:Nat) (ys:List V) (its:List Value) (cap:Nat) (H':Hp),Inv (blk X (own++caps) sc cl { s2 with heap:=hp } H2 hp.objs.size (s2.heap.objs.size::fp)) pins (cS own.length κ σ) H' s'/\tn i s'.heap/\(∀b∈fp,H' b=none) /\
   s'.heap.get? s2.heap.objs.size=some { cls:=.type "list",data:=.seq its.toArray cap }/\H' s2.heap.objs.size=none/\bg ys its/\ys.length<=sizeLine/\W i n ys H') (fun n s3 hI=>?_) m0
   ⟨0,[],[],0,H2,I0,T.keep _ _ _ st2 fun b hb o e=>old _ _ (by rw [<-ehp];exact Heap.get?_push_of_some _ e),fun b hb=>(f2 b hb).1,eD,I2.hok.fresh (Nat.le_refl _),.nil,Nat.zero_le _,w0⟩
  obtain⟨i,ys,its,cap,H3,I3,st3,fr3,eD3,nD3,rv,hz,w3⟩:=hI
  show wpAny _ X.A ((compTurn (.ListComp elt [⟨tg,iter,ifs,0⟩] sc pos) 0 (.ref it) (.ref s2.heap.objs.size) (compEnvC sc cl hp.objs.size X.env)).onRaise fun x=>do noteFrame x (compEnvC sc cl hp.objs.size X.env);theTreesLotGoes x) _ _ s3
  refine wpAny_noted ?_
  rw [compTurn_list]
  have I3':Inv (blk X (own++caps) sc cl { s2 with heap:=hp } H2 hp.objs.size (s2.heap.objs.size::fp)) (pins++[(s2.heap.objs.size,{ cls:=.type "list",data:=.seq its.toArray cap })]) (cS own.length κ σ) H3 s3:=by
   refine I3.pins_of fun p hp=>(List.mem_append.mp hp).elim (fun z=>I3.pin p (List.mem_append_right _ z)) fun z=>?_
   obtain rfl:=List.mem_singleton.mp z
   exact⟨eD3,nD3,hDC,stkD,fun v q=>by cases q⟩
  have fpk:∀{H':Hp},(∀b∈fp,H' b=none)->∀b∈fp,lc (blk X (own++caps) sc cl { s2 with heap:=hp } H2 hp.objs.size (s2.heap.objs.size::fp)) (pins++[(s2.heap.objs.size,{ cls:=.type "list",data:=.seq its.toArray cap })]) H' b:=fun {H'} hn b hb =>
   ⟨hn b hb,by show b≠hp.objs.size;rw [hsz];exact Nat.ne_of_lt (Nat.lt_succ_of_lt (hfp b hb)),stkF b hb,.inl (List.mem_cons_of_mem _ hb),fun x c q=>(f2 b hb).2.2.2.2.1 x c (S.subc q),fun p hp=>by
    rw [<-List.append_assoc] at hp
    rcases List.mem_append.mp hp with z|z
    ·exact(f2 b hb).2.2.2.2.2 p z
    ·obtain rfl:=List.mem_singleton.mp z
     exact Nat.ne_of_gt (hfp b hb)⟩
  rcases turn i n ys H3 w3 with ⟨stop,fin⟩|⟨go,hlt,step⟩
  ·refine wpAny_bind (wpAny_standAt (wpAny_bind (thn (T.done (blk X (own++caps) sc cl { s2 with heap:=hp } H2 hp.objs.size (s2.heap.objs.size::fp)) rfl rfl rfl hcalm i _ s3 _ H3 _ I3' (fpk fr3) st3 stop) fun r s4 ⟨hr,I4⟩=>?_)))
   subst hr
   refine wpAny_pure ?_
   obtain⟨m,hm,_⟩:=I4.loc
   have eD4:=(I4.pin (s2.heap.objs.size,{ cls:=.type "list",data:=.seq its.toArray cap }) (List.mem_append_right _ (List.mem_append_right _ (List.mem_singleton.mpr rfl)))).1
   have I5:Inv X pins σ (upd H3 s2.heap.objs.size (.lst ys)) { s4 with heap:=s4.heap }:=Inv.unblock I2 f2 ehp.symm I4 eD4 nD3 rv hz (Heap.SameBut.refl ..)
   have neL:hp.objs.size≠X.env.locals:=by rw [hsz];exact Nat.ne_of_gt (Nat.lt_succ_of_lt I2.lt)
   have neC:∀x c,X.env.cells.lookup x=some c->c≠hp.objs.size:=fun x c q=>by
    obtain⟨v,z⟩:=I2.cell x c q
    rw [hsz]
    exact Nat.ne_of_lt (Nat.lt_succ_of_lt z.lt)
   have frC:upd H3 s2.heap.objs.size (.lst ys) hp.objs.size=none:=by rw [am (Ne.symm hDC)];exact I4.free
   show wpAny (model X.prog X.w) X.A (assign (.Name y0 py0) X.env (.ref s2.heap.objs.size)) _ X.xe s4
   refine wpAny_assign_Name (iy (v:=.ref s2.heap.objs.size) I5 hN hi0 hy0 rfl (fun s5 I6 ⟨a,sb,ha⟩=>?_) hf0)
   have hCa:hp.objs.size≠a:=by
    rcases ha with ha|ha
    ·rw [ha];exact neL
    ·exact Ne.symm (neC _ _ ha)
   refine⟨m,hm.sameBut sb hCa,fun h' sb'=>⟨_,_,I6.turned (t':=s5.toks) (fun b o hb e=>(sb'.2 b hb).trans e) frC neL (.inr ?_) neC (fun p hp'=>?_),fin _ nD3⟩⟩
   ·exact Nat.le_trans I2.sz (by rw [hsz];exact Nat.le_succ _)
   ·have:=Heap.lt_size (I2.pin p hp').1
    rw [hsz]
    exact Nat.ne_of_lt (Nat.lt_succ_of_lt this)
  ·refine wpAny_bind (wpAny_standAt (wpAny_bind (thn (T.item (blk X (own++caps) sc cl { s2 with heap:=hp } H2 hp.objs.size (s2.heap.objs.size::fp)) rfl rfl rfl hcalm i _ s3 _ H3 _ I3' (fpk fr3) st3 go) fun r s4 ⟨u,hr,h4⟩=>?_)))
   subst hr
   refine wpAny_bind (thn h4 fun _ s5 ⟨x,H5,I5,r5,y5,st5,fr5⟩=>?_)
   have I5':=I5.pinned (fpk fr5) (T.obj _ _ st5)
   refine wpAny_bind (wpAny_mono (hg _ _ _ _ _ s5 _ H5 x u _ I5' r5 (step x H5 y5)) (fun _ s6 ⟨σ6,H6,I6,eσ,q6⟩=>?_) fun _ _ z=>z.elim)
   refine wpAny_bind (wpAny_mono (hc _ _ _ _ _ s6 σ6 H6 _ I6 q6) (fun ok s7 ⟨H7,I7,q7⟩=>?_) fun _ _ z=>z.elim)
   have back:∀{s8:Shared} {H8:Hp},Inv (blk X (own++caps) sc cl { s2 with heap:=hp } H2 hp.objs.size (s2.heap.objs.size::fp)) ((pins++[(s2.heap.objs.size,{ cls:=.type "list",data:=.seq its.toArray cap })])++iH fp s5.heap) σ6 H8 s8 ->
     Inv (blk X (own++caps) sc cl { s2 with heap:=hp } H2 hp.objs.size (s2.heap.objs.size::fp)) pins (cS own.length κ σ) H8 s8/\tn (i+1) s8.heap/\(∀b∈fp,H8 b=none)/\s8.heap.get? s2.heap.objs.size=some { cls:=.type "list",data:=.seq its.toArray cap }/\H8 s2.heap.objs.size=none:=by
    intro s8 H8 I8
    have pk:∀b∈fp,∀o,s5.heap.get? b=some o->s8.heap.get? b=some o/\H8 b=none:=fun b hb o e=>by
     have z:=I8.pin (b,o) (List.mem_append_right _ (List.mem_append_right _ (dP hb e)))
     exact⟨z.1,z.2.1⟩
    have zD:=I8.pin (s2.heap.objs.size,{ cls:=.type "list",data:=.seq its.toArray cap }) (List.mem_append_right _ (List.mem_append_left _ (List.mem_append_right _ (List.mem_singleton.mpr rfl))))
    refine⟨(I8.pins_of fun p hp=>I8.pin p (List.mem_append_right _ (List.mem_append_left _ (List.mem_append_left _ hp)))).weak ?_ fun j v e=>?_,T.keep _ _ _ st5 fun b hb o e=>(pk b hb o e).1,fun b hb=>?_,zD.1,zD.2.1⟩
    ·exact I3.len.trans I8.len.symm
    ·have hge:own.length<=j:=by
      refine Nat.le_of_not_lt fun q=>?_
      unfold cS at e
      rw [List.getElem?_append_left (by rw [List.length_replicate];exact q),List.getElem?_replicate,if_pos q] at e
      cases e
     have z:=congrArg (fun l=>l[j - own.length]?) eσ
     simp only [List.getElem?_drop] at z
     rw [show own.length+(j - own.length)=j by omega] at z
     rw [z]
     exact e
    ·obtain⟨o,e,_⟩:=T.obj _ _ st5 b hb
     exact(pk b hb o e).2
   cases ok with
   |false =>
    obtain⟨m',hm,w7⟩:=(if_neg Bool.false_ne_true)▸q7
    obtain⟨I8,st8,fr8,e8,n8⟩:=back I7
    exact wpAny_pure ⟨rfl,m',hm,i+1,ys,its,cap,H7,I8,st8,fr8,e8,n8,rv,hz,w7⟩
   |true =>
    have q7':=(if_pos rfl)▸q7
    refine wpAny_bind (wpAny_bind (wpAny_mono (he _ _ _ _ _ s7 σ6 H7 _ I7 q7') (fun y s8 ⟨v8,H8,I8,r8,m',hm,w8⟩=>?_) fun _ _ z=>z.elim))
    obtain⟨I9,st9,fr9,e9,n9⟩:=back I8
    have hl:=rv.length
    refine wpAny_bind (wpAny_list_append_plain (items:=its.toArray) ⟨cap,e9⟩ (fun h' hl' sb=>?_) (by rw [List.size_toArray,<-hl];exact hz))
    obtain⟨cap',e'⟩:=hl'
    refine wpAny_pure (wpAny_pure ⟨rfl,m',hm,i+1,ys++[v8],its++[y],cap',H8,?_,?_,fr9,?_,n9,bg.append rv (.cons r8 .nil),?_,w8⟩)
    ·exact I9.turned (t':=s8.toks) (fun b o hb e=>(sb.2 b hb).trans e) n9 hDC (.inl List.mem_cons_self) cellD pinD
    ·exact T.keep _ _ _ st9 fun b hb o e=>(sb.2 b (Nat.ne_of_lt (hfp b hb))).trans e
    ·rw [e']
     congr 3
     simp
    ·rw [List.length_append]
     exact hlt
 exact codeAny_compStart_list loop (T.self _ 0 _ _ _ (T.keep _ _ _ st2 fun b hb o e=>old _ _ (by rw [<-ehp];exact Heap.get?_push_of_some _ e)) loop)
theorem vS{i0:Nat}{y0:Str}{py0 spos:Pos}{tg elt iter:Expr}{own caps:List Str}{κ:List Nat}{sc:Scope}{cl:List (Str × Addr)}{pos:Pos}{wi:TI}{g:TG}{te:TE}(hN:X.N.Nodup)(hi0:X.N[i0]?=some y0)(hy0:Loc X.env.scope y0)(hcalm:X.calm=true)(S:iA X caps sc cl)(hκ:κ.map (fun k=>X.N[k]?)=caps.map some)
  (hi:PI X tg iter wi) (hg:∀s₀ H₀ C ex,PG (blk X (own++caps) sc cl s₀ H₀ C ex) tg g) (he:∀s₀ H₀ C ex,PE (blk X (own++caps) sc cl s₀ H₀ C ex) elt te)
  (hs:∀x,foldedSetIterable iter X.env x=pure x:=by intro _;rfl) (hsw:swapsWith (.ListComp elt [⟨tg,iter,[],0⟩] sc pos) (some (.Name y0 py0)) spos.line X.env=pure true:=by rfl)
  (hf0:X.fn y0=true\/X.env.scope.names.lookup y0=some .local:=by first|exact .inl rfl|exact .inr rfl|assumption) :
  PS X (.Assign [.Name y0 py0] (.ListComp elt [⟨tg,iter,[],0⟩] sc pos) spos) (vV (oI own.length κ wi g vW te) (fJ i0)) :=
 sJ hN hi0 hy0 hcalm S hκ hi hg (fun s₀ H₀ C ex pins s σ H Q I h=>wpAny_tests_nil ⟨H,I,h⟩) he hs hsw hf0
end
section
variable{X:Cx}{pins:List (Addr × Obj)}{σ:St}{H:Hp}{s:Shared}{h':Heap}
theorem Inv.turned2{t':Nat}{e j p:Addr}{o:HO}(I:Inv X pins σ H s)(k:∀b ob,b≠e->b≠j->s.heap.get? b=some ob->h'.get? b=some ob)(fe:lc X pins H e)(fj:lc X pins H j)(hp:s.heap.objs.size<=p)
  (new:cG X.prog X.w (upd H p o) h' p o):Inv X pins σ (upd H p o) { s with heap:=h',toks:=t' }:=by
 have hn:H p=none:=I.hok.fresh hp
 have nn:∀b u,H b=some u->b≠e/\b≠j:=fun b u q=>⟨fun z=>(by rw [z,fe.1] at q;cases q),fun z=>(by rw [z,fj.1] at q;cases q)⟩
 have nc:∀b,b∉[e,j]->b≠e/\b≠j:=fun b hb=>⟨fun z=>hb (by simp [z]),fun z=>hb (by simp [z])⟩
 have lt:∀b ob,s.heap.get? b=some ob->b≠p:=fun b ob q z=>absurd (Nat.lt_of_lt_of_le (Heap.lt_size q) (by rw [z];exact hp)) (Nat.lt_irrefl _)
 refine I.step (g':=s.gens) (d':=s.drawn) (ch:=[e,j]) (fun b hb=>?_) (fun b ob _ _ hc q _=>k b ob (nc b hc).1 (nc b hc).2 q) (fun b ob _ _ hc q _=>⟨ob.slots,k b ob (nc b hc).1 (nc b hc).2 q⟩) (fun b ob hc q n=>by rw [am (lt b ob q)];exact n)
  (fun b ob hc q=>⟨ob,k b ob (nc b hc).1 (nc b hc).2 q⟩) (fun b xs q=>by rw [am (ax q hn)];exact q) (fun b ob u q=>by rw [am (ax q hn)];exact q) (fun b ps q=>⟨#[],by rw [am (ax q hn),q];simp⟩) (fun m hm=>?_) (fun b u q=>?_) I.bare
 ·rcases List.mem_cons.mp hb with rfl|hb
  ·exact⟨fe.2.2.2.1,fe.2.1,fe.2.2.2.2.1,fe.2.2.2.2.2⟩
  ·obtain rfl:=List.mem_singleton.mp hb
   exact⟨fj.2.2.2.1,fj.2.1,fj.2.2.2.2.1,fj.2.2.2.2.2⟩
 ·obtain⟨ob,es,ep,q,r⟩:=hm
  exact⟨ob,es,ep,k _ ob (Ne.symm fe.2.1) (Ne.symm fj.2.1) q,r⟩
 ·by_cases hb:b=p
  ·subst hb
   rw [ac] at q
   cases q
   exact new
  ·rw [am hb] at q
   refine(I.hok b u q).stay (fun c v hc z=>?_) (fun c z=>by rw [am (ax z hn)];exact z) fun c xs z=>by rw [am (ax z hn)];exact z
   rcases hc with hc|hc
   ·rw [hc] at z ⊢
    exact k b v (nn b u q).1 (nn b u q).2 z
   ·exact k c v (nn c _ hc).1 (nn c _ hc).2 z
end
section
variable{X:Cx}{tg:Expr}
end
section
variable{prog:Program}{w:World}{A:Around}{E:Value->Shared->Prop}{s:Shared}
theorem om{j t:Addr}{n:Nat}{its:Array Value}{v:Value}{Q:Value->Shared->Prop}(hj:s.heap.IsTupleIter j t n)(ht:s.heap.IsTuple t its)(hv:its[n]?=some v)
  (q:∀h',h'.IsTupleIter j t (n+1)->Heap.SameBut j s.heap h'->Q v { s with heap:=h' }):wpAny (model prog w) A (Builtin.SmallTypes.nextOf (.ref j)) Q E s:=by
 obtain⟨oj,ej,cj,dj⟩:=id hj
 obtain⟨ot,et,_,nt,dt⟩:=ht
 unfold Builtin.SmallTypes.nextOf
 refine wpAny_bind (wpAny_callSpecial?_slot (name:=Str.ofString "__next__") hj.typeIs F.slot_tuple_iterator_next (wpAny_call_entry F.slot_tuple_iterator_next hj.typeIs F.entry_tuple_iterator_next ?_ (F.args_tuple_iterator_next_1 _)))
 show wpAny _ _ (field (.ref j) 0 >>= _) _ _ s
 refine wpAny_bind (wpAny_field ej dj (x:=.ref t) rfl ?_)
 show wpAny _ _ (if (Value.ref t==Value.none)=true then _ else _) _ _ _
 rw [if_neg (show ¬(Value.ref t==Value.none)=true from Bool.false_ne_true)]
 show wpAny _ _ (field (.ref j) 1 >>= _) _ _ s
 refine wpAny_bind (wpAny_field ej dj (x:=.int n 0) rfl ?_)
 show wpAny _ _ (seqItems? (.ref t) >>= _) _ _ _
 refine wpAny_bind (wpAny_seqItems et dt ?_)
 simp only [Int.toNat_natCast,hv]
 refine wpAny_bind (wpAny_setField ej dj (by simp) (wpAny_pure ⟨v,rfl,wpAny_pure (q _ ?_ (Heap.SameBut.update ..))⟩))
 exact⟨_,Heap.get?_update_self _ ej (Obj.isFreed_of_fields (Obj.data_mapFields dj _)),(Obj.cls_mapFields ..).trans cj,by rw [Obj.data_mapFields dj];simp [rawInt]⟩
theorem pQ{j t:Addr}{n:Nat}{its:Array Value}{Q:Value->Shared->Prop}(hh:A.handled=none)(hj:s.heap.IsTupleIter j t n)(ht:s.heap.IsTuple t its)(hv:its[n]?=none)
  (q:∀h' e,Heap.ExtBut j s.heap h'->(∃o,h'.get? e=some o/\o.cls=.type "StopIteration")->E (.ref e) { s with heap:=h' }):wpAny (model prog w) A (Builtin.SmallTypes.nextOf (.ref j)) Q E s:=by
 obtain⟨oj,ej,cj,dj⟩:=id hj
 obtain⟨ot,et,_,nt,dt⟩:=ht
 unfold Builtin.SmallTypes.nextOf
 refine wpAny_bind (wpAny_callSpecial?_slot (name:=Str.ofString "__next__") hj.typeIs F.slot_tuple_iterator_next (wpAny_call_entry F.slot_tuple_iterator_next hj.typeIs F.entry_tuple_iterator_next ?_ (F.args_tuple_iterator_next_1 _)))
 show wpAny _ _ (field (.ref j) 0 >>= _) _ _ s
 refine wpAny_bind (wpAny_field ej dj (x:=.ref t) rfl ?_)
 show wpAny _ _ (if (Value.ref t==Value.none)=true then _ else _) _ _ _
 rw [if_neg (show ¬(Value.ref t==Value.none)=true from Bool.false_ne_true)]
 show wpAny _ _ (field (.ref j) 1 >>= _) _ _ s
 refine wpAny_bind (wpAny_field ej dj (x:=.int n 0) rfl ?_)
 show wpAny _ _ (seqItems? (.ref t) >>= _) _ _ _
 refine wpAny_bind (wpAny_seqItems et dt ?_)
 simp only [Int.toNat_natCast,hv]
 refine wpAny_bind (wpAny_rule (wpAny_bind (wpAny_setField ej dj (by simp) ?_)))
 refine wpAny_bind (m:=newExc (.type "StopIteration") []) ?_
 simp only [newExc,newTuple]
 refine wpAny_bind (wpAny_newObj_type (wpAny_bind (m:=firstArgMember _ _) (wpAny_of_eq (a:=Value.none) (by first|rfl|(simp only [firstArgMember];rfl)) (wpAny_newObj_type ?_ (by size_fits)))) (by size_fits))
 simp only [raiseNew]
 refine wpAny_bind (wpAny_handled ?_)
 first|rw [show A.in1.handled=none from hh]|rw [hh]
 exact wpAny_bind (wpAny_pure (wpAny_throw (q _ _ (((Heap.SameBut.update ..).extBut.push _).push _) ⟨_,Heap.get?_push_size _ rfl,rfl⟩)))
open AutoSeq1 (wpAny_loadPart') in
end
section
variable{X:Cx}
end
theorem rN{P:Program}{w:World}{k:Key}{u:Value}(h:(aS P w).is k u=true):br (kV k) u:=by
 rw [nX] at h
 rcases bp h with ⟨i,t,rfl,rfl⟩|⟨x,t,rfl,rfl⟩
 ·exact⟨t,rfl⟩
 ·exact⟨t,rfl⟩
section
variable{X:Cx}{pins:List (Addr × Obj)}{σ:St}{H H':Hp}{s:Shared}{h':Heap}
end
theorem cz{α β:Type}{F:α->β->Prop}:∀{as:List α} {bs:List β},Paired F as bs->∀{j:Nat} {a:α},as[j]?=some a->∃b,bs[j]?=some b/\F a b
 |_,_,.nil,j,a,h=>by simp at h
 |_,_,.cons x t,0,a,h=>by
  simp at h
  subst h
  exact⟨_,rfl,x⟩
 |_,_,.cons x t,j+1,a,h=>by
  simp at h
  obtain⟨b,hb,r⟩:=cz t h
  exact⟨b,by simpa using hb,r⟩
section
variable{X:Cx}
end
section
variable{X:Cx}{pins:List (Addr × Obj)}{σ:St}{H:Hp}{s:Shared}{d:Addr}{o:Obj}{u:HO}
theorem Inv.thaw(I:Inv X pins σ H s)(e:H d=some (.frz o u))(h0:∀o' u',X.H₀ d≠some (.frz o' u')):Inv X pins σ (upd H d u) s:=by
 have nd:∀b,H b=none->b≠d:=fun b n z=>by rw [z,e] at n;cases n
 have no:∀b v,H b=some v->(∀o u,v≠.frz o u)->b≠d:=fun b v q n z=>by rw [z,e] at q;cases q;exact n _ _ rfl
 refine⟨I.ok,I.os,I.bare,⟨I.base.keep,I.base.slot,fun b ob q n hx=>?_,I.base.there,fun b xs q=>?_,fun b ob v q=>?_,fun b ps q=>?_⟩,I.loc,I.cell,?_,fun x c q=>?_,fun p hp=>?_,fun b v q=>?_,I.len⟩
 ·have z:=I.base.free b ob q n hx
  rw [am (nd b z)]
  exact z
 ·have z:=I.base.tups b xs q
  rw [am (no b _ z (fun _ _=>nofun))]
  exact z
 ·have z:=I.base.frzs b ob v q
  rw [am (fun w=>h0 ob v (by rw [<-w];exact q))]
  exact z
 ·obtain⟨more,z⟩:=I.base.tbls b ps q
  exact⟨more,by rw [am (no b _ z (fun _ _=>nofun))];exact z⟩
 ·rw [am (nd _ I.free)]
  exact I.free
 ·rw [am (nd _ (I.freeC x c q))]
  exact I.freeC x c q
 ·obtain⟨h1,h2,h3⟩:=I.pin p hp
  exact⟨h1,by rw [am (nd _ h2)];exact h2,h3⟩
 ·have own:∀a b,H b=some (.own a)->upd H d u b=some (.own a):=fun a b z=>by rw [am (no b _ z (fun _ _=>nofun))];exact z
  have tup:∀b (xs:FxO),H b=some xs.ho->upd H d u b=some xs.ho:=fun b xs z=>by rw [am (no b _ z (by cases xs<;>exact(fun _ _=>nofun)))];exact z
  by_cases hb:b=d
  ·subst hb
   rw [ac] at q
   cases q
   exact(I.hok b _ e).2.stay (fun _ _ _ z=>z) (own b) tup
  ·rw [am hb] at q
   exact(I.hok b v q).stay (fun _ _ _ z=>z) (own b) tup
end
def yy(H₀:Hp)(D:fG):fG where
 nx:=fun σ H=>∃d o u,H d=some (.frz o u)/\(∀o' u',H₀ d≠some (.frz o' u'))/\D.nx σ (upd H d u)
 rt:=fun v H=>∃d o u,H d=some (.frz o u)/\(∀o' u',H₀ d≠some (.frz o' u'))/\D.rt v (upd H d u)
 bk:=D.bk
 ct:=D.ct
theorem pI{X:Cx}{st:Stmt}{t:TS}(h:PS X st t):PS X st (fun D σ H=>t (yy X.H₀ D) σ H):=by
 intro pins s σ H D I q
 refine thn (h pins s σ H _ I q) fun f s1 z=>?_
 cases f with
 |next =>
  obtain⟨σ',H',I',d,o,u,e,h0,q'⟩:=z
  exact⟨σ',_,I'.thaw e h0,q'⟩
 |ret v =>
  obtain⟨σ',x,H',I',r,d,o,u,e,h0,q'⟩:=z
  exact⟨σ',x,_,I'.thaw e h0,r,q'⟩
 |brk=>exact z
 |cont=>exact z
def Itd(d:Addr)(o:Obj)(kvs:List (Key × V)):It :=
 ⟨fun i H=>H d=some (.frz o (.dK kvs))/\i < kvs.length,fun i H x H'=>∃a p,H a=none/\x=.ref a/\H'=upd H a (.tup [kV p.1,p.2])/\kvs[i]?=some p,fun i H=>H d=some (.frz o (.dK kvs))/\kvs.length<=i⟩
theorem oq{P:Program}{w:World}{K:W.Frag}{es:List Expr}{k:Nat}{pos:Pos}{d it:Addr}{o:Obj}{kvs:List (Key × V)}{ys:List (Key × Value)}{ep:Nat}(rel:KV kvs ys)(hat:∀h:Heap,h.get? d=some o->h.DictAt (aS P w) d ys ep) :
  vK P w K (.Tuple es k pos) (Itd d o kvs) [it] it (fun i h=>∃ok ov,IsItemIter h it d i ys.length ep ok ov) where
 mem:=by simp
 obj:=fun i h st b hb=>by
  obtain rfl:b=it:=by simpa using hb
  obtain⟨ok,ov,e⟩:=st
  exact⟨_,e,fun v z=>by cases z⟩
 keep:=fun i h h' st k=>by
  obtain⟨ok,ov,e⟩:=st
  exact⟨ok,ov,k it (by simp) _ e⟩
 item:=by
  intro X hP hw hK hc i pins s σ H E I hf st hg
  subst hP hw hK
  obtain⟨ok,ov,st⟩:=st
  obtain⟨hd,hi⟩:=hg
  have fe:=hf it (by simp)
  obtain⟨f0,f1,f2,f3,f4,f5⟩:=id fe
  have ex:kvs[i]?=some kvs[i]:=List.getElem?_eq_getElem hi
  obtain⟨⟨k1,y⟩,hy,ek,ry⟩:=cz rel ex
  replace ek:kvs[i].1=k1:=ek
  replace ry:br kvs[i].2 y:=ry
  have lt:it < s.heap.objs.size:=Heap.lt_size st
  refine wpAny_pyNext_items_item st (hat _ (I.hok d _ hd).1) hy fun key h1 hkey io t1 hz k1'=>⟨_,rfl,?_⟩
  refine wpAny_letOwnedTupleGo_items io fun h2 i2 b2=>?_
  have t2:h2.get? s.heap.objs.size=some { cls:=.type "tuple",data:=.seq #[key,y] }:=(b2.2 _ (Nat.ne_of_gt lt)).trans t1
  have hn:H s.heap.objs.size=none:=I.hok.fresh (Nat.le_refl _)
  have I2:Inv X pins σ (upd H s.heap.objs.size (.tup [kV kvs[i].1,kvs[i].2])) { s with heap:=h2 } :=
   I.turned2 (t':=s.toks) (e:=it) (j:=it) (fun b ob x1 _ z=>(b2.2 b x1).trans (k1' b ob x1 z)) fe fe (Nat.le_refl _) ⟨by show 2<=sizeLine;decide,[key,y],.cons (by rw [ek];exact rN hkey) (.cons ry .nil),_,t2,rfl,_,rfl⟩
  refine⟨.ref s.heap.objs.size,_,I2,rfl,⟨_,kvs[i],hn,rfl,rfl,ex⟩,⟨_,_,i2⟩,fun b hb=>?_⟩
  obtain rfl:b=it:=by simpa using hb
  rw [am (Nat.ne_of_lt lt)]
  exact f0
 done:=by
  intro X hP hw hK hc i pins s σ H E I hf st hg
  subst hP hw hK
  obtain⟨ok,ov,st⟩:=st
  obtain⟨hd,hi⟩:=hg
  obtain⟨f0,f1,f2,f3,f4,f5⟩:=hf it (by simp)
  have hl:kvs.length=ys.length:=rel.length
  exact wpAny_pyNext_items_end (I.ok.hd hc) st (hat _ (I.hok d _ hd).1) (List.getElem?_eq_none (by omega)) fun h' eb=>⟨rfl,I.turned (t':=s.toks) (fun b o hb q=>eb b o hb q) f0 f1 f3 f4 f5⟩
 self:=fun _ _ _ _ _ st h=>by
  obtain⟨ok,ov,st⟩:=st
  exact W.kcp_self st h
section
variable{X:Cx}
def wE(to:TE):TI:=fun σ H R=>to σ H fun x H1=>∃d kvs,x=.ref d/\H1 d=some (.dK kvs)/\∀o,R (Itd d o kvs) (upd H1 d (.frz o (.dK kvs)))
theorem nG{o:Expr}{to:TE}{es:List Expr}{k:Nat}{tp apos cpos:Pos}(ho:PE X o to) (hbase:attributeBase o "items" X.env (eval o X.env)=eval o X.env:=by rfl) (hline:(apos.endLine==cpos.line)=true:=by rfl) :
  PI X (.Tuple es k tp) (.Call (.Attribute o "items" apos) [] [] cpos) (wE to):=by
 intro pins s σ H R I h
 refine wpAny_Call_method0_late hbase hline (thn (ho pins s σ H _ I h) fun v s1 ⟨x,H1,I1,r1,d,kvs,ex,hd,q⟩=>?_)
 subst ex
 obtain⟨h1,h2⟩:=qJ (T:="dict") I1 r1 (.inr (.inr (.inl ⟨rfl,.inl ⟨kvs,hd⟩⟩)))
 cases r1
 obtain⟨z,hs,ys,rel,dd⟩:=jY I1.hok hd
 refine⟨"dict","dict.items",PySem.F.plainAttrs_dict,PySem.F.slot_dict_items,PySem.F.type_dict_items,h1,h2,Calls.callWith_builtin rfl (PySem.evalArgs_none (call_meetsIn PySem.F.slot_dict_items dd.typeIs PySem.F.entry_dict_items (PySem.F.args_dict_items_1 _) (meets_dict_items (aS X.prog X.w) d hs) ⟨⟨ys,dd⟩,?_⟩))⟩
 have hv:(s1.heap.push { cls:=.type "dict_items",data:=.fields #[.ref d] }).IsItemsView s1.heap.objs.size d:=⟨_,Heap.get?_push_size _ rfl,rfl,rfl⟩
 obtain⟨ep,ob,en,e1,r1⟩:=dd.dictAt
 have hat:∀h:Heap,h.get? d=some ob->h.DictAt (aS X.prog X.w) d ys ep:=fun h e=>⟨ob,en,e,r1⟩
 refine wpAny_pyIter_items (s:={ s1 with heap:=s1.heap.push { cls:=.type "dict_items",data:=.fields #[.ref d] } }) hv (hat _ (Heap.get?_push_of_some _ e1)) ?_
 have hd2:((s1.heap.push { cls:=.type "dict_items",data:=.fields #[.ref d] }).push { cls:=.type "dict_itemiterator",data:=.fields #[.none,.bool false,.ref d,.int 0 0,.int ys.length 0,.int ep 0,.none,.none] }).get? d=some ob:=Heap.get?_push_of_some _ (Heap.get?_push_of_some _ e1)
 have I2:=I1.kept (t':=s1.toks) (h':=(s1.heap.push { cls:=.type "dict_items",data:=.fields #[.ref d] }).push { cls:=.type "dict_itemiterator",data:=.fields #[.none,.bool false,.ref d,.int 0 0,.int ys.length 0,.int ep 0,.none,.none] }) fun b u e=>Heap.get?_push_of_some _ (Heap.get?_push_of_some _ e)
 have I3:=I2.write (x:=d) (e:=d) (o:=.frz ob (.dK kvs)) (t':=s1.toks) (h':=(s1.heap.push { cls:=.type "dict_items",data:=.fields #[.ref d] }).push { cls:=.type "dict_itemiterator",data:=.fields #[.none,.bool false,.ref d,.int 0 0,.int ys.length 0,.int ep 0,.none,.none] }) (by rw [hd];trivial) (.inl rfl) (fun _ _ _ e=>e) ⟨ob,hd2⟩
  ⟨hd2,z,hs,ys,rel,dd.at fun o e=>Heap.get?_push_of_some _ (Heap.get?_push_of_some _ e)⟩
 have hn:H1 ((s1.heap.push { cls:=.type "dict_items",data:=.fields #[.ref d] }).objs.size)=none:=I1.hok.fresh (by rw [Heap.size_push];exact Nat.le_succ _)
 refine⟨_,[(s1.heap.push { cls:=.type "dict_items",data:=.fields #[.ref d] }).objs.size],_,_,_,rfl,I3,oq rel hat,⟨_,_,Heap.get?_push_size _ rfl⟩,fun b hb=>?_,q ob⟩
 obtain rfl:b=(s1.heap.push { cls:=.type "dict_items",data:=.fields #[.ref d] }).objs.size:=by simpa using hb
 refine I1.fpOk (by rw [Heap.size_push];exact Nat.le_succ _) ?_
 rw [am (fun e=>by rw [e,hd] at hn;cases hn)]
 exact hn
end
theorem kQ{d:Addr}{o:Obj}{kvs:List (Key × V)}{g:TG}{tb:TS}{D:fG}{σ:St}{H:Hp}(Pv:Nat->St->Hp->Prop)(h0:Pv 0 σ H)(hl:∀i σ H,i<=kvs.length->Pv i σ H->H d=some (.frz o (.dK kvs)))
  (hs:∀i p a σ H,kvs[i]?=some p->H a=none->Pv i σ H->g (.ref a) σ (upd H a (.tup [kV p.1,p.2])) fun σ2 H2=>tb { D with nx:=Pv (i+1),ct:=Pv (i+1),bk:=D.nx } σ2 H2) (hd:∀σ H,Pv kvs.length σ H->D.nx σ H) :
  ∃W:Nat->Nat->St->Hp->Prop,(∃m,W 0 m σ H)/\∀i m σ H,W i m σ H ->
   ((Itd d o kvs).stop i H/\D.nx σ H)\/((Itd d o kvs).go i H/\∃N:St->Hp->Prop,(∀σ' H',N σ' H'->∃m',m' < m/\W (i+1) m' σ' H')/\∀x H',(Itd d o kvs).yld i H x H'->g x σ H' fun σ2 H2=>tb { D with nx:=N,ct:=N,bk:=D.nx } σ2 H2):=by
 refine⟨fun i m σ H=>m=kvs.length - i/\i<=kvs.length/\Pv i σ H,⟨kvs.length,by simp,Nat.zero_le _,h0⟩,?_⟩
 rintro i m σ H ⟨rfl,hi,p⟩
 have q:=hl i σ H hi p
 by_cases hlt:i < kvs.length
 ·refine .inr ⟨⟨q,hlt⟩,Pv (i+1),fun σ' H' p'=>⟨kvs.length - (i+1),by omega,rfl,hlt,p'⟩,fun x H' y=>?_⟩
  obtain⟨b,z,hb,rfl,rfl,hz⟩:=y
  exact hs i z b σ H hz hb p
 ·obtain rfl:i=kvs.length:=by omega
  exact .inl ⟨⟨q,Nat.le_refl _⟩,hd σ H p⟩
section
variable{X:Cx}{tg:Expr}
def Itk(d:Addr)(o:Obj)(kvs:List (Key × V)):It :=
 ⟨fun i H=>H d=some (.frz o (.dK kvs))/\i < kvs.length,fun i H x H'=>H'=H/\∃p,kvs[i]?=some p/\x=kV p.1,fun i H=>H d=some (.frz o (.dK kvs))/\kvs.length<=i⟩
theorem oR{P:Program}{w:World}{K:W.Frag}{tg:Expr}{d it:Addr}{o:Obj}{kvs:List (Key × V)}{ys:List (Key × Value)}{ep:Nat}(rel:KV kvs ys)(hat:∀h:Heap,h.get? d=some o->h.DictAt (aS P w) d ys ep) :
  vK P w K tg (Itk d o kvs) [it] it (fun i h=>h.IsKeyIter it d i ys.length ep) where
 mem:=by simp
 obj:=fun i h st b hb=>by
  obtain rfl:b=it:=by simpa using hb
  obtain⟨o,e,c,hd⟩:=st
  exact⟨o,e,fun v z=>by rw [hd] at z;cases z⟩
 keep:=fun i h h' st k=>by
  obtain⟨o,e,r⟩:=st
  exact⟨o,k it (by simp) _ e,r⟩
 item:=by
  intro X hP hw hK hc i pins s σ H E I hf st hg
  subst hP hw hK
  obtain⟨hd,hi⟩:=hg
  obtain⟨f0,f1,f2,f3,f4,f5⟩:=hf it (by simp)
  have ex:kvs[i]?=some kvs[i]:=List.getElem?_eq_getElem hi
  obtain⟨⟨k1,y⟩,hy,ek,ry⟩:=cz rel ex
  replace ek:kvs[i].1=k1:=ek
  refine wpAny_pyNext_dict_item st (hat _ (I.hok d _ hd).1) hy fun key h' hkey st' sb=>?_
  have I1:Inv X pins σ H { s with heap:=h' }:=I.turned (t':=s.toks) (fun b o hb e=>(sb.2 b hb).trans e) f0 f1 f3 f4 f5
  obtain⟨o',e,c,dt⟩:=id st'
  exact⟨key,rfl,tm (s:={ s with heap:=h' }) e c dt (by decide) ⟨kV kvs[i].1,H,I1,by rw [ek];exact rN hkey,⟨rfl,_,ex,rfl⟩,st',fun b hb=>(hf b hb).1⟩⟩
 done:=by
  intro X hP hw hK hc i pins s σ H E I hf st hg
  subst hP hw hK
  obtain⟨hd,hi⟩:=hg
  obtain⟨f0,f1,f2,f3,f4,f5⟩:=hf it (by simp)
  have hl:kvs.length=ys.length:=rel.length
  exact wpAny_pyNext_dict_end (I.ok.hd hc) st (hat _ (I.hok d _ hd).1) (List.getElem?_eq_none (by omega)) fun h' eb=>⟨rfl,I.turned (t':=s.toks) (fun b o hb q=>eb b o hb q) f0 f1 f3 f4 f5⟩
 self:=fun _ _ _ _ _ st h=>wpAny_pyIter_keyiter st h
def yv(to:TE):TI:=fun σ H R=>to σ H fun x H1=>∃d kvs,x=.ref d/\H1 d=some (.dK kvs)/\∀o,R (Itk d o kvs) (upd H1 d (.frz o (.dK kvs)))
theorem vL{o:Expr}{to:TE}(ho:PE X o to):PI X tg o (yv to):=by
 intro pins s σ H R I h
 refine thn (ho pins s σ H _ I h) fun v s1 ⟨x,H1,I1,r1,d,kvs,ex,hd,q⟩=>?_
 subst ex
 cases r1
 obtain⟨z,hs,ys,rel,dd⟩:=jY I1.hok hd
 obtain⟨ep,ob,en,e1,r1⟩:=dd.dictAt
 have hat:∀h:Heap,h.get? d=some ob->h.DictAt (aS X.prog X.w) d ys ep:=fun h e=>⟨ob,en,e,r1⟩
 refine wpAny_pyIter_dict hs (hat _ e1) ?_
 have hd2:(s1.heap.push { cls:=.type "dict_keyiterator",data:=.fields #[.ref d,.int 0 0,.int ys.length 0,.int ep 0] }).get? d=some ob:=Heap.get?_push_of_some _ e1
 have I2:=I1.kept (t':=s1.toks) (h':=s1.heap.push { cls:=.type "dict_keyiterator",data:=.fields #[.ref d,.int 0 0,.int ys.length 0,.int ep 0] }) fun b u e=>Heap.get?_push_of_some _ e
 have I3:=I2.write (x:=d) (e:=d) (o:=.frz ob (.dK kvs)) (t':=s1.toks) (h':=s1.heap.push { cls:=.type "dict_keyiterator",data:=.fields #[.ref d,.int 0 0,.int ys.length 0,.int ep 0] }) (by rw [hd];trivial) (.inl rfl) (fun _ _ _ e=>e) ⟨ob,hd2⟩
  ⟨hd2,z,hs,ys,rel,dd.at fun o e=>Heap.get?_push_of_some _ e⟩
 have hn:H1 s1.heap.objs.size=none:=I1.hok.fresh (Nat.le_refl _)
 refine⟨_,[s1.heap.objs.size],_,_,_,rfl,I3,oR rel hat,⟨_,Heap.get?_push_size _ rfl,rfl,rfl⟩,fun b hb=>?_,q ob⟩
 obtain rfl:b=s1.heap.objs.size:=by simpa using hb
 refine I1.fpOk (Nat.le_refl _) ?_
 rw [am (fun e=>by rw [e,hd] at hn;cases hn)]
 exact hn
end
theorem sC{d:Addr}{o:Obj}{kvs:List (Key × V)}{g:TG}{tb:TS}{D:fG}{σ:St}{H:Hp}(Pv:Nat->St->Hp->Prop)(h0:Pv 0 σ H)(hl:∀i σ H,i<=kvs.length->Pv i σ H->H d=some (.frz o (.dK kvs)))
  (hs:∀i p σ H,kvs[i]?=some p->Pv i σ H->g (kV p.1) σ H fun σ2 H2=>tb { D with nx:=Pv (i+1),ct:=Pv (i+1),bk:=D.nx } σ2 H2) (hd:∀σ H,Pv kvs.length σ H->D.nx σ H) :
  ∃W:Nat->Nat->St->Hp->Prop,(∃m,W 0 m σ H)/\∀i m σ H,W i m σ H ->
   ((Itk d o kvs).stop i H/\D.nx σ H)\/((Itk d o kvs).go i H/\∃N:St->Hp->Prop,(∀σ' H',N σ' H'->∃m',m' < m/\W (i+1) m' σ' H')/\∀x H',(Itk d o kvs).yld i H x H'->g x σ H' fun σ2 H2=>tb { D with nx:=N,ct:=N,bk:=D.nx } σ2 H2):=by
 refine⟨fun i m σ H=>m=kvs.length - i/\i<=kvs.length/\Pv i σ H,⟨kvs.length,by simp,Nat.zero_le _,h0⟩,?_⟩
 rintro i m σ H ⟨rfl,hi,p⟩
 have q:=hl i σ H hi p
 by_cases hlt:i < kvs.length
 ·refine .inr ⟨⟨q,hlt⟩,Pv (i+1),fun σ' H' p'=>⟨kvs.length - (i+1),by omega,rfl,hlt,p'⟩,fun x H' y=>?_⟩
  obtain⟨rfl,z,hz,rfl⟩:=y
  exact hs i z σ _ hz p
 ·obtain rfl:i=kvs.length:=by omega
  exact .inl ⟨⟨q,Nat.le_refl _⟩,hd σ H p⟩
section
variable{X:Cx}
end
section
variable{X:Cx}{K:W.Frag}
end
def wV(K:W.Frag)(C:Addr)(bmB:List Value)(newId:String):Bool:=match K.lookup C with|some ⟨.type "type",_,.cls cd,sl⟩=>(match cd.mro,sl.toList with|.ref C'::bm,[_,_,_,_,some (.builtin n),_]=>C'==C&&n==newId&&!cd.hasDel&&W.tailIn K bmB bm|_,_=>false)|_=>false
structure AJ(h:Heap)(C:Addr)(bmB:List Value)(newId:String):Prop where
 obj:∃bm N nm q bs hdct sn sub ab col dd k0 k1 k2 k3 k5,h.get? C=some (excClassObj nm q C N bs bm hdct sn sub ab col dd k0 k1 k2 k3 k5 newId)/\OwnTail h bmB bm
section
variable{prog:Program}{w:World}{A:Around}{E:Value->Shared->Prop}{h:Heap}{g:Array GenState}{d:Drawn}{t:Nat}{os:OsState}{K:W.Frag}{C fI:Addr}{us:List Value}
end
section
variable{prog:Program}{w:World}{A:Around}{E:Value->Shared->Prop}{s:Shared}{env:Env}{K:W.Frag}{C fI:Addr}
end
section
variable{X:Cx}{pins:List (Addr × Obj)}{σ:St}{H:Hp}{s:Shared}{x:Addr}
end
section
variable{P:Program}{w:World}{K:W.Frag}{mg:Str->Option Value}{base:Heap}
structure MkX(K:W.Frag)(C fI:Addr):Prop where
 ex:wV K C iM "ValueError.__new__"=true
 init:W.findIn K (.ref C) "__init__"=some (some (.ref fI))
 fn:W.typeIn K (.ref fI)=some (.type "function")
end
end L2
namespace L2
open PySem PySem.Spec PyProof.Rows Builtin Builtin.ObjectAttr
def vc(l:List Value):Bool:=l.dropWhile (fun|.ref _=>true|_=>false)==iM
structure zx(K:W.Frag)(C:Addr):Prop where
 sa:W.findIn K (.ref C) "__setattr__"=some (some (.builtin "object.__setattr__"))
 po:(W.clsIn K C).any (fun cd=>vc cd.mro)=true
 hd:W.hasDictIn K C=true
 ob:W.mroIn K C (.type "object")=some true
section
variable{prog:Program}{w:World}{A:Around}{E:Value->Shared->Prop}{s:Shared}{K:W.Frag}{x C:Addr}{name:Str}{v:Value}
end
section
variable{X:Cx}{pins:List (Addr × Obj)}{σ:St}{H H0:Hp}{s s0:Shared}{dx:Addr}
end
section
variable{X:Cx}{o value:Expr}{f:Str}{pos pos':Pos}{ta tv:TE}
end
structure zT(K:W.Frag)(R:Addr):Prop where
 ga:W.specialIn K (.ref R) "__getattribute__"=some (some (.builtin "type.__getattribute__"))
 rd:W.readsIn K R (.type "type")=true
 fi:W.findCls K (.ref R) (.type "type") "__init__"=some (.val (.builtin "ValueError.__init__"))
section
variable{X:Cx}
end
section
variable{prog:Program}{w:World}{A:Around}{E:Value->Shared->Prop}{s:Shared}{K:W.Frag}{x D:Addr}{name:Str}{v:Value}
end
section
variable{X:Cx}{e:Expr}{f:Str}{pos:Pos}{ta:TE}
end
end L2
namespace L2
open PySem PySem.Spec PyProof.Rows
structure Shw(d:PyData)(n m:Nat):Prop where
 sh:d.showable=true
 nd:d.hasDict=false
 dp:d.depth<=m
 ln:d.shown.length<=n
structure AG(ds:List PyData)(n m:Nat):Prop where
 sh:PyData.showableAll ds=true
 nd:PyData.hasDictAll ds=false
 dp:PyData.depthAll ds<=m
 ln:piled (PyData.shownAll ds)<=n
section
variable{X:Cx}{k:Nat}{pos:Pos}{e:Expr}{te:TE}
end
section
variable{α β:Type}
variable{P:Shared->Prop}
end
section
variable{X:Cx}{st:Stmt}{rest:List Stmt}{t u:TS}{pos:Pos}
end
section
variable{X:Cx}
end
end L2
local macro_rules
 |`(sortPriv% $n:ident)=>do
  if n.getId==`rn then return Lean.mkCIdent (Lean.mkPrivateNameCore `PySem.Builtin.Int.W0All `PySem.Builtin.readNumeral)
  if n.getId==`vl then return Lean.mkCIdent (Lean.mkPrivateNameCore `PySem.Builtin.Int.W0All `PySem.Builtin.Numeral.value)
  if n.getId==`nd then return Lean.mkCIdent (Lean.mkPrivateNameCore `PySem.Builtin.Int.W0All `PySem.Builtin.numeralDigits?)
  if n.getId==`bl then return Lean.mkCIdent (Lean.mkPrivateNameCore `PySem.Builtin.Int.W0All `PySem.Builtin.isBlank)
  Lean.Macro.throwUnsupported
namespace L2
open PySem
section
variable{prog:Program}{w:World}{A:Around}{E:Value->Shared->Prop}{s:Shared}
end
end L2
namespace L2
open PySem PySem.Spec PyProof.Rows
section
variable{X:Cx}{pos:Pos}{e:Expr}{es:List Expr}{te:TE}
abbrev TJE:=St->Hp->Str->(Str->Hp->Prop)->Prop
def PJE(X:Cx)(es:List Expr)(t:TJE):Prop :=
 ∀(pins:List (Addr × Obj)) (s:Shared) (σ:St) (H:Hp) (acc:Str) (Z:Str->Hp->Prop),acc.length+2000000*es.length<=sizeLine->Inv X pins σ H s->t σ H acc Z ->
  Joins (model X.prog X.w) X.A X.xe (evalEach es X.env) acc (fun out s1=>out.length<=sizeLine/\∃H1,Inv X pins σ H1 s1/\Z out H1) s
theorem qc:PJE X [] (fun _ H acc Z=>Z acc H):=fun _ _ _ H _ _ hz I h=>⟨Nat.le_trans (Nat.le_add_right _ _) hz,H,I,h⟩
theorem fE{tj:TJE}(he:PE X e te)(hr:PJE X es tj):PJE X (e::es) (fun σ H acc Z=>te σ H fun v H1=>∃y:Str,v=.str y/\y.length<=2000000/\tj σ H1 (acc++y) Z):=by
 intro pins s σ H acc Z hz I h
 refine thn (he pins s σ H _ I h) fun u s1 ⟨v,H1,I1,r,y,hv,hy,q⟩=>?_
 subst hv
 obtain⟨t,rfl⟩:=r
 have e1:(acc++y).length=acc.length+y.length:=by
  show Array.size (acc.cps++y.cps)=_
  rw [Array.size_append]
  rfl
 have e2:(e::es).length=es.length+1:=rfl
 rw [e2] at hz
 exact⟨y,t,rfl,by omega,hr pins s1 σ H1 (acc++y) Z (by omega) I1 q⟩
theorem mH{v1 v2:Expr}{rest:List Expr}{tj:TJE}(hj:PJE X (v1::v2::rest) tj)(hl:(v1::v2::rest).length<=8) :
  PE X (.JoinedStr (v1::v2::rest) pos) (fun σ H Q=>tj σ H Str.empty fun out H1=>Q (.str out) H1):=by
 intro pins s σ H Q I h
 have hz:Str.empty.length+2000000*(v1::v2::rest).length<=sizeLine:=by
  have e0:Str.empty.length=0:=rfl
  rw [sizeLine_eq,e0]
  rw [Nat.zero_add]
  exact Nat.le_trans (Nat.mul_le_mul_left _ hl) (Nat.le_of_ble_eq_true rfl)
 refine wpAny_JoinedStr ?_
 have j:=hj pins s σ H Str.empty _ hz I h
 exact cI.joins_mono _ _ (fun out s1 ⟨h1,H1,I1,q⟩=>⟨h1,.str out,H1,I1.tok _,⟨_,rfl⟩,q⟩) _ j
end
section
variable{prog:Program}{w:World}{A:Around}{R:Result->Shared->Prop}{I S:Addr}{fp wr:List Addr}{n:Nat}{P:Nat->Value->Prop}{St:Nat->Heap->Prop}{d:Value}
end
section
variable{X:Cx}{e:Expr}{es:List Expr}{kws:List Keyword}{t tk:TA}{p pos:Pos}
end
inductive rV (w:World):List DictEntry->List (Str × Int)->Prop
 |nil:rV w [] []
 |cons {h:Int} {s:Str} {n:Int} {t t':Tok} {es:List DictEntry} {ps:List (Str × Int)}:h=hashStr w s->rV w es ps->rV w (⟨h,.str s t,.int n t'⟩::es) ((s,n)::ps)
structure DKt(K:W.Frag)(w:World)(a:Addr)(ps:List (Str × Int)):Prop where
 ns:(a==sysModules)=false
 at_:∀(P:Program) (h:Heap),K.In h->∃vs:List (Key × Value),KV (ps.map fun p=>((Sum.inr p.1:Key),V.int p.2)) vs/\h.DictOf (aS P w) a vs
theorem xp{P:Program}{w:World}{es:List DictEntry}{ps:List (Str × Int)}(h:rV w es ps):∃vs:List (Key × Value),KV (ps.map fun p=>((Sum.inr p.1:Key),V.int p.2)) vs/\Pairs (aS P w) es vs/\(∀e∈es,∃k:Key,(aS P w).is k e.key=true/\e.hash=(aS P w).hash k)/\vs.map (·.1)=ps.map fun p=>(Sum.inr p.1:Key):=by
 induction h with
 |nil=>exact⟨[],.nil,.nil,(fun e he=>by cases he),rfl⟩
 |@cons hh s n t t' es ps e _ ih =>
  obtain⟨vs,a,b,c,d⟩:=ih
  refine⟨(Sum.inr s,.int n t')::vs,.cons ⟨rfl,⟨t',rfl⟩⟩ a,.cons (eY P w s t) rfl b,fun e2 he=>?_,?_⟩
  ·rcases List.mem_cons.mp he with rfl|he
   ·exact⟨Sum.inr s,eY P w s t,e⟩
   ·exact c e2 he
  ·rw [List.map_cons,List.map_cons,d]
theorem xH{K:W.Frag}{w:World}{a:Addr}{ps:List (Str × Int)}{es:Array DictEntry}{ep:Nat} (hl:K.lookup a=some ⟨.type "dict",none,.dict es ep,#[]⟩) (hs:(a==sysModules)=false) (he:rV w es.toList ps) (nd:(ps.map (·.1)).Nodup):DKt K w a ps:=by
 refine⟨hs,fun P h hK=>?_⟩
 obtain⟨vs,v1,v2,v3,v4⟩:=xp (P:=P) he
 refine⟨vs,v1,_,es,ep,hK _ _ hl,⟨rfl,rfl,rfl⟩,rfl,fun e h2=>v3 e (Array.mem_toList_iff.mpr h2),v2,?_⟩
 rw [v4]
 have:(ps.map fun p=>(Sum.inr p.1:Key))=(ps.map (·.1)).map Sum.inr:=by rw [List.map_map];rfl
 rw [this]
 exact List.Pairwise.map _ (fun _ _ h z=>h (Sum.inr.inj z)) nd
def nl(ps:List (Str × Int))(s:Str):Option Int:=(ps.find? fun p=>decide (p.1=s)).map (·.2)
theorem tL(ps:List (Str × Int))(s:Str):du (ps.map fun p=>((Sum.inr p.1:Key),V.int p.2)) (Sum.inr s)=(nl ps s).map V.int:=by
 induction ps with
 |nil=>rfl
 |cons p r ih =>
  unfold du nl at ih ⊢
  rw [List.map_cons,List.find?_cons,List.find?_cons]
  by_cases e:p.1=s
  ·rw [decide_eq_true (show(Sum.inr p.1:Key)=Sum.inr s by rw [e]),decide_eq_true e]
   rfl
  ·rw [decide_eq_false (show ¬(Sum.inr p.1:Key)=Sum.inr s from fun z=>e (Sum.inr.inj z)),decide_eq_false e]
   exact ih
section
variable{X:Cx}{o i:Expr}{pos:Pos}{td ty:TE}
def wZ(K:W.Frag)(w:World)(td ty:TE):TE:=fun σ H Q=>td σ H fun x H1=>ty σ H1 fun y H2=>∃a ps s n,x=.ref a/\DKt K w a ps/\y=.str s/\nl ps s=some n/\Q (.int n) H2
theorem sM(ho:PE X o td)(hi:PE X i ty)(hs:yR i):PE X (.Subscript o i pos) (wZ X.K X.w td ty):=by
 intro pins s σ H Q I h
 refine rD PySem.F.slot_dict_getitem.lookup hs (thn (ho pins s σ H _ I h) fun u s1 ⟨x,H1,I1,rx,q1⟩=>thn (hi pins s1 σ H1 _ I1 q1) fun iv s2 ⟨y,H2,I2,ry,a,ps,z,n,ex,g,ey,en,q2⟩=>?_)
 subst ex ey
 obtain rfl:u=Value.ref a:=rx
 obtain⟨vs,rel,dd⟩:=g.at_ X.prog s2.heap I2.kIn
 obtain⟨w',hw,rw'⟩:=kx.some_of (v:=.int n) (o:=valueAt vs (Sum.inr z)) (by have:=rel.val (Sum.inr z);rw [tL,en] at this;exact this)
 exact⟨dd.typeIs,wpAny_getItem_of (jX (k:=Sum.inr z) ry) dd.mapOf hw ⟨.int n,H2,I2.tok _,rw',q2⟩⟩
end
section
variable{P:Program}{w:World}{K:W.Frag}{mg:Str->Option Value}{base:Heap}
end
section
variable{prog:Program}{w:World}{A:Around}{E:Value->Shared->Prop}{s:Shared}
end
section
variable{X:Cx}
end
end L2
namespace L2
open PySem PySem.Spec PyProof.Rows PySem.Calls
section
variable{prog:Program}{w:World}{K:Type}[DecidableEq K]{knd:HeapKind prog w K}{A:Around}{E:Value->Shared->Prop}{s:Shared}
end
section
variable{X:Cx}
end
end L2
namespace L2
open PySem PySem.Spec PyProof.Rows PySem.W
section
variable{prog:Program}{w:World}{A:Around}{E:Value->Shared->Prop}{s:Shared}
structure AK(es:Array DictEntry)(lo:Addr)(h:Heap)(as:List Addr):Prop where
 rise:as.Pairwise (· < ·)
 up:∀a∈as,lo < a
 at':∀(j:Nat) (a:Addr),as[j]?=some a->∃en,es[j]?=some en/\h.get? a=some { cls:=.type "tuple",data:=.seq #[en.key,en.val] }
end
section
variable{prog:Program}{w:World}{A:Around}{s:Shared}{R:Result->Shared->Prop}{es:Array DictEntry}{ep:Nat}
end
section
variable{prog:Program}{w:World}{A:Around}{E:Value->Shared->Prop}{s:Shared}{r d:Addr}{es:Array DictEntry}{ep:Nat}
end
end L2
namespace L2
open PySem PySem.Spec PyProof.Rows
section
variable{X:Cx}
end
section
variable{prog:Program}{w:World}{A:Around}{E:Value->Shared->Prop}{s:Shared}
end
section
variable{X:Cx}{l:Expr}{tl:TE}{p p2 pos pos2:Pos}
end
section
variable{X:Cx}
end
section
variable{prog:Program}{w:World}{A:Around}{E:Value->Shared->Prop}{s:Shared}{a:Addr}{xs:Array Value}{k:Nat}{sl:Array (Option Value)}
end
section
variable{X:Cx}{pins:List (Addr × Obj)}{σ:St}
end
section
variable{prog:Program}{w:World}{A:Around}{E:Value->Shared->Prop}{s:Shared}{K:Type}[DecidableEq K]{knd:HeapKind prog w K}
end
section
variable{X:Cx}
end
section
variable{M:Model}{A:Around}{E:Value->Shared->Prop}{s:Shared}
theorem ox{base:Heap}{env:Env}{outer:List Env}{L e:Addr}{cls a0 fl:Value}{Q:Unit->Shared->Prop}(hfr:A.frames=some (env::outer))(hf:env.frame=some L)(k1:base.StaysIn s.heap)(k2:base.get? e=none)(k3:s.heap.FunFrames base (env::outer))(k4:s.heap.TracedAtW base e cls a0 fl)
  (hQ:∀h',Heap.FlyingW base outer e cls a0 h'->s.heap.UpToSlots h'->Q () { s with heap:=h' }):wpAny M A (leaving env (.ref e)) Q E s:=by
 by_cases hfl:(fl==rawInt L)=true
 ·have hfl':fl=rawInt L:=by simpa using hfl
  rw [hfl'] at k4
  unfold leaving
  refine wpAny_bind (wpAny_noteFrame_againW hf k4 ?_)
  refine wpAny_landsW ⟨k1,k2,k3,k4⟩ fun h' hF up=>?_
  obtain⟨j1,j2,⟨_,_,j3⟩,j4⟩:=hF
  exact hQ h' ⟨j1,j2,j3,j4⟩ up
 ·obtain⟨oe,vs,T,oT,ts,he,⟨hcls,h0⟩,hd,h1,hnT,hTe,hT,hdT,h3⟩:=k4
  subst hcls
  unfold leaving noteFrame
  simp only [hf]
  refine wpAny_bind (wpAny_bind (wpAny_field he hd h1 ?_))
  rw [if_pos (show(Value.ref T != Value.none)=true from by simp)]
  refine wpAny_bind (wpAny_field hT hdT h3 ?_)
  rw [if_neg hfl]
  refine wpAny_bind (wpAny_setField hT hdT (Array.getElem?_eq_some_iff.mp h3).1 ?_)
  have other:∀b,b≠T->(s.heap.update T (Obj.mapFields (·.setIfInBounds 3 Value.none))).get? b=s.heap.get? b:=fun b hb=>Heap.get?_update_other _ _ (Ne.symm hb)
  have noRecord:∀b o,s.heap.get? b=some o->(∀vs,o.data≠.fields vs)->b≠T:=fun b o hb hnf q=>by
   rw [q,hT] at hb;injection hb with hb;subst hb;exact hnf ts hdT
  refine wpAny_newEntryW hfr (k3.of_keeps fun b o hb hnf=>⟨o,(other b (noRecord b o hb hnf)).trans hb,rfl⟩) hf ((other e (Ne.symm hTe)).trans he)
   (fun b o hbo=>(other b fun q=>by rw [q,hnT] at hbo;cases hbo).trans (k1 b o hbo)) k2 hd (Array.getElem?_eq_some_iff.mp h1).1 h0
   fun h' ⟨x1,x2,x3,x4⟩=>hQ h' ⟨x1,k2,x2.2.2,x3⟩ fun b o hb hnf=>x4 b o ((other b (noRecord b o hb hnf)).trans hb) hnf
theorem jm{base:Heap}{l:List Env}{e:Addr}{cls a0 fl:Value}{fr:Option Addr}{Q:Unit->Shared->Prop}
  (hkb:base.StaysIn s.heap) (hl:s.heap.FunFrames base l) (ht:s.heap.TracedAtW base e cls a0 fl)
  (h:∀h',base.StaysIn h'->h'.FunFrames base l->h'.TracedAtW base e cls a0 (fr.elim Value.none fun f=>rawInt f)->(∀b o,s.heap.get? b=some o->(∀vs,o.data≠.fields vs)->h'.get? b=some o)->Q () { s with heap:=h' }) :
  wpAny M A (setFlight (.ref e) fr) Q E s:=by
 obtain⟨oe,vs,T,oT,ts,he,hcls,hd,h1,hnT,hTe,hT,hdT,h3⟩:=ht
 have hsz3:3 < ts.size:=(Array.getElem?_eq_some_iff.mp h3).1
 have other:∀b,b≠T->(s.heap.update T (Obj.mapFields (·.setIfInBounds 3 (fr.elim Value.none fun f=>rawInt f)))).get? b=s.heap.get? b :=
  fun b hb=>Heap.get?_update_other _ _ (Ne.symm hb)
 have noRecord:∀b o,s.heap.get? b=some o->(∀vs,o.data≠.fields vs)->b≠T:=fun b o hb hnf q=>by
  rw [q,hT] at hb;injection hb with hb;subst hb;exact hnf ts hdT
 unfold setFlight
 refine wpAny_bind (wpAny_field he hd h1 ?_)
 rw [if_pos (show(Value.ref T != Value.none)=true from by simp)]
 refine wpAny_setField hT hdT hsz3 (h _ (fun b o hbo=>(other b fun q=>by rw [q,hnT] at hbo;cases hbo).trans (hkb b o hbo))
  (hl.of_keeps fun b o hb hnf=>⟨o,(other b (noRecord b o hb hnf)).trans hb,rfl⟩) ?_ fun b o hb hnf=>(other b (noRecord b o hb hnf)).trans hb)
 exact⟨oe,vs,T,_,_,(other e (Ne.symm hTe)).trans he,hcls,hd,h1,hnT,hTe,Heap.get?_update_self _ hT (Obj.isFreed_of_fields (Obj.data_mapFields hdT _)),Obj.data_mapFields hdT _,by simp [hsz3]⟩
end
theorem je{B h1 h2:Heap}{C:Addr}(sb:Heap.SameBut C h1 h2):∀{l:List Env},h1.FunFrames B l->C∉frs l->h2.FunFrames (W.hideAll B [C]) l
 |[],_,_=>trivial
 |env::r,⟨hk,⟨L,o,hf,hn,ho,hd⟩,hr⟩,hne=>by
  have eq:frs (env::r)=L::frs r:=by
   unfold frs
   rw [List.filterMap_cons,hf]
  rw [eq] at hne
  refine⟨hk,⟨L,o,hf,?_,(sb.2 L fun z=>hne (by rw [z];exact .head _)).trans ho,hd⟩,je sb hr fun z=>hne (.tail _ z)⟩
  cases q:(W.hideAll B [C]).get? L with
  |none=>rfl
  |some u=>rw [W.of_hideAll _ q] at hn;cases hn
section
variable{X:Cx}{pins:List (Addr × Obj)}{σ:St}{H H':Hp}{s s':Shared}{x C:Addr}{cls:Value}{d:Option Addr}
theorem Fly.comp{m0:Str->Option Value}{cenv0:Env}(I:Inv X pins σ H s)(hst:X.stack=X.env::X.outer)(hfr:X.env.frame=some X.env.locals)(hex:X.ex=[])(f:Fly X.prog X.w X.stack H s x cls H' s')(hdi:bv x d s')
  (hC0:X.s₀.heap.get? C=none) (hCs:s.heap.Ns C m0) (hCn:H C=none) (hCf:C∉frs X.stack) (hcf:cenv0.frame=X.env.frame)
  (hxe:∀s,wpAny (model X.prog X.w) X.A (leaving X.env (.ref x)) (fun _ s''=>Fly X.prog X.w X.outer X.H₀ X.s₀ x cls H' s''/\bv x d s'') (fun _ _=>False) s->X.xe (.ref x) s) {Qe:Value->Shared->Prop} {acc:Value} :
  notedBy (model X.prog X.w) X.A cenv0 (fun x' s''=>compPost (model X.prog X.w) X.A X.xe none Qe acc C (.error x') s'') (.ref x) s':=by
 obtain⟨B,a0,fl,c1,c2⟩:=f.fl
 rw [hst] at fl
 have nx:∀b:Addr,b∉X.ex:=fun b=>by rw [hex];simp
 obtain⟨oC,es,ep,hoC,hdC,rC⟩:=hCs
 have keepC:s'.heap.get? C=some oC:=f.un.keep C oC hoC hCn hCf (by simp)
 have hCH':H' C=none:=f.un.free C oC hoC hCn (by simp)
 obtain⟨uC,huC⟩:=c2 C oC hoC hCf
 have hxC:x≠C:=fun z=>by have q:=fl.2.1;rw [z,huC] at q;cases q
 unfold notedBy
 rw [show noteFrame (.ref x) cenv0=noteFrame (.ref x) X.env from by unfold noteFrame PySem.frameOf;rw [hcf]]
 refine wpAny_mono (ar.note.wpAny (Q:=fun _ s''=>∃h1,s''={ s' with heap:=h1 }/\Heap.HeldW B (X.env::X.outer) x cls a0 X.env.locals h1/\s'.heap.UpToSlots h1) (E:=fun _ _=>False) hdi (wpAny_looks_onW (by rw [I.ok.frames,hst]) hfr fl fun h1 hh up=>⟨h1,rfl,hh,up⟩)) (fun _ s'' ⟨⟨h1,e1,hh,up⟩,hdi1⟩=>?_) (fun _ _ z=>z.1.elim)
 subst e1
 refine⟨m0,up.ns ⟨oC,es,ep,keepC,hdC,rC⟩,fun h2 sb cenv _=>?_⟩
 obtain⟨g1,g2,g3,g4⟩:=hh
 have stB:(W.hideAll B [C]).StaysIn h2:=fun b o e=>by
  have hb:b≠C:=fun z=>by rw [z,W.hideAll_none _ (.head _)] at e;cases e
  exact(sb.2 b hb).trans (g1 b o (W.of_hideAll _ e))
 have nB:∀b,B.get? b=none->(W.hideAll B [C]).get? b=none:=fun b hb=>by
  cases q:(W.hideAll B [C]).get? b with
  |none=>rfl
  |some u=>rw [W.of_hideAll _ q] at hb;cases hb
 have fr2:h2.FunFrames (W.hideAll B [C]) (X.env::X.outer):=je sb g3 (by rw [<-hst];exact hCf)
 obtain⟨oe,vs,T,oT,ts,he,hcl,hd,q1,hnT,hTe,hT,hdT,q3⟩:=g4
 have hTC:T≠C:=fun z=>by rw [z,huC] at hnT;cases hnT
 have tr2:h2.TracedAtW (W.hideAll B [C]) x cls a0 (rawInt X.env.locals):=⟨oe,vs,T,oT,ts,(sb.2 x hxC).trans he,hcl,hd,q1,nB T hnT,hTe,(sb.2 T hTC).trans hT,hdT,q3⟩
 have hdi2:bv x d { s' with heap:=h2 }:=by
  obtain⟨ob,e,hb⟩:=hdi1
  exact⟨ob,(sb.2 x hxC).trans e,hb⟩
 unfold PySem.passOn
 refine wpAny_bind (wpAny_field (s:={ s' with heap:=h2 }) ((sb.2 x hxC).trans he) hd q1 ?_)
 rw [if_neg (show ¬((Value.ref T==Value.none)=true) from by simp)]
 refine wpAny_bind (wpAny_mono (ar.flight.wpAny (Q:=fun _ s3=>∃h3 fl3,s3={ s' with heap:=h3 }/\(W.hideAll B [C]).StaysIn h3/\h3.FunFrames (W.hideAll B [C]) (X.env::X.outer)/\h3.TracedAtW (W.hideAll B [C]) x cls a0 fl3/\h2.UpToSlots h3) (E:=fun _ _=>False) hdi2 (jm stB fr2 tr2 fun h3 j1 j2 j3 j4=>⟨h3,_,rfl,j1,j2,j3,fun b o e hn=>⟨o.slots,j4 b o e hn⟩⟩)) (fun _ s3 ⟨⟨h3,fl3,e3,j1,j2,j3,j4⟩,hdi3⟩=>?_) (fun _ _ z=>z.1.elim))
 subst e3
 refine wpAny_throw (hxe _ ?_)
 refine wpAny_mono (ar.leave.wpAny (Q:=fun _ s4=>Fly X.prog X.w X.outer X.H₀ X.s₀ x cls H' s4) (E:=fun _ _=>False) hdi3 (ox (by rw [I.ok.frames,hst]) hfr j1 (nB x g2) j2 j3 fun h4 fl4 up4=>?_)) (fun _ s4 z=>z) (fun _ _ z=>z.1)
 have st:∀b o,B.get? b=some o->b≠C->h4.get? b=some o:=fun b o e hb=>fl4.1 b o (W.hideAll_get _ e (by simpa using hb))
 have same:∀b u v,B.get? b=some u->s'.heap.get? b=some v->u=v:=fun b u v h1 h2=>by
  have h3:=fl.1 b u h1
  rw [h2] at h3
  exact(Option.some.inj h3).symm
 have oldC:∀b o,X.s₀.heap.get? b=some o->b≠C:=fun b o e z=>by rw [z,hC0] at e;cases e
 have trkC:∀b o,H' b=some o->b≠C:=fun b o e z=>by rw [z,hCH'] at e;cases e
 have upAll:∀b o,b≠C->s'.heap.get? b=some o->(∀vs,o.data≠.fields vs)->∃sl,h4.get? b=some { o with slots:=sl }:=fun b o hb e hn=>by
  obtain⟨s1,e1⟩:=up b o e hn
  obtain⟨s2,e2⟩:=j4 b _ ((sb.2 b hb).trans e1) hn
  obtain⟨s3,e3⟩:=up4 b _ e2 hn
  exact⟨s3,e3⟩
 have slot:∀b o,X.s₀.heap.get? b=some o->X.H₀ b=none->b∈X.fs->∃sl,h4.get? b=some { o with slots:=sl }:=fun b o e n hb=>by
  obtain⟨sl,e1⟩:=I.base.slot b o e n hb (nx b)
  obtain⟨sl2,e2⟩:=f.un.any e1 (I.base.free b o e n (nx b)) (by simp)
  obtain⟨_,of,ho,hnf⟩:=I.ok.funs.mem hb
  rw [e] at ho
  cases ho
  obtain⟨sl3,e3⟩:=upAll b _ (oldC b o e) e2 hnf
  exact⟨sl3,e3⟩
 refine⟨f.os.trans I.os,f.bare,⟨fun b o e n hb _=>?_,fun b o e n hb _=>slot b o e n hb,fun b o e n _=>?_,fun b o e _=>?_,fun b xs e=>f.un.tups b xs (I.base.tups b xs e),fun b o u e=>f.un.frzs b o u (I.base.frzs b o u e),fun b ps e=>?_⟩,fun a o e=>?_,⟨_,a0,fl4,fun b o e=>?_,fun b o e hb=>?_⟩,f.free⟩
 ·have e1:=I.base.keep b o e n hb (nx b)
  have n1:=I.base.free b o e n (nx b)
  have hb':=I.notSt (I.oldL e) hb
  have e2:=f.un.keep b o e1 n1 hb' (by simp)
  obtain⟨u,hu⟩:=c2 b o e1 hb'
  exact same b u o hu e2▸st b u hu (oldC b o e)
 ·obtain⟨o',e1⟩:=I.base.there b o e (nx b)
  exact f.un.free b o' e1 (I.base.free b o e n (nx b)) (by simp)
 ·by_cases hb:b∈X.fs
  ·obtain⟨sl,e1⟩:=slot b o e (I.ok.frf b hb) hb
   exact⟨_,e1⟩
  ·obtain⟨o',e1⟩:=I.base.there b o e (nx b)
   obtain⟨u,hu⟩:=c2 b o' e1 (I.notSt (I.oldL e) hb)
   exact⟨u,st b u hu (oldC b o e)⟩
 ·obtain⟨m1,e1⟩:=I.base.tbls b ps e
  obtain⟨m2,e2⟩:=f.un.tbls b _ e1
  exact⟨m1++m2,by rw [e2,Array.append_assoc]⟩
 ·refine(f.hok a o e).stay (fun b u hb q=>?_) (fun _ q=>q) fun _ _ q=>q
  have t:∃o',H' b=some o':=by
   rcases hb with z|z
   ·exact⟨o,by rw [z];exact e⟩
   ·exact⟨_,z⟩
  obtain⟨o',e'⟩:=t
  obtain⟨v,hv⟩:=c1 b o' e'
  exact same b v u hv q▸st b v hv (trkC b o' e')
 ·obtain⟨u,hu⟩:=c1 b o e
  exact⟨u,W.hideAll_get _ hu (by simpa using trkC b o e)⟩
 ·obtain⟨o',e1⟩:=I.base.there b o e (nx b)
  obtain⟨u,hu⟩:=c2 b o' e1 (I.notSt (I.oldL e) hb)
  exact⟨u,W.hideAll_get _ hu (by simpa using oldC b o e)⟩
theorem Inv.unblock0{own caps:List Str}{sc:Scope}{cl:List (Str × Addr)}{fp:List Addr}{H':Hp}{s4:Shared}{σ':St}{pins':List (Addr × Obj)}{hp:Heap}{ol:Obj}(I:Inv X pins σ H s)
  (f2:∀b∈fp,lc X pins H b) (ehp:hp=s.heap.push ol)
  (J:Inv (blk X (own++caps) sc cl { s with heap:=hp } H hp.objs.size (s.heap.objs.size::fp)) pins' σ' H' s4):Inv X pins σ H' s4:=by
 have up:∀b o,s.heap.get? b=some o->hp.get? b=some o:=fun b o e=>by rw [ehp];exact Heap.get?_push_of_some _ e
 have neD:∀b o,s.heap.get? b=some o->b≠s.heap.objs.size:=fun b o e=>Nat.ne_of_lt (Heap.lt_size e)
 have nex:∀b o,s.heap.get? b=some o->b∉fp->b∉s.heap.objs.size::fp:=fun b o e hb z=>(List.mem_cons.mp z).elim (neD b o e) hb
 have u:=J.base
 refine I.call' (ch:=fp) J.os ⟨fun b o e n hb hx=>u.keep b o (up _ _ e) n hb (nex b o e hx),fun b o e n hb hx=>u.slot b o (up _ _ e) n hb (nex b o e hx),fun b o e n hx=>u.free b o (up _ _ e) n (nex b o e hx),fun b o e hx=>u.there b o (up _ _ e) (nex b o e hx),u.tups,u.frzs,u.tbls⟩ J.hok J.bare fun b hb=>?_
 obtain⟨_,f1,_,f3,f4,f5⟩:=f2 b hb
 exact⟨f3,f1,f4,f5⟩
end
section
variable{X:Cx}
theorem rB{tg elt iter:Expr}{ifs:List Expr}{own caps:List Str}{κ:List Nat}{sc:Scope}{cl:List (Str × Addr)}{pos:Pos}{wi:TI}{g:TG}{tc:TT}{te:TE}{E:XK}(hst:X.stack=X.env::X.outer)(hfr:X.env.frame=some X.env.locals)(hex:X.ex=[])(hpn:X.pn=[])
  (hxe:∀(x:Addr) (cls:Value) (d:Option Addr) (H':Hp) (s:Shared),E cls d H'->wpAny (model X.prog X.w) X.A (leaving X.env (.ref x)) (fun _ s''=>Fly X.prog X.w X.outer X.H₀ X.s₀ x cls H' s''/\bv x d s'') (fun _ _=>False) s->X.xe (.ref x) s) (hcalm:X.calm=true) (S:iA X caps sc cl) (hκ:κ.map (fun k=>X.N[k]?)=caps.map some)
  (hi:PI X tg iter wi) (hg:∀s₀ H₀ C ex xe,PG ((blk X (own++caps) sc cl s₀ H₀ C ex).wish xe) tg g)
  (hc:∀s₀ H₀ C ex xe (pins:List (Addr × Obj)) (s:Shared) (σ:St) (H:Hp) (Q:Bool->Hp->Prop),Inv ((blk X (own++caps) sc cl s₀ H₀ C ex).wish xe) pins σ H s->tc σ H Q ->
   wpAny (model X.prog X.w) X.A (forIn ifs true fun c r=>if r=true then do let ok <-isTrue c (compEnvC sc cl C X.env) (eval c (compEnvC sc cl C X.env));pure (ForInStep.yield ok) else pure (ForInStep.yield r)) (TP ((blk X (own++caps) sc cl s₀ H₀ C ex).wish xe) pins σ Q) (fun _ _=>False) s)
  (he:∀s₀ H₀ C ex xe,cT (CX1 X.prog X.w) ((blk X (own++caps) sc cl s₀ H₀ C ex).wish xe) E->PE ((blk X (own++caps) sc cl s₀ H₀ C ex).wish xe) elt te)
  (hs:∀x,foldedSetIterable iter X.env x=pure x:=by intro _;rfl):PE X (.ListComp elt [⟨tg,iter,ifs,0⟩] sc pos) (oI own.length κ wi g tc te):=by
 intro pins s σ H Q I h
 rw [eval_ListComp]
 refine wpAny_comprehension_free (use:=none) rfl hs S.clos S.kind S.names (thn (hi pins s σ H _ I h) fun v s1 h1=>thn h1 fun itv s2 h2=>?_)
 obtain⟨it,fp,tn,J,H2,e,I2,T,st2,f2,W,⟨m0,w0⟩,turn⟩:=h2
 subst e
 have hfp:∀b∈fp,b < s2.heap.objs.size:=fun b hb=>by
  obtain⟨o,e,_⟩:=T.obj _ _ st2 b hb
  exact Heap.lt_size e
 refine wpAny_newObj_type (wpAny_newFunctionEnv S.nocell (fun y hy=>nomatch hy) (fun h₁ hns hsb=>?_) S.kind)
 generalize ehp:s2.heap.push { cls:=.type "list",dict:=none,data:=.seq ([]:List Value).toArray }=hp at hns hsb ⊢
 have hsz:hp.objs.size=s2.heap.objs.size+1:=by rw [<-ehp,Heap.size_push]
 have hDC:s2.heap.objs.size≠hp.objs.size:=by rw [hsz];exact Nat.ne_of_lt (Nat.lt_succ_self _)
 have old:∀b o,hp.get? b=some o->h₁.get? b=some o:=fun b o e=>(hsb.2 b (Nat.ne_of_lt (Heap.lt_size e))).trans (Heap.get?_push_of_some _ e)
 have eD:h₁.get? s2.heap.objs.size=some { cls:=.type "list",data:=.seq ([]:List Value).toArray }:=old _ _ (by rw [<-ehp];exact Heap.get?_push_size _ rfl)
 obtain⟨xe0,hx0⟩:∃xe0,xe0=notedBy (model X.prog X.w) X.A (compEnvC sc cl hp.objs.size X.env) (fun x s'=>compPost (model X.prog X.w) X.A X.xe none (EP X pins σ Q) (.ref s2.heap.objs.size) hp.objs.size (.error x) s'):=⟨_,rfl⟩
 have I0:=(Inv.block (own:=own) (h₁:=h₁) (tk:=s2.toks+([]:List (Str × Value)).length) S hκ I2 f2 hfp ehp.symm hns old).wish xe0
 have stkD:s2.heap.objs.size∉frs X.stack:=fun z=>(List.mem_cons.mp (I2.stkSub _ z)).elim (Nat.ne_of_gt I2.lt) (I2.nofs (Nat.le_refl _))
 have cellD:∀x c,cl.lookup x=some c->c≠s2.heap.objs.size:=fun x c q=>by
  obtain⟨v,z⟩:=I2.cell x c (S.subc q)
  exact Nat.ne_of_lt z.lt
 have pinD:∀p∈X.pn++pins,p.1≠s2.heap.objs.size:=fun p hp=>Nat.ne_of_lt (Heap.lt_size (I2.pin p hp).1)
 have stkF:∀b∈fp,b∉frs X.stack:=fun b hb z=>(List.mem_cons.mp (I2.stkSub _ z)).elim (f2 b hb).2.1 (f2 b hb).2.2.1
 have hps:cT (CX1 X.prog X.w) ((blk X (own++caps) sc cl { s2 with heap:=hp } H2 hp.objs.size (s2.heap.objs.size::fp)).wish xe0) E:=by
  intro pins' σ' H1 s1 e s' J z
  obtain⟨x,cls,d,H',rfl,fl,hdi,hE⟩:=z
  obtain⟨m,hm,_⟩:=J.loc
  have hsz0:X.s₀.heap.objs.size<=s2.heap.objs.size:=I2.sz
  rw [hx0]
  exact Fly.comp (C:=hp.objs.size) (cenv0:=compEnvC sc cl hp.objs.size X.env) (Inv.unblock0 I2 f2 ehp.symm J.unwish) hst hfr hex fl hdi (by
   cases q:X.s₀.heap.get? hp.objs.size with
   |none=>rfl
   |some o=>exact absurd (Nat.lt_of_lt_of_le (Heap.lt_size q) hsz0) (by rw [hsz];exact Nat.not_lt.mpr (Nat.le_succ _))) hm J.free (fun z=>by
    have:=(List.mem_cons.mp (I2.stkSub _ z)).elim (fun e=>Nat.ne_of_gt (Nat.lt_trans I2.lt (by rw [hsz];exact Nat.lt_succ_self _)) e) (I2.nofs (by rw [hsz];exact Nat.le_succ _))
    exact this) rfl (fun s h=>hxe x cls d H' s hE h)
 have loop:codeAny (model X.prog X.w) X.A (.compLoop (.ListComp elt [⟨tg,iter,ifs,0⟩] sc pos) 0 (.ref it) (.ref s2.heap.objs.size) (compEnvC sc cl hp.objs.size X.env))
   (compPost (model X.prog X.w) X.A X.xe none (EP X pins σ Q) (.ref s2.heap.objs.size) hp.objs.size) { s2 with heap:=h₁,toks:=s2.toks+([]:List (Str × Value)).length }:=by
  refine codeAny_loop rfl (fun n s'=>∃(i:Nat) (ys:List V) (its:List Value) (cap:Nat) (H':Hp),Inv ((blk X (own++caps) sc cl { s2 with heap:=hp } H2 hp.objs.size (s2.heap.objs.size::fp)).wish xe0) pins (cS own.length κ σ) H' s'/\tn i s'.heap/\(∀b∈fp,H' b=none) /\
   s'.heap.get? s2.heap.objs.size=some { cls:=.type "list",data:=.seq its.toArray cap }/\H' s2.heap.objs.size=none/\bg ys its/\ys.length<=sizeLine/\W i n ys H') (fun n s3 hI=>?_) m0
   ⟨0,[],[],0,H2,I0,T.keep _ _ _ st2 fun b hb o e=>old _ _ (by rw [<-ehp];exact Heap.get?_push_of_some _ e),fun b hb=>(f2 b hb).1,eD,I2.hok.fresh (Nat.le_refl _),.nil,Nat.zero_le _,w0⟩
  obtain⟨i,ys,its,cap,H3,I3,st3,fr3,eD3,nD3,rv,hz,w3⟩:=hI
  show wpAny _ X.A ((compTurn (.ListComp elt [⟨tg,iter,ifs,0⟩] sc pos) 0 (.ref it) (.ref s2.heap.objs.size) (compEnvC sc cl hp.objs.size X.env)).onRaise fun x=>do noteFrame x (compEnvC sc cl hp.objs.size X.env);theTreesLotGoes x) _ _ s3
  refine wpAny_noted ?_
  rw [compTurn_list]
  have I3':Inv ((blk X (own++caps) sc cl { s2 with heap:=hp } H2 hp.objs.size (s2.heap.objs.size::fp)).wish xe0) (pins++[(s2.heap.objs.size,{ cls:=.type "list",data:=.seq its.toArray cap })]) (cS own.length κ σ) H3 s3:=by
   refine I3.pins_of fun p hp=>(List.mem_append.mp hp).elim (fun z=>I3.pin p (List.mem_append_right _ z)) fun z=>?_
   obtain rfl:=List.mem_singleton.mp z
   exact⟨eD3,nD3,hDC,stkD,fun v q=>by cases q⟩
  have fpk:∀{H':Hp},(∀b∈fp,H' b=none)->∀b∈fp,lc ((blk X (own++caps) sc cl { s2 with heap:=hp } H2 hp.objs.size (s2.heap.objs.size::fp)).wish xe0) (pins++[(s2.heap.objs.size,{ cls:=.type "list",data:=.seq its.toArray cap })]) H' b:=fun {H'} hn b hb =>
   ⟨hn b hb,by show b≠hp.objs.size;rw [hsz];exact Nat.ne_of_lt (Nat.lt_succ_of_lt (hfp b hb)),stkF b hb,.inl (List.mem_cons_of_mem _ hb),fun x c q=>(f2 b hb).2.2.2.2.1 x c (S.subc q),fun p hp=>by
    rw [<-List.append_assoc] at hp
    rcases List.mem_append.mp hp with z|z
    ·exact(f2 b hb).2.2.2.2.2 p z
    ·obtain rfl:=List.mem_singleton.mp z
     exact Nat.ne_of_gt (hfp b hb)⟩
  rcases turn i n ys H3 w3 with ⟨stop,fin⟩|⟨go,hlt,step⟩
  ·refine wpAny_bind (wpAny_standAt (wpAny_bind (thn (T.done ((blk X (own++caps) sc cl { s2 with heap:=hp } H2 hp.objs.size (s2.heap.objs.size::fp)).wish xe0) rfl rfl rfl hcalm i _ s3 _ H3 _ I3' (fpk fr3) st3 stop) fun r s4 ⟨hr,I4⟩=>?_)))
   subst hr
   refine wpAny_pure ?_
   obtain⟨m,hm,_⟩:=I4.loc
   refine⟨m,hm,fun h' sb=>?_⟩
   have eD4:=(I4.pin (s2.heap.objs.size,{ cls:=.type "list",data:=.seq its.toArray cap }) (List.mem_append_right _ (List.mem_append_right _ (List.mem_singleton.mpr rfl)))).1
   exact⟨.ref s2.heap.objs.size,_,Inv.unblock I2 f2 ehp.symm I4.unwish eD4 nD3 rv hz sb,rfl,fin _ nD3⟩
  ·refine wpAny_bind (wpAny_standAt (wpAny_bind (thn (T.item ((blk X (own++caps) sc cl { s2 with heap:=hp } H2 hp.objs.size (s2.heap.objs.size::fp)).wish xe0) rfl rfl rfl hcalm i _ s3 _ H3 _ I3' (fpk fr3) st3 go) fun r s4 ⟨u,hr,h4⟩=>?_)))
   subst hr
   refine wpAny_bind (thn h4 fun _ s5 ⟨x,H5,I5,r5,y5,st5,fr5⟩=>?_)
   have I5':=I5.pinned (fpk fr5) (T.obj _ _ st5)
   refine wpAny_bind (wpAny_mono (hg _ _ _ _ _ _ s5 _ H5 x u _ I5' r5 (step x H5 y5)) (fun _ s6 ⟨σ6,H6,I6,eσ,q6⟩=>?_) fun _ _ z=>hx0▸z)
   refine wpAny_bind (wpAny_mono (hc _ _ _ _ _ _ s6 σ6 H6 _ I6 q6) (fun ok s7 ⟨H7,I7,q7⟩=>?_) fun _ _ z=>z.elim)
   have back:∀{s8:Shared} {H8:Hp},Inv ((blk X (own++caps) sc cl { s2 with heap:=hp } H2 hp.objs.size (s2.heap.objs.size::fp)).wish xe0) ((pins++[(s2.heap.objs.size,{ cls:=.type "list",data:=.seq its.toArray cap })])++iH fp s5.heap) σ6 H8 s8 ->
     Inv ((blk X (own++caps) sc cl { s2 with heap:=hp } H2 hp.objs.size (s2.heap.objs.size::fp)).wish xe0) pins (cS own.length κ σ) H8 s8/\tn (i+1) s8.heap/\(∀b∈fp,H8 b=none)/\s8.heap.get? s2.heap.objs.size=some { cls:=.type "list",data:=.seq its.toArray cap }/\H8 s2.heap.objs.size=none:=by
    intro s8 H8 I8
    have pk:∀b∈fp,∀o,s5.heap.get? b=some o->s8.heap.get? b=some o/\H8 b=none:=fun b hb o e=>by
     have z:=I8.pin (b,o) (List.mem_append_right _ (List.mem_append_right _ (dP hb e)))
     exact⟨z.1,z.2.1⟩
    have zD:=I8.pin (s2.heap.objs.size,{ cls:=.type "list",data:=.seq its.toArray cap }) (List.mem_append_right _ (List.mem_append_left _ (List.mem_append_right _ (List.mem_singleton.mpr rfl))))
    refine⟨(I8.pins_of fun p hp=>I8.pin p (List.mem_append_right _ (List.mem_append_left _ (List.mem_append_left _ hp)))).weak ?_ fun j v e=>?_,T.keep _ _ _ st5 fun b hb o e=>(pk b hb o e).1,fun b hb=>?_,zD.1,zD.2.1⟩
    ·exact I3.len.trans I8.len.symm
    ·have hge:own.length<=j:=by
      refine Nat.le_of_not_lt fun q=>?_
      unfold cS at e
      rw [List.getElem?_append_left (by rw [List.length_replicate];exact q),List.getElem?_replicate,if_pos q] at e
      cases e
     have z:=congrArg (fun l=>l[j - own.length]?) eσ
     simp only [List.getElem?_drop] at z
     rw [show own.length+(j - own.length)=j by omega] at z
     rw [z]
     exact e
    ·obtain⟨o,e,_⟩:=T.obj _ _ st5 b hb
     exact(pk b hb o e).2
   cases ok with
   |false =>
    obtain⟨m',hm,w7⟩:=(if_neg Bool.false_ne_true)▸q7
    obtain⟨I8,st8,fr8,e8,n8⟩:=back I7
    exact wpAny_pure ⟨rfl,m',hm,i+1,ys,its,cap,H7,I8,st8,fr8,e8,n8,rv,hz,w7⟩
   |true =>
    have q7':=(if_pos rfl)▸q7
    refine wpAny_bind (wpAny_bind (wpAny_mono (he _ _ _ _ _ hps _ s7 σ6 H7 _ I7 q7') (fun y s8 ⟨v8,H8,I8,r8,m',hm,w8⟩=>?_) fun _ _ z=>hx0▸z))
    obtain⟨I9,st9,fr9,e9,n9⟩:=back I8
    have hl:=rv.length
    refine wpAny_bind (wpAny_list_append_plain (items:=its.toArray) ⟨cap,e9⟩ (fun h' hl' sb=>?_) (by rw [List.size_toArray,<-hl];exact hz))
    obtain⟨cap',e'⟩:=hl'
    refine wpAny_pure (wpAny_pure ⟨rfl,m',hm,i+1,ys++[v8],its++[y],cap',H8,?_,?_,fr9,?_,n9,bg.append rv (.cons r8 .nil),?_,w8⟩)
    ·exact I9.turned (t':=s8.toks) (fun b o hb e=>(sb.2 b hb).trans e) n9 hDC (.inl List.mem_cons_self) cellD pinD
    ·exact T.keep _ _ _ st9 fun b hb o e=>(sb.2 b (Nat.ne_of_lt (hfp b hb))).trans e
    ·rw [e']
     congr 3
     simp
    ·rw [List.length_append]
     exact hlt
 exact codeAny_compStart_list loop (T.self _ 0 _ _ _ (T.keep _ _ _ st2 fun b hb o e=>old _ _ (by rw [<-ehp];exact Heap.get?_push_of_some _ e)) loop)
end
section
variable{P:Program}{w:World}{K:W.Frag}{mg:Str->Option Value}{base:Heap}{N:List Str}{qual:Str}{scope:Scope}{f:Addr}{cd:Value}{A:Around}{outer:List Env}{s:Shared}{H:Hp}{E:XK}
theorem su{tg elt iter:Expr}{own caps:List Str}{κ:List Nat}{sc:Scope}{cl:List (Str × Addr)}{pos:Pos}{wi:TI}{g:TG}{te:TE}(S:iA (dI (CX1 P w) P w K mg base N qual scope f cd A outer s H E) caps sc cl)(hκ:κ.map (fun k=>N[k]?)=caps.map some)
  (hi:PI (dI (CX1 P w) P w K mg base N qual scope f cd A outer s H E) tg iter wi) (hg:∀s₀ H₀ C ex xe,PG ((blk (dI (CX1 P w) P w K mg base N qual scope f cd A outer s H E) (own++caps) sc cl s₀ H₀ C ex).wish xe) tg g)
  (he:∀s₀ H₀ C ex xe,cT (CX1 P w) ((blk (dI (CX1 P w) P w K mg base N qual scope f cd A outer s H E) (own++caps) sc cl s₀ H₀ C ex).wish xe) E->PE ((blk (dI (CX1 P w) P w K mg base N qual scope f cd A outer s H E) (own++caps) sc cl s₀ H₀ C ex).wish xe) elt te)
  (hs:∀x,foldedSetIterable iter (envOfC qual scope s.heap.objs.size f cd) x=pure x:=by intro _;rfl):PE (dI (CX1 P w) P w K mg base N qual scope f cd A outer s H E) (.ListComp elt [⟨tg,iter,[],0⟩] sc pos) (oI own.length κ wi g vW te) :=
 rB (X:=dI (CX1 P w) P w K mg base N qual scope f cd A outer s H E) (E:=E) rfl rfl rfl rfl (fun x cls d H' s hE h=>wpAny_mono h (fun _ s'' z=>⟨x,cls,d,H',rfl,z.1,z.2,hE⟩) (fun _ _ z=>z.elim)) rfl S hκ hi hg (fun s₀ H₀ C ex xe pins s σ H Q I h=>wpAny_tests_nil ⟨H,I,h⟩) he hs
end
section
variable{X:Cx}
end
section
variable{X:Cx}{pins:List (Addr × Obj)}{σ:St}
end
end L2
namespace HT
open PySem PySem.Spec PyProof.Rows
section
variable{prog:Program}{w:World}{A:Around}{E:Value->Shared->Prop}{s:Shared}
end
end HT
namespace L2
open PySem PySem.Spec PyProof.Rows
section
variable{X:Cx}
end
section
variable{X:Cx}{tg:Expr}
end
end L2
namespace HT
open PySem PySem.Spec PyProof.Rows
section
variable{prog:Program}{w:World}{K:Type}[DecidableEq K]{knd:KeyKind prog w K}{A:Around}{E:Value->Shared->Prop}{s:Shared}{r d:Addr}{kvs:List (K × Value)}{ep:Nat}
end
end HT
namespace L2
open PySem PySem.Spec PyProof.Rows
section
variable{X:Cx}
end
end L2
namespace HT
open PySem PySem.Spec PyProof.Rows
section
variable{prog:Program}{w:World}{A:Around}{E:Value->Shared->Prop}{s:Shared}
end
end HT
namespace L2
open PySem PySem.Spec PyProof.Rows
section
variable{X:Cx}
end
section
variable{P:Program}{w:World}
theorem Fly.thaw{outer:List Env}{H H':Hp}{s s':Shared}{x d:Addr}{cls:Value}{o:Obj}{u:HO}(f:Fly P w outer H s x cls H' s')(e:H' d=some (.frz o u))(h0:∀o' u',H d≠some (.frz o' u')):Fly P w outer H s x cls (upd H' d u) s':=by
 have nd:∀b,H' b=none->b≠d:=fun b n z=>by rw [z,e] at n;cases n
 have no:∀b v,H' b=some v->(∀o u,v≠.frz o u)->b≠d:=fun b v q n z=>by rw [z,e] at q;cases q;exact n _ _ rfl
 obtain⟨B,a0,fl,c1,c2⟩:=f.fl
 refine⟨f.os,f.bare,⟨f.un.keep,f.un.slot,fun b ob q n hx=>?_,f.un.there,fun b xs q=>?_,fun b ob v q=>?_,fun b ps q=>?_⟩,fun b v q=>?_,⟨B,a0,fl,fun b v q=>?_,c2⟩,?_⟩
 ·have z:=f.un.free b ob q n hx
  rw [am (nd b z)]
  exact z
 ·have z:=f.un.tups b xs q
  rw [am (no b _ z (fun _ _=>nofun))]
  exact z
 ·have z:=f.un.frzs b ob v q
  rw [am (fun w=>h0 ob v (by rw [<-w];exact q))]
  exact z
 ·obtain⟨more,z⟩:=f.un.tbls b ps q
  exact⟨more,by rw [am (no b _ z (fun _ _=>nofun))];exact z⟩
 ·have own:∀a b,H' b=some (.own a)->upd H' d u b=some (.own a):=fun a b z=>by rw [am (no b _ z (fun _ _=>nofun))];exact z
  have tup:∀b (xs:FxO),H' b=some xs.ho->upd H' d u b=some xs.ho:=fun b xs z=>by rw [am (no b _ z (by cases xs<;>exact(fun _ _=>nofun)))];exact z
  by_cases hb:b=d
  ·subst hb
   rw [ac] at q
   cases q
   exact(f.hok b _ e).2.stay (fun _ _ _ z=>z) (own b) tup
  ·rw [am hb] at q
   exact(f.hok b v q).stay (fun _ _ _ z=>z) (own b) tup
 ·by_cases hb:b=d
  ·subst hb
   exact c1 b _ e
  ·rw [am hb] at q
   exact c1 b v q
 ·rw [am (nd _ f.free)]
  exact f.free
variable{K:W.Frag}{mg:Str->Option Value}{base:Heap}{N:List Str}{qual:Str}{scope:Scope}{f:Addr}{cd:Value}{A:Around}{outer:List Env}{s:Shared}{H:Hp}{E:XK}
theorem wn:cT (CX1 P w) (dI (CX1 P w) P w K mg base N qual scope f cd A outer s H E) (fun c dd H'=>∃d o u,H' d=some (.frz o u)/\(∀o' u',H d≠some (.frz o' u'))/\E c dd (upd H' d u)):=fun pins σ H1 s1 e s' I h=>by
 obtain⟨x,cls,dd,H',rfl,fl,hd,d,o,u,e1,e2,q⟩:=h
 exact Fly.leave I rfl rfl rfl fl hd fun s'' g gd=>⟨x,cls,dd,_,rfl,g.thaw e1 e2,gd,q⟩
end
section
variable{X:Cx}{tg:Expr}
def vP:V->List V->Hp->VK->Prop:=fun x vs H Q=>∃l n xs y,x=.ref l/\vs=[.int ((n:Nat):Int),y]/\H l=some (.lst xs)/\n<=xs.length/\xs.length < sizeLine/\Q .non (upd H l (.lst (xs.take n++y::xs.drop n)))
theorem bg.takeV:∀{xs:List V} {us:List Value} (n:Nat),bg xs us->bg (xs.take n) (us.take n)
 |_,_,0,_=>.nil
 |_,_,_+1,.nil=>.nil
 |_,_,n+1,.cons a b=>.cons a (takeV n b)
theorem bg.dropV:∀{xs:List V} {us:List Value} (n:Nat),bg xs us->bg (xs.drop n) (us.drop n)
 |_,_,0,h=>h
 |_,_,_+1,.nil=>.nil
 |_,_,n+1,.cons _ b=>dropV n b
theorem ql:MtM X "list.insert" vP:=by
 intro pins s σ H x vs v us Q I rx rv h
 obtain⟨l,n,xs,y,rfl,rfl,hH,hn,hz,q⟩:=h
 cases rx
 obtain⟨u,u2,rfl,ru,ru2⟩:=rv.two
 obtain⟨tk,rfl⟩:=ru
 obtain⟨z,its,m,r,hl,e⟩:=I.lstM hH
 have hln:xs.length=its.length:=r.length
 have hsl:sizeLine < 2 ^ 63:=by decide
 have h3:(n:Int) < 2 ^ 63:=by
  have h4:sizeLine < 2 ^ 63:=hsl
  have h5:n < 2 ^ 63:=Nat.lt_of_le_of_lt hn (Nat.lt_trans hz h4)
  exact_mod_cast h5
 have h2:Builtin.List.listFitsIndex (n:Int)=true:=by
  unfold Builtin.List.listFitsIndex
  rw [Bool.and_eq_true]
  exact⟨decide_eq_true (Int.le_trans (by decide:-(2 ^ 63:Int)<=0) (Int.natCast_nonneg n)),decide_eq_true h3⟩
 have h6:¬(!Builtin.List.listFitsIndex (n:Int))=true:=by
  rw [h2]
  exact Bool.false_ne_true
 have h7:its.toArray.size<=sizeLine:=by
  rw [List.size_toArray]
  omega
 have hM:=@AutoSeq1.list_insert_list_int_val_1 l its.toArray m (n:Int) tk u2 h6 h7
 refine call_meets F.slot_list_insert ⟨_,e,rfl⟩ F.entry_list_insert (F.args_list_insert_3 _ _ _) @hM ⟨e,?_⟩
 refine⟨.non,_,I.lset (its':=its.take n++u2::its.drop n) hH e ?_ ((bg.takeV n r).append (.cons ru2 (bg.dropV n r))) ?_,rfl,q⟩
 ·have h0:¬((n:Int) < 0):=by omega
  have h1:min n its.length=n:=by omega
  simp [h0,h1,List.extract_eq_drop_take]
  exact List.take_of_length_le (by rw [List.length_drop];omega)
 ·rw [List.length_append,List.length_cons,List.length_take,List.length_drop]
  omega
end
section
variable{X:Cx}{pins:List (Addr × Obj)}{σ:St}{H:Hp}{s:Shared}{h':Heap}
theorem Inv.turnedL{t':Nat}{fp:List Addr}{p:Addr}{o:HO}(I:Inv X pins σ H s)(k:∀b ob,b∉fp->s.heap.get? b=some ob->h'.get? b=some ob)(hf:∀b∈fp,lc X pins H b)(hp:s.heap.objs.size<=p)
  (new:cG X.prog X.w (upd H p o) h' p o):Inv X pins σ (upd H p o) { s with heap:=h',toks:=t' }:=by
 have hn:H p=none:=I.hok.fresh hp
 have nn:∀b u,H b=some u->b∉fp:=fun b u q z=>by rw [(hf b z).1] at q;cases q
 have lt:∀b ob,s.heap.get? b=some ob->b≠p:=fun b ob q z=>absurd (Nat.lt_of_lt_of_le (Heap.lt_size q) (by rw [z];exact hp)) (Nat.lt_irrefl _)
 refine I.step (g':=s.gens) (d':=s.drawn) (ch:=fp) (fun b hb=>?_) (fun b ob _ _ hc q _=>k b ob hc q) (fun b ob _ _ hc q _=>⟨ob.slots,k b ob hc q⟩) (fun b ob hc q n=>by rw [am (lt b ob q)];exact n)
  (fun b ob hc q=>⟨ob,k b ob hc q⟩) (fun b xs q=>by rw [am (ax q hn)];exact q) (fun b ob u q=>by rw [am (ax q hn)];exact q) (fun b ps q=>⟨#[],by rw [am (ax q hn),q];simp⟩) (fun m hm=>?_) (fun b u q=>?_) I.bare
 ·have fe:=hf b hb
  exact⟨fe.2.2.2.1,fe.2.1,fe.2.2.2.2.1,fe.2.2.2.2.2⟩
 ·obtain⟨ob,es,ep,q,r⟩:=hm
  exact⟨ob,es,ep,k _ ob (fun z=>(hf _ z).2.1 rfl) q,r⟩
 ·by_cases hb:b=p
  ·subst hb
   rw [ac] at q
   cases q
   exact new
  ·rw [am hb] at q
   refine(I.hok b u q).stay (fun c v hc z=>?_) (fun c z=>by rw [am (ax z hn)];exact z) fun c xs z=>by rw [am (ax z hn)];exact z
   rcases hc with hc|hc
   ·rw [hc] at z ⊢
    exact k b v (nn b u q) z
   ·exact k c v (nn c _ hc) z
theorem Inv.turnedR{t':Nat}{fp:List Addr}(I:Inv X pins σ H s)(k:∀b ob,b∉fp->s.heap.get? b=some ob->h'.get? b=some ob)(hf:∀b∈fp,lc X pins H b):Inv X pins σ H { s with heap:=h',toks:=t' }:=by
 have nn:∀b u,H b=some u->b∉fp:=fun b u q z=>by rw [(hf b z).1] at q;cases q
 refine I.step (g':=s.gens) (d':=s.drawn) (ch:=fp) (fun b hb=>?_) (fun b ob _ _ hc q _=>k b ob hc q) (fun b ob _ _ hc q _=>⟨ob.slots,k b ob hc q⟩) (fun b ob hc q n=>n)
  (fun b ob hc q=>⟨ob,k b ob hc q⟩) (fun b xs q=>q) (fun b ob u q=>q) (fun b ps q=>⟨#[],by rw [q];simp⟩) (fun m hm=>?_) (fun b u q=>?_) I.bare
 ·have fe:=hf b hb
  exact⟨fe.2.2.2.1,fe.2.1,fe.2.2.2.2.1,fe.2.2.2.2.2⟩
 ·obtain⟨ob,es,ep,q,r⟩:=hm
  exact⟨ob,es,ep,k _ ob (fun z=>(hf _ z).2.1 rfl) q,r⟩
 ·refine(I.hok b u q).stay (fun c v hc z=>?_) (fun c z=>z) fun c xs z=>z
  rcases hc with hc|hc
  ·rw [hc] at z ⊢
   exact k b v (nn b u q) z
  ·exact k c v (nn c _ hc) z
end
structure zh(z TI TO i1 i2:Addr):Prop where
 TIz:TI≠z
 TOz:TO≠z
 i1z:i1≠z
 i2z:i2≠z
 TITO:TI≠TO
 TIi1:TI≠i1
 TIi2:TI≠i2
 TOi1:TO≠i1
 TOi2:TO≠i2
 i12:i1≠i2
section
variable{X:Cx}{es:List Expr}{k:Nat}{ps:Pos}
theorem vJ:bootBuiltins "zip"=some (.type "zip"):=by decide +kernel
end
theorem oH{p pos:Pos}{c cv:Value}(ls:List Value)(h:TriplesOk ls)(e:codeAmong p (ls++[rawInt pos.line,rawInt pos.col,c])=some cv) :
  codeAmong p ls=some cv\/(p.line=pos.line/\p.col=pos.col/\cv=c):=by
 fun_induction TriplesOk ls with
 |case1 =>
  simp only [List.nil_append,codeAmong,rawInt] at e
  split at e
  ·rename_i hc
   simp only [Bool.and_eq_true,beq_iff_eq] at hc
   cases e
   exact .inr ⟨by omega,by omega,rfl⟩
  ·cases e
 |case2 a t b u x rest ih =>
  simp only [List.cons_append,codeAmong] at e ⊢
  split at e
  ·rename_i hc;rw [if_pos hc];exact .inl e
  ·rename_i hc;rw [if_neg hc];exact ih h e
 |case3 ls h1 h2=>exact h.elim
theorem lC{p pos:Pos}(h1:p.line=pos.line)(h2:p.col=pos.col)(l:List Value):d8 l p=d8 l pos:=by
 fun_induction d8 l p with
 |case1 p l t c t' q t'' r hc=>rw [d8,<-h1,<-h2,if_pos hc]
 |case2 p l t c t' q t'' r hc ih=>rw [d8,<-h1,<-h2,if_neg hc];exact ih h1 h2
 |case3 p l h=>rw [d8];exact h
section
variable{X:Cx}{pins:List (Addr × Obj)}{σ:St}{H:Hp}{s:Shared}{P c:Addr}{ps:Array Value}{pos:Pos}{q:Str}
theorem Inv.mgP(I:Inv X pins σ H s){o:HO}(hP:H P=some o):mainGlobals≠P:=fun z=>by
 obtain⟨ob,es,ep,e,_⟩:=I.mod.glob
 have:=(I.bs _ _ e).2
 rw [z,hP] at this;cases this
theorem Inv.bltAt(I:Inv X pins σ H s){o:HO}(hP:H P=some o):s.heap.BuiltinsAt X.mg P:=by
 obtain⟨bm,ob,b1,b2,b3,b4,b5,b6⟩:=I.mod.bmn
 refine⟨bm,ob,b1,b2,fun z=>?_,fun z=>?_,I.bk _ _ b3,b4,b5,b6⟩
 ·obtain⟨og,es,ep,e,d,_⟩:=I.mod.glob
  rw [z,e] at b3;cases b3;rw [d] at b6;cases b6
 ·have:=(I.bs _ _ b3).2
  rw [z,hP] at this;cases this
theorem Inv.hitC{h':Heap}{f:Addr}{fd:FuncData}{oc:Value}{tk:Nat}(I:Inv X pins σ H s)(hc:H c=some (.cod q))(k:∀b o,s.heap.get? b=some o->h'.get? b=some o)(hs:s.heap.objs.size<=h'.objs.size)(hf:f=h'.objs.size) :
  Inv X pins σ (upd (upd H c (.cod q)) f (.fnc fd)) { s with heap:=h'.push { cls:=oc,data:=.func fd },toks:=tk }:=by
 have e:upd H c (.cod q)=H:=by funext b;unfold upd;split<;>simp_all
 subst hf
 rw [e]
 exact I.laid (fun b u z=>Heap.get?_push_of_some _ (k b u z)) hs ⟨_,_,_,Heap.get?_push_size _ rfl⟩
theorem Inv.missC{h':Heap}{f c':Addr}{fd:FuncData}{oc:Value}{tk:Nat}{tb:Array Value}(I:Inv X pins σ H s)(hP:H P=some (.tbl ps))(hq:d8 ps.toList pos=some q)(e:s.heap.get? P=some (W.tabObj tb))(tr:TriplesOk tb.toList)
  (al:∀(p:Pos) (q:Str),d8 ps.toList p=some q->∀cv,codeAmong p tb.toList=some cv->∃c,cv=Value.ref c/\H c=some (.cod q))
  (hx:Heap.ExtBut P s.heap h') (hge:s.heap.objs.size<=c') (hlt:c' < h'.objs.size) (hrec:h'.CodeRec (.ref c') q) (htb:h'.get? P=some (W.tabObj (tb++#[rawInt pos.line,rawInt pos.col,.ref c']))) (hf:f=h'.objs.size) :
  Inv X pins σ (upd (upd H c' (.cod q)) f (.fnc fd)) { s with heap:=h'.push { cls:=oc,data:=.func fd },toks:=tk }:=by
 subst hf
 have lt:∀b u,H b=some u->b < s.heap.objs.size:=fun b u z=>Nat.lt_of_not_le fun y=>by rw [I.hok.fresh y] at z;cases z
 have new:∀b,b < s.heap.objs.size->upd (upd H c' (.cod q)) h'.objs.size (.fnc fd) b=H b:=fun b hb=>by
  rw [am (Nat.ne_of_lt (Nat.lt_trans (Nat.lt_of_lt_of_le hb hge) hlt)),am (Nat.ne_of_lt (Nat.lt_of_lt_of_le hb hge))]
 have kp:∀b o,b≠P->s.heap.get? b=some o->(h'.push { cls:=oc,data:=.func fd }).get? b=some o:=fun b o hb z=>Heap.get?_push_of_some _ (hx b o hb z)
 have nP:∀b,H b=none->b≠P:=fun b n z=>by rw [z,hP] at n;cases n
 refine I.step (g':=s.gens) (d':=s.drawn) (ch:=[]) (fun _ z=>nomatch z) (fun b ob _ _ _ z n=>kp b ob (nP b n) z) (fun b ob _ _ _ z n=>⟨ob.slots,kp b ob (nP b n) z⟩) (fun b ob _ z n=>by rw [new b (Heap.lt_size z)];exact n)
  (fun b ob _ z=>?_) (fun b xs z=>by rw [new b (lt _ _ z)];exact z) (fun b ob u z=>by rw [new b (lt _ _ z)];exact z) (fun b ps z=>⟨#[],by rw [new b (lt _ _ z),z];simp⟩) (fun m hm=>?_) (fun b u z=>?_) I.bare
 ·by_cases hb:b=P
  ·subst hb;exact⟨_,Heap.get?_push_of_some _ htb⟩
  ·exact⟨ob,kp b ob hb z⟩
 ·obtain⟨ob,es,ep,z,r⟩:=hm
  exact⟨ob,es,ep,kp _ ob (nP _ I.free) z,r⟩
 ·by_cases h1:b=h'.objs.size
  ·subst h1;rw [ac] at z;cases z
   exact⟨_,_,_,Heap.get?_push_size _ rfl⟩
  ·rw [am h1] at z
   by_cases h2:b=c'
   ·subst h2;rw [ac] at z;cases z
    obtain⟨c₂,oc',vs,t,e2,hoc,r⟩:=hrec
    cases e2
    exact⟨_,oc',vs,t,rfl,Heap.get?_push_of_some _ hoc,r⟩
   ·rw [am h2] at z
    by_cases h3:b=P
    ·subst h3
     rw [hP] at z;cases z
     have hl:(tb++#[rawInt pos.line,rawInt pos.col,Value.ref c']).toList=tb.toList++[rawInt pos.line,rawInt pos.col,.ref c']:=by simp
     refine⟨_,Heap.get?_push_of_some _ htb,by rw [hl];exact TriplesOk_snoc _ _ _ _ tr,fun p q' hq' cv hcv=>?_⟩
     rw [hl] at hcv
     rcases oH _ tr hcv with hcv|⟨e1,e2,rfl⟩
     ·obtain⟨c,e1,e2⟩:=al p q' hq' cv hcv
      exact⟨c,e1,by rw [new c (lt _ _ e2)];exact e2⟩
     ·rw [lC e1 e2,hq] at hq'
      cases hq'
      exact⟨c',rfl,by rw [am (Nat.ne_of_lt hlt),ac]⟩
    ·refine(I.hok b u z).stay (fun a v ha y=>kp a v (fun w=>?_) y) (fun a y=>by rw [new a (lt _ _ y)];exact y) fun a xs y=>by rw [new a (lt _ _ y)];exact y
     subst w
     rcases ha with w|w
     ·exact h3 w.symm
     ·rw [hP] at w;cases w
def Ao(P:Addr)(pos:Pos)(q:Str)(i:Nat)(mk:Addr->Value->Value->FuncData):TS:=fun D σ H=>(∃ps,H P=some (.tbl ps)/\d8 ps.toList pos=some q) /\
 ∀f c ctv doc,H f=none->f≠c->(H c=none\/H c=some (.cod q))->D.nx (σ.set i (some (.ref f))) (upd (upd H c (.cod q)) f (.fnc (mk c ctv doc)))
theorem xz{i:Nat}{name ident:Str}{params:Arguments}{body:List Stmt}{scope:Scope}{clos:List (Str × Addr)}(hN:X.N.Nodup)(hi:X.N[i]?=some name)(hx:Loc X.env.scope name)(hcode:X.env.code=.ref c)(C:W.CodeHd X.base c P)(hq:qualnameIn X.env name name=q)
  (hd0:params.defaults=[]:=by rfl) (hk0:params.kw_defaults=[]:=by rfl) (ha:annTrees params none X.env=[]:=by rfl) (hcl:closureFor scope X.env=pure clos:=by rfl) (hf:X.fn name=true\/X.env.scope.names.lookup name=some .local:=by first|exact .inl rfl|exact .inr rfl|assumption) :
  PS X (.FunctionDef name params body [] none [] scope none name pos) (Ao P pos q i fun c' ctv doc=>W.fnX name q params body scope clos .none .none doc ((X.mg "__name__").getD .none) none (.ref c') ctv):=by
 intro pins s σ H D I h
 obtain⟨⟨ps,hP,hqa⟩,h⟩:=h
 obtain⟨tb,e,tr,al⟩:=I.hok P _ hP
 refine W.nestDef_K hd0 hk0 ha ?_
 rw [hq]
 cases hh:codeAmong pos tb.toList with
 |some cv =>
  obtain⟨c',rfl,hc⟩:=al pos q hqa cv hh
  refine W.makeFunction_hit (mg:=X.mg) hcl I.ok.glob (I.mod.glob.keeps I.bk) hcode (C.keeps I.bk) e tr hh (I.bltAt hP) fun ctv doc h' tk hk hsz=>?_
  have hn:H h'.objs.size=none:=I.hok.fresh hsz
  exact cM (v:=.ref h'.objs.size) (I.hitC hc hk hsz rfl) hN hi hx rfl (fun s' I'=>⟨_,_,I',h _ c' ctv doc hn (fun z=>by rw [z,hc] at hn;cases hn) (.inr hc)⟩) hf
 |none =>
  refine W.makeFunction_K (mg:=X.mg) hcl I.ok.glob (I.mod.glob.keeps I.bk) hcode (C.keeps I.bk) e tr hh (I.mgP hP) (I.bltAt hP) fun c' ctv doc h' tk hx' hge hlt hrec htb=>?_
  exact cM (v:=.ref h'.objs.size) (I.missC hP hqa e tr al hx' hge hlt hrec htb rfl) hN hi hx rfl (fun s' I'=>⟨_,_,I',h _ c' ctv doc (I.hok.fresh (Nat.le_trans hge (Nat.le_of_lt hlt))) (Nat.ne_of_gt hlt) (.inl (I.hok.fresh hge))⟩) hf
end
def dropC(ads:List Addr)(H:Hp):Hp:=fun b=>if b∈ads then none else H b
def kU(ads:List Addr)(H H':Hp):Hp:=fun b=>if b∈ads then H b else H' b
theorem dU{ads:List Addr}{H:Hp}{b:Addr}(h:b∈ads):dropC ads H b=none:=if_pos h
theorem ck{ads:List Addr}{H:Hp}{b:Addr}(h:b∉ads):dropC ads H b=H b:=if_neg h
theorem kz{ads:List Addr}{H H':Hp}{b:Addr}(h:b∈ads):kU ads H H' b=H b:=if_pos h
theorem gx{ads:List Addr}{H H':Hp}{b:Addr}(h:b∉ads):kU ads H H' b=H' b:=if_neg h
abbrev il(H:Hp):List Addr->List V->Prop:=Paired fun c v=>∃o,H c=some (.frz o (.cel v))
def eU(H:Hp)(ads:List Addr):Prop:=∀c∈ads,∃o v,H c=some (.frz o (.cel v))
theorem il.all{H:Hp}:∀{ads:List Addr} {cvs:List V},il H ads cvs->eU H ads
 |_,_,.nil=>fun _ z=>nomatch z
 |_,_,.cons ⟨o,r⟩ t=>fun c hc=>by
  rcases List.mem_cons.mp hc with rfl|hc
  ·exact⟨o,_,r⟩
  ·exact il.all t c hc
theorem il.get{H:Hp}:∀{ads:List Addr} {cvs:List V} {i:Nat} {c:Addr},il H ads cvs->ads[i]?=some c->∃v o,cvs[i]?=some v/\H c=some (.frz o (.cel v))
 |_,_,_,_,.nil,e=>by simp at e
 |_,_,0,_,.cons ⟨o,r⟩ _,e=>by simp at e;subst e;exact⟨_,o,rfl,r⟩
 |_,_,i+1,c,.cons _ t,e=>by
  obtain⟨v,o,h1,h2⟩:=il.get (i:=i) (c:=c) t (by simpa using e)
  exact⟨v,o,by simpa using h1,h2⟩
theorem il.same{H H':Hp}(s:aH H H'):∀{ads:List Addr} {cvs:List V},il H ads cvs->il H' ads cvs
 |_,_,.nil=>.nil
 |_,_,.cons ⟨o,r⟩ t=>.cons ⟨o,s _ _ r⟩ (il.same s t)
theorem aH.dropC{H0 H:Hp}{ads:List Addr}(s:aH H0 H)(n:∀c∈ads,H0 c=none):aH H0 (dropC ads H):=fun b o e=>by
 rw [ck fun z=>by rw [n b z] at e;cases e]
 exact s b o e
section
variable{P:Program}{w:World}{H H':Hp}{h h':Heap}{ads:List Addr}{fs:List Addr}
theorem HOk.drop(x:HOk P w H h)(f:eU H ads):HOk P w (dropC ads H) h:=fun b u e=>by
 by_cases hb:b∈ads
 ·rw [dU hb] at e;cases e
 ·rw [ck hb] at e
  have no:∀a o,H a=some o->(∀ob v,o≠.frz ob (.cel v))->dropC ads H a=some o:=fun a o z n=>by
   rw [ck fun y=>by obtain⟨ob,v,q⟩:=f a y;rw [z] at q;exact n ob v (Option.some.inj q)]
   exact z
  exact(x b u e).stay (fun _ _ _ q=>q) (fun a z=>no a _ z fun _ _=>nofun) fun a xs z=>no a _ z (by cases xs<;>exact fun _ _=>nofun)
theorem HOk.add(x:HOk P w H h)(x':HOk P w H' h')(f:eU H ads)(n:∀c∈ads,H' c=none)(k:∀c∈ads,∀o,h.get? c=some o->h'.get? c=some o):HOk P w (kU ads H H') h':=fun b u e=>by
 by_cases hb:b∈ads
 ·rw [kz hb] at e
  obtain⟨o,v,q⟩:=f b hb
  rw [q] at e;cases e
  obtain⟨e1,u,r,ob,e2,d⟩:=x b _ q
  exact⟨k b hb _ e1,u,r,ob,k b hb _ e2,d⟩
 ·rw [gx hb] at e
  have no:∀a o,H' a=some o->kU ads H H' a=some o:=fun a o z=>by
   rw [gx fun y=>by rw [n a y] at z;cases z]
   exact z
  exact(x' b u e).stay (fun _ _ _ q=>q) (fun a z=>no a _ z) fun a xs z=>no a _ z
theorem Un.drop(x:HOk P w H h)(x':HOk P w H' h')(f:eU H ads)(u:Un fs [] H H' h h'):Un fs [] (dropC ads H) (dropC ads H') h h':=by
 have f':eU H' ads:=fun c hc=>let ⟨o,v,e⟩:=f c hc;⟨o,v,u.frzs _ _ _ e⟩
 have no:∀a o,H a=some o->(∀ob v,o≠.frz ob (.cel v))->a∉ads:=fun a o z n y=>by obtain⟨ob,v,q⟩:=f a y;rw [z] at q;exact n ob v (Option.some.inj q)
 have kp:∀b o,b∈ads->h.get? b=some o->h'.get? b=some o:=fun b o hb e=>by
  obtain⟨o1,v,q⟩:=f b hb
  obtain⟨e1,_⟩:=x b _ q
  obtain⟨e2,_⟩:=x' b _ (u.frzs _ _ _ q)
  rw [e] at e1;cases e1;exact e2
 refine⟨fun b o e n hb hx=>?_,fun b o e n hb hx=>?_,fun b o e n hx=>?_,u.there,fun b xs e=>?_,fun b o v e=>?_,fun b ps e=>?_⟩
 ·by_cases hc:b∈ads
  ·exact kp b o hc e
  ·rw [ck hc] at n;exact u.keep b o e n hb hx
 ·by_cases hc:b∈ads
  ·exact⟨o.slots,kp b o hc e⟩
  ·rw [ck hc] at n;exact u.slot b o e n hb hx
 ·by_cases hc:b∈ads
  ·exact dU hc
  ·rw [ck hc] at n ⊢;exact u.free b o e n hx
 ·by_cases hc:b∈ads
  ·rw [dU hc] at e;cases e
  ·rw [ck hc] at e ⊢;exact u.tups b xs e
 ·by_cases hc:b∈ads
  ·rw [dU hc] at e;cases e
  ·rw [ck hc] at e ⊢;exact u.frzs b o v e
 ·by_cases hc:b∈ads
  ·rw [dU hc] at e;cases e
  ·rw [ck hc] at e ⊢;exact u.tbls b ps e
theorem Un.adds(x:HOk P w H h)(f:eU H ads)(nf:∀c∈ads,c∉fs)(u:Un fs [] (dropC ads H) H' h h') :
  Un fs [] H (kU ads H H') h h'/\(∀c∈ads,H' c=none)/\∀c∈ads,∀o,h.get? c=some o->h'.get? c=some o:=by
 have th:∀c∈ads,∃o,h.get? c=some o:=fun c hc=>let ⟨o,v,e⟩:=f c hc;⟨o,(x c _ e).1⟩
 refine⟨⟨fun b o e n hb hx=>?_,fun b o e n hb hx=>?_,fun b o e n hx=>?_,u.there,fun b xs e=>?_,fun b o v e=>?_,fun b ps e=>?_⟩,fun c hc=>let ⟨o,e⟩:=th c hc;u.free c o e (dU hc) (by simp),fun c hc o e=>u.keep c o e (dU hc) (nf c hc) (by simp)⟩
 ·exact u.keep b o e (by unfold dropC;split<;>first|rfl|exact n) hb hx
 ·exact u.slot b o e (by unfold dropC;split<;>first|rfl|exact n) hb hx
 ·by_cases hc:b∈ads
  ·rw [kz hc];exact n
  ·rw [gx hc];exact u.free b o e (by rw [ck hc];exact n) hx
 ·by_cases hc:b∈ads
  ·rw [kz hc];exact e
  ·rw [gx hc];exact u.tups b xs (by rw [ck hc];exact e)
 ·by_cases hc:b∈ads
  ·rw [kz hc];exact e
  ·rw [gx hc];exact u.frzs b o v (by rw [ck hc];exact e)
 ·by_cases hc:b∈ads
  ·exact⟨#[],by rw [kz hc,e];simp⟩
  ·obtain⟨m,z⟩:=u.tbls b ps (by rw [ck hc];exact e)
   exact⟨m,by rw [gx hc];exact z⟩
end
structure CXF(P:Program)(w:World)(CX:CXT):Prop where
 drop:∀(outer:List Env) (H:Hp) (ads:List Addr) (s:Shared) (E:XK) (e:Value) (s':Shared),HOk P w H s.heap->eU H ads->CX outer H s (fun c d H'=>E c d (dropC ads H')) e s'->CX outer (dropC ads H) s E e s'
 add:∀(outer:List Env) (H:Hp) (ads:List Addr) (s:Shared) (E:XK) (e:Value) (s':Shared),HOk P w H s.heap->eU H ads->(∀b∈frs outer,H b=none)->CX outer (dropC ads H) s (fun c d H'=>(∀a∈ads,H' a=none)->E c d (kU ads H H')) e s'->CX outer H s E e s'
theorem zG{P:Program}{w:World}:CXF P w (CX1 P w) where
 drop:=fun outer H ads s E e s' ok f h=>by
  obtain⟨x,cls,d,H',rfl,fl,hd,hE⟩:=h
  have f':eU H' ads:=fun c hc=>let ⟨o,v,e⟩:=f c hc;⟨o,v,fl.un.frzs _ _ _ e⟩
  obtain⟨B,a0,g,c1,c2⟩:=fl.fl
  refine⟨x,cls,d,dropC ads H',rfl,⟨fl.os,fl.bare,Un.drop ok fl.hok f fl.un,fl.hok.drop f',⟨B,a0,g,fun b o e=>c1 b o ?_,c2⟩,?_⟩,hd,hE⟩
  ·by_cases hb:b∈ads
   ·rw [dU hb] at e;cases e
   ·rw [ck hb] at e;exact e
  ·unfold dropC;split
   ·rfl
   ·exact fl.free
 add:=fun outer H ads s E e s' ok f nf h=>by
  obtain⟨x,cls,d,H',rfl,fl,hd,hE⟩:=h
  obtain⟨B,a0,g,c1,c2⟩:=fl.fl
  have na:∀c∈ads,c∉frs outer:=fun c hc z=>by obtain⟨o,v,e⟩:=f c hc;rw [nf c z] at e;cases e
  obtain⟨u,n,k⟩:=Un.adds ok f na fl.un
  have inB:∀c∈ads,∃u,B.get? c=some u:=fun c hc=>by
   obtain⟨o,v,e⟩:=f c hc
   exact c2 c o (ok c _ e).1 (na c hc)
  refine⟨x,cls,d,kU ads H H',rfl,⟨fl.os,fl.bare,u,HOk.add ok fl.hok f n k,⟨B,a0,g,fun b o e=>?_,c2⟩,?_⟩,hd,hE n⟩
  ·by_cases hb:b∈ads
   ·exact inB b hb
   ·rw [gx hb] at e;exact c1 b o e
  ·rw [gx fun z=>by obtain⟨u,e⟩:=inB x z;rw [g.2.1] at e;cases e]
   exact fl.free
inductive eR (X:Cx):List (Nat × Str × Addr)->Prop
 |nil:eR X []
 |cons {i:Nat} {y:Str} {c:Addr} {l:List (Nat × Str × Addr)} (h1:X.N[i]?=some y) (h2:X.env.kindOf y=some .cell) (h3:X.env.cells.lookup y=some c) (h4:X.fn y=true) (r:eR X l):eR X ((i,y,c)::l)
theorem eR.mem{X:Cx}:∀{l:List (Nat × Str × Addr)},eR X l->∀p∈l,X.N[p.1]?=some p.2.1/\X.env.kindOf p.2.1=some .cell/\X.env.cells.lookup p.2.1=some p.2.2/\X.fn p.2.1=true
 |_,.nil=>fun _ z=>nomatch z
 |_,.cons h1 h2 h3 h4 r=>fun p hp=>by
  rcases List.mem_cons.mp hp with rfl|hp
  ·exact⟨h1,h2,h3,h4⟩
  ·exact r.mem p hp
theorem eR.nodup{X:Cx}(ok:X.Ok):∀{l:List (Nat × Str × Addr)},eR X l->(l.map (·.2.1)).Nodup->(l.map (·.2.2)).Nodup
 |_,.nil,_=>List.nodup_nil
 |_,.cons (y:=y) (c:=c) h1 h2 h3 _ r,nd=>by
  obtain⟨n1,n2⟩:=List.nodup_cons.mp nd
  refine List.nodup_cons.mpr ⟨fun z=>?_,r.nodup ok n2⟩
  obtain⟨p,hp,e⟩:=List.mem_map.mp z
  have h4:=(r.mem p hp).2.2.1
  have e':p.2.2=c:=e
  rw [e'] at h4
  have:p.2.1=y:=ok.inj _ _ _ h4 h3
  exact n1 (List.mem_map.mpr ⟨p,hp,this⟩)
theorem qV{X:Cx}{pins:List (Addr × Obj)}{σ:St}{H:Hp}{s:Shared}(I:Inv X pins σ H s):∀{l:List (Nat × Str × Addr)} {cvs:List V},eR X l->(l.map (·.2.2)).Nodup->Paired (fun p v=>σ[p.1]?=some (some v)) l cvs ->
  ∃g:Addr->Option HO,il g (l.map (·.2.2)) cvs/\(∀c,c∉l.map (·.2.2)->g c=none)/\∀c o,g c=some o->∃ob v,o=.frz ob (.cel v)/\s.heap.get? c=some ob/\∃u,br v u/\s.heap.IsCell c (some u)
 |_,_,.nil,_,.nil=>⟨fun _=>none,.nil,fun _ _=>rfl,fun _ _ z=>nomatch z⟩
 |_,_,.cons (i:=i) (y:=y) (c:=c) h1 h2 h3 _ r,nd,.cons (b:=v) e t=>by
  obtain⟨n1,n2⟩:=List.nodup_cons.mp nd
  obtain⟨g,f1,f2,f3⟩:=qV I r n2 t
  obtain⟨m,hn,hl⟩:=I.loc
  obtain⟨u,rv,lk⟩:=hl i y v h1 e (.inr (.inl h2))
  have cel:s.heap.IsCell c (some u):=by
   rcases lk with ⟨k,_⟩|⟨_,c',e1,e2⟩
   ·rw [h2] at k;cases k
   ·rw [h3] at e1;cases e1;exact e2
  obtain⟨ob,ho,hd⟩:=id cel
  refine⟨fun b=>if b=c then some (.frz ob (.cel v)) else g b,.cons ⟨ob,if_pos rfl⟩ ?_,fun b hb=>?_,fun b o z=>?_⟩
  ·have up:∀{as:List Addr} {vs:List V},c∉as->il g as vs->il (fun b=>if b=c then some (.frz ob (.cel v)) else g b) as vs:=by
    intro as
    induction as with
    |nil=>intro vs _ h;cases h;exact .nil
    |cons a as ih =>
     intro vs hn h
     cases h with
     |cons r t =>
      obtain⟨o,r⟩:=r
      exact .cons ⟨o,(if_neg fun z=>hn (by rw [<-z];exact .head _)).trans r⟩ (ih (fun z=>hn (.tail _ z)) t)
   exact up n1 f1
  ·have:b≠c:=fun z=>hb (by rw [z];exact .head _)
   show(if b=c then _ else _)=_
   rw [if_neg this]
   exact f2 b fun z=>hb (.tail _ z)
  ·by_cases hb:b=c
   ·subst hb
    have z':=(if_pos rfl).symm.trans z
    cases z'
    exact⟨ob,v,rfl,ho,u,rv,cel⟩
   ·have z':=(if_neg hb).symm.trans z
    exact f3 b o z'
section
variable{X:Cx}{CX:CXT}{k:Nat}{f C:Addr}{fd:FuncData}{ps:List Str}{sp:Sp}{dvs:List V}{ds:List Value}{E:XK}{x m:Str}{p pos apos:Pos}{e o:Expr}{es:List Expr}{ta:TE}{t:TA}
theorem vw{pins:List (Addr × Obj)}{σ:St}{H:Hp}{s:Shared}{Q:VK}{us:List Value}{vs cvs:List V}{l:List (Nat × Str × Addr)}(fx:CXF X.prog X.w CX)(F:aV X.prog X.w X.K X.mg X.base CX k f fd ps sp)(hr:cA k X.A)(hb:aL X.K fd ps ds)(hd:bg dvs ds)(hx:∀(e:Value) (s':Shared),CX X.stack H s E e s'->X.xe e s')
  (hl:eR X l) (hnd:(l.map (·.2.1)).Nodup) (I:Inv X pins σ H s) (r:bg vs us) (hc:Paired (fun p v=>σ[p.1]?=some (some v)) l cvs)
  (h:∀H2,dropC (l.map (·.2.2)) H2=H->aH H H2->(∀c∈l.map (·.2.2),H c=none)->il H2 (l.map (·.2.2)) cvs->sp (vs++dvs) H2 (fun v H'=>Q v (dropC (l.map (·.2.2)) H')) (fun c d H'=>E c d (dropC (l.map (·.2.2)) H'))):wpAny (model X.prog X.w) X.A (call (.ref f) us) (EP X pins σ Q) X.xe s:=by
 have nd:=hl.nodup I.ok hnd
 obtain⟨g,g1,g2,g3⟩:=qV I hl nd hc
 have cn:∀c∈l.map (·.2.2),H c=none:=fun c hc=>by
  obtain⟨p,hp,rfl⟩:=List.mem_map.mp hc
  exact I.freeC _ _ (hl.mem p hp).2.2.1
 have hnF:∀c∈l.map (·.2.2),c∉frs X.stack:=fun c hc z=>by
  obtain⟨p,hp,rfl⟩:=List.mem_map.mp hc
  rcases List.mem_cons.mp (I.stkSub _ z) with y|y
  ·exact I.cne _ _ (hl.mem p hp).2.2.1 y
  ·obtain⟨_,of,hof,_⟩:=I.ok.funs.mem y
   exact Nat.lt_irrefl _ (Nat.lt_of_lt_of_le (Heap.lt_size hof) (I.ok.cab _ _ (hl.mem p hp).2.2.2 (hl.mem p hp).2.2.1))
 have hnB:∀c∈l.map (·.2.2),X.base.get? c=none:=fun c hc=>by
  obtain⟨p,hp,rfl⟩:=List.mem_map.mp hc
  exact Heap.get?_none_of_le (Nat.le_trans I.ok.bsz (I.ok.cab _ _ (hl.mem p hp).2.2.2 (hl.mem p hp).2.2.1))
 generalize hads:l.map (·.2.2)=ads at *
 have hH2:∃H2:Hp,dropC ads H2=H/\aH H H2/\il H2 ads cvs/\∀b o,H2 b=some o->(b∉ads/\H b=some o)\/(b∈ads/\g b=some o):=by
  refine⟨fun b=>if b∈ads then g b else H b,?_,fun b o e=>?_,?_,fun b o e=>?_⟩
  ·funext b
   unfold dropC
   by_cases hb:b∈ads
   ·rw [if_pos hb];exact(cn b hb).symm
   ·rw [if_neg hb];exact if_neg hb
  ·show(if b∈ads then g b else H b)=_
   rw [if_neg fun z=>by rw [cn b z] at e;cases e]
   exact e
  ·have up:∀{as:List Addr} {vs:List V},(∀a∈as,a∈ads)->il g as vs->il (fun b=>if b∈ads then g b else H b) as vs:=by
    intro as
    induction as with
    |nil=>intro vs _ h;cases h;exact .nil
    |cons a as ih =>
     intro vs hn h
     cases h with
     |cons r t =>
      obtain⟨o,r⟩:=r
      exact .cons ⟨o,(if_pos (hn _ (.head _))).trans r⟩ (ih (fun z hz=>hn z (.tail _ hz)) t)
   exact up (fun _ z=>z) g1
  ·by_cases hb:b∈ads
   ·exact .inr ⟨hb,(if_pos hb).symm.trans e⟩
   ·exact .inl ⟨hb,(if_neg hb).symm.trans e⟩
 obtain⟨H2,e2,sm,fz,cs⟩:=hH2
 have ok2:HOk X.prog X.w H2 s.heap:=fun b o e=>by
  rcases cs b o e with ⟨_,q⟩|⟨_,q⟩
  ·exact(I.hok b o q).stay (fun _ _ _ z=>z) (fun a z=>sm a _ z) fun a xs z=>sm a _ z
  ·obtain⟨ob,v,rfl,h1,u,h2,h3⟩:=g3 b o q
   exact⟨h1,u,h2,h3⟩
 have e0:=I.env0
 have e02:tR X.prog X.w X.K X.mg X.base X.A X.stack s H2:=⟨e0.frames,e0.mod,fun b o e=>⟨(e0.bs b o e).1,?_⟩,e0.bsz,e0.funs,fun b hb=>?_,ok2,e0.bare⟩
 ·have r2:bg (vs++dvs) (us++ds):=r.append hd
  have hq:=h H2 e2 sm cn fz
  have hlen:(us++ds).length=ps.length:=by rw [<-r2.length];exact F.len _ _ _ _ hq
  refine wpAny_call (codeAny_mono (F.run X.A X.stack s H2 ⟨us,[]⟩ (us++ds) (vs++dvs) _ _ hr e02 (hb s us I.kIn hlen) r2 hq) fun r s' hq=>?_)
  have fa:=fz.all
  cases r with
  |error e=>exact hx e s' (by rw [<-e2];exact fx.drop _ _ _ _ _ _ _ ok2 fa hq)
  |ok fl =>
   cases fl with
   |ret u =>
    obtain⟨v,H',os,bare,un,hok,rv,q⟩:=hq
    have f':eU H' ads:=fun c hc=>let ⟨o,v,e⟩:=fa c hc;⟨o,v,un.frzs _ _ _ e⟩
    exact I.after ⟨v,dropC ads H',os,bare,e2▸Un.drop ok2 hok fa un,hok.drop f',rv,q⟩
   |next=>exact False.elim hq
   |brk=>exact False.elim hq
   |cont=>exact False.elim hq
 ·cases q:H2 b with
  |none=>rfl
  |some u =>
   rcases cs b u q with ⟨_,z⟩|⟨hb,z⟩
   ·rw [(e0.bs b o e).2] at z;cases z
   ·rw [hnB b hb] at e;cases e
 ·cases q:H2 b with
  |none=>rfl
  |some u =>
   rcases cs b u q with ⟨_,z⟩|⟨hc,z⟩
   ·rw [e0.frf b hb] at z;cases z
   ·exact absurd hb (hnF b hc)
def wI(sp:Sp)(dvs:List V)(E:XK)(l:List (Nat × Str × Addr))(t:TA):TE:=fun σ H Q=>t σ H fun vs H1=>∃cvs,Paired (fun p v=>σ[p.1]?=some (some v)) l cvs /\
 ∀H2,dropC (l.map (·.2.2)) H2=H1->aH H1 H2->(∀c∈l.map (·.2.2),H1 c=none)->il H2 (l.map (·.2.2)) cvs->sp (vs++dvs) H2 (fun v H'=>Q v (dropC (l.map (·.2.2)) H')) (fun c d H'=>E c d (dropC (l.map (·.2.2)) H'))
theorem sR{l:List (Nat × Str × Addr)}(fx:CXF X.prog X.w CX)(F:aV X.prog X.w X.K X.mg X.base CX k f fd ps sp)(hr:cA k X.A)(hg:Gl X x)(hm:X.mg x=some (.ref f))(hk:W.keepIn X.K (.ref f)=true)(hb:aL X.K fd ps ds)(hd:bg dvs ds)(hx:cT CX X E)
  (hl:eR X l) (hnd:(l.map (·.2.1)).Nodup) (ha:PA X (e::es) t) (hdb:(x==("__debug__":Str))=false:=by decide) (he:starEach (e::es) X.env=(false,eval e X.env)::starEach es X.env:=by rfl) (hpl:(backTo pos (starEach es X.env)).any (·.1)=false:=by rfl) :
  PE X (.Call (.Name x p) (e::es) [] pos) (wI sp dvs E l t):=by
 intro pins s σ H Q I h
 refine wpAny_Call_Name_kw (gn I hg hm ?_ hdb)
 refine W.callWith_K (h₀:=X.base) I.ok.mod.kin hk (thn (ha pos pins s σ H _ I h) fun us s1 ⟨vs,H1,I1,r,q⟩=>⟨I1.kIn,?_⟩) he hpl
 obtain⟨cvs,hc,q⟩:=q
 exact vw fx F hr hb hd (fun e s'=>hx pins σ H1 s1 e s' I1) hl hnd I1 r hc q
def wN(X:Cx)(CX:CXT)(E:XK)(i:Nat)(t:TA):TE:=fun σ H Q=>∃f fd,σ[i]?=some (some (.ref f))/\H f=some (.fnc fd)/\t σ H fun vs H1=>∃fd ps sp k,H1 f=some (.fnc fd)/\aV X.prog X.w X.K X.mg X.base CX k f fd ps sp/\cA k X.A/\aL X.K fd ps []/\sp vs H1 Q E
theorem Inv.fnAt{pins:List (Addr × Obj)}{σ:St}{H:Hp}{s:Shared}(I:Inv X pins σ H s)(h:H f=some (.fnc fd)):W.FnAt f s.heap:=let ⟨oc,od,sl,e⟩:=I.hok f _ h;⟨oc,od,fd,sl,e⟩
theorem sF{i:Nat}(hN:PE X (.Name x p) (yJ i))(hx:cT CX X E)(ha:PA X (e::es) t)(he:starEach (e::es) X.env=(false,eval e X.env)::starEach es X.env:=by rfl)(hpl:(backTo pos (starEach es X.env)).any (·.1)=false:=by rfl) :
  PE X (.Call (.Name x p) (e::es) [] pos) (wN X CX E i t):=by
 intro pins s σ H Q I h
 obtain⟨f,fd,hi,hf,h⟩:=h
 refine wpAny_Call_Name_kw (thn (hN pins s σ H (fun v H'=>v=.ref f/\H'=H) I ⟨_,hi,rfl,rfl⟩) fun u s1 ⟨v,H1,I1,rv,e1,e2⟩=>?_)
 subst e1;subst e2
 obtain rfl:u=Value.ref f:=rv
 refine W.callWith_F (I1.fnAt hf) (thn (ha pos pins s1 σ H1 _ I1 h) fun us s2 ⟨vs,H2,I2,r,q⟩=>?_) he hpl
 obtain⟨fd,ps,sp,k,hf2,F,hr,hb,q⟩:=q
 exact⟨I2.fnAt hf2,uk (dvs:=[]) F hr hb .nil hx I2 r (by rw [List.append_nil];exact q)⟩
end
structure jN(ps caps:List Str)(sc:Scope):Prop where
 kind:sc.kind=.function
 co:sc.isCoroutine=false
 gen:sc.isGenerator=false
 nd:(ps++caps).Nodup
 par:∀x∈ps,sc.names.lookup x=some .local
 cap:∀x∈caps,sc.names.lookup x=some .free
 nocell:∀y∈sc.names,y.2≠.cell
 free:∀y∈sc.names,y.2=.free->y.1∈caps
def qh(CX:CXT)(P:Program)(w:World)(K:W.Frag)(mg:Str->Option Value)(base:Heap)(N:List Str)(qual:Str)(scope:Scope)(f:Addr)(cd:Value)(cl:List (Str × Addr))(A:Around)(outer:List Env)(s:Shared)(H:Hp)(E:XK):Cx where
 prog:=P
 w:=w
 K:=K
 mg:=mg
 base:=base
 A:=A.deeper (W.envX qual scope s.heap.objs.size f cd cl)
 N:=N
 s₀:=s
 H₀:=H
 env:=W.envX qual scope s.heap.objs.size f cd cl
 outer:=outer
 stack:=W.envX qual scope s.heap.objs.size f cd cl::outer
 ex:=[]
 calm:=true
 fn:=fun _=>false
 pn:=[]
 xe:=fun e s'=>wpAny (model P w) (A.deeper (W.envX qual scope s.heap.objs.size f cd cl)) (leaving (W.envX qual scope s.heap.objs.size f cd cl) e) (fun _ s''=>CX outer H s E e s'') (fun e' s''=>CX outer H s E e' s'') s'
theorem eF{y:Str}{c:Addr}:∀{caps:List Str} {ads:List Addr},(caps.zip ads).lookup y=some c->∃i:Nat,caps[i]?=some y/\ads[i]?=some c
 |[],_,h=>by cases h
 |_::_,[],h=>by cases h
 |a::caps,b::ads,h=>by
  rw [List.zip_cons_cons,List.lookup_cons] at h
  cases q:y==a with
  |true=>rw [q] at h;cases h;exact⟨0,by rw [eq_of_beq q];rfl,rfl⟩
  |false=>rw [q] at h;obtain⟨i,h1,h2⟩:=eF h;exact⟨i+1,h1,h2⟩
theorem gt{y:Str}:∀{caps:List Str} {ads:List Addr} {i:Nat},caps.length=ads.length->caps.Nodup->caps[i]?=some y->∃c,(caps.zip ads).lookup y=some c/\ads[i]?=some c
 |[],_,_,_,_,h=>by simp at h
 |_::_,[],_,l,_,_=>by simp at l
 |a::caps,b::ads,0,_,_,h=>by
  simp at h;subst h
  exact⟨b,by rw [List.zip_cons_cons,List.lookup_cons];simp,rfl⟩
 |a::caps,b::ads,i+1,l,nd,h=>by
  obtain⟨n1,n2⟩:=List.nodup_cons.mp nd
  have h':caps[i]?=some y:=by simpa using h
  obtain⟨c,h1,h2⟩:=gt (i:=i) (ads:=ads) (by simpa using l) n2 h'
  refine⟨c,?_,h2⟩
  rw [List.zip_cons_cons,List.lookup_cons]
  have:(y==a)=false:=beq_eq_false_iff_ne.mpr fun z=>n1 (by rw [<-z];exact List.mem_of_getElem? h')
  rw [this];exact h1
theorem jj{y:Str}{u:Value}:∀{ps:List Str} {us:List Value} {i:Nat},ps.Nodup->ps[i]?=some y->us[i]?=some u->(ps.zip us).reverse.lookup y=some u
 |[],_,_,_,h,_=>by simp at h
 |_::_,[],_,_,_,h=>by simp at h
 |a::ps,b::us,i,nd,h1,h2=>by
  obtain⟨n1,n2⟩:=List.nodup_cons.mp nd
  rw [List.zip_cons_cons,List.reverse_cons,List.lookup_append]
  cases i with
  |zero =>
   simp at h1 h2;subst h1;subst h2
   have:(ps.zip us).reverse.lookup a=none:=List.lookup_eq_none_iff.mpr fun p hp=>by
    have:=(List.of_mem_zip (List.mem_reverse.mp hp)).1
    have q:a≠p.1:=fun z=>n1 (by rw [z];exact this)
    simpa using q
   rw [this];simp
  |succ i=>rw [jj (i:=i) n2 (by simpa using h1) (by simpa using h2)];rfl
theorem il.len{H:Hp}{ads:List Addr}{cvs:List V}(f:il H ads cvs):ads.length=cvs.length:=Paired.length f
theorem vR{CX:CXT}{P:Program}{w:World}{K:W.Frag}{mg:Str->Option Value}{base:Heap}{ps caps:List Str}{qual:Str}{scope:Scope}{f:Addr}{cd:Value}{ads:List Addr}{cvs:List V}{A:Around}{outer:List Env}{s:Shared}{h₁:Heap}{tk:Nat}{H:Hp}{E:XK}{us:List Value}{vs:List V}
  (S:jN ps caps scope) (hd:A.handled=none) (e0:tR P w K mg base A outer s H) (hl:vs.length=ps.length) (r:bg vs us) (fz:il H ads cvs) (hc:caps.length=ads.length) (nd:ads.Nodup)
  (hns:h₁.Ns s.heap.objs.size (fun x=>(ps.zip us).reverse.lookup x)) (hk:∀b o,s.heap.get? b=some o->h₁.get? b=some o) :
  Inv (qh CX P w K mg base (ps++caps) qual scope f cd (caps.zip ads) A outer s (dropC ads H) E) [] (fh (ps++caps) (vs++cvs)) (dropC ads H) { s with heap:=h₁,toks:=tk }:=by
 have noA:∀b:Addr,b∉(qh CX P w K mg base (ps++caps) qual scope f cd (caps.zip ads) A outer s (dropC ads H) E).ex:=fun b z=>absurd (show b∈([]:List Addr) from z) (by simp)
 have ndp:ps.Nodup:=S.nd.sublist (List.sublist_append_left _ _)
 have ndc:caps.Nodup:=S.nd.sublist (List.sublist_append_right _ _)
 have fa:=fz.all
 have dn:∀b,H b=none->dropC ads H b=none:=fun b n=>by unfold dropC;split<;>first|rfl|exact n
 have cin:∀y c,(caps.zip ads).lookup y=some c->c∈ads:=fun y c h=>let ⟨_,_,h2⟩:=eF h;List.mem_of_getElem? h2
 have cel:∀c∈ads,∀o v,H c=some (.frz o (.cel v))->∃u,br v u/\h₁.IsCell c (some u):=fun c _ o v e=>by
  obtain⟨_,u,rv,ic⟩:=e0.hok c _ e
  exact⟨u,rv,ic.keeps hk⟩
 refine⟨⟨e0.mod,S.kind,rfl,rfl,Nat.le_refl _,fun y z c h1 h2=>?_,fun y hy=>?_,(fun y c h _=>absurd (show false=true from h) Bool.false_ne_true),fun _=>hd,Around.frames_deeper e0.frames,.inr ⟨rfl,rfl⟩,fun b z=>absurd z (noA b),fun b o e=>⟨(e0.bs b o e).1,dn b (e0.bs b o e).2⟩,e0.bsz,fun b _ _=>noA b,fun b z=>absurd z (noA b),e0.funs,fun b hb=>dn b (e0.frf b hb)⟩,
  rfl,e0.bare,Un.kept hk,⟨_,hns,fun i y v h1 h2 h3=>?_⟩,fun y c h=>?_,dn _ (e0.hok.fresh (Nat.le_refl _)),fun y c h=>dU (cin y c h),fun p hp=>absurd (show p∈([]:List (Addr × Obj)) from hp) (by simp),(HOk.drop e0.hok fa).kept hk,?_⟩
 ·obtain⟨i,a1,a2⟩:=eF h1
  obtain⟨j,b1,b2⟩:=eF h2
  obtain⟨i1,i2⟩:=List.getElem?_eq_some_iff.mp a2
  obtain⟨j1,j2⟩:=List.getElem?_eq_some_iff.mp b2
  have:i=j:=(List.getElem_inj nd).mp (i2.trans j2.symm)
  subst this
  rw [a1] at b1;exact Option.some.inj b1
 ·have hy:scope.names.lookup y=some .cell\/scope.names.lookup y=some .free:=hy
  rcases hy with hy|hy
  ·exact absurd rfl (S.nocell _ (PySem.mem_of_lookup hy))
  ·have:=S.free _ (PySem.mem_of_lookup hy) rfl
   obtain⟨i,hi⟩:=List.getElem?_of_mem this
   obtain⟨c,h1,_⟩:=gt hc ndc hi
   exact⟨c,h1⟩
 ·unfold fh at h2
  have hlc:=fz.len
  have ei:(vs++cvs)[i]?=some v:=by
   by_cases hi:i < (vs++cvs).length
   ·rw [List.getElem?_append_left (by simpa using hi),List.getElem?_map] at h2
    cases e:(vs++cvs)[i]? with
    |none=>rw [e] at h2;cases h2
    |some a=>rw [e] at h2;cases h2;rfl
   ·rw [List.getElem?_append_right (by simpa using hi),List.getElem?_replicate] at h2
    split at h2<;>cases h2
  by_cases hi:i < ps.length
  ·have hy:ps[i]?=some y:=by rw [<-h1];exact(List.getElem?_append_left hi).symm
   rw [List.getElem?_append_left (by omega)] at ei
   obtain⟨u,hu,rv⟩:=r.get ei
   exact⟨u,rv,.inl ⟨S.par y (List.mem_of_getElem? hy),jj ndp hy hu⟩⟩
  ·have hy:caps[i - ps.length]?=some y:=by rw [<-h1];exact(List.getElem?_append_right (by omega)).symm
   rw [List.getElem?_append_right (by omega),hl] at ei
   obtain⟨c,e1,e2⟩:=gt hc ndc hy
   obtain⟨v',o,e3,e4⟩:=fz.get e2
   rw [ei] at e3;cases e3
   obtain⟨u,rv,ic⟩:=cel c (List.mem_of_getElem? e2) o v e4
   exact⟨u,rv,.inr ⟨.inr (S.cap y (List.mem_of_getElem? hy)),c,e1,ic⟩⟩
 ·obtain⟨o,v,e⟩:=fa c (cin y c h)
  obtain⟨u,_,ic⟩:=cel c (cin y c h) o v e
  exact⟨_,ic⟩
 ·have:=fz.len
  unfold fh
  show _=(ps++caps).length
  rw [List.length_append,List.length_map,List.length_replicate,List.length_append,List.length_append]
  omega
def xl(f:Addr)(fd:FuncData)(c:Addr)(q:Str)(ads:List Addr)(cvs:List V)(n:Nat)(B:Sp):Sp:=fun vs H Q E=>vs.length=n/\H f=some (.fnc fd)/\H c=some (.cod q)/\il H ads cvs /\
 B vs (dropC ads H) (fun v H'=>(∀a∈ads,H' a=none)->Q v (kU ads H H')) (fun k d H'=>(∀a∈ads,H' a=none)->E k d (kU ads H H'))
section
variable{CX:CXT}{P:Program}{w:World}{K:W.Frag}{mg:Str->Option Value}{base:Heap}{k:Nat}{f c:Addr}{name qual:Str}{params:Arguments}{scope:Scope}{ps caps:List Str}{ads:List Addr}{cvs:List V}{B:Sp}
theorem tf{body:List Stmt}{doc pm ctv:Value}(fx:CXF P w CX)(S:jN ps caps scope)(hc:caps.length=ads.length)(nd:ads.Nodup)
  (hbody:∀(A:Around) (outer:List Env) (s:Shared) (H:Hp) (vs:List V) (Q:VK) (E:XK),cA k (A.deeper (W.envX qual scope s.heap.objs.size f (.ref c) (caps.zip ads)))->B vs H Q E->vs.length=ps.length ->
   ∃t,PSs (qh CX P w K mg base (ps++caps) qual scope f (.ref c) (caps.zip ads) A outer s H E) body t/\t { nx:=fun _ H'=>Q .non H',rt:=Q } (fh (ps++caps) (vs++cvs)) H) :
  aV P w K mg base CX (k+1) f (W.fnX name qual params body scope (caps.zip ads) .none .none doc pm none (.ref c) ctv) ps (xl f (W.fnX name qual params body scope (caps.zip ads) .none .none doc pm none (.ref c) ctv) c qual ads cvs ps.length B):=by
 refine⟨fun _ _ _ _ h=>h.1,fun A outer s H args us vs Q E hr e0 hb r hsp=>?_⟩
 obtain⟨hl,hf,hcd,fz,hB⟩:=hsp
 obtain⟨oc,od,sl,e⟩:=e0.hok f _ hf
 have lim:s.heap.NoLimit:=e0.mod.nolimit.keeps fun b o e=>(e0.bs b o e).1
 have hloc:∀y∈ps.zip us,scope.names.lookup y.1=some .local:=fun⟨n,v⟩ hy=>S.par n (List.of_mem_zip hy).1
 refine codeAny_call_function hr.depth e rfl S.co S.gen rfl (e0.hok c _ hcd) (hb _ _ _ _ ?_)
 refine wpAny_newFunctionEnv S.nocell hloc (fun h₁ hns hsb=>⟨lim.fresh _ hsb,?_⟩) S.kind
 have hk:∀b o,s.heap.get? b=some o->h₁.get? b=some o:=fun b o e=>hsb.extBut b o (Nat.ne_of_lt (Heap.lt_size e)) (Heap.get?_push_of_some _ e)
 show codeAny _ _ (.func body (W.envX qual scope s.heap.objs.size f (.ref c) (caps.zip ads))) _ _
 obtain⟨t,ht,hq⟩:=hbody A outer s (dropC ads H) vs _ _ (hr.deeper _) hB hl
 have I:=vR (CX:=CX) (qual:=qual) (f:=f) (cd:=.ref c) (tk:=s.toks+(ps.zip us).length) (E:=fun k d H'=>(∀a∈ads,H' a=none)->E k d (kU ads H H')) S hr.hd e0 hl r fz hc nd hns hk
 have fa:=fz.all
 have na:∀c∈ads,c∉frs outer:=fun c hc z=>by obtain⟨o,v,e⟩:=fa c hc;rw [e0.frf c z] at e;cases e
 refine codeAny_func (wpAny_mono (ht [] _ _ _ _ I hq) (fun fl s' hs=>?_) fun e s' hs=>?_)
 ·have fin:∀{σ':St} {H':Hp} {v:V} {u:Value},Inv (qh CX P w K mg base (ps++caps) qual scope f (.ref c) (caps.zip ads) A outer s (dropC ads H) (fun k d H'=>(∀a∈ads,H' a=none)->E k d (kU ads H H'))) [] σ' H' s'->br v u->((∀a∈ads,H' a=none)->Q v (kU ads H H'))->CE outer P w H s Q u s':=fun {σ' H' v u} J rv q=>by
   obtain⟨un,n,kk⟩:=Un.adds e0.hok fa na J.base
   exact⟨v,kU ads H H',J.os,J.bare,un,HOk.add e0.hok J.hok fa n kk,rv,q n⟩
  cases fl with
  |ret u =>
   obtain⟨v,σ',H',J,rv,q⟩:=hs
   exact fin J rv q
  |next =>
   obtain⟨σ',H',J,q⟩:=hs
   exact fin (v:=V.non) (u:=Value.none) J rfl q
  |brk =>
   obtain⟨_,_,_,q⟩:=hs
   exact False.elim q
  |cont =>
   obtain⟨_,_,_,q⟩:=hs
   exact False.elim q
 ·exact wpAny_mono hs (fun _ s'' z=>fx.add _ _ _ _ _ _ _ e0.hok fa e0.frf z) fun _ s'' z=>fx.add _ _ _ _ _ _ _ e0.hok fa e0.frf z
end
theorem y9{P:Program}{w:World}{K:W.Frag}{mg:Str->Option Value}{base:Heap}{N:List Str}{qual:Str}{scope:Scope}{f:Addr}{cd:Value}{cl:List (Str × Addr)}{A:Around}{outer:List Env}{s:Shared}{H:Hp}{E:XK} :
  cT (CX1 P w) (qh (CX1 P w) P w K mg base N qual scope f cd cl A outer s H E) E:=fun pins σ H1 s1 e s' I h=>by
 obtain⟨x,cls,d,H',rfl,fl,hd,hE⟩:=h
 exact Fly.leave I rfl rfl rfl fl hd fun s'' g gd=>⟨x,cls,d,H',rfl,g,gd,hE⟩
structure uF(K:W.Frag)(x qual:Str)(st:Stmt)(f:Addr)(fd:FuncData)(c P:Addr):Prop where
 ex:∃(oc:Value) (od:Option Addr) (kV doc pm:Value) (an:Option Addr) (ct:Value) (osl:Array (Option Value)),
  fd=W.fnOf x qual (aD st) (aw st) (aj st) .none kV doc pm an (.ref c) ct/\K.lookup f=some ⟨oc,od,.func fd,osl⟩/\W.codeIn K (.ref c) qual=true
 kp:W.keepIn K (.ref f)=true
 hd:W.codeHdIn K c P=true
section
variable{Pr:Program}{w:World}{K:W.Frag}{mg:Str->Option Value}{base:Heap}{x qual:Str}{st:Stmt}{f c P:Addr}{fd:FuncData}{N ps:List Str}{k:Nat}{sp:Sp}
theorem uF.fn(F:uF K x qual st f fd c P):Fun K x qual st f fd:=let ⟨oc,od,kV,doc,pm,an,ct,osl,e,l,h⟩:=F.ex;⟨⟨oc,od,kV,doc,pm,an,_,ct,osl,e,l,h⟩,F.kp⟩
theorem uF.okG{CX:CXT}(F:uF K x qual st f fd c P)(S:aJ N ps (aj st))(len:∀vs H Q E,sp vs H Q E->vs.length=ps.length)
  (hbody:∀(A:Around) (outer:List Env) (s:Shared) (H:Hp) (vs:List V) (Q:VK) (E:XK),cA k (A.deeper (envOfC qual (aj st) s.heap.objs.size f (.ref c)))->sp vs H Q E ->
   ∃t,PSs (dI CX Pr w K mg base N qual (aj st) f (.ref c) A outer s H E) (aw st) t/\t { nx:=fun _ H'=>Q .non H',rt:=Q } (fh N vs) H):aV Pr w K mg base CX (k+1) f fd ps sp:=by
 obtain⟨oc,od,kV,doc,pm,an,ct,osl,rfl,lk,hcd⟩:=F.ex
 exact tY lk hcd S len hbody
theorem uF.code(F:uF K x qual st f fd c P)(X:K.In base):W.CodeHd base c P:=W.codeHd_of_K X F.hd
theorem vF{oc:Value}{od an:Option Addr}{osl:Array (Option Value)}{kV doc pm ct:Value}(l:K.lookup f=some ⟨oc,od,.func (W.fnOf x qual (aD st) (aw st) (aj st) .none kV doc pm an (.ref c) ct),osl⟩)
  (cd:W.codeIn K (.ref c) qual=true) (k:W.keepIn K (.ref f)=true) (h:W.codeHdIn K c P=true):uF K x qual st f (W.fnOf x qual (aD st) (aw st) (aj st) .none kV doc pm an (.ref c) ct) c P:=⟨⟨oc,od,kV,doc,pm,an,ct,osl,rfl,l,cd⟩,k,h⟩
end
theorem iU:∀{tabs:List (Addr × Array Value)} {q:Addr × Array Value},(tabs.map (·.1)).Nodup->q∈tabs->tabs.lookup q.1=some q.2
 |[],_,_,h=>nomatch h
 |p::r,q,nd,h=>by
  obtain⟨n1,n2⟩:=List.nodup_cons.mp nd
  rw [show(p::r).lookup q.1=_ from List.lookup_cons]
  rcases List.mem_cons.mp h with rfl|hq
  ·rw [beq_self_eq_true]
  ·have:(q.1==p.1)=false:=beq_eq_false_iff_ne.mpr fun z=>n1 (List.mem_map.mpr ⟨q,hq,z⟩)
   rw [this];exact iU n2 hq
theorem pW{b:Addr}{ps:Array Value}:∀{tabs:List (Addr × Array Value)},tabs.lookup b=some ps->(b,ps)∈tabs
 |[],h=>nomatch h
 |p::r,h=>by
  rw [show(p::r).lookup b=_ from List.lookup_cons] at h
  cases q:b==p.1 with
  |true=>rw [q] at h;cases h;rw [eq_of_beq q];exact .head _
  |false=>rw [q] at h;exact .tail _ (pW h)
theorem rA{P:Program}{w:World}{K:W.Frag}{mg mb:Str->Option Value}{CX:CXT}{k:Nat}{fa a:Addr}{fd:FuncData}{x:Str}{sp:Sp}{s₁:Shared}{vs:List Value}{ns:List Int}{tabs:List (Addr × Array Value)}
  (KX:K.In s₁.heap) (hns:s₁.heap.Ns mainGlobals mg) (hb:s₁.heap.Ns builtinsNs mb) (hbb:∀x:Str,x≠"__name__"->mb x=bootBuiltins x) (hlim:s₁.heap.NoLimit) (hbm:∃bm ob,mg "__builtins__"=some (.ref bm)/\bm≠builtinsNs/\s₁.heap.get? bm=some ob/\ob.cls=.type "module"/\ob.dict=some builtinsNs/\ob.data=.plain) (hg:s₁.gens=#[])
  (ha:s₁.heap.get? a=some { cls:=.type "list",data:=.seq vs.toArray }) (hi:IntsAre vs ns) (hl:ns.length<=sizeLine) (hr:cA k callerA)
  (hT:∀q∈tabs,s₁.heap.get? q.1=some (W.tabObj #[])/\isCodeTable s₁.heap q.1) (hnd:(tabs.map (·.1)).Nodup) (hNT:W.noTabs K=true)
  (F:∀base:Heap,K.In base->base.Ns mainGlobals mg->aV P w K mg base CX k fa fd [x] sp) (hbind:∀(s:Shared) (u:Value),BindsTo s fd ⟨[u],[]⟩ [(x,u)])
  (hsp:∀H:Hp,(∀q∈tabs,H q.1=some (.tbl q.2))->SqL K H a (ns.map V.int)->sp [.ref a] H (fun v _=>v=.bl true) fun _ _ _=>False)
  (hCX:∀H e s',CX [] H s₁ (fun _ _ _=>False) e s'->False) :
  codeAny (model P w) callerA (.call (.ref fa) ⟨[.ref a],[]⟩) (fun r s'=>r=.ok (.ret (.bool true))/\OldK s₁.heap s'.heap/\s'.os=s₁.os/\AllBare s'.gens) s₁:=by
 have rv:=j8 hi
 have lenV:=hi.length
 have core:∀H:Hp,(∀q∈tabs,H q.1=some (.tbl q.2))->SqL K H a (ns.map V.int)->HOk P w H s₁.heap->(∀b u,H b=some u->(b=a/\K.lookup a=none/\∃o xs,u=.frz o (.lst xs))\/∃ps,(b,ps)∈tabs/\u=.tbl ps) ->
   codeAny (model P w) callerA (.call (.ref fa) ⟨[.ref a],[]⟩) (fun r s'=>r=.ok (.ret (.bool true))/\OldK s₁.heap s'.heap/\s'.os=s₁.os/\AllBare s'.gens) s₁:=by
  intro H hO hS hok hA
  have base_of:∀{b:Addr} {o:Obj},s₁.heap.get? b=some o->H b=none->(sB s₁.heap H).get? b=some o:=fun e n=>sS e n
  have no:∀{b:Addr} {o:Obj},s₁.heap.get? b=some o->(∀its n,o.data≠.seq its n)->(∀vs,o.data≠.fields vs)->H b=none:=fun {b o} e d1 d2=>by
   cases q:H b with
   |none=>rfl
   |some u =>
    rcases hA b u q with ⟨rfl,_⟩|⟨ps,hp,_⟩
    ·rw [ha] at e;cases e
     exact absurd rfl (d1 _ _)
    ·rw [(hT _ hp).1] at e;cases e
     exact absurd rfl (d2 _)
  have nsK:∀{b:Addr} {m:Str->Option Value},s₁.heap.Ns b m->(sB s₁.heap H).Ns b m:=fun {b m} ⟨o,es,ep,e,d,r⟩=>⟨o,es,ep,base_of e (no e (fun _ _ z=>by rw [d] at z;cases z) (fun _ z=>by rw [d] at z;cases z)),d,r⟩
  have hKb:K.In (sB s₁.heap H):=fun b o e=>base_of (KX b o e) (by
   cases q:H b with
   |none=>rfl
   |some u =>
    rcases hA b u q with ⟨rfl,z,_⟩|⟨ps,hp,_⟩
    ·rw [z] at e;cases e
    ·have e1:=KX b o e
     rw [(hT _ hp).1] at e1;cases e1
     exact absurd (show false=true from List.all_eq_true.mp hNT _ (W.mem_of_lookupK e)) Bool.false_ne_true)
  have hM:Mod K mg (sB s₁.heap H):=⟨hKb,nsK hns,⟨mb,nsK hb,hbb⟩,let ⟨mc,h1,h2⟩:=hlim;⟨mc,nsK h1,h2⟩,let ⟨bm,ob,b1,b2,b3,b4,b5,b6⟩:=hbm;⟨bm,ob,b1,b2,base_of b3 (no b3 (fun _ _ z=>by rw [b6] at z;cases z) (fun _ z=>by rw [b6] at z;cases z)),b4,b5,b6⟩⟩
  have e0:tR P w K mg (sB s₁.heap H) callerA [] s₁ H:=⟨rfl,hM,fun b o e=>vG e,Nat.le_of_eq (qa _ _),trivial,fun b hb=>absurd (show b∈([]:List Addr) from hb) (by simp),hok,.of_eq hg⟩
  refine codeAny_mono ((F _ hKb (nsK hns)).run callerA [] s₁ H ⟨[.ref a],[]⟩ [.ref a] [.ref a] _ _ hr e0 (hbind s₁ (.ref a)) (.cons rfl .nil) (hsp H hO hS)) fun r s' h=>?_
  cases r with
  |error e=>exact(hCX H e s' h).elim
  |ok fl =>
   cases fl with
   |next=>exact False.elim h
   |brk=>exact False.elim h
   |cont=>exact False.elim h
   |ret u =>
    obtain⟨v,H',os,bare,un,hok',r',q⟩:=h
    have q':v=.bl true:=q
    subst q'
    obtain rfl:u=Value.bool true:=r'
    have fin:∀b o,s₁.heap.get? b=some o->(s'.heap.get? b=some o)\/(isCodeTable s₁.heap b/\o=W.tabObj #[]/\∃tb,s'.heap.get? b=some (W.tabObj tb)):=fun b o e=>by
     cases q:H b with
     |none=>exact .inl (un.keep b o e q (by intro z;exact absurd (show b∈([]:List Addr) from z) (by simp)) (by simp))
     |some u =>
      rcases hA b u q with ⟨rfl,_,ob,xs,rfl⟩|⟨ps,hp,rfl⟩
      ·have z2:=un.frzs b ob _ q
       obtain⟨e1,_⟩:=hok b _ q
       obtain⟨e2,_⟩:=hok' b _ z2
       rw [e] at e1;cases e1
       exact .inl e2
      ·obtain⟨more,z⟩:=un.tbls b ps q
       obtain⟨tb,e2,_⟩:=hok' b _ z
       have e3:=(hT _ hp).1
       rw [e] at e3;cases e3
       exact .inr ⟨(hT _ hp).2,rfl,tb,e2⟩
    refine⟨rfl,⟨fun b o e=>?_,fun b o e=>?_⟩,os,bare⟩
    ·rcases fin b o e with z|⟨z,rfl,tb,z2⟩
     ·exact .inl z
     ·exact .inr (.inl ⟨z,rfl,#[],tb,rfl,by rw [Array.empty_append];exact z2⟩)
    ·rcases fin b o e with z|⟨z,rfl,tb,z2⟩
     ·exact⟨_,z⟩
     ·exact⟨_,z2⟩
 have lk:∀q∈tabs,tabs.lookup q.1=some q.2:=fun q hq=>iU hnd hq
 have lm:∀b ps,tabs.lookup b=some ps->(b,ps)∈tabs:=fun b ps h=>pW h
 have na:∀q∈tabs,q.1≠a:=fun q hq z=>by
  have e:=(hT q hq).1
  rw [z,ha] at e;cases e
 have tok:∀{H:Hp} {b:Addr} {ps:Array Value},(b,ps)∈tabs->cG P w H s₁.heap b (.tbl ps):=fun {H b ps} hp=>⟨#[],(hT _ hp).1,trivial,fun _ _ _ _ z=>nomatch z⟩
 cases hk:K.lookup a with
 |some o =>
  have e:=KX a o hk
  rw [ha] at e
  cases e
  refine core (fun b=>(tabs.lookup b).map .tbl) (fun q hq=>by rw [lk q hq];rfl) (.inr ⟨_,vs.toArray,_,hk,rfl,rfl,rfl,by rw [List.size_toArray,lenV];exact hl,by simpa using rv⟩) (fun b u z=>?_) (fun b u z=>?_)
  ·obtain⟨ps,h1,rfl⟩:=Option.map_eq_some_iff.mp z
   exact tok (lm b ps h1)
  ·obtain⟨ps,h1,rfl⟩:=Option.map_eq_some_iff.mp z
   exact .inr ⟨ps,lm b ps h1,rfl⟩
 |none =>
  refine core (fun b=>if b=a then some (.frz { cls:=.type "list",data:=.seq vs.toArray } (.lst (ns.map V.int))) else (tabs.lookup b).map .tbl) (fun q hq=>(if_neg (na q hq)).trans (by rw [lk q hq];rfl)) (.inl (.inr ⟨{ cls:=.type "list",data:=.seq vs.toArray },if_pos rfl⟩)) (fun b u z=>?_) (fun b u z=>?_)
  ·by_cases hb:b=a
   ·have z':=(if_pos hb).symm.trans z
    cases z'
    subst hb
    exact⟨ha,by rw [List.length_map];exact hl,vs,_,rv,ha⟩
   ·have z':=(if_neg hb).symm.trans z
    obtain⟨ps,h1,rfl⟩:=Option.map_eq_some_iff.mp z'
    exact tok (lm b ps h1)
  ·by_cases hb:b=a
   ·have z':=(if_pos hb).symm.trans z
    cases z'
    exact .inl ⟨hb,hk,_,_,rfl⟩
   ·have z':=(if_neg hb).symm.trans z
    obtain⟨ps,h1,rfl⟩:=Option.map_eq_some_iff.mp z'
    exact .inr ⟨ps,lm b ps h1,rfl⟩
def uI(q:Program)(K:W.Frag)(tabs:List (Addr × Array Value)):Prop:=∀t∈tabs,∃(x:Str) (c:Addr) (d:DefRec),W.tabIn K x=some (c,t.1)/\(recsOf q).find? (fun e=>e.name==x)=some d
theorem walk_ofT{l:W.OpenLaw}{n k:Nat}{q:Program}{loose:List Str}{XP:(Str->Option Value)->Heap->Prop}{YP:World->Heap->Prop}{d:DefRec}{K:Params->W.Frag}{CX:World->CXT}{x:Str}
  (hn:l.most=some n) (hn2:n<=sizeLine) (hdf:d.params.defaults=[]) (hr:cA k callerA)
  (hY:∀(w:World) (h:Heap),YP w h->(K w.params).In h)
  (F:∀(w:World) (mg:Str->Option Value) (fa:Addr) (h:Heap),(K w.params).In h->h.Ns mainGlobals mg->mg d.name=some (.ref fa) ->
   ∃(fd:FuncData) (tabs:List (Addr × Array Value)) (sp:Sp),(∀(s:Shared) (u:Value),BindsTo s fd ⟨[u],[]⟩ [(x,u)])/\uI q (K w.params) tabs/\(tabs.map (·.1)).Nodup/\W.noTabs (K w.params)=true /\
    (∀base:Heap,(K w.params).In base->base.Ns mainGlobals mg->aV l.prog w (K w.params) mg base (CX w) k fa fd [x] sp) /\
    ∀(H:Hp) (a:Addr) (ns:List Int),ns.length<=n->(∀t∈tabs,H t.1=some (.tbl t.2))->SqL (K w.params) H a (ns.map V.int)->sp [.ref a] H (fun v _=>v=.bl true) fun _ _ _=>False)
  (hCX:∀(w:World) (H:Hp) (s:Shared) (e:Value) (s':Shared),CX w [] H s (fun _ _ _=>False) e s'->False) :
  W.WalkO q loose XP YP l.row.toRowW d [] (fun f vs=>PySem.call f vs):=by
 refine Att.attach_call hn hdf fun w s₀ s₁ mg mb fa o pm cd doc a vs ns G Y ho hd hcd hmg hobj hints hlen hg=>?_
 have KX:=hY w _ Y
 obtain⟨fd,tabs,sp,hb,hT,hnd,hNT,hF,hsp⟩:=F w mg fa _ KX G.T.g hmg
 exact rA KX G.T.g G.T.b G.T.builtins G.T.nolimit G.T.bmain hg hobj hints (Nat.le_trans hlen hn2) hr (fun t ht=>by
  obtain⟨x,c,d,h1,h2⟩:=hT t ht
  obtain⟨z1,z2⟩:=W.tab_of G.T KX h2 h1
  exact⟨z2,(z1.tab z2).isCodeTable⟩) hnd hNT hF hb (fun H hO hS=>hsp H a ns hlen hO hS) fun H e s'=>hCX w H s₁ e s'
def SI(b:Bool)(h:Heap)(j l:Addr)(n:Nat):Prop:=match b with
 |true=>h.IsListIter j l n
 |false=>h.IsTupleIter j l n
def SQ(b:Bool)(h:Heap)(l:Addr)(its:Array Value):Prop:=match b with
 |true=>h.IsList l its
 |false=>h.IsTuple l its
theorem SI.get{b:Bool}{h:Heap}{j l:Addr}{n:Nat}(x:SI b h j l n):∃o vs,h.get? j=some o/\o.data=.fields vs:=by
 cases b with
 |true=>obtain⟨o,e,_,d⟩:=x;exact⟨o,_,e,d⟩
 |false=>obtain⟨o,e,_,d⟩:=x;exact⟨o,_,e,d⟩
theorem SI.up{b:Bool}{h h':Heap}{j l:Addr}{n:Nat}(x:SI b h j l n)(k:∀o,h.get? j=some o->h'.get? j=some o):SI b h' j l n:=by
 cases b with
 |true=>obtain⟨o,e,r⟩:=x;exact⟨o,k o e,r⟩
 |false=>obtain⟨o,e,r⟩:=x;exact⟨o,k o e,r⟩
theorem SQ.up{b:Bool}{h h':Heap}{l:Addr}{its:Array Value}(x:SQ b h l its)(k:∀o,h.get? l=some o->h'.get? l=some o):SQ b h' l its:=by
 cases b with
 |true=>obtain⟨o,e,r⟩:=x;exact⟨o,k o e,r⟩
 |false=>obtain⟨o,e,r⟩:=x;exact⟨o,k o e,r⟩
section
variable{P:Program}{w:World}{A:Around}{E:Value->Shared->Prop}{s:Shared}{b c:Bool}{z TI TO i1 i2 l1 l2 j l:Addr}{n n2:Nat}{its jts:Array Value}{x y p q:Value}
theorem ll{Q:Value->Shared->Prop}(h1:SI b s.heap j l n)(h2:SQ b s.heap l its)(e:its[n]?=some x)(g:∀h',SI b h' j l (n+1)->Heap.SameBut j s.heap h'->Q x { s with heap:=h' }):wpAny (model P w) A (Builtin.SmallTypes.nextOf (.ref j)) Q E s:=by
 cases b with
 |true=>exact wpAny_nextOf_list_item h1 h2 e g
 |false=>exact om h1 h2 e g
theorem uE{Q:Value->Shared->Prop}(hh:A.handled=none)(h1:SI b s.heap j l n)(h2:SQ b s.heap l its)(e:its[n]?=none) (g:∀h' u,Heap.ExtBut j s.heap h'->(∃o,h'.get? u=some o/\o.cls=.type "StopIteration")->E (.ref u) { s with heap:=h' }):wpAny (model P w) A (Builtin.SmallTypes.nextOf (.ref j)) Q E s:=by
 cases b with
 |true=>exact wpAny_nextOf_list_end hh h1 h2 e g
 |false=>exact pQ hh h1 h2 e g
theorem vO{Q:Value->Shared->Prop}(D:ZipApart z TI TO i1 i2 l1 l2)(Z:IsZip s.heap z TI TO .none)(T1:IsPair s.heap TI (.ref i1) (.ref i2))(T2:IsPair s.heap TO p q)(h1:SI b s.heap i1 l1 n)(h2:SI c s.heap i2 l2 n2)(g1:SQ b s.heap l1 its)(g2:SQ c s.heap l2 jts)(ex:its[n]?=some x)(ey:jts[n2]?=some y)
  (k:∀h',IsZip h' z TI TO (rawInt s.heap.objs.size)->IsPair h' TO x y->SI b h' i1 l1 (n+1)->SI c h' i2 l2 (n2+1)->IsPair h' s.heap.objs.size x y ->
   (∀d o,d≠z->d≠TO->d≠i1->d≠i2->s.heap.get? d=some o->h'.get? d=some o)->Q (.ref s.heap.objs.size) { s with heap:=h' }) :
  wpAny (model P w) A (Builtin.«zip.__next__» ⟨[.ref z],[]⟩) (fun fin s'=>∃v,fin=.done (.ret v)/\Q v s') E s:=by
 show wpAny (model P w) A (field (.ref z) 2 >>= _) _ _ s
 refine wpAny_bind (wpAny_field Z rfl (x:=.bool false) rfl ?_);show wpAny (model P w) A (field (.ref z) 3 >>= _) _ _ s
 refine wpAny_bind (wpAny_field Z rfl (x:=.ref TI) rfl (wpAny_bind (wpAny_seqItems T1 rfl ?_)));show wpAny (model P w) A (Builtin.SmallTypes.ownedTupleIsFree (.ref z) >>= _) _ _ s
 refine wpAny_bind ?_;unfold Builtin.SmallTypes.ownedTupleIsFree
 refine wpAny_bind (wpAny_field Z rfl (x:=.none) rfl (wpAny_pure ?_));simp only [if_true]
 refine wpAny_bind (wpAny_rule (wpAny_bind (wpAny_field Z rfl (x:=.ref TO) rfl (wpAny_bind (wpAny_setField_rec Z (by simp) fun a1 Z1 b1=>?_)))))
 replace Z1:IsZip a1 z TI TO .ellipsis:=Z1
 refine wpAny_bind ?_;simp only [List.zipIdx_cons,List.zipIdx_nil,List.forIn_cons,List.forIn_nil]
 refine wpAny_bind (wpAny_bind (wpAny_onRaise ?_));show wpAny (model P w) A (Builtin.SmallTypes.nextOf (.ref i1) >>= _) _ _ _
 refine wpAny_bind (ll (h1.up fun o e=>b1.extBut _ _ D.i1z e) (g1.up fun o e=>b1.extBut _ _ D.l1z e) ex fun a2 s1 b2=>wpAny_pure ?_)
 have T3:IsPair a2 TO p q:=b2.extBut _ _ D.TOi1 (b1.extBut _ _ D.TOz T2)
 refine wpAny_bind (wpAny_seqItems T3 rfl (wpAny_bind (wpAny_updateSeq_pair T3 fun a3 T4 b3=>?_)))
 replace T4:IsPair a3 TO x q:=T4
 refine wpAny_bind (wpAny_letGo (wpAny_pure (wpAny_bind (wpAny_bind (wpAny_onRaise ?_)))));show wpAny (model P w) A (Builtin.SmallTypes.nextOf (.ref i2) >>= _) _ _ _
 refine wpAny_bind (ll (h2.up fun o e=>b3.extBut _ _ D.TOi2.symm (b2.extBut _ _ D.i12.symm (b1.extBut _ _ D.i2z e))) (g2.up fun o e=>b3.extBut _ _ D.l2TO (b2.extBut _ _ D.l2i1 (b1.extBut _ _ D.l2z e))) ey fun a4 s2 b4=>wpAny_pure ?_)
 have T5:IsPair a4 TO x q:=b4.extBut _ _ D.TOi2 T4
 refine wpAny_bind (wpAny_seqItems T5 rfl (wpAny_bind (wpAny_updateSeq_pair T5 fun a5 T6 b5=>?_)))
 replace T6:IsPair a5 TO x y:=T6
 refine wpAny_bind (wpAny_letGo (wpAny_pure (wpAny_pure (wpAny_bind (wpAny_seqItems T6 rfl (wpAny_bind (wpAny_newTuple ?_)))))))
 have hz:a5.objs.size=s.heap.objs.size:=b5.1.trans (b4.1.trans (b3.1.trans (b2.1.trans b1.1)))
 have Z5:IsZip a5 z TI TO .ellipsis:=b5.extBut _ _ D.TOz.symm (b4.extBut _ _ D.i2z.symm (b3.extBut _ _ D.TOz.symm (b2.extBut _ _ D.i1z.symm Z1)))
 have k5:∀d o,d≠z->d≠TO->d≠i1->d≠i2->s.heap.get? d=some o->a5.get? d=some o:=fun d o c1 c2 c3 c4 e=>b5.extBut _ _ c2 (b4.extBut _ _ c4 (b3.extBut _ _ c2 (b2.extBut _ _ c3 (b1.extBut _ _ c1 e))))
 have s1':SI b a5 i1 l1 (n+1):=s1.up fun o e=>b5.extBut _ _ D.TOi1.symm (b4.extBut _ _ D.i12 (b3.extBut _ _ D.TOi1.symm e))
 have s2':SI c a5 i2 l2 (n2+1):=s2.up fun o e=>b5.extBut _ _ D.TOi2.symm e
 have zl:z < a5.objs.size:=Heap.lt_size Z5
 show wpAny (model P w) A (Builtin.SmallTypes.ownedTupleHandOut (.ref z) (.ref a5.objs.size) >>= _) _ _ _
 refine wpAny_bind ?_;unfold Builtin.SmallTypes.ownedTupleHandOut
 have Z6:IsZip (a5.push { cls:=.type "tuple",data:=.seq #[x,y] }) z TI TO .ellipsis:=Heap.get?_push_of_some _ Z5
 refine wpAny_bind (wpAny_setField_rec Z6 (by simp) fun a7 Z7 b7=>?_)
 replace Z7:IsZip a7 z TI TO (rawInt a5.objs.size):=Z7
 refine wpAny_setField_rec Z7 (by simp) fun a8 Z8 b8=>?_
 replace Z8:IsZip a8 z TI TO (rawInt a5.objs.size):=Z8
 have up:∀d o,d≠z->a5.get? d=some o->a8.get? d=some o:=fun d o c1 e=>b8.extBut _ _ c1 (b7.extBut _ _ c1 (Heap.get?_push_of_some _ e))
 have T8:IsPair a8 a5.objs.size x y:=b8.extBut _ _ (Nat.ne_of_gt zl) (b7.extBut _ _ (Nat.ne_of_gt zl) (Heap.get?_push_size _ rfl))
 rw [hz] at Z8 T8
 refine wpAny_pure ⟨_,rfl,?_⟩;show Q (.ref a5.objs.size) _
 rw [hz]
 exact k a8 Z8 (up _ _ D.TOz T6) (s1'.up fun o e=>up _ o D.i1z e) (s2'.up fun o e=>up _ o D.i2z e) T8 fun d o c1 c2 c3 c4 e=>up d o c1 (k5 d o c1 c2 c3 c4 e)
theorem wy{Q:Fin->Shared->Prop}(hh:A.handled=none)(D:ZipApart z TI TO i1 i2 l1 l2)(Z:IsZip s.heap z TI TO .none)(T1:IsPair s.heap TI (.ref i1) (.ref i2))(T2:IsPair s.heap TO p q)(h1:SI b s.heap i1 l1 n)(h2:SI c s.heap i2 l2 n2)(g1:SQ b s.heap l1 its)(g2:SQ c s.heap l2 jts)(en:its[n]?=none\/jts[n2]?=none)
  (k:∀h' u,(∀d o,d≠z->d≠TO->d≠i1->d≠i2->s.heap.get? d=some o->h'.get? d=some o)->(∃o,h'.get? u=some o/\o.cls=.type "StopIteration")->E (.ref u) { s with heap:=h' }) :
  wpAny (model P w) A (Builtin.«zip.__next__» ⟨[.ref z],[]⟩) Q E s:=by
 show wpAny (model P w) A (field (.ref z) 2 >>= _) _ _ s
 refine wpAny_bind (wpAny_field Z rfl (x:=.bool false) rfl ?_);show wpAny (model P w) A (field (.ref z) 3 >>= _) _ _ s
 refine wpAny_bind (wpAny_field Z rfl (x:=.ref TI) rfl (wpAny_bind (wpAny_seqItems T1 rfl ?_)));show wpAny (model P w) A (Builtin.SmallTypes.ownedTupleIsFree (.ref z) >>= _) _ _ s
 refine wpAny_bind ?_;unfold Builtin.SmallTypes.ownedTupleIsFree
 refine wpAny_bind (wpAny_field Z rfl (x:=.none) rfl (wpAny_pure ?_));simp only [if_true]
 refine wpAny_bind (wpAny_rule (wpAny_bind (wpAny_field Z rfl (x:=.ref TO) rfl (wpAny_bind (wpAny_setField_rec Z (by simp) fun a1 Z1 b1=>?_)))))
 replace Z1:IsZip a1 z TI TO .ellipsis:=Z1
 refine wpAny_bind ?_;simp only [List.zipIdx_cons,List.zipIdx_nil,List.forIn_cons,List.forIn_nil]
 refine wpAny_bind (wpAny_bind (wpAny_onRaise ?_));show wpAny (model P w) A (Builtin.SmallTypes.nextOf (.ref i1) >>= _) _ _ _
 cases ex:its[n]? with
 |none =>
  refine wpAny_bind (uE hh (h1.up fun o e=>b1.extBut _ _ D.i1z e) (g1.up fun o e=>b1.extBut _ _ D.l1z e) ex fun a2 u b2 he=>?_)
  obtain⟨oe,e1,e2⟩:=he
  have Z2:IsZip a2 z TI TO .ellipsis:=b2 _ _ D.i1z.symm Z1
  have uz:u≠z:=fun t=>by subst t;rw [Z2] at e1;cases e1;simp at e2
  exact wpAny_setField_rec Z2 (by simp) fun a3 _ b3=>k a3 u (fun d o c1 _ c3 _ t=>b3.extBut _ _ c1 (b2 _ _ c3 (b1.extBut _ _ c1 t))) ⟨oe,b3.extBut _ _ uz e1,e2⟩
 |some x =>
  have ey:jts[n2]?=none:=by rcases en with t|t;rw [ex] at t;cases t;exact t
  refine wpAny_bind (ll (h1.up fun o e=>b1.extBut _ _ D.i1z e) (g1.up fun o e=>b1.extBut _ _ D.l1z e) ex fun a2 s1 b2=>wpAny_pure ?_)
  have T3:IsPair a2 TO p q:=b2.extBut _ _ D.TOi1 (b1.extBut _ _ D.TOz T2)
  refine wpAny_bind (wpAny_seqItems T3 rfl (wpAny_bind (wpAny_updateSeq_pair T3 fun a3 T4 b3=>?_)))
  refine wpAny_bind (wpAny_letGo (wpAny_pure (wpAny_bind (wpAny_bind (wpAny_onRaise ?_)))));show wpAny (model P w) A (Builtin.SmallTypes.nextOf (.ref i2) >>= _) _ _ _
  refine wpAny_bind (uE hh (h2.up fun o e=>b3.extBut _ _ D.TOi2.symm (b2.extBut _ _ D.i12.symm (b1.extBut _ _ D.i2z e))) (g2.up fun o e=>b3.extBut _ _ D.l2TO (b2.extBut _ _ D.l2i1 (b1.extBut _ _ D.l2z e))) ey fun a4 u b4 he=>?_)
  obtain⟨oe,e1,e2⟩:=he
  have Z4:IsZip a4 z TI TO .ellipsis:=b4 _ _ D.i2z.symm (b3.extBut _ _ D.TOz.symm (b2.extBut _ _ D.i1z.symm Z1))
  have uz:u≠z:=fun t=>by subst t;rw [Z4] at e1;cases e1;simp at e2
  exact wpAny_setField_rec Z4 (by simp) fun a5 _ b5=>k a5 u (fun d o c1 c2 c3 c4 t=>b5.extBut _ _ c1 (b4 _ _ c4 (b3.extBut _ _ c2 (b2.extBut _ _ c3 (b1.extBut _ _ c1 t))))) ⟨oe,b5.extBut _ _ uz e1,e2⟩
end
section
variable{P:Program}{w:World}{A:Around}{E:Value->Shared->Prop}{s:Shared}{b c:Bool}{z TI TO i1 i2 l1 l2:Addr}{n:Nat}{its jts:Array Value}{x y p q:Value}
theorem vy{Q:Option Value->Shared->Prop}(D:ZipApart z TI TO i1 i2 l1 l2)(Z:IsZip s.heap z TI TO .none)(T1:IsPair s.heap TI (.ref i1) (.ref i2))(T2:IsPair s.heap TO p q)(h1:SI b s.heap i1 l1 n)(h2:SI c s.heap i2 l2 n)(g1:SQ b s.heap l1 its)(g2:SQ c s.heap l2 jts)(ex:its[n]?=some x)(ey:jts[n]?=some y)
  (k:∀h',IsZip h' z TI TO (rawInt s.heap.objs.size)->IsPair h' TO x y->SI b h' i1 l1 (n+1)->SI c h' i2 l2 (n+1)->IsPair h' s.heap.objs.size x y ->
   (∀d o,d≠z->d≠TO->d≠i1->d≠i2->s.heap.get? d=some o->h'.get? d=some o)->Q (some (.ref s.heap.objs.size)) { s with heap:=h' }):wpAny (model P w) A (pyNext (.ref z)) Q E s:=by
 have hT:s.TypeIs (.ref z) "zip":=⟨_,Z,rfl⟩
 unfold pyNext
 exact wpAny_bind (wpAny_attempt (wpAny_callSpecial?_slot (name:=Str.ofString "__next__") hT F.slot_zip_next (wpAny_call_entry F.slot_zip_next hT F.entry_zip_next (vO D Z T1 T2 h1 h2 g1 g2 ex ey fun h' a1 a2 a3 a4 a5 a6=>wpAny_pure (k h' a1 a2 a3 a4 a5 a6)) (F.args_zip_next_1 _))))
theorem u0{Q:Option Value->Shared->Prop}(hh:A.handled=none)(D:ZipApart z TI TO i1 i2 l1 l2)(Z:IsZip s.heap z TI TO .none)(T1:IsPair s.heap TI (.ref i1) (.ref i2))(T2:IsPair s.heap TO p q)(h1:SI b s.heap i1 l1 n)(h2:SI c s.heap i2 l2 n)(g1:SQ b s.heap l1 its)(g2:SQ c s.heap l2 jts)(en:its[n]?=none\/jts[n]?=none)
  (k:∀h',(∀d o,d≠z->d≠TO->d≠i1->d≠i2->s.heap.get? d=some o->h'.get? d=some o)->Q none { s with heap:=h' }):wpAny (model P w) A (pyNext (.ref z)) Q E s:=by
 have hT:s.TypeIs (.ref z) "zip":=⟨_,Z,rfl⟩
 unfold pyNext
 refine wpAny_bind (wpAny_attempt (wpAny_callSpecial?_slot (name:=Str.ofString "__next__") hT F.slot_zip_next (wpAny_call_entry F.slot_zip_next hT F.entry_zip_next (wy hh D Z T1 T2 h1 h2 g1 g2 en fun h' u hk he=>?_) (F.args_zip_next_1 _))))
 obtain⟨o,ho,hc⟩:=he
 exact wpAny_bind (wpAny_isInstance (T:="StopIteration") (b:=true) ⟨o,ho,hc⟩ isSubtype_stop (wpAny_pure (k _ hk)))
end
def iob(b:Bool)(l:Addr):Obj:={ cls:=.type (match b with|true=>"list_iterator"|false=>"tuple_iterator"),data:=.fields #[.ref l,.int 0 0] }
def zh2(b c:Bool)(h:Heap)(l1 l2:Addr):Heap:=(h.push (iob b l1)).push (iob c l2)
def zh4(b c:Bool)(h:Heap)(l1 l2:Addr):Heap:=((zh2 b c h l1 l2).push { cls:=.type "tuple",data:=.seq #[.ref h.objs.size,.ref (h.push (iob b l1)).objs.size] }).push { cls:=.type "tuple",data:=.seq #[.none,.none] }
def zh5(b c:Bool)(h:Heap)(l1 l2:Addr):Heap:=(zh4 b c h l1 l2).push { cls:=.type "zip",data:=.fields #[.none,.bool false,.bool false,.ref (zh2 b c h l1 l2).objs.size,.ref ((zh2 b c h l1 l2).push { cls:=.type "tuple",data:=.seq #[.ref h.objs.size,.ref (h.push (iob b l1)).objs.size] }).objs.size] }
theorem pO{P:Program}{w:World}{A:Around}{E:Value->Shared->Prop}{s:Shared}{b:Bool}{l:Addr}{its:Array Value}{Q:Value->Shared->Prop}(h:SQ b s.heap l its)(k:Q (.ref s.heap.objs.size) { s with heap:=s.heap.push (iob b l) }):wpAny (model P w) A (pyIter (.ref l)) Q E s:=by
 cases b with
 |true=>exact wpAny_pyIter_list h k
 |false=>exact wpAny_pyIter_tuple h k
theorem wP(b c:Bool)(l1 l2:Addr)(its jts:Array Value):Meets (Builtin.«zip.__new__» ⟨[.type "zip",.ref l1,.ref l2],[]⟩) (fun _ R s=>SQ b s.heap l1 its/\SQ c s.heap l2 jts/\R (.ok (.ret (.ref (zh4 b c s.heap l1 l2).objs.size))) { s with heap:=zh5 b c s.heap l1 l2 }) :=
 .of_wp fun P w A R s h=>by
  obtain⟨hp,g,d,tk,os⟩:=s
  obtain⟨h1,h2,h⟩:=h
  have hsub:=sub_zip
  have k1:SQ b (Shared.heap ⟨hp,g,d,tk,os⟩) l1 its:=h1
  have k2:SQ c (Shared.heap ⟨hp.push (iob b l1),g,d,tk,os⟩) l2 jts:=h2.up fun o e=>Heap.get?_push_of_some _ e
  wp_walk using pO k1,pO k2
  exact⟨_,rfl,h⟩
theorem ul(b:Bool){h:Heap}{j l:Addr}(e:h.get? j=some (iob b l)):SI b h j l 0:=by
 cases b with
 |true=>exact⟨_,e,rfl,rfl⟩
 |false=>exact⟨_,e,rfl,rfl⟩
theorem tT{P:Program}{w:World}{A:Around}{E:Value->Shared->Prop}{s:Shared}{b c:Bool}{l1 l2:Addr}{its jts:Array Value}{Q:Value->Shared->Prop}(g1:SQ b s.heap l1 its)(g2:SQ c s.heap l2 jts)
  (k:∀h',IsZip h' (s.heap.objs.size+4) (s.heap.objs.size+2) (s.heap.objs.size+3) .none->IsPair h' (s.heap.objs.size+2) (.ref s.heap.objs.size) (.ref (s.heap.objs.size+1))->IsPair h' (s.heap.objs.size+3) .none .none ->
   SI b h' s.heap.objs.size l1 0->SI c h' (s.heap.objs.size+1) l2 0->(∀d o,s.heap.get? d=some o->h'.get? d=some o)->Q (.ref (s.heap.objs.size+4)) { s with heap:=h' }) :
  wpAny (model P w) A (call (.type "zip") [.ref l1,.ref l2]) Q E s:=by
 refine callType_new F.called_zip (by decide) (F.typeCall_zip_2 _ _) (F.newCall_zip_2 _ _) (fun o=>F.args_object_init_3 o _ _) F.entry_zip_new (wP b c l1 l2 its jts) ⟨g1,g2,?_⟩
 have z1:(s.heap.push (iob b l1)).objs.size=s.heap.objs.size+1:=Heap.size_push ..
 have z2:(zh2 b c s.heap l1 l2).objs.size=s.heap.objs.size+2:=by unfold zh2;rw [Heap.size_push,z1]
 have z3:((zh2 b c s.heap l1 l2).push { cls:=.type "tuple",data:=.seq #[.ref s.heap.objs.size,.ref (s.heap.push (iob b l1)).objs.size] }).objs.size=s.heap.objs.size+3:=by rw [Heap.size_push,z2]
 have z4:(zh4 b c s.heap l1 l2).objs.size=s.heap.objs.size+4:=by unfold zh4;rw [Heap.size_push,z3]
 have u5:∀d o,(zh4 b c s.heap l1 l2).get? d=some o->(zh5 b c s.heap l1 l2).get? d=some o:=fun d o e=>by unfold zh5;exact Heap.get?_push_of_some _ e
 have u3:∀d o,(zh2 b c s.heap l1 l2).get? d=some o->(zh4 b c s.heap l1 l2).get? d=some o:=fun d o e=>by unfold zh4;exact Heap.get?_push_of_some _ (Heap.get?_push_of_some _ e)
 have e5:(zh5 b c s.heap l1 l2).get? (zh4 b c s.heap l1 l2).objs.size=some { cls:=.type "zip",data:=.fields #[.none,.bool false,.bool false,.ref (zh2 b c s.heap l1 l2).objs.size,.ref ((zh2 b c s.heap l1 l2).push { cls:=.type "tuple",data:=.seq #[.ref s.heap.objs.size,.ref (s.heap.push (iob b l1)).objs.size] }).objs.size] }:=by unfold zh5;exact Heap.get?_push_size _ rfl
 have e4:(zh5 b c s.heap l1 l2).get? ((zh2 b c s.heap l1 l2).push { cls:=.type "tuple",data:=.seq #[.ref s.heap.objs.size,.ref (s.heap.push (iob b l1)).objs.size] }).objs.size=some { cls:=.type "tuple",data:=.seq #[.none,.none] }:=u5 _ _ (by unfold zh4;exact Heap.get?_push_size _ rfl)
 have e3:(zh5 b c s.heap l1 l2).get? (zh2 b c s.heap l1 l2).objs.size=some { cls:=.type "tuple",data:=.seq #[.ref s.heap.objs.size,.ref (s.heap.push (iob b l1)).objs.size] }:=u5 _ _ (by unfold zh4;exact Heap.get?_push_of_some _ (Heap.get?_push_size _ rfl))
 have e2:(zh5 b c s.heap l1 l2).get? (s.heap.push (iob b l1)).objs.size=some (iob c l2):=u5 _ _ (u3 _ _ (by unfold zh2;exact Heap.get?_push_size _ rfl))
 have e1:(zh5 b c s.heap l1 l2).get? s.heap.objs.size=some (iob b l1):=u5 _ _ (u3 _ _ (by unfold zh2;exact Heap.get?_push_of_some _ (Heap.get?_push_size _ rfl)))
 rw [z2,z3,z4] at e5
 rw [z1,z2] at e3
 rw [z3] at e4
 rw [z1] at e2
 show _/\_
 rw [z4]
 exact⟨⟨_,e5,rfl⟩,k _ e5 e3 e4 (ul b e1) (ul c e2) fun d o e=>u5 _ _ (u3 _ _ (by unfold zh2;exact Heap.get?_push_of_some _ (Heap.get?_push_of_some _ e)))⟩
def sho(b:Bool)(xs:List V):HO:=match b with
 |true=>.lst xs
 |false=>.tup xs
theorem qe{b:Bool}{xs ys:List V}(h:sho b xs=sho b ys):xs=ys:=by
 cases b<;>(cases h;rfl)
theorem Inv.sho{X:Cx}{pins:List (Addr × Obj)}{σ:St}{H:Hp}{s:Shared}{b:Bool}{l:Addr}{xs:List V}(I:Inv X pins σ H s)(h:H l=some (L2.sho b xs)):∃its:List Value,bg xs its/\SQ b s.heap l its.toArray:=by
 cases b with
 |true=>obtain⟨its,r,p,_⟩:=I.list (SqL.of h);exact⟨its,r,p.isList⟩
 |false=>obtain⟨its,r,p,_⟩:=I.tuple (SqT.of h);exact⟨its,r,(show s.heap.IsTuple l its.toArray from p)⟩
def Itq(b c:Bool)(l1 l2:Addr):It :=
  ⟨fun i H=>∃xs ys x y,H l1=some (sho b xs)/\H l2=some (sho c ys)/\xs[i]?=some x/\ys[i]?=some y,
   fun i H v H'=>∃p x y,H p=none/\v=.ref p/\H'=upd H p (.tup [x,y])/\(∀xs,H l1=some (sho b xs)->xs[i]?=some x)/\∀ys,H l2=some (sho c ys)->ys[i]?=some y,
   fun i H=>∃xs ys,H l1=some (sho b xs)/\H l2=some (sho c ys)/\(xs.length<=i\/ys.length<=i)⟩
theorem pb{P:Program}{w:World}{K:W.Frag}{es:List Expr}{k:Nat}{pos:Pos}(b c:Bool)(l1 l2 z TI TO i1 i2:Addr)(D:zh z TI TO i1 i2) :
  vK P w K (.Tuple es k pos) (Itq b c l1 l2) [z,TI,TO,i1,i2] z (fun i h=>IsZip h z TI TO .none/\IsPair h TI (.ref i1) (.ref i2)/\(∃u v,IsPair h TO u v)/\SI b h i1 l1 i/\SI c h i2 l2 i) where
 mem:=by simp
 obj:=fun i h st d hd=>by
  obtain⟨Z,T1,⟨u,v,T2⟩,h1,h2⟩:=st
  obtain⟨o1,v1,e1,d1⟩:=h1.get
  obtain⟨o2,v2,e2,d2⟩:=h2.get
  simp only [List.mem_cons,List.not_mem_nil,or_false] at hd
  rcases hd with rfl|rfl|rfl|rfl|rfl
  ·exact⟨_,Z,fun v z=>by cases z⟩
  ·exact⟨_,T1,fun v z=>by cases z⟩
  ·exact⟨_,T2,fun v z=>by cases z⟩
  ·exact⟨o1,e1,fun v z=>by rw [d1] at z;cases z⟩
  ·exact⟨o2,e2,fun v z=>by rw [d2] at z;cases z⟩
 keep:=fun i h h' st k=>by
  obtain⟨Z,T1,⟨u,v,T2⟩,h1,h2⟩:=st
  exact⟨k z (by simp) _ Z,k TI (by simp) _ T1,⟨u,v,k TO (by simp) _ T2⟩,h1.up fun o e=>k i1 (by simp) o e,h2.up fun o e=>k i2 (by simp) o e⟩
 item:=by
  intro X hP hw hK hc i pins s σ H E I hf st hg
  subst hP hw hK
  obtain⟨Z,T1,⟨a,a',T2⟩,h1,h2⟩:=st
  obtain⟨xs,ys,x,y,q1,q2,hx,hy⟩:=hg
  obtain⟨its,rv,p1⟩:=I.sho q1
  obtain⟨jts,rw',p2⟩:=I.sho q2
  obtain⟨u,hu,ru⟩:=rv.get hx
  obtain⟨v,hv,rv2⟩:=rw'.get hy
  have ne:∀d∈[z,TI,TO,i1,i2],l1≠d/\l2≠d:=fun d hd=>⟨fun t=>(by rw [t,(hf d hd).1] at q1;cases q1),fun t=>(by rw [t,(hf d hd).1] at q2;cases q2)⟩
  have lt:∀d∈[z,TI,TO,i1,i2],d < s.heap.objs.size:=fun d hd=>by
   obtain⟨o1,_,e1,_⟩:=h1.get
   obtain⟨o2,_,e2,_⟩:=h2.get
   simp only [List.mem_cons,List.not_mem_nil,or_false] at hd
   rcases hd with rfl|rfl|rfl|rfl|rfl
   ·exact Heap.lt_size Z
   ·exact Heap.lt_size T1
   ·exact Heap.lt_size T2
   ·exact Heap.lt_size e1
   ·exact Heap.lt_size e2
  have DD:ZipApart z TI TO i1 i2 l1 l2:=⟨D.TIz,D.TOz,D.i1z,D.i2z,D.TITO,D.TIi1,D.TIi2,D.TOi1,D.TOi2,D.i12,(ne z (by simp)).1,(ne TO (by simp)).1,(ne i1 (by simp)).1,(ne i2 (by simp)).1,(ne z (by simp)).2,(ne TO (by simp)).2,(ne i1 (by simp)).2,(ne i2 (by simp)).2⟩
  refine vy DD Z T1 T2 h1 h2 p1 p2 (x:=u) (y:=v) (by simpa using hu) (by simpa using hv) fun h3 z3 o3 j1 j2 t3 k3=>⟨_,rfl,wpAny_letOwnedTupleGo_zip z3 fun h4 z4 b4=>?_⟩
  have t4:h4.get? s.heap.objs.size=some { cls:=.type "tuple",data:=.seq #[u,v] }:=(b4.2 _ (Nat.ne_of_gt (lt z (by simp)))).trans t3
  have hn:H s.heap.objs.size=none:=I.hok.fresh (Nat.le_refl _)
  have I4:Inv X pins σ (upd H s.heap.objs.size (.tup [x,y])) { s with heap:=h4,toks:=s.toks }:=I.turnedL (fp:=[z,TI,TO,i1,i2]) (fun d ob hd t=>by
    simp only [List.mem_cons,List.not_mem_nil,or_false,not_or] at hd
    exact(b4.2 d hd.1).trans (k3 d ob hd.1 hd.2.2.1 hd.2.2.2.1 hd.2.2.2.2 t)) hf (Nat.le_refl _) ⟨by show 2<=sizeLine;decide,[u,v],.cons ru (.cons rv2 .nil),_,t4,rfl,_,rfl⟩
  refine⟨.ref s.heap.objs.size,_,I4,rfl,⟨_,x,y,hn,rfl,rfl,fun xs' h'=>by rw [q1] at h';rw [<-qe (Option.some.inj h')];exact hx,fun ys' h'=>by rw [q2] at h';rw [<-qe (Option.some.inj h')];exact hy⟩,
   ⟨z4,(b4.2 TI D.TIz).trans (k3 TI _ D.TIz D.TITO D.TIi1 D.TIi2 T1),⟨u,v,(b4.2 TO D.TOz).trans o3⟩,j1.up fun o e=>(b4.2 i1 D.i1z).trans e,j2.up fun o e=>(b4.2 i2 D.i2z).trans e⟩,fun d hd=>?_⟩
  rw [am (Nat.ne_of_lt (lt d hd))]
  exact(hf d hd).1
 done:=by
  intro X hP hw hK hc i pins s σ H E I hf st hg
  subst hP hw hK
  obtain⟨Z,T1,⟨a,a',T2⟩,h1,h2⟩:=st
  obtain⟨xs,ys,q1,q2,hl⟩:=hg
  obtain⟨its,rv,p1⟩:=I.sho q1
  obtain⟨jts,rw',p2⟩:=I.sho q2
  have e1:=rv.length
  have e2:=rw'.length
  have ne:∀d∈[z,TI,TO,i1,i2],l1≠d/\l2≠d:=fun d hd=>⟨fun t=>(by rw [t,(hf d hd).1] at q1;cases q1),fun t=>(by rw [t,(hf d hd).1] at q2;cases q2)⟩
  have DD:ZipApart z TI TO i1 i2 l1 l2:=⟨D.TIz,D.TOz,D.i1z,D.i2z,D.TITO,D.TIi1,D.TIi2,D.TOi1,D.TOi2,D.i12,(ne z (by simp)).1,(ne TO (by simp)).1,(ne i1 (by simp)).1,(ne i2 (by simp)).1,(ne z (by simp)).2,(ne TO (by simp)).2,(ne i1 (by simp)).2,(ne i2 (by simp)).2⟩
  refine u0 (I.ok.hd hc) DD Z T1 T2 h1 h2 p1 p2 ?_ fun h' k'=>⟨rfl,I.turnedR (t':=s.toks) (fp:=[z,TI,TO,i1,i2]) (fun d ob hd t=>by
    simp only [List.mem_cons,List.not_mem_nil,or_false,not_or] at hd
    exact k' d ob hd.1 hd.2.2.1 hd.2.2.2.1 hd.2.2.2.2 t) hf⟩
  rcases hl with hl|hl
  ·exact .inl (by simp;omega)
  ·exact .inr (by simp;omega)
 self:=fun _ _ _ _ _ st h=>wpAny_pyIter_zip st.1 h
section
variable{X:Cx}{es:List Expr}{k:Nat}{ps:Pos}
def yD(b c:Bool)(ta:TA):TI:=fun σ H R=>ta σ H fun vs H1=>∃l1 l2 xs ys,vs=[.ref l1,.ref l2]/\H1 l1=some (sho b xs)/\H1 l2=some (sho c ys)/\R (Itq b c l1 l2) H1
theorem vM(b c:Bool){l m:Expr}{ta:TA}{p pos:Pos} (hg:Gl X "zip") (hm:X.mg "zip"=none) (ha:PA X [l,m] ta) (hs:starEach [l,m] X.env=(false,eval l X.env)::starEach [m] X.env:=by rfl) (hpl:(backTo pos (starEach [m] X.env)).any (·.1)=false:=by rfl) :
  PI X (.Tuple es k ps) (.Call (.Name "zip" p) [l,m] [] pos) (yD b c ta):=by
 intro pins s σ H R I h
 refine Call_ (nR I hg hm vJ (PyProof.Rows.callWith_type1 (thn (ha pos pins s σ H _ I h) fun us s1 ⟨vs,H1,I1,r1,q1⟩=>?_) hs hpl))
 obtain⟨l1,l2,xs,ys,e,q1,q2,q⟩:=q1
 subst e
 cases r1 with
 |cons ra rb =>
  cases rb with
  |cons rb rc =>
   cases rc
   cases ra
   cases rb
   obtain⟨its,rv,p1⟩:=I1.sho q1
   obtain⟨jts,rw',p2⟩:=I1.sho q2
   refine tT p1 p2 fun h' Z T1 T2 h1 h2 kk=>?_
   have n:∀a b:Nat,a≠b->s1.heap.objs.size+a≠s1.heap.objs.size+b:=fun a b h e=>h (Nat.add_left_cancel e)
   refine wpAny_pyIter_zip (s:={ s1 with heap:=h' }) Z ⟨s1.heap.objs.size+4,[s1.heap.objs.size+4,s1.heap.objs.size+2,s1.heap.objs.size+3,s1.heap.objs.size,s1.heap.objs.size+1],_,_,H1,rfl,I1.kept (t':=s1.toks) kk,
    pb b c l1 l2 _ _ _ _ _ ⟨n 2 4 (by decide),n 3 4 (by decide),n 0 4 (by decide),n 1 4 (by decide),n 2 3 (by decide),n 2 0 (by decide),n 2 1 (by decide),n 3 0 (by decide),n 3 1 (by decide),n 0 1 (by decide)⟩,⟨Z,T1,⟨_,_,T2⟩,h1,h2⟩,fun d hd=>?_,q⟩
   have hd':s1.heap.objs.size<=d:=by
    simp only [List.mem_cons,List.not_mem_nil,or_false] at hd
    rcases hd with rfl|rfl|rfl|rfl|rfl<;>first|exact Nat.le_add_right _ _|exact Nat.le_refl _
   exact I1.fpOk hd' (I1.hok.fresh hd')
end
section
variable{X:Cx}
end
section
variable{P:Program}{w:World}{A:Around}{E:Value->Shared->Prop}{s:Shared}{b c:Bool}{z TI TO i1 i2 l1 l2 j l:Addr}{n:Nat}{its jts:Array Value}{x y p q:Value}
end
section
variable{X:Cx}{pins:List (Addr × Obj)}{σ:St}
end
section
variable{X:Cx}{l m:Expr}{ta:TA}{p p2 pos pos2:Pos}
end
theorem tQ{b c:Bool}{l1 l2:Addr}{xs ys:List V}{g:TG}{tb:TS}{D:fG}{σ:St}{H:Hp}(Pv:Nat->St->Hp->Prop)(h0:Pv 0 σ H)(hlen:xs.length=ys.length)(hl:∀i σ H,i<=xs.length->Pv i σ H->H l1=some (sho b xs)/\H l2=some (sho c ys))
  (hs:∀i x y p σ H,xs[i]?=some x->ys[i]?=some y->H p=none->Pv i σ H->g (.ref p) σ (upd H p (.tup [x,y])) fun σ2 H2=>tb { D with nx:=Pv (i+1),ct:=Pv (i+1),bk:=D.nx } σ2 H2) (hd:∀σ H,Pv xs.length σ H->D.nx σ H) :
  ∃W:Nat->Nat->St->Hp->Prop,(∃m,W 0 m σ H)/\∀i m σ H,W i m σ H ->
   ((Itq b c l1 l2).stop i H/\D.nx σ H)\/((Itq b c l1 l2).go i H/\∃N:St->Hp->Prop,(∀σ' H',N σ' H'->∃m',m' < m/\W (i+1) m' σ' H')/\∀x H',(Itq b c l1 l2).yld i H x H'->g x σ H' fun σ2 H2=>tb { D with nx:=N,ct:=N,bk:=D.nx } σ2 H2):=by
 refine⟨fun i m σ H=>m=xs.length - i/\i<=xs.length/\Pv i σ H,⟨xs.length,by simp,Nat.zero_le _,h0⟩,?_⟩
 rintro i m σ H ⟨rfl,hi,p⟩
 obtain⟨q1,q2⟩:=hl i σ H hi p
 by_cases hlt:i < xs.length
 ·have ex:xs[i]?=some xs[i]:=List.getElem?_eq_getElem hlt
  have ey:ys[i]?=some (ys[i]'(by omega)):=List.getElem?_eq_getElem (by omega)
  refine .inr ⟨⟨xs,ys,_,_,q1,q2,ex,ey⟩,Pv (i+1),fun σ' H' p'=>⟨xs.length - (i+1),by omega,rfl,hlt,p'⟩,fun x H' y=>?_⟩
  obtain⟨a,u,v,ha,rfl,rfl,h1,h2⟩:=y
  exact hs i u v a σ H (h1 xs q1) (h2 ys q2) ha p
 ·obtain rfl:i=xs.length:=by omega
  exact .inl ⟨⟨xs,ys,q1,q2,.inl (Nat.le_refl _)⟩,hd σ H p⟩
theorem iD{h:Heap}:∀{vs:List Value} {ds:List PyData} {as:List Addr} {j:Nat} {v:Value},ReadsAll h vs ds as->vs[j]?=some v->∃d bs,ds[j]?=some d/\Reads h v d bs
 |_,_,_,_,_,.nil,e=>by simp at e
 |_,_,_,0,_,.cons r _,e=>by
  obtain rfl:=Option.some.inj e
  exact⟨_,_,rfl,r⟩
 |_,_,_,j+1,_,.cons _ t,e=>iD (j:=j) t e
theorem gD{h:Heap}:∀{vs:List Value} {ds:List PyData} {as:List Addr},ReadsAll h vs ds as->vs.length=ds.length
 |_,_,_,.nil=>rfl
 |_,_,_,.cons _ t=>congrArg (·+1) (gD t)
def vi(K:W.Frag):V->List V->Hp->VK->Prop:=fun x vs H Q=>∃(a:Addr) (y:V) (ys:List V) (ds:List PyData) (d:PyData) (i:Nat),x=.ref a/\vs=[y]/\SqL K H a ys/\ys.length<=1000/\fq K H ys ds/\Dat K H y d/\PyData.canLayAll0 ds=true/\d.canLay0=true/\d.depth<=60 /\
 (∃e,ds[i]?=some e/\PyData.eqv e d=true)/\(∀j e,j < i->ds[j]?=some e->PyData.eqv e d=false)/\Q (.int i) H
theorem oQ{X:Cx}(hu:X.A.units+64 < cLine):MtR X "list.index" (vi X.K):=by
 intro pins s σ H x xs v us Q I rx rv h
 obtain⟨a,y,ys,ds,d,i,rfl,rfl,hq,hys,hds,hd,hl,hl2,hdp,⟨e,hi,he⟩,hno,q⟩:=h
 cases rx
 obtain⟨u,rfl,ru⟩:=rv.one
 obtain⟨its,r,pl,_⟩:=I.list hq
 obtain⟨as,ra⟩:=fq.reads I hds r
 obtain⟨bs,rb⟩:=Dat.reads I hd ru
 have hlen:its.length=ys.length:=r.length.symm
 have hlen2:=gD ra
 obtain⟨⟨cls,dd,data,sl⟩,ho,hc,n,hdat⟩:=pl.isList
 simp only at hc hdat
 subst hc hdat
 have at_:∀j (h:j < its.length),∃d' bs,ds[j]?=some d'/\Reads s.heap its[j] d' bs:=fun j h=>iD ra (List.getElem?_eq_getElem h)
 have hj:i < its.length:=by
  have:=(List.getElem?_eq_some_iff.mp hi).1
  omega
 refine call_meets PySem.F.slot_list_index ⟨_,ho,rfl⟩ PySem.F.entry_list_index (PySem.F.args_list_index_2 _ _)
  (SeqAt.list_indexAt a its.toArray n dd sl u (qr s.heap d) i (by simpa using hj) (by omega) ?_ ?_) ⟨ho,fun y hy=>?_,⟨.int i,H,I.tok _,⟨_,rfl⟩,q⟩⟩
 ·obtain⟨d',cs,h1,h2⟩:=at_ i hj
  rw [hi] at h1;cases h1
  show qr s.heap d its[i]=true
  rw [jH (dQ hl (List.mem_of_getElem? hi)) h2]
  exact he
 ·intro j hjs hlt
  obtain⟨d',cs,h1,h2⟩:=at_ j (by simpa using hjs)
  show qr s.heap d its[j]=false
  rw [jH (dQ hl (List.mem_of_getElem? h1)) h2]
  exact hno j d' hlt h1
 ·obtain⟨e',he',cs,re⟩:=gv ra y (by simpa using hy)
  have hle:=dQ hl he'
  rw [jH hle re]
  refine SeqAt.eqAt_reads e' d X.A.in1 s y u cs bs re rb hle hl2 ?_
  have h1:min e'.depth d.depth<=d.depth:=Nat.min_le_right _ _
  have h2:X.A.in1.units<=X.A.units+1:=by first|exact Nat.le_refl _|(show X.A.units+1<=X.A.units+1;exact Nat.le_refl _)|(show X.A.units<=X.A.units+1;exact Nat.le_succ _)
  omega
section
variable{X:Cx}
theorem pY{i0:Nat}{y0:Str}{py0 spos:Pos}{tg elt iter:Expr}{ifs:List Expr}{own caps:List Str}{κ:List Nat}{sc:Scope}{cl:List (Str × Addr)}{pos:Pos}{wi:TI}{g:TG}{tc:TT}{te:TE}{E:XK}(hN:X.N.Nodup)(hi0:X.N[i0]?=some y0)(hy0:Loc X.env.scope y0)(hst:X.stack=X.env::X.outer)(hfr:X.env.frame=some X.env.locals)(hex:X.ex=[])(hpn:X.pn=[])
  (hxe:∀(x:Addr) (cls:Value) (d:Option Addr) (H':Hp) (s:Shared),E cls d H'->wpAny (model X.prog X.w) X.A (leaving X.env (.ref x)) (fun _ s''=>Fly X.prog X.w X.outer X.H₀ X.s₀ x cls H' s''/\bv x d s'') (fun _ _=>False) s->X.xe (.ref x) s) (hcalm:X.calm=true) (S:iA X caps sc cl) (hκ:κ.map (fun k=>X.N[k]?)=caps.map some)
  (hi:PI X tg iter wi) (hg:∀s₀ H₀ C ex xe,PG ((blk X (own++caps) sc cl s₀ H₀ C ex).wish xe) tg g)
  (hc:∀s₀ H₀ C ex xe (pins:List (Addr × Obj)) (s:Shared) (σ:St) (H:Hp) (Q:Bool->Hp->Prop),Inv ((blk X (own++caps) sc cl s₀ H₀ C ex).wish xe) pins σ H s->tc σ H Q ->
   wpAny (model X.prog X.w) X.A (forIn ifs true fun c r=>if r=true then do let ok <-isTrue c (compEnvC sc cl C X.env) (eval c (compEnvC sc cl C X.env));pure (ForInStep.yield ok) else pure (ForInStep.yield r)) (TP ((blk X (own++caps) sc cl s₀ H₀ C ex).wish xe) pins σ Q) (fun _ _=>False) s)
  (he:∀s₀ H₀ C ex xe,cT (CX1 X.prog X.w) ((blk X (own++caps) sc cl s₀ H₀ C ex).wish xe) E->PE ((blk X (own++caps) sc cl s₀ H₀ C ex).wish xe) elt te)
  (hs:∀x,foldedSetIterable iter X.env x=pure x:=by intro _;rfl) (hsw:swapsWith (.ListComp elt [⟨tg,iter,ifs,0⟩] sc pos) (some (.Name y0 py0)) spos.line X.env=pure true:=by rfl)
  (hf0:X.fn y0=true\/X.env.scope.names.lookup y0=some .local:=by first|exact .inl rfl|exact .inr rfl|assumption) :
  PS X (.Assign [.Name y0 py0] (.ListComp elt [⟨tg,iter,ifs,0⟩] sc pos) spos) (vV (oI own.length κ wi g tc te) (fJ i0)):=by
 intro pins s σ H D0 I h
 rw [exec_Assign_Name_used _ _ _ _ hsw]
 refine wpAny_bind (wpAny_standAt (wpAny_bind ?_))
 show wpAny _ X.A (do let _ <-comprehension (.ListComp elt [⟨tg,iter,ifs,0⟩] sc pos) sc X.env _ (newList []) false (eval iter X.env) (some (assign (.Name y0 py0) X.env))) _ _ s
 refine wpAny_bind (wpAny_mono (wpAny_comprehension_free (use:=some (assign (.Name y0 py0) X.env)) (Q:=fun _ s'=>SP X pins D0 .next s') rfl hs S.clos S.kind S.names (thn (hi pins s σ H _ I h) fun v s1 h1=>thn h1 fun itv s2 h2=>?_))
  (fun _ s' hq=>wpAny_pure (wpAny_pure hq)) fun _ _ e=>e)
 obtain⟨it,fp,tn,J,H2,e,I2,T,st2,f2,W,⟨m0,w0⟩,turn⟩:=h2
 subst e
 have hfp:∀b∈fp,b < s2.heap.objs.size:=fun b hb=>by
  obtain⟨o,e,_⟩:=T.obj _ _ st2 b hb
  exact Heap.lt_size e
 refine wpAny_newObj_type (wpAny_newFunctionEnv S.nocell (fun y hy=>nomatch hy) (fun h₁ hns hsb=>?_) S.kind)
 generalize ehp:s2.heap.push { cls:=.type "list",dict:=none,data:=.seq ([]:List Value).toArray }=hp at hns hsb ⊢
 have hsz:hp.objs.size=s2.heap.objs.size+1:=by rw [<-ehp,Heap.size_push]
 have hDC:s2.heap.objs.size≠hp.objs.size:=by rw [hsz];exact Nat.ne_of_lt (Nat.lt_succ_self _)
 have old:∀b o,hp.get? b=some o->h₁.get? b=some o:=fun b o e=>(hsb.2 b (Nat.ne_of_lt (Heap.lt_size e))).trans (Heap.get?_push_of_some _ e)
 have eD:h₁.get? s2.heap.objs.size=some { cls:=.type "list",data:=.seq ([]:List Value).toArray }:=old _ _ (by rw [<-ehp];exact Heap.get?_push_size _ rfl)
 obtain⟨xe0,hx0⟩:∃xe0,xe0=notedBy (model X.prog X.w) X.A (compEnvC sc cl hp.objs.size X.env) (fun x s'=>compPost (model X.prog X.w) X.A X.xe (some (assign (.Name y0 py0) X.env)) (fun _ s'=>SP X pins D0 .next s') (.ref s2.heap.objs.size) hp.objs.size (.error x) s'):=⟨_,rfl⟩
 have I0:=(Inv.block (own:=own) (h₁:=h₁) (tk:=s2.toks+([]:List (Str × Value)).length) S hκ I2 f2 hfp ehp.symm hns old).wish xe0
 have stkD:s2.heap.objs.size∉frs X.stack:=fun z=>(List.mem_cons.mp (I2.stkSub _ z)).elim (Nat.ne_of_gt I2.lt) (I2.nofs (Nat.le_refl _))
 have cellD:∀x c,cl.lookup x=some c->c≠s2.heap.objs.size:=fun x c q=>by
  obtain⟨v,z⟩:=I2.cell x c (S.subc q)
  exact Nat.ne_of_lt z.lt
 have pinD:∀p∈X.pn++pins,p.1≠s2.heap.objs.size:=fun p hp=>Nat.ne_of_lt (Heap.lt_size (I2.pin p hp).1)
 have stkF:∀b∈fp,b∉frs X.stack:=fun b hb z=>(List.mem_cons.mp (I2.stkSub _ z)).elim (f2 b hb).2.1 (f2 b hb).2.2.1
 have hps:cT (CX1 X.prog X.w) ((blk X (own++caps) sc cl { s2 with heap:=hp } H2 hp.objs.size (s2.heap.objs.size::fp)).wish xe0) E:=by
  intro pins' σ' H1 s1 e s' J z
  obtain⟨x,cls,d,H',rfl,fl,hdi,hE⟩:=z
  obtain⟨m,hm,_⟩:=J.loc
  have hsz0:X.s₀.heap.objs.size<=s2.heap.objs.size:=I2.sz
  rw [hx0]
  refine Fly.comp (Qe:=fun _ _=>True) (acc:=.none) (C:=hp.objs.size) (cenv0:=compEnvC sc cl hp.objs.size X.env) (Inv.unblock0 I2 f2 ehp.symm J.unwish) hst hfr hex fl hdi (by
   cases q:X.s₀.heap.get? hp.objs.size with
   |none=>rfl
   |some o=>exact absurd (Nat.lt_of_lt_of_le (Heap.lt_size q) hsz0) (by rw [hsz];exact Nat.not_lt.mpr (Nat.le_succ _))) hm J.free (fun z=>by
    have:=(List.mem_cons.mp (I2.stkSub _ z)).elim (fun e=>Nat.ne_of_gt (Nat.lt_trans I2.lt (by rw [hsz];exact Nat.lt_succ_self _)) e) (I2.nofs (by rw [hsz];exact Nat.le_succ _))
    exact this) rfl (fun s h=>hxe x cls d H' s hE h)
 have loop:codeAny (model X.prog X.w) X.A (.compLoop (.ListComp elt [⟨tg,iter,ifs,0⟩] sc pos) 0 (.ref it) (.ref s2.heap.objs.size) (compEnvC sc cl hp.objs.size X.env))
   (compPost (model X.prog X.w) X.A X.xe (some (assign (.Name y0 py0) X.env)) (fun _ s'=>SP X pins D0 .next s') (.ref s2.heap.objs.size) hp.objs.size) { s2 with heap:=h₁,toks:=s2.toks+([]:List (Str × Value)).length }:=by
  refine codeAny_loop rfl (fun n s'=>∃(i:Nat) (ys:List V) (its:List Value) (cap:Nat) (H':Hp),Inv ((blk X (own++caps) sc cl { s2 with heap:=hp } H2 hp.objs.size (s2.heap.objs.size::fp)).wish xe0) pins (cS own.length κ σ) H' s'/\tn i s'.heap/\(∀b∈fp,H' b=none) /\
   s'.heap.get? s2.heap.objs.size=some { cls:=.type "list",data:=.seq its.toArray cap }/\H' s2.heap.objs.size=none/\bg ys its/\ys.length<=sizeLine/\W i n ys H') (fun n s3 hI=>?_) m0
   ⟨0,[],[],0,H2,I0,T.keep _ _ _ st2 fun b hb o e=>old _ _ (by rw [<-ehp];exact Heap.get?_push_of_some _ e),fun b hb=>(f2 b hb).1,eD,I2.hok.fresh (Nat.le_refl _),.nil,Nat.zero_le _,w0⟩
  obtain⟨i,ys,its,cap,H3,I3,st3,fr3,eD3,nD3,rv,hz,w3⟩:=hI
  show wpAny _ X.A ((compTurn (.ListComp elt [⟨tg,iter,ifs,0⟩] sc pos) 0 (.ref it) (.ref s2.heap.objs.size) (compEnvC sc cl hp.objs.size X.env)).onRaise fun x=>do noteFrame x (compEnvC sc cl hp.objs.size X.env);theTreesLotGoes x) _ _ s3
  refine wpAny_noted ?_
  rw [compTurn_list]
  have I3':Inv ((blk X (own++caps) sc cl { s2 with heap:=hp } H2 hp.objs.size (s2.heap.objs.size::fp)).wish xe0) (pins++[(s2.heap.objs.size,{ cls:=.type "list",data:=.seq its.toArray cap })]) (cS own.length κ σ) H3 s3:=by
   refine I3.pins_of fun p hp=>(List.mem_append.mp hp).elim (fun z=>I3.pin p (List.mem_append_right _ z)) fun z=>?_
   obtain rfl:=List.mem_singleton.mp z
   exact⟨eD3,nD3,hDC,stkD,fun v q=>by cases q⟩
  have fpk:∀{H':Hp},(∀b∈fp,H' b=none)->∀b∈fp,lc ((blk X (own++caps) sc cl { s2 with heap:=hp } H2 hp.objs.size (s2.heap.objs.size::fp)).wish xe0) (pins++[(s2.heap.objs.size,{ cls:=.type "list",data:=.seq its.toArray cap })]) H' b:=fun {H'} hn b hb =>
   ⟨hn b hb,by show b≠hp.objs.size;rw [hsz];exact Nat.ne_of_lt (Nat.lt_succ_of_lt (hfp b hb)),stkF b hb,.inl (List.mem_cons_of_mem _ hb),fun x c q=>(f2 b hb).2.2.2.2.1 x c (S.subc q),fun p hp=>by
    rw [<-List.append_assoc] at hp
    rcases List.mem_append.mp hp with z|z
    ·exact(f2 b hb).2.2.2.2.2 p z
    ·obtain rfl:=List.mem_singleton.mp z
     exact Nat.ne_of_gt (hfp b hb)⟩
  rcases turn i n ys H3 w3 with ⟨stop,fin⟩|⟨go,hlt,step⟩
  ·refine wpAny_bind (wpAny_standAt (wpAny_bind (thn (T.done ((blk X (own++caps) sc cl { s2 with heap:=hp } H2 hp.objs.size (s2.heap.objs.size::fp)).wish xe0) rfl rfl rfl hcalm i _ s3 _ H3 _ I3' (fpk fr3) st3 stop) fun r s4 ⟨hr,I4⟩=>?_)))
   subst hr
   refine wpAny_pure ?_
   obtain⟨m,hm,_⟩:=I4.loc
   have eD4:=(I4.pin (s2.heap.objs.size,{ cls:=.type "list",data:=.seq its.toArray cap }) (List.mem_append_right _ (List.mem_append_right _ (List.mem_singleton.mpr rfl)))).1
   have I5:Inv X pins σ (upd H3 s2.heap.objs.size (.lst ys)) { s4 with heap:=s4.heap }:=Inv.unblock I2 f2 ehp.symm I4.unwish eD4 nD3 rv hz (Heap.SameBut.refl ..)
   have neL:hp.objs.size≠X.env.locals:=by rw [hsz];exact Nat.ne_of_gt (Nat.lt_succ_of_lt I2.lt)
   have neC:∀x c,X.env.cells.lookup x=some c->c≠hp.objs.size:=fun x c q=>by
    obtain⟨v,z⟩:=I2.cell x c q
    rw [hsz]
    exact Nat.ne_of_lt (Nat.lt_succ_of_lt z.lt)
   have frC:upd H3 s2.heap.objs.size (.lst ys) hp.objs.size=none:=by rw [am (Ne.symm hDC)];exact I4.free
   show wpAny (model X.prog X.w) X.A (assign (.Name y0 py0) X.env (.ref s2.heap.objs.size)) _ X.xe s4
   refine wpAny_assign_Name (iy (v:=.ref s2.heap.objs.size) I5 hN hi0 hy0 rfl (fun s5 I6 ⟨a,sb,ha⟩=>?_) hf0)
   have hCa:hp.objs.size≠a:=by
    rcases ha with ha|ha
    ·rw [ha];exact neL
    ·exact Ne.symm (neC _ _ ha)
   refine⟨m,hm.sameBut sb hCa,fun h' sb'=>⟨_,_,I6.turned (t':=s5.toks) (fun b o hb e=>(sb'.2 b hb).trans e) frC neL (.inr ?_) neC (fun p hp'=>?_),fin _ nD3⟩⟩
   ·exact Nat.le_trans I2.sz (by rw [hsz];exact Nat.le_succ _)
   ·have:=Heap.lt_size (I2.pin p hp').1
    rw [hsz]
    exact Nat.ne_of_lt (Nat.lt_succ_of_lt this)
  ·refine wpAny_bind (wpAny_standAt (wpAny_bind (thn (T.item ((blk X (own++caps) sc cl { s2 with heap:=hp } H2 hp.objs.size (s2.heap.objs.size::fp)).wish xe0) rfl rfl rfl hcalm i _ s3 _ H3 _ I3' (fpk fr3) st3 go) fun r s4 ⟨u,hr,h4⟩=>?_)))
   subst hr
   refine wpAny_bind (thn h4 fun _ s5 ⟨x,H5,I5,r5,y5,st5,fr5⟩=>?_)
   have I5':=I5.pinned (fpk fr5) (T.obj _ _ st5)
   refine wpAny_bind (wpAny_mono (hg _ _ _ _ _ _ s5 _ H5 x u _ I5' r5 (step x H5 y5)) (fun _ s6 ⟨σ6,H6,I6,eσ,q6⟩=>?_) fun _ _ z=>hx0▸z)
   refine wpAny_bind (wpAny_mono (hc _ _ _ _ _ _ s6 σ6 H6 _ I6 q6) (fun ok s7 ⟨H7,I7,q7⟩=>?_) fun _ _ z=>z.elim)
   have back:∀{s8:Shared} {H8:Hp},Inv ((blk X (own++caps) sc cl { s2 with heap:=hp } H2 hp.objs.size (s2.heap.objs.size::fp)).wish xe0) ((pins++[(s2.heap.objs.size,{ cls:=.type "list",data:=.seq its.toArray cap })])++iH fp s5.heap) σ6 H8 s8 ->
     Inv ((blk X (own++caps) sc cl { s2 with heap:=hp } H2 hp.objs.size (s2.heap.objs.size::fp)).wish xe0) pins (cS own.length κ σ) H8 s8/\tn (i+1) s8.heap/\(∀b∈fp,H8 b=none)/\s8.heap.get? s2.heap.objs.size=some { cls:=.type "list",data:=.seq its.toArray cap }/\H8 s2.heap.objs.size=none:=by
    intro s8 H8 I8
    have pk:∀b∈fp,∀o,s5.heap.get? b=some o->s8.heap.get? b=some o/\H8 b=none:=fun b hb o e=>by
     have z:=I8.pin (b,o) (List.mem_append_right _ (List.mem_append_right _ (dP hb e)))
     exact⟨z.1,z.2.1⟩
    have zD:=I8.pin (s2.heap.objs.size,{ cls:=.type "list",data:=.seq its.toArray cap }) (List.mem_append_right _ (List.mem_append_left _ (List.mem_append_right _ (List.mem_singleton.mpr rfl))))
    refine⟨(I8.pins_of fun p hp=>I8.pin p (List.mem_append_right _ (List.mem_append_left _ (List.mem_append_left _ hp)))).weak ?_ fun j v e=>?_,T.keep _ _ _ st5 fun b hb o e=>(pk b hb o e).1,fun b hb=>?_,zD.1,zD.2.1⟩
    ·exact I3.len.trans I8.len.symm
    ·have hge:own.length<=j:=by
      refine Nat.le_of_not_lt fun q=>?_
      unfold cS at e
      rw [List.getElem?_append_left (by rw [List.length_replicate];exact q),List.getElem?_replicate,if_pos q] at e
      cases e
     have z:=congrArg (fun l=>l[j - own.length]?) eσ
     simp only [List.getElem?_drop] at z
     rw [show own.length+(j - own.length)=j by omega] at z
     rw [z]
     exact e
    ·obtain⟨o,e,_⟩:=T.obj _ _ st5 b hb
     exact(pk b hb o e).2
   cases ok with
   |false =>
    obtain⟨m',hm,w7⟩:=(if_neg Bool.false_ne_true)▸q7
    obtain⟨I8,st8,fr8,e8,n8⟩:=back I7
    exact wpAny_pure ⟨rfl,m',hm,i+1,ys,its,cap,H7,I8,st8,fr8,e8,n8,rv,hz,w7⟩
   |true =>
    have q7':=(if_pos rfl)▸q7
    refine wpAny_bind (wpAny_bind (wpAny_mono (he _ _ _ _ _ hps _ s7 σ6 H7 _ I7 q7') (fun y s8 ⟨v8,H8,I8,r8,m',hm,w8⟩=>?_) fun _ _ z=>hx0▸z))
    obtain⟨I9,st9,fr9,e9,n9⟩:=back I8
    have hl:=rv.length
    refine wpAny_bind (wpAny_list_append_plain (items:=its.toArray) ⟨cap,e9⟩ (fun h' hl' sb=>?_) (by rw [List.size_toArray,<-hl];exact hz))
    obtain⟨cap',e'⟩:=hl'
    refine wpAny_pure (wpAny_pure ⟨rfl,m',hm,i+1,ys++[v8],its++[y],cap',H8,?_,?_,fr9,?_,n9,bg.append rv (.cons r8 .nil),?_,w8⟩)
    ·exact I9.turned (t':=s8.toks) (fun b o hb e=>(sb.2 b hb).trans e) n9 hDC (.inl List.mem_cons_self) cellD pinD
    ·exact T.keep _ _ _ st9 fun b hb o e=>(sb.2 b (Nat.ne_of_lt (hfp b hb))).trans e
    ·rw [e']
     congr 3
     simp
    ·rw [List.length_append]
     exact hlt
 exact codeAny_compStart_list loop (T.self _ 0 _ _ _ (T.keep _ _ _ st2 fun b hb o e=>old _ _ (by rw [<-ehp];exact Heap.get?_push_of_some _ e)) loop)
end
section
variable{P:Program}{w:World}{K:W.Frag}{mg:Str->Option Value}{base:Heap}{N:List Str}{qual:Str}{scope:Scope}{f:Addr}{cd:Value}{A:Around}{outer:List Env}{s:Shared}{H:Hp}{E:XK}
theorem sd{i0:Nat}{y0:Str}{py0 spos:Pos}{tg elt iter:Expr}{own caps:List Str}{κ:List Nat}{sc:Scope}{cl:List (Str × Addr)}{pos:Pos}{wi:TI}{g:TG}{te:TE}(hN:N.Nodup)(hi0:N[i0]?=some y0)(hy0:Loc scope y0)(S:iA (dI (CX1 P w) P w K mg base N qual scope f cd A outer s H E) caps sc cl)(hκ:κ.map (fun k=>N[k]?)=caps.map some)
  (hi:PI (dI (CX1 P w) P w K mg base N qual scope f cd A outer s H E) tg iter wi) (hg:∀s₀ H₀ C ex xe,PG ((blk (dI (CX1 P w) P w K mg base N qual scope f cd A outer s H E) (own++caps) sc cl s₀ H₀ C ex).wish xe) tg g)
  (he:∀s₀ H₀ C ex xe,cT (CX1 P w) ((blk (dI (CX1 P w) P w K mg base N qual scope f cd A outer s H E) (own++caps) sc cl s₀ H₀ C ex).wish xe) E->PE ((blk (dI (CX1 P w) P w K mg base N qual scope f cd A outer s H E) (own++caps) sc cl s₀ H₀ C ex).wish xe) elt te)
  (hs:∀x,foldedSetIterable iter (envOfC qual scope s.heap.objs.size f cd) x=pure x:=by intro _;rfl) (hsw:swapsWith (.ListComp elt [⟨tg,iter,[],0⟩] sc pos) (some (.Name y0 py0)) spos.line (envOfC qual scope s.heap.objs.size f cd)=pure true:=by rfl)
  (hf0:(dI (CX1 P w) P w K mg base N qual scope f cd A outer s H E).fn y0=true\/scope.names.lookup y0=some .local:=by first|exact .inl rfl|exact .inr rfl|assumption) :
  PS (dI (CX1 P w) P w K mg base N qual scope f cd A outer s H E) (.Assign [.Name y0 py0] (.ListComp elt [⟨tg,iter,[],0⟩] sc pos) spos) (vV (oI own.length κ wi g vW te) (fJ i0)) :=
 pY (X:=dI (CX1 P w) P w K mg base N qual scope f cd A outer s H E) (E:=E) hN hi0 hy0 rfl rfl rfl rfl (fun x cls d H' s hE h=>wpAny_mono h (fun _ s'' z=>⟨x,cls,d,H',rfl,z.1,z.2,hE⟩) (fun _ _ z=>z.elim)) rfl S hκ hi hg (fun s₀ H₀ C ex xe pins s σ H Q I h=>wpAny_tests_nil ⟨H,I,h⟩) he hs hsw hf0
end
theorem we{A:Around}{s:Shared}{kb:List (Key × V)}{us:List (Key × Value)}(r1:KV kb us)(hn:(kb.map (·.1)).Nodup):∀{l:List (Key × V)} {m:List (Key × Value)},KV l m->(∀p∈l,∀u,br p.2 u->∃q∈kb,q.1=p.1/\∀y,br q.2 y->SeqAt.EqAt A s u y true)->W.KeqHits A s us m true:=by
 intro l m p
 unfold KV at p
 induction p with
 |nil=>intro _;exact .nil
 |@cons a b as bs h t ih =>
  intro hm
  obtain⟨b1,b2⟩:=b
  obtain⟨f1,f2⟩:=h
  have f1':a.1=b1:=f1
  obtain⟨q,hq,eq,hy⟩:=hm a List.mem_cons_self b2 f2
  have hx:=r1.val q.1
  rw [oa hn q hq,eq,f1'] at hx
  obtain⟨y,hy',ry⟩:=kx.some_of (v:=q.2) (o:=valueAt us b1) hx
  exact W.KeqHits.hit (e:=true) (b:=true) hy' (hy y ry) (ih fun p hp=>hm p (List.mem_cons_of_mem _ hp))
def ir(K:W.Frag)(H:Hp)(x y:V):Prop:=∃d d',Dat K H x d/\Dat K H y d'/\SeqAt.shaped d=true/\SeqAt.shaped d'=true/\PyData.eqv d d'=true
def yH(K:W.Frag)(neg:Bool):R2:=fun x y H Q=>∃a b ka kb,x=.ref a/\y=.ref b/\H a=some (.dK ka)/\H b=some (.dK kb)/\Paired (fun(p q:Key × V)=>p.1=q.1/\ir K H p.2 q.2) ka kb/\Q (.bl (!neg)) H
theorem nq{α β:Type}{R:α->β->Prop}:∀{xs:List α} {ys:List β},Paired R xs ys->∀x∈xs,∃y∈ys,R x y
 |_,_,.cons h r,x,hx=>by
  rcases List.mem_cons.mp hx with rfl|hx
  ·exact⟨_,.head _,h⟩
  ·obtain⟨y,h1,h2⟩:=nq r x hx
   exact⟨y,.tail _ h1,h2⟩
section
variable{X:Cx}
theorem nj(hu:X.A.units+70 < cLine):OpR X (compareOp .NotEq) (yH X.K true):=by
 intro pins s σ H x y v u Q I rx ry h
 obtain⟨a,b,ka,kb,rfl,rfl,ha,hb,hp,q⟩:=h
 cases rx
 cases ry
 obtain⟨za,na,va,ra,da⟩:=jY I.hok ha
 obtain⟨zb,nb,vb,rb,db⟩:=jY I.hok hb
 refine W.keq_ne na nb da db (by omega) (fun _=>we rb (tI I hb) ra fun p hp' u hu'=>?_) ?_
 ·obtain⟨q',hq',e1,d,d',D1,D2,s1,s2,e⟩:=nq hp p hp'
  refine⟨q',hq',e1.symm,fun y hy=>?_⟩
  obtain⟨as,ra'⟩:=Dat.reads I D1 hu'
  obtain⟨bs,rb'⟩:=Dat.reads I D2 hy
  rw [<-e]
  exact W.keq_at ra' rb' s1 s2 (by show X.A.units+1+64 < cLine;omega)
 ·have l1:=hp.length
  rw [<-ra.length,<-rb.length,l1,beq_self_eq_true]
  exact⟨.bl _,H,I,rfl,q⟩
def ym(i j k:Nat)(ta:TA):TS:=fun D σ H=>ta σ H fun vs H1=>∃v w z,vs=[v,w,z]/\D.nx (((σ.set k (some z)).set j (some w)).set i (some v)) H1
theorem vm{pos:Pos}{i j k:Nat}{x y x3:Str}{a b c:Expr}{ta:TA}{px py pz pt:Pos}{kt k2 pt2}(hc:X.calm=true)(hN:X.N.Nodup)(hi:X.N[i]?=some x)(hj:X.N[j]?=some y)(hk:X.N[k]?=some x3)
  (hx:X.env.scope.names.lookup x=some .local) (hy:X.env.scope.names.lookup y=some .local) (hz:X.env.scope.names.lookup x3=some .local) (ha:PA X [a,b,c] ta)
  (hw:swappedStores [.Tuple [.Name x px,.Name y py,.Name x3 pz] kt pt] (.Tuple [a,b,c] k2 pt2) X.env=pure (some [x,y,x3]))
  (hs:swapsWithSole [.Tuple [.Name x px,.Name y py,.Name x3 pz] kt pt] (.Tuple [a,b,c] k2 pt2) pos.line X.env=pure false:=by rfl) :
  PS X (.Assign [.Tuple [.Name x px,.Name y py,.Name x3 pz] kt pt] (.Tuple [a,b,c] k2 pt2) pos) (ym i j k ta):=by
 intro pins s σ H D I h
 rw [exec_Assign_arm]
 refine wpAny_bind (wpAny_standAt ?_)
 rw [hs]
 refine wpAny_bind (wpAny_pure ?_)
 rw [if_neg (by decide)]
 refine wpAny_bind (Tuple_ (thn (ha _ pins s σ H _ I h) fun us s1 ⟨vs,H1,I1,r1,q1⟩=>?_))
 obtain⟨v,w,z,e1,q1⟩:=q1
 subst e1
 obtain⟨u1,u2,u3,rfl,rv,rw',rz⟩:∃u1 u2 u3,us=[u1,u2,u3]/\br v u1/\br w u2/\br z u3:=by
  cases r1 with
  |cons p q =>
   cases q with
   |cons p' q' =>
    cases q' with
    |cons p3 q3 =>
     cases q3
     exact⟨_,_,_,rfl,p,p',p3⟩
 refine wpAny_newObj_type ?_ (by show 3<=sizeLine;decide)
 have I2:Inv X pins σ H1 { s1 with heap:=s1.heap.push { cls:=.type "tuple",data:=.seq [u1,u2,u3].toArray } }:=I1.kept (t':=s1.toks) fun b o e=>Heap.get?_push_of_some _ e
 rw [hw]
 refine wpAny_bind (wpAny_pure ?_)
 show wpAny (model X.prog X.w) X.A (do rule "assign.swapped-stores";let items <-unpackItems (.ref s1.heap.objs.size) 3 none;assignInOrder [fun v=>bindName X.env x3 v,fun v=>bindName X.env y v,fun v=>bindName X.env x v] items.reverse;pure Flow.next) _ _ _
 refine wpAny_bind (wpAny_rule (wpAny_bind (unpackItems_tuple (items:=#[u1,u2,u3]) (I.ok.hd hc) (IsTup.new s1.heap _) fun h' hx'=>?_)))
 have I3:=I2.kept (h':=h') (t':=s1.toks) fun b o e=>hx' b o (Nat.ne_of_lt (Heap.lt_size e)) e
 show wpAny _ _ (assignInOrder [fun v=>bindName X.env x3 v,fun v=>bindName X.env y v,fun v=>bindName X.env x v] [u3,u2,u1] >>= fun _=>pure Flow.next) _ _ _
 refine wpAny_bind (assignInOrder_cons (wpAny_bindName (cM I3 hN hk (.inl hz) rz (fun s2 I4=>?_) (.inr hz))))
 refine assignInOrder_cons (wpAny_bindName (cM I4 hN hj (.inl hy) rw' (fun s3 I5=>?_) (.inr hy)))
 refine assignInOrder_cons (wpAny_bindName (cM I5 hN hi (.inl hx) rv (fun s4 I6=>assignInOrder_nil (wpAny_pure ?_)) (.inr hx)))
 exact⟨_,H1,I6,q1⟩
end
end L2
namespace L2
theorem nK0{p q:Prop}(c:p)(h:¬p:=by decide +kernel):q:=absurd c h
theorem nD0{p q:Prop}(c:p)(h:¬p:=by decide):q:=absurd c h
end L2
namespace L2
theorem szQ(n:Nat)(h:n<=1000:=by decide):n<=PySem.sizeLine:=Nat.le_of_lt (dJ h)
end L2
namespace K53
open PySem L2 Kk
def top(i:Nat):Stmt:=PySem.Challenge.pw_sealhouse_k53_functions_within.main.body.getD i (.Pass ⟨0,0,0,0⟩)
abbrev fA:Stmt:=top 13
abbrev iT:Stmt:=top 14
abbrev vT:Stmt:=top 15
abbrev cV:Stmt:=top 16
abbrev dl:Stmt:=top 17
abbrev cP:Stmt:=top 18
abbrev ca:Stmt:=top 23
abbrev aX:Stmt:=top 24
abbrev eO:Stmt:=top 25
abbrev ja:Stmt:=top 32
abbrev ib:Stmt:=top 33
abbrev dA:Stmt:=top 35
abbrev sCell:Stmt:=top 37
abbrev sPick:Stmt:=top 38
abbrev sSize:Stmt:=top 40
abbrev gc:Stmt:=top 41
abbrev gi:Stmt:=top 42
abbrev gs:Stmt:=top 43
abbrev jg:Stmt:=top 44
abbrev dC:Stmt:=top 45
abbrev em:Stmt:=top 46
abbrev jV:Stmt:=top 47
theorem iB{n:Nat}(h:n<=1000):n<=sizeLine:=Nat.le_of_lt (dJ h)
theorem ad{H:Hp}{p:Addr}(h:H p=none)(o:HO):aH H (upd H p o):=fun b u q=>by rw [am (ax q h)];exact q
def gE(ks:List Kd):Nat:=(ks.map Kd.words).sum
theorem bj(k:Kd):0 < k.words:=by
 have:=dB k
 have:=dM k
 omega
theorem cJ(a b:List Kd):gE (a++b)=gE a+gE b:=by
 unfold gE
 rw [List.map_append,List.sum_append]
theorem bR(k:Kd):gE [k]=k.words:=Nat.add_zero _
theorem eP:∀ks:List Kd,ks.length<=gE ks
 |[]=>Nat.le_refl _
 |k::ks=>by
  have h1:=eP ks
  have h2:=bj k
  show ks.length+1<=k.words+gE ks
  omega
theorem snoc{K:W.Frag}{H:Hp}:∀{us:List V} {v:V} {ks:List Kd},cE K H (us++[v]) ks->∃ls k,ks=ls++[k]/\cE K H us ls/\bJ K H v k
 |[],v,_,.cons a .nil=>⟨[],_,rfl,.nil,a⟩
 |u::us,v,_,.cons a b=>by
  obtain⟨ls,k,rfl,h1,h2⟩:=snoc (us:=us) b
  exact⟨_::ls,k,rfl,.cons a h1,h2⟩
theorem gK{us:List V}{v:V}:(us++[v])[(us++[v]).length - 1]?=some v:=by simp
theorem one{K:W.Frag}{H:Hp}{v:V}{k:Kd}(h:bJ K H v k):cE K H [v] [k]:=.cons h .nil
def iE(K:W.Frag):Sp:=fun vs H Q _=>∃(x:V) (k:Kd),vs=[x]/\bJ K H x k/\k.words<=900/\∀H',aH H H'->Q (.int k.words) H'
section
variable{P:Program}{w:World}{K:W.Frag}{mg:Str->Option Value}{base:Heap}
theorem di:aJ ["kind","words","left","here"] ["kind"] (aj fA):=⟨rfl,rfl,rfl,by decide +kernel,rfl,by decide +kernel,by decide +kernel⟩
theorem ok_words{f:Addr}{fd:FuncData} (F:Fun K "words_in" "words_in" fA f fd) (ml:mg "len"=none):aV P w K mg base CX0 1 f fd ["kind"] (iE K):=by
 refine F.ok di (fun vs H Q E h=>?_) (fun cdv A outer s H vs Q E hr h=>?_)
 ·obtain⟨x,k,rfl,_⟩:=h
  rfl
 obtain⟨x,k,rfl,hk,h9,q⟩:=h
 refine⟨_,ah (ay (i:=1) di.nd rfl (Or.inl rfl) ag)
  (ah (ay (i:=2) di.nd rfl (Or.inl rfl) (dq (aa (pv 0) ae)))
  (ah (jB PassesOwn.never (aB mh (bU aR rfl ml boot_len (aa (pv 2) ae)) ag (aE _))
   (ah (ay (i:=3) di.nd rfl (Or.inl rfl) (o9 PySem.F.plainAttrs_list PySem.F.slot_list_pop PySem.F.type_list_pop o0 (pv 2)))
   (ah (uu (i:=1) di.nd rfl (Or.inl rfl) ag uf)
   (ao (bc (aB bu (aq aG (pv 3) ag (fun _ _=>rfl)) ai (aE _))
    (ah (aO (eQ PySem.F.plainAttrs_list PySem.F.slot_list_append PySem.F.type_list_append bo (pv 2) (aa (aq aG (pv 3) ag (fun _ _=>rfl)) ae)))
    (ao (aO (eQ PySem.F.plainAttrs_list PySem.F.slot_list_append PySem.F.type_list_append bo (pv 2) (aa (aq aG (pv 3) ag (fun _ _=>rfl)) ae))))) aI)))))
  (ao (aM (pv 1))))),?_⟩
 refine⟨_,rfl,(szQ 1),fun l hl=>?_⟩
 have sL:∀o,aH H (upd H l o):=ad hl
 refine mq (fun σ H2=>∃(vs:List V) (ks:List Kd) (n:Nat) (h:Option V),σ=[some x,some (.int n),some (.ref l),h]/\H2=upd H l (.lst vs)/\cE K H vs ks/\n+gE ks=k.words)
  (fun σ _=>match σ with|[_,some (.int n),_,_]=>k.words - n.toNat|_=>0) ⟨[x],[k],0,none,rfl,rfl,one hk,by rw [bR];omega⟩ ?_ ?_
 ·rintro σ H2 ⟨vs,ks,n,h,rfl,rfl,hv,hn⟩
  refine⟨_,rfl,l,_,rfl,.inl (SqL.of ac),_,_,rfl,rfl,_,rfl,?_⟩
  refine dH (fun c=>?_) (fun c=>?_)
  ·have c':(0:Int) < (vs.length:Int):=of_decide_eq_true c
   have hne:vs≠[]:=fun e=>by rw [e] at c';exact absurd c' (by decide)
   obtain⟨us,v,rfl⟩:∃us v,vs=us++[v]:=⟨_,_,(List.dropLast_concat_getLast hne).symm⟩
   obtain⟨ls,j,rfl,hu,hj⟩:=snoc hv
   rw [cJ,bR] at hn
   have hjp:=bj j
   refine⟨_,rfl,?_,l,_,v,rfl,rfl,ac,gK,?_⟩
   ·exact .inl ⟨rfl,_,SqL.of ac⟩
   rw [d9,List.dropLast_concat]
   have hl2:=eP ls
   have hul:=hu.length
   refine⟨_,rfl,_,_,rfl,rfl,?_⟩
   have e1:((n:Int)+1)=((n+1:Nat):Int):=by omega
   cases hj with
   |@num p m t =>
    refine⟨_,rfl,_,_,_,_,rfl,rfl,(sL _).tup t,(show atI [V.str "num",.int m] 0=some (.str "num") from rfl),rfl,_,rfl,dH (fun c=>nK0 c) (fun _=>?_)⟩
    have hw:(Kd.num m).words=1:=rfl
    rw [hw] at hn
    refine⟨⟨us,ls,n+1,_,by rw [<-e1]<;>rfl,rfl,hu,by omega⟩,?_⟩
    show k.words - ((n:Int)+1).toNat < k.words - (n:Int).toNat
    omega
   |@name p q t h =>
    refine⟨_,rfl,_,_,_,_,rfl,rfl,(sL _).tup h,(show atI [V.str "name",.str q,.str t] 0=some (.str "name") from rfl),rfl,_,rfl,dH (fun c=>nK0 c) (fun _=>?_)⟩
    have hw:(Kd.name q t).words=1:=rfl
    rw [hw] at hn
    refine⟨⟨us,ls,n+1,_,by rw [<-e1]<;>rfl,rfl,hu,by omega⟩,?_⟩
    show k.words - ((n:Int)+1).toNat < k.words - (n:Int).toNat
    omega
   |@pair p y z a b t ha hb =>
    have hw:(Kd.pair a b).words=1+a.words+b.words:=rfl
    rw [hw] at hn hjp
    have h1:=bj a
    have h2:=bj b
    refine⟨_,rfl,_,_,_,_,rfl,rfl,(sL _).tup t,(show atI [V.str "pair",y,z] 0=some (.str "pair") from rfl),rfl,_,rfl,dH (fun _=>?_) (fun c=>absurd (by decide +kernel) c)⟩
    refine⟨_,rfl,.inl ⟨rfl,_,SqL.of ac⟩,_,rfl,_,_,_,_,rfl,rfl,(sL _).tup t,(show atI [V.str "pair",y,z] 1=some y from rfl),l,_,_,rfl,rfl,ac,Nat.lt_of_lt_of_le (Nat.lt_succ_self _) (iB (by omega)),?_⟩
    rw [d9]
    refine⟨_,rfl,.inl ⟨rfl,_,SqL.of ac⟩,_,rfl,_,_,_,_,rfl,rfl,(sL _).tup t,(show atI [V.str "pair",y,z] 2=some z from rfl),l,_,_,rfl,rfl,ac,Nat.lt_of_lt_of_le (Nat.lt_succ_self _) (iB (by rw [List.length_append];show us.length+1+1<=1000;omega)),?_⟩
    rw [d9]
    refine⟨⟨us++[y]++[z],ls++[a]++[b],n+1,_,by rw [<-e1]<;>rfl,rfl,(hu.append (one ha)).append (one hb),by rw [cJ,cJ,bR,bR];omega⟩,?_⟩
    show k.words - ((n:Int)+1).toNat < k.words - (n:Int).toNat
    omega
  ·have c':¬(0:Int) < (vs.length:Int):=of_decide_eq_false (Bool.eq_false_iff.mpr c)
   have hv0:vs=[]:=List.length_eq_zero_iff.mp (by omega)
   subst hv0
   cases hv
   have e:n=k.words:=hn
   subst e
   exact⟨_,rfl,q _ (sL _)⟩
 ·rintro σ H2 Q1 Q2 hq ⟨v,e1,a,xs,e2,hs,i,j,e3,e4,b,e5,h⟩
  exact⟨v,e1,a,xs,e2,hs,i,j,e3,e4,b,e5,hq _ _ h⟩
theorem rU{c:TT}{tb:TS}{D:fG}{σ:St}{H:Hp}(W:Nat->St->Hp->Prop)(m:Nat)(h0:W m σ H)
  (hs:∀m σ H,W m σ H->c σ H fun b H1=>if b=true then tb { D with nx:=fun σ' H'=>∃m',m' < m/\W m' σ' H',ct:=fun σ' H'=>∃m',m' < m/\W m' σ' H',bk:=D.nx } σ H1 else D.nx σ H1)
  (mono:∀σ H Q Q',(∀b H1,Q b H1->Q' b H1)->c σ H Q->c σ H Q'):pK c tb D σ H:=by
 refine⟨W,⟨m,h0⟩,fun m σ H p=>mono σ H _ _ (fun b H1 q=>?_) (hs m σ H p)⟩
 cases b with
 |true=>exact⟨_,fun σ' H' z=>z,q⟩
 |false=>exact q
def Kd.names:Kd->List (Str × Str)
 |.num _=>[]
 |.name q t=>[(q,t)]
 |.pair a b=>Kd.names a++Kd.names b
def ms(acc:List (Str × Str))(n:Str × Str):List (Str × Str):=if n∈acc then acc else acc++[n]
def cD(acc l:List (Str × Str)):List (Str × Str):=l.foldl ms acc
def tu(ks:List Kd):List (Str × Str):=(ks.reverse.map Kd.names).flatten
theorem fX(ls:List Kd)(j:Kd):tu (ls++[j])=Kd.names j++tu ls:=by
 unfold tu
 rw [List.reverse_concat,List.map_cons,List.flatten_cons]
def gH(n:Str × Str):List Key:=[.inr n.1,.inr n.2]
theorem mR{m n:Str × Str}(h:gH m=gH n):m=n:=by
 cases m;cases n
 simp [gH] at h
 exact Prod.ext h.1 h.2
theorem sW{kvs:List (List Key × V)}{dn:List (Str × Str)}{n:Str × Str}{v:V}(h:kvs.map (·.1)=dn.map gH):(bi kvs (gH n) v).map (·.1)=(ms dn n).map gH:=by
 have e:(kvs.any fun kv=>decide (kv.1=gH n))=true↔n∈dn:=by
  rw [List.any_eq_true]
  constructor
  ·rintro⟨p,hp,q⟩
   have m:p.1∈kvs.map (·.1):=List.mem_map.mpr ⟨p,hp,rfl⟩
   rw [h] at m
   obtain⟨z,hz,ez⟩:=List.mem_map.mp m
   exact mR (ez.trans (of_decide_eq_true q))▸hz
  ·intro hn
   have m:gH n∈dn.map gH:=List.mem_map.mpr ⟨n,hn,rfl⟩
   rw [<-h] at m
   obtain⟨p,hp,ep⟩:=List.mem_map.mp m
   exact⟨p,hp,decide_eq_true ep⟩
 unfold bi ms
 by_cases hn:n∈dn
 ·rw [if_pos (e.mpr hn),if_pos hn,<-h,List.map_map]
  refine List.map_congr_left fun p _=>?_
  show(if p.1=gH n then (p.1,v) else p).1=p.1
  split<;>rfl
 ·rw [if_neg (fun z=>hn (e.mp z)),if_neg hn,List.map_append,List.map_append,h]
  rfl
theorem mw(dn:List (Str × Str))(n:Str × Str):(ms dn n).length<=dn.length+1:=by
 unfold ms
 split
 ·omega
 ·rw [List.length_append]
  exact Nat.le_refl _
theorem gw{H:Hp}:∀{kvs:List (List Key × V)} {dn:List (Str × Str)} {as:List Addr},kvs.map (·.1)=dn.map gH ->
  Paired (fun(p:List Key × V) (k:Addr)=>H k=some (.tup (p.1.map kV))) kvs as->Paired (fun(n:Str × Str) (a:Addr)=>H a=some (.tup [.str n.1,.str n.2])) dn as
 |[],[],_,_,.nil=>.nil
 |p::kvs,n::dn,_,h,.cons a b=>by
  have h1:p.1=gH n:=(List.cons.inj h).1
  rw [h1] at a
  exact .cons a (gw (List.cons.inj h).2 b)
theorem gT{H H':Hp}(e:aH H H'):∀{dn:List (Str × Str)} {as:List Addr},Paired (fun(n:Str × Str) (a:Addr)=>H a=some (.tup [.str n.1,.str n.2])) dn as->Paired (fun(n:Str × Str) (a:Addr)=>H' a=some (.tup [.str n.1,.str n.2])) dn as
 |_,_,.nil=>.nil
 |_,_,.cons a b=>.cons (e _ _ a) (gT e b)
theorem jC{H H2:Hp}{a:Addr}{o:HO}(e:aH H H2)(h:H a=none):aH H (upd H2 a o):=fun b u q=>by rw [am (ax q h)];exact e b u q
def pD(K:W.Frag):Sp:=fun vs H Q _=>∃(x:V) (k:Kd),vs=[x]/\bJ K H x k/\k.words<=900 /\
 ∀H' l (as:List Addr),aH H H'->H l=none->H' l=some (.lst (as.map V.ref))->Paired (fun(n:Str × Str) (a:Addr)=>H' a=some (.tup [.str n.1,.str n.2])) (cD [] (Kd.names k)) as->Q (.ref l) H'
theorem sP:bootBuiltins "list"=some (.type "list"):=by decide +kernel
theorem jq:aJ ["kind","met","left","here"] ["kind"] (aj iT):=⟨rfl,rfl,rfl,by decide +kernel,rfl,by decide +kernel,by decide +kernel⟩
theorem tt{f:Addr}{fd:FuncData} (F:Fun K "names_in" "names_in" iT f fd) (ml:mg "len"=none) (mi:mg "list"=none):aV P w K mg base CX0 1 f fd ["kind"] (pD K):=by
 refine F.ok jq (fun vs H Q E h=>?_) (fun cdv A outer s H vs Q E hr h=>?_)
 ·obtain⟨x,k,rfl,_⟩:=h
  rfl
 obtain⟨x,k,rfl,hk,h9,q⟩:=h
 have hu:=Nat.lt_of_le_of_lt (Nat.add_le_add_left (show 1<=64 by decide) _) hr.units
 refine⟨_,ah (ay (i:=1) jq.nd rfl (Or.inl rfl) nS)
  (ah (ay (i:=2) jq.nd rfl (Or.inl rfl) (dq (aa (pv 0) ae)))
  (ah (jB PassesOwn.never (aB mh (bU aR rfl ml boot_len (aa (pv 2) ae)) ag (aE _))
   (ah (ay (i:=3) jq.nd rfl (Or.inl rfl) (o9 PySem.F.plainAttrs_list PySem.F.slot_list_pop PySem.F.type_list_pop o0 (pv 2)))
   (ao (bc (aB bu (aq aG (pv 3) ag (fun _ _=>rfl)) ai (aE _))
    (ah (aO (eQ PySem.F.plainAttrs_list PySem.F.slot_list_append PySem.F.type_list_append bo (pv 2) (aa (aq aG (pv 3) ag (fun _ _=>rfl)) ae)))
    (ao (aO (eQ PySem.F.plainAttrs_list PySem.F.slot_list_append PySem.F.type_list_append bo (pv 2) (aa (aq aG (pv 3) ag (fun _ _=>rfl)) ae)))))
    (ao (bc (aB bu (aq aG (pv 3) ag (fun _ _=>rfl)) ai (aE _))
     (ao (ig hu (pv 1) (ak (aa (aq aG (pv 3) ag (fun _ _=>rfl)) (aa (aq aG (pv 3) ag (fun _ _=>rfl)) ae))) xw rfl)) aI))))))
  (ao (aM (cw (kX rfl) rfl mi sP (aa (pv 1) ae)))))),?_⟩
 refine fun d hd=>⟨_,rfl,(szQ 1),fun l hl=>?_⟩
 have hdl:d≠l:=fun e=>by rw [e] at hl;rw [ac] at hl;cases hl
 have hl0:H l=none:=by rw [am (Ne.symm hdl)] at hl;exact hl
 refine rU (fun m σ H2=>∃(vs:List V) (ks:List Kd) (kvs:List (List Key × V)) (dn:List (Str × Str)) (h:Option V),σ=[some x,some (.ref d),some (.ref l),h]/\aH H H2/\H2 l=some (.lst vs)/\H2 d=some (.dT kvs) /\
   cE K H vs ks/\kvs.map (·.1)=dn.map gH/\cD dn (tu ks)=cD [] (Kd.names k)/\dn.length+gE ks<=k.words/\m=gE ks) (gE [k])
  ⟨[x],[k],[],[],none,rfl,jC (ad hd _) hl0,ac,by rw [am hdl];exact ac,one hk,rfl,by show cD [] (Kd.names k++[])=_;rw [List.append_nil],by rw [bR];show 0+_<=_;omega,rfl⟩ ?_ ?_
 ·rintro m σ H2 ⟨vs,ks,kvs,dn,h,rfl,sH,hL,hD,hv,hkeys,hf,hn,rfl⟩
  refine⟨_,rfl,l,_,rfl,.inl (SqL.of hL),_,_,rfl,rfl,_,rfl,?_⟩
  refine dH (fun c=>?_) (fun c=>?_)
  ·have c':(0:Int) < (vs.length:Int):=of_decide_eq_true c
   have hne:vs≠[]:=fun e=>by rw [e] at c';exact absurd c' (by decide)
   obtain⟨us,v,rfl⟩:∃us v,vs=us++[v]:=⟨_,_,(List.dropLast_concat_getLast hne).symm⟩
   obtain⟨ls,j,rfl,hus,hj⟩:=snoc hv
   rw [fX] at hf
   rw [cJ,bR] at hn ⊢
   have hjp:=bj j
   refine⟨_,rfl,.inl ⟨rfl,_,SqL.of hL⟩,l,_,v,rfl,rfl,hL,gK,?_⟩
   rw [List.dropLast_concat]
   have hl2:=eP ls
   have hul:=hus.length
   have sH1:aH H (upd H2 l (.lst us)):=jC sH hl0
   have hD1:upd H2 l (.lst us) d=some (.dT kvs):=by rw [am hdl];exact hD
   cases hj with
   |@num p m t =>
    refine⟨_,rfl,_,_,_,_,rfl,rfl,sH1.tup t,(show atI [V.str "num",.int m] 0=some (.str "num") from rfl),rfl,_,rfl,dH (fun c=>nK0 c) (fun _=>?_)⟩
    refine⟨_,rfl,_,_,_,_,rfl,rfl,sH1.tup t,(show atI [V.str "num",.int m] 0=some (.str "num") from rfl),rfl,_,rfl,dH (fun c=>nK0 c) (fun _=>?_)⟩
    exact⟨gE ls,by omega,us,ls,kvs,dn,_,rfl,sH1,ac,hD1,hus,hkeys,hf,by omega,rfl⟩
   |@name p n t h =>
    refine⟨_,rfl,_,_,_,_,rfl,rfl,sH1.tup h,(show atI [V.str "name",.str n,.str t] 0=some (.str "name") from rfl),rfl,_,rfl,dH (fun c=>nK0 c) (fun _=>?_)⟩
    refine⟨_,rfl,_,_,_,_,rfl,rfl,sH1.tup h,(show atI [V.str "name",.str n,.str t] 0=some (.str "name") from rfl),rfl,_,rfl,dH (fun _=>?_) (fun c=>absurd (by decide +kernel) c)⟩
    refine⟨_,rfl,_,rfl,_,_,_,_,rfl,rfl,sH1.tup h,(show atI [V.str "name",.str n,.str t] 1=some (.str n) from rfl),_,rfl,_,_,_,_,rfl,rfl,sH1.tup h,(show atI [V.str "name",.str n,.str t] 2=some (.str t) from rfl),(szQ 2),fun b hb=>?_⟩
    have hbd:d≠b:=ax hD1 hb
    have hbl:l≠b:=ax ac hb
    have hb0:H b=none:=by
     cases e:H b with
     |none=>rfl
     |some o=>rw [sH1 b o e] at hb;cases hb
    have hlen:kvs.length=dn.length:=by have:=congrArg List.length hkeys;rw [List.length_map,List.length_map] at this;exact this
    have hw:(Kd.name n t).words=1:=rfl
    rw [hw] at hn
    refine⟨d,_,rfl,qU.t (k:=gH (n,t)) (by rw [am hbd];exact hD1) (by rw [ac]<;>rfl) (Nat.lt_of_lt_of_le (Nat.lt_succ_self _) (iB (by omega))),?_⟩
    have al:=mw dn (n,t)
    refine⟨gE ls,by omega,us,ls,_,ms dn (n,t),_,rfl,jC (jC sH1 hb0) hd,?_,ac,hus,sW hkeys,hf,by omega,rfl⟩
    rw [am (Ne.symm hdl),am hbl,ac]
   |@pair p y z a b t ha hb =>
    have hw:(Kd.pair a b).words=1+a.words+b.words:=rfl
    rw [hw] at hn hjp ⊢
    have h1:=bj a
    have h2:=bj b
    refine⟨_,rfl,_,_,_,_,rfl,rfl,sH1.tup t,(show atI [V.str "pair",y,z] 0=some (.str "pair") from rfl),rfl,_,rfl,dH (fun _=>?_) (fun c=>absurd (by decide +kernel) c)⟩
    refine⟨_,rfl,.inl ⟨rfl,_,SqL.of ac⟩,_,rfl,_,_,_,_,rfl,rfl,sH1.tup t,(show atI [V.str "pair",y,z] 2=some z from rfl),l,_,_,rfl,rfl,ac,Nat.lt_of_lt_of_le (Nat.lt_succ_self _) (iB (by omega)),?_⟩
    rw [d9]
    refine⟨_,rfl,.inl ⟨rfl,_,SqL.of ac⟩,_,rfl,_,_,_,_,rfl,rfl,(jC sH hl0).tup t,(show atI [V.str "pair",y,z] 1=some y from rfl),l,_,_,rfl,rfl,ac,Nat.lt_of_lt_of_le (Nat.lt_succ_self _) (iB (by rw [List.length_append];show us.length+1+1<=1000;omega)),?_⟩
    rw [d9]
    have es:gE (ls++[b]++[a])=gE ls+b.words+a.words:=by rw [cJ,cJ,bR,bR]
    refine⟨gE (ls++[b]++[a]),by rw [es];omega,us++[z]++[y],ls++[b]++[a],kvs,dn,_,rfl,jC sH hl0,ac,by rw [am hdl];exact hD,(hus.append (one hb)).append (one ha),hkeys,?_,by rw [es];omega,rfl⟩
    rw [fX,fX,<-List.append_assoc]
    exact hf
  ·have c':¬(0:Int) < (vs.length:Int):=of_decide_eq_false (Bool.eq_false_iff.mpr c)
   have hv0:vs=[]:=List.length_eq_zero_iff.mp (by omega)
   subst hv0
   cases hv
   refine⟨_,rfl,d,kvs,rfl,hD,fun as o ho pr=>?_⟩
   have ef:dn=cD [] (Kd.names k):=hf
   subst ef
   have so:aH H2 (upd H2 o (.lst (as.map V.ref))):=ad ho _
   have ho0:H o=none:=by
    cases e:H o with
    |none=>rfl
    |some u=>rw [sH o u e] at ho;cases ho
   refine q _ o as (fun b u e=>so b u (sH b u e)) ho0 ac (gT so (gw hkeys pr))
 ·rintro σ H2 Q1 Q2 hq ⟨v,e1,a,xs,e2,hs,i,j,e3,e4,b,e5,h⟩
  exact⟨v,e1,a,xs,e2,hs,i,j,e3,e4,b,e5,hq _ _ h⟩
def Kd.sok:Kd->Bool
 |.num _=>true
 |.name q t=>PyData.strOk q&&PyData.strOk t
 |.pair a b=>Kd.sok a&&Kd.sok b
theorem cZ{H H1 H2:Hp}(a:aH H H1)(b:aH H1 H2):aH H H2:=fun x o e=>b x o (a x o e)
theorem bq{K:W.Frag}{H H':Hp}(e:∀a xs,SqT K H a xs->SqT K H' a xs):∀{x:V} {k:Kd},bJ K H x k->bJ K H' x k
 |_,_,.num h=>.num (e _ _ h)
 |_,_,.name h=>.name (e _ _ h)
 |_,_,.pair h a b=>.pair (e _ _ h) (bq e a) (bq e b)
theorem nr{K:W.Frag}{H H':Hp}(e:∀a xs,SqT K H a xs->SqT K H' a xs):∀{xs:List V} {ks:List Kd},cE K H xs ks->cE K H' xs ks
 |_,_,.nil=>.nil
 |_,_,.cons a b=>.cons (bq e a) (nr e b)
def AI(ks:List Kd):List Kd:=(ks.map Kd.leaves).flatten
theorem uT:bootBuiltins "int"=some (.type "int"):=by decide +kernel
theorem fQ:bootBuiltins "tuple"=some (.type "tuple"):=by decide +kernel
def Kd.put(G:Str × Str->Option Kd):Kd->Kd
 |.num n=>.num n
 |.name q t=>(G (q,t)).getD (.name q t)
 |.pair a b=>.pair (Kd.put G a) (Kd.put G b)
def Kd.depth:Kd->Nat
 |.num _=>1
 |.name _ _=>1
 |.pair a b=>1+max (Kd.depth a) (Kd.depth b)
theorem qk(k:Kd):1<=Kd.depth k:=by
 cases k with
 |num _=>exact Nat.le_refl _
 |name _ _=>exact Nat.le_refl _
 |pair a b=>exact Nat.le_add_right _ _
theorem el:∀k:Kd,Kd.depth k<=k.leaves.length
 |.num _=>Nat.le_refl _
 |.name _ _=>Nat.le_refl _
 |.pair a b=>by
  have h1:=el a
  have h2:=el b
  have h3:=dM a
  have h4:=dM b
  show 1+max (Kd.depth a) (Kd.depth b)<=(a.leaves++b.leaves).length
  rw [List.length_append]
  omega
def uY(K:W.Frag)(H:Hp)(kvs:List (List Key × V))(G:Str × Str->Option Kd):Prop :=
 ∀n,(du kvs (gH n)=none/\G n=none)\/∃v k,du kvs (gH n)=some v/\G n=some k/\bJ K H v k
theorem uY.same{K:W.Frag}{H H':Hp}{kvs:List (List Key × V)}{G:Str × Str->Option Kd}(e:aH H H')(h:uY K H kvs G):uY K H' kvs G:=fun n=>by
 rcases h n with h|⟨v,k,h1,h2,h3⟩
 ·exact .inl h
 ·exact .inr ⟨v,k,h1,h2,h3.same e⟩
def wB(K:W.Frag)(n:Nat):Sp:=fun vs H Q _=>∃(x:V) (g:Addr) (k:Kd) (kvs:List (List Key × V)) (G:Str × Str->Option Kd),vs=[x,.ref g]/\bJ K H x k/\Kd.depth k<=n/\H g=some (.dT kvs)/\uY K H kvs G /\
 ∀H' v,aH H H'->bJ K H' v (Kd.put G k)->Q v H'
theorem yM:aJ ["kind","given"] ["kind","given"] (aj vT):=⟨rfl,rfl,rfl,by decide +kernel,rfl,by decide +kernel,by decide +kernel⟩
theorem uo{f:Addr}{fd:FuncData} (F:Fun K "put" "put" vT f fd) (bP:aL K fd ["kind","given"] []) (kP:W.keepIn K (.ref f)=true) (mP:mg "put"=some (.ref f)) :
  ∀n,aV P w K mg base CX0 n f fd ["kind","given"] (wB K n)
 |0=>⟨fun vs H Q E h=>by obtain⟨x,g,k,kvs,G,rfl,_⟩:=h;rfl,fun A outer s H args us vs Q E _ _ _ _ h=>by
   obtain⟨x,g,k,kvs,G,_,_,hd,_⟩:=h
   have:=qk k
   omega⟩
 |n+1=>by
  have IH:=uo F bP kP mP n
  refine F.ok yM (fun vs H Q E h=>?_) (fun cdv A outer s H vs Q E hr h=>?_)
  ·obtain⟨x,g,k,kvs,G,rfl,_⟩:=h
   rfl
  obtain⟨x,g,k,kvs,G,rfl,hk,hd,hg,hG,q⟩:=h
  have hu:=fH hr
  refine⟨_,ah (bc (aB bu (aq aG (pv 0) ag (fun _ _=>rfl)) ai (aE _))
    (ao (aM (ak (aa ai (aa (au IH hr rfl mP kP bP .nil bQ (aa (aq aG (pv 0) ag (fun _ _=>rfl)) (aa (pv 1) ae)))
     (aa (au IH hr rfl mP kP bP .nil bQ (aa (aq aG (pv 0) ag (fun _ _=>rfl)) (aa (pv 1) ae))) ae)))))) aI)
   (ah (bc (aB bu (aq aG (pv 0) ag (fun _ _=>rfl)) ai (aE _))
    (ao (aM (tS hu (pv 1) (ak (aa (aq aG (pv 0) ag (fun _ _=>rfl)) (aa (aq aG (pv 0) ag (fun _ _=>rfl)) ae))) (pv 0) ⟨rfl,rfl,rfl,rfl⟩))) aI)
   (ao (aM (pv 0)))),?_⟩
  cases hk with
  |@num p m t =>
   refine⟨_,rfl,_,_,_,_,rfl,rfl,t,(show atI [V.str "num",.int m] 0=some (.str "num") from rfl),rfl,_,rfl,dH (fun c=>nK0 c) (fun _=>?_)⟩
   refine⟨_,rfl,_,_,_,_,rfl,rfl,t,(show atI [V.str "num",.int m] 0=some (.str "num") from rfl),rfl,_,rfl,dH (fun c=>nK0 c) (fun _=>?_)⟩
   exact⟨_,rfl,q _ _ (aH.refl _) (.num t)⟩
  |@name p a b t =>
   refine⟨_,rfl,_,_,_,_,rfl,rfl,t,(show atI [V.str "name",.str a,.str b] 0=some (.str "name") from rfl),rfl,_,rfl,dH (fun c=>nK0 c) (fun _=>?_)⟩
   refine⟨_,rfl,_,_,_,_,rfl,rfl,t,(show atI [V.str "name",.str a,.str b] 0=some (.str "name") from rfl),rfl,_,rfl,dH (fun _=>?_) (fun c=>absurd (by decide +kernel) c)⟩
   refine⟨_,rfl,g,rfl,.inr ⟨kvs,.inl hg⟩,_,rfl,_,_,_,_,rfl,rfl,t,(show atI [V.str "name",.str a,.str b] 1=some (.str a) from rfl),_,rfl,_,_,_,_,rfl,rfl,t,(show atI [V.str "name",.str a,.str b] 2=some (.str b) from rfl),(szQ 2),fun y hy=>?_⟩
   have sy:=ad hy (.tup [.str a,.str b])
   refine⟨_,rfl,_,eK.t (k:=gH (a,b)) (sy _ _ hg) ac,q _ _ sy ?_⟩
   show bJ K _ ((du kvs (gH (a,b))).getD _) ((G (a,b)).getD (.name a b))
   rcases hG (a,b) with ⟨h1,h2⟩|⟨v,k',h1,h2,h3⟩
   ·rw [h1,h2]
    exact .name (sy.tup t)
   ·rw [h1,h2]
    exact h3.same sy
  |@pair p y z a b t ha hb =>
   have hd':1+max (Kd.depth a) (Kd.depth b)<=n+1:=hd
   refine⟨_,rfl,_,_,_,_,rfl,rfl,t,(show atI [V.str "pair",y,z] 0=some (.str "pair") from rfl),rfl,_,rfl,dH (fun _=>?_) (fun c=>absurd (by decide +kernel) c)⟩
   refine⟨_,rfl,_,_,_,_,rfl,rfl,t,(show atI [V.str "pair",y,z] 1=some y from rfl),_,rfl,y,g,a,kvs,G,rfl,ha,by omega,hg,hG,fun H1 v1 s1 k1=>?_⟩
   refine⟨_,rfl,_,_,_,_,rfl,rfl,s1.tup t,(show atI [V.str "pair",y,z] 2=some z from rfl),_,rfl,z,g,b,kvs,G,rfl,hb.same s1,by omega,s1 _ _ hg,hG.same s1,fun H2 v2 s2 k2=>?_⟩
   refine⟨(szQ 3),fun c hc=>q _ _ (cZ (cZ s1 s2) (ad hc _)) ?_⟩
   exact .pair (SqT.of ac) ((k1.same s2).same (ad hc _)) (k2.same (ad hc _))
theorem dh{i:Int}(h0:0<=i)(h1:i<=1000000):i.natAbs.log2 < 1920:=by
 by_cases hz:i.natAbs=0
 ·rw [hz];decide
 ·refine(Nat.log2_lt hz).mpr (Nat.lt_of_le_of_lt (m:=1000000) (by omega) ?_)
  exact Nat.lt_of_lt_of_le (show 1000000 < 2 ^ 20 by decide) (Nat.pow_le_pow_right (by decide) (by decide))
theorem dm{i:Int}(h0:0<=i)(h1:i<=1000000):(Str.ofString (toString i)).length<=100000:=by
 have:=PyProof.Rows.toString_length_le h0 (k:=7) (by decide) (Int.lt_of_le_of_lt h1 (by decide))
 omega
end
end K53
namespace K53
open PySem L2 Kk Builtin.Str
end K53
namespace K53
open PySem L2 Kk
section
variable{P:Program}{w:World}{K:W.Frag}{mg:Str->Option Value}{base:Heap}
def okW(z:Str):Prop:=PyData.strOk z=true/\z.length<=14
abbrev oG:Stmt:=vg (top 20) 0
theorem kf':¬(("kinds":Str)="funs"):=by decide +kernel
def Kd.ok:Kd->Prop
 |.num _=>True
 |.name q t=>okW q/\okW t
 |.pair a b=>Kd.ok a/\Kd.ok b
theorem dR:∀{k:Kd},Kd.ok k->∀n∈Kd.names k,okW n.1/\okW n.2
 |.num _,_,n,hn=>nomatch hn
 |.name q t,h,n,hn=>by
  obtain rfl:=List.mem_singleton.mp hn
  exact h
 |.pair a b,h,n,hn=>by
  rcases List.mem_append.mp hn with z|z
  ·exact dR h.1 n z
  ·exact dR h.2 n z
theorem gI:bootBuiltins "dict"=some (.type "dict"):=by decide +kernel
theorem wm:aJ ["self","kinds","funs"] ["self","kinds","funs"] (aj oG):=⟨rfl,rfl,rfl,by decide +kernel,rfl,by decide +kernel,by decide +kernel⟩
def smW(z:Str):Prop:=PyData.strOk z=true/\z.length<=14
def lA(CF:Addr):Sp:=fun vs H Q _=>∃(p dx a b:Addr) (kvs fvs:List (Key × V)),vs=[.ref p,.ref a,.ref b]/\H p=some (.ins CF dx [])/\H a=some (.dK kvs)/\H b=some (.dK fvs) /\
 ∀(d e:Addr) (fs:List (Str × V)) (H':Hp),H d=none->H e=none->d≠e->H' p=some (.ins CF dx fs)->fs.lookup ("kinds":Str)=some (.ref d)->fs.lookup ("funs":Str)=some (.ref e)->fs.lookup ("hidden":Str)=none->fs.lookup ("put":Str)=none->H' d=some (.dK kvs)->H' e=some (.dK fvs)->(∀c o,H c=some o->c≠p->H' c=some o)->Q .non H'
theorem sG{f CF:Addr}{fd:FuncData} (F:Fun K "__init__" "Face.__init__" oG f fd) (cF:Cls K CF) (nK:bx K CF "kinds") (nF:bx K CF "funs") (md:mg "dict"=none):aV P w K mg base CX0 1 f fd ["self","kinds","funs"] (lA CF):=by
 refine F.ok wm (fun vs H Q E h=>?_) (fun cdv A outer s H vs Q E hr h=>?_)
 ·obtain⟨p,dx,a,b,kvs,fvs,rfl,_⟩:=h
  rfl
 obtain⟨p,dx,a,b,kvs,fvs,rfl,hp,ha,hb,q⟩:=h
 refine⟨_,ah (tZ (pv 0) (cw eE rfl md gI (aa (pv 1) ae)) rfl) (ao (tZ (pv 0) (cw eE rfl md gI (aa (pv 2) ae)) rfl)),?_⟩
 refine⟨_,rfl,a,kvs,rfl,ha,fun d hd=>?_⟩
 have npd:p≠d:=ax hp hd
 refine⟨_,rfl,p,CF,dx,[],rfl,(by rw [am npd];exact hp),cF,nK,(by show 0 < 1000;decide),?_⟩
 have hb1:upd (upd H d (.dK kvs)) p (.ins CF dx (j6 "kinds" (.ref d) [])) b=some (.dK fvs):=by
  rw [am (kr hb hp (by intro z;cases z)),am (ax hb hd)]
  exact hb
 refine⟨_,rfl,b,fvs,rfl,hb1,fun e he=>?_⟩
 have npe:p≠e:=fun z=>by rw [<-z,ac] at he;cases he
 have nde:d≠e:=fun z=>by rw [<-z,am npd.symm,ac] at he;cases he
 have he0:H e=none:=by
  rw [am npe.symm,am nde.symm] at he
  exact he
 refine⟨_,rfl,p,CF,dx,_,rfl,(by rw [am npe];exact ac),cF,nF,(by show 1 < 1000;decide),?_⟩
 refine q d e _ _ hd he0 nde ac (by rw [bz,if_neg kf',bz,if_pos rfl]) (by rw [bz,if_pos rfl]) (by rw [bz,if_neg (by decide +kernel),bz,if_neg (by decide +kernel)];rfl) (by rw [bz,if_neg (by decide +kernel),bz,if_neg (by decide +kernel)];rfl) ?_ ?_ fun c o ec hc=>?_
 ·rw [am npd.symm,am nde,am npd.symm,ac]
 ·rw [am npe.symm,ac]
 ·have hce:c≠e:=fun z=>by
   rw [z] at ec hc
   rw [he0] at ec
   cases ec
  rw [am hc,am hce,am hc,am (ax ec hd)]
  exact ec
def cW{α:Type}(R:V->α->Prop)(kvs:List (Key × V))(m:List (Str × α)):Prop:=Paired (fun(p:Key × V) (q:Str × α)=>p.1=.inr q.1/\R p.2 q.2) kvs m
theorem cW.snoc{α:Type}{R:V->α->Prop}{kvs:List (Key × V)}{m:List (Str × α)}{z:Str}{v:V}{x:α}(h:cW R kvs m)(hv:R v x):cW R (kvs++[(.inr z,v)]) (m++[(z,x)]):=by
 unfold cW at h ⊢
 induction h with
 |nil=>exact .cons ⟨rfl,hv⟩ .nil
 |cons a _ ih=>exact .cons a ih
theorem cW.imp{α:Type}{R S:V->α->Prop}{kvs:List (Key × V)}{m:List (Str × α)}(f:∀v x,R v x->S v x)(h:cW R kvs m):cW S kvs m:=Paired.mapP h fun _ _ ⟨e,r⟩=>⟨e,f _ _ r⟩
theorem cW.keys{α:Type}{R:V->α->Prop}{kvs:List (Key × V)}{m:List (Str × α)}(h:cW R kvs m):kvs.map (·.1)=m.map fun q=>(Sum.inr q.1:Key):=by
 unfold cW at h
 induction h with
 |nil=>rfl
 |cons a _ ih=>rw [List.map_cons,List.map_cons,ih,a.1]
theorem tK{kvs:List (Key × V)}{k:Key}(h:k∉kvs.map (·.1)):du kvs k=none:=by
 cases e:du kvs k with
 |none=>rfl
 |some v =>
  exfalso
  apply h
  unfold du at e
  obtain⟨p,hp,_⟩:=Option.map_eq_some_iff.mp e
  have h1:=List.mem_of_find?_eq_some hp
  have h2:=List.find?_some hp
  have h3:p.1=k:=by simpa using h2
  rw [<-h3]
  exact List.mem_map_of_mem h1
theorem cW.put{α:Type}{R:V->α->Prop}{kvs:List (Key × V)}{m:List (Str × α)}{z:Str}{v:V}{x:α}(h:cW R kvs m)(hz:z∉m.map (·.1))(hv:R v x):cW R (bi kvs (.inr z) v) (m++[(z,x)]):=by
 rw [tH v (tK ?_)]
 ·exact h.snoc hv
 ·rw [h.keys]
  intro hm
  obtain⟨q,hq,e⟩:=List.mem_map.mp hm
  exact hz (by rw [<-Sum.inr.inj e];exact List.mem_map_of_mem hq)
def cY(K:W.Frag)(H:Hp)(v:V)(f:List Kd × Kd):Prop:=∃(p ta:Addr) (x:V) (xs:List V),v=.ref p/\SqT K H p [.ref ta,x]/\H ta=some (.tup xs)/\cE K H xs f.1/\bJ K H x f.2
theorem cY.keep{K:W.Frag}{H H':Hp}{v:V}{f:List Kd × Kd}(h:cY K H v f)(e:∀a xs,SqT K H a xs->SqT K H' a xs)(e2:∀a xs,H a=some (.tup xs)->H' a=some (.tup xs)):cY K H' v f:=by
 obtain⟨p,ta,x,xs,h1,h2,h3,h4,h5⟩:=h
 exact⟨p,ta,x,xs,h1,e _ _ h2,e2 _ _ h3,nr e h4,bq e h5⟩
theorem gB{H:Hp}{l a:Addr}{kvs:List (Key × V)}{xs:List V}{o:HO}(h:H l=some (.dK kvs))(t:SqT K H a xs):SqT K (upd H l o) a xs:=by
 rcases t with (t|⟨o',t⟩)|t
 ·exact .inl (.inl (by rw [am (fun e=>by rw [e,h] at t;cases t)];exact t))
 ·exact .inl (.inr ⟨o',by rw [am (fun e=>by rw [e,h] at t;cases t)];exact t⟩)
 ·exact .inr t
def iK(K:W.Frag)(H:Hp)(CF fa:Addr)(m1:List (Str × Kd))(m2:List (Str × (List Kd × Kd))):Prop :=
 ∃(dx d1 d2:Addr) (fs:List (Str × V)) (kv1 kv2:List (Key × V)),H fa=some (.ins CF dx fs)/\fs.lookup ("kinds":Str)=some (.ref d1)/\fs.lookup ("funs":Str)=some (.ref d2)/\H d1=some (.dK kv1)/\H d2=some (.dK kv2)/\cW (bJ K H) kv1 m1/\cW (cY K H) kv2 m2/\fs.lookup ("hidden":Str)=none/\fs.lookup ("put":Str)=none
def Kd.dat:Kd->PyData
 |.num n=>.tuple [.str "num",.int n]
 |.name q t=>.tuple [.str "name",.str q,.str t]
 |.pair a b=>.tuple [.str "pair",Kd.dat a,Kd.dat b]
theorem kd_dat{K:W.Frag}{H:Hp}:∀{x:V} {k:Kd},bJ K H x k->Dat K H x (Kd.dat k)
 |_,_,.num t=>.tup t (.cons (.str _) (.cons (.int _) .nil))
 |_,_,.name t=>.tup t (.cons (.str _) (.cons (.str _) (.cons (.str _) .nil)))
 |_,_,.pair t a b=>.tup t (.cons (.str _) (.cons (kd_dat a) (.cons (kd_dat b) .nil)))
theorem eqv_tup(xs ys:List PyData):PyData.eqv (.tuple xs) (.tuple ys)=PyData.eqvAll xs ys:=by simp [PyData.eqv]
theorem eqvA_cons(x y:PyData)(xs ys:List PyData):PyData.eqvAll (x::xs) (y::ys)=(PyData.eqv x y&&PyData.eqvAll xs ys):=by simp [PyData.eqvAll]
theorem eqvA_nil:PyData.eqvAll [] []=true:=by simp [PyData.eqvAll]
theorem eqv_str(x y:Str):PyData.eqv (.str x) (.str y)=decide (x=y):=by
 rw [show PyData.eqv (.str x) (.str y)=(x==y) by simp [PyData.eqv]]
 rfl
theorem lI(x y:Int):PyData.eqv (.int x) (.int y)=decide (x=y):=by
 rw [show PyData.eqv (.int x) (.int y)=(x==y) by simp [PyData.eqv]]
 rfl
theorem eqv_dat(a:Kd):∀b:Kd,PyData.eqv (Kd.dat a) (Kd.dat b)=decide (a=b):=by
 induction a with
 |num n =>
  intro b
  cases b with
  |num m =>
   show PyData.eqv (.tuple [.str "num",.int n]) (.tuple [.str "num",.int m])=_
   rw [eqv_tup,eqvA_cons,eqvA_cons,eqvA_nil,eqv_str,lI]
   simp
  |name q t =>
   show PyData.eqv (.tuple (.str "num"::_)) (.tuple (.str "name"::_))=_
   rw [eqv_tup,eqvA_cons,eqv_str,decide_eq_false (by decide +kernel),decide_eq_false (by intro e;cases e)]
   rfl
  |pair c d =>
   show PyData.eqv (.tuple (.str "num"::_)) (.tuple (.str "pair"::_))=_
   rw [eqv_tup,eqvA_cons,eqv_str,decide_eq_false (by decide +kernel),decide_eq_false (by intro e;cases e)]
   rfl
 |name q t =>
  intro b
  cases b with
  |num m =>
   show PyData.eqv (.tuple (.str "name"::_)) (.tuple (.str "num"::_))=_
   rw [eqv_tup,eqvA_cons,eqv_str,decide_eq_false (by decide +kernel),decide_eq_false (by intro e;cases e)]
   rfl
  |name q' t' =>
   show PyData.eqv (.tuple [.str "name",.str q,.str t]) (.tuple [.str "name",.str q',.str t'])=_
   rw [eqv_tup,eqvA_cons,eqvA_cons,eqvA_cons,eqvA_nil,eqv_str,eqv_str,eqv_str]
   simp
  |pair c d =>
   show PyData.eqv (.tuple (.str "name"::_)) (.tuple (.str "pair"::_))=_
   rw [eqv_tup,eqvA_cons,eqv_str,decide_eq_false (by decide +kernel),decide_eq_false (by intro e;cases e)]
   rfl
 |pair a1 a2 h1 h2 =>
  intro b
  cases b with
  |num m =>
   show PyData.eqv (.tuple (.str "pair"::_)) (.tuple (.str "num"::_))=_
   rw [eqv_tup,eqvA_cons,eqv_str,decide_eq_false (by decide +kernel),decide_eq_false (by intro e;cases e)]
   rfl
  |name q' t' =>
   show PyData.eqv (.tuple (.str "pair"::_)) (.tuple (.str "name"::_))=_
   rw [eqv_tup,eqvA_cons,eqv_str,decide_eq_false (by decide +kernel),decide_eq_false (by intro e;cases e)]
   rfl
  |pair c d =>
   show PyData.eqv (.tuple [.str "pair",Kd.dat a1,Kd.dat a2]) (.tuple [.str "pair",Kd.dat c,Kd.dat d])=_
   rw [eqv_tup,eqvA_cons,eqvA_cons,eqvA_cons,eqvA_nil,eqv_str,h1,h2]
   simp
theorem eS:∀{k:Kd},Kd.ok k->PyData.canLay0 (Kd.dat k)=true
 |.num n,_=>by
  have h:PyData.strOk "num"=true:=by decide +kernel
  simp [Kd.dat,PyData.canLay0,PyData.canLayAll0,h]
 |.name q t,⟨h1,h2⟩=>by
  have h:PyData.strOk "name"=true:=by decide +kernel
  simp [Kd.dat,PyData.canLay0,PyData.canLayAll0,h,h1.1,h2.1]
 |.pair a b,⟨h1,h2⟩=>by
  have h:PyData.strOk "pair"=true:=by decide +kernel
  simp [Kd.dat,PyData.canLay0,PyData.canLayAll0,h,eS h1,eS h2]
theorem dF:∀k:Kd,PyData.depth (Kd.dat k)<=Kd.depth k
 |.num n=>by simp [Kd.dat,PyData.depth,PyData.depthAll,Kd.depth]
 |.name q t=>by simp [Kd.dat,PyData.depth,PyData.depthAll,Kd.depth]
 |.pair a b=>by
  have h1:=dF a
  have h2:=dF b
  simp only [Kd.dat,PyData.depth,PyData.depthAll,Kd.depth]
  omega
theorem gS{k:Kd}(h:Kd.ok k)(hd:Kd.depth k<=60):SeqAt.shaped (Kd.dat k)=true:=by
 have h1:=eS h
 have h2:=dF k
 unfold SeqAt.shaped
 rw [h1,decide_eq_true (show PyData.depth (Kd.dat k)<=64 by omega)]
 rfl
theorem dr:∀k:Kd,Kd.depth k<=k.words
 |.num n=>Nat.le_refl _
 |.name q t=>Nat.le_refl _
 |.pair a b=>by
  have h1:=dr a
  have h2:=dr b
  simp only [Kd.depth,Kd.words]
  omega
def At(z:Str):Kd:=.name "" z
def Ag(q:Str × Kd):Bool:=decide (q.2=At q.1)
def z9(m:List (Str × Kd)):List Str:=(m.filter Ag).map (·.1)
def Kd.sm:Kd->Prop
 |.num n=>0<=n/\n<=10 ^ 18
 |.name q t=>(PyData.strOk q=true/\q.length<=14)/\PyData.strOk t=true/\t.length<=14
 |.pair a b=>Kd.sm a/\Kd.sm b
def Ah(ks:List Kd):Nat:=(ks.map Kd.words).sum
def Fn.dat(f:List Kd × Kd):PyData:=.tuple [.tuple (f.1.map Kd.dat),Kd.dat f.2]
def look{α:Type}(m:List (Str × α))(z:Str):Option α:=(m.find? fun q=>decide (q.1=z)).map (·.2)
theorem cr{α:Type}{R:V->α->Prop}:∀{kvs:List (Key × V)} {m:List (Str × α)},cW R kvs m->∀z:Str,(du kvs (.inr z)=none/\look m z=none)\/∃v x,du kvs (.inr z)=some v/\look m z=some x/\R v x
 |_,_,.nil,z=>.inl ⟨rfl,rfl⟩
 |p::ps,q::qs,.cons ⟨h1,h2⟩ r,z=>by
  unfold look du
  rw [List.find?_cons,List.find?_cons]
  by_cases e:q.1=z
  ·rw [decide_eq_true (show p.1=Sum.inr z by rw [h1,e]),decide_eq_true e]
   exact .inr ⟨_,_,rfl,rfl,h2⟩
  ·rw [decide_eq_false (show ¬p.1=Sum.inr z by rw [h1];exact fun z'=>e (Sum.inr.inj z')),decide_eq_false e]
   exact cr r z
def wQ(m1:List (Str × Kd))(hs:List Str):Str × Str->Option Kd:=fun n=>if n.1=""/\n.2∈hs then look m1 n.2 else none
def si(G:Str × Str->Option Kd)(f:List Kd × Kd):List Kd × Kd:=(f.1.map (Kd.put G),Kd.put G f.2)
abbrev Gf(m1 n1:List (Str × Kd)):Str × Str->Option Kd:=wQ m1 (z9 n1)
structure Ax(K:W.Frag)(H:Hp)(CF fa:Addr)(dx d1 d2:Addr)(fs:List (Str × V))(kv1 kv2:List (Key × V))(m1:List (Str × Kd))(m2:List (Str × (List Kd × Kd))):Prop where
 obj:H fa=some (.ins CF dx fs)
 fk:fs.lookup ("kinds":Str)=some (.ref d1)
 ff:fs.lookup ("funs":Str)=some (.ref d2)
 h1:H d1=some (.dK kv1)
 h2:H d2=some (.dK kv2)
 p1:cW (bJ K H) kv1 m1
 p2:cW (cY K H) kv2 m2
 nh:fs.lookup ("hidden":Str)=none
 np:fs.lookup ("put":Str)=none
structure AF(K:W.Frag)(H H3:Hp)(d:Addr)(o:Obj)(kv:List (Key × V)):Prop where
 old:∀b u,H b=some u->b≠d->H3 b=some u
 fz:H3 d=some (.frz o (.dK kv))
 tup:∀a xs,SqT K H a xs->SqT K H3 a xs
def SmK(q:Str × Kd):Prop:=(PyData.strOk q.1=true/\q.1.length<=14)/\Kd.sm q.2/\q.2.words<=60/\Kd.depth q.2<=20
def SmF(q:Str × (List Kd × Kd)):Prop:=(PyData.strOk q.1=true/\q.1.length<=14)/\q.2.1.length<=4/\∀k∈q.2.2::q.2.1,Kd.sm k/\k.words<=60/\Kd.depth k<=20
structure Two(m1 n1:List (Str × Kd))(m2 n2:List (Str × (List Kd × Kd)))(n:Nat):Prop where
 l1:n1.length<=100
 l2:n2.length<=100
 sm1:∀q∈m1,SmK q
 sn1:∀q∈n1,SmK q
 sm2:∀q∈m2,SmF q
 sn2:∀q∈n2,SmF q
 nd:(n1.map (·.1)).Nodup
 dp1:∀q∈n1,Kd.depth q.2<=n
 dp2:∀q∈n2,∀k∈q.2.2::q.2.1,Kd.depth k<=n
 w1:∀q∈n1,(Kd.put (Gf m1 n1) q.2).words<=4000/\Kd.depth (Kd.put (Gf m1 n1) q.2)<=50
 w2:∀q∈n2,Ah ((si (Gf m1 n1) q.2).2::(si (Gf m1 n1) q.2).1)<=4600/\∀k∈(si (Gf m1 n1) q.2).2::(si (Gf m1 n1) q.2).1,Kd.depth k<=50
def yO:List Stmt->List ExceptHandler
 |.Try _ hs _ _ _::_=>hs
 |_=>[]
def d7(K:W.Frag)(CT:Addr):Sp:=fun vs H Q E=>∃(x:V) (k:Kd) (m:Int),vs=[x,.int m]/\bJ K H x k/\k.words<=900/\0<=m/\m<=1000000 /\
 ∀H',aH H H'->if (k.words:Int) > m then E (.ref CT) none H' else Q x H'
theorem er:aJ ["kind","most","words"] ["kind","most"] (aj cV):=⟨rfl,rfl,rfl,by decide +kernel,rfl,by decide +kernel,by decide +kernel⟩
theorem ok_bounded{f fw CT:Addr}{fd fdw:FuncData} (F:Fun K "bounded" "bounded" cV f fd) (GW:aV P w K mg base CX0 1 fw fdw ["kind"] (iE K)) (bW:aL K fdw ["kind"] []) (kW:W.keepIn K (.ref fw)=true) (mW:mg "words_in"=some (.ref fw))
  (mT:mg "TooBig"=some (.ref CT)) (xT:W.excIn K CT iM "ValueError.__new__"=true):aV P w K mg base (CX1 P w) 2 f fd ["kind","most"] (d7 K CT):=by
 refine F.okX er (fun vs H Q E h=>?_) (fun cdv A outer s H vs Q E hr h=>?_)
 ·obtain⟨x,k,m,rfl,_⟩:=h
  rfl
 obtain⟨x,k,m,rfl,hk,h9,m0,m1,q⟩:=h
 refine⟨_,ah (ay (i:=2) er.nd rfl (Or.inl rfl) (au GW hr rfl mW kW bW .nil bQ (aa (pv 0) ae)))
  (ah (bc (aB mh (pv 2) (pv 1) (aE _))
   (ao (bE rfl mT xT (aa (cI (az ai (az (dN (pv 2)) (az ai (az (dN (pv 1)) (az ai dW))))) (by decide)) ae))) aI)
  (ao (aM (pv 0)))),?_⟩
 refine⟨_,rfl,x,k,rfl,hk,h9,fun H1 s1=>?_⟩
 have q1:=q H1 s1
 refine⟨_,rfl,_,rfl,_,_,rfl,rfl,_,rfl,?_⟩
 refine dH (fun c=>?_) (fun c=>?_)
 ·have c':(k.words:Int) > m:=of_decide_eq_true c
  rw [if_pos c'] at q1
  have l9:(0:Int)<=(k.words:Int)/\(k.words:Int)<=1000000:=⟨by omega,by omega⟩
  refine⟨_,rfl,by decide +kernel,_,rfl,.inr ⟨_,rfl,dh l9.1 l9.2,_,rfl,Nat.le_trans (dm l9.1 l9.2) (by decide),_,rfl,by decide +kernel,_,rfl,.inr ⟨_,rfl,dh m0 m1,_,rfl,Nat.le_trans (dm m0 m1) (by decide),_,rfl,by decide +kernel,fun z hz=>⟨(szQ 1),q1⟩⟩⟩⟩
 ·have c':¬(k.words:Int) > m:=fun z=>c (decide_eq_true z)
  rw [if_neg c'] at q1
  exact⟨_,rfl,q1⟩
def ux(K:W.Frag)(H:Hp)(kvs:List (Key × V))(g:Str->Option Kd):Prop :=
 ∀t,(du kvs (.inr t)=none/\g t=none)\/∃v k,du kvs (.inr t)=some v/\g t=some k/\bJ K H v k
theorem ux.same{K:W.Frag}{H H':Hp}{kvs:List (Key × V)}{g:Str->Option Kd}(e:aH H H')(h:ux K H kvs g):ux K H' kvs g:=fun n=>by
 rcases h n with h|⟨v,k,h1,h2,h3⟩
 ·exact .inl h
 ·exact .inr ⟨v,k,h1,h2,h3.same e⟩
def gN(K:W.Frag)(H:Hp)(CF:Addr)(v:V)(g:Str->Option Kd):Prop :=
 ∃a dx fs d kvs,v=.ref a/\H a=some (.ins CF dx fs)/\fs.lookup ("kinds":Str)=some (.ref d)/\H d=some (.dK kvs)/\ux K H kvs g
theorem gN.same{K:W.Frag}{H H':Hp}{CF:Addr}{v:V}{g:Str->Option Kd}(e:aH H H')(h:gN K H CF v g):gN K H' CF v g:=by
 obtain⟨a,dx,fs,d,kvs,h1,h2,h3,h4,h5⟩:=h
 exact⟨a,dx,fs,d,kvs,h1,e _ _ h2,h3,e _ _ h4,h5.same e⟩
def eh(K:W.Frag)(H:Hp)(CF:Addr)(kvs:List (Key × V))(PG:Str->Option (Str->Option Kd)):Prop :=
 ∀q,(du kvs (.inr q)=none/\PG q=none)\/∃v g,du kvs (.inr q)=some v/\PG q=some g/\gN K H CF v g
theorem eh.same{K:W.Frag}{H H':Hp}{CF:Addr}{kvs:List (Key × V)}{PG:Str->Option (Str->Option Kd)}(e:aH H H')(h:eh K H CF kvs PG):eh K H' CF kvs PG:=fun n=>by
 rcases h n with h|⟨v,g,h1,h2,h3⟩
 ·exact .inl h
 ·exact .inr ⟨v,g,h1,h2,h3.same e⟩
def iJ(OG:Str->Option Kd)(PG:Str->Option (Str->Option Kd))(n:Str × Str):Option Kd:=if n.1="" then OG n.2 else (PG n.1).bind fun g=>g n.2
def yg(o:Option Kd)(K:W.Frag)(H:Hp)(Q:VK)(X:Prop):Prop:=(o=none/\X)\/∃k,o=some k/\∀v,bJ K H v k->Q v H
def iY(K:W.Frag)(CF CN:Addr):Sp:=fun vs H Q E=>∃(q t:Str) (o p:Addr) (okv pkv:List (Key × V)) (OG:Str->Option Kd) (PG:Str->Option (Str->Option Kd)),
 vs=[.str q,.str t,.ref o,.ref p]/\okW q/\okW t/\H o=some (.dK okv)/\ux K H okv OG/\H p=some (.dK pkv)/\eh K H CF pkv PG/\yg (iJ OG PG (q,t)) K H Q (E (.ref CN) none H)
theorem gp:aJ ["part","word","own","parts","kinds"] ["part","word","own","parts"] (aj cP):=⟨rfl,rfl,rfl,by decide +kernel,rfl,by decide +kernel,by decide +kernel⟩
theorem me{f CF CN:Addr}{fd:FuncData} (F:Fun K "told_kind" "told_kind" cP f fd) (cF:Cls K CF) (nF:bx K CF "kinds") (mN:mg "NoKind"=some (.ref CN)) (xN:W.excIn K CN iM "ValueError.__new__"=true) :
  aV P w K mg base (CX1 P w) 1 f fd ["part","word","own","parts"] (iY K CF CN):=by
 refine F.okX gp (fun vs H Q E h=>?_) (fun cdv A outer s H vs Q E hr h=>?_)
 ·obtain⟨q,t,o,p,okv,pkv,OG,PG,rfl,_⟩:=h
  rfl
 obtain⟨q,t,o,p,okv,pkv,OG,PG,rfl,hq,ht,ho,hO,hp,hP,hT⟩:=h
 have hu:=fH hr
 have lq:q.length<=100000:=Nat.le_trans hq.2 (by decide)
 have lt:t.length<=100000:=Nat.le_trans ht.2 (by decide)
 have zq:q.length<=sizeLine:=Nat.le_trans lq (by decide)
 have zt:t.length<=sizeLine:=Nat.le_trans lt (by decide)
 obtain⟨u1,d1,k1⟩:∃t',PSs (dI (CX1 P w) P w K mg base ["part","word","own","parts","kinds"] "told_kind" (aj cP) f cdv A outer s H E) (List.drop 1 (aw cP)) t' /\
   ∀(d:Addr) (kvs:List (Key × V)) (g:Str->Option Kd),H d=some (.dK kvs)->ux K H kvs g->yg (g t) K H Q (E (.ref CN) none H) ->
    t' { nx:=fun _ H'=>Q .non H',rt:=Q } [some (.str q),some (.str t),some (.ref o),some (.ref p),some (.ref d)] H:=by
  refine⟨_,ah (bc (fN (eC hu (pv 1) (pv 4)) (by with_unfolding_all rfl))
    (ao (bE rfl mN xN (aa (cI (az ai (az (sY (pv 1)) (az ai (az (sY (pv 0)) dW)))) (by decide)) ae))) aI)
   (ao (aM (dc hu (pv 4) (pv 1) (fun _ _=>rfl)))),?_⟩
  intro d kvs g hd hg hT
  refine⟨_,rfl,_,rfl,d,_,rfl,eK.k (k:=.inr t) hd,_,rfl,?_⟩
  rcases hg t with ⟨h1,h2⟩|⟨v,k,h1,h2,h3⟩
  ·rw [h1]
   rcases hT with ⟨_,hE⟩|⟨k,hk,_⟩
   ·refine dZ ⟨_,rfl,by decide +kernel,_,rfl,t,rfl,ht.1,Nat.le_trans ht.2 (by decide),fun z hz=>⟨z,rfl,Nat.le_trans hz (by decide),_,rfl,by decide +kernel,_,rfl,q,rfl,hq.1,Nat.le_trans hq.2 (by decide),fun z2 hz2=>⟨z2,rfl,Nat.le_trans hz2 (by decide),fun z3 hz3=>⟨(szQ 1),hE⟩⟩⟩⟩
   ·rw [h2] at hk
    cases hk
  ·rw [h1]
   rcases hT with ⟨hn,_⟩|⟨k',hk,hQ⟩
   ·rw [h2] at hn
    cases hn
   ·rw [h2] at hk
    cases hk
    exact ce ⟨_,rfl,_,rfl,d,v,rfl,h1▸eK.k (k:=.inr t) hd,hQ v h3⟩
 refine⟨_,ah (bc (aB bu (pv 0) ai (aE _)) (ao (ay (i:=4) gp.nd rfl (Or.inl rfl) (pv 2)))
   (ao (bc (fN (nL hu (pv 0) (pv 3)) (by with_unfolding_all rfl)) (ao (ay (i:=4) gp.nd rfl (Or.inl rfl) (cO (dc hu (pv 3) (pv 0) (fun _ _=>rfl)) rfl)))
    (ao (bE rfl mN xN (aa (cI (az ai (az (dN (pv 0)) (az ai (az (dN (pv 0)) (az ai (az (dN (pv 1)) dW)))))) (by decide)) ae)))))) d1,?_⟩
 refine⟨_,rfl,rfl,_,rfl,?_⟩
 refine dH (fun c=>?_) (fun c=>?_)
 ·have c':V.str q=V.str "":=of_decide_eq_true c
  have e:q="":=by injection c'
  have hT':yg (OG t) K H Q (E (.ref CN) none H):=by
   unfold iJ at hT
   rw [if_pos e] at hT
   exact hT
  exact⟨_,rfl,k1 o okv OG ho hO hT'⟩
 ·have c':¬q="":=fun e=>c (decide_eq_true (by rw [e]))
  have hT':yg ((PG q).bind fun g=>g t) K H Q (E (.ref CN) none H):=by
   unfold iJ at hT
   rw [if_neg c'] at hT
   exact hT
  refine⟨_,rfl,_,rfl,p,_,rfl,eK.k (k:=.inr q) hp,_,rfl,?_⟩
  rcases hP q with ⟨h1,h2⟩|⟨v,g,h1,h2,h3⟩
  ·rw [h1]
   rw [h2] at hT'
   rcases hT' with ⟨_,hE⟩|⟨k,hk,_⟩
   ·refine ce ⟨_,rfl,by decide +kernel,_,rfl,.inl ⟨q,rfl,zq,q,rfl,Nat.le_trans lq (by decide),_,rfl,by decide +kernel,_,rfl,.inl ⟨q,rfl,zq,q,rfl,Nat.le_trans lq (by decide),_,rfl,by decide +kernel,_,rfl,.inl ⟨t,rfl,zt,t,rfl,Nat.le_trans lt (by decide),fun z3 hz3=>⟨(szQ 1),hE⟩⟩⟩⟩⟩
   ·cases hk
  ·rw [h1]
   rw [h2] at hT'
   obtain⟨a,dx,fs,d,kvs,rfl,h4,h5,h6,h7⟩:=h3
   exact dZ ⟨_,rfl,_,rfl,p,.ref a,rfl,h1▸eK.k (k:=.inr q) hp,a,CF,dx,fs,_,rfl,h4,cF,nF,h5,k1 d kvs g h6 h7 hT'⟩
theorem hJ{G T:Str × Str->Option Kd}:∀{k:Kd},(∀n∈Kd.names k,G n=T n)->Kd.put G k=Kd.put T k
 |.num _,_=>rfl
 |.name q t,h=>by
  show(G (q,t)).getD _=(T (q,t)).getD _
  rw [h (q,t) (List.mem_singleton.mpr rfl)]
 |.pair a b,h=>by
  show Kd.pair (Kd.put G a) (Kd.put G b)=Kd.pair (Kd.put T a) (Kd.put T b)
  rw [hJ (k:=a) fun n hn=>h n (List.mem_append_left _ hn),hJ (k:=b) fun n hn=>h n (List.mem_append_right _ hn)]
theorem nH{acc:List (Str × Str)}{m n:Str × Str}(h:n∈acc\/n=m):n∈ms acc m:=by
 unfold ms
 split
 ·rename_i hm
  rcases h with h|rfl
  ·exact h
  ·exact hm
 ·rcases h with h|rfl
  ·exact List.mem_append_left _ h
  ·exact List.mem_append_right _ (List.mem_singleton.mpr rfl)
theorem gk:∀{l acc:List (Str × Str)} {n:Str × Str},n∈acc\/n∈l->n∈cD acc l
 |[],acc,n,h=>h.elim id fun z=>nomatch z
 |m::l,acc,n,h=>by
  refine gk (l:=l) (acc:=ms acc m) ?_
  rcases h with h|h
  ·exact .inl (nH (.inl h))
  ·rcases List.mem_cons.mp h with h|h
   ·exact .inl (nH (.inr h))
   ·exact .inr h
theorem tw{acc:List (Str × Str)}{m n:Str × Str}(h:n∈ms acc m):n∈acc\/n=m:=by
 unfold ms at h
 split at h
 ·exact .inl h
 ·rcases List.mem_append.mp h with q|q
  ·exact .inl q
  ·exact .inr (List.mem_singleton.mp q)
theorem iQ:∀{l acc:List (Str × Str)} {n:Str × Str},n∈cD acc l->n∈acc\/n∈l
 |[],acc,n,h=>.inl h
 |m::l,acc,n,h=>by
  rcases iQ (l:=l) (acc:=ms acc m) h with q|q
  ·rcases tw q with q|q
   ·exact .inl q
   ·exact .inr (q▸List.mem_cons_self)
  ·exact .inr (List.mem_cons_of_mem _ q)
theorem i9:∀(l acc:List (Str × Str)),(cD acc l).length<=acc.length+l.length
 |[],acc=>Nat.le_refl _
 |m::l,acc=>by
  have h1:=i9 l (ms acc m)
  have h2:=mw acc m
  show(cD (ms acc m) l).length<=acc.length+(l.length+1)
  omega
theorem hV:∀k:Kd,(Kd.names k).length<=k.words
 |.num _=>Nat.zero_le _
 |.name _ _=>Nat.le_refl _
 |.pair a b=>by
  have h1:=hV a
  have h2:=hV b
  show(Kd.names a++Kd.names b).length<=1+a.words+b.words
  rw [List.length_append]
  omega
theorem iV{H:Hp}:∀{dn:List (Str × Str)} {as:List Addr} {i:Nat} {b:Addr},Paired (fun(n:Str × Str) (a:Addr)=>H a=some (.tup [.str n.1,.str n.2])) dn as->as[i]?=some b->∃n:Str × Str,dn[i]?=some n/\H b=some (.tup [.str n.1,.str n.2])
 |_,_,_,_,.nil,e=>by simp at e
 |_,_,0,_,.cons a _,e=>by
  obtain rfl:=Option.some.inj e
  exact⟨_,rfl,a⟩
 |_,_,i+1,_,.cons _ r,e=>iV (i:=i) r e
theorem xf{K:W.Frag}{H:Hp}{kvs:List (List Key × V)}{G:Str × Str->Option Kd}{n:Str × Str}{v:V}{k:Kd}(h:uY K H kvs G)(hv:bJ K H v k):uY K H (bi kvs (gH n) v) (fun m=>if m=n then some k else G m):=fun m=>by
 by_cases e:m=n
 ·subst e
  exact .inr ⟨v,k,by rw [fU,if_pos rfl],if_pos rfl,hv⟩
 ·have e2:gH m≠gH n:=fun z=>e (mR z)
  rcases h m with ⟨h1,h2⟩|⟨v',k',h1,h2,h3⟩
  ·exact .inl ⟨by rw [fU,if_neg e2];exact h1,(if_neg e).trans h2⟩
  ·exact .inr ⟨v',k',by rw [fU,if_neg e2];exact h1,(if_neg e).trans h2,h3⟩
def jw(K:W.Frag)(CF CN CT:Addr):Sp:=fun vs H Q E=>∃(x:V) (k:Kd) (o p:Addr) (m:Int) (okv pkv:List (Key × V)) (OG:Str->Option Kd) (PG:Str->Option (Str->Option Kd)),
 vs=[x,.ref o,.ref p,.int m]/\bJ K H x k/\k.words<=900/\Kd.depth k<=40/\(∀n∈Kd.names k,okW n.1/\okW n.2)/\0<=m/\m<=1000000/\H o=some (.dK okv)/\ux K H okv OG/\H p=some (.dK pkv)/\eh K H CF pkv PG /\
 (∀H',aH H H'->(∃n∈Kd.names k,iJ OG PG n=none)->E (.ref CN) none H') /\
 ((∀n∈Kd.names k,iJ OG PG n≠none)->(Kd.put (iJ OG PG) k).words<=900/\∀H',aH H H'->if ((Kd.put (iJ OG PG) k).words:Int) > m then E (.ref CT) none H' else ∀v,bJ K H' v (Kd.put (iJ OG PG) k)->Q v H')
theorem gJ:aJ ["kind","own","parts","most","given","part","word"] ["kind","own","parts","most"] (aj dl):=⟨rfl,rfl,rfl,by decide +kernel,rfl,by decide +kernel,by decide +kernel⟩
theorem rE{f fn fp fb ft CF CN CT:Addr}{dV:Value}{fd fdn fdp fdb fdt:FuncData} (F:jR K "normal" "normal" dl dV f fd)
  (GN:aV P w K mg base CX0 1 fn fdn ["kind"] (pD K)) (bN:aL K fdn ["kind"] []) (kN:W.keepIn K (.ref fn)=true) (mN:mg "names_in"=some (.ref fn))
  (GP:aV P w K mg base CX0 40 fp fdp ["kind","given"] (wB K 40)) (bP:aL K fdp ["kind","given"] []) (kP:W.keepIn K (.ref fp)=true) (mP:mg "put"=some (.ref fp))
  (GB:aV P w K mg base (CX1 P w) 2 fb fdb ["kind","most"] (d7 K CT)) (bB:aL K fdb ["kind","most"] []) (kB:W.keepIn K (.ref fb)=true) (mB:mg "bounded"=some (.ref fb))
  (GT:aV P w K mg base (CX1 P w) 1 ft fdt ["part","word","own","parts"] (iY K CF CN)) (bT:aL K fdt ["part","word","own","parts"] []) (kT:W.keepIn K (.ref ft)=true) (mT:mg "told_kind"=some (.ref ft)) :
  aV P w K mg base (CX1 P w) 41 f fd ["kind","own","parts","most"] (jw K CF CN CT):=by
 refine F.okX gJ (fun vs H Q E h=>?_) (fun cdv A outer s H vs Q E hr h=>?_)
 ·obtain⟨x,k,o,p,m,okv,pkv,OG,PG,rfl,_⟩:=h
  rfl
 obtain⟨x,k,o,p,m,okv,pkv,OG,PG,rfl,hk,hw,hdp,hnm,m0,m1,ho,hO,hp,hP,q1,q2⟩:=h
 have hu:=fH hr
 have hr1:cA 1 _:=hr.mono (by decide)
 have hr2:cA 2 _:=hr.mono (by decide)
 refine⟨_,ah (ay (i:=4) gJ.nd rfl (Or.inl rfl) nS)
  (ah (gu PassesOwn.leaving rfl (qg (au GN hr1 rfl mN kN bN .nil bQ (aa (pv 0) ae)))
   (eT rfl (aU (aY (i:=5) gJ.nd rfl (Or.inl rfl)) (aU (aY (i:=6) gJ.nd rfl (Or.inl rfl)) dG)))
   (ao (ig hu (pv 4) (ak (aa (pv 5) (aa (pv 6) ae))) (au GT hr1 rfl mT kT bT .nil cB (aa (pv 5) (aa (pv 6) (aa (pv 1) (aa (pv 2) ae))))) rfl)))
  (ao (aM (au GB hr2 rfl mB kB bB .nil cB (aa (au GP hr rfl mP kP bP .nil bQ (aa (pv 0) (aa (pv 4) ae))) (aa (pv 3) ae)))))),?_⟩
 intro g hg
 have sg:=ad hg (.dT [])
 refine⟨_,rfl,x,k,rfl,hk.same sg,hw,fun H1 l as s1 _ hl hpr=>?_⟩
 have gne:l≠g:=fun e=>by
  have z:=s1 _ _ (ac (H:=H) (a:=g) (o:=.dT []))
  rw [<-e,hl] at z
  cases z
 have hS1:aH H H1:=cZ sg s1
 have hlen:=Paired.length hpr
 refine⟨l,rfl,⟨_,SqL.of hl⟩,mG (K:=K) (xs:=as.map V.ref) (fun i σ H3=>∃(x5 x6:Option V) (kvs:List (List Key × V)),σ=[some x,some (.ref o),some (.ref p),some (.int m),some (.ref g),x5,x6]/\aH H H3/\H3 l=some (.lst (as.map V.ref))/\H3 g=some (.dT kvs) /\
   Paired (fun(n:Str × Str) (a:Addr)=>H3 a=some (.tup [.str n.1,.str n.2])) (cD [] (Kd.names k)) as/\kvs.length<=i/\(∀n∈(cD [] (Kd.names k)).take i,iJ OG PG n≠none)/\uY K H3 kvs (fun n=>if n∈(cD [] (Kd.names k)).take i then iJ OG PG n else none))
  ⟨none,none,[],rfl,hS1,hl,s1 _ _ ac,hpr,Nat.le_refl _,fun n hn=>(by simp at hn),fun n=>.inl ⟨rfl,by simp⟩⟩ ?_ ?_ ?_⟩
 ·rintro i σ H3 _ ⟨x5,x6,kvs,rfl,_,h3,_⟩
  exact SqL.of h3
 ·rintro i y σ H3 hy ⟨x5,x6,kvs,rfl,s3,hl3,hg3,hp3,hkl,hto,hG⟩
  obtain⟨b,hb,rfl⟩:∃b,as[i]?=some b/\V.ref b=y:=by
   rw [List.getElem?_map] at hy
   exact Option.map_eq_some_iff.mp hy
  obtain⟨n,hn,htu⟩:=iV hp3 hb
  have hnm':n∈Kd.names k:=by
   rcases iQ (List.mem_of_getElem? hn) with z|z
   ·cases z
   ·exact z
  have hil:i < as.length:=(List.getElem?_eq_some_iff.mp hb).1
  have etake:(cD [] (Kd.names k)).take (i+1)=(cD [] (Kd.names k)).take i++[n]:=by
   rw [List.take_add_one,hn]
   rfl
  have hkz:kvs.length < sizeLine:=by
   have h1:=i9 (Kd.names k) []
   have h2:=hV k
   have h3:([]:List (Str × Str)).length=0:=rfl
   exact Nat.lt_of_lt_of_le (Nat.lt_succ_self _) (iB (by omega))
  refine⟨b,_,rfl,SqT.of htu,rfl,_,_,rfl,_,_,rfl,rfl,?_⟩
  refine⟨_,rfl,_,rfl,_,rfl,_,rfl,n.1,n.2,o,p,okv,pkv,OG,PG,rfl,(hnm n hnm').1,(hnm n hnm').2,s3 _ _ ho,hO.same s3,s3 _ _ hp,hP.same s3,?_⟩
  cases ht:iJ OG PG n with
  |none=>exact .inl ⟨rfl,q1 _ s3 ⟨n,hnm',ht⟩⟩
  |some kk =>
   refine .inr ⟨kk,rfl,fun v hv=>?_⟩
   refine⟨_,rfl,_,rfl,_,rfl,(szQ 2),fun c hc=>?_⟩
   have sc:=ad hc (.tup [.str n.1,.str n.2])
   have hg4:=sc _ _ hg3
   have hcg:g≠c:=ax hg3 hc
   have hcl:l≠c:=ax hl3 hc
   have hc0:H c=none:=by
    cases e:H c with
    |none=>rfl
    |some u=>rw [s3 _ _ e] at hc;cases hc
   refine⟨g,_,rfl,qU.t (k:=gH n) hg4 ac hkz,?_⟩
   have keep:∀a xs,SqT K (upd H3 c (.tup [.str n.1,.str n.2])) a xs->SqT K (upd (upd H3 c (.tup [.str n.1,.str n.2])) g (.dT (bi kvs (gH n) v))) a xs:=fun a xs t=>by
    rcases t with (t|⟨o',t⟩)|t
    ·exact .inl (.inl (by rw [am (fun e=>by rw [e,hg4] at t;cases t)];exact t))
    ·exact .inl (.inr ⟨o',by rw [am (fun e=>by rw [e,hg4] at t;cases t)];exact t⟩)
    ·exact .inr t
   refine⟨_,_,bi kvs (gH n) v,rfl,jC (cZ s3 sc) hg,?_,ac,?_,?_,?_,?_⟩
   ·rw [am gne]
    exact sc _ _ hl3
   ·exact Paired.imp' (fun m a e=>by rw [am (fun z=>by rw [z,hg3] at e;cases e)];exact sc _ _ e) hp3
   ·have:=cg kvs (gH n) v
    omega
   ·rw [etake]
    intro m hm
    rcases List.mem_append.mp hm with z|z
    ·exact hto m z
    ·rw [List.mem_singleton.mp z,ht]
     exact fun e=>nomatch e
   ·have hG2:=xf (n:=n) (hG.same sc) (hv.same sc)
    rw [etake]
    intro mm
    have eG:(if mm∈(cD [] (Kd.names k)).take i++[n] then iJ OG PG mm else none)=(if mm=n then some kk else if mm∈(cD [] (Kd.names k)).take i then iJ OG PG mm else none):=by
     by_cases e:mm=n
     ·subst e
      rw [if_pos (List.mem_append_right _ (List.mem_singleton.mpr rfl)),if_pos rfl,ht]
     ·rw [if_neg e]
      by_cases e2:mm∈(cD [] (Kd.names k)).take i
      ·rw [if_pos e2,if_pos (List.mem_append_left _ e2)]
      ·rw [if_neg e2,if_neg (fun z=>(List.mem_append.mp z).elim e2 fun z2=>e (List.mem_singleton.mp z2))]
    rcases hG2 mm with ⟨h1,h2⟩|⟨v',k',h1,h2,h3⟩
    ·exact .inl ⟨h1,eG.trans h2⟩
    ·exact .inr ⟨v',k',h1,eG.trans h2,bq keep h3⟩
 ·rintro σ H3 ⟨x5,x6,kvs,rfl,s3,hl3,hg3,hp3,hkl,hto,hG⟩
  rw [List.length_map,<-hlen,List.take_length] at hto hG
  have hall:∀n∈Kd.names k,iJ OG PG n≠none:=fun n hn=>hto n (gk (.inr hn))
  obtain⟨hb9,q3⟩:=q2 hall
  have epc:Kd.put (fun n=>if n∈cD [] (Kd.names k) then iJ OG PG n else none) k=Kd.put (iJ OG PG) k:=hJ fun n hn=>if_pos (gk (.inr hn))
  refine⟨_,rfl,_,rfl,x,g,k,kvs,_,rfl,hk.same s3,hdp,hg3,hG,fun H4 v4 s4 hv4=>?_⟩
  rw [epc] at hv4
  refine⟨_,rfl,v4,_,m,rfl,hv4,hb9,m0,m1,fun H5 s5=>?_⟩
  have q4:=q3 H5 (cZ s3 (cZ s4 s5))
  by_cases c:((Kd.put (iJ OG PG) k).words:Int) > m
  ·rw [if_pos c] at q4 ⊢
   exact q4
  ·rw [if_neg c] at q4 ⊢
   exact q4 v4 (hv4.same s5)
theorem ue{H:Hp}{l a:Addr}{ob:Obj}{kvs:List (Key × V)}{xs:List V}{o:HO}(h:H l=some (.frz ob (.dK kvs)))(t:SqT K H a xs):SqT K (upd H l o) a xs:=by
 rcases t with (t|⟨o',t⟩)|t
 ·exact .inl (.inl (by rw [am (fun e=>by rw [e,h] at t;cases t)];exact t))
 ·exact .inl (.inr ⟨o',by rw [am (fun e=>by rw [e,h] at t;cases t)];exact t⟩)
 ·exact .inr t
inductive RR where
 |ok (m1:List (Str × Kd)) (m2:List (Str × (List Kd × Kd)))
 |no
 |big
def vh(k:Kd):Prop:=Kd.ok k/\k.words<=40
structure AL(m1:List (Str × Kd))(m2:List (Str × (List Kd × Kd))):Prop where
 nd1:(m1.map (·.1)).Nodup
 nd2:(m2.map (·.1)).Nodup
 l1:m1.length<=100
 l2:m2.length<=100
 k1:∀q∈m1,okW q.1/\vh q.2
 k2:∀q∈m2,okW q.1/\(∀k∈q.2.1,vh k)/\vh q.2.2/\q.2.1.length<=100
theorem gr{G:Str × Str->Option Kd}{c:Nat}(hc:1<=c)(hG:∀n g,G n=some g->g.leaves.length<=c):∀k:Kd,(Kd.put G k).leaves.length<=k.leaves.length*c
 |.num n=>by
  show 1<=1*c
  omega
 |.name q t=>by
  show((G (q,t)).getD (.name q t)).leaves.length<=1*c
  cases e:G (q,t) with
  |none =>
   show 1<=1*c
   omega
  |some g =>
   have:=hG _ _ e
   show g.leaves.length<=1*c
   omega
 |.pair a b=>by
  have h1:=gr hc hG a
  have h2:=gr hc hG b
  show((Kd.put G a).leaves++(Kd.put G b).leaves).length<=(a.leaves++b.leaves).length*c
  rw [List.length_append,List.length_append,Nat.add_mul]
  omega
theorem lj{G:Str × Str->Option Kd}(hG:∀n g,G n=some g->Kd.ok g):∀{k:Kd},Kd.ok k->Kd.ok (Kd.put G k)
 |.num n,_=>trivial
 |.name q t,h=>by
  show Kd.ok ((G (q,t)).getD (.name q t))
  cases e:G (q,t) with
  |none=>exact h
  |some g=>exact hG _ _ e
 |.pair a b,h=>⟨lj hG h.1,lj hG h.2⟩
def nO(K:W.Frag)(H:Hp)(v:V)(q:Str × Kd):Prop:=∃(p:Addr) (y:V),v=.ref p/\SqT K H p [.str q.1,y]/\bJ K H y q.2
def lJ(K:W.Frag)(H:Hp)(xs:List V)(ws:List (Str × Kd)):Prop:=Paired (nO K H) xs ws
theorem iK.same{K:W.Frag}{H H':Hp}{CF x:Addr}{m1:List (Str × Kd)}{m2:List (Str × (List Kd × Kd))}(e:aH H H')(h:iK K H CF x m1 m2):iK K H' CF x m1 m2:=by
 obtain⟨dx,d1,d2,fs,kv1,kv2,h1,h2,h3,h4,h5,h6,h7,h8⟩:=h
 exact⟨dx,d1,d2,fs,kv1,kv2,e _ _ h1,h2,h3,e _ _ h4,e _ _ h5,h6.imp fun v y h=>h.same e,h7.imp fun v y h=>h.keep (fun a xs t=>e.tup t) (fun a xs t=>e _ _ t),h8⟩
end
end K53
namespace K53
open PySem L2
def cellOf(ns:List Int)(k:Int):Int :=
 if k < (ns.length:Int) then (match atI (ns.map V.int) k with|some (.int v)=>v|_=>0)
 else if 0 < (ns.length:Int) then (match atI (ns.map V.int) (k%(ns.length:Int)) with|some (.int v)=>(v%1000003*48271+7919*k*k)%2147483647|_=>0)
 else (7919*k+11)%2147483647
section
variable{P:Program}{w:World}{K:W.Frag}{mg:Str->Option Value}{base:Heap}
end
end K53
namespace K53
open PySem L2 Kk
section
variable{P:Program}{w:World}{K:W.Frag}{mg:Str->Option Value}{base:Heap}
theorem ww{f T:Addr}{fd:FuncData}{oT:Value}{dT:Option Addr}{nT:Nat}{sT:Array (Option Value)}{tk:Tok} (F:jR K "normal" "normal" dl (.ref T) f fd) (lT:K.lookup T=some ⟨oT,dT,.seq #[.int 40 tk] nT,sT⟩):aL K fd ["kind","own","parts","most"] [.int 40 tk] :=
 F.binds lT fun _ _ _ _ _ _ us hl=>by
  have hl':us.length=3:=by simpa using hl
  match us,hl' with
  |[_,_,_],_=>exact⟨_,rfl,rfl⟩
end
end K53
namespace L2
open PySem
theorem ud{K:W.Frag}{l:Addr}{xs:List V}{n:Nat}{κ:List Nat}{g:TG}{tc:TT}{te:TE}{σ:St}{H:Hp}{Q:VK}(hl:SqT K H l xs)(hz:xs.length<=1000)(R:Nat->List V->Hp->Prop)(h0:R 0 [] H)(hlen:∀i ys H2,R i ys H2->ys.length<=i)
  (hs:∀i x ys H2 (N:List V->Hp->Prop),(∀ys' H',aH H H'->R (i+1) ys' H'->N ys' H')->xs[i]?=some x->aH H H2->R i ys H2->g x (cS n κ σ) H2 fun σ4 H4=>σ4.drop n=(cS n κ σ).drop n/\tc σ4 H4 fun b H5=>if b=true then te σ4 H5 fun v H6=>N (ys++[v]) H6 else N ys H5)
  (hQ:∀ys H2 D,aH H H2->R xs.length ys H2->H2 D=none->Q (.ref D) (upd H2 D (.lst ys))):jn n κ g tc te σ (Itt K l) H Q:=by
 refine pR (J:=Itt K l) (xs:=xs) (fun i ys H3=>aH H H3/\R i ys H3) ⟨aH.refl _,h0⟩ (Nat.le_of_lt (dJ hz)) ?_ ?_ ?_ ?_ ?_ ?_
 ·rintro i ys H3 ⟨_,h⟩
  exact hlen i ys H3 h
 ·rintro i u ys H3 hu ⟨s3,_⟩
  exact⟨_,_,s3.tup hl,hu⟩
 ·rintro i ys u H3 H' hn ⟨s3,_⟩ hy
  exact⟨hy.1,hy.2 _ (s3.tup hl)⟩
 ·rintro ys H3 ⟨s3,_⟩
  exact⟨_,s3.tup hl,Nat.le_refl _⟩
 ·rintro i u ys H3 N hN hu ⟨s3,h⟩
  exact hs i u ys H3 N (fun ys' H' a b=>hN ys' H' ⟨a,b⟩) hu s3 h
 ·rintro ys H3 D ⟨s3,h⟩ hD
  exact hQ ys H3 D s3 h hD
end L2
namespace K53
open PySem L2 Kk
section
variable{P:Program}{w:World}{K:W.Frag}{mg:Str->Option Value}{base:Heap}
end
end K53
namespace L2
open PySem
end L2
namespace K53
open PySem L2 Kk
section
variable{P:Program}{w:World}{K:W.Frag}{mg:Str->Option Value}{base:Heap}
theorem hZ{α:Type}{m:List (Str × α)}{z:Str}{x:α}(h:look m z=some x):(z,x)∈m:=by
 unfold look at h
 obtain⟨q,hq,e⟩:=Option.map_eq_some_iff.mp h
 have h1:=List.mem_of_find?_eq_some hq
 have h2:q.1=z:=by
  have h3:=List.find?_some hq
  exact of_decide_eq_true h3
 obtain⟨a,b⟩:=q
 replace h2:a=z:=h2
 replace e:b=x:=e
 rw [<-h2,<-e]
 exact h1
theorem sv{α:Type}(xs ys:List (Str × α))(z:Str):look (xs++ys) z=(look xs z).or (look ys z):=by
 unfold look
 rw [List.find?_append]
 cases (xs.find? fun q=>decide (q.1=z))<;>rfl
theorem d4{α:Type}{m:List (Str × α)}{z:Str}(h:z∉m.map (·.1)):look m z=none:=by
 cases e:look m z with
 |none=>rfl
 |some x=>exact absurd (List.mem_map.mpr ⟨_,hZ e,rfl⟩) h
inductive It where
 |kind (w:Str) (k:Kd)
 |fn (w:Str) (ps:List (Str × Kd)) (k:Kd)
 |opn (p:Str)
abbrev bh:=List (Str × Kd)
abbrev ba:=List (Str × (List Kd × Kd))
abbrev bH:=List (Str × (bh × ba))
inductive FR where
 |ok (m1:bh) (m2:ba)
 |ref (c:Nat)
inductive Nr where
 |ok (k:Kd)
 |no (c:Nat)
inductive Nrs where
 |ok (ks:List Kd)
 |no (c:Nat)
def PGo(parts:bH):Str->Option (Str->Option Kd):=fun q=>(look parts q).map fun r=>look r.1
def tl(m1:bh)(parts:bH):Str × Str->Option Kd:=iJ (look m1) (PGo parts)
def cR(T:Str × Str->Option Kd)(M:Int)(k:Kd):Nr:=if (∃n∈Kd.names k,T n=none) then .no 2 else if ((Kd.put T k).words:Int) > M then .no 3 else .ok (Kd.put T k)
def bn(T:Str × Str->Option Kd)(M:Int):List Kd->Nrs
 |[]=>.ok []
 |k::ks=>match cR T M k with
  |.no c=>.no c
  |.ok k'=>match bn T M ks with
   |.no c=>.no c
   |.ok l=>.ok (k'::l)
def aQ{α:Type}:List (Str × α)->List (Str × α)->Option (List (Str × α))
 |m,[]=>some m
 |m,q::qs=>if q.1∈m.map (·.1) then none else aQ (m++[q]) qs
def cC(parts:bH)(M:Int)(m1:bh)(m2:ba):It->FR
 |.kind w k=>match cR (tl m1 parts) M k with
  |.no c=>.ref c
  |.ok k'=>if w∈m1.map (·.1) then .ref 0 else .ok (m1++[(w,k')]) m2
 |.fn w ps k=>match bn (tl m1 parts) M (ps.map (·.2)) with
  |.no c=>.ref c
  |.ok ks=>match cR (tl m1 parts) M k with
   |.no c=>.ref c
   |.ok k'=>if w∈m2.map (·.1) then .ref 0 else .ok m1 (m2++[(w,(ks,k'))])
 |.opn p=>match look parts p with
  |none=>.ref 1
  |some r=>match aQ m1 r.1 with
   |none=>.ref 0
   |some n1=>match aQ m2 r.2 with
    |none=>.ref 0
    |some n2=>.ok n1 n2
def KB(k:Kd):Prop:=Kd.ok k/\k.words<=60
def ItK(k:Kd):Prop:=Kd.ok k/\k.leaves.length<=21/\(k.leaves.length<=3\/Kd.names k=[])
def Ok1(m1:bh):Prop:=∀q∈m1,okW q.1/\KB q.2
def Ok2(m2:ba):Prop:=∀q∈m2,okW q.1/\q.2.1.length<=4/\∀k∈q.2.2::q.2.1,KB k
def qu(parts:bH):Prop:=∀r∈parts,Ok1 r.2.1/\Ok2 r.2.2/\r.2.1.length<=5/\r.2.2.length<=5/\(r.2.1.map (·.1)).Nodup/\(r.2.2.map (·.1)).Nodup/\okW r.1
def vN:It->Prop
 |.kind w k=>okW w/\ItK k
 |.fn w ps k=>okW w/\ps.length<=4/\(∀q∈ps,ItK q.2)/\ItK k
 |.opn p=>okW p
theorem cm:∀k:Kd,k.words+1=2*k.leaves.length
 |.num n=>rfl
 |.name q t=>rfl
 |.pair a b=>by
  have h1:=cm a
  have h2:=cm b
  show(1+a.words+b.words)+1=2*(a.leaves++b.leaves).length
  rw [List.length_append]
  omega
theorem jt{G:Str × Str->Option Kd}:∀{k:Kd},Kd.names k=[]->Kd.put G k=k
 |.num n,_=>rfl
 |.name q t,h=>by cases h
 |.pair a b,h=>by
  have h':Kd.names a++Kd.names b=[]:=h
  have ha:Kd.names a=[]:=(List.append_eq_nil_iff.mp h').1
  have hb:Kd.names b=[]:=(List.append_eq_nil_iff.mp h').2
  show Kd.pair (Kd.put G a) (Kd.put G b)=Kd.pair a b
  rw [jt ha,jt hb]
theorem dE{G:Str × Str->Option Kd}(hG:∀n g,G n=some g->KB g){k:Kd}(h:ItK k):(Kd.put G k).words<=900/\Kd.ok (Kd.put G k):=by
 refine⟨?_,lj (fun n g e=>(hG n g e).1) h.1⟩
 rcases h.2.2 with h3|h3
 ·have e:=gr (G:=G) (c:=31) (by decide) (fun n g e=>by
   have:=cm g
   have:=(hG n g e).2
   omega) k
  have:=cm (Kd.put G k)
  omega
 ·rw [jt h3]
  have:=cm k
  have:=h.2.1
  omega
theorem cK{α:Type}{m:List (Str × α)}{z:Str}{x:α}(h:look m z=some x):(z,x)∈m:=hZ h
theorem sO{m1:bh}{parts:bH}(h1:Ok1 m1)(hp:qu parts):∀n g,tl m1 parts n=some g->KB g:=fun n g e=>by
 unfold tl iJ at e
 by_cases c:n.1=""
 ·rw [if_pos c] at e
  exact(h1 _ (cK e)).2
 ·rw [if_neg c] at e
  unfold PGo at e
  cases hq:look parts n.1 with
  |none=>rw [hq] at e;cases e
  |some r =>
   rw [hq] at e
   exact((hp _ (cK hq)).1 _ (cK (show look r.1 n.2=some g from e))).2
def lU(K:W.Frag)(H:Hp)(v:V):It->Prop
 |.kind w k=>∃(p:Addr) (y:V),v=.ref p/\SqT K H p [.str "kind",.str w,y]/\bJ K H y k
 |.fn w ps k=>∃(p ta:Addr) (y z:V) (xs:List V),v=.ref p/\SqT K H p [.str "fun",.str w,.ref ta,y,z]/\SqT K H ta xs/\lJ K H xs ps/\bJ K H y k
 |.opn q=>∃(p:Addr),v=.ref p/\SqT K H p [.str "open",.str q]
theorem nO.keep{K:W.Frag}{H H':Hp}{v:V}{q:Str × Kd}(e:∀a xs,SqT K H a xs->SqT K H' a xs)(h:nO K H v q):nO K H' v q:=by
 obtain⟨p,y,h1,h2,h3⟩:=h
 exact⟨p,y,h1,e _ _ h2,bq e h3⟩
theorem lU.keep{K:W.Frag}{H H':Hp}{v:V}(e:∀a xs,SqT K H a xs->SqT K H' a xs):∀{it:It},lU K H v it->lU K H' v it
 |.kind w k,⟨p,y,h1,h2,h3⟩=>⟨p,y,h1,e _ _ h2,bq e h3⟩
 |.fn w ps k,⟨p,ta,y,z,xs,h1,h2,h3,h4,h5⟩=>⟨p,ta,y,z,xs,h1,e _ _ h2,e _ _ h3,Paired.mapP h4 fun _ _ t=>t.keep e,bq e h5⟩
 |.opn q,⟨p,h1,h2⟩=>⟨p,h1,e _ _ h2⟩
theorem lU.same{K:W.Frag}{H H':Hp}{v:V}{it:It}(e:aH H H')(h:lU K H v it):lU K H' v it:=h.keep fun _ _ t=>e.tup t
def fc(K:W.Frag)(H:Hp)(CF pa:Addr)(parts:bH):Prop:=∃pkv,H pa=some (.dK pkv)/\cW (fun v (r:bh × ba)=>∃fa,v=.ref fa/\iK K H CF fa r.1 r.2) pkv parts
theorem fc.same{K:W.Frag}{H H':Hp}{CF pa:Addr}{parts:bH}(e:aH H H')(h:fc K H CF pa parts):fc K H' CF pa parts:=by
 obtain⟨pkv,h1,h2⟩:=h
 exact⟨pkv,e _ _ h1,h2.imp fun v r ⟨fa,e1,e2⟩=>⟨fa,e1,e2.same e⟩⟩
structure eV(K:W.Frag)(H:Hp)(CF fa d1 d2 dx:Addr)(fs:List (Str × V))(kv1 kv2:List (Key × V))(m1:bh)(m2:ba):Prop where
 obj:H fa=some (.ins CF dx fs)
 fk:fs.lookup ("kinds":Str)=some (.ref d1)
 ff:fs.lookup ("funs":Str)=some (.ref d2)
 h1:H d1=some (.dK kv1)
 h2:H d2=some (.dK kv2)
 p1:cW (bJ K H) kv1 m1
 p2:cW (cY K H) kv2 m2
 nh:fs.lookup ("hidden":Str)=none
 np:fs.lookup ("put":Str)=none
 ne:d1≠d2
def dg(K:W.Frag)(H:Hp)(CF fa d1 d2:Addr)(m1:bh)(m2:ba):Prop:=∃dx fs kv1 kv2,eV K H CF fa d1 d2 dx fs kv1 kv2 m1 m2
theorem dg.same{K:W.Frag}{H H':Hp}{CF fa d1 d2:Addr}{m1:bh}{m2:ba}(e:aH H H')(h:dg K H CF fa d1 d2 m1 m2):dg K H' CF fa d1 d2 m1 m2:=by
 obtain⟨dx,fs,kv1,kv2,F⟩:=h
 exact⟨dx,fs,kv1,kv2,e _ _ F.obj,F.fk,F.ff,e _ _ F.h1,e _ _ F.h2,F.p1.imp fun _ _ t=>t.same e,F.p2.imp fun _ _ t=>t.keep (fun _ _ t=>e.tup t) (fun _ _ t=>e _ _ t),F.nh,F.np,F.ne⟩
theorem eV.put1{K:W.Frag}{H:Hp}{CF fa d1 d2 dx:Addr}{fs:List (Str × V)}{kv1 kv2:List (Key × V)}{m1:bh}{m2:ba}(F:eV K H CF fa d1 d2 dx fs kv1 kv2 m1 m2){z:Str}{v:V}{k:Kd}(hz:z∉m1.map (·.1))(hv:bJ K H v k) :
  eV K (upd H d1 (.dK (bi kv1 (.inr z) v))) CF fa d1 d2 dx fs (bi kv1 (.inr z) v) kv2 (m1++[(z,k)]) m2:=by
 have kp:∀b xs,SqT K H b xs->SqT K (upd H d1 (.dK (bi kv1 (.inr z) v))) b xs:=fun b xs h=>gB F.h1 h
 refine⟨?_,F.fk,F.ff,ac,?_,?_,F.p2.imp fun _ _ t=>t.keep kp (fun b xs h=>by rw [am (fun e=>by rw [e,F.h1] at h;cases h)];exact h),F.nh,F.np,F.ne⟩
 ·rw [am (fun e=>by have:=F.obj;rw [e,F.h1] at this;cases this)]
  exact F.obj
 ·rw [am (Ne.symm F.ne)]
  exact F.h2
 ·exact cW.put (F.p1.imp fun _ _ t=>bq kp t) hz (bq kp hv)
theorem eV.put2{K:W.Frag}{H:Hp}{CF fa d1 d2 dx:Addr}{fs:List (Str × V)}{kv1 kv2:List (Key × V)}{m1:bh}{m2:ba}(F:eV K H CF fa d1 d2 dx fs kv1 kv2 m1 m2){z:Str}{v:V}{g:List Kd × Kd}(hz:z∉m2.map (·.1))(hv:cY K H v g) :
  eV K (upd H d2 (.dK (bi kv2 (.inr z) v))) CF fa d1 d2 dx fs kv1 (bi kv2 (.inr z) v) m1 (m2++[(z,g)]):=by
 have kp:∀b xs,SqT K H b xs->SqT K (upd H d2 (.dK (bi kv2 (.inr z) v))) b xs:=fun b xs h=>gB F.h2 h
 refine⟨?_,F.fk,F.ff,?_,ac,F.p1.imp fun _ _ t=>bq kp t,?_,F.nh,F.np,F.ne⟩
 ·rw [am (fun e=>by have:=F.obj;rw [e,F.h2] at this;cases this)]
  exact F.obj
 ·rw [am F.ne]
  exact F.h1
 ·exact cW.put (F.p2.imp fun _ _ t=>t.keep kp (fun b xs h=>by rw [am (fun e=>by rw [e,F.h2] at h;cases h)];exact h)) hz (hv.keep kp (fun b xs h=>by rw [am (fun e=>by rw [e,F.h2] at h;cases h)];exact h))
theorem tM{α:Type}{R:V->α->Prop}{kvs:List (Key × V)}{m:List (Str × α)}(h:cW R kvs m)(z:Str):(du kvs (.inr z)).isSome=decide (z∈m.map (·.1)):=by
 rcases cr h z with ⟨h1,h2⟩|⟨v,x,h1,h2,_⟩
 ·rw [h1]
  refine(decide_eq_false fun hm=>?_).symm
  obtain⟨q,hq,e⟩:=List.mem_map.mp hm
  unfold look at h2
  rw [Option.map_eq_none_iff,List.find?_eq_none] at h2
  exact h2 q hq (decide_eq_true e)
 ·rw [h1]
  exact(decide_eq_true (List.mem_map.mpr ⟨_,cK h2,rfl⟩)).symm
theorem oo{K:W.Frag}{H:Hp}{kvs:List (Key × V)}{m:bh}(h:cW (bJ K H) kvs m):ux K H kvs (look m):=fun t=>by
 rcases cr h t with ⟨h1,h2⟩|⟨v,x,h1,h2,h3⟩
 ·exact .inl ⟨h1,h2⟩
 ·exact .inr ⟨v,x,h1,h2,h3⟩
theorem uM{K:W.Frag}{H:Hp}{CF:Addr}{pkv:List (Key × V)}{parts:bH}(h:cW (fun v (r:bh × ba)=>∃fa,v=.ref fa/\iK K H CF fa r.1 r.2) pkv parts):eh K H CF pkv (PGo parts):=fun q=>by
 rcases cr h q with ⟨h1,h2⟩|⟨v,r,h1,h2,fa,e,dx,d1,d2,fs,kv1,kv2,f1,f2,f3,f4,f5,f6,_⟩
 ·exact .inl ⟨h1,by unfold PGo;rw [h2];rfl⟩
 ·exact .inr ⟨v,look r.1,h1,by unfold PGo;rw [h2];rfl,fa,dx,fs,d1,kv1,e,f1,f2,f4,oo f6⟩
abbrev aoP:List Str:=["told","word","what"]
def lZ(CW:Addr):Sp:=fun vs H Q E=>∃(d:Addr) (z:Str) (x:V) (kvs:List (Key × V)),vs=[.ref d,.str z,x]/\okW z/\H d=some (.dK kvs)/\kvs.length<=200 /\
 (((du kvs (.inr z)).isSome=true/\E (.ref CW) none H)\/((du kvs (.inr z)).isSome=false/\Q .non (upd H d (.dK (bi kvs (.inr z) x)))))
theorem yZ:aJ aoP aoP (aj eO):=⟨rfl,rfl,rfl,by decide +kernel,rfl,by decide +kernel,by decide +kernel⟩
theorem wa{f CW:Addr}{fd:FuncData} (F:Fun K "add_once" "add_once" eO f fd) (mW:mg "Twice"=some (.ref CW)) (xW:W.excIn K CW iM "ValueError.__new__"=true) :
  aV P w K mg base (CX1 P w) 1 f fd aoP (lZ CW):=by
 refine F.okX yZ (fun vs H Q E h=>?_) (fun cdv A outer s H vs Q E hr h=>?_)
 ·obtain⟨d,z,x,kvs,rfl,_⟩:=h
  rfl
 obtain⟨d,z,x,kvs,rfl,hz,hd,hl,q⟩:=h
 have hu:=fH hr
 have lz:z.length<=100000:=Nat.le_trans hz.2 (by decide)
 have zz:z.length<=sizeLine:=Nat.le_trans lz (by decide)
 refine⟨_,ah (bc (fN (nL hu (pv 1) (pv 0)) (by with_unfolding_all rfl))
   (ao (bE rfl mW xW (aa (cI (az ai (az (dN (pv 1)) (az ai dW))) (by decide)) ae))) aI)
  (ao (ig hu (pv 0) (pv 1) (pv 2) rfl)),?_⟩
 refine⟨_,rfl,_,rfl,d,_,rfl,eK.k (k:=.inr z) hd,_,rfl,?_⟩
 rcases q with ⟨h1,hE⟩|⟨h1,hQ⟩
 ·rw [h1]
  exact dZ ⟨_,rfl,by decide +kernel,_,rfl,.inl ⟨z,rfl,zz,z,rfl,Nat.le_trans lz (by decide),_,rfl,by decide +kernel,fun z3 hz3=>⟨(szQ 1),hE⟩⟩⟩
 ·rw [h1]
  exact ce ⟨_,rfl,_,rfl,_,rfl,d,_,rfl,qU.k (k:=.inr z) hd (Nat.lt_of_le_of_lt hl (by decide)),hQ⟩
theorem gm{α:Type}:∀(a b m:List (Str × α)),aQ m (a++b)=(aQ m a).bind fun n=>aQ n b
 |[],b,m=>rfl
 |q::a,b,m=>by
  rw [List.cons_append]
  show(if q.1∈m.map (·.1) then none else aQ (m++[q]) (a++b))=(if q.1∈m.map (·.1) then none else aQ (m++[q]) a).bind fun n=>aQ n b
  by_cases c:q.1∈m.map (·.1)
  ·rw [if_pos c,if_pos c]
   rfl
  ·rw [if_neg c,if_neg c]
   exact gm a b _
theorem oF{α:Type}(m:List (Str × α))(q:Str × α):aQ m [q]=if q.1∈m.map (·.1) then none else some (m++[q]):=rfl
theorem gq{α:Type}:∀(b m n:List (Str × α)),aQ m b=some n->n.length=m.length+b.length
 |[],m,n,h=>by
  cases h
  rfl
 |q::b,m,n,h=>by
  unfold aQ at h
  by_cases c:q.1∈m.map (·.1)
  ·rw [if_pos c] at h
   cases h
  ·rw [if_neg c] at h
   have:=gq b _ _ h
   rw [List.length_append] at this
   have e1:([q]:List (Str × α)).length=1:=rfl
   have e2:(q::b).length=b.length+1:=rfl
   rw [e1] at this
   rw [this,e2]
   omega
theorem iC{α:Type}{m n r:List (Str × α)}{i:Nat}{q:Str × α}(h:aQ m (r.take i)=some n)(hq:r[i]?=some q)(c:q.1∉n.map (·.1)):aQ m (r.take (i+1))=some (n++[q]):=by
 rw [List.take_add_one,hq,gm,h]
 show aQ n [q]=_
 rw [oF,if_neg c]
theorem iI{α:Type}{m n r:List (Str × α)}{i:Nat}{q:Str × α}(h:aQ m (r.take i)=some n)(hq:r[i]?=some q)(c:q.1∈n.map (·.1)):aQ m r=none:=by
 have hi:=(List.getElem?_eq_some_iff.mp hq)
 obtain⟨hi,e⟩:=hi
 have:r=r.take i++q::r.drop (i+1):=by
  rw [<-e,List.getElem_cons_drop,List.take_append_drop]
 rw [this,gm,h]
 show aQ n (q::r.drop (i+1))=none
 unfold aQ
 rw [if_pos c]
abbrev toN:List Str:=["full","part","parts","word","kind","fun"]
abbrev toP:List Str:=["full","part","parts"]
def zu(K:W.Frag)(CF:Addr)(cl:Nat->Addr)(H0:Hp)(fa d1 d2:Addr)(Q:VK)(E:XK):FR->Prop
 |.ok n1 n2=>∀H',aH H0 H'->dg K H' CF fa d1 d2 n1 n2->Q .non H'
 |.ref c=>∀H',aH H0 H'->E (.ref (cl c)) none H'
def jQ(parts:bH)(m1:bh)(m2:ba)(p:Str):FR:=match look parts p with
  |none=>.ref 1
  |some r=>match aQ m1 r.1 with
   |none=>.ref 0
   |some n1=>match aQ m2 r.2 with
    |none=>.ref 0
    |some n2=>.ok n1 n2
theorem jI(parts:bH)(M:Int)(m1:bh)(m2:ba)(p:Str):cC parts M m1 m2 (.opn p)=jQ parts m1 m2 p:=rfl
def gy(K:W.Frag)(CF:Addr)(cl:Nat->Addr):Sp:=fun vs H Q E=>∃(H0:Hp) (fa d1 d2:Addr) (p:Str) (pa:Addr) (m1:bh) (m2:ba) (parts:bH),vs=[.ref fa,.str p,.ref pa]/\aH H0 H/\H0 d1=none/\H0 d2=none /\
 dg K H CF fa d1 d2 m1 m2/\okW p/\fc K H0 CF pa parts/\qu parts/\m1.length<=100/\m2.length<=100/\zu K CF cl H0 fa d1 d2 Q E (jQ parts m1 m2 p)
theorem nI{H0 H3:Hp}{d:Addr}{kv:List (Key × V)}(hd:H0 d=some (.dK kv))(old:∀b u,H0 b=some u->b≠d->H3 b=some u):aH H0 (upd H3 d (.dK kv)):=fun b u hb=>by
 by_cases e:b=d
 ·rw [e] at hb ⊢
  rw [hd] at hb
  cases hb
  exact ac
 ·rw [am e]
  exact old b u hb e
theorem eV.frz{K:W.Frag}{H:Hp}{CF fa d1 d2 dx:Addr}{fs:List (Str × V)}{kv1 kv2:List (Key × V)}{m1:bh}{m2:ba}{d:Addr}{u:HO}(F:eV K H CF fa d1 d2 dx fs kv1 kv2 m1 m2)(n1:d≠d1)(n2:d≠d2)(n3:fa≠d)(kp:∀b xs,SqT K H b xs->SqT K (upd H d u) b xs)(kq:∀b xs,H b=some (.tup xs)->upd H d u b=some (.tup xs)) :
  eV K (upd H d u) CF fa d1 d2 dx fs kv1 kv2 m1 m2 :=
 ⟨by rw [am n3];exact F.obj,F.fk,F.ff,by rw [am (Ne.symm n1)];exact F.h1,by rw [am (Ne.symm n2)];exact F.h2,F.p1.imp fun _ _ t=>bq kp t,F.p2.imp fun _ _ t=>t.keep kp kq,F.nh,F.np,F.ne⟩
theorem eV.same{K:W.Frag}{H H':Hp}{CF fa d1 d2 dx:Addr}{fs:List (Str × V)}{kv1 kv2:List (Key × V)}{m1:bh}{m2:ba}(F:eV K H CF fa d1 d2 dx fs kv1 kv2 m1 m2)(e:aH H H'):eV K H' CF fa d1 d2 dx fs kv1 kv2 m1 m2 :=
 ⟨e _ _ F.obj,F.fk,F.ff,e _ _ F.h1,e _ _ F.h2,F.p1.imp fun _ _ t=>t.same e,F.p2.imp fun _ _ t=>t.keep (fun _ _ t=>e.tup t) (fun _ _ t=>e _ _ t),F.nh,F.np,F.ne⟩
theorem cN:aJ toN toP (aj aX):=⟨rfl,rfl,rfl,by decide +kernel,rfl,by decide +kernel,by decide +kernel⟩
theorem to1{f fg CF CW:Addr}{fdg:FuncData}(GA:aV P w K mg base (CX1 P w) 1 fg fdg aoP (lZ CW))(bA:aL K fdg aoP [])(kA:W.keepIn K (.ref fg)=true) (mA:mg "add_once"=some (.ref fg)) (cF:Cls K CF) (nK:bx K CF "kinds")
  {cdv:Value} {A:Around} {outer:List Env} {s:Shared} {H:Hp} {E:XK} (hr:cA 1 (A.deeper (PyProof.Rows.envOfC "take_opened" (aj aX) s.heap.objs.size f cdv))) :
  ∃t,PS (dI (CX1 P w) P w K mg base toN "take_opened" (aj aX) f cdv A outer s H E) ((aw aX).getD 1 (.Pass ⟨0,0,0,0⟩)) t /\
   ∀(D:fG) (H0 H1:Hp) (fa d1 d2 pa:Addr) (p:Str) (m1:bh) (m2:ba) (parts:bH) (r:bh × ba),aH H0 H->aH H0 H1->H0 d1=none->H0 d2=none->dg K H1 CF fa d1 d2 m1 m2->fc K H0 CF pa parts->look parts p=some r->m1.length<=100->r.1.length<=5->Ok1 r.1 ->
    (∀n1,aQ m1 r.1=some n1->∀(H4:Hp) (y3 y4:Option V),aH H0 H4->dg K H4 CF fa d1 d2 n1 m2->D.nx [some (.ref fa),some (.str p),some (.ref pa),y3,y4,none] H4) ->
    (aQ m1 r.1=none->∀H4:Hp,aH H0 H4->E (.ref CW) none H4) ->
    t D [some (.ref fa),some (.str p),some (.ref pa),none,none,none] H1:=by
 have hu:=fH hr
 have hr1:cA 1 _:=hr.mono (by decide)
 refine⟨_,pI (gu PassesOwn.leaving rfl (nG (cO (dc hu (pv 2) (pv 1) (fun _ _=>rfl)) rfl)) (eT rfl (aU (aY (i:=3) cN.nd rfl (Or.inl rfl)) (aU (aY (i:=4) cN.nd rfl (Or.inl rfl)) dG)))
   (@ao _ _ _ (aO (au GA hr1 rfl mA kA bA .nil wn (@aa _ _ _ _ _ (cO (pv 0) rfl) (@aa _ _ _ _ _ (pv 3) (@aa _ _ _ _ _ (pv 4) ae rfl) rfl) rfl))))),?_⟩
 intro D H0 H1 fa d1 d2 pa p m1 m2 parts r sH s1 hd1 hd2 hF hP hr' h100 hr2 hok qN qE
 obtain⟨pkv,hpa,hpk⟩:=hP
 obtain⟨dxf,fsf,kv1,kv2,F⟩:=hF
 rcases cr hpk p with ⟨_,h2⟩|⟨v,r',h1,h2,pf,rfl,dx,d,e2,fs,kvp,kvq,f1,f2,f3,f4,f5,f6,_⟩
 ·rw [hr'] at h2
  cases h2
 rw [hr'] at h2
 cases h2
 have nd1:d≠d1:=fun e=>by rw [e,hd1] at f4;cases f4
 have nd2:d≠d2:=fun e=>by rw [e,hd2] at f4;cases f4
 have nfa:∀{H3:Hp} {o:Obj},H3 fa=some (.ins CF dxf fsf)->H3 d=some (.frz o (.dK kvp))->fa≠d:=fun h1 h2 e=>by rw [e,h2] at h1;cases h1
 have hlen:kvp.length=r.1.length:=Paired.length f6
 have hnf:∀o' u',H d≠some (.frz o' u'):=fun o' u' e=>by rw [sH _ _ f4] at e;cases e
 refine⟨_,rfl,_,rfl,pa,.ref pf,rfl,h1▸eK.k (k:=.inr p) (s1 _ _ hpa),pf,CF,dx,fs,_,rfl,s1 _ _ f1,cF,nK,f2,d,kvp,rfl,s1 _ _ f4,fun o=>?_⟩
 refine kQ (fun i σ H3=>∃(y3 y4:Option V) (ni:bh) (kvi:List (Key × V)),σ=[some (.ref fa),some (.str p),some (.ref pa),y3,y4,none]/\(∀b u,H0 b=some u->b≠d->H3 b=some u)/\H3 d=some (.frz o (.dK kvp))/\eV K H3 CF fa d1 d2 dxf fsf kvi kv2 ni m2/\aQ m1 (r.1.take i)=some ni/\(∀a xs,SqT K H0 a xs->SqT K H3 a xs)) ?_ ?_ ?_ ?_
 ·have kp:∀b xs,SqT K H1 b xs->SqT K (upd H1 d (.frz o (.dK kvp))) b xs:=fun b xs h=>gB (s1 _ _ f4) h
  have n3:fa≠d:=fun e=>by have:=F.obj;rw [e,s1 _ _ f4] at this;cases this
  exact⟨none,none,m1,kv1,rfl,fun b u hb nb=>by rw [am nb];exact s1 _ _ hb,ac,F.frz nd1 nd2 n3 kp (fun b xs h=>by rw [am (fun e=>by rw [e,s1 _ _ f4] at h;cases h)];exact h),rfl,fun a xs h=>kp a xs (s1.tup h)⟩
 ·rintro i σ H3 _ ⟨_,_,_,_,_,_,h,_⟩
  exact h
 ·rintro i pp a σ H3 hp ha ⟨y3,y4,ni,kvi,rfl,old,hd3,F3,hni,keep⟩
  obtain⟨⟨z,k⟩,hq,ez,hkz⟩:=cz f6 hp
  obtain⟨pk,pw⟩:=pp
  replace ez:pk=.inr z:=ez
  replace hkz:bJ K H0 pw k:=hkz
  subst ez
  have hi:i < r.1.length:=(List.getElem?_eq_some_iff.mp hq).1
  have ea:=ad ha (.tup [kV (.inr z),pw])
  have F4:=F3.same ea
  have hkl:kvi.length=ni.length:=Paired.length F3.p1
  have hnl:=gq _ _ _ hni
  rw [List.length_take] at hnl
  have hw:okW z:=(hok (z,k) (List.mem_of_getElem? hq)).1
  have hin:=tM F4.p1 z
  refine⟨a,_,rfl,SqT.of ac,rfl,_,_,rfl,_,_,rfl,rfl,?_⟩
  have hd4:=ea _ _ hd3
  refine⟨_,rfl,fa,CF,dxf,fsf,_,rfl,F4.obj,cF,nK,F4.fk,_,rfl,_,rfl,d1,z,pw,kvi,rfl,hw,F4.h1,by omega,?_⟩
  by_cases c:z∈ni.map (·.1)
  ·refine .inl ⟨by rw [hin];exact decide_eq_true c,d,o,.dK kvp,hd4,hnf,qE (iI hni hq c) _ (nI f4 fun b u hb nb=>ea _ _ (old b u hb nb))⟩
  ·refine .inr ⟨by rw [hin];exact decide_eq_false c,?_⟩
   have kp5:∀b xs,SqT K (upd H3 a (.tup [kV (.inr z),pw])) b xs->SqT K (upd (upd H3 a (.tup [kV (.inr z),pw])) d1 (.dK (bi kvi (.inr z) pw))) b xs:=fun b xs h=>gB F4.h1 h
   refine⟨_,_,ni++[(z,k)],_,rfl,fun b u hb nb=>?_,?_,F4.put1 c (bq (fun b xs t=>ea.tup (keep b xs t)) hkz),iC hni hq c,fun b xs t=>kp5 b xs (ea.tup (keep b xs t))⟩
   ·rw [am (fun e=>by rw [e,hd1] at hb;cases hb)]
    exact ea _ _ (old b u hb nb)
   ·rw [am nd1]
    exact hd4
 ·rintro σ H3 ⟨y3,y4,ni,kvi,rfl,old,hd3,F3,hni,keep⟩
  rw [hlen,List.take_length] at hni
  exact⟨d,o,.dK kvp,hd3,hnf,qN ni hni _ y3 y4 (nI f4 old) ⟨_,_,_,_,F3.frz nd1 nd2 (nfa F3.obj hd3) (fun b xs h=>ue hd3 h) (fun b xs h=>by rw [am (fun e=>by rw [e,hd3] at h;cases h)];exact h)⟩⟩
theorem to2{f fg CF CW:Addr}{fdg:FuncData}(GA:aV P w K mg base (CX1 P w) 1 fg fdg aoP (lZ CW))(bA:aL K fdg aoP [])(kA:W.keepIn K (.ref fg)=true) (mA:mg "add_once"=some (.ref fg)) (cF:Cls K CF) (nK:bx K CF "funs")
  {cdv:Value} {A:Around} {outer:List Env} {s:Shared} {H:Hp} {E:XK} (hr:cA 1 (A.deeper (PyProof.Rows.envOfC "take_opened" (aj aX) s.heap.objs.size f cdv))) :
  ∃t,PS (dI (CX1 P w) P w K mg base toN "take_opened" (aj aX) f cdv A outer s H E) ((aw aX).getD 2 (.Pass ⟨0,0,0,0⟩)) t /\
   ∀(D:fG) (H0 H1:Hp) (fa d1 d2 pa:Addr) (p:Str) (m1:bh) (m2:ba) (parts:bH) (r:bh × ba) (z3 z4:Option V),aH H0 H->aH H0 H1->H0 d1=none->H0 d2=none->dg K H1 CF fa d1 d2 m1 m2->fc K H0 CF pa parts->look parts p=some r->m2.length<=100->r.2.length<=5->Ok2 r.2 ->
    (∀n2,aQ m2 r.2=some n2->∀(H4:Hp) (y3 y5:Option V),aH H0 H4->dg K H4 CF fa d1 d2 m1 n2->D.nx [some (.ref fa),some (.str p),some (.ref pa),y3,z4,y5] H4) ->
    (aQ m2 r.2=none->∀H4:Hp,aH H0 H4->E (.ref CW) none H4) ->
    t D [some (.ref fa),some (.str p),some (.ref pa),z3,z4,none] H1:=by
 have hu:=fH hr
 have hr1:cA 1 _:=hr.mono (by decide)
 refine⟨_,pI (gu PassesOwn.leaving rfl (nG (cO (dc hu (pv 2) (pv 1) (fun _ _=>rfl)) rfl)) (eT rfl (aU (aY (i:=3) cN.nd rfl (Or.inl rfl)) (aU (aY (i:=5) cN.nd rfl (Or.inl rfl)) dG)))
   (@ao _ _ _ (aO (au GA hr1 rfl mA kA bA .nil wn (@aa _ _ _ _ _ (cO (pv 0) rfl) (@aa _ _ _ _ _ (pv 3) (@aa _ _ _ _ _ (pv 5) ae rfl) rfl) rfl))))),?_⟩
 intro D H0 H1 fa d1 d2 pa p m1 m2 parts r z3 z4 sH s1 hd1 hd2 hF hP hr' h100 hr2 hok qN qE
 obtain⟨pkv,hpa,hpk⟩:=hP
 obtain⟨dxf,fsf,kv1,kv2,F⟩:=hF
 rcases cr hpk p with ⟨_,h2⟩|⟨v,r',h1,h2,pf,rfl,dx,e1,d,fs,kvq,kvp,f1,f3,f2,f5,f4,_,f6,_⟩
 ·rw [hr'] at h2
  cases h2
 rw [hr'] at h2
 cases h2
 have nd1:d≠d1:=fun e=>by rw [e,hd1] at f4;cases f4
 have nd2:d≠d2:=fun e=>by rw [e,hd2] at f4;cases f4
 have nfa:∀{H3:Hp} {o:Obj},H3 fa=some (.ins CF dxf fsf)->H3 d=some (.frz o (.dK kvp))->fa≠d:=fun h1 h2 e=>by rw [e,h2] at h1;cases h1
 have hlen:kvp.length=r.2.length:=Paired.length f6
 have hnf:∀o' u',H d≠some (.frz o' u'):=fun o' u' e=>by rw [sH _ _ f4] at e;cases e
 refine⟨_,rfl,_,rfl,pa,.ref pf,rfl,h1▸eK.k (k:=.inr p) (s1 _ _ hpa),pf,CF,dx,fs,_,rfl,s1 _ _ f1,cF,nK,f2,d,kvp,rfl,s1 _ _ f4,fun o=>?_⟩
 refine kQ (fun i σ H3=>∃(y3 y5:Option V) (ni:ba) (kvi:List (Key × V)),σ=[some (.ref fa),some (.str p),some (.ref pa),y3,z4,y5]/\(∀b u,H0 b=some u->b≠d->H3 b=some u)/\H3 d=some (.frz o (.dK kvp))/\eV K H3 CF fa d1 d2 dxf fsf kv1 kvi m1 ni/\aQ m2 (r.2.take i)=some ni/\(∀a xs,SqT K H0 a xs->SqT K H3 a xs)) ?_ ?_ ?_ ?_
 ·have kp:∀b xs,SqT K H1 b xs->SqT K (upd H1 d (.frz o (.dK kvp))) b xs:=fun b xs h=>gB (s1 _ _ f4) h
  have n3:fa≠d:=fun e=>by have:=F.obj;rw [e,s1 _ _ f4] at this;cases this
  exact⟨z3,none,m2,kv2,rfl,fun b u hb nb=>by rw [am nb];exact s1 _ _ hb,ac,F.frz nd1 nd2 n3 kp (fun b xs h=>by rw [am (fun e=>by rw [e,s1 _ _ f4] at h;cases h)];exact h),rfl,fun a xs h=>kp a xs (s1.tup h)⟩
 ·rintro i σ H3 _ ⟨_,_,_,_,_,_,h,_⟩
  exact h
 ·rintro i pp a σ H3 hp ha ⟨y3,y5,ni,kvi,rfl,old,hd3,F3,hni,keep⟩
  obtain⟨⟨z,k⟩,hq,ez,hkz⟩:=cz f6 hp
  obtain⟨pk,pw⟩:=pp
  replace ez:pk=.inr z:=ez
  replace hkz:cY K H0 pw k:=hkz
  subst ez
  have hi:i < r.2.length:=(List.getElem?_eq_some_iff.mp hq).1
  have ea:=ad ha (.tup [kV (.inr z),pw])
  have F4:=F3.same ea
  have hkl:kvi.length=ni.length:=Paired.length F3.p2
  have hnl:=gq _ _ _ hni
  rw [List.length_take] at hnl
  have hw:okW z:=(hok (z,k) (List.mem_of_getElem? hq)).1
  have hin:=tM F4.p2 z
  refine⟨a,_,rfl,SqT.of ac,rfl,_,_,rfl,_,_,rfl,rfl,?_⟩
  have hd4:=ea _ _ hd3
  refine⟨_,rfl,fa,CF,dxf,fsf,_,rfl,F4.obj,cF,nK,F4.ff,_,rfl,_,rfl,d2,z,pw,kvi,rfl,hw,F4.h2,by omega,?_⟩
  by_cases c:z∈ni.map (·.1)
  ·refine .inl ⟨by rw [hin];exact decide_eq_true c,d,o,.dK kvp,hd4,hnf,qE (iI hni hq c) _ (nI f4 fun b u hb nb=>ea _ _ (old b u hb nb))⟩
  ·refine .inr ⟨by rw [hin];exact decide_eq_false c,?_⟩
   have kp5:∀b xs,SqT K (upd H3 a (.tup [kV (.inr z),pw])) b xs->SqT K (upd (upd H3 a (.tup [kV (.inr z),pw])) d2 (.dK (bi kvi (.inr z) pw))) b xs:=fun b xs h=>gB F4.h2 h
   refine⟨_,_,ni++[(z,k)],_,rfl,fun b u hb nb=>?_,?_,F4.put2 c (hkz.keep (fun b xs t=>ea.tup (keep b xs t)) (fun b xs t=>ea _ _ (old b _ t (fun e=>by rw [e,f4] at t;cases t)))),iC hni hq c,fun b xs t=>kp5 b xs (ea.tup (keep b xs t))⟩
   ·rw [am (fun e=>by rw [e,hd2] at hb;cases hb)]
    exact ea _ _ (old b u hb nb)
   ·rw [am nd2]
    exact hd4
 ·rintro σ H3 ⟨y3,y5,ni,kvi,rfl,old,hd3,F3,hni,keep⟩
  rw [hlen,List.take_length] at hni
  exact⟨d,o,.dK kvp,hd3,hnf,qN ni hni _ y3 y5 (nI f4 old) ⟨_,_,_,_,F3.frz nd1 nd2 (nfa F3.obj hd3) (fun b xs h=>ue hd3 h) (fun b xs h=>by rw [am (fun e=>by rw [e,hd3] at h;cases h)];exact h)⟩⟩
theorem jL{f fg CF:Addr}{cl:Nat->Addr}{fd fdg:FuncData} (F:Fun K "take_opened" "take_opened" aX f fd) (GA:aV P w K mg base (CX1 P w) 1 fg fdg aoP (lZ (cl 0))) (bA:aL K fdg aoP []) (kA:W.keepIn K (.ref fg)=true) (mA:mg "add_once"=some (.ref fg)) (cF:Cls K CF) (nK:bx K CF "kinds") (nF:bx K CF "funs")
  (mM:mg "NoName"=some (.ref (cl 1))) (xM:W.excIn K (cl 1) iM "ValueError.__new__"=true):aV P w K mg base (CX1 P w) 2 f fd toP (gy K CF cl):=by
 refine F.okX cN (fun vs H Q E h=>?_) (fun cdv A outer s H vs Q E hr h=>?_)
 ·obtain⟨H0,fa,d1,d2,p,pa,m1,m2,parts,rfl,_⟩:=h
  rfl
 obtain⟨H0,fa,d1,d2,p,pa,m1,m2,parts,rfl,s0,hd1,hd2,hF,hp,hP,hok,l1,l2,hR⟩:=h
 have hu:=fH hr
 have lz:p.length<=100000:=Nat.le_trans hp.2 (by decide)
 have zz:p.length<=sizeLine:=Nat.le_trans lz (by decide)
 obtain⟨t1,e1,k1⟩:=to1 (f:=f) (H:=H) (E:=E) GA bA kA mA cF nK hr
 obtain⟨t2,e2,k2⟩:=to2 (f:=f) (H:=H) (E:=E) GA bA kA mA cF nF hr
 refine⟨_,@ah _ _ _ _ _ (bc (fN (eC hu (pv 1) (pv 2)) (by with_unfolding_all rfl))
   (@ao _ _ _ (bE rfl mM xM (@aa _ _ _ _ _ (cI (az ai (az (dN (pv 1)) (az ai dW))) (by decide)) ae rfl))) aI)
  (@ah _ _ _ _ _ e1 (@ao _ _ _ e2)),?_⟩
 have hP':=hP
 obtain⟨pkv,hpa,hpk⟩:=hP'
 refine⟨_,rfl,_,rfl,pa,_,rfl,eK.k (k:=.inr p) (s0 _ _ hpa),_,rfl,?_⟩
 rcases cr hpk p with ⟨h1,h2⟩|⟨v,r,h1,h2,_⟩
 ·rw [h1]
  have hE:E (.ref (cl 1)) none H:=by
   unfold jQ at hR
   simp only [h2] at hR
   exact hR H s0
  exact dZ ⟨_,rfl,by decide +kernel,_,rfl,.inl ⟨p,rfl,zz,p,rfl,Nat.le_trans lz (by decide),_,rfl,by decide +kernel,fun z3 hz3=>⟨(szQ 1),hE⟩⟩⟩
 ·rw [h1]
  obtain⟨o1,o2,r1,r2,_⟩:=hok _ (cK h2)
  refine ce (k1 _ H0 H fa d1 d2 pa p m1 m2 parts r s0 s0 hd1 hd2 hF hP h2 l1 r1 o1 (fun n1 a1 H4 y3 y4 s4 F4=>?_) (fun a1 H4 s4=>?_))
  ·refine k2 _ H0 H4 fa d1 d2 pa p n1 m2 parts r y3 y4 s0 s4 hd1 hd2 F4 hP h2 l2 r2 o2 (fun n2 a2 H5 y3' y5 s5 F5=>?_) (fun a2 H5 s5=>?_)
   ·unfold jQ at hR
    simp only [h2,a1,a2] at hR
    exact hR H5 s5 F5
   ·unfold jQ at hR
    simp only [h2,a1,a2] at hR
    exact hR H5 s5
  ·unfold jQ at hR
   simp only [h2,a1] at hR
   exact hR H4 s4
theorem qy{X:Cx}{e:Expr}{f:Str}{pos:Pos}{ta:TE}{K:W.Frag}(hK:X.K=K)(he:PE X e ta)(hb:attributeBase e f X.env (eval e X.env)=eval e X.env):PE X (.Attribute e f pos) (zC K ta f):=by
 subst hK
 exact cO he hb
theorem uA{T:Str × Str->Option Kd}{M:Int}{k:Kd}(h:∃n∈Kd.names k,T n=none):cR T M k=.no 2:=if_pos h
theorem ui{T:Str × Str->Option Kd}{M:Int}{k:Kd}(h:∀n∈Kd.names k,T n≠none)(c:((Kd.put T k).words:Int) > M):cR T M k=.no 3:=by
 unfold cR
 rw [if_neg (fun⟨n,hn,e⟩=>h n hn e),if_pos c]
theorem qA{T:Str × Str->Option Kd}{M:Int}{k:Kd}(h:∀n∈Kd.names k,T n≠none)(c:¬((Kd.put T k).words:Int) > M):cR T M k=.ok (Kd.put T k):=by
 unfold cR
 rw [if_neg (fun⟨n,hn,e⟩=>h n hn e),if_neg c]
theorem dO{T:Str × Str->Option Kd}{M:Int}{k k':Kd}(h:cR T M k=.ok k'):k'=Kd.put T k/\(k'.words:Int)<=M:=by
 unfold cR at h
 by_cases c1:∃n∈Kd.names k,T n=none
 ·rw [if_pos c1] at h
  cases h
 ·rw [if_neg c1] at h
  by_cases c2:((Kd.put T k).words:Int) > M
  ·rw [if_pos c2] at h
   cases h
  ·rw [if_neg c2] at h
   injection h with h
   subst h
   exact⟨rfl,by omega⟩
def NrR(cl:Nat->Addr)(K:W.Frag)(H:Hp)(Q:VK)(E:XK):Nr->Prop
 |.no c=>∀H',aH H H'->E (.ref (cl c)) none H'
 |.ok k'=>∀H',aH H H'->∀v,bJ K H' v k'->Q v H'
theorem NrR.two{cl:Nat->Addr}{K:W.Frag}{H:Hp}{Q:VK}{E:XK}{T:Str × Str->Option Kd}{M:Int}{k:Kd}(h:NrR cl K H Q E (cR T M k))(H':Hp)(s:aH H H')(e:∃n∈Kd.names k,T n=none):E (.ref (cl 2)) none H':=by
 rw [uA e] at h
 exact h H' s
theorem NrR.rest{cl:Nat->Addr}{K:W.Frag}{H:Hp}{Q:VK}{E:XK}{T:Str × Str->Option Kd}{M:Int}{k:Kd}(h:NrR cl K H Q E (cR T M k))(e:∀n∈Kd.names k,T n≠none)(H':Hp)(s:aH H H'):if ((Kd.put T k).words:Int) > M then E (.ref (cl 3)) none H' else ∀v,bJ K H' v (Kd.put T k)->Q v H':=by
 by_cases c:((Kd.put T k).words:Int) > M
 ·rw [if_pos c]
  rw [ui e c] at h
  exact h H' s
 ·rw [if_neg c]
  rw [qA e c] at h
  exact h H' s
theorem rS{k:Kd}(h:ItK k):k.words<=900:=by
 have:=cm k
 have:=h.2.1
 omega
theorem qS{k:Kd}(h:ItK k):Kd.depth k<=40:=by
 have:=el k
 have:=h.2.1
 omega
theorem gY(T:Str × Str->Option Kd)(M:Int)(b:List Kd):∀{a la:List Kd},bn T M a=.ok la->bn T M (a++b)=match bn T M b with
  |.no c=>.no c
  |.ok lb=>.ok (la++lb)
 |[],la,h=>by
  cases h
  show bn T M b=_
  cases bn T M b<;>rfl
 |k::a,la,h=>by
  unfold bn at h
  show(match cR T M k with
   |.no c=>Nrs.no c
   |.ok k'=>match bn T M (a++b) with
    |.no c=>.no c
    |.ok l=>.ok (k'::l))=_
  cases hk:cR T M k with
  |no c =>
   rw [hk] at h
   cases h
  |ok k' =>
   rw [hk] at h
   cases ha:bn T M a with
   |no c =>
    rw [ha] at h
    cases h
   |ok la' =>
    rw [ha] at h
    injection h with h
    subst h
    show(match bn T M (a++b) with
     |.no c=>Nrs.no c
     |.ok l=>.ok (k'::l))=_
    rw [gY T M b ha]
    cases bn T M b<;>rfl
theorem pM(T:Str × Str->Option Kd)(M:Int)(k:Kd):bn T M [k]=match cR T M k with
  |.no c=>.no c
  |.ok k'=>.ok [k']:=by
 unfold bn
 cases cR T M k<;>rfl
theorem kg{T:Str × Str->Option Kd}{M:Int}{ks ls:List Kd}{i c:Nat}{k:Kd}(h:bn T M (ks.take i)=.ok ls)(hk:ks[i]?=some k)(hn:cR T M k=.no c):bn T M ks=.no c:=by
 obtain⟨hi,e⟩:=(List.getElem?_eq_some_iff.mp hk)
 have:ks=ks.take i++k::ks.drop (i+1):=by
  rw [<-e,List.getElem_cons_drop,List.take_append_drop]
 rw [this,gY T M _ h]
 unfold bn
 rw [hn]
theorem iP{T:Str × Str->Option Kd}{M:Int}{ks ls:List Kd}{i:Nat}{k k':Kd}(h:bn T M (ks.take i)=.ok ls)(hk:ks[i]?=some k)(hn:cR T M k=.ok k'):bn T M (ks.take (i+1))=.ok (ls++[k']):=by
 rw [List.take_add_one,hk,gY T M _ h]
 show(match bn T M [k] with
  |.no c=>Nrs.no c
  |.ok lb=>.ok (ls++lb))=_
 rw [pM,hn]
abbrev tiN:List Str:=["full","item","parts","most","taken"]
abbrev tiP:List Str:=["full","item","parts","most"]
def ji(K:W.Frag)(CF:Addr)(cl:Nat->Addr):Sp:=fun vs H Q E=>∃(H0:Hp) (fa d1 d2:Addr) (v:V) (pa:Addr) (M:Int) (m1:bh) (m2:ba) (parts:bH) (it:It),vs=[.ref fa,v,.ref pa,.int M]/\aH H0 H/\H0 d1=none/\H0 d2=none /\
 dg K H CF fa d1 d2 m1 m2/\lU K H0 v it/\vN it/\fc K H0 CF pa parts/\qu parts/\Ok1 m1/\m1.length<=100/\m2.length<=100/\0<=M/\M<=60/\zu K CF cl H0 fa d1 d2 Q E (cC parts M m1 m2 it)
theorem iO:aJ tiN tiP (aj ca):=⟨rfl,rfl,rfl,by decide +kernel,rfl,by decide +kernel,by decide +kernel⟩
theorem lS{f fg fn fo CF:Addr}{dV:Value}{cl:Nat->Addr}{fd fdg fdn fdo:FuncData} (F:jR K "take_item" "take_item" ca dV f fd) (GA:aV P w K mg base (CX1 P w) 1 fg fdg aoP (lZ (cl 0))) (bA:aL K fdg aoP []) (kA:W.keepIn K (.ref fg)=true) (mA:mg "add_once"=some (.ref fg))
  (GN:aV P w K mg base (CX1 P w) 41 fn fdn ["kind","own","parts","most"] (jw K CF (cl 2) (cl 3))) (bN:aL K fdn ["kind","own","parts","most"] []) (kN:W.keepIn K (.ref fn)=true) (mN:mg "normal"=some (.ref fn))
  (GO:aV P w K mg base (CX1 P w) 2 fo fdo toP (gy K CF cl)) (bO:aL K fdo toP []) (kO:W.keepIn K (.ref fo)=true) (mO:mg "take_opened"=some (.ref fo))
  (cF:Cls K CF) (nK:bx K CF "kinds") (nF:bx K CF "funs") (mt:mg "tuple"=none):aV P w K mg base (CX1 P w) 42 f fd tiP (ji K CF cl):=by
 refine F.okX iO (fun vs H Q E h=>?_) (fun cdv A outer s H vs Q E hr h=>?_)
 ·obtain⟨H0,fa,d1,d2,v,pa,M,m1,m2,parts,it,rfl,_⟩:=h
  rfl
 obtain⟨H0,fa,d1,d2,v,pa,M,m1,m2,parts,it,rfl,s0,hd1,hd2,hF,hI,hIo,hP,hPo,ho1,l1,l2,M0,M6,hR⟩:=h
 have hu:=fH hr
 have hr1:cA 1 _:=hr.mono (by decide)
 have hr2:cA 2 _:=hr.mono (by decide)
 have hrN:cA 41 _:=hr.mono (by decide)
 refine⟨_,@ao _ _ _ (bc (aB bu (aq aG (pv 1) ag (fun _ _=>rfl)) ai (aE _))
   (@ao _ _ _ (aO (au GA hr1 rfl mA kA bA .nil cB (@aa _ _ _ _ _ (cO (pv 0) rfl) (@aa _ _ _ _ _ (aq aG (pv 1) ag (fun _ _=>rfl)) (@aa _ _ _ _ _ (au GN hrN rfl mN kN bN .nil cB (@aa _ _ _ _ _ (aq aG (pv 1) ag (fun _ _=>rfl)) (@aa _ _ _ _ _ (cO (pv 0) rfl) (@aa _ _ _ _ _ (pv 2) (@aa _ _ _ _ _ (pv 3) ae rfl) rfl) rfl) rfl)) ae rfl) rfl) rfl))))
   (@ao _ _ _ (bc (aB bu (aq aG (pv 1) ag (fun _ _=>rfl)) ai (aE _))
    (@ah _ _ _ _ _ (ay (i:=4) iO.nd rfl (Or.inl rfl) (cw cU rfl mt fQ (@aa _ _ _ _ _ (su (own:=["word","kind"]) (caps:=["full","parts","most"]) (κ:=[0,2,3]) (g:=zk K 2 (qR (fJ 0) (qR (fJ 1) yC))) ⟨rfl,by decide +kernel,by decide +kernel,rfl,rfl,(fun y hy=>by simp only [List.mem_cons,List.not_mem_nil,or_false] at hy;rcases hy with rfl|rfl|rfl<;>rfl),(fun y hy=>by simp only [List.mem_cons,List.not_mem_nil,or_false] at hy;rcases hy with rfl|rfl|rfl<;>exact⟨.inl rfl,rfl,.inl rfl⟩)⟩ rfl
      (nw (aq aG (pv 1) ag (fun _ _=>rfl))) (fun _ _ _ _ _=>eT rfl (aU (aY (i:=0) (show(["word","kind","full","parts","most"]:List Str).Nodup from by decide +kernel) rfl (Or.inl rfl)) (aU (aY (i:=1) (show(["word","kind","full","parts","most"]:List Str).Nodup from by decide +kernel) rfl (Or.inl rfl)) dG)))
      (fun _ _ _ _ _ hps=>au GN hrN rfl mN kN bN .nil hps (@aa _ _ _ _ _ (pv 1) (@aa _ _ _ _ _ (qy (K:=K) rfl (pv 2) rfl) (@aa _ _ _ _ _ (pv 3) (@aa _ _ _ _ _ (pv 4) ae rfl) rfl) rfl) rfl))) ae rfl)))
    (@ao _ _ _ (aO (au GA hr1 rfl mA kA bA .nil cB (@aa _ _ _ _ _ (cO (pv 0) rfl) (@aa _ _ _ _ _ (aq aG (pv 1) ag (fun _ _=>rfl)) (@aa _ _ _ _ _ (@ak _ _ _ _ _ (@aa _ _ _ _ _ (pv 4) (@aa _ _ _ _ _ (au GN hrN rfl mN kN bN .nil cB (@aa _ _ _ _ _ (aq aG (pv 1) ag (fun _ _=>rfl)) (@aa _ _ _ _ _ (cO (pv 0) rfl) (@aa _ _ _ _ _ (pv 2) (@aa _ _ _ _ _ (pv 3) ae rfl) rfl) rfl) rfl)) ae rfl) rfl)) ae rfl) rfl) rfl)))))
    (@ao _ _ _ (aO (au GO hr2 rfl mO kO bO .nil cB (@aa _ _ _ _ _ (pv 0) (@aa _ _ _ _ _ (aq aG (pv 1) ag (fun _ _=>rfl)) (@aa _ _ _ _ _ (pv 2) ae rfl) rfl) rfl))))))),?_⟩
 have hP':=hP
 obtain⟨pkv,hpa,hpk⟩:=hP'
 obtain⟨dx,fs,kv1,kv2,FA⟩:=hF
 have M1:M<=1000000:=by omega
 have hl1:kv1.length=m1.length:=Paired.length FA.p1
 have hl2:kv2.length=m2.length:=Paired.length FA.p2
 have hG:=sO ho1 hPo
 have PA:∀{H':Hp},aH H0 H'->eh K H' CF pkv (PGo parts):=fun e=>(uM hpk).same e
 cases it with
 |kind z k =>
  obtain⟨p,y,rfl,hp,hy⟩:=hI
  obtain⟨hz,hk⟩:=hIo
  have hp1:=s0.tup hp
  refine⟨_,rfl,_,_,_,_,rfl,rfl,hp1,(show atI [V.str "kind",.str z,y] 0=some (.str "kind") from rfl),rfl,_,rfl,dH (fun _=>?_) (fun c=>absurd (by decide +kernel) c)⟩
  refine⟨_,rfl,fa,CF,dx,fs,_,rfl,FA.obj,cF,nK,FA.fk,_,rfl,_,_,_,_,rfl,rfl,hp1,(show atI [V.str "kind",.str z,y] 1=some (.str z) from rfl),_,rfl,_,_,_,_,rfl,rfl,hp1,(show atI [V.str "kind",.str z,y] 2=some y from rfl),_,rfl,fa,CF,dx,fs,_,rfl,FA.obj,cF,nK,FA.fk,_,rfl,_,rfl,?_⟩
  have hN:NrR cl K H (fun v H'=>lZ (cl 0) [.ref d1,.str z,v] H' (fun _ H'=>Q .non H') E) E (cR (tl m1 parts) M k):=by
   unfold cC at hR
   cases hn:cR (tl m1 parts) M k with
   |no c =>
    simp only [hn] at hR
    exact fun H' s'=>hR H' (s0.trans s')
   |ok k' =>
    simp only [hn] at hR
    intro H' s' v hv
    have FB:=FA.same s'
    refine⟨d1,z,v,kv1,rfl,hz,FB.h1,by omega,?_⟩
    have hin:=tM FB.p1 z
    by_cases c:z∈m1.map (·.1)
    ·refine .inl ⟨by rw [hin];exact decide_eq_true c,?_⟩
     simp only [if_pos c] at hR
     exact hR H' (s0.trans s')
    ·refine .inr ⟨by rw [hin];exact decide_eq_false c,?_⟩
     simp only [if_neg c] at hR
     exact hR _ (jC (s0.trans s') hd1) ⟨_,_,_,_,FB.put1 c hv⟩
  exact⟨y,k,d1,pa,M,kv1,pkv,look m1,PGo parts,rfl,hy.same s0,rS hk,qS hk,dR hk.1,M0,M1,FA.h1,oo FA.p1,s0 _ _ hpa,PA s0,fun H' s' e=>hN.two H' s' e,fun e=>⟨(dE hG hk).1,fun H' s'=>hN.rest e H' s'⟩⟩
 |fn z ps k =>
  obtain⟨p,ta,y,zz,xs,rfl,hp,hta,hxs,hy⟩:=hI
  obtain⟨hz,hps,hpk',hk⟩:=hIo
  have hp1:=s0.tup hp
  have hta1:=s0.tup hta
  have hlen:xs.length=ps.length:=Paired.length hxs
  refine⟨_,rfl,_,_,_,_,rfl,rfl,hp1,(show atI [V.str "fun",.str z,.ref ta,y,zz] 0=some (.str "fun") from rfl),rfl,_,rfl,dH (fun c=>nK0 c) (fun _=>?_)⟩
  refine⟨_,rfl,_,_,_,_,rfl,rfl,hp1,(show atI [V.str "fun",.str z,.ref ta,y,zz] 0=some (.str "fun") from rfl),rfl,_,rfl,dH (fun _=>?_) (fun c=>absurd (by decide +kernel) c)⟩
  refine⟨_,rfl,_,_,_,_,rfl,rfl,hp1,(show atI [V.str "fun",.str z,.ref ta,y,zz] 2=some (.ref ta) from rfl),ta,rfl,⟨_,hta1⟩,?_⟩
  refine ud hta1 (by omega) (fun i ys H3=>ys.length<=i/\∃ls,cE K H3 ys ls/\bn (tl m1 parts) M ((ps.map (·.2)).take i)=.ok ls) ⟨Nat.le_refl _,[],.nil,rfl⟩ (fun i ys H2 h=>h.1) ?_ ?_
  ·rintro i x ys H2 N hN hx s2 ⟨hyl,ls,hls,hno⟩
   obtain⟨⟨t,g⟩,hq,p',yk,rfl,hp',hyk⟩:=cz hxs hx
   replace hp':SqT K H0 p' [.str t,yk]:=hp'
   replace hyk:bJ K H0 yk g:=hyk
   have hm:=List.mem_of_getElem? hq
   have hg:ItK g:=hpk' (t,g) hm
   have hq2:(ps.map (·.2))[i]?=some g:=by rw [List.getElem?_map,hq];rfl
   have F2:=FA.same s2
   have s02:=s0.trans s2
   refine⟨p',_,rfl,s02.tup hp',rfl,_,_,rfl,_,_,rfl,rfl,rfl,pe ?_⟩
   have hNn:NrR cl K H2 (fun v H6=>N (ys++[v]) H6) E (cR (tl m1 parts) M g):=by
    cases hn:cR (tl m1 parts) M g with
    |no c =>
     have e:=kg hno hq2 hn
     unfold cC at hR
     simp only [e] at hR
     exact fun H' s'=>hR H' (s02.trans s')
    |ok k' =>
     exact fun H' s' v hv=>hN _ _ (s2.trans s') ⟨by rw [List.length_append];show ys.length+1<=i+1;omega,_,(hls.same s').append (.cons hv .nil),iP hno hq2 hn⟩
   refine⟨_,rfl,_,rfl,fa,CF,dx,fs,_,rfl,F2.obj,cF,nK,F2.fk,_,rfl,_,rfl,?_⟩
   exact⟨yk,g,d1,pa,M,kv1,pkv,look m1,PGo parts,rfl,hyk.same s02,rS hg,qS hg,dR hg.1,M0,M1,F2.h1,oo F2.p1,s02 _ _ hpa,PA s02,fun H' s' e=>hNn.two H' s' e,fun e=>⟨(dE hG hg).1,fun H' s'=>hNn.rest e H' s'⟩⟩
  ·rintro ys H2 D s2 ⟨hyl,ls,hls,hno⟩ hD
   rw [hlen,show ps.length=(ps.map (·.2)).length from(List.length_map ..).symm,List.take_length] at hno
   have sD:=ad hD (.lst ys)
   refine⟨D,ys,rfl,.inl ⟨SqL.of ac,fun l hl=>?_⟩⟩
   have sl:=ad hl (.tup ys)
   have s3:=s2.trans (sD.trans sl)
   have F3:=FA.same s3
   have s03:=s0.trans s3
   have hp3:=s03.tup hp
   refine⟨_,rfl,fa,CF,dx,fs,_,rfl,F3.obj,cF,nF,F3.ff,_,rfl,_,_,_,_,rfl,rfl,hp3,(show atI [V.str "fun",.str z,.ref ta,y,zz] 1=some (.str z) from rfl),_,rfl,_,rfl,_,_,_,_,rfl,rfl,hp3,(show atI [V.str "fun",.str z,.ref ta,y,zz] 3=some y from rfl),_,rfl,fa,CF,dx,fs,_,rfl,F3.obj,cF,nK,F3.fk,_,rfl,_,rfl,?_⟩
   have hls3:=(hls.same sD).same sl
   have hl3:upd (upd H2 D (.lst ys)) l (.tup ys) l=some (.tup ys):=ac
   revert F3 hls3 hl3
   generalize upd (upd H2 D (.lst ys)) l (.tup ys)=B at s3 s03 ⊢
   intro F3 hls3 hl3
   have hN:NrR cl K B (fun v H'=>Wf HO.tup [.ref l,v] H' fun x H1=>lZ (cl 0) [.ref d2,.str z,x] H1 (fun _ H'=>Q .non H') E) E (cR (tl m1 parts) M k):=by
    unfold cC at hR
    simp only [hno] at hR
    cases hn:cR (tl m1 parts) M k with
    |no c =>
     simp only [hn] at hR
     exact fun H' s'=>hR H' (s03.trans s')
    |ok k' =>
     simp only [hn] at hR
     intro H' s' v hv
     refine⟨(szQ 2),fun p2 hp2=>?_⟩
     have s5:=ad hp2 (.tup [.ref l,v])
     have FB:=(F3.same s').same s5
     refine⟨d2,z,.ref p2,kv2,rfl,hz,FB.h2,by omega,?_⟩
     have hin:=tM FB.p2 z
     by_cases c:z∈m2.map (·.1)
     ·refine .inl ⟨by rw [hin];exact decide_eq_true c,?_⟩
      simp only [if_pos c] at hR
      exact hR _ (s03.trans (s'.trans s5))
     ·refine .inr ⟨by rw [hin];exact decide_eq_false c,?_⟩
      simp only [if_neg c] at hR
      exact hR _ (jC (s03.trans (s'.trans s5)) hd2) ⟨_,_,_,_,FB.put2 c ⟨p2,l,v,ys,rfl,SqT.of ac,s5 _ _ (s' _ _ hl3),(hls3.same s').same s5,hv.same s5⟩⟩
   exact⟨y,k,d1,pa,M,kv1,pkv,look m1,PGo parts,rfl,hy.same s03,rS hk,qS hk,dR hk.1,M0,M1,F3.h1,oo F3.p1,s03 _ _ hpa,PA s03,fun H' s' e=>hN.two H' s' e,fun e=>⟨(dE hG hk).1,fun H' s'=>hN.rest e H' s'⟩⟩
 |opn q =>
  obtain⟨p,rfl,hp⟩:=hI
  have hp1:=s0.tup hp
  refine⟨_,rfl,_,_,_,_,rfl,rfl,hp1,(show atI [V.str "open",.str q] 0=some (.str "open") from rfl),rfl,_,rfl,dH (fun c=>nK0 c) (fun _=>?_)⟩
  refine⟨_,rfl,_,_,_,_,rfl,rfl,hp1,(show atI [V.str "open",.str q] 0=some (.str "open") from rfl),rfl,_,rfl,dH (fun c=>nK0 c) (fun _=>?_)⟩
  refine⟨_,rfl,_,rfl,_,_,_,_,rfl,rfl,hp1,(show atI [V.str "open",.str q] 1=some (.str q) from rfl),_,rfl,?_⟩
  rw [jI] at hR
  exact⟨H0,fa,d1,d2,q,pa,m1,m2,parts,rfl,s0,hd1,hd2,⟨_,_,_,_,FA⟩,hIo,hP,hPo,l1,l2,hR⟩
end
end K53
namespace J53
open PySem L2 Kk
def top(i:Nat):Stmt:=PySem.Challenge.pw_sealhouse_k53_functions_within.main.body.getD i (.Pass ⟨0,0,0,0⟩)
abbrev sWithin:Stmt:=top 11
abbrev fA:Stmt:=top 13
abbrev cV:Stmt:=top 16
abbrev sKin:Stmt:=top 27
abbrev sVarK:Stmt:=top 28
abbrev sAnsK:Stmt:=top 29
abbrev sKbf:Stmt:=top 30
abbrev sDem:Stmt:=top 31
abbrev sLookB:Stmt:=top 34
abbrev sCell:Stmt:=top 37
abbrev sPick:Stmt:=top 38
abbrev sWord:Stmt:=top 39
abbrev sSize:Stmt:=top 40
theorem iB{n:Nat}(h:n<=30000):n<=sizeLine:=Nat.le_trans h (by decide)
theorem ad{H:Hp}{p:Addr}(h:H p=none)(o:HO):aH H (upd H p o):=fun b u q=>by rw [am (ax q h)];exact q
def gE(ks:List Kd):Nat:=(ks.map Kd.words).sum
theorem bj(k:Kd):0 < k.words:=by
 have:=dB k
 have:=dM k
 omega
theorem cJ(a b:List Kd):gE (a++b)=gE a+gE b:=by
 unfold gE
 rw [List.map_append,List.sum_append]
theorem bR(k:Kd):gE [k]=k.words:=Nat.add_zero _
theorem eP:∀ks:List Kd,ks.length<=gE ks
 |[]=>Nat.le_refl _
 |k::ks=>by
  have h1:=eP ks
  have h2:=bj k
  show ks.length+1<=k.words+gE ks
  omega
theorem snoc{K:W.Frag}{H:Hp}:∀{us:List V} {v:V} {ks:List Kd},cE K H (us++[v]) ks->∃ls k,ks=ls++[k]/\cE K H us ls/\bJ K H v k
 |[],v,_,.cons a .nil=>⟨[],_,rfl,.nil,a⟩
 |u::us,v,_,.cons a b=>by
  obtain⟨ls,k,rfl,h1,h2⟩:=snoc (us:=us) b
  exact⟨_::ls,k,rfl,.cons a h1,h2⟩
theorem gK{us:List V}{v:V}:(us++[v])[(us++[v]).length - 1]?=some v:=by simp
theorem one{K:W.Frag}{H:Hp}{v:V}{k:Kd}(h:bJ K H v k):cE K H [v] [k]:=.cons h .nil
def iE(K:W.Frag):Sp:=fun vs H Q _=>∃(x:V) (k:Kd),vs=[x]/\bJ K H x k/\k.words<=20000/\∀H',aH H H'->Q (.int k.words) H'
section
variable{P:Program}{w:World}{K:W.Frag}{mg:Str->Option Value}{base:Heap}
theorem di:aJ ["kind","words","left","here"] ["kind"] (aj fA):=⟨rfl,rfl,rfl,by decide +kernel,rfl,by decide +kernel,by decide +kernel⟩
theorem ok_words{f:Addr}{fd:FuncData} (F:Fun K "words_in" "words_in" fA f fd) (ml:mg "len"=none):aV P w K mg base CX0 1 f fd ["kind"] (iE K):=by
 refine F.ok di (fun vs H Q E h=>?_) (fun cdv A outer s H vs Q E hr h=>?_)
 ·obtain⟨x,k,rfl,_⟩:=h
  rfl
 obtain⟨x,k,rfl,hk,h9,q⟩:=h
 refine⟨_,ah (ay (i:=1) di.nd rfl (Or.inl rfl) ag)
  (ah (ay (i:=2) di.nd rfl (Or.inl rfl) (dq (aa (pv 0) ae)))
  (ah (jB PassesOwn.never (aB mh (bU aR rfl ml boot_len (aa (pv 2) ae)) ag (aE _))
   (ah (ay (i:=3) di.nd rfl (Or.inl rfl) (o9 PySem.F.plainAttrs_list PySem.F.slot_list_pop PySem.F.type_list_pop o0 (pv 2)))
   (ah (uu (i:=1) di.nd rfl (Or.inl rfl) ag uf)
   (ao (bc (aB bu (aq aG (pv 3) ag (fun _ _=>rfl)) ai (aE _))
    (ah (aO (eQ PySem.F.plainAttrs_list PySem.F.slot_list_append PySem.F.type_list_append bo (pv 2) (aa (aq aG (pv 3) ag (fun _ _=>rfl)) ae)))
    (ao (aO (eQ PySem.F.plainAttrs_list PySem.F.slot_list_append PySem.F.type_list_append bo (pv 2) (aa (aq aG (pv 3) ag (fun _ _=>rfl)) ae))))) aI)))))
  (ao (aM (pv 1))))),?_⟩
 refine⟨_,rfl,(szQ 1),fun l hl=>?_⟩
 have sL:∀o,aH H (upd H l o):=ad hl
 refine mq (fun σ H2=>∃(vs:List V) (ks:List Kd) (n:Nat) (h:Option V),σ=[some x,some (.int n),some (.ref l),h]/\H2=upd H l (.lst vs)/\cE K H vs ks/\n+gE ks=k.words)
  (fun σ _=>match σ with|[_,some (.int n),_,_]=>k.words - n.toNat|_=>0) ⟨[x],[k],0,none,rfl,rfl,one hk,by rw [bR];omega⟩ ?_ ?_
 ·rintro σ H2 ⟨vs,ks,n,h,rfl,rfl,hv,hn⟩
  refine⟨_,rfl,l,_,rfl,.inl (SqL.of ac),_,_,rfl,rfl,_,rfl,?_⟩
  refine dH (fun c=>?_) (fun c=>?_)
  ·have c':(0:Int) < (vs.length:Int):=of_decide_eq_true c
   have hne:vs≠[]:=fun e=>by rw [e] at c';exact absurd c' (by decide)
   obtain⟨us,v,rfl⟩:∃us v,vs=us++[v]:=⟨_,_,(List.dropLast_concat_getLast hne).symm⟩
   obtain⟨ls,j,rfl,hu,hj⟩:=snoc hv
   rw [cJ,bR] at hn
   have hjp:=bj j
   refine⟨_,rfl,?_,l,_,v,rfl,rfl,ac,gK,?_⟩
   ·exact .inl ⟨rfl,_,SqL.of ac⟩
   rw [d9,List.dropLast_concat]
   have hl2:=eP ls
   have hul:=hu.length
   refine⟨_,rfl,_,_,rfl,rfl,?_⟩
   have e1:((n:Int)+1)=((n+1:Nat):Int):=by omega
   cases hj with
   |@num p m t =>
    refine⟨_,rfl,_,_,_,_,rfl,rfl,(sL _).tup t,(show atI [V.str "num",.int m] 0=some (.str "num") from rfl),rfl,_,rfl,dH (fun c=>nK0 c) (fun _=>?_)⟩
    have hw:(Kd.num m).words=1:=rfl
    rw [hw] at hn
    refine⟨⟨us,ls,n+1,_,by rw [<-e1]<;>rfl,rfl,hu,by omega⟩,?_⟩
    show k.words - ((n:Int)+1).toNat < k.words - (n:Int).toNat
    omega
   |@name p q t h =>
    refine⟨_,rfl,_,_,_,_,rfl,rfl,(sL _).tup h,(show atI [V.str "name",.str q,.str t] 0=some (.str "name") from rfl),rfl,_,rfl,dH (fun c=>nK0 c) (fun _=>?_)⟩
    have hw:(Kd.name q t).words=1:=rfl
    rw [hw] at hn
    refine⟨⟨us,ls,n+1,_,by rw [<-e1]<;>rfl,rfl,hu,by omega⟩,?_⟩
    show k.words - ((n:Int)+1).toNat < k.words - (n:Int).toNat
    omega
   |@pair p y z a b t ha hb =>
    have hw:(Kd.pair a b).words=1+a.words+b.words:=rfl
    rw [hw] at hn hjp
    have h1:=bj a
    have h2:=bj b
    refine⟨_,rfl,_,_,_,_,rfl,rfl,(sL _).tup t,(show atI [V.str "pair",y,z] 0=some (.str "pair") from rfl),rfl,_,rfl,dH (fun _=>?_) (fun c=>absurd (by decide +kernel) c)⟩
    refine⟨_,rfl,.inl ⟨rfl,_,SqL.of ac⟩,_,rfl,_,_,_,_,rfl,rfl,(sL _).tup t,(show atI [V.str "pair",y,z] 1=some y from rfl),l,_,_,rfl,rfl,ac,Nat.lt_of_lt_of_le (Nat.lt_succ_self _) (iB (by omega)),?_⟩
    rw [d9]
    refine⟨_,rfl,.inl ⟨rfl,_,SqL.of ac⟩,_,rfl,_,_,_,_,rfl,rfl,(sL _).tup t,(show atI [V.str "pair",y,z] 2=some z from rfl),l,_,_,rfl,rfl,ac,Nat.lt_of_lt_of_le (Nat.lt_succ_self _) (iB (by rw [List.length_append];show us.length+1+1<=30000;omega)),?_⟩
    rw [d9]
    refine⟨⟨us++[y]++[z],ls++[a]++[b],n+1,_,by rw [<-e1]<;>rfl,rfl,(hu.append (one ha)).append (one hb),by rw [cJ,cJ,bR,bR];omega⟩,?_⟩
    show k.words - ((n:Int)+1).toNat < k.words - (n:Int).toNat
    omega
  ·have c':¬(0:Int) < (vs.length:Int):=of_decide_eq_false (Bool.eq_false_iff.mpr c)
   have hv0:vs=[]:=List.length_eq_zero_iff.mp (by omega)
   subst hv0
   cases hv
   have e:n=k.words:=hn
   subst e
   exact⟨_,rfl,q _ (sL _)⟩
 ·rintro σ H2 Q1 Q2 hq ⟨v,e1,a,xs,e2,hs,i,j,e3,e4,b,e5,h⟩
  exact⟨v,e1,a,xs,e2,hs,i,j,e3,e4,b,e5,hq _ _ h⟩
theorem jl(z:Str):PyData.strOk z=true↔∀c∈z.cps.toList,c < 0x110000:=by
 unfold PyData.strOk
 rw [Array.all_eq_true_iff_forall_mem]
 simp
theorem qz{a b:Str}(ha:PyData.strOk a=true)(hb:PyData.strOk b=true):PyData.strOk (a++b)=true:=by
 rw [jl] at *
 intro c hc
 have hc':c∈(a.cps++b.cps).toList:=hc
 rw [Array.toList_append] at hc'
 rcases List.mem_append.mp hc' with h|h
 ·exact ha c h
 ·exact hb c h
theorem qO{x:Str}(h:PyData.strOk x=true):∀(n:Nat) (acc:Array Nat),(∀c∈acc.toList,c < 0x110000)->∀c∈((List.replicate n x.cps).foldl (·++·) acc).toList,c < 0x110000
 |0,acc,ha=>ha
 |n+1,acc,ha=>by
  rw [List.replicate_succ,List.foldl_cons]
  refine qO h n _ fun c hc=>?_
  rw [Array.toList_append] at hc
  rcases List.mem_append.mp hc with q|q
  ·exact ha c q
  ·exact(jl x).mp h c q
theorem qI{x:Str}(h:PyData.strOk x=true)(n:Int):PyData.strOk (Txt.mul x n)=true:=by
 unfold Txt.mul
 split
 ·decide +kernel
 ·split
  ·exact h
  ·rw [jl]
   exact qO h _ _ (fun c hc=>by simp at hc)
theorem iu(a b:Str):(a++b).length=a.length+b.length:=by
 show Array.size (a.cps++b.cps)=_
 rw [Array.size_append]<;>rfl
theorem uJ{ns:List Int}{i:Int}(h0:0<=i)(h1:i < ns.length):∃v:Int,atI (ns.map V.int) i=some (.int v):=by
 have hk:i.toNat < List.length ns:=by omega
 have e:i=((i.toNat:Nat):Int):=by omega
 have q:atI (ns.map V.int) ((i.toNat:Nat):Int)=some (.int ns[i.toNat]):=eZ (by simp [hk])
 rw [<-e] at q
 exact⟨_,q⟩
theorem jC{H H2:Hp}{a:Addr}{o:HO}(e:aH H H2)(h:H a=none):aH H (upd H2 a o):=fun b u q=>by rw [am (ax q h)];exact e b u q
theorem vx{K:W.Frag}{H:Hp}{l a:Addr}{ys xs:List V}{o:HO}(h:H l=some (.lst ys))(t:SqT K H a xs):SqT K (upd H l o) a xs:=by
 rcases t with (t|⟨o',t⟩)|t
 ·exact .inl (.inl (by rw [am (fun e=>by rw [e,h] at t;cases t)];exact t))
 ·exact .inl (.inr ⟨o',by rw [am (fun e=>by rw [e,h] at t;cases t)];exact t⟩)
 ·exact .inr t
theorem bq{K:W.Frag}{H H':Hp}(e:∀a xs,SqT K H a xs->SqT K H' a xs):∀{x:V} {k:Kd},bJ K H x k->bJ K H' x k
 |_,_,.num h=>.num (e _ _ h)
 |_,_,.name h=>.name (e _ _ h)
 |_,_,.pair h a b=>.pair (e _ _ h) (bq e a) (bq e b)
theorem tq{K:W.Frag}{H H':Hp}{a:Addr}{xs:List V}(e:aH H H')(h:SqL K H a xs):SqL K H' a xs:=by
 rcases h with (h|⟨o,h⟩)|h
 ·exact .inl (.inl (e _ _ h))
 ·exact .inl (.inr ⟨o,e _ _ h⟩)
 ·exact .inr h
def Kd.depth:Kd->Nat
 |.num _=>1
 |.name _ _=>1
 |.pair a b=>1+max (Kd.depth a) (Kd.depth b)
def smW(z:Str):Prop:=PyData.strOk z=true/\z.length<=14
def Kd.ok:Kd->Prop
 |.num _=>True
 |.name q t=>smW q/\smW t
 |.pair a b=>Kd.ok a/\Kd.ok b
def Kd.dat:Kd->PyData
 |.num n=>.tuple [.str "num",.int n]
 |.name q t=>.tuple [.str "name",.str q,.str t]
 |.pair a b=>.tuple [.str "pair",Kd.dat a,Kd.dat b]
theorem kd_dat{K:W.Frag}{H:Hp}:∀{x:V} {k:Kd},bJ K H x k->Dat K H x (Kd.dat k)
 |_,_,.num t=>.tup t (.cons (.str _) (.cons (.int _) .nil))
 |_,_,.name t=>.tup t (.cons (.str _) (.cons (.str _) (.cons (.str _) .nil)))
 |_,_,.pair t a b=>.tup t (.cons (.str _) (.cons (kd_dat a) (.cons (kd_dat b) .nil)))
theorem eqv_tup(xs ys:List PyData):PyData.eqv (.tuple xs) (.tuple ys)=PyData.eqvAll xs ys:=by simp [PyData.eqv]
theorem uX(xs ys:List PyData):PyData.eqv (.list xs) (.list ys)=PyData.eqvAll xs ys:=by simp [PyData.eqv]
theorem eqvA_cons(x y:PyData)(xs ys:List PyData):PyData.eqvAll (x::xs) (y::ys)=(PyData.eqv x y&&PyData.eqvAll xs ys):=by simp [PyData.eqvAll]
theorem eqvA_nil:PyData.eqvAll [] []=true:=by simp [PyData.eqvAll]
theorem eqv_str(x y:Str):PyData.eqv (.str x) (.str y)=decide (x=y):=by
 rw [show PyData.eqv (.str x) (.str y)=(x==y) by simp [PyData.eqv]]
 rfl
theorem lI(x y:Int):PyData.eqv (.int x) (.int y)=decide (x=y):=by
 rw [show PyData.eqv (.int x) (.int y)=(x==y) by simp [PyData.eqv]]
 rfl
theorem eqv_dat(a:Kd):∀b:Kd,PyData.eqv (Kd.dat a) (Kd.dat b)=decide (a=b):=by
 induction a with
 |num n =>
  intro b
  cases b with
  |num m =>
   show PyData.eqv (.tuple [.str "num",.int n]) (.tuple [.str "num",.int m])=_
   rw [eqv_tup,eqvA_cons,eqvA_cons,eqvA_nil,eqv_str,lI]
   simp
  |name q t =>
   show PyData.eqv (.tuple (.str "num"::_)) (.tuple (.str "name"::_))=_
   rw [eqv_tup,eqvA_cons,eqv_str,decide_eq_false (by decide +kernel),decide_eq_false (by intro e;cases e)]
   rfl
  |pair c d =>
   show PyData.eqv (.tuple (.str "num"::_)) (.tuple (.str "pair"::_))=_
   rw [eqv_tup,eqvA_cons,eqv_str,decide_eq_false (by decide +kernel),decide_eq_false (by intro e;cases e)]
   rfl
 |name q t =>
  intro b
  cases b with
  |num m =>
   show PyData.eqv (.tuple (.str "name"::_)) (.tuple (.str "num"::_))=_
   rw [eqv_tup,eqvA_cons,eqv_str,decide_eq_false (by decide +kernel),decide_eq_false (by intro e;cases e)]
   rfl
  |name q' t' =>
   show PyData.eqv (.tuple [.str "name",.str q,.str t]) (.tuple [.str "name",.str q',.str t'])=_
   rw [eqv_tup,eqvA_cons,eqvA_cons,eqvA_cons,eqvA_nil,eqv_str,eqv_str,eqv_str]
   simp
  |pair c d =>
   show PyData.eqv (.tuple (.str "name"::_)) (.tuple (.str "pair"::_))=_
   rw [eqv_tup,eqvA_cons,eqv_str,decide_eq_false (by decide +kernel),decide_eq_false (by intro e;cases e)]
   rfl
 |pair a1 a2 h1 h2 =>
  intro b
  cases b with
  |num m =>
   show PyData.eqv (.tuple (.str "pair"::_)) (.tuple (.str "num"::_))=_
   rw [eqv_tup,eqvA_cons,eqv_str,decide_eq_false (by decide +kernel),decide_eq_false (by intro e;cases e)]
   rfl
  |name q' t' =>
   show PyData.eqv (.tuple (.str "pair"::_)) (.tuple (.str "name"::_))=_
   rw [eqv_tup,eqvA_cons,eqv_str,decide_eq_false (by decide +kernel),decide_eq_false (by intro e;cases e)]
   rfl
  |pair c d =>
   show PyData.eqv (.tuple [.str "pair",Kd.dat a1,Kd.dat a2]) (.tuple [.str "pair",Kd.dat c,Kd.dat d])=_
   rw [eqv_tup,eqvA_cons,eqvA_cons,eqvA_cons,eqvA_nil,eqv_str,h1,h2]
   simp
theorem eS:∀{k:Kd},Kd.ok k->PyData.canLay0 (Kd.dat k)=true
 |.num n,_=>by
  have h:PyData.strOk "num"=true:=by decide +kernel
  simp [Kd.dat,PyData.canLay0,PyData.canLayAll0,h]
 |.name q t,⟨h1,h2⟩=>by
  have h:PyData.strOk "name"=true:=by decide +kernel
  simp [Kd.dat,PyData.canLay0,PyData.canLayAll0,h,h1.1,h2.1]
 |.pair a b,⟨h1,h2⟩=>by
  have h:PyData.strOk "pair"=true:=by decide +kernel
  simp [Kd.dat,PyData.canLay0,PyData.canLayAll0,h,eS h1,eS h2]
theorem dF:∀k:Kd,PyData.depth (Kd.dat k)<=Kd.depth k
 |.num n=>by simp [Kd.dat,PyData.depth,PyData.depthAll,Kd.depth]
 |.name q t=>by simp [Kd.dat,PyData.depth,PyData.depthAll,Kd.depth]
 |.pair a b=>by
  have h1:=dF a
  have h2:=dF b
  simp only [Kd.dat,PyData.depth,PyData.depthAll,Kd.depth]
  omega
theorem gS{k:Kd}(h:Kd.ok k)(hd:Kd.depth k<=60):SeqAt.shaped (Kd.dat k)=true:=by
 have h1:=eS h
 have h2:=dF k
 unfold SeqAt.shaped
 rw [h1,decide_eq_true (show PyData.depth (Kd.dat k)<=64 by omega)]
 rfl
def d7(K:W.Frag)(CT:Addr):Sp:=fun vs H Q E=>∃(x:V) (k:Kd) (m:Int),vs=[x,.int m]/\bJ K H x k/\k.words<=20000/\0<=m/\m<=1000000 /\
 ∀H',aH H H'->if (k.words:Int) > m then E (.ref CT) none H' else Q x H'
theorem er:aJ ["kind","most","words"] ["kind","most"] (aj cV):=⟨rfl,rfl,rfl,by decide +kernel,rfl,by decide +kernel,by decide +kernel⟩
theorem dh{i:Int}(h0:0<=i)(h1:i<=1000000):i.natAbs.log2 < 1920:=by
 by_cases hz:i.natAbs=0
 ·rw [hz];decide
 ·refine(Nat.log2_lt hz).mpr (Nat.lt_of_le_of_lt (m:=1000000) (by omega) ?_)
  exact Nat.lt_of_lt_of_le (show 1000000 < 2 ^ 20 by decide) (Nat.pow_le_pow_right (by decide) (by decide))
theorem dm{i:Int}(h0:0<=i)(h1:i<=1000000):(Str.ofString (toString i)).length<=2000000:=by
 have:=PyProof.Rows.toString_length_le h0 (k:=7) (by decide) (Int.lt_of_le_of_lt h1 (by decide))
 omega
theorem ok_bounded{f fw CT:Addr}{fd fdw:FuncData} (F:Fun K "bounded" "bounded" cV f fd) (GW:aV P w K mg base CX0 1 fw fdw ["kind"] (iE K)) (bW:aL K fdw ["kind"] []) (kW:W.keepIn K (.ref fw)=true) (mW:mg "words_in"=some (.ref fw))
  (mT:mg "TooBig"=some (.ref CT)) (xT:W.excIn K CT iM "ValueError.__new__"=true):aV P w K mg base (CX1 P w) 2 f fd ["kind","most"] (d7 K CT):=by
 refine F.okX er (fun vs H Q E h=>?_) (fun cdv A outer s H vs Q E hr h=>?_)
 ·obtain⟨x,k,m,rfl,_⟩:=h
  rfl
 obtain⟨x,k,m,rfl,hk,h9,m0,m1,q⟩:=h
 refine⟨_,ah (ay (i:=2) er.nd rfl (Or.inl rfl) (au GW hr rfl mW kW bW .nil bQ (aa (pv 0) ae)))
  (ah (bc (aB mh (pv 2) (pv 1) (aE _))
   (ao (bE rfl mT xT (aa (cI (az ai (az (dN (pv 2)) (az ai (az (dN (pv 1)) (az ai dW))))) (by decide)) ae))) aI)
  (ao (aM (pv 0)))),?_⟩
 refine⟨_,rfl,x,k,rfl,hk,h9,fun H1 s1=>?_⟩
 have q1:=q H1 s1
 refine⟨_,rfl,_,rfl,_,_,rfl,rfl,_,rfl,?_⟩
 refine dH (fun c=>?_) (fun c=>?_)
 ·have c':(k.words:Int) > m:=of_decide_eq_true c
  rw [if_pos c'] at q1
  have l9:(0:Int)<=(k.words:Int)/\(k.words:Int)<=1000000:=⟨by omega,by omega⟩
  refine⟨_,rfl,by decide +kernel,_,rfl,.inr ⟨_,rfl,dh l9.1 l9.2,_,rfl,dm l9.1 l9.2,_,rfl,by decide +kernel,_,rfl,.inr ⟨_,rfl,dh m0 m1,_,rfl,dm m0 m1,_,rfl,by decide +kernel,fun z hz=>⟨(szQ 1),q1⟩⟩⟩⟩
 ·have c':¬(k.words:Int) > m:=fun z=>c (decide_eq_true z)
  rw [if_neg c'] at q1
  exact⟨_,rfl,q1⟩
inductive Fm where
 |lit (v n:Int)
 |op (o:Str) (n:Int)
 |test (o:Str)
 |as_ (n:Int)
 |if_
 |two
 |fst
 |snd
def Fm.vals:Fm->List V
 |.lit v n=>[.str "lit",.int v,.int n]
 |.op o n=>[.str "op",.str o,.int n]
 |.test o=>[.str "test",.str o]
 |.as_ n=>[.str "as",.int n]
 |.if_=>[.str "if"]
 |.two=>[.str "two"]
 |.fst=>[.str "first"]
 |.snd=>[.str "second"]
inductive Ex where
 |var (s:Str)
 |let_ (x:Str) (a b:Ex)
 |nd (f:Fm) (es:List Ex)
 |call (q t:Str) (es:List Ex)
mutual
def Ex.ht:Ex->Nat
 |.var _=>1
 |.let_ _ a b=>1+max a.ht b.ht
 |.nd _ es=>1+max es.length (hts es)
 |.call _ _ es=>1+max es.length (hts es)
def hts:List Ex->Nat
 |[]=>0
 |e::es=>max e.ht (hts es)
end
theorem lx:∀{es:List Ex} {e:Ex},e∈es->e.ht<=hts es
 |a::as,e,h=>by
  show _<=max a.ht (hts as)
  rcases List.mem_cons.mp h with rfl|z
  ·omega
  ·have:=lx z;omega
inductive R (α:Type) where
 |ok (a:α)
 |no (c:Nat)
def Kd.isNum:Kd->Bool
 |.num _=>true
 |_=>false
def fmK(mo:Int):Fm->List Kd->R Kd
 |.lit _ n,[]=>.ok (.num n)
 |.op _ n,ks=>if ks=[.num n,.num n] then .ok (.num n) else .no 2
 |.test _,[a,b]=>if Kd.isNum a=true/\a=b then .ok (.num 2) else .no 2
 |.as_ n,[a]=>if Kd.isNum a=true then .ok (.num n) else .no 2
 |.if_,[a,b,c]=>if a=.num 2 then (if b=c then .ok b else .no 2) else .no 2
 |.two,[a,b]=>if ((Kd.pair a b).words:Int) > mo then .no 3 else if Kd.depth (.pair a b)<=50/\(Kd.pair a b).words<=9000 then .ok (.pair a b) else .no 9
 |.fst,[.pair a _]=>.ok a
 |.fst,[_]=>.no 2
 |.snd,[.pair _ b]=>.ok b
 |.snd,[_]=>.no 2
 |_,_=>.no 9
abbrev Orc:=Str->Str->Option (List Kd × Kd)
def ansK(t:Option (List Kd × Kd))(ks:List Kd):R Kd:=match t with
 |none=>.no 0
 |some (us,k)=>if us.length=ks.length then (if us=ks then .ok k else .no 2) else .no 1
mutual
def kin(mo:Int)(C:Orc)(ρ:Str->Option Kd):Ex->R Kd
 |.var s=>match ρ s with
  |some k=>.ok k
  |none=>.no 0
 |.let_ x a b=>match kin mo C ρ a with
  |.ok k=>kin mo C (fun y=>if y=x then some k else ρ y) b
  |.no c=>.no c
 |.nd f es=>match kins mo C ρ es with
  |.ok ks=>fmK mo f ks
  |.no c=>.no c
 |.call q t es=>match kins mo C ρ es with
  |.ok ks=>ansK (C q t) ks
  |.no c=>.no c
def kins(mo:Int)(C:Orc)(ρ:Str->Option Kd):List Ex->R (List Kd)
 |[]=>.ok []
 |e::es=>match kin mo C ρ e with
  |.no c=>.no c
  |.ok k=>match kins mo C ρ es with
   |.ok ks=>.ok (k::ks)
   |.no c=>.no c
end
theorem kj{mo:Int}{C:Orc}{ρ:Str->Option Kd}{e:Ex}{k:Kd}(he:kin mo C ρ e=.ok k):∀{es:List Ex} {ks:List Kd},kins mo C ρ es=.ok ks->kins mo C ρ (es++[e])=.ok (ks++[k])
 |[],ks,h=>by
  rw [kins] at h
  cases h
  show kins mo C ρ [e]=_
  rw [kins,he,kins]
  rfl
 |a::es,ks,h=>by
  rw [kins] at h
  show kins mo C ρ (a::(es++[e]))=_
  rw [kins]
  cases h1:kin mo C ρ a with
  |no c=>rw [h1] at h;cases h
  |ok k1 =>
   rw [h1] at h
   cases h2:kins mo C ρ es with
   |no c=>rw [h2] at h;cases h
   |ok k2 =>
    rw [h2] at h
    cases h
    rw [kj he h2]
    rfl
theorem kR{mo:Int}{C:Orc}{ρ:Str->Option Kd}{e:Ex}{c:Nat}{r:List Ex}(he:kin mo C ρ e=.no c):∀{es:List Ex} {ks:List Kd},kins mo C ρ es=.ok ks->kins mo C ρ (es++e::r)=.no c
 |[],ks,h=>by
  show kins mo C ρ (e::r)=_
  rw [kins,he]
 |a::es,ks,h=>by
  rw [kins] at h
  show kins mo C ρ (a::(es++e::r))=_
  rw [kins]
  cases h1:kin mo C ρ a with
  |no c=>rw [h1] at h;cases h
  |ok k1 =>
   rw [h1] at h
   cases h2:kins mo C ρ es with
   |no c=>rw [h2] at h;cases h
   |ok k2=>rw [kR he h2]
theorem nJ{mo:Int}{C:Orc}{ρ:Str->Option Kd}:∀{es:List Ex} {ks:List Kd},kins mo C ρ es=.ok ks->ks.length=es.length
 |[],ks,h=>by rw [kins] at h;cases h;rfl
 |a::es,ks,h=>by
  rw [kins] at h
  cases h1:kin mo C ρ a with
  |no c=>rw [h1] at h;cases h
  |ok k1 =>
   rw [h1] at h
   cases h2:kins mo C ρ es with
   |no c=>rw [h2] at h;cases h
   |ok k2=>rw [h2] at h;cases h;exact congrArg (·+1) (nJ h2)
def Kd.sm(k:Kd):Prop:=Kd.ok k/\Kd.depth k<=50/\k.words<=9000
def KAt(K:W.Frag)(H:Hp)(x:V)(k:Kd):Prop:=bJ K H x k/\Kd.sm k
theorem KAt.same{K:W.Frag}{H H':Hp}(s:aH H H'){x:V}{k:Kd}(h:KAt K H x k):KAt K H' x k:=⟨h.1.same s,h.2⟩
abbrev KsAt(K:W.Frag)(H:Hp):List V->List Kd->Prop:=Paired (KAt K H)
theorem KsAt.same{K:W.Frag}{H H':Hp}(s:aH H H'){xs:List V}{ks:List Kd}(h:KsAt K H xs ks):KsAt K H' xs ks:=Paired.mapP h fun _ _ z=>z.same s
theorem depth_half:∀k:Kd,2*Kd.depth k<=k.words+1
 |.num _=>Nat.le_refl _
 |.name _ _=>Nat.le_refl _
 |.pair a b=>by
  have h1:=depth_half a
  have h2:=depth_half b
  have p1:=bj a
  have p2:=bj b
  show 2*(1+max (Kd.depth a) (Kd.depth b))<=1+a.words+b.words+1
  omega
theorem sm_shaped{k:Kd}(h:Kd.sm k):SeqAt.shaped (Kd.dat k)=true:=gS h.1 (Nat.le_trans h.2.1 (by decide))
theorem Ar{a b:Kd}(h:Kd.depth (.pair a b)<=50/\(Kd.pair a b).words<=9000):Kd.depth a<=50/\a.words<=9000:=by
 have e:(Kd.pair a b).words=1+a.words+b.words:=rfl
 simp only [Kd.depth] at h
 omega
theorem Aj{a b:Kd}(h:Kd.depth (.pair a b)<=50/\(Kd.pair a b).words<=9000):Kd.depth b<=50/\b.words<=9000:=by
 have e:(Kd.pair a b).words=1+a.words+b.words:=rfl
 simp only [Kd.depth] at h
 omega
mutual
inductive ExAt (H:Hp):V->Ex->Prop
 |var {p:Addr} {s:Str}:H p=some (.tup [.str "var",.str s])->s.length<=9000->ExAt H (.ref p) (.var s)
 |let_ {p:Addr} {s:Str} {x y:V} {a b:Ex}:H p=some (.tup [.str "let",.str s,x,y])->ExAt H x a->ExAt H y b->ExAt H (.ref p) (.let_ s a b)
 |nd {p:Addr} {f:Fm} {xs:List V} {es:List Ex}:H p=some (.tup (f.vals++xs))->ExsAt H xs es->((∃v n,f=.lit v n)->xs=[])->ExAt H (.ref p) (.nd f es)
 |call {p p2:Addr} {q t:Str} {xs:List V} {es:List Ex}:H p=some (.tup [.str "call",.str q,.str t,.ref p2])->H p2=some (.tup xs)->ExsAt H xs es->smW q/\smW t->ExAt H (.ref p) (.call q t es)
inductive ExsAt (H:Hp):List V->List Ex->Prop
 |nil:ExsAt H [] []
 |cons {x:V} {e:Ex} {xs:List V} {es:List Ex}:ExAt H x e->ExsAt H xs es->ExsAt H (x::xs) (e::es)
end
mutual
theorem ExAt.same{H H':Hp}(s:aH H H'):∀{x:V} {e:Ex},ExAt H x e->ExAt H' x e
 |_,_,.var h l=>.var (s _ _ h) l
 |_,_,.let_ h a b=>.let_ (s _ _ h) (ExAt.same s a) (ExAt.same s b)
 |_,_,.nd h r l=>.nd (s _ _ h) (ExsAt.same s r) l
 |_,_,.call h h2 r l=>.call (s _ _ h) (s _ _ h2) (ExsAt.same s r) l
theorem ExsAt.same{H H':Hp}(s:aH H H'):∀{xs:List V} {es:List Ex},ExsAt H xs es->ExsAt H' xs es
 |_,_,.nil=>.nil
 |_,_,.cons a r=>.cons (ExAt.same s a) (ExsAt.same s r)
end
theorem ExsAt.get{H:Hp}:∀{xs:List V} {es:List Ex} {i:Nat} {x:V},ExsAt H xs es->xs[i]?=some x->∃e,es[i]?=some e/\ExAt H x e
 |_,_,_,_,.nil,h=>by simp at h
 |_,_,0,_,.cons a _,h=>by simp at h;subst h;exact⟨_,rfl,a⟩
 |_,_,i+1,x,.cons _ r,h=>by
  obtain⟨e,h1,h2⟩:=ExsAt.get (i:=i) (x:=x) r (by simpa using h)
  exact⟨e,by simpa using h1,h2⟩
theorem ExsAt.length{H:Hp}:∀{xs:List V} {es:List Ex},ExsAt H xs es->xs.length=es.length
 |_,_,.nil=>rfl
 |_,_,.cons _ r=>congrArg (·+1) r.length
def oz(K:W.Frag)(H:Hp)(d:Addr)(ρ:Str->Option Kd)(m:Nat):Prop:=∃kvs,H d=some (.dK kvs)/\kvs.length<=m/\∀s,(ρ s=none/\du kvs (.inr s)=none)\/∃k u,ρ s=some k/\du kvs (.inr s)=some u/\KAt K H u k
theorem oz.same{K:W.Frag}{H H':Hp}{d:Addr}{ρ:Str->Option Kd}{m:Nat}(h:oz K H d ρ m)(s:aH H H'):oz K H' d ρ m:=by
 obtain⟨kvs,h1,h2,h3⟩:=h
 refine⟨kvs,s _ _ h1,h2,fun x=>?_⟩
 rcases h3 x with h|⟨k,u,e1,e2,e3⟩
 ·exact .inl h
 ·exact .inr ⟨k,u,e1,e2,e3.same s⟩
def Out(K:W.Frag)(cl:Nat->Addr)(r:R Kd)(H:Hp)(Q:VK)(E:XK):Prop:=match r with
 |.ok k=>∀H' u,aH H H'->KAt K H' u k->Q u H'
 |.no c=>c < 4/\∀H',aH H H'->E (.ref (cl c)) none H'
theorem Out.same{K:W.Frag}{cl:Nat->Addr}{r:R Kd}{H H1:Hp}{Q:VK}{E:XK}(h:Out K cl r H Q E)(s:aH H H1):Out K cl r H1 Q E:=by
 cases r with
 |ok k=>exact fun H' u s' hu=>h H' u (s.trans s') hu
 |no c=>exact⟨h.1,fun H' s'=>h.2 H' (s.trans s')⟩
abbrev ahs:List (Str × Int):=[("op",3),("test",2),("as",2),("let",2),("if",1),("two",1),("first",1),("second",1)]
abbrev lvV:List V:=[.str "lit",.str "var"]
theorem lY:lvV.all js=true:=by decide +kernel
theorem oS(f:Fm):∃(z:Str) (r:List V),f.vals=.str z::r/\z≠"call"/\z≠"var"/\z≠"let"/\((z="two"/\f=.two)\/(z≠"two"/\f≠.two))/\((inV (.str z) lvV=true/\∃v n,f=.lit v n)\/(inV (.str z) lvV=false/\nl ahs z=some ((r.length+1:Nat):Int))):=by
 cases f with
 |lit v n=>exact⟨_,_,rfl,by decide +kernel,by decide +kernel,by decide +kernel,.inr ⟨by decide +kernel,nofun⟩,.inl ⟨by decide +kernel,v,n,rfl⟩⟩
 |op o n=>exact⟨_,_,rfl,by decide +kernel,by decide +kernel,by decide +kernel,.inr ⟨by decide +kernel,nofun⟩,.inr ⟨by decide +kernel,rfl⟩⟩
 |test o=>exact⟨_,_,rfl,by decide +kernel,by decide +kernel,by decide +kernel,.inr ⟨by decide +kernel,nofun⟩,.inr ⟨by decide +kernel,rfl⟩⟩
 |as_ n=>exact⟨_,_,rfl,by decide +kernel,by decide +kernel,by decide +kernel,.inr ⟨by decide +kernel,nofun⟩,.inr ⟨by decide +kernel,rfl⟩⟩
 |if_=>exact⟨_,_,rfl,by decide +kernel,by decide +kernel,by decide +kernel,.inr ⟨by decide +kernel,nofun⟩,.inr ⟨by decide +kernel,by decide +kernel⟩⟩
 |two=>exact⟨_,_,rfl,by decide +kernel,by decide +kernel,by decide +kernel,.inl ⟨rfl,rfl⟩,.inr ⟨by decide +kernel,by decide +kernel⟩⟩
 |fst=>exact⟨_,_,rfl,by decide +kernel,by decide +kernel,by decide +kernel,.inr ⟨by decide +kernel,nofun⟩,.inr ⟨by decide +kernel,by decide +kernel⟩⟩
 |snd=>exact⟨_,_,rfl,by decide +kernel,by decide +kernel,by decide +kernel,.inr ⟨by decide +kernel,nofun⟩,.inr ⟨by decide +kernel,by decide +kernel⟩⟩
theorem uy{a b:Str}(h:a≠b):¬decide (V.str a=V.str b)=true:=fun z=>h (V.str.inj (of_decide_eq_true z))
theorem vE{a:Str}:decide (V.str a=V.str a)=true:=decide_eq_true rfl
theorem no_s{a b:Str}{A B:Prop}(h:a≠b)(hb:B):if decide (V.str a=V.str b)=true then A else B:=by rw [if_neg (uy h)];exact hb
theorem yes_s{a:Str}{A B:Prop}(h:A):if decide (V.str a=V.str a)=true then A else B:=by rw [if_pos vE];exact h
theorem at0{x:V}{xs:List V}:atI (x::xs) 0=some x:=(eZ (j:=0) rfl:atI (x::xs) ((0:Nat):Int)=_)
theorem at1{x y:V}{xs:List V}:atI (x::y::xs) 1=some y:=(eZ (j:=1) rfl:atI (x::y::xs) ((1:Nat):Int)=_)
theorem at2{x y z:V}{xs:List V}:atI (x::y::z::xs) 2=some z:=(eZ (j:=2) rfl:atI (x::y::z::xs) ((2:Nat):Int)=_)
theorem at3{x y z u:V}{xs:List V}:atI (x::y::z::u::xs) 3=some u:=(eZ (j:=3) rfl:atI (x::y::z::u::xs) ((3:Nat):Int)=_)
theorem tJ(xs:List V)(k:Nat):nE xs (some (k:Int)) none=xs.drop k:=by
 unfold nE
 rw [HT.sIx_nat,HT.sIx_none]
 by_cases h:k<=xs.length
 ·rw [Nat.min_eq_left h,List.take_of_length_le (by rw [List.length_drop];omega)]
 ·rw [Nat.min_eq_right (by omega),List.drop_length,List.drop_eq_nil_of_le (by omega),List.take_nil]
theorem qG{n k:Nat}(h:1<=k)(hn:1<=n):¬(HT.sIx n 0 (some (k:Int))=0/\HT.sIx n n none=n):=fun z=>by
 have:=z.1
 rw [HT.sIx_nat] at this
 omega
def nk:Sp:=fun vs H Q _=>∃(x:V) (xs:List V),vs=[x]/\((∃(p:Addr) (f:Fm),x=.ref p/\H p=some (.tup (f.vals++xs))/\((∃v n,f=.lit v n)->xs=[]))\/∃(p p2:Addr) (q t:Str),x=.ref p/\H p=some (.tup [.str "call",.str q,.str t,.ref p2])/\H p2=some (.tup xs))/\∀H' (r:Addr),aH H H'->H' r=some (.tup xs)->Q (.ref r) H'
theorem nz:aJ ["expression","form"] ["expression"] (aj sWithin):=⟨rfl,rfl,rfl,by decide +kernel,rfl,by decide +kernel,by decide +kernel⟩
theorem ok_within{f pA:Addr}{fd:FuncData} (F:Fun K "within" "within" sWithin f fd) (mA:mg "AHEAD"=some (.ref pA)) (hA:DKt K w pA ahs):aV P w K mg base CX0 1 f fd ["expression"] nk:=by
 refine F.ok nz (fun vs H Q E h=>?_) (fun cdv A outer s H vs Q E hr h=>?_)
 ·obtain⟨x,xs,rfl,_⟩:=h
  rfl
 obtain⟨x,xs,rfl,hx,q⟩:=h
 refine⟨_,ah (ay (i:=1) nz.nd rfl (Or.inl rfl) (aq aG (pv 0) ag (fun _ _=>rfl)))
  (ah (bc (aB qt (pv 1) (ak (aa ai (aa ai ae))) (by with_unfolding_all rfl)) (ao (aM (ak ae))) aI)
  (ah (bc (aB bu (pv 1) ai (aE _)) (ao (aM (aq aG (pv 0) ag (fun _ _=>rfl)))) aI)
  (ao (aM (jy xQ (pv 0) (lK (sM (vf rfl mA (v:=.ref pA) rfl) (pv 1) (fun _ _=>rfl))) lF))))),?_⟩
 rcases hx with ⟨p,fm,rfl,hp,hlit⟩|⟨p,p2,a,t,rfl,hp,hp2⟩
 ·obtain⟨z,r,e1,e3,_,_,_,e4⟩:=oS fm
  rw [e1] at hp
  refine⟨_,rfl,p,_,_,.str z,rfl,rfl,SqT.of hp,?_,_,rfl,(szQ 2),fun p3 hp3=>?_⟩
  ·exact(eZ (j:=0) rfl:atI (V.str z::(r++xs)) ((0:Nat):Int)=_)
  have s3:=ad hp3 (.tup lvV)
  rcases e4 with ⟨e4,e5⟩|⟨e4,e5⟩
  ·refine⟨p3,lvV,rfl,.inr (SqT.of ac),rfl,lY,_,rfl,dH (fun c=>?_) (fun c=>absurd e4 c)⟩
   cases hlit e5
   exact⟨(szQ 0),fun p5 hp5=>q _ p5 (s3.trans (ad hp5 _)) ac⟩
  ·refine⟨p3,lvV,rfl,.inr (SqT.of ac),rfl,lY,_,rfl,dH (fun c=>absurd c (by rw [e4];decide)) (fun _=>?_)⟩
   refine⟨_,rfl,rfl,_,rfl,dH (fun c=>absurd c (uy e3)) (fun _=>?_)⟩
   refine⟨_,rfl,_,rfl,pA,ahs,z,_,rfl,hA,rfl,e5,_,rfl,p,_,rfl,SqT.of (s3 _ _ hp),qG (by omega) (by simp),fun p5 hp5=>?_⟩
   have e6:nE (V.str z::r++xs) (some ((r.length+1:Nat):Int)) none=xs:=by
    rw [tJ]
    simp
   have h5:∀Hq:Hp,(upd Hq p5 (.tup (nE (V.str z::r++xs) (some ((r.length+1:Nat):Int)) none))) p5=some (.tup xs):=fun Hq=>by rw [ac,e6]
   exact q _ p5 (s3.trans (ad hp5 _)) (h5 _)
 ·refine⟨_,rfl,p,_,_,.str "call",rfl,rfl,SqT.of hp,rfl,_,rfl,(szQ 2),fun p3 hp3=>?_⟩
  have s3:=ad hp3 (.tup lvV)
  refine⟨p3,lvV,rfl,.inr (SqT.of ac),rfl,lY,_,rfl,dH (fun c=>nK0 c) (fun _=>?_)⟩
  refine⟨_,rfl,rfl,_,rfl,dH (fun _=>?_) (fun c=>absurd (by decide +kernel) c)⟩
  exact⟨_,rfl,p,_,_,.ref p2,rfl,rfl,SqT.of (s3 _ _ hp),rfl,q _ _ s3 (s3 _ _ hp2)⟩
end
def ToldAt(K:W.Frag)(H:Hp)(u:V)(us:List Kd)(k:Kd):Prop:=∃p tk vs x,u=.ref p/\SqT K H p [.ref tk,x]/\H tk=some (.tup vs)/\KsAt K H vs us/\KAt K H x k/\us.length<=100
theorem ToldAt.same{K:W.Frag}{H H':Hp}(s:aH H H'){u:V}{us:List Kd}{k:Kd}(h:ToldAt K H u us k):ToldAt K H' u us k:=by
 obtain⟨p,tk,vs,x,e,h1,h2,h3,h4,h5⟩:=h
 exact⟨p,tk,vs,x,e,s.tup h1,s _ _ h2,h3.same s,h4.same s,h5⟩
def tP(C:Addr):Sp:=fun vs H Q E=>∃(b:Bool) (z:Str),vs=[.bl b,.str z]/\z.length<=10000/\if b=true then Q .non H else E (.ref C) none H
def uh(K:W.Frag)(cl:Nat->Addr):Sp:=fun vs H Q E=>∃(s:Str) (d:Addr) (ρ:Str->Option Kd) (m:Nat),vs=[.str s,.ref d]/\oz K H d ρ m/\s.length<=9000/\Out K cl (match ρ s with|some k=>.ok k|none=>.no 0) H Q E
def uq(K:W.Frag)(cl:Nat->Addr):Sp:=fun vs H Q E=>∃(z:Str) (u:V) (l:Addr) (us ks:List Kd) (k:Kd) (xs:List V),vs=[.str z,u,.ref l]/\z.length<=9000/\ToldAt K H u us k/\H l=some (.lst xs)/\KsAt K H xs ks/\ks.length<=600/\Out K cl (ansK (some (us,k)) ks) H Q E
def wv(K:W.Frag)(cl:Nat->Addr):Sp:=fun vs H Q E=>∃(p l:Addr) (f:Fm) (xs us:List V) (ks:List Kd),vs=[.ref p,.ref l]/\H p=some (.tup (f.vals++xs))/\H l=some (.lst us)/\KsAt K H us ks/\ks.length<=600/\f≠.two/\Out K cl (fmK 0 f ks) H Q E
theorem qL{K:W.Frag}{H:Hp}{xs:List V}{ks:List Kd}{i:Nat}{x:V}(h:KsAt K H xs ks)(hx:xs[i]?=some x):∃k,ks[i]?=some k/\KAt K H x k:=cz h hx
theorem lG{K:W.Frag}{H:Hp}:∀{xs:List V} {ks:List Kd},KsAt K H xs ks->fq K H xs (ks.map Kd.dat)
 |_,_,.nil=>.nil
 |_,_,.cons a r=>.cons (kd_dat a.1) (lG r)
theorem mX:∀(a b:List Kd),PyData.eqvAll (a.map Kd.dat) (b.map Kd.dat)=decide (a=b)
 |[],[]=>by rw [List.map_nil,eqvA_nil];rfl
 |[],y::ys=>by simp [PyData.eqvAll]
 |x::xs,[]=>by simp [PyData.eqvAll]
 |x::xs,y::ys=>by
  rw [List.map_cons,List.map_cons,eqvA_cons,eqv_dat,mX xs ys]
  simp
theorem iS{ks:List Kd}(h:∀k∈ks,Kd.sm k):SeqAt.shaped (.list (ks.map Kd.dat))=true:=by
 have h1:∀l:List Kd,(∀k∈l,Kd.sm k)->PyData.canLayAll0 (l.map Kd.dat)=true/\PyData.depthAll (l.map Kd.dat)<=60:=by
  intro l
  induction l with
  |nil=>intro _;exact⟨by simp [PyData.canLayAll0],by simp [PyData.depthAll]⟩
  |cons a l ih =>
   intro h
   obtain⟨i1,i2⟩:=ih fun k hk=>h k (.tail _ hk)
   have ha:=h a (.head _)
   have d1:=dF a
   have d3:=ha.2.1
   refine⟨by simp [PyData.canLayAll0,eS ha.1,i1],?_⟩
   simp only [List.map_cons,PyData.depthAll]
   omega
 obtain⟨a,b⟩:=h1 ks h
 unfold SeqAt.shaped
 rw [Bool.and_eq_true]
 refine⟨by simp [PyData.canLay0,a],decide_eq_true ?_⟩
 simp only [PyData.depth]
 omega
theorem wW{K:W.Frag}{H:Hp}:∀{xs:List V} {ks:List Kd},KsAt K H xs ks->∀k∈ks,Kd.sm k
 |_,_,.cons a r,k,h=>by
  rcases List.mem_cons.mp h with rfl|h
  ·exact a.2
  ·exact wW r k h
theorem qF(n:Int):Kd.sm (.num n):=⟨trivial,by show 1<=50/\1<=9000;decide⟩
theorem kY{K:W.Frag}{H:Hp}{p:Addr}{n:Int} (h:H p=some (.tup [.str "num",.int n])):KAt K H (.ref p) (.num n):=⟨.num (SqT.of h),qF n⟩
def Kd.hd:Kd->Str
 |.num _=>"num"
 |.name _ _=>"name"
 |.pair _ _=>"pair"
theorem nu{K:W.Frag}{H:Hp}{x:V}{k:Kd}(h:bJ K H x k):∃p xs,x=.ref p/\SqT K H p (.str (Kd.hd k)::xs):=by
 cases h with
 |num t=>exact⟨_,_,rfl,t⟩
 |name t=>exact⟨_,_,rfl,t⟩
 |pair t _ _=>exact⟨_,_,rfl,t⟩
theorem uw(k:Kd):decide (V.str (Kd.hd k)=V.str "num")=Kd.isNum k:=by
 cases k with
 |num _=>exact(by decide +kernel:decide (V.str "num"=V.str "num")=true)
 |name _ _=>exact(by decide +kernel:decide (V.str "name"=V.str "num")=false)
 |pair _ _=>exact(by decide +kernel:decide (V.str "pair"=V.str "num")=false)
def Kd.isPair:Kd->Bool
 |.pair _ _=>true
 |_=>false
theorem rJ(k:Kd):decide (V.str (Kd.hd k)=V.str "pair")=Kd.isPair k:=by
 cases k with
 |num _=>exact(by decide +kernel:decide (V.str "num"=V.str "pair")=false)
 |name _ _=>exact(by decide +kernel:decide (V.str "name"=V.str "pair")=false)
 |pair _ _=>exact(by decide +kernel:decide (V.str "pair"=V.str "pair")=true)
theorem gf{A:Around}{k:Nat}(hr:cA k A):A.units+64 < cLine:=by have:=hr.un;omega
theorem wF{z:Str}(h:z.length<=9000):(Str.ofString ""++Str.ofString "an argument of "++z).length<=10000:=by
 rw [iu,iu]
 have:(Str.ofString "").length+(Str.ofString "an argument of ").length<=100:=by decide +kernel
 omega
section
variable{P:Program}{w:World}{K:W.Frag}{mg:Str->Option Value}{base:Heap}{cl:Nat->Addr}
theorem yX:aJ ["does","what"] ["does","what"] (aj sDem):=⟨rfl,rfl,rfl,by decide +kernel,rfl,by decide +kernel,by decide +kernel⟩
theorem ok_dem{f C:Addr}{fd:FuncData} (F:Fun K "demand" "demand" sDem f fd) (mW:mg "WrongKind"=some (.ref C)) (xW:W.excIn K C iM "ValueError.__new__"=true):aV P w K mg base (CX1 P w) 1 f fd ["does","what"] (tP C):=by
 refine F.okX (k:=0) yX (fun vs H Q E h=>?_) (fun cdv A outer s H vs Q E hr h=>?_)
 ·obtain⟨_,_,rfl,_⟩:=h
  rfl
 obtain⟨b,z,rfl,hz,q⟩:=h
 refine⟨_,ao (bc (yc (L2.pt_val (pv 0))) (ao (bE rfl mW xW (aa (cI (az (dN (pv 1)) (az ai dW)) (by decide)) ae))) aI),?_⟩
 refine⟨_,rfl,b,rfl,?_⟩
 cases b with
 |true=>exact ce q
 |false=>exact dZ ⟨_,rfl,.inl ⟨z,rfl,Nat.le_trans hz (by decide),_,rfl,by omega,_,rfl,by decide +kernel,fun z hz=>⟨(szQ 1),q⟩⟩⟩
theorem xS:aJ ["word","variables"] ["word","variables"] (aj sVarK):=⟨rfl,rfl,rfl,by decide +kernel,rfl,by decide +kernel,by decide +kernel⟩
theorem ok_varK{f:Addr}{fd:FuncData} (F:Fun K "variable_kind" "variable_kind" sVarK f fd) (mN:mg "NoName"=some (.ref (cl 0))) (xN:W.excIn K (cl 0) iM "ValueError.__new__"=true):aV P w K mg base (CX1 P w) 1 f fd ["word","variables"] (uh K cl):=by
 refine F.okX (k:=0) xS (fun vs H Q E h=>?_) (fun cdv A outer s H vs Q E hr h=>?_)
 ·obtain⟨_,_,_,_,rfl,_⟩:=h
  rfl
 obtain⟨z,d,ρ,m,rfl,⟨kvs,hd,hm,hv⟩,hz,q⟩:=h
 have hu:=fH hr
 refine⟨_,ah (bc (fN (eC hu (pv 0) (pv 1))) (ao (bE rfl mN xN (aa (cI (az ai (az (dN (pv 0)) dW)) (by decide)) ae))) aI) (ao (aM (dc hu (pv 1) (pv 0) (fun _ _=>rfl)))),?_⟩
 have g:=eK.k (k:=Sum.inr z) hd
 rcases hv z with ⟨e1,e2⟩|⟨k,u,e1,e2,e3⟩
 ·rw [e2] at g
  rw [e1] at q
  refine⟨_,rfl,_,rfl,d,none,rfl,g,_,rfl,dZ ?_⟩
  exact⟨_,rfl,by decide +kernel,_,rfl,.inl ⟨z,rfl,Nat.le_trans hz (by decide),_,rfl,by omega,fun z hz=>⟨(szQ 1),q.2 _ (aH.refl _)⟩⟩⟩
 ·rw [e2] at g
  rw [e1] at q
  refine⟨_,rfl,_,rfl,d,some u,rfl,g,_,rfl,ce ?_⟩
  exact⟨_,rfl,_,rfl,d,u,rfl,g,q _ _ (aH.refl _) e3⟩
abbrev An:List Str:=["word","told","kinds","due","found"]
theorem kE:aJ An ["word","told","kinds"] (aj sAnsK):=⟨rfl,rfl,rfl,by decide +kernel,rfl,by decide +kernel,by decide +kernel⟩
theorem ok_ansK{f fm:Addr}{fd fdm:FuncData} (F:Fun K "answer_kind" "answer_kind" sAnsK f fd) (mC:mg "NoCount"=some (.ref (cl 1))) (xC:W.excIn K (cl 1) iM "ValueError.__new__"=true) (ml:mg "len"=none) (mz:mg "zip"=none)
  (GD:aV P w K mg base (CX1 P w) 1 fm fdm ["does","what"] (tP (cl 2))) (bD:aL K fdm ["does","what"] []) (kD:W.keepIn K (.ref fm)=true) (mD:mg "demand"=some (.ref fm)):aV P w K mg base (CX1 P w) 2 f fd ["word","told","kinds"] (uq K cl):=by
 refine F.okX (k:=1) kE (fun vs H Q E h=>?_) (fun cdv A outer s H vs Q E hr h=>?_)
 ·obtain⟨_,_,_,_,_,_,_,rfl,_⟩:=h
  rfl
 obtain⟨z,u,l,us,ks,k,xs,rfl,hz,⟨p,tk,vs,x,rfl,hp,htk,hvs,hx,hul⟩,hl,hks,hkl,q⟩:=h
 have hu64:=gf hr
 have l1:=hvs.length
 have l2:=hks.length
 refine⟨_,ah (bc (aB yw (bU aR rfl ml boot_len (aa (aq aG (pv 1) ag (fun _ _=>rfl)) ae)) (bU aR rfl ml boot_len (aa (pv 2) ae)) (aE _))
   (ah (ay (i:=3) kE.nd rfl (Or.inl rfl) (bU aR rfl ml boot_len (aa (aq aG (pv 1) ag (fun _ _=>rfl)) ae)))
   (ah (ay (i:=4) kE.nd rfl (Or.inl rfl) (bU aR rfl ml boot_len (aa (pv 2) ae)))
   (ao (bE rfl mC xC (aa (cI (az (dN (pv 0)) (az ai (az (dN (pv 3)) (az ai (az (dN (pv 4)) dW))))) (by decide)) ae))))) aI)
  (ah (gu PassesOwn.leaving rfl (vM false true rfl mz (aa (aq aG (pv 1) ag (fun _ _=>rfl)) (aa (pv 2) ae))) (eT rfl (aU (aY (i:=3) kE.nd rfl (Or.inl rfl)) (aU (aY (i:=4) kE.nd rfl (Or.inl rfl)) dG)))
   (ao (aO (au GD hr rfl mD kD bD .nil cB (aa (cH (gz hu64) (pv 3) (pv 4) (aE _)) (aa (mH (fE ai (fE (dN (pv 0)) qc)) (by decide)) ae))))))
  (ao (aM (aq aG (pv 1) ag (fun _ _=>rfl))))),?_⟩
 refine⟨_,rfl,p,_,_,_,rfl,rfl,hp,at0,tk,_,rfl,.inr (SqT.of htk),_,rfl,l,_,rfl,.inl (SqL.of hl),rfl,_,rfl,dH (fun c=>?_) (fun c=>?_)⟩
 ·have c':us.length≠ks.length:=fun e=>by
   have:(!decide (V.int (vs.length:Int)=V.int (xs.length:Int)))=true:=c
   rw [l1,l2,e] at this
   simp at this
  have q':Out K cl (R.no 1) H Q E:=by
   have q2:Out K cl (if us.length=ks.length then (if us=ks then .ok k else .no 2) else .no 1) H Q E:=q
   rw [if_neg c'] at q2
   exact q2
  refine⟨_,rfl,p,_,_,_,rfl,rfl,hp,at0,tk,_,rfl,.inr (SqT.of htk),?_⟩
  refine⟨_,rfl,l,_,rfl,.inl (SqL.of hl),?_⟩
  have b1:(0:Int)<=(vs.length:Int)/\(vs.length:Int)<=1000000:=⟨by omega,by omega⟩
  have b2:(0:Int)<=(xs.length:Int)/\(xs.length:Int)<=1000000:=⟨by omega,by omega⟩
  exact⟨_,rfl,.inl ⟨z,rfl,Nat.le_trans hz (by decide),_,rfl,by omega,_,rfl,by decide +kernel,_,rfl,.inr ⟨_,rfl,dh b1.1 b1.2,_,rfl,dm b1.1 b1.2,_,rfl,by decide +kernel,_,rfl,.inr ⟨_,rfl,dh b2.1 b2.2,_,rfl,dm b2.1 b2.2,fun z hz=>⟨(szQ 1),q'.2 _ (aH.refl _)⟩⟩⟩⟩⟩
 ·have c':us.length=ks.length:=by
   by_cases e:us.length=ks.length
   ·exact e
   ·exfalso
    apply c
    show(!decide (V.int (vs.length:Int)=V.int (xs.length:Int)))=true
    rw [l1,l2,decide_eq_false (fun z=>e (by have:=V.int.inj z;omega))]
    rfl
  have q':Out K cl (if us=ks then .ok k else .no 2) H Q E:=by
   have q2:Out K cl (if us.length=ks.length then (if us=ks then .ok k else .no 2) else .no 1) H Q E:=q
   rw [if_pos c'] at q2
   exact q2
  refine⟨_,rfl,p,_,_,_,rfl,rfl,hp,at0,_,rfl,tk,l,vs,xs,rfl,htk,hl,tQ (b:=false) (c:=true) (xs:=vs) (ys:=xs) (fun i σ H3=>∃v3 v4,σ=[some (.str z),some (.ref p),some (.ref l),v3,v4]/\aH H H3/\us.take i=ks.take i) ?_ (by omega) ?_ ?_ ?_⟩
  ·exact⟨none,none,rfl,aH.refl _,rfl⟩
  ·rintro i σ H3 _ ⟨_,_,_,s3,_⟩
   exact⟨s3 _ _ htk,s3 _ _ hl⟩
  ·rintro i a b t σ H3 ha hb ht ⟨v3,v4,rfl,s3,he⟩
   obtain⟨ka,hka,hA⟩:=qL hvs ha
   obtain⟨kb,hkb,hB⟩:=qL hks hb
   have s4:=s3.trans (ad ht (.tup [a,b]))
   refine⟨t,_,rfl,SqT.of ac,rfl,_,_,rfl,_,_,rfl,rfl,?_⟩
   refine⟨_,rfl,_,rfl,_,_,kd_dat (hA.same s4).1,kd_dat (hB.same s4).1,sm_shaped hA.2,sm_shaped hB.2,_,rfl,by decide +kernel,_,rfl,.inl ⟨z,rfl,Nat.le_trans hz (by decide),_,rfl,by omega,_,_,rfl,wF hz,?_⟩⟩
   show if PyData.eqv (Kd.dat ka) (Kd.dat kb)=true then _ else _
   rw [eqv_dat]
   by_cases e:ka=kb
   ·rw [decide_eq_true e]
    refine dZ ⟨_,_,rfl,s4,?_⟩
    rw [List.take_add_one,List.take_add_one,hka,hkb,he,e]
   ·rw [decide_eq_false e]
    have ne:us≠ks:=fun z=>by rw [z] at hka;rw [hka] at hkb;exact e (Option.some.inj hkb)
    rw [if_neg ne] at q'
    exact ce (q'.2 _ s4)
  ·rintro σ H3 ⟨v3,v4,rfl,s3,he⟩
   rw [List.take_of_length_le (by omega),List.take_of_length_le (by omega)] at he
   rw [if_pos he] at q'
   exact⟨_,rfl,p,_,_,_,rfl,rfl,(s3.tup hp),at1,q' _ _ s3 (hx.same s3)⟩
theorem pX{K:W.Frag}{H:Hp}{us:List V}{a b:Kd}(h:KsAt K H us [a,b]):∃x y,us=[x,y]/\KAt K H x a/\KAt K H y b:=by
 cases h with
 |cons r t =>
  cases t with
  |cons r2 t2=>cases t2;exact⟨_,_,rfl,r,r2⟩
theorem oY{K:W.Frag}{H:Hp}{us:List V}{a:Kd}(h:KsAt K H us [a]):∃x,us=[x]/\KAt K H x a:=by
 cases h with
 |cons r t=>cases t;exact⟨_,rfl,r⟩
theorem r4{K:W.Frag}{H:Hp}{us:List V}{a b c:Kd}(h:KsAt K H us [a,b,c]):∃x y z,us=[x,y,z]/\KAt K H x a/\KAt K H y b/\KAt K H z c:=by
 cases h with
 |cons r t =>
  obtain⟨y,z,rfl,h2,h3⟩:=pX t
  exact⟨_,_,_,rfl,r,h2,h3⟩
abbrev kbN:List Str:=["expression","kinds","form","due"]
theorem uZ:aJ kbN ["expression","kinds"] (aj sKbf):=⟨rfl,rfl,rfl,by decide +kernel,rfl,by decide +kernel,by decide +kernel⟩
theorem ok_kbf{f fm:Addr}{fd fdm:FuncData} (F:Fun K "kind_by_form" "kind_by_form" sKbf f fd)
  (GD:aV P w K mg base (CX1 P w) 1 fm fdm ["does","what"] (tP (cl 2))) (bD:aL K fdm ["does","what"] []) (kD:W.keepIn K (.ref fm)=true) (mD:mg "demand"=some (.ref fm)):aV P w K mg base (CX1 P w) 2 f fd ["expression","kinds"] (wv K cl):=by
 refine F.okX (k:=1) uZ (fun vs H Q E h=>?_) (fun cdv A outer s H vs Q E hr h=>?_)
 ·obtain⟨_,_,_,_,_,_,rfl,_⟩:=h
  rfl
 obtain⟨p,l,fm',xs,us,ks,rfl,hp,hl,hus,hkl,h2,q⟩:=h
 have hu64:=hr.units
 refine⟨_,ah (ay (i:=2) uZ.nd rfl (Or.inl rfl) (aq aG (pv 0) ag (fun _ _=>rfl)))
  (ah (bc (aB bu (pv 2) ai (aE _)) (ao (aM (ak (aa ai (aa (aq aG (pv 0) ag (fun _ _=>rfl)) ae))))) aI)
  (ah (bc (aB bu (pv 2) ai (aE _))
   (ah (ay (i:=3) uZ.nd rfl (Or.inl rfl) (ak (aa ai (aa (aq aG (pv 0) ag (fun _ _=>rfl)) ae))))
   (ah (aO (au GD hr rfl mD kD bD .nil cB (aa (cH (gz hu64) (pv 1) (dq (aa (pv 3) (aa (pv 3) ae))) (aE _)) (aa ai ae))))
   (ao (aM (pv 3))))) aI)
  (ah (bc (aB bu (pv 2) ai (aE _))
   (ah (aO (au GD hr rfl mD kD bD .nil cB (aa (uH (cH bu (aq aG (aq ap (pv 1) ag (fun _ _=>rfl)) ag (fun _ _=>rfl)) ai (aE _)) (rg (cH (gz hu64) (aq ap (pv 1) ag (fun _ _=>rfl)) (aq ap (pv 1) ag (fun _ _=>rfl)) (aE _)))) (aa ai ae))))
   (ao (aM (ak (aa ai (aa ag ae)))))) aI)
  (ah (bc (aB bu (pv 2) ai (aE _))
   (ah (aO (au GD hr rfl mD kD bD .nil cB (aa (cH bu (aq aG (aq ap (pv 1) ag (fun _ _=>rfl)) ag (fun _ _=>rfl)) ai (aE _)) (aa ai ae))))
   (ao (aM (ak (aa ai (aa (aq aG (pv 0) ag (fun _ _=>rfl)) ae)))))) aI)
  (ah (bc (aB bu (pv 2) ai (aE _))
   (ah (aO (au GD hr rfl mD kD bD .nil cB (aa (cH (gz hu64) (aq ap (pv 1) ag (fun _ _=>rfl)) (ak (aa ai (aa ag ae))) (aE _)) (aa ai ae))))
   (ah (aO (au GD hr rfl mD kD bD .nil cB (aa (cH (gz hu64) (aq ap (pv 1) ag (fun _ _=>rfl)) (aq ap (pv 1) ag (fun _ _=>rfl)) (aE _)) (aa ai ae))))
   (ao (aM (aq ap (pv 1) ag (fun _ _=>rfl)))))) aI)
  (ah (aO (au GD hr rfl mD kD bD .nil cB (aa (cH bu (aq aG (aq ap (pv 1) ag (fun _ _=>rfl)) ag (fun _ _=>rfl)) ai (aE _)) (aa (mH (fE ai (fE (dN (pv 2)) (fE ai qc))) (by decide)) ae))))
  (ao (aM (jr (aB bu (pv 2) ai (aE _)) (aq aG (aq ap (pv 1) ag (fun _ _=>rfl)) ag (fun _ _=>rfl)) (aq aG (aq ap (pv 1) ag (fun _ _=>rfl)) ag (fun _ _=>rfl))))))))))),?_⟩
 have z17:(Str.ofString "a side of what is compared").length<=10000:=by decide +kernel
 cases fm' with
 |two=>exact absurd rfl h2
 |lit v n =>
  match ks,q with
  |[],q =>
   replace q:Out K cl (.ok (.num n)) H Q E:=q
   refine⟨_,rfl,p,_,_,_,rfl,rfl,SqT.of hp,at0,?_⟩
   refine⟨_,rfl,rfl,_,rfl,yes_s ⟨_,rfl,p,_,_,_,rfl,rfl,SqT.of hp,at2,(szQ 2),fun t ht=>?_⟩⟩
   exact q _ _ (ad ht _) (kY ac)
  |_::_,q=>exact absurd (show 9 < 4 from q.1) (by decide)
 |op o n =>
  refine⟨_,rfl,p,_,_,_,rfl,rfl,SqT.of hp,at0,?_⟩
  refine⟨_,rfl,rfl,_,rfl,no_s (by decide +kernel) ?_⟩
  refine⟨_,rfl,rfl,_,rfl,yes_s ⟨_,rfl,p,_,_,_,rfl,rfl,SqT.of hp,at2,(szQ 2),fun t ht=>?_⟩⟩
  have s1:=ad ht (.tup [.str "num",.int n])
  refine⟨_,rfl,_,rfl,_,rfl,(szQ 2),fun l2 hl2=>?_⟩
  have s2:=s1.trans (ad hl2 (.lst [.ref t,.ref t]))
  have hn:KAt K (upd (upd H t (.tup [.str "num",.int n])) l2 (.lst [.ref t,.ref t])) (.ref t) (.num n):=(kY ac).same (ad hl2 _)
  refine⟨_,_,.lst (SqL.of (s2 _ _ hl)) (lG (hus.same s2)),.lst (SqL.of ac) (lG (ks:=[.num n,.num n]) (.cons hn (.cons hn .nil))),iS (wW hus),iS (ks:=[.num n,.num n]) (fun k hk=>by simp at hk;rw [hk];exact qF n),_,_,rfl,by decide +kernel,?_⟩
  show if PyData.eqv (.list (ks.map Kd.dat)) (.list ([Kd.num n,.num n].map Kd.dat))=true then _ else _
  rw [uX,mX]
  replace q:Out K cl (if ks=[.num n,.num n] then .ok (.num n) else .no 2) H Q E:=q
  by_cases e:ks=[.num n,.num n]
  ·rw [if_pos e] at q
   rw [decide_eq_true e]
   exact dZ ⟨_,rfl,q _ _ s2 hn⟩
  ·rw [if_neg e] at q
   rw [decide_eq_false e]
   exact ce (q.2 _ s2)
 |test o =>
  match ks,q with
  |[a,b],q =>
   obtain⟨x,y,rfl,hx,hy⟩:=pX hus
   obtain⟨px,xx,rfl,tx⟩:=nu hx.1
   replace q:Out K cl (if Kd.isNum a=true/\a=b then .ok (.num 2) else .no 2) H Q E:=q
   refine⟨_,rfl,p,_,_,_,rfl,rfl,SqT.of hp,at0,?_⟩
   refine⟨_,rfl,rfl,_,rfl,no_s (by decide +kernel) ?_⟩
   refine⟨_,rfl,rfl,_,rfl,no_s (by decide +kernel) ?_⟩
   refine⟨_,rfl,rfl,_,rfl,yes_s ?_⟩
   refine⟨_,rfl,l,_,_,_,rfl,rfl,SqL.of hl,at0,px,_,_,_,rfl,rfl,tx,at0,rfl,_,rfl,?_⟩
   rw [uw]
   by_cases e:Kd.isNum a=true
   ·rw [e]
    refine dZ ⟨_,rfl,l,_,_,_,rfl,rfl,SqL.of hl,at0,_,rfl,l,_,_,_,rfl,rfl,SqL.of hl,at1,_,_,kd_dat hx.1,kd_dat hy.1,sm_shaped hx.2,sm_shaped hy.2,_,_,rfl,z17,?_⟩
    show if PyData.eqv (Kd.dat a) (Kd.dat b)=true then _ else _
    rw [eqv_dat]
    by_cases e2:a=b
    ·rw [if_pos ⟨e,e2⟩] at q
     rw [decide_eq_true e2]
     exact dZ ⟨(szQ 2),fun t ht=>q _ _ (ad ht _) (kY ac)⟩
    ·rw [if_neg fun z=>e2 z.2] at q
     rw [decide_eq_false e2]
     exact ce (q.2 _ (aH.refl _))
   ·rw [if_neg fun z=>e z.1] at q
    rw [Bool.eq_false_iff.mpr e]
    exact ce ⟨_,_,rfl,z17,ce (q.2 _ (aH.refl _))⟩
  |[],q=>exact absurd (show 9 < 4 from q.1) (by decide)
  |[_],q=>exact absurd (show 9 < 4 from q.1) (by decide)
  |_::_::_::_,q=>exact absurd (show 9 < 4 from q.1) (by decide)
 |as_ n =>
  match ks,q with
  |[a],q =>
   obtain⟨x,rfl,hx⟩:=oY hus
   obtain⟨px,xx,rfl,tx⟩:=nu hx.1
   replace q:Out K cl (if Kd.isNum a=true then .ok (.num n) else .no 2) H Q E:=q
   refine⟨_,rfl,p,_,_,_,rfl,rfl,SqT.of hp,at0,?_⟩
   refine⟨_,rfl,rfl,_,rfl,no_s (by decide +kernel) ?_⟩
   refine⟨_,rfl,rfl,_,rfl,no_s (by decide +kernel) ?_⟩
   refine⟨_,rfl,rfl,_,rfl,no_s (by decide +kernel) ?_⟩
   refine⟨_,rfl,rfl,_,rfl,yes_s ?_⟩
   refine⟨_,rfl,l,_,_,_,rfl,rfl,SqL.of hl,at0,px,_,_,_,rfl,rfl,tx,at0,rfl,_,_,rfl,by decide +kernel,?_⟩
   rw [uw]
   by_cases e:Kd.isNum a=true
   ·rw [if_pos e] at q
    rw [e]
    exact dZ ⟨_,rfl,p,_,_,_,rfl,rfl,SqT.of hp,at1,(szQ 2),fun t ht=>q _ _ (ad ht _) (kY ac)⟩
   ·rw [if_neg e] at q
    rw [Bool.eq_false_iff.mpr e]
    exact ce (q.2 _ (aH.refl _))
  |[],q=>exact absurd (show 9 < 4 from q.1) (by decide)
  |_::_::_,q=>exact absurd (show 9 < 4 from q.1) (by decide)
 |if_ =>
  match ks,q with
  |[a,b,c],q =>
   obtain⟨x,y,z,rfl,hx,hy,hz⟩:=r4 hus
   replace q:Out K cl (if a=.num 2 then (if b=c then .ok b else .no 2) else .no 2) H Q E:=q
   refine⟨_,rfl,p,_,_,_,rfl,rfl,SqT.of hp,at0,?_⟩
   refine⟨_,rfl,rfl,_,rfl,no_s (by decide +kernel) ?_⟩
   refine⟨_,rfl,rfl,_,rfl,no_s (by decide +kernel) ?_⟩
   refine⟨_,rfl,rfl,_,rfl,no_s (by decide +kernel) ?_⟩
   refine⟨_,rfl,rfl,_,rfl,no_s (by decide +kernel) ?_⟩
   refine⟨_,rfl,rfl,_,rfl,yes_s ?_⟩
   refine⟨_,rfl,l,_,_,_,rfl,rfl,SqL.of hl,at0,(szQ 2),fun t ht=>?_⟩
   have s1:=ad ht (.tup [.str "num",.int 2])
   refine⟨_,_,kd_dat (hx.same s1).1,kd_dat (kY (K:=K) (n:=2) ac).1,sm_shaped hx.2,sm_shaped (qF 2),_,_,rfl,by decide +kernel,?_⟩
   show if PyData.eqv (Kd.dat a) (Kd.dat (.num 2))=true then _ else _
   rw [eqv_dat]
   by_cases e:a=.num 2
   ·rw [if_pos e] at q
    rw [decide_eq_true e]
    refine dZ ⟨_,rfl,l,_,_,_,rfl,rfl,SqL.of (s1 _ _ hl),at1,_,rfl,l,_,_,_,rfl,rfl,SqL.of (s1 _ _ hl),at2,_,_,kd_dat (hy.same s1).1,kd_dat (hz.same s1).1,sm_shaped hy.2,sm_shaped hz.2,_,_,rfl,by decide +kernel,?_⟩
    show if PyData.eqv (Kd.dat b) (Kd.dat c)=true then _ else _
    rw [eqv_dat]
    by_cases e2:b=c
    ·rw [if_pos e2] at q
     rw [decide_eq_true e2]
     exact dZ ⟨_,rfl,l,_,_,_,rfl,rfl,SqL.of (s1 _ _ hl),at1,q _ _ s1 (hy.same s1)⟩
    ·rw [if_neg e2] at q
     rw [decide_eq_false e2]
     exact ce (q.2 _ s1)
   ·rw [if_neg e] at q
    rw [decide_eq_false e]
    exact ce (q.2 _ s1)
  |[],q=>exact absurd (show 9 < 4 from q.1) (by decide)
  |[_],q=>exact absurd (show 9 < 4 from q.1) (by decide)
  |[_,_],q=>exact absurd (show 9 < 4 from q.1) (by decide)
  |_::_::_::_::_,q=>exact absurd (show 9 < 4 from q.1) (by decide)
 |fst =>
  match ks,q with
  |[a],q =>
   obtain⟨x,rfl,hx⟩:=oY hus
   obtain⟨px,xx,rfl,tx⟩:=nu hx.1
   refine⟨_,rfl,p,_,_,_,rfl,rfl,SqT.of hp,at0,?_⟩
   refine⟨_,rfl,rfl,_,rfl,no_s (by decide +kernel) ?_⟩
   refine⟨_,rfl,rfl,_,rfl,no_s (by decide +kernel) ?_⟩
   refine⟨_,rfl,rfl,_,rfl,no_s (by decide +kernel) ?_⟩
   refine⟨_,rfl,rfl,_,rfl,no_s (by decide +kernel) ?_⟩
   refine⟨_,rfl,rfl,_,rfl,no_s (by decide +kernel) ?_⟩
   refine⟨_,rfl,l,_,_,_,rfl,rfl,SqL.of hl,at0,px,_,_,_,rfl,rfl,tx,at0,rfl,_,rfl,by decide +kernel,_,rfl,.inl ⟨_,rfl,by decide +kernel,_,rfl,by decide +kernel,_,rfl,by decide +kernel,_,_,rfl,by decide +kernel,?_⟩⟩
   rw [rJ]
   cases a with
   |pair ka kb =>
    cases hx.1 with
    |pair t h3 h4 =>
     replace q:Out K cl (.ok ka) H Q E:=q
     refine dZ ⟨_,rfl,rfl,_,rfl,yes_s ⟨_,rfl,l,_,_,_,rfl,rfl,SqL.of hl,at0,px,_,_,_,rfl,rfl,t,at1,?_⟩⟩
     exact q _ _ (aH.refl _) ⟨h3,hx.2.1.1,Ar hx.2.2⟩
   |num n=>exact ce ((show Out K cl (R.no 2) H Q E from q).2 _ (aH.refl _))
   |name a b=>exact ce ((show Out K cl (R.no 2) H Q E from q).2 _ (aH.refl _))
  |[],q=>exact absurd (show 9 < 4 from q.1) (by decide)
  |a::_::_,q=>cases a<;>exact absurd (show 9 < 4 from And.left q) (by decide)
 |snd =>
  match ks,q with
  |[a],q =>
   obtain⟨x,rfl,hx⟩:=oY hus
   obtain⟨px,xx,rfl,tx⟩:=nu hx.1
   refine⟨_,rfl,p,_,_,_,rfl,rfl,SqT.of hp,at0,?_⟩
   refine⟨_,rfl,rfl,_,rfl,no_s (by decide +kernel) ?_⟩
   refine⟨_,rfl,rfl,_,rfl,no_s (by decide +kernel) ?_⟩
   refine⟨_,rfl,rfl,_,rfl,no_s (by decide +kernel) ?_⟩
   refine⟨_,rfl,rfl,_,rfl,no_s (by decide +kernel) ?_⟩
   refine⟨_,rfl,rfl,_,rfl,no_s (by decide +kernel) ?_⟩
   refine⟨_,rfl,l,_,_,_,rfl,rfl,SqL.of hl,at0,px,_,_,_,rfl,rfl,tx,at0,rfl,_,rfl,by decide +kernel,_,rfl,.inl ⟨_,rfl,by decide +kernel,_,rfl,by decide +kernel,_,rfl,by decide +kernel,_,_,rfl,by decide +kernel,?_⟩⟩
   rw [rJ]
   cases a with
   |pair ka kb =>
    cases hx.1 with
    |pair t h3 h4 =>
     replace q:Out K cl (.ok kb) H Q E:=q
     refine dZ ⟨_,rfl,rfl,_,rfl,no_s (by decide +kernel) ⟨_,rfl,l,_,_,_,rfl,rfl,SqL.of hl,at0,px,_,_,_,rfl,rfl,t,at2,?_⟩⟩
     exact q _ _ (aH.refl _) ⟨h4,hx.2.1.2,Aj hx.2.2⟩
   |num n=>exact ce ((show Out K cl (R.no 2) H Q E from q).2 _ (aH.refl _))
   |name a b=>exact ce ((show Out K cl (R.no 2) H Q E from q).2 _ (aH.refl _))
  |[],q=>exact absurd (show 9 < 4 from q.1) (by decide)
  |a::_::_,q=>cases a<;>exact absurd (show 9 < 4 from And.left q) (by decide)
def vZ(P:Program)(w:World)(K:W.Frag)(mg:Str->Option Value)(base:Heap)(k:Nat)(f:Addr)(q t:Str)(H:Hp)(Q:VK)(E:XK):Prop :=
 ∃fd ps sp,H f=some (.fnc fd)/\aV P w K mg base (CX1 P w) k f fd ps sp/\aL K fd ps []/\sp [.str q,.str t] H Q E
def OrcOk(P:Program)(w:World)(K:W.Frag)(mg:Str->Option Value)(base:Heap)(cl:Nat->Addr)(k:Nat)(f:Addr)(H:Hp)(C:Orc):Prop :=
 ∀q t H1,smW q->smW t->aH H H1->∀(Q:VK) (E:XK),((C q t=none/\∀H2,aH H1 H2->E (.ref (cl 0)) none H2)\/∃us kd,C q t=some (us,kd)/\∀H2 u,aH H1 H2->ToldAt K H2 u us kd->Q u H2)->vZ P w K mg base k f q t H1 Q E
theorem OrcOk.same{P:Program}{w:World}{K:W.Frag}{mg:Str->Option Value}{base:Heap}{cl:Nat->Addr}{k:Nat}{f:Addr}{H H':Hp}{C:Orc}(h:OrcOk P w K mg base cl k f H C)(s:aH H H'):OrcOk P w K mg base cl k f H' C :=
 fun q t H1 w1 w2 s1=>h q t H1 w1 w2 (s.trans s1)
def xE(P:Program)(w:World)(K:W.Frag)(mg:Str->Option Value)(base:Heap)(cl:Nat->Addr)(k n:Nat):Sp:=fun vs H Q E=>∃(x:V) (d f:Addr) (mo:Int) (e:Ex) (ρ:Str->Option Kd) (m:Nat) (fd:FuncData) (C:Orc),vs=[x,.ref d,.ref f,.int mo]/\ExAt H x e/\e.ht<=n/\oz K H d ρ m/\m+n<=500/\0<=mo/\mo<=10000/\H f=some (.fnc fd)/\OrcOk P w K mg base cl k f H C/\Out K cl (kin mo C ρ e) H Q E
theorem rL{K:W.Frag}{H:Hp}{l:Addr}{us us':List V}(hl:H l=some (.lst us)){x:V}{k:Kd}(h:KAt K H x k):KAt K (upd H l (.lst us')) x k:=⟨bq (fun _ _ t=>vx hl t) h.1,h.2⟩
theorem rH{K:W.Frag}{H:Hp}{x:V}{k:Kd}(h:KAt K H x k):∀{xs:List V} {ks:List Kd},KsAt K H xs ks->KsAt K H (xs++[x]) (ks++[k])
 |_,_,.nil=>.cons h .nil
 |_,_,.cons a r=>.cons a (rH h r)
theorem kG{α:Type}{l:List α}{i:Nat}{x:α}(h:l[i]?=some x):l.take i++[x]=l.take (i+1):=by
 rw [List.take_add_one,h];rfl
theorem i7{α:Type}{l:List α}{i:Nat}{x:α}(h:l[i]?=some x):∃r,l=l.take i++x::r:=by
 obtain⟨h1,h2⟩:=List.getElem?_eq_some_iff.mp h
 refine⟨l.drop (i+1),?_⟩
 rw [<-h2,<-List.drop_eq_getElem_cons h1,List.take_append_drop]
theorem wK{a b:Int}{fm:Fm}(h:fm≠.two)(ks:List Kd):fmK a fm ks=fmK b fm ks:=by
 unfold fmK
 split<;>first|rfl|exact absurd rfl h
theorem gI:bootBuiltins "dict"=some (.type "dict"):=by decide +kernel
abbrev kiN:List Str:=["expression","variables","called","most","form","inner","kinds","each"]
abbrev kiP:List Str:=["expression","variables","called","most"]
theorem qi:aJ kiN kiP (aj sKin):=⟨rfl,rfl,rfl,by decide +kernel,rfl,by decide +kernel,by decide +kernel⟩
theorem ok_kin{f fv fw fa fb ff:Addr}{dV:Value}{fd fdv fdw fda fdb fdf:FuncData}{k:Nat} (F:jR K "kind_in" "kind_in" sKin dV f fd) (bS:aL K fd kiP []) (mS:mg "kind_in"=some (.ref f)) (md:mg "dict"=none)
    (GV:aV P w K mg base (CX1 P w) 1 fv fdv ["word","variables"] (uh K cl)) (bV:aL K fdv ["word","variables"] []) (kV:W.keepIn K (.ref fv)=true) (mV:mg "variable_kind"=some (.ref fv))
    (GW:aV P w K mg base CX0 1 fw fdw ["expression"] nk) (bW:aL K fdw ["expression"] []) (kW:W.keepIn K (.ref fw)=true) (mW:mg "within"=some (.ref fw))
    (GA:aV P w K mg base (CX1 P w) 2 fa fda ["word","told","kinds"] (uq K cl)) (bA:aL K fda ["word","told","kinds"] []) (kA:W.keepIn K (.ref fa)=true) (mA:mg "answer_kind"=some (.ref fa))
    (GB:aV P w K mg base (CX1 P w) 2 fb fdb ["kind","most"] (d7 K (cl 3))) (bB:aL K fdb ["kind","most"] []) (kB:W.keepIn K (.ref fb)=true) (mB:mg "bounded"=some (.ref fb))
    (GF:aV P w K mg base (CX1 P w) 2 ff fdf ["expression","kinds"] (wv K cl)) (bF:aL K fdf ["expression","kinds"] []) (kF:W.keepIn K (.ref ff)=true) (mF:mg "kind_by_form"=some (.ref ff)) :
    ∀n,aV P w K mg base (CX1 P w) (k+3+n) f fd kiP (xE P w K mg base cl k n):=by
  intro n
  induction n with
  | zero =>
    refine⟨fun vs H Q E h=>?_,fun A outer s H args us vs Q E _ _ _ _ h=>?_⟩
    · obtain⟨_,_,_,_,_,_,_,_,_,rfl,_⟩:=h
      rfl
    · obtain⟨_,_,_,_,e,_,_,_,_,_,_,h0,_⟩:=h
      cases e<;>simp [Ex.ht] at h0
  | succ n ih =>
  refine F.okX (k:=k+3+n) qi (fun vs H Q E h=>?_) (fun cdv A outer s H vs Q E hr h=>?_)
  · obtain⟨_,_,_,_,_,_,_,_,_,rfl,_⟩:=h
    rfl
  obtain⟨x,d,g,mo,e,ρ,m,fdc,C,rfl,hx,hn,hd,hm,mo0,mo1,hg,hC,hq⟩:=h
  have hu:=fH hr
  have hr1:cA 1 _:=hr.mono (by omega)
  have hr2:cA 2 _:=hr.mono (by omega)
  have hrk:cA k _:=hr.mono (by omega)
  have kS:=F.kp
  obtain⟨t3,d3,k3⟩:∃t,PSs (dI (CX1 P w) P w K mg base kiN "kind_in" (aj sKin) f cdv A outer s H E) (List.drop 3 (aw sKin)) t /\
      ∀(p:Addr) (z:Str) (xs:List V) (es:List Ex),x=.ref p->ExsAt H xs es->(∀e∈es,e.ht<=n)->es.length<=n ->
        ((∃(fm:Fm) (r:List V),fm.vals=.str z::r/\z≠"call"/\((z="two"/\fm=.two)\/(z≠"two"/\fm≠.two))/\H p=some (.tup (fm.vals++xs))/\((∃v n,fm=.lit v n)->xs=[])/\Out K cl (kin mo C ρ (.nd fm es)) H Q E) \/
         ∃(p2:Addr) (q t:Str),z="call"/\H p=some (.tup [.str "call",.str q,.str t,.ref p2])/\H p2=some (.tup xs)/\(smW q/\smW t)/\Out K cl (kin mo C ρ (.call q t es)) H Q E) ->
        t { nx:=fun _ H'=>Q .non H',rt:=Q } [some x,some (.ref d),some (.ref g),some (.int mo),some (.str z),none,none,none] H:=by
    refine⟨_,ah (ay (i:=6) qi.nd rfl (Or.inl rfl) (dq ae))
      (ah (gu PassesOwn.leaving rfl (nw (au GW hr1 rfl mW kW bW .nil bQ (aa (pv 0) ae))) (aY (i:=7) qi.nd rfl (Or.inl rfl))
        (ao (aO (eQ PySem.F.plainAttrs_list PySem.F.slot_list_append PySem.F.type_list_append bo (pv 6) (aa (au ih hr rfl mS kS bS .nil cB (aa (pv 7) (aa (pv 1) (aa (pv 2) (aa (pv 3) ae))))) ae)))))
      (ah (bc (aB bu (pv 4) ai (aE _)) (ao (aM (au GA hr2 rfl mA kA bA .nil cB (aa (aq aG (pv 0) ag (fun _ _=>rfl)) (aa (sF (pv 2) cB (aa (aq aG (pv 0) ag (fun _ _=>rfl)) (aa (aq aG (pv 0) ag (fun _ _=>rfl)) ae))) (aa (pv 6) ae)))))) aI)
      (ah (bc (aB bu (pv 4) ai (aE _)) (ao (aM (au GB hr2 rfl mB kB bB .nil cB (aa (ak (aa ai (aa (aq ap (pv 6) ag (fun _ _=>rfl)) (aa (aq ap (pv 6) ag (fun _ _=>rfl)) ae)))) (aa (pv 3) ae))))) aI)
      (ao (aM (au GF hr2 rfl mF kF bF .nil cB (aa (pv 0) (aa (pv 6) ae)))))))),?_⟩
    intro p z xs es ex hxs hes hel hcase
    subst ex
    refine⟨(szQ 0),fun l hl=>?_⟩
    have s1:=ad hl (.lst [])
    have stop:∀{c:Nat},kins mo C ρ es=.no c->c < 4/\∀H',aH H H'->E (.ref (cl c)) none H':=fun {c} hc=>by
      rcases hcase with ⟨fm,r,_,_,_,_,_,ho⟩|⟨p2,q,t,_,_,_,_,ho⟩
      · rw [kin,hc] at ho;exact ho
      · rw [kin,hc] at ho;exact ho
    refine⟨_,rfl,.ref p,xs,rfl,?_,fun H2 r s2 hr2'=>⟨r,rfl,⟨xs,SqT.of hr2'⟩,rf (xs:=xs) (fun i σ H3=>∃v7 us ks,σ=[some (.ref p),some (.ref d),some (.ref g),some (.int mo),some (.str z),none,some (.ref l),v7]/\aH H H3/\H3 r=some (.tup xs)/\H3 l=some (.lst us)/\us.length=i/\KsAt K H3 us ks/\kins mo C ρ (es.take i)=.ok ks) ?_ ?_ ?_ ?_⟩⟩
    · rcases hcase with ⟨fm,r,e1,e2,e3,e4,e5,_⟩|⟨p2,q,t,rfl,e2,e3,_⟩
      · exact .inl ⟨p,fm,rfl,s1 _ _ e4,e5⟩
      · exact .inr ⟨p,p2,q,t,rfl,s1 _ _ e2,s1 _ _ e3⟩
    · exact⟨none,[],[],rfl,s1.trans s2,hr2',s2 _ _ ac,rfl,.nil,by rw [List.take_zero,kins]⟩
    · rintro i σ H3 hi ⟨v7,us,ks,rfl,_,h4,_⟩
      exact SqT.of h4
    · rintro i y σ H3 hy ⟨v7,us,ks,rfl,s3,h3,hl3,hl4,hus,hks⟩
      obtain⟨e,he,hye⟩:=hxs.get hy
      refine⟨_,rfl,.inl ⟨rfl,_,SqL.of hl3⟩,_,rfl,_,rfl,_,rfl,_,rfl,y,d,g,mo,e,ρ,m,fdc,C,rfl,hye.same s3,hes e (List.mem_of_getElem? he),hd.same s3,by omega,mo0,mo1,s3 _ _ hg,hC.same s3,?_⟩
      cases hk:kin mo C ρ e with
      | no c =>
        obtain⟨r',hr'⟩:=i7 he
        have:=stop (c:=c) (by rw [hr'];exact kR hk hks)
        exact⟨this.1,fun H' s'=>this.2 H' (s3.trans s')⟩
      | ok kd =>
        intro H4 u s4 hu4
        have hl5:=s4 _ _ hl3
        refine⟨l,_,_,rfl,rfl,hl5,?_,_,us++[u],ks++[kd],rfl,?_,?_,ac,by simp [hl4],?_,?_⟩
        · have h8:=(List.getElem?_eq_some_iff.mp hy).1
          have h9:=hxs.length
          exact dJ (by omega)
        · exact jC (s3.trans s4) hl
        · rw [am (kr (s4 _ _ h3) hl5 (by intro z;cases z))];exact s4 _ _ h3
        · exact rH (rL hl5 hu4) (Paired.mapP (hus.same s4) fun _ _ z=>rL hl5 z)
        · rw [<-kG he]
          exact kj hk hks
    · rintro σ H3 ⟨v7,us,ks,rfl,s3,h3,hl3,hl4,hus,hks⟩
      have hxl:=hxs.length
      rw [List.take_of_length_le (by omega)] at hks
      have hkl:=nJ hks
      rcases hcase with ⟨fm,r,e1,e2,e3,e4,_,ho⟩|⟨p2,q,t,rfl,e2,e3,htl,ho⟩
      · refine⟨_,rfl,rfl,_,rfl,no_s e2 ?_⟩
        rw [kin,hks] at ho
        replace ho:Out K cl (fmK mo fm ks) H Q E:=ho
        rcases e3 with ⟨rfl,rfl⟩|⟨e3,e3'⟩
        · refine⟨_,rfl,rfl,_,rfl,yes_s ?_⟩
          match ks,ho,hus with
          | [a,b],ho,hus =>
            obtain⟨xa,xb,rfl,ha,hb⟩:=pX hus
            refine⟨_,rfl,l,_,_,_,rfl,rfl,SqL.of hl3,at0,_,rfl,l,_,_,_,rfl,rfl,SqL.of hl3,at1,(szQ 3),fun t ht=>?_⟩
            have s4:=ad ht (.tup [.str "pair",xa,xb])
            have hp:bJ K (upd H3 t (.tup [.str "pair",xa,xb])) (.ref t) (.pair a b):=.pair (SqT.of ac) (ha.same s4).1 (hb.same s4).1
            have w1:=ha.2.2.2
            have w2:=hb.2.2.2
            have w3:(Kd.pair a b).words=1+a.words+b.words:=rfl
            replace ho:Out K cl (if ((Kd.pair a b).words:Int) > mo then .no 3 else if Kd.depth (.pair a b)<=50/\(Kd.pair a b).words<=9000 then .ok (.pair a b) else .no 9) H Q E:=ho
            refine⟨_,rfl,.ref t,.pair a b,mo,rfl,hp,by omega,mo0,by omega,fun H' s'=>?_⟩
            by_cases c:((Kd.pair a b).words:Int) > mo
            · rw [if_pos c] at ho ⊢
              exact ho.2 _ (s3.trans (s4.trans s'))
            · rw [if_neg c] at ho ⊢
              by_cases c2:Kd.depth (.pair a b)<=50/\(Kd.pair a b).words<=9000
              · rw [if_pos c2] at ho
                exact ho _ _ (s3.trans (s4.trans s')) ⟨hp.same s',⟨ha.2.1,hb.2.1⟩,c2⟩
              · rw [if_neg c2] at ho
                exact absurd ho.1 (by decide)
          | [],ho,_=>exact absurd (show 9 < 4 from And.left ho) (by decide)
          | [_],ho,_=>exact absurd (show 9 < 4 from And.left ho) (by decide)
          | _::_::_::_,ho,_=>exact absurd (show 9 < 4 from And.left ho) (by decide)
        · refine⟨_,rfl,rfl,_,rfl,no_s e3 ?_⟩
          have ef:fmK mo fm ks=fmK 0 fm ks:=wK e3' ks
          rw [ef] at ho
          exact⟨_,rfl,_,rfl,p,l,fm,xs,us,ks,rfl,s3 _ _ e4,hl3,hus,by omega,e3',ho.same s3⟩
      · refine⟨_,rfl,rfl,_,rfl,yes_s ?_⟩
        rw [kin,hks] at ho
        replace ho:Out K cl (ansK (C q t) ks) H Q E:=ho
        have hcl:∀Q':VK,(∀us' kd,C q t=some (us',kd)->∀H2 u,aH H3 H2->ToldAt K H2 u us' kd->Q' u H2)->∃fd ps sp kk,H3 g=some (.fnc fd)/\aV P w K mg base (CX1 P w) kk g fd ps sp/\cA kk (A.deeper (PyProof.Rows.envOfC "kind_in" (aj sKin) s.heap.objs.size f cdv))/\aL K fd ps []/\sp [.str q,.str t] H3 Q' E:=fun Q' hQ'=>by
          obtain⟨fd',ps',sp',c1,c2,c3,c4⟩:=hC q t H3 htl.1 htl.2 s3 Q' E (by
            cases hct:C q t with
            | none =>
              rw [hct] at ho
              exact .inl ⟨rfl,fun H2 s4=>(show Out K cl (R.no 0) H Q E from ho).2 _ (s3.trans s4)⟩
            | some r=>exact .inr ⟨r.1,r.2,rfl,fun H2 u s4 ht=>hQ' _ _ hct H2 u s4 ht⟩)
          exact⟨fd',ps',sp',k,c1,c2,hrk,c3,c4⟩
        refine⟨_,rfl,p,_,_,_,rfl,rfl,SqT.of (s3 _ _ e2),at2,g,fdc,rfl,s3 _ _ hg,_,rfl,p,_,_,_,rfl,rfl,SqT.of (s3 _ _ e2),at1,_,rfl,p,_,_,_,rfl,rfl,SqT.of (s3 _ _ e2),at2,hcl _ fun us' kd hct H2 u s4 ht=>?_⟩
        rw [hct] at ho
        exact⟨_,rfl,t,u,l,us',ks,kd,us,rfl,Nat.le_trans htl.2.2 (by decide),ht,s4 _ _ hl3,hus.same s4,by omega,ho.same (s3.trans s4)⟩
  refine⟨_,ah (ay (i:=4) qi.nd rfl (Or.inl rfl) (aq aG (pv 0) ag (fun _ _=>rfl)))
    (ah (bc (aB bu (pv 4) ai (aE _)) (ao (aM (au GV hr1 rfl mV kV bV .nil cB (aa (aq aG (pv 0) ag (fun _ _=>rfl)) (aa (pv 1) ae))))) aI)
    (ah (bc (aB bu (pv 4) ai (aE _)) (ah (ay (i:=5) qi.nd rfl (Or.inl rfl) (cw eE rfl md gI (aa (pv 1) ae)))
      (ah (ig hu (pv 5) (aq aG (pv 0) ag (fun _ _=>rfl)) (au ih hr rfl mS kS bS .nil cB (aa (aq aG (pv 0) ag (fun _ _=>rfl)) (aa (pv 1) (aa (pv 2) (aa (pv 3) ae))))) rfl)
      (ao (aM (au ih hr rfl mS kS bS .nil cB (aa (aq aG (pv 0) ag (fun _ _=>rfl)) (aa (pv 5) (aa (pv 2) (aa (pv 3) ae))))))))) aI) d3)),?_⟩
  cases hx with
  | @var p y hp hy =>
    refine⟨_,rfl,p,_,_,_,rfl,rfl,SqT.of hp,at0,?_⟩
    rw [kin] at hq
    exact⟨_,rfl,rfl,_,rfl,yes_s ⟨_,rfl,p,_,_,_,rfl,rfl,SqT.of hp,at1,_,rfl,y,d,ρ,m,rfl,hd,hy,hq⟩⟩
  | @let_ p y a1 a2 b1 b2 hp h1 h2 =>
    simp only [Ex.ht] at hn
    rw [kin] at hq
    obtain⟨kvs,hk1,hk2,hk3⟩:=id hd
    refine⟨_,rfl,p,_,_,_,rfl,rfl,SqT.of hp,at0,?_⟩
    refine⟨_,rfl,rfl,_,rfl,no_s (by decide +kernel) ?_⟩
    refine⟨_,rfl,rfl,_,rfl,yes_s ⟨_,rfl,d,kvs,rfl,hk1,fun i hi=>?_⟩⟩
    have s1:=ad hi (.dK kvs)
    refine⟨_,rfl,p,_,_,_,rfl,rfl,SqT.of (s1 _ _ hp),at2,_,rfl,_,rfl,_,rfl,a1,d,g,mo,b1,ρ,m,fdc,C,rfl,h1.same s1,by omega,hd.same s1,by omega,mo0,mo1,s1 _ _ hg,hC.same s1,?_⟩
    cases hc:kin mo C ρ b1 with
    | no c =>
      rw [hc] at hq
      exact⟨hq.1,fun H' s'=>hq.2 H' (s1.trans s')⟩
    | ok kd =>
      rw [hc] at hq
      intro H2 u s2 hu2
      have s12:=s1.trans s2
      have hi2:=s2 _ _ (ac (H:=H) (a:=i) (o:=.dK kvs))
      refine⟨_,rfl,_,rfl,p,_,_,_,rfl,rfl,SqT.of (s12 _ _ hp),at1,i,_,rfl,qU.k (k:=Sum.inr y) hi2 (dJ (by omega)),?_⟩
      have s3:aH H (upd H2 i (.dK (bi kvs (Sum.inr y) u))):=jC s12 hi
      refine⟨_,rfl,p,_,_,_,rfl,rfl,SqT.of (s3 _ _ hp),at3,_,rfl,_,rfl,_,rfl,a2,i,g,mo,b2,(fun z=>if z=y then some kd else ρ z),m+1,fdc,C,rfl,h2.same s3,by omega,?_,by omega,mo0,mo1,s3 _ _ hg,hC.same s3,hq.same s3⟩
      refine⟨_,ac,Nat.le_trans (cg ..) (by omega),fun z=>?_⟩
      rw [fU]
      by_cases ez:z=y
      · subst ez
        refine .inr ⟨kd,u,if_pos rfl,if_pos rfl,⟨bq (fun a xs t=>?_) hu2.1,hu2.2⟩⟩
        rcases t with (t|⟨o,t⟩)|t
        · exact .inl (.inl (by rw [am (kr t hi2 (by intro z;cases z))];exact t))
        · exact .inl (.inr ⟨o,by rw [am (kr t hi2 (by intro z;cases z))];exact t⟩)
        · exact .inr t
      · rw [if_neg fun h=>ez (Sum.inr.inj h)]
        rcases hk3 z with ⟨e1,e2⟩|⟨k',u',e1,e2,e3⟩
        · exact .inl ⟨(if_neg ez).trans e1,e2⟩
        · exact .inr ⟨k',u',(if_neg ez).trans e1,e2,e3.same s3⟩
  | @nd p fm xs es hp hxs hlit =>
    simp only [Ex.ht] at hn
    obtain⟨z,r,e1,z1,z2,z3,z4,_⟩:=oS fm
    have hp':=hp
    rw [e1] at hp'
    refine⟨_,rfl,p,_,_,.str z,rfl,rfl,SqT.of hp',at0,?_⟩
    refine⟨_,rfl,rfl,_,rfl,no_s z2 ?_⟩
    refine⟨_,rfl,rfl,_,rfl,no_s z3 ?_⟩
    exact k3 p z xs es rfl hxs (fun e he=>by have:=lx he;omega) (by omega) (.inl ⟨fm,r,e1,z1,z4,hp,hlit,hq⟩)
  | @call p p2 q t xs es hp hp2 hxs htl =>
    simp only [Ex.ht] at hn
    refine⟨_,rfl,p,_,_,_,rfl,rfl,SqT.of hp,at0,?_⟩
    refine⟨_,rfl,rfl,_,rfl,no_s (by decide +kernel) ?_⟩
    refine⟨_,rfl,rfl,_,rfl,no_s (by decide +kernel) ?_⟩
    exact k3 p "call" xs es rfl hxs (fun e he=>by have:=lx he;omega) (by omega) (.inr ⟨p2,q,t,rfl,hp,hp2,htl,hq⟩)
abbrev Ps:=List (Str × Kd)
def PAt(K:W.Frag)(H:Hp)(x:V)(p:Str × Kd):Prop:=∃a u,x=.ref a/\H a=some (.tup [.str p.1,u])/\smW p.1/\KAt K H u p.2
theorem PAt.same{K:W.Frag}{H H':Hp}(s:aH H H'){x:V}{p:Str × Kd}(h:PAt K H x p):PAt K H' x p:=by
 obtain⟨a,u,e,h1,h2,h3⟩:=h
 exact⟨a,u,e,s _ _ h1,h2,h3.same s⟩
abbrev PsAt(K:W.Frag)(H:Hp):List V->Ps->Prop:=Paired (PAt K H)
def rhoP:Ps->Str->Option Kd
 |[]=>fun _=>none
 |p::r=>fun y=>if y=p.1 then some p.2 else rhoP r y
theorem hU:∀{ps:Ps} {s:Str},rhoP ps s=none↔s∉ps.map (·.1)
 |[],s=>by simp [rhoP]
 |p::r,s=>by
  unfold rhoP
  by_cases h:s=p.1
  ·simp [h]
  ·rw [if_neg h,hU];simp [h]
theorem jU:∀{ps:Ps} {x:Str} {k:Kd},x∉ps.map (·.1)->rhoP (ps++[(x,k)])=fun y=>if y=x then some k else rhoP ps y
 |[],x,k,_=>rfl
 |p::r,x,k,h=>by
  funext y
  have h1:x≠p.1:=fun e=>h (by simp [e])
  have h2:x∉r.map (·.1):=fun e=>h (List.mem_cons_of_mem _ e)
  show(if y=p.1 then some p.2 else rhoP (r++[(x,k)]) y)=if y=x then some k else (if y=p.1 then some p.2 else rhoP r y)
  rw [jU h2]
  by_cases e:y=p.1
  ·rw [if_pos e,if_neg (by rw [e];exact Ne.symm h1),if_pos e]
  ·rw [if_neg e,if_neg e]
def lookR(mo:Int)(C:Orc)(ps:Ps)(k:Kd)(e:Ex):Option Nat :=
 if (ps.map (·.1)).Nodup then (match kin mo C (rhoP ps) e with|.ok k'=>if k'=k then none else some 2|.no c=>some (if c < 4 then c else 9)) else some 4
def yi(cl:Nat->Addr)(r:Option Nat)(H:Hp)(Q:VK)(E:XK):Prop:=match r with
 |none=>∀H',aH H H'->Q .non H'
 |some c=>c < 5/\∀H',aH H H'->E (.ref (cl c)) none H'
def spLookB(P:Program)(w:World)(K:W.Frag)(mg:Str->Option Value)(base:Heap)(cl:Nat->Addr)(k n:Nat):Sp:=fun vs H Q E=>∃(a:Addr) (xs:List V) (xk xe:V) (f:Addr) (mo:Int) (ps:Ps) (kd:Kd) (e:Ex) (fd:FuncData) (C:Orc),vs=[.ref a,xk,xe,.ref f,.int mo]/\H a=some (.lst xs)/\PsAt K H xs ps/\ps.length<=100/\KAt K H xk kd/\ExAt H xe e/\e.ht<=n/\n<=300/\0<=mo/\mo<=10000/\H f=some (.fnc fd)/\OrcOk P w K mg base cl k f H C/\yi cl (lookR mo C ps kd e) H Q E
theorem jJ:aJ ["params","kind","expression","called","most","variables","word","its"] ["params","kind","expression","called","most"] (aj sLookB):=⟨rfl,rfl,rfl,by decide +kernel,rfl,by decide +kernel,by decide +kernel⟩
theorem ok_lookB{f fk fm:Addr}{dV:Value}{fd fdk fdm:FuncData}{k n:Nat} (F:jR K "look_at_body" "look_at_body" sLookB dV f fd) (m4:mg "Twice"=some (.ref (cl 4))) (x4:W.excIn K (cl 4) iM "ValueError.__new__"=true)
  (GK:aV P w K mg base (CX1 P w) (k+3+n) fk fdk kiP (xE P w K mg base cl k n)) (bK:aL K fdk kiP []) (kK:W.keepIn K (.ref fk)=true) (mK:mg "kind_in"=some (.ref fk))
  (GD:aV P w K mg base (CX1 P w) 1 fm fdm ["does","what"] (tP (cl 2))) (bD:aL K fdm ["does","what"] []) (kD:W.keepIn K (.ref fm)=true) (mD:mg "demand"=some (.ref fm)) :
  aV P w K mg base (CX1 P w) (k+3+n+1) f fd ["params","kind","expression","called","most"] (spLookB P w K mg base cl k n):=by
 refine F.okX (k:=k+3+n) jJ (fun vs H Q E h=>?_) (fun cdv A outer s H vs Q E hrk h=>?_)
 ·obtain⟨_,_,_,_,_,_,_,_,_,_,_,rfl,_⟩:=h
  rfl
 obtain⟨a,xs,xk,xe,g,mo,ps,kd,e,fdc,C,rfl,hxs,hps,hl9,hk,he,hn,hn3,mo0,mo1,hg,hC,hq⟩:=h
 have hu:=fH hrk
 have hu64:=gf hrk
 have hr1:cA 1 _:=hrk.mono (by omega)
 refine⟨_,@ah _ _ _ _ _ (ay (i:=5) jJ.nd rfl (Or.inl rfl) ju) (@ah _ _ _ _ _ (gu PassesOwn.leaving rfl (qg (pv 0)) (eT rfl (aU (aY (i:=6) jJ.nd rfl (Or.inl rfl)) (aU (aY (i:=7) jJ.nd rfl (Or.inl rfl)) dG))) (@ah _ _ _ _ _ (bc (fN (nL hu (pv 6) (pv 5))) (@ao _ _ _ (bE rfl m4 x4 (@aa _ _ _ _ _ (cI (az ai (az (dN (pv 6)) (az ai dW))) (by decide)) ae rfl))) aI) (@ao _ _ _ (ig hu (pv 5) (pv 6) (pv 7) rfl)))) (@ao _ _ _ (aO (au GD hr1 rfl mD kD bD .nil cB (@aa _ _ _ _ _ (cH (gz hu64) (au GK hrk rfl mK kK bK .nil cB (@aa _ _ _ _ _ (pv 2) (@aa _ _ _ _ _ (pv 5) (@aa _ _ _ _ _ (pv 3) (@aa _ _ _ _ _ (pv 4) ae rfl) rfl) rfl) rfl)) (pv 1) (aE _)) (@aa _ _ _ _ _ ai ae rfl) rfl))))),?_⟩
 refine fun d hd=>?_
 have s1:=ad hd (.dK [])
 have hpl:=hps.length
 refine⟨_,rfl,a,rfl,⟨xs,SqL.of (s1 _ _ hxs)⟩,mG (xs:=xs) (fun i σ H3=>∃v6 v7 kvs,σ=[some (.ref a),some xk,some xe,some (.ref g),some (.int mo),some (.ref d),v6,v7]/\aH H H3/\H3 a=some (.lst xs)/\H3 d=some (.dK kvs)/\kvs.length<=i/\((ps.take i).map (·.1)).Nodup/\oz K H3 d (rhoP (ps.take i)) i) ?_ ?_ ?_ ?_⟩
 ·exact⟨none,none,[],rfl,s1,s1 _ _ hxs,ac,Nat.le_refl _,by simp,[],ac,Nat.le_refl _,fun s=>.inl ⟨rfl,rfl⟩⟩
 ·rintro i σ H3 _ ⟨_,_,_,_,_,h,_⟩
  exact SqL.of h
 ·rintro i x σ H3 hx ⟨v6,v7,kvs,rfl,s3,h3,hk3,hkl,hnd,hv⟩
  obtain⟨⟨sw,kw⟩,hp,b,u,rfl,hb,hsw,hku⟩:=cz hps hx
  have hi9:i < ps.length:=(List.getElem?_eq_some_iff.mp hp).1
  obtain⟨kvs',hk3',_,hvs⟩:=id hv
  rw [hk3] at hk3'
  obtain rfl:kvs=kvs':=HO.dK.inj (Option.some.inj hk3')
  refine⟨b,_,rfl,SqT.of (s3 _ _ hb),rfl,_,_,rfl,_,_,rfl,rfl,?_⟩
  refine⟨_,rfl,_,rfl,d,_,rfl,eK.k (k:=Sum.inr sw) hk3,_,rfl,dH (fun c=>?_) (fun c=>?_)⟩
  ·have hin:sw∈(ps.take i).map (·.1):=by
    by_cases z:sw∈(ps.take i).map (·.1)
    ·exact z
    ·exfalso
     have:=hU.mpr z
     rcases hvs sw with ⟨_,e2⟩|⟨_,_,e1,_⟩
     ·rw [e2] at c;cases c
     ·rw [this] at e1;cases e1
   have h4:¬(ps.map (·.1)).Nodup:=fun hn'=>by
    rw [(i7 hp).choose_spec,List.map_append,List.map_cons] at hn'
    have:=(List.nodup_append.mp hn').2.2 sw hin sw (by simp)
    exact this rfl
   unfold lookR at hq
   rw [if_neg h4] at hq
   exact⟨_,rfl,by decide +kernel,_,rfl,.inl ⟨sw,rfl,Nat.le_trans hsw.2 (by decide),_,rfl,Nat.le_trans hsw.2 (by decide),_,rfl,by decide +kernel,fun z hz=>⟨(szQ 1),hq.2 _ s3⟩⟩⟩
  ·have hni:sw∉(ps.take i).map (·.1):=fun z=>by
    apply c
    rcases hvs sw with ⟨e1,_⟩|⟨_,_,_,e2,_⟩
    ·exact absurd z (hU.mp e1)
    ·rw [e2];rfl
   refine⟨_,rfl,_,rfl,_,rfl,d,_,rfl,qU.k (k:=Sum.inr sw) hk3 (dJ (by omega)),?_⟩
   have e1:ps.take (i+1)=ps.take i++[(sw,kw)]:=(kG hp).symm
   have kp:∀a xs,SqT K H3 a xs->SqT K (upd H3 d (.dK (bi kvs (Sum.inr sw) u))) a xs:=fun a xs t=>by
    rcases t with (t|⟨o,t⟩)|t
    ·exact .inl (.inl (by rw [am (kr t hk3 (by intro z;cases z))];exact t))
    ·exact .inl (.inr ⟨o,by rw [am (kr t hk3 (by intro z;cases z))];exact t⟩)
    ·exact .inr t
   refine⟨_,_,_,rfl,jC s3 hd,(by rw [am (kr h3 hk3 (by intro z;cases z))];exact h3),ac,Nat.le_trans (cg ..) (by omega),?_,_,ac,Nat.le_trans (cg ..) (by omega),fun z=>?_⟩
   ·rw [e1,List.map_append]
    refine List.nodup_append.mpr ⟨hnd,by simp,fun x hx y hy=>?_⟩
    rcases List.mem_singleton.mp hy with rfl
    exact fun e=>hni (e▸hx)
   ·rw [e1,jU hni,fU]
    by_cases ez:z=sw
    ·subst ez
     have hku':=hku.same s3
     exact .inr ⟨kw,u,if_pos rfl,if_pos rfl,⟨bq kp hku'.1,hku'.2⟩⟩
    ·rw [if_neg fun h=>ez (Sum.inr.inj h)]
     rcases hvs z with ⟨e1,e2⟩|⟨k',u',e1,e2,e3⟩
     ·exact .inl ⟨(if_neg ez).trans e1,e2⟩
     ·exact .inr ⟨k',u',(if_neg ez).trans e1,e2,⟨bq kp e3.1,e3.2⟩⟩
 ·rintro σ H3 ⟨v6,v7,kvs,rfl,s3,h3,hk3,hkl,hnd,hv⟩
  rw [hpl,List.take_length] at hnd hv
  unfold lookR at hq
  rw [if_pos hnd] at hq
  refine⟨_,rfl,_,rfl,_,rfl,_,rfl,xe,d,g,mo,e,rhoP ps,ps.length,fdc,C,rfl,he.same s3,hn,hv,by omega,mo0,mo1,s3 _ _ hg,hC.same s3,?_⟩
  cases hkn:kin mo C (rhoP ps) e with
  |no c =>
   rw [hkn] at hq
   replace hq:yi cl (some (if c < 4 then c else 9)) H Q E:=hq
   by_cases hc4:c < 4
   ·rw [if_pos hc4] at hq
    exact⟨hc4,fun H' s'=>hq.2 _ (s3.trans s')⟩
   ·rw [if_neg hc4] at hq
    exact absurd hq.1 (by decide)
  |ok k' =>
   rw [hkn] at hq
   intro H4 u s4 hu4
   have hk4:=(hk.same s3).same s4
   refine⟨_,rfl,_,_,kd_dat hu4.1,kd_dat hk4.1,sm_shaped hu4.2,sm_shaped hk4.2,_,"a function's expression",rfl,by decide +kernel,?_⟩
   show if PyData.eqv (Kd.dat k') (Kd.dat kd)=true then _ else _
   rw [eqv_dat]
   by_cases c:k'=kd
   ·rw [decide_eq_true c]
    replace hq:yi cl (if k'=kd then none else some 2) H Q E:=hq
    rw [if_pos c] at hq
    exact dZ (hq _ (s3.trans s4))
   ·rw [decide_eq_false c]
    replace hq:yi cl (if k'=kd then none else some 2) H Q E:=hq
    rw [if_neg c] at hq
    exact ce (hq.2 _ (s3.trans s4))
end
def cellOf(ns:List Int)(k:Int):Int :=
 if k < (ns.length:Int) then (match atI (ns.map V.int) k with|some (.int v)=>v|_=>0)
 else if 0 < (ns.length:Int) then (match atI (ns.map V.int) (k*7%(ns.length:Int)) with|some (.int v)=>((v*48271+k*7919)%2147483647)*((v*48271+k*7919)%2147483647)%2147483629|_=>0)
 else (k*7919+5)*(k*7919+5)%2147483629
def spCell(K:W.Frag):Sp:=fun vs H Q _=>∃(a:Addr) (ns:List Int) (k:Int),vs=[.ref a,.int k]/\SqL K H a (ns.map V.int)/\ns.length<=63/\0<=k/\k<=1000/\Q (.int (cellOf ns k)) H
def spPick(K:W.Frag):Sp:=fun vs H Q _=>∃(a:Addr) (ns:List Int) (k m:Int),vs=[.ref a,.int k,.int m]/\SqL K H a (ns.map V.int)/\ns.length<=63/\0<=k/\k<=1000/\0 < m/\∀r:Int,0<=r->r < m->Q (.int r) H
def spSize(K:W.Frag):Sp:=fun vs H Q _=>∃(a:Addr) (ns:List Int) (k:Int),vs=[.ref a,.int k]/\SqL K H a (ns.map V.int)/\ns.length<=63/\0<=k/\k<=1000/\∀(n:Int) H',aH H H'->0 < n->n<=10 ^ 18->Q (.int n) H'
abbrev eX:Str:=Str.ofString "abcdefghijklmnopqrstuvwxyz"
def lt(i:Int):Nat:=eX.cps.toList.getD (i%26).toNat 0
theorem l26:eX.cps.toList.length=26:=by decide +kernel
theorem lz:eX.length<=sizeLine:=by decide +kernel
theorem o7(i:Int):0<=i%26/\i%26 < 26:=⟨Int.emod_nonneg _ (by decide),Int.emod_lt_of_pos _ (by decide)⟩
theorem uN{α:Type}{xs:List α}{i:Int}{d:α}(h0:0<=i)(h1:i < xs.length):atI xs i=some (xs.getD i.toNat d):=by
 have hk:i.toNat < xs.length:=by omega
 have e:i=((i.toNat:Nat):Int):=by omega
 have q:atI xs ((i.toNat:Nat):Int)=some (xs.getD i.toNat d):=eZ (by rw [List.getD_eq_getElem?_getD,List.getElem?_eq_getElem hk]<;>rfl)
 rw [<-e] at q
 exact q
theorem xR(i:Int):atI eX.cps.toList (i%26)=some (lt i):=uN (o7 i).1 (by rw [l26];exact(o7 i).2)
theorem ya:∀a < 26,∀b < 26,eX.cps.toList.getD a 0=eX.cps.toList.getD b 0->a=b:=by decide +kernel
theorem ss:∀a < 26,eX.cps.toList.getD a 0 < 0x110000:=by decide +kernel
theorem wX{i j:Int}(h:lt i=lt j):i%26=j%26:=by
 have h1:=o7 i
 have h2:=o7 j
 have:=ya (i%26).toNat (by omega) (j%26).toNat (by omega) h
 omega
theorem yN(i:Int):lt i < 0x110000:=by
 have h1:=o7 i
 exact ss (i%26).toNat (by omega)
abbrev szs:List Int:=[0,2,3,5,8,11]
def lO(c:Int):Int:=szs.getD (c / 26%6).toNat 0
theorem xU:∀a < 6,0<=szs.getD a 0/\szs.getD a 0<=11:=by decide +kernel
theorem zE(i:Int):0<=i%6/\i%6 < 6:=⟨Int.emod_nonneg _ (by decide),Int.emod_lt_of_pos _ (by decide)⟩
theorem uU(c:Int):0<=lO c/\lO c<=11:=xU _ (by have:=zE (c / 26);omega)
theorem yU(c:Int):atI (szs.map V.int) (c / 26%6)=some (.int (lO c)):=by
 have h1:=zE (c / 26)
 rw [uN (xs:=szs.map V.int) (d:=.int 0) h1.1 h1.2]
 unfold lO
 rw [List.getD_eq_getElem?_getD,List.getD_eq_getElem?_getD,List.getElem?_map,List.getElem?_eq_getElem (show(c / 26%6).toNat < szs.length by show _ < 6;omega)]
 rfl
def le(c:Int):Int:=c / 156%(lO c+1)
theorem xj(c:Int):0<=le c/\le c<=lO c:=by
 have:=uU c
 have h1:=Int.emod_nonneg (c / 156) (show lO c+1≠0 by omega)
 have h2:=Int.emod_lt_of_pos (c / 156) (show 0 < lO c+1 by omega)
 unfold le
 omega
def sg1(i:Int):Str:=⟨#[lt i]⟩
def wd(c m:Int):Str:=Txt.mul (sg1 c) (le c)++sg1 m++Txt.mul (sg1 c) (lO c - le c)
abbrev cps(x:Str):List Nat:=x.cps.toList
theorem cps_app(a b:Str):cps (a++b)=cps a++cps b:=by
 show(a.cps++b.cps).toList=_
 rw [Array.toList_append]
theorem wd_ne{c:Int}{i j:Int}(hi:0<=i/\i < 26)(hj:0<=j/\j < 26)(h:wd c i=wd c j):i=j:=by
 have h0:=congrArg cps h
 unfold wd at h0
 rw [cps_app,cps_app,cps_app,cps_app] at h0
 have h1:=List.append_cancel_left (List.append_cancel_right h0)
 have h2:=wX (List.cons.inj h1).1
 omega
theorem rR(i:Int):PyData.strOk (sg1 i)=true:=by
 rw [jl]
 intro d hd
 have:d=lt i:=by simpa [sg1] using hd
 rw [this]
 exact yN i
theorem gL(i:Int){n:Int}(h0:0<=n)(h1:n<=11):((Txt.mul (sg1 i) n).length:Int)<=n:=by
 have e:=PyProof.Rows.len_mul (sg1 i) n
 rw [if_neg (by rw [decide_eq_true_iff];omega)] at e
 have e1:((Str.length (sg1 i):Nat):Int)=1:=rfl
 rw [e1] at e
 omega
theorem wd_sm(c m:Int):smW (wd c m):=by
 have h1:=uU c
 have h2:=xj c
 have l1:=gL c (n:=le c) (by omega) (by omega)
 have l2:=gL c (n:=lO c - le c) (by omega) (by omega)
 have l3:(sg1 m).length=1:=rfl
 refine⟨qz (qz (qI (rR c) _) (rR m)) (qI (rR c) _),?_⟩
 unfold wd
 rw [iu,iu]
 omega
def spWord:Sp:=fun vs H Q _=>∃c m:Int,vs=[.int c,.int m]/\∀H',aH H H'->Q (.str (wd c m)) H'
section
variable{P:Program}{w:World}{K:W.Frag}{mg:Str->Option Value}{base:Heap}
theorem pT:aJ ["_law_script","_law_k","_law_number"] ["_law_script","_law_k"] (aj sCell):=⟨rfl,rfl,rfl,by decide +kernel,rfl,by decide +kernel,by decide +kernel⟩
theorem ok_cell{f:Addr}{fd:FuncData} (F:Fun K "_law_cell" "_law_cell" sCell f fd) (ml:mg "len"=none):aV P w K mg base CX0 1 f fd ["_law_script","_law_k"] (spCell K):=by
 refine F.ok pT (fun vs H Q E h=>?_) (fun cdv A outer s H vs Q E hr h=>?_)
 ·obtain⟨a,ns,k,rfl,_⟩:=h
  rfl
 obtain⟨a,ns,k,rfl,hS,h63,h0,h1,q⟩:=h
 refine⟨_,@ah _ _ _ _ _ (bc (aB yx (pv 1) (bU aR rfl ml boot_len (@aa _ _ _ _ _ (pv 0) ae rfl)) (aE _)) (@ao _ _ _ (@aM _ _ _ _ (aq ap (pv 0) (pv 1) (fun _ _=>rfl)))) aI) (@ah _ _ _ _ _ (ay (i:=2) pT.nd rfl (Or.inl rfl) (bt fK (bt ie (pv 1) ag) ag)) (@ah _ _ _ _ _ (bc (aB mh (bU aR rfl ml boot_len (@aa _ _ _ _ _ (pv 0) ae rfl)) ag (aE _)) (@ao _ _ _ (ay (i:=2) pT.nd rfl (Or.inl rfl) (bt eg (bt fK (bt ie (aq ap (pv 0) (bt eg (bt ie (pv 1) ag) (bU aR rfl ml boot_len (@aa _ _ _ _ _ (pv 0) ae rfl))) (fun _ _=>rfl)) ag) (bt ie (pv 1) ag)) ag))) aI) (@ao _ _ _ (@aM _ _ _ _ (bt eg (bt ie (pv 2) (pv 2)) ag))))),?_⟩
 have hl:(ns.map V.int).length=ns.length:=List.length_map _
 unfold cellOf at q
 refine⟨_,rfl,_,rfl,a,_,rfl,.inl hS,_,_,rfl,rfl,_,rfl,?_⟩
 refine dH (fun c=>?_) (fun c=>?_)
 ·have c':k < (((ns.map V.int).length:Nat):Int):=of_decide_eq_true c
  rw [hl] at c'
  obtain⟨v,hv⟩:=uJ (ns:=ns) h0 c'
  rw [if_pos c',hv] at q
  exact⟨_,rfl,_,rfl,a,_,_,_,rfl,rfl,hS,hv,q⟩
 ·have c':¬k < (((ns.map V.int).length:Nat):Int):=of_decide_eq_false (Bool.eq_false_iff.mpr c)
  rw [hl] at c'
  rw [if_neg c'] at q
  refine⟨_,rfl,_,_,rfl,rfl,.inr ⟨by omega,by omega⟩,_,_,rfl,rfl,?_⟩
  refine⟨_,rfl,a,_,rfl,.inl hS,_,_,rfl,rfl,_,rfl,?_⟩
  refine dH (fun d=>?_) (fun d=>?_)
  ·have d':0 < (((ns.map V.int).length:Nat):Int):=of_decide_eq_true d
   rw [hl] at d'
   obtain⟨v,hv⟩:=uJ (ns:=ns) (i:=k*7%(((ns.map V.int).length:Nat):Int)) (by rw [hl];exact Int.emod_nonneg _ (by omega)) (by rw [hl];exact Int.emod_lt_of_pos _ d')
   have hv':=hv
   rw [hl] at hv'
   rw [if_pos d',hv'] at q
   refine⟨_,rfl,_,rfl,_,_,rfl,rfl,.inr ⟨by omega,by omega⟩,_,rfl,a,_,rfl,.inl hS,_,_,rfl,rfl,(by rw [hl];exact d'),a,_,_,_,rfl,rfl,hS,hv,?_⟩
   refine⟨_,_,rfl,rfl,.inr ⟨by omega,by omega⟩,_,rfl,_,_,rfl,rfl,.inr ⟨by omega,by omega⟩,_,_,rfl,rfl,_,_,rfl,rfl,(by show(0:Int) < 2147483647;decide),?_⟩
   have g0:=Int.emod_nonneg (v*48271+k*7919) (show(2147483647:Int)≠0 by decide)
   have g1:=Int.emod_lt_of_pos (v*48271+k*7919) (show(0:Int) < 2147483647 by decide)
   refine⟨_,rfl,_,rfl,_,_,rfl,rfl,?_,_,_,rfl,rfl,(by show(0:Int) < 2147483629;decide),q⟩
   exact Or.inl ⟨Int.lt_of_lt_of_le (by decide) g0,Int.lt_trans g1 (by decide)⟩
  ·have d':¬0 < (((ns.map V.int).length:Nat):Int):=of_decide_eq_false (Bool.eq_false_iff.mpr d)
   rw [hl] at d'
   rw [if_neg d'] at q
   exact⟨_,rfl,_,rfl,_,_,rfl,rfl,.inl ⟨by omega,by omega⟩,_,_,rfl,rfl,(by show(0:Int) < 2147483629;decide),q⟩
theorem xX:aJ ["_law_script","_law_k","_law_many"] ["_law_script","_law_k","_law_many"] (aj sPick):=⟨rfl,rfl,rfl,by decide +kernel,rfl,by decide +kernel,by decide +kernel⟩
theorem ok_pick{f fC:Addr}{fd fdC:FuncData} (F:Fun K "_law_pick" "_law_pick" sPick f fd) (GC:aV P w K mg base CX0 1 fC fdC ["_law_script","_law_k"] (spCell K)) (bC:aL K fdC ["_law_script","_law_k"] []) (kC:W.keepIn K (.ref fC)=true) (mC:mg "_law_cell"=some (.ref fC)):aV P w K mg base CX0 2 f fd ["_law_script","_law_k","_law_many"] (spPick K):=by
 refine F.ok xX (fun vs H Q E h=>?_) (fun cdv A outer s H vs Q E hr1 h=>?_)
 ·obtain⟨_,_,_,_,rfl,_⟩:=h
  rfl
 obtain⟨a,ns,k,m,rfl,hS,h63,h0,h1,hm,q⟩:=h
 refine⟨_,@ao _ _ _ (@aM _ _ _ _ (bt eg (bt eg (bt fK (bt ie (au GC hr1 rfl mC kC bC .nil bQ (@aa _ _ _ _ _ (pv 0) (@aa _ _ _ _ _ (pv 1) ae rfl) rfl)) ag) (bt ie (pv 1) ag)) ag) (pv 2))),?_⟩
 refine⟨_,rfl,_,rfl,a,ns,k,rfl,hS,h63,h0,h1,?_⟩
 refine⟨_,_,rfl,rfl,.inr ⟨by omega,by omega⟩,_,rfl,_,_,rfl,rfl,.inr ⟨by omega,by omega⟩,_,_,rfl,rfl,_,_,rfl,rfl,(by show(0:Int) < 1000003;decide),_,rfl,_,_,rfl,rfl,hm,?_⟩
 exact q _ (Int.emod_nonneg _ (by omega)) (Int.emod_lt_of_pos _ hm)
theorem jT:aJ ["_law_cell_here","_law_mark","_law_letters","_law_size_here","_law_at","_law_sign"] ["_law_cell_here","_law_mark"] (aj sWord):=⟨rfl,rfl,rfl,by decide +kernel,rfl,by decide +kernel,by decide +kernel⟩
theorem ok_word{f:Addr}{fd:FuncData} (F:Fun K "_law_word" "_law_word" sWord f fd):aV P w K mg base CX0 1 f fd ["_law_cell_here","_law_mark"] spWord:=by
 refine F.ok jT (fun vs H Q E h=>?_) (fun cdv A outer s H vs Q E hr h=>?_)
 ·obtain⟨_,_,rfl,_⟩:=h
  rfl
 obtain⟨c,m,rfl,q⟩:=h
 refine⟨_,@ah _ _ _ _ _ (ay (i:=2) jT.nd rfl (Or.inl rfl) ai) (@ah _ _ _ _ _ (ay (i:=3) jT.nd rfl (Or.inl rfl) (aq ap (dq (@aa _ _ _ _ _ ag (@aa _ _ _ _ _ ag (@aa _ _ _ _ _ ag (@aa _ _ _ _ _ ag (@aa _ _ _ _ _ ag (@aa _ _ _ _ _ ag ae rfl) rfl) rfl) rfl) rfl) rfl)) (bt eg (bt lW (pv 0) ag) ag) (fun _ _=>rfl))) (@ah _ _ _ _ _ (ay (i:=4) jT.nd rfl (Or.inl rfl) (bt eg (bt lW (pv 0) ag) (bt fK (pv 3) ag))) (@ah _ _ _ _ _ (ay (i:=5) jT.nd rfl (Or.inl rfl) (aq pU (pv 2) (bt eg (pv 0) ag) (fun _ _=>rfl))) (@ao _ _ _ (@aM _ _ _ _ (bt jb (bt jb (bt rh (pv 5) (pv 4)) (aq pU (pv 2) (bt eg (pv 1) ag) (fun _ _=>rfl))) (bt rh (pv 5) (bt qQ (pv 3) (pv 4))))))))),?_⟩
 have z1:=uU c
 have z2:=xj c
 have l1:=gL c (n:=le c) (by omega) (by omega)
 have l2:=gL c (n:=lO c - le c) (by omega) (by omega)
 have l3:(sg1 m).length=1:=rfl
 refine⟨(szQ 6),fun l hl=>?_⟩
 have sL:=ad hl (.lst (szs.map V.int))
 refine⟨_,rfl,_,_,rfl,rfl,⟨by decide,by decide⟩,_,_,rfl,rfl,(by show(0:Int) < 6;decide),l,_,_,_,rfl,rfl,SqL.of ac,yU c,?_⟩
 refine⟨_,rfl,_,_,rfl,rfl,⟨by decide,by decide⟩,_,rfl,_,_,rfl,rfl,_,_,rfl,rfl,(by show(0:Int) < lO c+1;omega),?_⟩
 refine⟨_,rfl,_,rfl,_,_,rfl,rfl,(by show(0:Int) < 26;decide),_,_,_,rfl,rfl,lz,xR c,?_⟩
 refine⟨_,rfl,_,rfl,_,_,rfl,rfl,gZ (by show 0<=le c;omega) (by show le c<=1000;omega) (by show 1<=1000;decide),?_⟩
 refine⟨_,rfl,_,rfl,_,_,rfl,rfl,(by show(0:Int) < 26;decide),_,_,_,rfl,rfl,lz,xR m,?_⟩
 refine⟨_,_,rfl,rfl,iB (by show(Txt.mul (sg1 c) (le c)).length+(sg1 m).length<=30000;omega),?_⟩
 refine⟨_,rfl,_,rfl,_,rfl,_,_,rfl,rfl,_,_,rfl,rfl,gZ (by show 0<=lO c - le c;omega) (by show lO c - le c<=1000;omega) (by show 1<=1000;decide),?_⟩
 refine⟨_,_,rfl,rfl,iB (by show(Txt.mul (sg1 c) (le c)++sg1 m).length+(Txt.mul (sg1 c) (lO c - le c)).length<=30000;rw [iu];omega),?_⟩
 exact q _ sL
theorem oV:aJ ["_law_script","_law_k","_law_cell_here","_law_sizes"] ["_law_script","_law_k"] (aj sSize):=⟨rfl,rfl,rfl,by decide +kernel,rfl,by decide +kernel,by decide +kernel⟩
theorem ok_size{f fC fP:Addr}{fd fdC fdP:FuncData} (F:Fun K "_law_size" "_law_size" sSize f fd) (GC:aV P w K mg base CX0 1 fC fdC ["_law_script","_law_k"] (spCell K)) (bC:aL K fdC ["_law_script","_law_k"] []) (kC:W.keepIn K (.ref fC)=true) (mC:mg "_law_cell"=some (.ref fC))
  (GP:aV P w K mg base CX0 2 fP fdP ["_law_script","_law_k","_law_many"] (spPick K)) (bP:aL K fdP ["_law_script","_law_k","_law_many"] []) (kP:W.keepIn K (.ref fP)=true) (mP:mg "_law_pick"=some (.ref fP)):aV P w K mg base CX0 3 f fd ["_law_script","_law_k"] (spSize K):=by
 refine F.ok oV (fun vs H Q E h=>?_) (fun cdv A outer s H vs Q E hr2 h=>?_)
 ·obtain⟨_,_,_,rfl,_⟩:=h
  rfl
 obtain⟨a,ns,k,rfl,hS,h63,h0,h1,q⟩:=h
 have hr1:cA 1 _:=hr2.mono (by decide)
 refine⟨_,@ah _ _ _ _ _ (ay (i:=2) oV.nd rfl (Or.inl rfl) (au GC hr1 rfl mC kC bC .nil bQ (@aa _ _ _ _ _ (pv 0) (@aa _ _ _ _ _ (pv 1) ae rfl) rfl))) (@ah _ _ _ _ _ (ay (i:=3) oV.nd rfl (Or.inl rfl) (dq (@aa _ _ _ _ _ ag (@aa _ _ _ _ _ (bt fK ag (bt eg (pv 2) ag)) (@aa _ _ _ _ _ (bt fK ag (bt eg (pv 2) (bt ut ag ag))) (@aa _ _ _ _ _ (bt ut ag ag) ae rfl) rfl) rfl) rfl))) (@ao _ _ _ (@aM _ _ _ _ (aq ap (pv 3) (au GP hr2 rfl mP kP bP .nil bQ (@aa _ _ _ _ _ (pv 0) (@aa _ _ _ _ _ (pv 1) (@aa _ _ _ _ _ ag ae rfl) rfl) rfl)) (fun _ _=>rfl))))),?_⟩
 refine⟨_,rfl,_,rfl,a,ns,k,rfl,hS,h63,h0,h1,?_⟩
 generalize cellOf ns k=c
 have a0:=Int.emod_nonneg c (show(7:Int)≠0 by decide)
 have a1:=Int.emod_lt_of_pos c (show(0:Int) < 7 by decide)
 have e18:(10:Int) ^ (18:Int).toNat=10 ^ 18:=rfl
 have p18:(0:Int) < 10 ^ 18:=by decide
 have b0:=Int.emod_nonneg c (show(10 ^ 18:Int)≠0 by decide)
 have b1:=Int.emod_lt_of_pos c p18
 refine⟨_,rfl,_,_,rfl,rfl,(by show(0:Int) < 7;decide),_,_,rfl,rfl,?_⟩
 refine⟨_,rfl,_,_,rfl,rfl,⟨by decide,by decide,by decide⟩,_,_,rfl,rfl,p18,_,_,rfl,rfl,?_⟩
 refine⟨_,_,rfl,rfl,⟨by decide,by decide,by decide⟩,(szQ 4),fun l hl=>?_⟩
 have sL:=ad hl (.lst [.int 2,.int (1+c%7),.int (1+c%10 ^ 18),.int (10 ^ 18)])
 refine⟨_,rfl,_,rfl,_,rfl,a,ns,k,4,rfl,tq sL hS,h63,h0,h1,by decide,fun r r0 r1=>?_⟩
 have key:∃n:Int,atI [V.int 2,.int (1+c%7),.int (1+c%10 ^ 18),.int (10 ^ 18)] r=some (.int n)/\0 < n/\n<=10 ^ 18:=by
  have:r=0\/r=1\/r=2\/r=3:=by omega
  rcases this with rfl|rfl|rfl|rfl
  ·exact⟨_,rfl,by decide,by decide⟩
  ·exact⟨_,rfl,by omega,by omega⟩
  ·exact⟨_,rfl,by omega,by omega⟩
  ·exact⟨_,rfl,by decide,by decide⟩
 obtain⟨n,hn,n0,n1⟩:=key
 exact⟨l,_,_,_,rfl,rfl,SqL.of ac,hn,q n _ sL n0 n1⟩
end
end J53
namespace K53
open PySem L2 Kk
def gX(m2:ba)(parts:bH):Str->Str->Option (List Kd × Kd):=fun q t=>if q="" then look m2 t else (look parts q).bind fun r=>look r.2 t
def o5(o:Option (List Kd × Kd))(K:W.Frag)(H:Hp)(Q:VK)(X:Prop):Prop:=(o=none/\X)\/∃f,o=some f/\∀v,cY K H v f->Q v H
abbrev PR(K:W.Frag)(H:Hp)(CF:Addr):V->bh × ba->Prop:=fun v r=>∃fa,v=.ref fa/\iK K H CF fa r.1 r.2
def fR(K:W.Frag)(CF CN:Addr):Sp:=fun vs H Q E=>∃(q t:Str) (o p:Addr) (okv pkv:List (Key × V)) (m2:ba) (parts:bH),
 vs=[.str q,.str t,.ref o,.ref p]/\okW q/\okW t/\H o=some (.dK okv)/\cW (cY K H) okv m2/\H p=some (.dK pkv)/\cW (PR K H CF) pkv parts/\o5 (gX m2 parts q t) K H Q (E (.ref CN) none H)
abbrev tfN:List Str:=["part","word","own","parts","funs"]
abbrev tfP:List Str:=["part","word","own","parts"]
section
variable{P:Program}{w:World}{K:W.Frag}{mg:Str->Option Value}{base:Heap}
theorem gW:aJ tfN tfP (aj dA):=⟨rfl,rfl,rfl,by decide +kernel,rfl,by decide +kernel,by decide +kernel⟩
theorem oJ{f CF CN:Addr}{fd:FuncData} (F:Fun K "told_fun" "told_fun" dA f fd) (cF:Cls K CF) (nF:bx K CF "funs") (mN:mg "NoName"=some (.ref CN)) (xN:W.excIn K CN iM "ValueError.__new__"=true) :
  aV P w K mg base (CX1 P w) 1 f fd tfP (fR K CF CN):=by
 refine F.okX gW (fun vs H Q E h=>?_) (fun cdv A outer s H vs Q E hr h=>?_)
 ·obtain⟨q,t,o,p,okv,pkv,OG,PG,rfl,_⟩:=h
  rfl
 obtain⟨q,t,o,p,okv,pkv,m2,parts,rfl,hq,ht,ho,hO,hp,hP,hT⟩:=h
 have hu:=fH hr
 have lq:q.length<=100000:=Nat.le_trans hq.2 (by decide)
 have lt:t.length<=100000:=Nat.le_trans ht.2 (by decide)
 have zq:q.length<=sizeLine:=Nat.le_trans lq (by decide)
 have zt:t.length<=sizeLine:=Nat.le_trans lt (by decide)
 obtain⟨u1,d1,k1⟩:∃t',PSs (dI (CX1 P w) P w K mg base tfN "told_fun" (aj dA) f cdv A outer s H E) (List.drop 1 (aw dA)) t' /\
   ∀(d:Addr) (kvs:List (Key × V)) (g:ba),H d=some (.dK kvs)->cW (cY K H) kvs g->o5 (look g t) K H Q (E (.ref CN) none H) ->
    t' { nx:=fun _ H'=>Q .non H',rt:=Q } [some (.str q),some (.str t),some (.ref o),some (.ref p),some (.ref d)] H:=by
  refine⟨_,ah (bc (fN (eC hu (pv 1) (pv 4)) (by with_unfolding_all rfl))
    (ao (bE rfl mN xN (aa (cI (az ai (az (sY (pv 1)) (az ai (az (sY (pv 0)) dW)))) (by decide)) ae))) aI)
   (ao (aM (dc hu (pv 4) (pv 1) (fun _ _=>rfl)))),?_⟩
  intro d kvs g hd hg hT
  refine⟨_,rfl,_,rfl,d,_,rfl,eK.k (k:=.inr t) hd,_,rfl,?_⟩
  rcases cr hg t with ⟨h1,h2⟩|⟨v,k,h1,h2,h3⟩
  ·rw [h1]
   rcases hT with ⟨_,hE⟩|⟨k,hk,_⟩
   ·refine dZ ⟨_,rfl,by decide +kernel,_,rfl,t,rfl,ht.1,Nat.le_trans ht.2 (by decide),fun z hz=>⟨z,rfl,Nat.le_trans hz (by decide),_,rfl,by decide +kernel,_,rfl,q,rfl,hq.1,Nat.le_trans hq.2 (by decide),fun z2 hz2=>⟨z2,rfl,Nat.le_trans hz2 (by decide),fun z3 hz3=>⟨(szQ 1),hE⟩⟩⟩⟩
   ·rw [h2] at hk
    cases hk
  ·rw [h1]
   rcases hT with ⟨hn,_⟩|⟨k',hk,hQ⟩
   ·rw [h2] at hn
    cases hn
   ·rw [h2] at hk
    cases hk
    exact ce ⟨_,rfl,_,rfl,d,v,rfl,h1▸eK.k (k:=.inr t) hd,hQ v h3⟩
 refine⟨_,ah (bc (aB bu (pv 0) ai (aE _)) (ao (ay (i:=4) gW.nd rfl (Or.inl rfl) (pv 2)))
   (ao (bc (fN (nL hu (pv 0) (pv 3)) (by with_unfolding_all rfl)) (ao (ay (i:=4) gW.nd rfl (Or.inl rfl) (cO (dc hu (pv 3) (pv 0) (fun _ _=>rfl)) rfl)))
    (ao (bE rfl mN xN (aa (cI (az ai (az (dN (pv 0)) (az ai (az (dN (pv 0)) (az ai (az (dN (pv 1)) dW)))))) (by decide)) ae)))))) d1,?_⟩
 refine⟨_,rfl,rfl,_,rfl,?_⟩
 refine dH (fun c=>?_) (fun c=>?_)
 ·have c':V.str q=V.str "":=of_decide_eq_true c
  have e:q="":=by injection c'
  have hT':o5 (look m2 t) K H Q (E (.ref CN) none H):=by
   unfold gX at hT
   rw [if_pos e] at hT
   exact hT
  exact⟨_,rfl,k1 o okv m2 ho hO hT'⟩
 ·have c':¬q="":=fun e=>c (decide_eq_true (by rw [e]))
  have hT':o5 ((look parts q).bind fun r=>look r.2 t) K H Q (E (.ref CN) none H):=by
   unfold gX at hT
   rw [if_neg c'] at hT
   exact hT
  refine⟨_,rfl,_,rfl,p,_,rfl,eK.k (k:=.inr q) hp,_,rfl,?_⟩
  rcases cr hP q with ⟨h1,h2⟩|⟨v,r,h1,h2,h3⟩
  ·rw [h1]
   rw [h2] at hT'
   rcases hT' with ⟨_,hE⟩|⟨k,hk,_⟩
   ·refine ce ⟨_,rfl,by decide +kernel,_,rfl,.inl ⟨q,rfl,zq,q,rfl,Nat.le_trans lq (by decide),_,rfl,by decide +kernel,_,rfl,.inl ⟨q,rfl,zq,q,rfl,Nat.le_trans lq (by decide),_,rfl,by decide +kernel,_,rfl,.inl ⟨t,rfl,zt,t,rfl,Nat.le_trans lt (by decide),fun z3 hz3=>⟨(szQ 1),hE⟩⟩⟩⟩⟩
   ·cases hk
  ·rw [h1]
   rw [h2] at hT'
   obtain⟨a,rfl,dx,d1',d2',fs,kv1,kv2,h4,h5,h6,h7,h8,h9,h10,_⟩:=h3
   exact dZ ⟨_,rfl,_,rfl,p,.ref a,rfl,h1▸eK.k (k:=.inr q) hp,a,CF,dx,fs,_,rfl,h4,cF,nF,h6,k1 d2' kv2 r.2 h8 h10 hT'⟩
abbrev gM:Stmt:=(aw ib).getD 0 (.Pass ⟨0,0,0,0⟩)
abbrev iL:Str:=("look_at_fun"++".<locals>.":Str)++"called"
abbrev vU:Array Value:=#[.int 170 0,.int 4 0,.str iL 0]
abbrev caN:List Str:=["part","word"]
abbrev caC:List Str:=["parts","ahead"]
abbrev cX(c a1 a2:Addr)(doc pm ctv:Value):FuncData:=W.fnX "called" iL (aD gM) (aw gM) (aj gM) (caC.zip [a1,a2]) .none .none doc pm none (.ref c) ctv
def yL(K:W.Frag)(H:Hp)(CF fa pa:Addr)(m2:ba)(parts:bH):Prop:=∃dx fs d2 okv pkv,H fa=some (.ins CF dx fs)/\fs.lookup ("funs":Str)=some (.ref d2)/\H d2=some (.dK okv)/\cW (cY K H) okv m2/\H pa=some (.dK pkv)/\cW (PR K H CF) pkv parts
def pN(K:W.Frag)(CF CN:Addr):Sp:=fun vs H Q E=>∃(pa fa:Addr) (q t:Str) (m2:ba) (parts:bH),vs=[.ref pa,.ref fa,.str q,.str t]/\okW q/\okW t/\yL K H CF fa pa m2 parts/\o5 (gX m2 parts q t) K H Q (E (.ref CN) none H)
theorem pE:jN caN caC (aj gM):=⟨rfl,rfl,rfl,by decide +kernel,by decide +kernel,by decide +kernel,by decide +kernel,by decide +kernel⟩
theorem pZ{f c a1 a2 pa fa CF CN fT:Addr}{fdT:FuncData}{doc pm ctv:Value}(cF:Cls K CF) (nF:bx K CF "funs") (nd:[a1,a2].Nodup)
  (GT:aV P w K mg base (CX1 P w) 1 fT fdT tfP (fR K CF CN)) (bT:aL K fdT tfP []) (kT:W.keepIn K (.ref fT)=true) (mT:mg "told_fun"=some (.ref fT)) :
  aV P w K mg base (CX1 P w) 2 f (cX c a1 a2 doc pm ctv) caN (xl f (cX c a1 a2 doc pm ctv) c iL [a1,a2] [.ref pa,.ref fa] caN.length (fun vs H Q E=>pN K CF CN (.ref pa::.ref fa::vs) H Q E)):=by
 refine tf (k:=1) zG pE rfl nd fun A outer s H vs Q E hr h _=>?_
 refine⟨_,ao (aM (au GT hr rfl mT kT bT .nil y9 (aa (pv 0) (aa (pv 1) (aa (cO (pv 3) rfl) (aa (pv 2) ae)))))),?_⟩
 obtain⟨pa',fa',q,t,m2,parts,e,hq,ht,⟨dx,fs,d2,okv,pkv,h1,h2,h3,h4,h5,h6⟩,hT⟩:=h
 cases e
 exact⟨_,rfl,_,rfl,_,rfl,fa,CF,dx,fs,_,rfl,h1,cF,nF,h2,_,rfl,q,t,d2,pa,okv,pkv,m2,parts,rfl,hq,ht,h3,h4,h5,h6,hT⟩
theorem tz{c a1 a2:Addr}{doc pm ctv:Value}:aL K (cX c a1 a2 doc pm ctv) caN []:=.all fun us hl=>match us,hl with|[_,_],_=>rfl
end
def toC:Nat->Nat
 |0=>4
 |1=>0
 |2=>5
 |3=>3
 |n+4=>n+10
def clA(cx:Nat->Addr):Nat->Addr:=fun n=>cx (toC n)
theorem yr:∀{k:Kd},Kd.ok k->J53.Kd.ok k
 |.num _,_=>trivial
 |.name _ _,h=>h
 |.pair _ _,h=>⟨yr h.1,yr h.2⟩
theorem yf{k:Kd}(h:KB k):J53.Kd.sm k:=by
 have:=J53.depth_half k
 have:=h.2
 exact⟨yr h.1,by omega,by omega⟩
theorem rZ{K:W.Frag}{H:Hp}{v:V}{f:List Kd × Kd}(h:cY K H v f)(hl:f.1.length<=4)(hk:∀k∈f.2::f.1,KB k):J53.ToldAt K H v f.1 f.2:=by
 obtain⟨p,ta,x,xs,rfl,h1,h2,h3,h4⟩:=h
 refine⟨p,ta,xs,x,rfl,h1,h2,?_,⟨h4,yf (hk _ (.head _))⟩,by omega⟩
 have go:∀{xs:List V} {ks:List Kd},cE K H xs ks->(∀k∈ks,KB k)->J53.KsAt K H xs ks:=by
  intro xs ks h
  induction h with
  |nil=>exact fun _=>.nil
  |cons a r ih=>exact fun hk=>.cons ⟨a,yf (hk _ (.head _))⟩ (ih fun k h=>hk k (.tail _ h))
 exact go h3 fun k h=>hk k (.tail _ h)
theorem xv{m2:ba}{parts:bH}{q t:Str}{f:List Kd × Kd}(h2:Ok2 m2)(hp:qu parts)(h:gX m2 parts q t=some f):f.1.length<=4/\∀k∈f.2::f.1,KB k:=by
 unfold gX at h
 by_cases c:q=""
 ·rw [if_pos c] at h
  exact(h2 _ (cK h)).2
 ·rw [if_neg c] at h
  cases hl:look parts q with
  |none=>rw [hl] at h;cases h
  |some r =>
   rw [hl] at h
   exact((hp _ (cK hl)).2.1 _ (cK (show look r.2 t=some f from h))).2
def cq(parts:bH)(m1:bh)(m2:ba)(ps:List (Str × Kd))(k:Kd)(e:J53.Ex):Option Nat:=match bn (tl m1 parts) 40 (ps.map (·.2)) with
 |.no c=>some (toC c)
 |.ok ks=>match cR (tl m1 parts) 40 k with
  |.no c=>some (toC c)
  |.ok k'=>J53.lookR 40 (gX m2 parts) ((ps.map (·.1)).zip ks) k' e
def zw(cx:Nat->Addr)(r:Option Nat)(H:Hp)(Q:VK)(E:XK):Prop:=match r with
 |none=>∀H',aH H H'->Q .non H'
 |some c=>c < 6/\∀H',aH H H'->E (.ref (cx c)) none H'
theorem sU{mo:Int}{C:J53.Orc}{ps:J53.Ps}{k:Kd}{e:J53.Ex}{c:Nat}(h:J53.lookR mo C ps k e=some c)(h6:c < 6):c < 5:=by
 unfold J53.lookR at h
 split at h
 ·split at h
  ·split at h
   ·cases h
   ·cases h;decide
  ·split at h
   ·cases h;omega
   ·cases h;omega
 ·cases h;decide
def FnI(K:W.Frag)(H:Hp)(v:V)(z:Str)(ps:List (Str × Kd))(k:Kd)(e:J53.Ex):Prop:=∃(p ta:Addr) (y xe:V) (xs:List V),v=.ref p/\SqT K H p [.str "fun",.str z,.ref ta,y,xe]/\SqT K H ta xs/\lJ K H xs ps/\bJ K H y k/\J53.ExAt H xe e
theorem FnI.same{K:W.Frag}{H H':Hp}{v:V}{z:Str}{ps:List (Str × Kd)}{k:Kd}{e:J53.Ex}(s:aH H H')(h:FnI K H v z ps k e):FnI K H' v z ps k e:=by
 obtain⟨p,ta,y,xe,xs,h0,h1,h2,h3,h4,h5⟩:=h
 exact⟨p,ta,y,xe,xs,h0,s.tup h1,s.tup h2,Paired.mapP h3 fun _ _ t=>t.keep fun _ _ t=>s.tup t,h4.same s,h5.same s⟩
theorem FnI.it{K:W.Frag}{H:Hp}{v:V}{z:Str}{ps:List (Str × Kd)}{k:Kd}{e:J53.Ex}(h:FnI K H v z ps k e):lU K H v (.fn z ps k):=by
 obtain⟨p,ta,y,xe,xs,h0,h1,h2,h3,h4,h5⟩:=h
 exact⟨p,ta,y,xe,xs,h0,h1,h2,h3,h4⟩
def yd(z:Str)(ps:List (Str × Kd))(k:Kd)(e:J53.Ex):Prop:=vN (.fn z ps k)/\(∀q∈ps,okW q.1)/\e.ht<=8
def qM(K:W.Frag)(CF T:Addr)(cx:Nat->Addr):Sp:=fun vs H Q E=>∃(fa d1 d2:Addr) (v:V) (pa:Addr) (m1:bh) (m2:ba) (parts:bH) (z:Str) (ps:List (Str × Kd)) (k:Kd) (e:J53.Ex),vs=[v,.ref fa,.ref pa]/\H T=some (.tbl vU)/\dg K H CF fa d1 d2 m1 m2/\FnI K H v z ps k e/\yd z ps k e/\fc K H CF pa parts/\qu parts/\Ok1 m1/\Ok2 m2/\zw cx (cq parts m1 m2 ps k e) H Q E
theorem m7{H H':Hp}{ads:List Addr}(s:aH (dropC ads H) H'):aH H (kU ads H H'):=fun b o e=>by
 unfold kU
 by_cases hb:b∈ads
 ·rw [if_pos hb];exact e
 ·rw [if_neg hb];exact s _ _ (by rw [ck hb];exact e)
theorem sq{H H':Hp}{ads:List Addr}(n:∀a∈ads,H' a=none):aH H' (kU ads H H'):=fun b o e=>by
 unfold kU
 by_cases hb:b∈ads
 ·rw [n b hb] at e;cases e
 ·rw [if_neg hb];exact e
theorem sr{H:Hp}{f c:Addr}{q:Str}{fd:FuncData}(hf:H f=none)(hfc:f≠c)(hc:H c=none\/H c=some (.cod q)):aH H (upd (upd H c (.cod q)) f (.fnc fd)):=by
 have s1:aH H (upd H c (.cod q)):=by
  rcases hc with hc|hc
  ·exact ad hc _
  ·intro b o e
   by_cases hb:b=c
   ·subst hb;rw [ac];rw [hc] at e;exact e
   ·rw [am hb];exact e
 exact s1.trans (ad (by rw [am hfc];exact hf) _)
theorem mn:∀qs:J53.Ps,(qs.map (·.1)).zip (qs.map (·.2))=qs
 |[]=>rfl
 |q::qs=>by
  show(q.1,q.2)::((qs.map (·.1)).zip (qs.map (·.2)))=_
  rw [mn qs]
theorem nv{α β:Type}{R:α->β->Prop}{a:α}{b:β}(h:R a b):∀{xs:List α} {ys:List β},Paired R xs ys->Paired R (xs++[a]) (ys++[b])
 |_,_,.nil=>.cons h .nil
 |_,_,.cons c r=>.cons c (nv h r)
abbrev lfN:List Str:=["item","ahead","parts","called","params"]
abbrev lfP:List Str:=["item","ahead","parts"]
section
variable{P:Program}{w:World}{K:W.Frag}{mg:Str->Option Value}{base:Heap}{cx:Nat->Addr}
theorem ye{a1 a2 fT fa pa CF d1 d2:Addr}{fdT:FuncData}{m1:bh}{m2:ba}{parts:bH}{H1 H2:Hp}{g cc:Addr}{doc pm ctv:Value}(cF:Cls K CF) (nF:bx K CF "funs") (nd:[a1,a2].Nodup)
  (GT:aV P w K mg base (CX1 P w) 1 fT fdT tfP (fR K CF (cx 0))) (bT:aL K fdT tfP []) (kT:W.keepIn K (.ref fT)=true) (mT:mg "told_fun"=some (.ref fT))
  (hF:dg K H1 CF fa d1 d2 m1 m2) (hP:fc K H1 CF pa parts) (h2:Ok2 m2) (hp:qu parts) (hg:H1 g=some (.fnc (cX cc a1 a2 doc pm ctv))) (hc:H1 cc=some (.cod iL)) (s:aH H1 H2) (n:∀c∈[a1,a2],H1 c=none) (fz:il H2 [a1,a2] [.ref pa,.ref fa]):J53.OrcOk P w K mg base cx 2 g H2 (gX m2 parts):=fun q t H7 w1 w2 s7 Q E hQ=>by
 have fz7:=fz.same s7
 have s8:aH H1 (dropC [a1,a2] H7):=(s.trans s7).dropC n
 obtain⟨dx,fs,kv1,kv2,FA⟩:=hF
 have FB:=FA.same s8
 obtain⟨pkv,hpa,hpk⟩:=hP
 have hpk8:cW (PR K (dropC [a1,a2] H7) CF) pkv parts:=hpk.imp fun v r ⟨fa,e,h⟩=>⟨fa,e,h.same s8⟩
 refine⟨_,caN,_,s7 _ _ (s _ _ hg),pZ (pa:=pa) (fa:=fa) cF nF nd GT bT kT mT,tz,rfl,s7 _ _ (s _ _ hg),s7 _ _ (s _ _ hc),fz7,pa,fa,q,t,m2,parts,rfl,w1,w2,⟨dx,fs,d2,kv2,pkv,FB.obj,FB.ff,FB.h2,FB.p2,s8 _ _ hpa,hpk8⟩,?_⟩
 rcases hQ with ⟨e1,hE⟩|⟨us,kd,e1,hQ⟩
 ·exact .inl ⟨e1,fun nC=>hE _ (m7 (aH.refl _))⟩
 ·refine .inr ⟨_,e1,fun v hv nC=>?_⟩
  obtain⟨k1,k2⟩:=xv h2 hp e1
  exact hQ _ _ (m7 (aH.refl _)) ((rZ hv k1 k2).same (sq nC))
theorem lP:aJ lfN lfP (aj ib):=⟨rfl,rfl,rfl,by decide +kernel,rfl,by decide +kernel,by decide +kernel⟩
theorem sk{f fT fn fb c T CF TD TB:Addr}{fd fdT fdn fdb:FuncData}{tk1 tk2:Tok} (F:uF K "look_at_fun" "look_at_fun" ib f fd c T) (X:K.In base) (cF:Cls K CF) (nK:bx K CF "kinds") (nF:bx K CF "funs")
  (GT:aV P w K mg base (CX1 P w) 1 fT fdT tfP (fR K CF (cx 0))) (bT:aL K fdT tfP []) (kT:W.keepIn K (.ref fT)=true) (mT:mg "told_fun"=some (.ref fT))
  (GN:aV P w K mg base (CX1 P w) 41 fn fdn ["kind","own","parts","most"] (jw K CF (clA cx 2) (clA cx 3))) (bN:aL K fdn ["kind","own","parts","most"] [.int 40 tk1]) (kN:W.keepIn K (.ref fn)=true) (mN:mg "normal"=some (.ref fn))
  (GB:aV P w K mg base (CX1 P w) 14 fb fdb ["params","kind","expression","called","most"] (J53.spLookB P w K mg base cx 2 8)) (bB:aL K fdb ["params","kind","expression","called","most"] [.int 40 tk2]) (kB:W.keepIn K (.ref fb)=true) (mB:mg "look_at_body"=some (.ref fb)) :
  aV P w K mg base (CX1 P w) 42 f fd lfP (qM K CF T cx):=by
 have C0:=F.code X
 refine F.okG (k:=41) lP (fun vs H Q E h=>?_) (fun A outer s H vs Q E hrN h=>?_)
 ·obtain⟨_,_,_,_,_,_,_,_,_,_,_,_,rfl,_⟩:=h
  rfl
 obtain⟨fa,d1,d2,v,pa,m1,m2,parts,z,ps,k,e,rfl,hT,hF,hI,⟨⟨_,hps,hpk',hk⟩,hpw,hht⟩,hP,hPo,ho1,ho2,hR⟩:=h
 have hu:=fH hrN
 have hrB:cA 14 _:=hrN.mono (by decide)
 refine⟨_,ah (xz (ident:="called") (P:=T) (q:=iL) (i:=3) lP.nd rfl (Or.inl rfl) rfl C0 rfl)
  (ah (sd (i0:=4) (own:=["word","kind"]) (caps:=["ahead","parts"]) (κ:=[1,2]) (g:=zk K 2 (qR (fJ 0) (qR (fJ 1) yC))) lP.nd rfl (Or.inl rfl) ⟨rfl,by decide +kernel,by decide +kernel,rfl,rfl,(fun y hy=>by simp only [List.mem_cons,List.not_mem_nil,or_false] at hy;rcases hy with rfl|rfl<;>rfl),(fun y hy=>by simp only [List.mem_cons,List.not_mem_nil,or_false] at hy;rcases hy with rfl|rfl<;>exact⟨.inl rfl,rfl,.inl rfl⟩)⟩ rfl
    (nw (aq aG (pv 0) ag (fun _ _=>rfl))) (fun _ _ _ _ _=>eT rfl (aU (aY (i:=0) (show(["word","kind","ahead","parts"]:List Str).Nodup from by decide +kernel) rfl (Or.inl rfl)) (aU (aY (i:=1) (show(["word","kind","ahead","parts"]:List Str).Nodup from by decide +kernel) rfl (Or.inl rfl)) dG)))
    (fun _ _ _ _ _ hps=>ak (aa (pv 0) (aa (au GN hrN rfl mN kN bN (dvs:=[.int 40]) (.cons ⟨_,rfl⟩ .nil) hps (aa (pv 1) (aa (qy (K:=K) rfl (pv 2) rfl) (aa (pv 3) ae)))) ae))))
  (ao (aO (sR (l:=[(2,"parts",_),(1,"ahead",_)]) zG GB hrB rfl mB kB bB (dvs:=[.int 40]) (.cons ⟨_,rfl⟩ .nil) cB (.cons rfl rfl rfl rfl (.cons rfl rfl rfl rfl .nil)) (show(["parts","ahead"]:List Str).Nodup from by decide +kernel)
    (aa (pv 4) (aa (au GN hrN rfl mN kN bN (dvs:=[.int 40]) (.cons ⟨_,rfl⟩ .nil) cB (aa (aq aG (pv 0) ag (fun _ _=>rfl)) (aa (cO (pv 1) rfl) (aa (pv 2) ae)))) (aa (aq aG (pv 0) ag (fun _ _=>rfl)) (aa (pv 3) ae)))))))),?_⟩
 refine⟨⟨_,hT,rfl⟩,fun g cc ctv doc hg hgc hcc=>?_⟩
 have s1:=sr (fd:=cX cc (s.heap.objs.size+2) (s.heap.objs.size+1) doc ((mg "__name__").getD .none) ctv) hg hgc hcc
 have hg1:upd (upd H cc (.cod iL)) g (.fnc (cX cc (s.heap.objs.size+2) (s.heap.objs.size+1) doc ((mg "__name__").getD .none) ctv)) g=_:=ac
 have hc1:upd (upd H cc (.cod iL)) g (.fnc (cX cc (s.heap.objs.size+2) (s.heap.objs.size+1) doc ((mg "__name__").getD .none) ctv)) cc=some (.cod iL):=by rw [am (Ne.symm hgc),ac]
 generalize hH1:upd (upd H cc (.cod iL)) g (.fnc (cX cc (s.heap.objs.size+2) (s.heap.objs.size+1) doc ((mg "__name__").getD .none) ctv))=H1 at s1 hg1 hc1
 show zm _ _ _ _ (upd (upd H cc (.cod iL)) g (.fnc (cX cc (s.heap.objs.size+2) (s.heap.objs.size+1) doc ((mg "__name__").getD .none) ctv)))
 rw [hH1]
 obtain⟨pkv,hpa,hpk⟩:=id hP
 obtain⟨dx,fs,kv1,kv2,FA⟩:=id hF
 have hG:=sO ho1 hPo
 have PA:∀{H':Hp},aH H H'->eh K H' CF pkv (PGo parts):=fun e=>(uM hpk).same e
 obtain⟨p,ta,y,xe,xs,rfl,hp,hta,hxs,hy,hxe⟩:=id hI
 have hlen:xs.length=ps.length:=Paired.length hxs
 refine⟨_,rfl,_,_,_,_,rfl,rfl,s1.tup hp,(show atI [V.str "fun",.str z,.ref ta,y,xe] 2=some (.ref ta) from rfl),ta,rfl,⟨_,s1.tup hta⟩,?_⟩
 refine ud (s1.tup hta) (by omega) (fun i ys H3=>ys.length<=i/\∃qs:J53.Ps,J53.PsAt K H3 ys qs/\qs.map (·.1)=(ps.map (·.1)).take i/\bn (tl m1 parts) 40 ((ps.map (·.2)).take i)=.ok (qs.map (·.2))) ⟨Nat.le_refl _,[],.nil,rfl,rfl⟩ (fun i ys H2 h=>h.1) ?_ ?_
 ·rintro i x ys H2 N hN hx s2 ⟨hyl,qs,hqs,hqn,hno⟩
  obtain⟨⟨t,g'⟩,hq,p',yk,rfl,hp',hyk⟩:=cz hxs hx
  replace hp':SqT K H p' [.str t,yk]:=hp'
  replace hyk:bJ K H yk g':=hyk
  have hm:=List.mem_of_getElem? hq
  have hg':ItK g':=hpk' (t,g') hm
  have hq2:(ps.map (·.2))[i]?=some g':=by rw [List.getElem?_map,hq];rfl
  have hq1:(ps.map (·.1))[i]?=some t:=by rw [List.getElem?_map,hq];rfl
  have s02:=s1.trans s2
  have F2:=FA.same s02
  refine⟨p',_,rfl,s02.tup hp',rfl,_,_,rfl,_,_,rfl,rfl,rfl,pe ?_⟩
  have hNn:NrR (clA cx) K H2 (fun v H6=>Wf HO.tup [.str t,v] H6 fun x H7=>N (ys++[x]) H7) E (cR (tl m1 parts) 40 g'):=by
   cases hn:cR (tl m1 parts) 40 g' with
   |no c =>
    have e:=kg hno hq2 hn
    unfold cq at hR
    simp only [e] at hR
    exact fun H' s'=>hR.2 H' (s02.trans s')
   |ok k' =>
    intro H' s' v hv
    refine⟨(szQ 2),fun p2 hp2=>?_⟩
    have s3:=ad hp2 (.tup [.str t,v])
    obtain⟨e1,e2⟩:=dO hn
    have kb:KB k':=⟨by rw [e1];exact(dE hG hg').2,by omega⟩
    refine hN _ _ (s2.trans (s'.trans s3)) ⟨by rw [List.length_append];show ys.length+1<=i+1;omega,qs++[(t,k')],?_,?_,?_⟩
    ·exact nv ⟨p2,v,rfl,ac,hpw (t,g') hm,hv.same s3,yf kb⟩ (Paired.mapP hqs fun _ _ t=>t.same (s'.trans s3))
    ·rw [List.map_append,hqn,List.take_add_one,hq1];rfl
    ·rw [List.map_append]
     exact iP hno hq2 hn
  refine⟨_,rfl,_,rfl,_,rfl,fa,CF,dx,fs,_,rfl,F2.obj,cF,nK,F2.fk,_,rfl,?_⟩
  exact⟨yk,g',d1,pa,40,kv1,pkv,look m1,PGo parts,rfl,hyk.same s02,rS hg',qS hg',dR hg'.1,by decide,by decide,F2.h1,oo F2.p1,s02 _ _ hpa,PA s02,fun H' s' e=>hNn.two H' s' e,fun e=>⟨(dE hG hg').1,fun H' s'=>hNn.rest e H' s'⟩⟩
 ·rintro ys H2 D s2 ⟨hyl,qs,hqs,hqn,hno⟩ hD
  rw [hlen,show ps.length=(ps.map (·.1)).length from(List.length_map ..).symm,List.take_length] at hqn
  rw [hlen,show ps.length=(ps.map (·.2)).length from(List.length_map ..).symm,List.take_length] at hno
  have s3:=s2.trans (ad hD (.lst ys))
  have hqs3:J53.PsAt K _ ys qs:=Paired.mapP hqs fun _ _ t=>t.same (ad hD (.lst ys))
  have hD3:=ac (H:=H2) (a:=D) (o:=.lst ys)
  show fJ 4 (.ref D) _ (upd H2 D (.lst ys)) _
  generalize upd H2 D (.lst ys)=H3 at s3 hqs3 hD3
  have s13:=s1.trans s3
  have F3:=FA.same s13
  have hzip:(ps.map (·.1)).zip (qs.map (·.2))=qs:=by rw [<-hqn];exact mn qs
  have hql:qs.length=ps.length:=by rw [<-List.length_map (f:=(·.1)),hqn,List.length_map]
  refine⟨_,rfl,_,rfl,_,_,_,_,rfl,rfl,s13.tup hp,(show atI [V.str "fun",.str z,.ref ta,y,xe] 3=some y from rfl),_,rfl,fa,CF,dx,fs,_,rfl,F3.obj,cF,nK,F3.fk,_,rfl,?_⟩
  have bad:∀{c:Nat},cR (tl m1 parts) 40 k=.no c->∀H',aH H3 H'->E (.ref (clA cx c)) none H':=fun {c} hn H' s'=>by
   unfold cq at hR
   simp only [hno,hn] at hR
   exact hR.2 H' (s13.trans s')
  refine⟨y,k,d1,pa,40,kv1,pkv,look m1,PGo parts,rfl,hy.same s13,rS hk,qS hk,dR hk.1,by decide,by decide,F3.h1,oo F3.p1,s13 _ _ hpa,PA s13,fun H' s' e=>bad (uA e) H' s',fun en=>⟨(dE hG hk).1,fun H' s'=>?_⟩⟩
  by_cases c:((Kd.put (iJ (look m1) (PGo parts)) k).words:Int) > 40
  ·rw [if_pos c]
   exact bad (ui en c) H' s'
  rw [if_neg c]
  intro v hv
  have hn:cR (tl m1 parts) 40 k=.ok (Kd.put (tl m1 parts) k):=qA en c
  obtain⟨_,e2⟩:=dO hn
  have kb:KB (Kd.put (tl m1 parts) k):=⟨(dE hG hk).2,by omega⟩
  have s14:=s13.trans s'
  refine⟨_,rfl,_,_,_,_,rfl,rfl,s14.tup hp,(show atI [V.str "fun",.str z,.ref ta,y,xe] 4=some xe from rfl),_,rfl,[.ref pa,.ref fa],.cons rfl (.cons rfl .nil),fun H5 e5 s6 n6 fz=>?_⟩
  have s3':=s3.trans s'
  have nd:([s.heap.objs.size+2,s.heap.objs.size+1]:List Nat).Nodup:=by simp
  have hPz:fc K H' CF pa parts:=⟨pkv,s14 _ _ hpa,hpk.imp fun v r ⟨fa,e,h⟩=>⟨fa,e,h.same s14⟩⟩
  refine⟨D,ys,v,xe,g,40,qs,Kd.put (tl m1 parts) k,e,_,gX m2 parts,rfl,(s'.trans s6) _ _ hD3,Paired.mapP hqs3 fun _ _ t=>t.same (s'.trans s6),by omega,⟨hv.same s6,yf kb⟩,hxe.same (s14.trans s6),hht,by decide,by decide,by decide,s6 _ _ (s3' _ _ hg1),ye cF nF nd GT bT kT mT ⟨_,_,_,_,FA.same s14⟩ hPz ho2 hPo (s3' _ _ hg1) (s3' _ _ hc1) s6 n6 fz,?_⟩
  have sD:∀{H':Hp},aH H5 H'->aH _ (dropC [s.heap.objs.size+2,s.heap.objs.size+1] H'):=fun s'=>(s6.trans s').dropC n6
  have hlk:cq parts m1 m2 ps k e=J53.lookR 40 (gX m2 parts) qs (Kd.put (tl m1 parts) k) e:=by
   unfold cq
   simp only [hno,hn,hzip]
  rw [hlk] at hR
  cases hl:J53.lookR 40 (gX m2 parts) qs (Kd.put (tl m1 parts) k) e with
  |none =>
   rw [hl] at hR
   exact fun H6 s7=>hR _ (s14.trans (sD s7))
  |some c9 =>
   rw [hl] at hR
   exact⟨sU hl hR.1,fun H6 s7=>hR.2 _ (s14.trans (sD s7))⟩
theorem fV{α:Type}:∀(b m n:List (Str × α)),aQ m b=some n->n=m++b
 |[],m,n,h=>by
  cases h
  rw [List.append_nil]
 |q::b,m,n,h=>by
  unfold aQ at h
  by_cases c:q.1∈m.map (·.1)
  ·rw [if_pos c] at h
   cases h
  ·rw [if_neg c] at h
   rw [fV b _ _ h,List.append_assoc]
   rfl
theorem lD{parts:bH}{M:Int}{m1 n1:bh}{m2 n2:ba}{it:It}(hP:qu parts)(hM:M<=60)(h1:Ok1 m1)(hi:vN it)(h:cC parts M m1 m2 it=.ok n1 n2):Ok1 n1/\n1.length<=m1.length+5/\n2.length<=m2.length+5:=by
 have hG:=sO h1 hP
 cases it with
 |kind w k =>
  unfold cC at h
  cases hn:cR (tl m1 parts) M k with
  |no c=>simp only [hn] at h;cases h
  |ok k' =>
   simp only [hn] at h
   by_cases c:w∈m1.map (·.1)
   ·simp only [if_pos c] at h;cases h
   ·simp only [if_neg c] at h
    injection h with e1 e2
    subst e1 e2
    obtain⟨e,hw⟩:=dO hn
    refine⟨fun q hq=>?_,by rw [List.length_append];show m1.length+1<=_;omega,by omega⟩
    rcases List.mem_append.mp hq with hq|hq
    ·exact h1 q hq
    ·rw [List.mem_singleton.mp hq]
     exact⟨hi.1,by rw [e];exact(dE hG hi.2).2,by show k'.words<=60;omega⟩
 |fn w ps k =>
  unfold cC at h
  cases hn:bn (tl m1 parts) M (ps.map (·.2)) with
  |no c=>simp only [hn] at h;cases h
  |ok ks =>
   simp only [hn] at h
   cases hn2:cR (tl m1 parts) M k with
   |no c=>simp only [hn2] at h;cases h
   |ok k' =>
    simp only [hn2] at h
    by_cases c:w∈m2.map (·.1)
    ·simp only [if_pos c] at h;cases h
    ·simp only [if_neg c] at h
     injection h with e1 e2
     subst e1 e2
     exact⟨h1,by omega,by rw [List.length_append];show m2.length+1<=_;omega⟩
 |opn p =>
  rw [jI] at h
  unfold jQ at h
  cases hl:look parts p with
  |none=>simp only [hl] at h;cases h
  |some r =>
   simp only [hl] at h
   obtain⟨o1,o2,r1,r2,_⟩:=hP _ (cK hl)
   cases ha:aQ m1 r.1 with
   |none=>simp only [ha] at h;cases h
   |some a1 =>
    simp only [ha] at h
    cases hb:aQ m2 r.2 with
    |none=>simp only [hb] at h;cases h
    |some a2 =>
     simp only [hb] at h
     injection h with e1 e2
     subst e1 e2
     have z1:=fV _ _ _ ha
     have z2:=fV _ _ _ hb
     replace r1:r.1.length<=5:=r1
     replace r2:r.2.length<=5:=r2
     refine⟨fun q hq=>?_,by rw [z1,List.length_append];omega,by rw [z2,List.length_append];omega⟩
     rw [z1] at hq
     rcases List.mem_append.mp hq with hq|hq
     ·exact h1 q hq
     ·exact o1 q hq
theorem my{T:Str × Str->Option Kd}(hG:∀n g,T n=some g->KB g){M:Int}(hM:M<=60):∀{ks ls:List Kd},bn T M ks=.ok ls->(∀k∈ks,ItK k)->ls.length=ks.length/\∀k∈ls,KB k
 |[],ls,h,_=>by
  cases h
  exact⟨rfl,fun _ h=>nomatch h⟩
 |k::ks,ls,h,hk=>by
  unfold bn at h
  cases hn:cR T M k with
  |no c=>rw [hn] at h;cases h
  |ok k' =>
   rw [hn] at h
   cases hs:bn T M ks with
   |no c=>simp only [hs] at h;cases h
   |ok l =>
    simp only [hs] at h
    injection h with h
    subst h
    obtain⟨e1,e2⟩:=my hG hM hs fun k h=>hk k (.tail _ h)
    obtain⟨e,hw⟩:=dO hn
    refine⟨by rw [List.length_cons,List.length_cons,e1],fun x hx=>?_⟩
    rcases List.mem_cons.mp hx with rfl|hx
    ·exact⟨by rw [e];exact(dE hG (hk k (.head _))).2,by omega⟩
    ·exact e2 x hx
theorem jE{parts:bH}{M:Int}{m1 n1:bh}{m2 n2:ba}{it:It}(hP:qu parts)(hM:M<=60)(h1:Ok1 m1)(h2:Ok2 m2)(hi:vN it)(h:cC parts M m1 m2 it=.ok n1 n2):Ok2 n2:=by
 have hG:=sO h1 hP
 cases it with
 |kind w k =>
  unfold cC at h
  cases hn:cR (tl m1 parts) M k with
  |no c=>simp only [hn] at h;cases h
  |ok k' =>
   simp only [hn] at h
   by_cases c:w∈m1.map (·.1)
   ·simp only [if_pos c] at h;cases h
   ·simp only [if_neg c] at h
    injection h with e1 e2
    subst e1 e2
    exact h2
 |fn w ps k =>
  unfold cC at h
  cases hn:bn (tl m1 parts) M (ps.map (·.2)) with
  |no c=>simp only [hn] at h;cases h
  |ok ks =>
   simp only [hn] at h
   cases hn2:cR (tl m1 parts) M k with
   |no c=>simp only [hn2] at h;cases h
   |ok k' =>
    simp only [hn2] at h
    by_cases c:w∈m2.map (·.1)
    ·simp only [if_pos c] at h;cases h
    ·simp only [if_neg c] at h
     injection h with e1 e2
     subst e1 e2
     obtain⟨i1,i2,i3,i4⟩:=hi
     obtain⟨e1,e2⟩:=my hG hM hn fun k hk=>by
      obtain⟨q,hq,rfl⟩:=List.mem_map.mp hk
      exact i3 q hq
     obtain⟨e,hw⟩:=dO hn2
     intro q hq
     rcases List.mem_append.mp hq with hq|hq
     ·exact h2 q hq
     ·rw [List.mem_singleton.mp hq]
      refine⟨i1,by rw [e1,List.length_map];exact i2,fun x hx=>?_⟩
      rcases List.mem_cons.mp hx with rfl|hx
      ·exact⟨by rw [e];exact(dE hG i4).2,by omega⟩
      ·exact e2 x hx
 |opn p =>
  rw [jI] at h
  unfold jQ at h
  cases hl:look parts p with
  |none=>simp only [hl] at h;cases h
  |some r =>
   simp only [hl] at h
   obtain⟨o1,o2,r1,r2,_⟩:=hP _ (cK hl)
   cases ha:aQ m1 r.1 with
   |none=>simp only [ha] at h;cases h
   |some a1 =>
    simp only [ha] at h
    cases hb:aQ m2 r.2 with
    |none=>simp only [hb] at h;cases h
    |some a2 =>
     simp only [hb] at h
     injection h with e1 e2
     subst e1 e2
     intro q hq
     rw [fV _ _ _ hb] at hq
     rcases List.mem_append.mp hq with hq|hq
     ·exact h2 q hq
     ·exact o2 q hq
abbrev IE:=It × J53.Ex
def gb(parts:bH)(m1:bh)(m2:ba):IE->Option Nat
 |(.fn _ ps k,e)=>cq parts m1 m2 ps k e
 |(.kind _ _,_)=>none
 |(.opn _,_)=>none
def lwR(parts:bH):bh->ba->List IE->Option Nat
 |_,_,[]=>none
 |m1,m2,i::r=>match gb parts m1 m2 i with
  |some c=>some c
  |none=>match cC parts 40 m1 m2 i.1 with
   |.ref c=>some (toC c)
   |.ok n1 n2=>lwR parts n1 n2 r
def d0(K:W.Frag)(H:Hp)(v:V):IE->Prop
 |(.fn z ps k,e)=>FnI K H v z ps k e
 |(.kind w k,_)=>lU K H v (.kind w k)
 |(.opn p,_)=>lU K H v (.opn p)
theorem d0.same{K:W.Frag}{H H':Hp}{v:V}(s:aH H H'):∀{i:IE},d0 K H v i->d0 K H' v i
 |(.fn _ _ _,_),h=>FnI.same s h
 |(.kind w k,_),h=>lU.same (it:=.kind w k) s h
 |(.opn p,_),h=>lU.same (it:=.opn p) s h
theorem d0.it{K:W.Frag}{H:Hp}{v:V}:∀{i:IE},d0 K H v i->lU K H v i.1
 |(.fn _ _ _,_),h=>FnI.it h
 |(.kind _ _,_),h=>h
 |(.opn _,_),h=>h
def sj:IE->Prop
 |(.fn z ps k,e)=>yd z ps k e
 |(.kind w k,_)=>vN (.kind w k)
 |(.opn p,_)=>vN (.opn p)
theorem sj.it:∀{i:IE},sj i->vN i.1
 |(.fn _ _ _,_),h=>h.1
 |(.kind _ _,_),h=>h
 |(.opn _,_),h=>h
abbrev lwN:List Str:=["items","parts","ahead","item"]
abbrev lwP:List Str:=["items","parts"]
def rl(K:W.Frag)(CF T:Addr)(cx:Nat->Addr):Sp:=fun vs H Q E=>∃(a:Addr) (xs:List V) (its:List IE) (pa:Addr) (parts:bH),vs=[.ref a,.ref pa]/\H T=some (.tbl vU)/\SqT K H a xs/\Paired (d0 K H) xs its/\(∀i∈its,sj i)/\its.length<=19/\fc K H CF pa parts/\qu parts/\zw cx (lwR parts [] [] its) H Q E
theorem l0:aJ lwN lwP (aj ja):=⟨rfl,rfl,rfl,by decide +kernel,rfl,by decide +kernel,by decide +kernel⟩
theorem sQ{f ft fi fl CF T:Addr}{fd fdt fdi fdl:FuncData}{tk:Tok} (F:Fun K "look_within" "look_within" ja f fd)
  (GT:aV P w K mg base (CX1 P w) 42 ft fdt tiP (ji K CF (clA cx))) (bT:aL K fdt tiP [.int 40 tk]) (kT:W.keepIn K (.ref ft)=true) (mT:mg "take_item"=some (.ref ft))
  (GL:aV P w K mg base (CX1 P w) 42 fl fdl lfP (qM K CF T cx)) (bL:aL K fdl lfP []) (kL:W.keepIn K (.ref fl)=true) (mL:mg "look_at_fun"=some (.ref fl))
  (GI:aV P w K mg base CX0 1 fi fdi ["self","kinds","funs"] (lA CF)) (bI:aL K fdi ["self","kinds","funs"] []) (MF:Mk K CF fi) (mC:mg "Face"=some (.ref CF)) :
  aV P w K mg base (CX1 P w) 43 f fd lwP (rl K CF T cx):=by
 refine F.okX l0 (fun vs H Q E h=>?_) (fun cdv A outer s H vs Q E hr h=>?_)
 ·obtain⟨_,_,_,_,_,rfl,_⟩:=h
  rfl
 obtain⟨ia,xs,its,pa,parts,rfl,hT,hia,hxs,hio,h20,hP,hPo,hR⟩:=h
 have hr2:cA (1+1) _:=hr.mono (by decide)
 refine⟨_,@ah _ _ _ _ _ (ay (i:=2) l0.nd rfl (Or.inl rfl) (lQ MF GI hr2 (by rfl) mC bI .nil bQ (@aa _ _ _ _ _ ju (@aa _ _ _ _ _ ju ae rfl) rfl)))
  (@ao _ _ _ (gu PassesOwn.leaving rfl (nw (pv 0)) (aY (i:=3) l0.nd rfl (Or.inl rfl)) (@ah _ _ _ _ _ (bc (aB bu (aq aG (pv 3) ag (fun _ _=>rfl)) ai (aE _)) (@ao _ _ _ (aO (au GL hr rfl mL kL bL .nil cB (@aa _ _ _ _ _ (pv 3) (@aa _ _ _ _ _ (pv 2) (@aa _ _ _ _ _ (pv 1) ae rfl) rfl) rfl)))) aI)
   (@ao _ _ _ (aO (au GT hr rfl mT kT bT (dvs:=[.int 40]) (.cons ⟨_,rfl⟩ .nil) cB (@aa _ _ _ _ _ (pv 2) (@aa _ _ _ _ _ (pv 3) (@aa _ _ _ _ _ (pv 1) ae rfl) rfl) rfl))))))),?_⟩
 intro k1 hk1
 have t1:=ad hk1 (.dK [])
 intro k2 hk2
 have t2:=ad hk2 (.dK [])
 have t12:=t1.trans t2
 intro x dx' nx ndx nex
 have ea:=ad ndx (.own x)
 have nx':upd (upd (upd H k1 (.dK [])) k2 (.dK [])) dx' (.own x) x=none:=by rw [am (Ne.symm nex)];exact nx
 have eab:=ea.trans (ad nx' (.ins CF dx' []))
 refine⟨x,dx',k1,k2,[],[],rfl,ac,eab _ _ (t2 _ _ ac),eab _ _ ac,fun d e fs' H7 hd he nde hx lk lf lh lp hd7 he7 keep=>⟨rfl,?_⟩⟩
 have s7:aH H H7:=fun b o hb=>keep b o (eab _ _ (t12 _ _ hb)) (fun z=>by rw [z,t12.free nx] at hb;cases hb)
 have hd0:H d=none:=(t12.trans eab).free hd
 have he0:H e=none:=(t12.trans eab).free he
 have F7:dg K H7 CF x d e [] []:=⟨dx',fs',[],[],hx,lk,lf,hd7,he7,.nil,.nil,lh,lp,nde⟩
 have hlen:xs.length=its.length:=Paired.length hxs
 refine⟨_,rfl,ia,rfl,⟨_,s7.tup hia⟩,?_⟩
 refine rf (K:=K) (xs:=xs) (fun i σ H3=>∃(y4:Option V) (m1:bh) (m2:ba),σ=[some (.ref ia),some (.ref pa),some (.ref x),y4]/\aH H H3/\dg K H3 CF x d e m1 m2/\lwR parts m1 m2 (its.drop i)=lwR parts [] [] its/\Ok1 m1/\Ok2 m2/\m1.length<=5*i/\m2.length<=5*i)
  ⟨none,[],[],rfl,s7,F7,rfl,(fun q hq=>nomatch hq),(fun q hq=>nomatch hq),Nat.le_refl _,Nat.le_refl _⟩ ?_ ?_ ?_
 ·rintro i σ H3 _ ⟨_,_,_,_,s3,_⟩
  exact s3.tup hia
 ·rintro i y σ H3 hy ⟨y4,m1,m2,rfl,s3,F3,hrun,ho1,ho2,l1,l2⟩
  obtain⟨it,hit,hI⟩:=cz hxs hy
  have hil:i < its.length:=(List.getElem?_eq_some_iff.mp hit).1
  have hio':=hio it (List.mem_of_getElem? hit)
  have ed:its.drop i=it::its.drop (i+1):=by
   rw [List.drop_eq_getElem_cons hil]
   congr 1
   exact(List.getElem?_eq_some_iff.mp hit).2
  rw [ed,lwR] at hrun
  obtain⟨it,ex⟩:=it
  cases it with
  |kind w k =>
   obtain⟨p,yk,rfl,hp,hyk⟩:=id (show lU K H y (.kind w k) from hI)
   refine⟨_,rfl,_,_,_,_,rfl,rfl,s3.tup hp,(show atI [V.str "kind",.str w,yk] 0=some (.str "kind") from rfl),rfl,_,rfl,dH (fun c=>nK0 c) (fun _=>?_)⟩
   refine⟨_,rfl,_,rfl,_,rfl,H,x,d,e,_,pa,40,m1,m2,parts,.kind w k,rfl,s3,hd0,he0,F3,hI.it,hio'.it,hP,hPo,ho1,by omega,by omega,by decide,by decide,?_⟩
   cases hs:cC parts 40 m1 m2 (.kind w k) with
   |ref c =>
    simp only [gb,hs] at hrun
    rw [<-hrun] at hR
    exact fun H' s'=>hR.2 H' s'
   |ok n1 n2 =>
    simp only [gb,hs] at hrun
    obtain⟨o1,o2,o3⟩:=lD hPo (by decide) ho1 hio'.it hs
    exact fun H' s' F'=>⟨_,n1,n2,rfl,s',F',hrun,o1,jE hPo (by decide) ho1 ho2 hio'.it hs,by omega,by omega⟩
  |opn q =>
   obtain⟨p,rfl,hp⟩:=id (show lU K H y (.opn q) from hI)
   refine⟨_,rfl,_,_,_,_,rfl,rfl,s3.tup hp,(show atI [V.str "open",.str q] 0=some (.str "open") from rfl),rfl,_,rfl,dH (fun c=>nK0 c) (fun _=>?_)⟩
   refine⟨_,rfl,_,rfl,_,rfl,H,x,d,e,_,pa,40,m1,m2,parts,.opn q,rfl,s3,hd0,he0,F3,hI.it,hio'.it,hP,hPo,ho1,by omega,by omega,by decide,by decide,?_⟩
   cases hs:cC parts 40 m1 m2 (.opn q) with
   |ref c =>
    simp only [gb,hs] at hrun
    rw [<-hrun] at hR
    exact fun H' s'=>hR.2 H' s'
   |ok n1 n2 =>
    simp only [gb,hs] at hrun
    obtain⟨o1,o2,o3⟩:=lD hPo (by decide) ho1 hio'.it hs
    exact fun H' s' F'=>⟨_,n1,n2,rfl,s',F',hrun,o1,jE hPo (by decide) ho1 ho2 hio'.it hs,by omega,by omega⟩
  |fn w ps k =>
   obtain⟨p,ta,yk,xe,us,rfl,hp,_⟩:=id (show FnI K H y w ps k ex from hI)
   refine⟨_,rfl,_,_,_,_,rfl,rfl,s3.tup hp,(show atI [V.str "fun",.str w,.ref ta,yk,xe] 0=some (.str "fun") from rfl),rfl,_,rfl,dH (fun _=>?_) (fun c=>absurd (by decide +kernel) c)⟩
   refine⟨_,rfl,_,rfl,_,rfl,x,d,e,_,pa,m1,m2,parts,w,ps,k,ex,rfl,s3 _ _ hT,F3,(show FnI K H _ w ps k ex from hI).same s3,hio',hP.same s3,hPo,ho1,ho2,?_⟩
   cases hl:cq parts m1 m2 ps k ex with
   |some c9 =>
    simp only [gb,hl] at hrun
    rw [<-hrun] at hR
    exact⟨hR.1,fun H' s'=>hR.2 H' (s3.trans s')⟩
   |none =>
   intro H4 s4
   have s34:=s3.trans s4
   have F4:dg K H4 CF x d e m1 m2:=F3.same s4
   refine⟨_,rfl,_,rfl,_,rfl,H,x,d,e,_,pa,40,m1,m2,parts,.fn w ps k,rfl,s34,hd0,he0,F4,hI.it,hio'.it,hP,hPo,ho1,by omega,by omega,by decide,by decide,?_⟩
   cases hs:cC parts 40 m1 m2 (.fn w ps k) with
   |ref c =>
    simp only [gb,hl,hs] at hrun
    rw [<-hrun] at hR
    exact fun H' s'=>hR.2 H' s'
   |ok n1 n2 =>
    simp only [gb,hl,hs] at hrun
    obtain⟨o1,o2,o3⟩:=lD hPo (by decide) ho1 hio'.it hs
    exact fun H' s' F'=>⟨_,n1,n2,rfl,s',F',hrun,o1,jE hPo (by decide) ho1 ho2 hio'.it hs,by omega,by omega⟩
 ·rintro σ H3 ⟨y4,m1,m2,rfl,s3,F3,hrun,_⟩
  rw [hlen,List.drop_length,lwR] at hrun
  rw [<-hrun] at hR
  exact hR H3 s3
end
end K53
namespace K53
open PySem L2 Kk
open J53 (Ex Fm)
def sgm(a b:Bool)(i:Nat):Nat:=if a=true/\i=10 then 7 else if a=true/\i=8 then 11 else if b=true/\i=6 then 1 else i
def dif(i j:Nat):Bool:=[false,true].all fun a=>[false,true].all fun b=>sgm a b i != sgm a b j
structure WOk(W:Nat->Str):Prop where
 ne:∀{i j:Nat},i < 16->j < 16->dif i j=true->W i≠W j
 nil:∀i,W i≠""
 sm:∀i,okW (W i)
theorem xG{i j:Nat}(h:dif i j=true)(a b:Bool):sgm a b i≠sgm a b j:=by
 unfold dif at h
 simp only [List.all_cons,List.all_nil,Bool.and_true,Bool.and_eq_true,bne_iff_ne,ne_eq] at h
 cases a<;>cases b<;>simp only [h,not_false_eq_true,ne_eq]
theorem uB{a b:Bool}{i:Nat}(h:i < 16):sgm a b i < 26:=by
 unfold sgm
 split
 ·decide
 ·split
  ·decide
  ·split
   ·decide
   ·omega
theorem wok(c:Int)(a b:Bool):WOk fun i=>J53.wd c (sgm a b i:Int):=by
 refine⟨fun {i j} hi hj h e=>?_,fun i e=>?_,fun i=>J53.wd_sm _ _⟩
 ·have h1:=uB (a:=a) (b:=b) hi
  have h2:=uB (a:=a) (b:=b) hj
  have:=J53.wd_ne ⟨by omega,by omega⟩ ⟨by omega,by omega⟩ e
  exact xG h a b (by omega)
 ·have h0:=congrArg J53.cps e
  unfold J53.wd at h0
  rw [J53.cps_app,J53.cps_app] at h0
  have h1:=(List.append_eq_nil_iff.mp (List.append_eq_nil_iff.mp (show _=[] from h0)).1).2
  exact nomatch h1
structure Sc where
 W:Nat->Str
 N:Int
 M:Int
 kc:Nat
 o:Str
namespace Sc
variable(S:Sc)
abbrev hid:Kd:=.name (S.W 0) (S.W 1)
abbrev own5:Kd:=.name (S.W 5) (S.W 6)
abbrev nN:Kd:=.num S.N
abbrev nM:Kd:=.num S.M
abbrev ow:Kd:=.name "" (S.W 7)
def K0:Kd:=match S.kc with
 |0=>.num S.M
 |1=>.name (S.W 0) (S.W 2)
 |2=>.pair S.hid S.nM
 |_=>S.hid
def K1:Kd:=match S.kc with
 |0=>.num S.M
 |1=>.num S.N
 |2=>.pair S.hid S.nM
 |_=>S.hid
abbrev F0:bh × ba:=([(S.W 1,S.hid),(S.W 2,S.nN)],[(S.W 3,([],S.hid)),(S.W 4,([S.hid,S.nN],S.nN))])
abbrev F5:bh × ba:=([(S.W 6,S.own5)],[(S.W 3,([S.own5],.num 2))])
abbrev parts:bH:=[(S.W 0,S.F0),(S.W 5,S.F5)]
def taken:Ex:=match S.kc with
 |0=>.nd (.op S.o S.M) [.var (S.W 8),.nd (.lit (S.M - 1) S.M) []]
 |1=>.nd (.as_ S.N) [.var (S.W 8)]
 |2=>.nd .two [.nd .fst [.var (S.W 8)],.nd .snd [.var (S.W 8)]]
 |_=>.var (S.W 8)
end Sc
inductive Tg where
 |k|f1|f2|f3|f4|g4|o|x
 deriving DecidableEq
def itT(S:Sc):Tg->IE
 |.k=>(.kind (S.W 7) S.K0,.var "")
 |.f1=>(.fn (S.W 10) [(S.W 8,S.ow),(S.W 9,.num 2)] S.ow,.nd .if_ [.var (S.W 9),.var (S.W 8),S.taken])
 |.f2=>(.fn (S.W 11) [(S.W 8,S.hid)] (.name (S.W 0) (S.W 2)),.call (S.W 0) (S.W 4) [.var (S.W 8),.nd (.lit (S.N / 2) S.N) []])
 |.f3=>(.fn (S.W 12) [(S.W 9,S.ow)] S.ow,.call "" (S.W 10) [.var (S.W 9),.nd (.lit 1 2) []])
 |.f4=>(.fn (S.W 13) [] S.hid,.call (S.W 0) (S.W 3) [])
 |.g4=>(.fn (S.W 13) [] (.name "" (S.W 1)),.call "" (S.W 3) [])
 |.o=>(.opn (S.W 0),.var "")
 |.x=>(.fn (S.W 14) [] S.hid,.call "" (S.W 3) [])
def r1(S:Sc):Tg->bh
 |.k=>[(S.W 7,S.K1)]
 |.o=>S.F0.1
 |_=>[]
def r2(S:Sc):Tg->ba
 |.f1=>[(S.W 10,([S.K1,.num 2],S.K1))]
 |.f2=>[(S.W 11,([S.hid],S.nN))]
 |.f3=>[(S.W 12,([S.K1],S.K1))]
 |.f4=>[(S.W 13,([],S.hid))]
 |.g4=>[(S.W 13,([],S.hid))]
 |.o=>S.F0.2
 |.x=>[(S.W 14,([],S.hid))]
 |.k=>[]
abbrev R1(S:Sc)(ts:List Tg):bh:=ts.flatMap (r1 S)
abbrev R2(S:Sc)(ts:List Tg):ba:=ts.flatMap (r2 S)
def n1:Tg->List Nat
 |.k=>[7]
 |.o=>[1,2]
 |_=>[]
def n2:Tg->List Nat
 |.f1=>[10]
 |.f2=>[11]
 |.f3=>[12]
 |.f4=>[13]
 |.g4=>[13]
 |.o=>[3,4]
 |.x=>[14]
 |.k=>[]
theorem yF(S:Sc)(t:Tg):(r1 S t).map (·.1)=(n1 t).map S.W:=by cases t<;>rfl
theorem zj(S:Sc)(t:Tg):(r2 S t).map (·.1)=(n2 t).map S.W:=by cases t<;>rfl
theorem zM(S:Sc)(ts:List Tg):(R1 S ts).map (·.1)=(ts.flatMap n1).map S.W:=by
 induction ts with
 |nil=>rfl
 |cons t ts ih =>
  show((r1 S t)++R1 S ts).map _=((n1 t)++ts.flatMap n1).map _
  rw [List.map_append,List.map_append,ih,yF]
theorem zW(S:Sc)(ts:List Tg):(R2 S ts).map (·.1)=(ts.flatMap n2).map S.W:=by
 induction ts with
 |nil=>rfl
 |cons t ts ih =>
  show((r2 S t)++R2 S ts).map _=((n2 t)++ts.flatMap n2).map _
  rw [List.map_append,List.map_append,ih,zj]
theorem jd{S:Sc}(hW:WOk S.W){i:Nat}(hi:i < 16):∀{l:List Nat},(l.all fun j=>decide (j < 16)&&dif j i)=true->S.W i∉l.map S.W
 |l,h,hm=>by
  obtain⟨j,hj,e⟩:=List.mem_map.mp hm
  have:=List.all_eq_true.mp h j hj
  simp only [Bool.and_eq_true,decide_eq_true_eq] at this
  exact hW.ne this.1 hi this.2 e
theorem aP{α:Type}(z z':Str)(x:α)(m:List (Str × α)):look ((z',x)::m) z=if z'=z then some x else look m z:=by
 unfold look
 rw [List.find?_cons]
 by_cases h:z'=z
 ·rw [if_pos h];simp [h]
 ·rw [if_neg h];simp [h]
theorem mU{α:Type}(z:Str):look ([]:List (Str × α)) z=none:=rfl
theorem qC{α:Type}(a b:List (Str × α))(z:Str):look (a++b) z=(look a z).or (look b z):=sv a b z
theorem eB{α:Type}{r:Tg->List (Str × α)}{z:Str}{v:α}{t:Tg}(hv:look (r t) z=some v):∀{ts:List Tg},t∈ts->(∀t'∈ts,t'≠t->look (r t') z=none)->look (ts.flatMap r) z=some v
 |t'::ts,hm,hn=>by
  show look (r t'++ts.flatMap r) z=some v
  rw [qC]
  by_cases e:t'=t
  ·rw [e,hv];rfl
  ·rw [hn t' (.head _) e]
   show look (ts.flatMap r) z=some v
   refine eB hv ?_ fun t'' h=>hn t'' (.tail _ h)
   rcases List.mem_cons.mp hm with h|h
   ·exact absurd h.symm e
   ·exact h
section
variable{S:Sc}(hW:WOk S.W){m1:bh}{m2:ba}
include hW
theorem pt0:look S.parts (S.W 0)=some S.F0:=by rw [aP,if_pos rfl]
theorem pt5:look S.parts (S.W 5)=some S.F5:=by rw [aP,if_neg (hW.ne (by decide) (by decide) (by decide)),aP,if_pos rfl]
theorem Aq:look S.parts (S.W 15)=none:=by rw [aP,if_neg (hW.ne (by decide) (by decide) (by decide)),aP,if_neg (hW.ne (by decide) (by decide) (by decide)),mU]
omit hW in
theorem pq{parts:bH}{q t:Str} (hq:q≠""):tl m1 parts (q,t)=(look parts q).bind fun r=>look r.1 t:=by
 unfold tl iJ PGo
 rw [if_neg hq]
 cases look parts q<;>rfl
omit hW in
theorem ur{parts:bH}{t:Str}:tl m1 parts ("",t)=look m1 t:=by
 unfold tl iJ
 rw [if_pos rfl]
omit hW in
theorem lr{T:Str × Str->Option Kd}{k k':Kd}(h:∀n∈Kd.names k,T n≠none)(e:Kd.put T k=k')(hw:(k'.words:Int)<=40):cR T 40 k=.ok k':=by
 rw [qA h (by rw [e];omega),e]
omit hW in
theorem dX{T:Str × Str->Option Kd}{n:Int}:cR T 40 (.num n)=.ok (.num n):=lr (fun _ h=>nomatch h) rfl (by show((1:Nat):Int)<=40;decide)
omit hW in
theorem ii{T:Str × Str->Option Kd}{q t:Str}{k':Kd}(h:T (q,t)=some k')(hw:k'.words<=40):cR T 40 (.name q t)=.ok k':=by
 refine lr (fun n hn=>?_) ?_ (by omega)
 ·rw [List.mem_singleton.mp (show n∈[(q,t)] from hn),h]
  nofun
 ·show(T (q,t)).getD _=k'
  rw [h];rfl
theorem uV:tl m1 S.parts (S.W 0,S.W 1)=some S.hid:=by
 rw [pq (hW.nil 0),pt0 hW]
 show look S.F0.1 (S.W 1)=_
 rw [aP,if_pos rfl]
theorem Ap:tl m1 S.parts (S.W 0,S.W 2)=some S.nN:=by
 rw [pq (hW.nil 0),pt0 hW]
 show look S.F0.1 (S.W 2)=_
 rw [aP,if_neg (hW.ne (by decide) (by decide) (by decide)),aP,if_pos rfl]
theorem xP:tl m1 S.parts (S.W 5,S.W 6)=some S.own5:=by
 rw [pq (hW.nil 5),pt5 hW]
 show look S.F5.1 (S.W 6)=_
 rw [aP,if_pos rfl]
theorem dY:cR (tl m1 S.parts) 40 S.hid=.ok S.hid:=ii (uV hW) (by show 1<=40;decide)
theorem uW:cR (tl m1 S.parts) 40 (.name (S.W 0) (S.W 2))=.ok S.nN:=ii (Ap hW) (by show 1<=40;decide)
theorem pV:cR (tl m1 S.parts) 40 S.own5=.ok S.own5:=ii (xP hW) (by show 1<=40;decide)
omit hW in
theorem sf:S.K1.words<=3:=by
 unfold Sc.K1
 split<;>(first|(show 1<=3;decide)|(show 3<=3;decide))
omit hW in
theorem jp(h:look m1 (S.W 7)=some S.K1):cR (tl m1 S.parts) 40 S.ow=.ok S.K1:=ii (ur.trans h) (by have:=sf (S:=S);omega)
omit hW in
theorem wD(h:look m1 (S.W 1)=some S.hid):cR (tl m1 S.parts) 40 (.name "" (S.W 1))=.ok S.hid:=ii (ur.trans h) (by show 1<=40;decide)
theorem yW:cR (tl m1 S.parts) 40 S.K0=.ok S.K1:=by
 unfold Sc.K0 Sc.K1
 split
 ·exact dX
 ·exact uW hW
 ·refine lr (fun n hn=>?_) ?_ (by show((3:Nat):Int)<=40;decide)
  ·rw [List.mem_singleton.mp (show n∈[(S.W 0,S.W 1)] from hn),uV hW]
   nofun
  ·show Kd.pair ((tl m1 S.parts (S.W 0,S.W 1)).getD _) _=_
   rw [uV hW];rfl
 ·exact dY hW
omit hW in
theorem jz{parts:bH}{q t:Str} (hq:q≠""):gX m2 parts q t=(look parts q).bind fun r=>look r.2 t:=by
 unfold gX
 rw [if_neg hq]
omit hW in
theorem dS{parts:bH}{t:Str}:gX m2 parts "" t=look m2 t:=by
 unfold gX
 rw [if_pos rfl]
theorem o04:gX m2 S.parts (S.W 0) (S.W 4)=some ([S.hid,S.nN],S.nN):=by
 rw [jz (hW.nil 0),pt0 hW]
 show look S.F0.2 (S.W 4)=_
 rw [aP,if_neg (hW.ne (by decide) (by decide) (by decide)),aP,if_pos rfl]
theorem o03:gX m2 S.parts (S.W 0) (S.W 3)=some ([],S.hid):=by
 rw [jz (hW.nil 0),pt0 hW]
 show look S.F0.2 (S.W 3)=_
 rw [aP,if_pos rfl]
theorem o54:gX m2 S.parts (S.W 5) (S.W 4)=none:=by
 rw [jz (hW.nil 5),pt5 hW]
 show look S.F5.2 (S.W 4)=_
 rw [aP,if_neg (hW.ne (by decide) (by decide) (by decide)),mU]
theorem o15{t:Str}:gX m2 S.parts (S.W 15) t=none:=by
 rw [jz (hW.nil 15),Aq hW];rfl
omit hW in
theorem iW{mo:Int}{C:J53.Orc}{ps:J53.Ps}{k:Kd}{e:Ex}(hn:(ps.map (·.1)).Nodup)(h:J53.kin mo C (J53.rhoP ps) e=.ok k):J53.lookR mo C ps k e=none:=by
 unfold J53.lookR
 rw [if_pos hn,h]
 exact if_pos rfl
omit hW in
theorem uc{mo:Int}{C:J53.Orc}{ps:J53.Ps}{k k':Kd}{e:Ex}(hn:(ps.map (·.1)).Nodup)(h:J53.kin mo C (J53.rhoP ps) e=.ok k')(hk:k'≠k):J53.lookR mo C ps k e=some 2:=by
 unfold J53.lookR
 rw [if_pos hn,h]
 exact if_neg hk
omit hW in
theorem iX{mo:Int}{C:J53.Orc}{ps:J53.Ps}{k:Kd}{e:Ex}{c:Nat}(hn:(ps.map (·.1)).Nodup)(h:J53.kin mo C (J53.rhoP ps) e=.no c)(hc:c < 4):J53.lookR mo C ps k e=some c:=by
 unfold J53.lookR
 rw [if_pos hn,h]
 exact congrArg some (if_pos hc)
omit hW in
omit hW in
theorem pG{C:J53.Orc}{ρ:Str->Option Kd}{x:Str}{k:Kd}(h:ρ x=some k):J53.kin 40 C ρ (.var x)=.ok k:=by simp only [J53.kin,h]
omit hW in
theorem pP{C:J53.Orc}{ρ:Str->Option Kd}(h:ρ (S.W 8)=some S.K1):J53.kin 40 C ρ S.taken=.ok S.K1:=by
 unfold Sc.taken
 unfold Sc.K1 at h ⊢
 generalize S.kc=kc at h ⊢
 match kc,h with
 |0,h =>
  replace h:ρ (S.W 8)=some (.num S.M):=h
  show J53.kin 40 C ρ (.nd (.op S.o S.M) [.var (S.W 8),.nd (.lit (S.M - 1) S.M) []])=.ok (.num S.M)
  simp only [J53.kin,J53.kins,h,J53.fmK,if_true]
 |1,h =>
  replace h:ρ (S.W 8)=some (.num S.N):=h
  show J53.kin 40 C ρ (.nd (.as_ S.N) [.var (S.W 8)])=.ok (.num S.N)
  simp only [J53.kin,J53.kins,h,J53.fmK,J53.Kd.isNum,if_true]
 |2,h =>
  replace h:ρ (S.W 8)=some (.pair S.hid S.nM):=h
  show J53.kin 40 C ρ (.nd .two [.nd .fst [.var (S.W 8)],.nd .snd [.var (S.W 8)]])=.ok (.pair S.hid S.nM)
  simp only [J53.kin,J53.kins,h,J53.fmK]
  rw [if_neg (show ¬(((Kd.pair S.hid S.nM).words:Nat):Int) > 40 from by show ¬((3:Nat):Int) > 40;decide),if_pos ⟨(by show 2<=50;decide),(by show 3<=9000;decide)⟩]
 |n+3,h =>
  replace h:ρ (S.W 8)=some S.hid:=h
  show J53.kin 40 C ρ (.var (S.W 8))=.ok S.hid
  exact pG h
end
theorem ve{a:Str}{k:Kd}:J53.rhoP [(a,k)] a=some k:=if_pos rfl
theorem nd1{a:Str}{k:Kd}:(([(a,k)]:J53.Ps).map (·.1)).Nodup:=by simp
theorem nd0:(([]:J53.Ps).map (·.1)).Nodup:=by simp
theorem jc{parts:bH}{m1:bh}{m2:ba}{k k':Kd}{e:Ex}(h:cR (tl m1 parts) 40 k=.ok k'):cq parts m1 m2 [] k e=J53.lookR 40 (gX m2 parts) [] k' e:=by
 unfold cq
 rw [show bn (tl m1 parts) 40 (([]:List (Str × Kd)).map (·.2))=.ok [] from rfl]
 simp only [h]
 rfl
theorem ik{parts:bH}{m1:bh}{m2:ba}{a:Str}{j j' k k':Kd}{e:Ex}(hj:cR (tl m1 parts) 40 j=.ok j')(h:cR (tl m1 parts) 40 k=.ok k'):cq parts m1 m2 [(a,j)] k e=J53.lookR 40 (gX m2 parts) [(a,j')] k' e:=by
 unfold cq
 rw [show bn (tl m1 parts) 40 ([(a,j)].map (·.2))=.ok [j'] from by show bn (tl m1 parts) 40 [j]=_;simp only [bn,hj]]
 simp only [h]
 rfl
section
variable{S:Sc}(hW:WOk S.W){m1:bh}{m2:ba}
include hW
theorem Aw(h:look m1 (S.W 7)=some S.K1):cq S.parts m1 m2 [(S.W 8,S.ow),(S.W 9,.num 2)] S.ow (.nd .if_ [.var (S.W 9),.var (S.W 8),S.taken])=none:=by
 have e:=jp h
 unfold cq
 rw [show bn (tl m1 S.parts) 40 ([(S.W 8,S.ow),(S.W 9,Kd.num 2)].map (·.2))=.ok [S.K1,.num 2] from by show bn _ 40 [S.ow,.num 2]=_;simp only [bn,e,dX]]
 simp only [e]
 have n89:S.W 9≠S.W 8:=hW.ne (by decide) (by decide) (by decide)
 have r8:J53.rhoP [(S.W 8,S.K1),(S.W 9,.num 2)] (S.W 8)=some S.K1:=if_pos rfl
 have r9:J53.rhoP [(S.W 8,S.K1),(S.W 9,.num 2)] (S.W 9)=some (.num 2):=(if_neg n89).trans (if_pos rfl)
 show J53.lookR 40 (gX m2 S.parts) [(S.W 8,S.K1),(S.W 9,.num 2)] S.K1 _=none
 refine iW (by simp [Ne.symm n89]) ?_
 simp only [J53.kin,J53.kins,r9,r8,pP r8,J53.fmK,if_true]
theorem zQ{v:Int}:cq S.parts m1 m2 [(S.W 8,S.hid)] (.name (S.W 0) (S.W 2)) (.call (S.W 0) (S.W 4) [.var (S.W 8),.nd (.lit v S.N) []])=none:=by
 rw [ik (dY hW) (uW hW)]
 refine iW nd1 ?_
 simp only [J53.kin,J53.kins,ve,J53.fmK,o04 hW,J53.ansK,List.length_cons,List.length_nil,if_true]
theorem zX{v:Int}(h:look m1 (S.W 7)=some S.K1)(h2:look m2 (S.W 10)=some ([S.K1,.num 2],S.K1)):cq S.parts m1 m2 [(S.W 9,S.ow)] S.ow (.call "" (S.W 10) [.var (S.W 9),.nd (.lit v 2) []])=none:=by
 have _:=hW
 rw [ik (jp h) (jp h)]
 refine iW nd1 ?_
 simp only [J53.kin,J53.kins,ve,J53.fmK,dS,h2,J53.ansK,List.length_cons,List.length_nil,if_true]
theorem zR:cq S.parts m1 m2 [] S.hid (.call (S.W 0) (S.W 3) [])=none:=by
 rw [jc (dY hW)]
 refine iW nd0 ?_
 simp only [J53.kin,J53.kins,o03 hW,J53.ansK,List.length_nil,if_true]
theorem AE(h:look m1 (S.W 1)=some S.hid)(h2:look m2 (S.W 3)=some ([],S.hid)):cq S.parts m1 m2 [] (.name "" (S.W 1)) (.call "" (S.W 3) [])=none:=by
 have _:=hW
 rw [jc (wD h)]
 refine iW nd0 ?_
 simp only [J53.kin,J53.kins,dS,h2,J53.ansK,List.length_nil,if_true]
theorem l_x(h2:look m2 (S.W 3)=some ([],S.hid)):cq S.parts m1 m2 [] S.hid (.call "" (S.W 3) [])=none:=by
 rw [jc (dY hW)]
 refine iW nd0 ?_
 simp only [J53.kin,J53.kins,dS,h2,J53.ansK,List.length_nil,if_true]
end
def bX(S:Sc):Nat->Str × Str
 |0=>(S.W 15,S.W 3)
 |1=>(S.W 5,S.W 4)
 |_=>("",S.W 15)
def bd(S:Sc)(mode st:Nat):Nat->IE
 |0=>(.fn (S.W 14) [] (.num 2),.call "" (S.W 14) [])
 |1=>(.fn (S.W 14) [(S.W 9,S.ow)] S.ow,.call "" (S.W 10) [.var (S.W 9),.nd (.lit 1 2) []])
 |2=>(.fn (S.W 14) [(S.W 8,.num 2),(S.W 9,.num 2),(S.W 8,.num 2)] (.num 2),.var (S.W 9))
 |3=>(.fn (S.W 14) [(S.W 8,S.hid)] S.nN,.var (S.W 8))
 |4=>(.fn (S.W 14) [] (.num 2),.call (bX S st).1 (bX S st).2 [])
 |5=>(.fn (S.W 14) [] (.num 2),.var (S.W 9))
 |6=>(.fn (S.W 14) [(S.W 8,S.hid)] S.nN,.nd (.op "+" S.N) [.var (S.W 8),.nd (.lit 0 S.N) []])
 |7=>(.fn (S.W 14) [(S.W 8,S.hid)] S.nN,.call (S.W 0) (S.W 4) [.var (S.W 8)])
 |8=>if mode=0 then (.fn (S.W 14) [] S.hid,.call "" (S.W 3) []) else (.fn (S.W 14) [] S.own5,.call "" (S.W 3) [])
 |9=>(.fn (S.W 14) [(S.W 8,S.own5)] S.nN,.call (S.W 0) (S.W 4) [.var (S.W 8),.nd (.lit 0 S.N) []])
 |_=>itT S .x
def yh(mode:Nat):Nat->Nat
 |2=>4
 |3=>2
 |6=>2
 |7=>1
 |8=>if mode=0 then 0 else 2
 |9=>2
 |_=>0
section
variable{S:Sc}(hW:WOk S.W){m1:bh}{m2:ba}
include hW
theorem oP:S.hid≠S.own5:=fun e=>hW.ne (i:=0) (j:=5) (by decide) (by decide) (by decide) (Kd.name.inj e).1
theorem jo{k k':Kd}{q t:Str}(hk:cR (tl m1 S.parts) 40 k=.ok k')(h:gX m2 S.parts q t=none):cq S.parts m1 m2 [] k (.call q t [])=some 0:=by
 have _:=hW
 rw [jc hk]
 refine iX nd0 ?_ (by decide)
 simp only [J53.kin,J53.kins,h,J53.ansK]
theorem wg{k k':Kd}{x:Str}(hk:cR (tl m1 S.parts) 40 k=.ok k'):cq S.parts m1 m2 [] k (.var x)=some 0:=by
 have _:=hW
 rw [jc hk]
 refine iX nd0 ?_ (by decide)
 simp only [J53.kin,J53.rhoP]
theorem tD{mode st v:Nat}(h14:look m2 (S.W 14)=none)(h15:look m2 (S.W 15)=none)(h1:v=1->look m1 (S.W 7)=some S.K1/\look m2 (S.W 10)=none)(h3:(v=8/\mode=0)\/10<=v->look m2 (S.W 3)=none)(h8:v=8->mode≠0->look m2 (S.W 3)=some ([],S.hid)) :
  gb S.parts m1 m2 (bd S mode st v)=some (yh mode v):=by
 match v,h1,h3,h8 with
 |0,_,_,_=>exact jo hW dX (dS.trans h14)
 |1,h1,_,_ =>
  obtain⟨a,b⟩:=h1 rfl
  show cq S.parts m1 m2 [(S.W 9,S.ow)] S.ow _=some 0
  rw [ik (jp a) (jp a)]
  refine iX nd1 ?_ (by decide)
  simp only [J53.kin,J53.kins,ve,J53.fmK,dS,b,J53.ansK]
 |2,_,_,_ =>
  show cq S.parts m1 m2 [(S.W 8,.num 2),(S.W 9,.num 2),(S.W 8,.num 2)] (.num 2) _=some 4
  unfold cq
  rw [show bn (tl m1 S.parts) 40 ([(S.W 8,Kd.num 2),(S.W 9,.num 2),(S.W 8,.num 2)].map (·.2))=.ok [.num 2,.num 2,.num 2] from by show bn _ 40 [.num 2,.num 2,.num 2]=_;simp only [bn,dX]]
  simp only [dX]
  show J53.lookR 40 _ [(S.W 8,.num 2),(S.W 9,.num 2),(S.W 8,.num 2)] _ _=_
  unfold J53.lookR
  rw [if_neg (by simp)]
 |3,_,_,_ =>
  show cq S.parts m1 m2 [(S.W 8,S.hid)] S.nN _=some 2
  rw [ik (dY hW) dX]
  exact uc nd1 (pG ve) nofun
 |4,_,_,_ =>
  refine jo hW dX ?_
  match st with
  |0=>exact o15 hW
  |1=>exact o54 hW
  |n+2=>exact dS.trans h15
 |5,_,_,_ =>
  have e:bd S mode st 5=(.fn (S.W 14) [] (.num 2),.var (S.W 9)):=rfl
  have e2:yh mode 5=0:=rfl
  rw [e,e2]
  show cq S.parts m1 m2 [] (.num 2) (.var (S.W 9))=some 0
  exact wg (m1:=m1) (m2:=m2) hW (dX (n:=2))
 |6,_,_,_ =>
  show cq S.parts m1 m2 [(S.W 8,S.hid)] S.nN _=some 2
  rw [ik (dY hW) dX]
  refine iX nd1 ?_ (by decide)
  simp only [J53.kin,J53.kins,ve,J53.fmK]
  exact if_neg (by intro e;cases e)
 |7,_,_,_ =>
  show cq S.parts m1 m2 [(S.W 8,S.hid)] S.nN _=some 1
  rw [ik (dY hW) dX]
  refine iX nd1 ?_ (by decide)
  simp only [J53.kin,J53.kins,ve,o04 hW,J53.ansK]
  exact if_neg (show ¬(2=1) from by decide)
 |8,_,h3,h8 =>
  by_cases c:mode=0
  ·have e:=h3 (.inl ⟨rfl,c⟩)
   show gb S.parts m1 m2 (if mode=0 then _ else _)=some (if mode=0 then 0 else 2)
   rw [if_pos c,if_pos c]
   exact jo hW (dY hW) (dS.trans e)
  ·have e:=h8 rfl c
   show gb S.parts m1 m2 (if mode=0 then _ else _)=some (if mode=0 then 0 else 2)
   rw [if_neg c,if_neg c]
   show cq S.parts m1 m2 [] S.own5 _=some 2
   rw [jc (pV hW)]
   refine uc (k':=S.hid) nd0 ?_ (oP hW)
   simp only [J53.kin,J53.kins,dS,e,J53.ansK,List.length_nil,if_true]
 |9,_,_,_ =>
  show cq S.parts m1 m2 [(S.W 8,S.own5)] S.nN _=some 2
  rw [ik (pV hW) dX]
  refine iX nd1 ?_ (by decide)
  simp only [J53.kin,J53.kins,ve,J53.fmK,o04 hW,J53.ansK,List.length_cons,List.length_nil,if_true]
  exact if_neg (fun e=>oP hW (List.cons.inj e).1)
 |n+10,_,h3,_=>exact jo hW (dY hW) (dS.trans (h3 (.inr (by omega))))
end
theorem mx{n:Tg->List Nat}{f:Nat->Bool}{ts:List Tg}(h:∀t∈ts,(n t).all f=true):(ts.flatMap n).all f=true:=by
 induction ts with
 |nil=>rfl
 |cons t ts ih =>
  show((n t)++ts.flatMap n).all f=true
  rw [List.all_append,h t (.head _),ih fun t' ht=>h t' (.tail _ ht)]
  rfl
def far(i:Nat):Nat->Bool:=fun j=>decide (j < 16)&&dif j i
section
variable{S:Sc}(hW:WOk S.W){ts:List Tg}
include hW
theorem yn{i:Nat}(hi:i < 16)(h:∀t∈ts,(n1 t).all (far i)=true):S.W i∉(R1 S ts).map (·.1):=by
 rw [zM]
 exact jd hW hi (mx h)
theorem tV{i:Nat}(hi:i < 16)(h:∀t∈ts,(n2 t).all (far i)=true):S.W i∉(R2 S ts).map (·.1):=by
 rw [zW]
 exact jd hW hi (mx h)
theorem hk(h:Tg.k∈ts):look (R1 S ts) (S.W 7)=some S.K1:=eB (t:=.k) (by show look [(S.W 7,S.K1)] (S.W 7)=_;rw [aP,if_pos rfl]) h (fun t' _ n=>d4 (by
 rw [yF]
 refine jd hW (by decide) ?_
 cases t'<;>first|exact absurd rfl n|decide))
theorem ho1(h:Tg.o∈ts):look (R1 S ts) (S.W 1)=some S.hid:=eB (t:=.o) (by show look S.F0.1 (S.W 1)=_;rw [aP,if_pos rfl]) h (fun t' _ n=>d4 (by
 rw [yF]
 refine jd hW (by decide) ?_
 cases t'<;>first|exact absurd rfl n|decide))
theorem hf1(h:Tg.f1∈ts):look (R2 S ts) (S.W 10)=some ([S.K1,.num 2],S.K1):=eB (t:=.f1) (by show look [(S.W 10,_)] (S.W 10)=_;rw [aP,if_pos rfl]) h (fun t' _ n=>d4 (by
 rw [zj]
 refine jd hW (by decide) ?_
 cases t'<;>first|exact absurd rfl n|decide))
theorem ho3(h:Tg.o∈ts):look (R2 S ts) (S.W 3)=some ([],S.hid):=eB (t:=.o) (by show look S.F0.2 (S.W 3)=_;rw [aP,if_pos rfl]) h (fun t' _ n=>d4 (by
 rw [zj]
 refine jd hW (by decide) ?_
 cases t'<;>first|exact absurd rfl n|decide))
end
def pre(t:Tg)(ts:List Tg):Bool:=match t with
 |.k=>!ts.contains .k
 |.f1=>ts.contains .k&&!ts.contains .f1
 |.f2=>!ts.contains .f2
 |.f3=>ts.contains .k&&ts.contains .f1&&!ts.contains .f3
 |.f4=>!ts.contains .f4&&!ts.contains .g4
 |.g4=>ts.contains .o&&!ts.contains .f4&&!ts.contains .g4
 |.o=>!ts.contains .o
 |.x=>ts.contains .o&&!ts.contains .x
theorem vp(S:Sc)(ts:List Tg)(t:Tg):R1 S (ts++[t])=R1 S ts++r1 S t:=by
 show(ts++[t]).flatMap (r1 S)=_
 rw [List.flatMap_append]
 simp
theorem uQ(S:Sc)(ts:List Tg)(t:Tg):R2 S (ts++[t])=R2 S ts++r2 S t:=by
 show(ts++[t]).flatMap (r2 S)=_
 rw [List.flatMap_append]
 simp
theorem oW{α:Type}{m:List (Str × α)}{a b:Str × α}(ha:a.1∉m.map (·.1))(hb:b.1∉m.map (·.1))(n:b.1≠a.1):aQ m [a,b]=some (m++[a,b]):=by
 unfold aQ
 rw [if_neg ha]
 unfold aQ
 rw [if_neg (by rw [List.map_append,List.mem_append];rintro(h|h);exact hb h;exact n (List.mem_singleton.mp h))]
 unfold aQ
 rw [List.append_assoc];rfl
theorem gg{parts:bH}{m1:bh}{m2:ba}{w:Str}{ps:List (Str × Kd)}{k k':Kd}{ks:List Kd}(h1:bn (tl m1 parts) 40 (ps.map (·.2))=.ok ks)(h2:cR (tl m1 parts) 40 k=.ok k')(hw:w∉m2.map (·.1)):cC parts 40 m1 m2 (.fn w ps k)=.ok m1 (m2++[(w,(ks,k'))]):=by
 unfold cC
 simp only [h1,h2,if_neg hw]
theorem rm{T:Str × Str->Option Kd}:bn T 40 []=.ok []:=rfl
theorem ug{T:Str × Str->Option Kd}{k k':Kd}(h:cR T 40 k=.ok k'):bn T 40 [k]=.ok [k']:=by simp only [bn,h]
theorem wf{T:Str × Str->Option Kd}{k k' j j':Kd}(h:cR T 40 k=.ok k')(h2:cR T 40 j=.ok j'):bn T 40 [k,j]=.ok [k',j']:=by simp only [bn,h,h2]
section
variable{S:Sc}(hW:WOk S.W){ts:List Tg}
include hW
theorem xy{t:Tg}(h:pre t ts=true):gb S.parts (R1 S ts) (R2 S ts) (itT S t)=none/\cC S.parts 40 (R1 S ts) (R2 S ts) (itT S t).1=.ok (R1 S (ts++[t])) (R2 S (ts++[t])):=by
 rw [vp,uQ]
 have nil1:R1 S ts++[]=R1 S ts:=List.append_nil _
 have nil2:R2 S ts++[]=R2 S ts:=List.append_nil _
 cases t with
 |k =>
  have h':Tg.k∉ts:=by simpa [pre] using h
  refine⟨rfl,?_⟩
  show cC S.parts 40 _ _ (.kind (S.W 7) S.K0)=.ok (R1 S ts++[(S.W 7,S.K1)]) (R2 S ts++[])
  rw [nil2]
  unfold cC
  simp only [yW hW]
  rw [if_neg (yn hW (by decide) fun t ht=>by cases t<;>first|exact absurd ht h'|decide)]
 |f1 =>
  obtain⟨h1,h2⟩:Tg.k∈ts/\Tg.f1∉ts:=by simpa [pre] using h
  refine⟨Aw hW (hk hW h1),?_⟩
  show cC S.parts 40 _ _ (.fn (S.W 10) [(S.W 8,S.ow),(S.W 9,.num 2)] S.ow)=.ok (R1 S ts++[]) (R2 S ts++[(S.W 10,([S.K1,.num 2],S.K1))])
  rw [nil1]
  exact gg (wf (jp (hk hW h1)) dX) (jp (hk hW h1)) (tV hW (by decide) fun t ht=>by cases t<;>first|exact absurd ht h2|decide)
 |f2 =>
  have h2:Tg.f2∉ts:=by simpa [pre] using h
  refine⟨zQ hW,?_⟩
  show cC S.parts 40 _ _ (.fn (S.W 11) [(S.W 8,S.hid)] (.name (S.W 0) (S.W 2)))=.ok (R1 S ts++[]) (R2 S ts++[(S.W 11,([S.hid],S.nN))])
  rw [nil1]
  exact gg (ug (dY hW)) (uW hW) (tV hW (by decide) fun t ht=>by cases t<;>first|exact absurd ht h2|decide)
 |f3 =>
  obtain⟨⟨h1,h2⟩,h3⟩:(Tg.k∈ts/\Tg.f1∈ts)/\Tg.f3∉ts:=by simpa [pre] using h
  refine⟨zX hW (hk hW h1) (hf1 hW h2),?_⟩
  show cC S.parts 40 _ _ (.fn (S.W 12) [(S.W 9,S.ow)] S.ow)=.ok (R1 S ts++[]) (R2 S ts++[(S.W 12,([S.K1],S.K1))])
  rw [nil1]
  exact gg (ug (jp (hk hW h1))) (jp (hk hW h1)) (tV hW (by decide) fun t ht=>by cases t<;>first|exact absurd ht h3|decide)
 |f4 =>
  obtain⟨h1,h2⟩:Tg.f4∉ts/\Tg.g4∉ts:=by simpa [pre] using h
  refine⟨zR hW,?_⟩
  show cC S.parts 40 _ _ (.fn (S.W 13) [] S.hid)=.ok (R1 S ts++[]) (R2 S ts++[(S.W 13,([],S.hid))])
  rw [nil1]
  exact gg rm (dY hW) (tV hW (by decide) fun t ht=>by cases t<;>first|exact absurd ht h1|exact absurd ht h2|decide)
 |g4 =>
  obtain⟨⟨h0,h1⟩,h2⟩:(Tg.o∈ts/\Tg.f4∉ts)/\Tg.g4∉ts:=by simpa [pre] using h
  refine⟨AE hW (ho1 hW h0) (ho3 hW h0),?_⟩
  show cC S.parts 40 _ _ (.fn (S.W 13) [] (.name "" (S.W 1)))=.ok (R1 S ts++[]) (R2 S ts++[(S.W 13,([],S.hid))])
  rw [nil1]
  exact gg rm (wD (ho1 hW h0)) (tV hW (by decide) fun t ht=>by cases t<;>first|exact absurd ht h1|exact absurd ht h2|decide)
 |o =>
  have h1:Tg.o∉ts:=by simpa [pre] using h
  refine⟨rfl,?_⟩
  show cC S.parts 40 _ _ (.opn (S.W 0))=.ok (R1 S ts++S.F0.1) (R2 S ts++S.F0.2)
  unfold cC
  simp only [pt0 hW]
  have e1:aQ (R1 S ts) [(S.W 1,S.hid),(S.W 2,S.nN)]=some (R1 S ts++[(S.W 1,S.hid),(S.W 2,S.nN)]):=oW (yn hW (by decide) fun t ht=>by cases t<;>first|exact absurd ht h1|decide) (yn hW (by decide) fun t ht=>by cases t<;>first|exact absurd ht h1|decide) (hW.ne (by decide) (by decide) (by decide))
  have e2:aQ (R2 S ts) [(S.W 3,(([]:List Kd),S.hid)),(S.W 4,([S.hid,S.nN],S.nN))]=some (R2 S ts++[(S.W 3,([],S.hid)),(S.W 4,([S.hid,S.nN],S.nN))]):=oW (tV hW (by decide) fun t ht=>by cases t<;>first|exact absurd ht h1|decide) (tV hW (by decide) fun t ht=>by cases t<;>first|exact absurd ht h1|decide) (hW.ne (by decide) (by decide) (by decide))
  simp only [e1,e2]
 |x =>
  obtain⟨h0,h1⟩:Tg.o∈ts/\Tg.x∉ts:=by simpa [pre] using h
  refine⟨l_x hW (ho3 hW h0),?_⟩
  show cC S.parts 40 _ _ (.fn (S.W 14) [] S.hid)=.ok (R1 S ts++[]) (R2 S ts++[(S.W 14,([],S.hid))])
  rw [nil1]
  exact gg rm (dY hW) (tV hW (by decide) fun t ht=>by cases t<;>first|exact absurd ht h1|decide)
end
def uL:List Tg->List Tg->Bool
 |_,[]=>true
 |dn,t::r=>pre t dn&&uL (dn++[t]) r
theorem qW{S:Sc}(hW:WOk S.W)(rest:List IE):∀{ts dn:List Tg},uL dn ts=true->lwR S.parts (R1 S dn) (R2 S dn) (ts.map (itT S)++rest)=lwR S.parts (R1 S (dn++ts)) (R2 S (dn++ts)) rest
 |[],dn,_=>by rw [List.append_nil];rfl
 |t::r,dn,h=>by
  have h':=Bool.and_eq_true_iff.mp (show(pre t dn&&uL (dn++[t]) r)=true from h)
  obtain⟨e1,e2⟩:=xy hW h'.1
  show lwR S.parts (R1 S dn) (R2 S dn) (itT S t::(r.map (itT S)++rest))=_
  rw [lwR,e1]
  simp only [e2]
  rw [qW hW rest h'.2,List.append_assoc]
  rfl
theorem wH{S:Sc}(hW:WOk S.W){ts:List Tg}(h:uL [] ts=true):lwR S.parts [] [] (ts.map (itT S))=none:=by
 have:=qW hW [] h
 rw [List.append_nil] at this
 exact this
theorem wM{S:Sc}(hW:WOk S.W){ts:List Tg}{i:IE}{c:Nat}(rest:List IE)(h:uL [] ts=true)(hb:gb S.parts (R1 S ts) (R2 S ts) i=some c):lwR S.parts [] [] (ts.map (itT S)++i::rest)=some c:=by
 refine(qW hW (i::rest) h).trans ?_
 rw [List.nil_append,lwR,hb]
def bsT(mode j:Nat):List Tg:=if mode=0 then [.k,.f1,.f2,.f3,.f4] else match j with
 |0=>[.o,.k,.f1,.f2,.f3,.g4]
 |1=>[.k,.o,.f1,.f2,.f3,.g4]
 |_=>[.k,.f1,.f2,.f3,.o,.g4]
def idx:Nat->Nat
 |0=>0
 |1=>1
 |_=>4
def vX(mode j v at':Nat):Bool:=if v=1 then at'==(if mode=0 then 1 else if j < 2 then 2 else 1) else if v=8 then at'==(bsT mode j).length else if 10<=v/\mode≠0 then at'==idx j+(v - 10) else decide (1<=at')&&decide (at'<=(bsT mode j).length)
def km(mode v:Nat):Option Nat:=if v=11/\mode≠0 then none else some (yh mode v)
def zi(mode j v at':Nat):Bool :=
 let ts:=(bsT mode j).take at'
 uL [] ts&&(ts.all fun t=>(n2 t).all (far 14))&&(ts.all fun t=>(n2 t).all (far 15))&&(!(v==1)||(ts.contains .k&&ts.all fun t=>(n2 t).all (far 10)))&&(!((v==8&&mode==0)||v==10||(v==11&&mode==0))||ts.all fun t=>(n2 t).all (far 3))&&(!(v==8&&!(mode==0))||ts.contains .o)
theorem sA:∀mode < 2,∀j < 3,∀v < 12,∀at' < 7,(!(vX mode j v at')||zi mode j v at')=true:=by decide +kernel
theorem oX:∀mode < 2,∀j < 3,uL [] (bsT mode j)=true:=by decide +kernel
theorem wY:∀j < 3,uL [] ((bsT 1 j).take (idx j+1)++.x::(bsT 1 j).drop (idx j+1))=true:=by decide +kernel
theorem spo{S:Sc}(hW:WOk S.W){mode j v at' st:Nat}(hm:mode < 2)(hj:j < 3)(hv:v < 12)(ha:at' < 7)(h:vX mode j v at'=true) :
  lwR S.parts [] [] (((bsT mode j).take at').map (itT S)++bd S mode st v::((bsT mode j).drop at').map (itT S))=km mode v:=by
 by_cases c:v=11/\mode≠0
 ·obtain⟨rfl,c⟩:=c
  obtain rfl:mode=1:=by omega
  unfold km
  rw [if_pos ⟨rfl,c⟩]
  have e:at'=idx j+1:=by
   have:(at'==idx j+(11 - 10))=true:=h
   exact eq_of_beq this
  subst e
  have:=wH hW (wY j hj)
  rw [List.map_append] at this
  exact this
 ·unfold km
  rw [if_neg c]
  have f:=sA mode hm j hj v hv at' ha
  rw [h] at f
  replace f:zi mode j v at'=true:=f
  unfold zi at f
  simp only [Bool.and_eq_true,Bool.or_eq_true,Bool.not_eq_true',beq_eq_false_iff_ne,ne_eq,List.all_eq_true] at f
  obtain⟨⟨⟨⟨⟨f1,f2⟩,f3⟩,f4⟩,f5⟩,f6⟩:=f
  have ne:∀{i:Nat},i < 16->(∀t∈(bsT mode j).take at',∀y∈n2 t,far i y=true)->look (R2 S ((bsT mode j).take at')) (S.W i)=none:=fun {i} hi h=>d4 (tV hW hi fun t ht=>List.all_eq_true.mpr (h t ht))
  refine wM hW _ f1 (tD hW (ne (by decide) f2) (ne (by decide) f3) (fun e=>?_) (fun e=>?_) (fun e1 e2=>?_))
  ·rcases f4 with f4|⟨f4,f4'⟩
   ·exact absurd e f4
   ·exact⟨hk hW (by simpa using f4),ne (by decide) f4'⟩
  ·rcases f5 with f5|f5
   ·exfalso
    simp only [Bool.or_eq_false_iff,Bool.and_eq_false_iff,beq_eq_false_iff_ne,ne_eq] at f5
    omega
   ·exact ne (by decide) f5
  ·rcases f6 with f6|f6
   ·exfalso
    subst e1
    simp [e2] at f6
   ·exact ho3 hW (by simpa using f6)
abbrev wl(W:Nat->Str):List V:=[.str (W 0),.str (W 1),.str (W 2),.str (W 3),.str (W 4),.str (W 5),.str (W 6),.str (W 7),.str (W 8),.str (W 9),.str (W 10),.str (W 11),.str (W 12),.str (W 13),.str (W 14),.str (W 15)]
theorem eA{H H':Hp}{d:Addr}{o:HO}(hd:H d=none)(s:aH (upd H d (.dK [])) H'):aH H (upd H' d o):=jC ((ad hd _).trans s) hd
theorem fY{K:W.Frag}{H:Hp}{d:Addr}{kvs:List (Key × V)}{o:HO}(h:H d=some (.dK kvs)){x:V}{k:Kd}(t:bJ K H x k):bJ K (upd H d o) x k:=bq (fun _ _ t=>gB h t) t
theorem sV{H:Hp}{d:Addr}{kvs:List (Key × V)}{o:HO}(h:H d=some (.dK kvs)){b:Addr}{xs:List V}(e:H b=some (.tup xs)):upd H d o b=some (.tup xs):=by
 rw [am (fun z=>by rw [z,h] at e;cases e)]
 exact e
theorem eI{K:W.Frag}{H:Hp}{d:Addr}{kvs:List (Key × V)}{o:HO}(h:H d=some (.dK kvs)){x:V}{f:List Kd × Kd}(t:cY K H x f):cY K (upd H d o) x f:=t.keep (fun _ _ t=>gB h t) (fun _ _ e=>sV h e)
theorem jK{K:W.Frag}{H H':Hp}{x:V}{f:List Kd × Kd}(s:aH H H')(t:cY K H x f):cY K H' x f:=t.keep (fun _ _ t=>s.tup t) (fun _ _ e=>s _ _ e)
theorem pk2{α:Type}{R:V->α->Prop}{a b:Str}{u v:V}{x y:α}(n:b≠a)(hu:R u x)(hv:R v y):cW R (bi (bi [] (.inr a) u) (.inr b) v) [(a,x),(b,y)]:=by
 have h1:cW R (bi [] (.inr a) u) [(a,x)]:=cW.put (.nil:cW R [] []) (by simp) hu
 exact cW.put h1 (by simpa using n) hv
theorem pk1{α:Type}{R:V->α->Prop}{a:Str}{u:V}{x:α}(hu:R u x):cW R (bi [] (.inr a) u) [(a,x)]:=cW.put (.nil:cW R [] []) (by simp) hu
abbrev fcN:List Str:=["_law_words","_law_size_here","_law_q","_law_hid","_law_funs","_law_one","_law_own"]
abbrev fcP:List Str:=["_law_words","_law_size_here"]
def jA(K:W.Frag)(CF:Addr):Sp:=fun vs H Q _=>∃(lw:Addr) (S:Sc),vs=[.ref lw,.int S.N]/\H lw=some (.lst (wl S.W))/\WOk S.W/\∀H' d,aH H H'->H d=none->fc K H' CF d S.parts->Q (.ref d) H'
section
variable{P:Program}{w:World}{K:W.Frag}{mg:Str->Option Value}{base:Heap}
theorem eM:aJ fcN fcP (aj gc):=⟨rfl,rfl,rfl,by decide +kernel,rfl,by decide +kernel,by decide +kernel⟩
theorem pi{f fi CF:Addr}{fd fdi:FuncData} (F:Fun K "_law_faces" "_law_faces" gc f fd)
  (GI:aV P w K mg base CX0 1 fi fdi ["self","kinds","funs"] (lA CF)) (bI:aL K fdi ["self","kinds","funs"] []) (MF:Mk K CF fi) (mCF:mg "Face"=some (.ref CF)) :
  aV P w K mg base CX0 3 f fd fcP (jA K CF):=by
 refine F.ok eM (fun vs H Q E h=>?_) (fun cdv A outer s H vs Q E hr2 h=>?_)
 ·obtain⟨_,_,rfl,_⟩:=h
  rfl
 obtain⟨lw,S,rfl,hw,hW,q⟩:=h
 refine⟨_,@ah _ _ _ _ _ (ay (i:=2) eM.nd rfl (Or.inl rfl) (aq ap (pv 0) ag (fun _ _=>rfl))) (@ah _ _ _ _ _ (ay (i:=3) eM.nd rfl (Or.inl rfl) (@ak _ _ _ _ _ (@aa _ _ _ _ _ ai (@aa _ _ _ _ _ (pv 2) (@aa _ _ _ _ _ (aq ap (pv 0) ag (fun _ _=>rfl)) ae rfl) rfl) rfl))) (@ah _ _ _ _ _ (ay (i:=4) eM.nd rfl (Or.inl rfl) (hX (dw (aq ap (pv 0) ag (fun _ _=>rfl)) (@ak _ _ _ _ _ (@aa _ _ _ _ _ (@ak _ _ _ _ _ ae) (@aa _ _ _ _ _ (pv 3) ae rfl) rfl)) (dw (aq ap (pv 0) ag (fun _ _=>rfl)) (@ak _ _ _ _ _ (@aa _ _ _ _ _ (@ak _ _ _ _ _ (@aa _ _ _ _ _ (pv 3) (@aa _ _ _ _ _ (@ak _ _ _ _ _ (@aa _ _ _ _ _ ai (@aa _ _ _ _ _ (pv 1) ae rfl) rfl)) ae rfl) rfl)) (@aa _ _ _ _ _ (@ak _ _ _ _ _ (@aa _ _ _ _ _ ai (@aa _ _ _ _ _ (pv 1) ae rfl) rfl)) ae rfl) rfl)) iz)) rfl rfl (by intro e;cases e) (by decide))) (@ah _ _ _ _ _ (ay (i:=5) eM.nd rfl (Or.inl rfl) (lQ MF GI hr2 (by rfl) mCF bI .nil bQ (@aa _ _ _ _ _ (hX (dw (aq ap (pv 0) ag (fun _ _=>rfl)) (pv 3) (dw (aq ap (pv 0) ag (fun _ _=>rfl)) (@ak _ _ _ _ _ (@aa _ _ _ _ _ ai (@aa _ _ _ _ _ (pv 1) ae rfl) rfl)) iz)) rfl rfl (by intro e;cases e) (by decide)) (@aa _ _ _ _ _ (pv 4) ae rfl) rfl))) (@ah _ _ _ _ _ (ay (i:=6) eM.nd rfl (Or.inl rfl) (@ak _ _ _ _ _ (@aa _ _ _ _ _ ai (@aa _ _ _ _ _ (aq ap (pv 0) ag (fun _ _=>rfl)) (@aa _ _ _ _ _ (aq ap (pv 0) ag (fun _ _=>rfl)) ae rfl) rfl) rfl))) (@ao _ _ _ (@aM _ _ _ _ (hX (dw (pv 2) (pv 5) (dw (aq ap (pv 0) ag (fun _ _=>rfl)) (lQ MF GI hr2 (by rfl) mCF bI .nil bQ (@aa _ _ _ _ _ (hX (dw (aq ap (pv 0) ag (fun _ _=>rfl)) (pv 6) iz) rfl rfl (by intro e;cases e) (by decide)) (@aa _ _ _ _ _ (hX (dw (aq ap (pv 0) ag (fun _ _=>rfl)) (@ak _ _ _ _ _ (@aa _ _ _ _ _ (@ak _ _ _ _ _ (@aa _ _ _ _ _ (pv 6) ae rfl)) (@aa _ _ _ _ _ (@ak _ _ _ _ _ (@aa _ _ _ _ _ ai (@aa _ _ _ _ _ ag ae rfl) rfl)) ae rfl) rfl)) iz) rfl rfl (by intro e;cases e) (by decide)) ae rfl) rfl)) iz)) rfl rfl (by intro e;cases e) (by decide)))))))),?_⟩
 have ix:∀{H':Hp},aH H H'->SqL K H' lw (wl S.W):=fun s=>SqL.of (s _ _ hw)
 refine⟨_,rfl,lw,_,_,_,rfl,rfl,ix (aH.refl _),(show atI (wl S.W) 0=some (.str (S.W 0)) from rfl),?_⟩
 refine⟨_,rfl,_,rfl,lw,_,_,_,rfl,rfl,ix (aH.refl _),(show atI (wl S.W) 1=some (.str (S.W 1)) from rfl),(szQ 3),fun ph hph=>?_⟩
 have s1:=ad hph (.tup [.str "name",.str (S.W 0),.str (S.W 1)])
 have kh:bJ K _ (.ref ph) S.hid:=.name (SqT.of (ac (H:=H) (a:=ph) (o:=.tup [.str "name",.str (S.W 0),.str (S.W 1)])))
 show fJ 3 (.ref ph) _ (upd H ph (.tup [.str "name",.str (S.W 0),.str (S.W 1)])) _
 generalize upd H ph (.tup [.str "name",.str (S.W 0),.str (S.W 1)])=H1 at s1 kh
 refine fun df hdf=>?_
 have a1:=ad hdf (.dK [])
 have A1:=s1.trans a1
 refine⟨_,rfl,lw,_,_,_,rfl,rfl,ix (A1),(show atI (wl S.W) 3=some (.str (S.W 3)) from rfl),(szQ 0),fun q1 h1=>?_⟩
 have a2:=ad h1 (.tup [])
 refine⟨_,rfl,(szQ 2),fun q2 h2=>?_⟩
 have a3:=ad h2 (.tup [.ref q1,.ref ph])
 have A3:=A1.trans (a2.trans a3)
 refine⟨_,rfl,lw,_,_,_,rfl,rfl,ix (A3),(show atI (wl S.W) 4=some (.str (S.W 4)) from rfl),_,rfl,_,rfl,(szQ 2),fun q3 h3=>?_⟩
 have a4:=ad h3 (.tup [.str "num",.int S.N])
 refine⟨(szQ 2),fun q4 h4=>?_⟩
 have a5:=ad h4 (.tup [.ref ph,.ref q3])
 refine⟨_,rfl,(szQ 2),fun q5 h5=>?_⟩
 have a6:=ad h5 (.tup [.str "num",.int S.N])
 refine⟨(szQ 2),fun q6 h6=>?_⟩
 have a7:=ad h6 (.tup [.ref q4,.ref q5])
 have b6:=a7
 have b5:=a6.trans b6
 have b4:=a5.trans b5
 have b3:=a4.trans b4
 have b2:=a3.trans b3
 have b1:=a2.trans b2
 have g1:=b1 _ _ (ac (H:=_) (a:=df) (o:=.dK []))
 have f3:cY K _ (.ref q2) ([],S.hid):=⟨q2,q1,.ref ph,[],rfl,SqT.of (b3 _ _ ac),b2 _ _ ac,.nil,kh.same (a1.trans b1)⟩
 have f4:cY K _ (.ref q6) ([S.hid,S.nN],S.nN):=⟨q6,q4,.ref q5,[.ref ph,.ref q3],rfl,SqT.of ac,b5 _ _ ac,.cons (kh.same (a1.trans b1)) (.cons (.num (SqT.of (b4 _ _ ac))) .nil),.num (SqT.of (b6 _ _ ac))⟩
 refine⟨g1,[(.inr (S.W 3),.ref q2),(.inr (S.W 4),.ref q6)],rfl,(by show 2<=15;decide),?_⟩
 have s2:=eA (o:=.dK (bi (bi [] (.inr (S.W 3)) (.ref q2)) (.inr (S.W 4)) (.ref q6))) hdf b1
 have kh2:=fY (o:=.dK (bi (bi [] (.inr (S.W 3)) (.ref q2)) (.inr (S.W 4)) (.ref q6))) g1 (kh.same (a1.trans b1))
 have f3':=eI (o:=.dK (bi (bi [] (.inr (S.W 3)) (.ref q2)) (.inr (S.W 4)) (.ref q6))) g1 f3
 have f4':=eI (o:=.dK (bi (bi [] (.inr (S.W 3)) (.ref q2)) (.inr (S.W 4)) (.ref q6))) g1 f4
 have gdf:=ac (H:=(upd (upd (upd (upd (upd (upd (upd H1 df (.dK [])) q1 (.tup [])) q2 (.tup [.ref q1,.ref ph])) q3 (.tup [.str "num",.int S.N])) q4 (.tup [.ref ph,.ref q3])) q5 (.tup [.str "num",.int S.N])) q6 (.tup [.ref q4,.ref q5]))) (a:=df) (o:=.dK (bi (bi [] (.inr (S.W 3)) (.ref q2)) (.inr (S.W 4)) (.ref q6)))
 show fJ 4 (.ref df) _ (upd (upd (upd (upd (upd (upd (upd (upd H1 df (.dK [])) q1 (.tup [])) q2 (.tup [.ref q1,.ref ph])) q3 (.tup [.str "num",.int S.N])) q4 (.tup [.ref ph,.ref q3])) q5 (.tup [.str "num",.int S.N])) q6 (.tup [.ref q4,.ref q5])) df (.dK (bi (bi [] (.inr (S.W 3)) (.ref q2)) (.inr (S.W 4)) (.ref q6)))) _
 generalize upd (upd (upd (upd (upd (upd (upd (upd H1 df (.dK [])) q1 (.tup [])) q2 (.tup [.ref q1,.ref ph])) q3 (.tup [.str "num",.int S.N])) q4 (.tup [.ref ph,.ref q3])) q5 (.tup [.str "num",.int S.N])) q6 (.tup [.ref q4,.ref q5])) df (.dK (bi (bi [] (.inr (S.W 3)) (.ref q2)) (.inr (S.W 4)) (.ref q6)))=H2 at s2 kh2 f3' f4' gdf
 clear g1 f3 f4 b1 b2 b3 b4 b5 b6 a1 a2 a3 a4 a5 a6 a7 A1 A3
 have s12:=s1.trans s2
 have n34:S.W 4≠S.W 3:=hW.ne (by decide) (by decide) (by decide)
 have n12:S.W 2≠S.W 1:=hW.ne (by decide) (by decide) (by decide)
 have pf:cW (cY K H2) (bi (bi [] (.inr (S.W 3)) (.ref q2)) (.inr (S.W 4)) (.ref q6)) S.F0.2:=pk2 n34 f3' f4'
 clear h1 h2 h3 h4 h5 h6 f3' f4'
 generalize (bi (bi [] (.inr (S.W 3)) (.ref q2)) (.inr (S.W 4)) (.ref q6):List (Key × V))=fv at gdf pf
 refine fun dk hdk=>?_
 have a1:=ad hdk (.dK [])
 have A1:=s12.trans a1
 refine⟨_,rfl,lw,_,_,_,rfl,rfl,ix (A1),(show atI (wl S.W) 1=some (.str (S.W 1)) from rfl),_,rfl,_,rfl,lw,_,_,_,rfl,rfl,ix (A1),(show atI (wl S.W) 2=some (.str (S.W 2)) from rfl),_,rfl,(szQ 2),fun q7 h7=>?_⟩
 have a2:=ad h7 (.tup [.str "num",.int S.N])
 have g1:=a2 _ _ (ac (H:=_) (a:=dk) (o:=.dK []))
 refine⟨g1,[(.inr (S.W 1),.ref ph),(.inr (S.W 2),.ref q7)],rfl,(by show 2<=15;decide),?_⟩
 have s3:=eA (o:=.dK (bi (bi [] (.inr (S.W 1)) (.ref ph)) (.inr (S.W 2)) (.ref q7))) hdk a2
 have kh3:=fY (o:=.dK (bi (bi [] (.inr (S.W 1)) (.ref ph)) (.inr (S.W 2)) (.ref q7))) g1 (kh2.same (a1.trans a2))
 have kn3:=fY (K:=K) (k:=S.nN) (o:=.dK (bi (bi [] (.inr (S.W 1)) (.ref ph)) (.inr (S.W 2)) (.ref q7))) g1 (.num (SqT.of (ac (H:=upd H2 dk (.dK [])) (a:=q7) (o:=.tup [.str "num",.int S.N]))))
 have gdk:=ac (H:=upd (upd H2 dk (.dK [])) q7 (.tup [.str "num",.int S.N])) (a:=dk) (o:=.dK (bi (bi [] (.inr (S.W 1)) (.ref ph)) (.inr (S.W 2)) (.ref q7)))
 show vq _ _ _ (upd (upd (upd H2 dk (.dK [])) q7 (.tup [.str "num",.int S.N])) dk (.dK (bi (bi [] (.inr (S.W 1)) (.ref ph)) (.inr (S.W 2)) (.ref q7)))) _
 generalize upd (upd (upd H2 dk (.dK [])) q7 (.tup [.str "num",.int S.N])) dk (.dK (bi (bi [] (.inr (S.W 1)) (.ref ph)) (.inr (S.W 2)) (.ref q7)))=H3 at s3 kh3 kn3 gdk
 have pk:cW (bJ K H3) (bi (bi [] (.inr (S.W 1)) (.ref ph)) (.inr (S.W 2)) (.ref q7)) S.F0.1:=pk2 n12 kh3 kn3
 clear g1 a1 a2 A1 h7 kn3
 generalize (bi (bi [] (.inr (S.W 1)) (.ref ph)) (.inr (S.W 2)) (.ref q7):List (Key × V))=kv at gdk pk
 have gdf3:=s3 _ _ gdf
 have pf3:=pf.imp fun _ _ t=>jK s3 t
 have s13:=s12.trans s3
 refine⟨_,rfl,?_⟩
 intro x dx' nx ndx nex
 have ea:=ad ndx (.own x)
 have nx':upd H3 dx' (.own x) x=none:=by rw [am (Ne.symm nex)];exact nx
 have eab:=ea.trans (ad nx' (.ins CF dx' []))
 refine⟨x,dx',dk,df,kv,fv,rfl,ac,eab _ _ gdk,eab _ _ gdf3,fun d e fs' H4 hd he nde hx lk lf lh lp hd4 he4 keep=>⟨rfl,?_⟩⟩
 have s4:aH H3 H4:=fun b o hb=>keep b o (eab _ _ hb) (fun z=>by rw [z,nx] at hb;cases hb)
 have F1:iK K H4 CF x S.F0.1 S.F0.2:=⟨dx',d,e,fs',kv,fv,hx,lk,lf,hd4,he4,pk.imp fun _ _ t=>t.same s4,pf3.imp fun _ _ t=>jK s4 t,lh,lp⟩
 have s14:=s13.trans s4
 clear hd he nde hx lk lf lh lp hd4 he4 keep eab ea nx' nex ndx nx gdk gdf3 pf3 pk kh3 kh2 kh pf
 refine⟨_,rfl,lw,_,_,_,rfl,rfl,ix (s14),(show atI (wl S.W) 5=some (.str (S.W 5)) from rfl),_,rfl,lw,_,_,_,rfl,rfl,ix (s14),(show atI (wl S.W) 6=some (.str (S.W 6)) from rfl),(szQ 3),fun po hpo=>?_⟩
 have s5:=ad hpo (.tup [.str "name",.str (S.W 5),.str (S.W 6)])
 have ko:bJ K _ (.ref po) S.own5:=.name (SqT.of (ac (H:=H4) (a:=po) (o:=.tup [.str "name",.str (S.W 5),.str (S.W 6)])))
 show fJ 6 (.ref po) _ (upd H4 po (.tup [.str "name",.str (S.W 5),.str (S.W 6)])) _
 generalize upd H4 po (.tup [.str "name",.str (S.W 5),.str (S.W 6)])=H5 at s5 ko
 have F1':=iK.same s5 F1
 have s15:=s14.trans s5
 clear F1 s1 s2 s3 s4 s12 s13
 refine fun dd hdd=>?_
 have a0:=ad hdd (.dK [])
 have A0:=s15.trans a0
 refine⟨_,rfl,_,rfl,_,rfl,lw,_,_,_,rfl,rfl,ix (A0),(show atI (wl S.W) 5=some (.str (S.W 5)) from rfl),?_⟩
 refine fun dk2 hdk2=>?_
 have a1:=ad hdk2 (.dK [])
 have A1:=A0.trans a1
 have g1:=ac (H:=upd H5 dd (.dK [])) (a:=dk2) (o:=.dK [])
 refine⟨_,rfl,lw,_,_,_,rfl,rfl,ix (A1),(show atI (wl S.W) 6=some (.str (S.W 6)) from rfl),_,rfl,g1,[(.inr (S.W 6),.ref po)],rfl,(by show 1<=15;decide),?_⟩
 have b1:=eA (o:=.dK (bi [] (.inr (S.W 6)) (.ref po))) hdk2 (aH.refl _)
 have gdk:=ac (H:=upd (upd H5 dd (.dK [])) dk2 (.dK [])) (a:=dk2) (o:=.dK (bi [] (.inr (S.W 6)) (.ref po)))
 have gdd:=b1 _ _ (ac (H:=H5) (a:=dd) (o:=.dK []))
 have B1:=a0.trans b1
 show vq _ _ _ (upd (upd (upd H5 dd (.dK [])) dk2 (.dK [])) dk2 (.dK (bi [] (.inr (S.W 6)) (.ref po)))) _
 generalize upd (upd (upd H5 dd (.dK [])) dk2 (.dK [])) dk2 (.dK (bi [] (.inr (S.W 6)) (.ref po)))=H6 at b1 gdk gdd B1
 have ko6:=ko.same B1
 have pk:cW (bJ K H6) (bi [] (.inr (S.W 6)) (.ref po)) S.F5.1:=pk1 ko6
 generalize (bi [] (.inr (S.W 6)) (.ref po):List (Key × V))=kv at gdk pk
 refine fun df2 hdf2=>?_
 have a2:=ad hdf2 (.dK [])
 refine⟨_,rfl,lw,_,_,_,rfl,rfl,ix (A0.trans (b1.trans a2)),(show atI (wl S.W) 3=some (.str (S.W 3)) from rfl),_,rfl,(szQ 1),fun r1 h1=>?_⟩
 have a3:=ad h1 (.tup [.ref po])
 refine⟨(szQ 2),fun r2 h2=>?_⟩
 have a4:=ad h2 (.tup [.str "num",.int 2])
 refine⟨(szQ 2),fun r3 h3=>?_⟩
 have a5:=ad h3 (.tup [.ref r1,.ref r2])
 have c3:=a3.trans (a4.trans a5)
 have g2:=c3 _ _ (ac (H:=H6) (a:=df2) (o:=.dK []))
 have f3:cY K _ (.ref r3) ([S.own5],.num 2):=⟨r3,r1,.ref r2,[.ref po],rfl,SqT.of ac,(a4.trans a5) _ _ ac,.cons (ko6.same (a2.trans c3)) .nil,.num (SqT.of (a5 _ _ ac))⟩
 refine⟨g2,[(.inr (S.W 3),.ref r3)],rfl,(by show 1<=15;decide),?_⟩
 have b2:=eA (o:=.dK (bi [] (.inr (S.W 3)) (.ref r3))) hdf2 c3
 have f3':=eI (o:=.dK (bi [] (.inr (S.W 3)) (.ref r3))) g2 f3
 have gdf:=ac (H:=upd (upd (upd (upd H6 df2 (.dK [])) r1 (.tup [.ref po])) r2 (.tup [.str "num",.int 2])) r3 (.tup [.ref r1,.ref r2])) (a:=df2) (o:=.dK (bi [] (.inr (S.W 3)) (.ref r3)))
 show zH _ (upd (upd (upd (upd (upd H6 df2 (.dK [])) r1 (.tup [.ref po])) r2 (.tup [.str "num",.int 2])) r3 (.tup [.ref r1,.ref r2])) df2 (.dK (bi [] (.inr (S.W 3)) (.ref r3)))) _
 generalize upd (upd (upd (upd (upd H6 df2 (.dK [])) r1 (.tup [.ref po])) r2 (.tup [.str "num",.int 2])) r3 (.tup [.ref r1,.ref r2])) df2 (.dK (bi [] (.inr (S.W 3)) (.ref r3)))=H7 at b2 f3' gdf
 have pf:cW (cY K H7) (bi [] (.inr (S.W 3)) (.ref r3)) S.F5.2:=pk1 f3'
 generalize (bi [] (.inr (S.W 3)) (.ref r3):List (Key × V))=fv at gdf pf
 have gdk7:=b2 _ _ gdk
 have gdd7:=b2 _ _ gdd
 have pk7:=pk.imp fun _ _ t=>t.same b2
 intro y dx' nx ndx nex
 have ea:=ad ndx (.own y)
 have nx':upd H7 dx' (.own y) y=none:=by rw [am (Ne.symm nex)];exact nx
 have eab:=ea.trans (ad nx' (.ins CF dx' []))
 refine⟨y,dx',dk2,df2,kv,fv,rfl,ac,eab _ _ gdk7,eab _ _ gdf,fun d e fs' H8 hd he nde hx lk lf lh lp hd8 he8 keep=>⟨rfl,?_⟩⟩
 have s8:aH H7 H8:=fun b o hb=>keep b o (eab _ _ hb) (fun z=>by rw [z,nx] at hb;cases hb)
 have gdd8:=s8 _ _ gdd7
 refine⟨gdd8,[(.inr (S.W 0),.ref x),(.inr (S.W 5),.ref y)],rfl,(by show 2<=15;decide),?_⟩
 have s58:aH (upd H5 dd (.dK [])) H8:=b1.trans (b2.trans s8)
 have s9:=eA (o:=.dK (bi (bi [] (.inr (S.W 0)) (.ref x)) (.inr (S.W 5)) (.ref y))) hdd s58
 have nd:d≠dd:=fun z=>by rw [z,eab _ _ gdd7] at hd;cases hd
 have ne:e≠dd:=fun z=>by rw [z,eab _ _ gdd7] at he;cases he
 have F2:iK K (upd H8 dd (.dK (bi (bi [] (.inr (S.W 0)) (.ref x)) (.inr (S.W 5)) (.ref y)))) CF y S.F5.1 S.F5.2:=⟨dx',d,e,fs',kv,fv,by rw [am (fun z=>by rw [z,gdd8] at hx;cases hx)];exact hx,lk,lf,by rw [am nd];exact hd8,by rw [am ne];exact he8,(pk7.imp fun _ _ t=>fY gdd8 (t.same s8)),(pf.imp fun _ _ t=>eI gdd8 (jK s8 t)),lh,lp⟩
 have F1'':=iK.same s9 F1'
 have n05:S.W 5≠S.W 0:=hW.ne (by decide) (by decide) (by decide)
 exact q _ dd (s15.trans s9) (s15.free hdd) ⟨_,ac,pk2 n05 ⟨x,rfl,F1''⟩ ⟨y,rfl,F2⟩⟩
theorem gf{A:Around}{k:Nat}(hr:cA k A):A.units+64 < cLine:=by have:=hr.un;omega
theorem dL:okW "":=⟨by decide +kernel,by decide +kernel⟩
abbrev tkN:List Str:=["_law_script","_law_words","_law_size_here","_law_more_here","_law_hid","_law_a","_law_kind"]
abbrev tkP:List Str:=["_law_script","_law_words","_law_size_here","_law_more_here"]
def m3(K:PySem.W.Frag):Sp:=fun vs H Q _=>∃(sc lw:Addr) (ns:List Int) (W:Nat->Str) (N M:Int),vs=[.ref sc,.ref lw,.int N,.int M]/\SqL K H sc (ns.map V.int)/\ns.length<=63/\H lw=some (.lst (wl W))/\WOk W/\∀(H':Hp) (p:Addr) (xk xe:V) (kc:Nat) (o:Str),aH H H'->H' p=some (.tup [xk,xe])->bJ K H' xk (Sc.K0 ⟨W,N,M,kc,o⟩)->J53.ExAt H' xe (Sc.taken ⟨W,N,M,kc,o⟩)->kc < 4->PyData.strOk o=true->Q (.ref p) H'
theorem gO:aJ tkN tkP (aj gi):=⟨rfl,rfl,rfl,by decide +kernel,rfl,by decide +kernel,by decide +kernel⟩
theorem sgn{r:Int}(h0:0<=r)(h1:r < 3):∃c,atI (("+-*":Str).cps.toList) r=some c/\PyData.strOk ⟨#[c]⟩=true:=by
 have:r=0\/r=1\/r=2:=by omega
 rcases this with rfl|rfl|rfl<;>exact⟨_,rfl,by decide +kernel⟩
theorem pC{f fP:Addr}{fd fdP:FuncData} (F:Fun K "_law_taken" "_law_taken" gi f fd)
  (GP:aV P w K mg base CX0 2 fP fdP ["_law_script","_law_k","_law_many"] (J53.spPick K)) (bP:aL K fdP ["_law_script","_law_k","_law_many"] []) (kP:PySem.W.keepIn K (.ref fP)=true) (mP:mg "_law_pick"=some (.ref fP)) :
  aV P w K mg base CX0 3 f fd tkP (m3 K):=by
 refine F.ok gO (fun vs H Q E h=>?_) (fun cdv A outer s H vs Q E hrP h=>?_)
 ·obtain⟨_,_,_,_,_,_,rfl,_⟩:=h
  rfl
 obtain⟨sc,lw,ns,W,N,M,rfl,hS,h63,hw,hW,q⟩:=h
 have hr2:=hrP
 have hu64:=gf hrP
 refine⟨_,@ah _ _ _ _ _ (ay (i:=4) gO.nd rfl (Or.inl rfl) (@ak _ _ _ _ _ (@aa _ _ _ _ _ ai (@aa _ _ _ _ _ (aq ap (pv 1) ag (fun _ _=>rfl)) (@aa _ _ _ _ _ (aq ap (pv 1) ag (fun _ _=>rfl)) ae rfl) rfl) rfl))) (@ah _ _ _ _ _ (ay (i:=5) gO.nd rfl (Or.inl rfl) (@ak _ _ _ _ _ (@aa _ _ _ _ _ ai (@aa _ _ _ _ _ (aq ap (pv 1) ag (fun _ _=>rfl)) ae rfl) rfl))) (@ah _ _ _ _ _ (ay (i:=6) gO.nd rfl (Or.inl rfl) (aq ap (dq (@aa _ _ _ _ _ (@ak _ _ _ _ _ (@aa _ _ _ _ _ ai (@aa _ _ _ _ _ (pv 3) ae rfl) rfl)) (@aa _ _ _ _ _ (@ak _ _ _ _ _ (@aa _ _ _ _ _ ai (@aa _ _ _ _ _ (aq ap (pv 1) ag (fun _ _=>rfl)) (@aa _ _ _ _ _ (aq ap (pv 1) ag (fun _ _=>rfl)) ae rfl) rfl) rfl)) (@aa _ _ _ _ _ (@ak _ _ _ _ _ (@aa _ _ _ _ _ ai (@aa _ _ _ _ _ (pv 4) (@aa _ _ _ _ _ (@ak _ _ _ _ _ (@aa _ _ _ _ _ ai (@aa _ _ _ _ _ (pv 3) ae rfl) rfl)) ae rfl) rfl) rfl)) (@aa _ _ _ _ _ (pv 4) ae rfl) rfl) rfl) rfl)) (au GP hr2 rfl mP kP bP .nil bQ (@aa _ _ _ _ _ (pv 0) (@aa _ _ _ _ _ ag (@aa _ _ _ _ _ ag ae rfl) rfl) rfl)) (fun _ _=>rfl))) (@ah _ _ _ _ _ (bc (aB bu (aq aG (pv 6) ag (fun _ _=>rfl)) ai (aE _)) (@ao _ _ _ (@aM _ _ _ _ (@ak _ _ _ _ _ (@aa _ _ _ _ _ (pv 6) (@aa _ _ _ _ _ (@ak _ _ _ _ _ (@aa _ _ _ _ _ ai (@aa _ _ _ _ _ (aq pU ai (au GP hr2 rfl mP kP bP .nil bQ (@aa _ _ _ _ _ (pv 0) (@aa _ _ _ _ _ ag (@aa _ _ _ _ _ ag ae rfl) rfl) rfl)) (fun _ _=>rfl)) (@aa _ _ _ _ _ (pv 3) (@aa _ _ _ _ _ (pv 5) (@aa _ _ _ _ _ (@ak _ _ _ _ _ (@aa _ _ _ _ _ ai (@aa _ _ _ _ _ (bt qQ (pv 3) ag) (@aa _ _ _ _ _ (pv 3) ae rfl) rfl) rfl)) ae rfl) rfl) rfl) rfl) rfl)) ae rfl) rfl)))) aI) (@ah _ _ _ _ _ (bc (aB bu (aq aG (pv 6) ag (fun _ _=>rfl)) ai (aE _)) (@ao _ _ _ (@aM _ _ _ _ (@ak _ _ _ _ _ (@aa _ _ _ _ _ (pv 6) (@aa _ _ _ _ _ (@ak _ _ _ _ _ (@aa _ _ _ _ _ ai (@aa _ _ _ _ _ (@ak _ _ _ _ _ (@aa _ _ _ _ _ ai (@aa _ _ _ _ _ (pv 5) ae rfl) rfl)) (@aa _ _ _ _ _ (@ak _ _ _ _ _ (@aa _ _ _ _ _ ai (@aa _ _ _ _ _ (pv 5) ae rfl) rfl)) ae rfl) rfl) rfl)) ae rfl) rfl)))) aI) (@ah _ _ _ _ _ (bc (aB (gz hu64) (pv 6) (pv 4) (aE _)) (@ao _ _ _ (@aM _ _ _ _ (@ak _ _ _ _ _ (@aa _ _ _ _ _ (pv 6) (@aa _ _ _ _ _ (pv 5) ae rfl) rfl)))) aI) (@ao _ _ _ (@aM _ _ _ _ (@ak _ _ _ _ _ (@aa _ _ _ _ _ (pv 6) (@aa _ _ _ _ _ (@ak _ _ _ _ _ (@aa _ _ _ _ _ ai (@aa _ _ _ _ _ (pv 2) (@aa _ _ _ _ _ (pv 5) ae rfl) rfl) rfl)) ae rfl) rfl))))))))),?_⟩
 refine⟨_,rfl,lw,_,_,_,rfl,rfl,SqL.of hw,(show atI (wl W) 0=some (.str (W 0)) from rfl),_,rfl,lw,_,_,_,rfl,rfl,SqL.of hw,(show atI (wl W) 1=some (.str (W 1)) from rfl),(szQ 3),fun p1 h1=>?_⟩
 have e1:=ad h1 (.tup [.str "name",.str (W 0),.str (W 1)])
 have s1:=e1
 refine⟨_,rfl,lw,_,_,_,rfl,rfl,SqL.of (s1 _ _ hw),(show atI (wl W) 8=some (.str (W 8)) from rfl),(szQ 2),fun p2 h2=>?_⟩
 have e2:=ad h2 (.tup [.str "var",.str (W 8)])
 have s2:=s1.trans e2
 refine⟨_,rfl,(szQ 2),fun p3 h3=>?_⟩
 have e3:=ad h3 (.tup [.str "num",.int M])
 have s3:=s2.trans e3
 refine⟨_,rfl,lw,_,_,_,rfl,rfl,SqL.of (s3 _ _ hw),(show atI (wl W) 0=some (.str (W 0)) from rfl),_,rfl,lw,_,_,_,rfl,rfl,SqL.of (s3 _ _ hw),(show atI (wl W) 2=some (.str (W 2)) from rfl),(szQ 3),fun p4 h4=>?_⟩
 have e4:=ad h4 (.tup [.str "name",.str (W 0),.str (W 2)])
 have s4:=s3.trans e4
 refine⟨_,rfl,_,rfl,(szQ 2),fun p5 h5=>?_⟩
 have e5:=ad h5 (.tup [.str "num",.int M])
 have s5:=s4.trans e5
 refine⟨(szQ 3),fun p6 h6=>?_⟩
 have e6:=ad h6 (.tup [.str "pair",.ref p1,.ref p5])
 have s6:=s5.trans e6
 refine⟨_,rfl,(szQ 4),fun p7 h7=>?_⟩
 have e7:=ad h7 (.lst [.ref p3,.ref p4,.ref p6,.ref p1])
 have s7:=s6.trans e7
 refine⟨_,rfl,sc,ns,3,4,rfl,s7.seq hS,h63,by decide,by decide,by decide,fun r r0 r1=>?_⟩
 have t6:=e7
 have t5:=e6.trans t6
 have t4:=e5.trans t5
 have t3:=e4.trans t4
 have t2:=e3.trans t3
 have t1:=e2.trans t2
 have sN:=s7
 obtain⟨kh,ea,k0,k1,k2,z0,z1,z2,z3,gl⟩:=(by rintro _ rfl;exact⟨(.name (SqT.of (t1 _ _ ac))),.var (t2 _ _ ac) (Nat.le_trans (hW.sm 8).2 (by decide)),(.num (SqT.of (t3 _ _ ac))),(.name (SqT.of (t4 _ _ ac))),(.pair (SqT.of (t6 _ _ ac)) (.name (SqT.of (t1 _ _ ac))) (.num (SqT.of (t5 _ _ ac)))),(t3 _ _ ac),(t4 _ _ ac),(t6 _ _ ac),(t1 _ _ ac),SqL.of ac⟩:∀ HH,HH=(upd (upd (upd (upd (upd (upd (upd H p1 (.tup [.str "name",.str (W 0),.str (W 1)])) p2 (.tup [.str "var",.str (W 8)])) p3 (.tup [.str "num",.int M])) p4 (.tup [.str "name",.str (W 0),.str (W 2)])) p5 (.tup [.str "num",.int M])) p6 (.tup [.str "pair",.ref p1,.ref p5])) p7 (.lst [.ref p3,.ref p4,.ref p6,.ref p1]))→bJ K HH (.ref p1) (.name (W 0) (W 1))∧J53.ExAt HH (.ref p2) (.var (W 8))∧bJ K HH (.ref p3) (.num M)∧bJ K HH (.ref p4) (.name (W 0) (W 2))∧bJ K HH (.ref p6) (.pair (.name (W 0) (W 1)) (.num M))∧HH p3=some (.tup [.str "num",.int M])∧HH p4=some (.tup [.str "name",.str (W 0),.str (W 2)])∧HH p6=some (.tup [.str "pair",.ref p1,.ref p5])∧HH p1=some (.tup [.str "name",.str (W 0),.str (W 1)])∧SqL K HH p7 [V.ref p3,V.ref p4,V.ref p6,V.ref p1]) _ rfl
 have rs:r=0\/r=1\/r=2\/r=3:=by omega
 clear e1 e2 e3 e4 e5 e6 e7 t1 t2 t3 t4 t5 t6
 generalize (upd (upd (upd (upd (upd (upd (upd H p1 (.tup [.str "name",.str (W 0),.str (W 1)])) p2 (.tup [.str "var",.str (W 8)])) p3 (.tup [.str "num",.int M])) p4 (.tup [.str "name",.str (W 0),.str (W 2)])) p5 (.tup [.str "num",.int M])) p6 (.tup [.str "pair",.ref p1,.ref p5])) p7 (.lst [.ref p3,.ref p4,.ref p6,.ref p1]))=H1 at sN kh ea k0 k1 k2 z0 z1 z2 z3 gl ⊢
 clear s1 s2 s3 s4 s5 s6 s7
 have ksm:∀i j:Nat,J53.Kd.sm (Kd.name (W i) (W j)):=fun i j=>⟨⟨hW.sm i,hW.sm j⟩,by show 1<=50;decide,by show 1<=9000;decide⟩
 rcases rs with rfl|rfl|rfl|rfl
 ·refine⟨p7,_,_,_,rfl,rfl,gl,(show atI [V.ref p3,V.ref p4,V.ref p6,V.ref p1] 0=some (V.ref p3) from rfl),?_⟩
  refine⟨_,rfl,p3,_,_,_,rfl,rfl,SqT.of z0,J53.at0,rfl,_,rfl,J53.yes_s ?_⟩
  refine⟨_,rfl,_,rfl,sc,ns,4,3,rfl,sN.seq hS,h63,by decide,by decide,by decide,fun r r0 r1=>?_⟩
  obtain⟨c,hc,hco⟩:=sgn r0 r1
  refine⟨_,_,c,rfl,rfl,by decide,hc,_,rfl,_,rfl,_,rfl,_,_,rfl,rfl,_,rfl,(szQ 3),fun y1 i1=>?_⟩
  have u1:=ad i1 (.tup [.str "lit",.int (M - 1),.int M])
  refine⟨(szQ 5),fun y2 i2=>?_⟩
  have u2:=ad i2 (.tup [.str "op",.str ⟨#[c]⟩,.int M,.ref p2,.ref y1])
  refine⟨(szQ 2),fun y3 i3=>?_⟩
  have u3:=ad i3 (.tup [.ref p3,.ref y2])
  have v2:=u2.trans u3
  have v1:=u1.trans v2
  refine q _ y3 (.ref p3) (.ref y2) 0 ⟨#[c]⟩ (sN.trans v1) ac (k0.same v1) ?_ (by decide) hco
  exact .nd (f:=.op ⟨#[c]⟩ M) (xs:=[.ref p2,.ref y1]) (u3 _ _ ac) (.cons (ea.same v1) (.cons (.nd (f:=.lit (M - 1) M) (xs:=[]) (v2 _ _ ac) .nil (fun _=>rfl)) .nil)) (by rintro⟨_,_,h⟩;cases h)
 ·refine⟨p7,_,_,_,rfl,rfl,gl,(show atI [V.ref p3,V.ref p4,V.ref p6,V.ref p1] 1=some (V.ref p4) from rfl),?_⟩
  refine⟨_,rfl,p4,_,_,_,rfl,rfl,SqT.of z1,J53.at0,rfl,_,rfl,J53.no_s (by decide +kernel) ?_⟩
  refine⟨_,rfl,p4,_,_,_,rfl,rfl,SqT.of z1,J53.at0,rfl,_,rfl,J53.no_s (by decide +kernel) ?_⟩
  refine⟨_,rfl,_,rfl,_,_,J53.kd_dat k1,J53.kd_dat kh,J53.sm_shaped (ksm 0 2),J53.sm_shaped (ksm 0 1),_,rfl,?_⟩
  rw [J53.eqv_dat,decide_eq_false (show ¬Kd.name (W 0) (W 2)=Kd.name (W 0) (W 1) from fun e=>hW.ne (i:=2) (j:=1) (by decide) (by decide) (by decide) (Kd.name.inj e).2)]
  refine ce ?_
  refine⟨_,rfl,_,rfl,_,rfl,(szQ 3),fun y1 i1=>?_⟩
  have u1:=ad i1 (.tup [.str "as",.int N,.ref p2])
  refine⟨(szQ 2),fun y2 i2=>?_⟩
  have u2:=ad i2 (.tup [.ref p4,.ref y1])
  have v1:=u1.trans u2
  refine q _ y2 (.ref p4) (.ref y1) 1 "" (sN.trans v1) ac (k1.same v1) ?_ (by decide) (by decide +kernel)
  exact .nd (f:=.as_ N) (xs:=[.ref p2]) (u2 _ _ ac) (.cons (ea.same v1) .nil) (by rintro⟨_,_,h⟩;cases h)
 ·refine⟨p7,_,_,_,rfl,rfl,gl,(show atI [V.ref p3,V.ref p4,V.ref p6,V.ref p1] 2=some (V.ref p6) from rfl),?_⟩
  refine⟨_,rfl,p6,_,_,_,rfl,rfl,SqT.of z2,J53.at0,rfl,_,rfl,J53.no_s (by decide +kernel) ?_⟩
  refine⟨_,rfl,p6,_,_,_,rfl,rfl,SqT.of z2,J53.at0,rfl,_,rfl,J53.yes_s ?_⟩
  refine⟨_,rfl,_,rfl,(szQ 2),fun y1 i1=>?_⟩
  have u1:=ad i1 (.tup [.str "first",.ref p2])
  refine⟨_,rfl,(szQ 2),fun y2 i2=>?_⟩
  have u2:=ad i2 (.tup [.str "second",.ref p2])
  refine⟨(szQ 3),fun y3 i3=>?_⟩
  have u3:=ad i3 (.tup [.str "two",.ref y1,.ref y2])
  refine⟨(szQ 2),fun y4 i4=>?_⟩
  have u4:=ad i4 (.tup [.ref p6,.ref y3])
  have v3:=u3.trans u4
  have v2:=u2.trans v3
  have v1:=u1.trans v2
  refine q _ y4 (.ref p6) (.ref y3) 2 "" (sN.trans v1) ac (k2.same v1) ?_ (by decide) (by decide +kernel)
  exact .nd (f:=.two) (xs:=[.ref y1,.ref y2]) (u4 _ _ ac) (.cons (.nd (f:=.fst) (xs:=[.ref p2]) (v2 _ _ ac) (.cons (ea.same v1) .nil) (by rintro⟨_,_,h⟩;cases h)) (.cons (.nd (f:=.snd) (xs:=[.ref p2]) (v3 _ _ ac) (.cons (ea.same v1) .nil) (by rintro⟨_,_,h⟩;cases h)) .nil)) (by rintro⟨_,_,h⟩;cases h)
 ·refine⟨p7,_,_,_,rfl,rfl,gl,(show atI [V.ref p3,V.ref p4,V.ref p6,V.ref p1] 3=some (V.ref p1) from rfl),?_⟩
  refine⟨_,rfl,p1,_,_,_,rfl,rfl,SqT.of z3,J53.at0,rfl,_,rfl,J53.no_s (by decide +kernel) ?_⟩
  refine⟨_,rfl,p1,_,_,_,rfl,rfl,SqT.of z3,J53.at0,rfl,_,rfl,J53.no_s (by decide +kernel) ?_⟩
  refine⟨_,rfl,_,rfl,_,_,J53.kd_dat kh,J53.kd_dat kh,J53.sm_shaped (ksm 0 1),J53.sm_shaped (ksm 0 1),_,rfl,?_⟩
  rw [J53.eqv_dat,decide_eq_true rfl]
  refine dZ ?_
  refine⟨_,rfl,_,rfl,(szQ 2),fun y1 i1=>?_⟩
  have u1:=ad i1 (.tup [.ref p1,.ref p2])
  exact q _ y1 (.ref p1) (.ref p2) 3 "" (sN.trans u1) ac (kh.same u1) (ea.same u1) (by decide) (by decide +kernel)
def wo(H:Hp)(d:Addr):Hp:=fun b=>if b=d then none else H b
theorem n4{H:Hp}{d b:Addr}(h:b≠d):wo H d b=H b:=if_neg h
theorem qf{H:Hp}{d:Addr}:wo H d d=none:=if_pos rfl
theorem bb{H:Hp}{d:Addr}:aH (wo H d) H:=fun b u q=>by
 by_cases e:b=d
 ·rw [e,qf] at q;cases q
 ·rw [n4 e] at q;exact q
theorem pS{H:Hp}{d:Addr}{o:HO}:wo (upd H d o) d=wo H d:=by
 funext b
 by_cases e:b=d
 ·rw [e,qf,qf]
 ·rw [n4 e,n4 e,am e]
theorem vA{H:Hp}{d:Addr}(h:H d=none):wo H d=H:=by
 funext b
 by_cases e:b=d
 ·rw [e,qf,h]
 ·rw [n4 e]
theorem aN{H H':Hp}{d:Addr}(s:aH H H'):aH (wo H d) (wo H' d):=fun b u q=>by
 by_cases e:b=d
 ·rw [e,qf] at q;cases q
 ·rw [n4 e] at q ⊢;exact s _ _ q
theorem bY{H:Hp}{g p:Addr}{x o:HO}(h:H p=none)(hg:H g=some o):wo (upd H p x) g p=some x:=by
 rw [n4 (fun e=>by rw [e,hg] at h;cases h)]
 exact ac
theorem bG{K:W.Frag}{H:Hp}{g:Addr}{o:HO}{v:V}{i:IE}(h:d0 K (wo H g) v i):d0 K (wo (upd H g o) g) v i:=by rw [pS];exact h
theorem gA{B H:Hp}{g:Addr}{o:HO}(h:aH B (wo H g)):aH B (wo (upd H g o) g):=by rw [pS];exact h
theorem wR{H:Hp}{g:Addr}{o:HO}(h:H g=none):aH H (wo (upd H g o) g):=by rw [pS,vA h];exact aH.refl _
abbrev itN:List Str:=["_law_script","_law_words","_law_size_here","_law_more_here","_law_mode","_law_own","_law_a","_law_b","_law_kind","_law_taken_here","_law_hid","_law_turned","_law_items_here"]
abbrev itP:List Str:=["_law_script","_law_words","_law_size_here","_law_more_here","_law_mode"]
def jG(K:PySem.W.Frag):Sp:=fun vs H Q _=>∃(sc lw:Addr) (ns:List Int) (W:Nat->Str) (N M:Int) (mode:Nat),vs=[.ref sc,.ref lw,.int N,.int M,.int (mode:Int)]/\mode < 2/\SqL K H sc (ns.map V.int)/\ns.length<=63/\H lw=some (.lst (wl W))/\WOk W/\∀(H':Hp) (l:Addr) (xs:List V) (kc j:Nat) (o:Str),aH H H'->H l=none->H' l=some (.lst xs)->kc < 4->j < 3->PyData.strOk o=true->Paired (d0 K H') xs ((bsT mode j).map (itT ⟨W,N,M,kc,o⟩))->Q (.ref l) H'
theorem Paired.ofw{K:W.Frag}{H:Hp}{g:Addr}{xs:List V}{is:List IE}(h:Paired (d0 K (wo H g)) xs is):Paired (d0 K H) xs is:=Paired.mapP h fun _ _ t=>t.same bb
theorem dv:aJ itN itP (aj gs):=⟨rfl,rfl,rfl,by decide +kernel,rfl,by decide +kernel,by decide +kernel⟩
theorem qj{f fP fT:Addr}{fd fdP fdT:FuncData} (F:Fun K "_law_items" "_law_items" gs f fd)
  (GP:aV P w K mg base CX0 2 fP fdP ["_law_script","_law_k","_law_many"] (J53.spPick K)) (bP:aL K fdP ["_law_script","_law_k","_law_many"] []) (kP:PySem.W.keepIn K (.ref fP)=true) (mP:mg "_law_pick"=some (.ref fP))
  (GT:aV P w K mg base CX0 3 fT fdT tkP (m3 K)) (bT:aL K fdT tkP []) (kT:PySem.W.keepIn K (.ref fT)=true) (mT:mg "_law_taken"=some (.ref fT)) :
  aV P w K mg base CX0 4 f fd itP (jG K):=by
 refine F.ok dv (fun vs H Q E h=>?_) (fun cdv A outer s H vs Q E hrT h=>?_)
 ·obtain⟨_,_,_,_,_,_,_,rfl,_⟩:=h
  rfl
 obtain⟨sc,lw,ns,W,N,M,mode,rfl,hmd,hS,h63,hw,hW,q⟩:=h
 have hrP:=hrT.mono (show 2<=3 by decide)
 have hr2:=hrP
 refine⟨_,@ah _ _ _ _ _ (ay (i:=5) dv.nd rfl (Or.inl rfl) (@ak _ _ _ _ _ (@aa _ _ _ _ _ ai (@aa _ _ _ _ _ ai (@aa _ _ _ _ _ (aq ap (pv 1) ag (fun _ _=>rfl)) ae rfl) rfl) rfl))) (@ah _ _ _ _ _ (wu (i:=6) (j:=7) rfl dv.nd rfl rfl (by decide) rfl rfl (@aa _ _ _ _ _ (aq ap (pv 1) ag (fun _ _=>rfl)) (@aa _ _ _ _ _ (aq ap (pv 1) ag (fun _ _=>rfl)) ae rfl) rfl) rfl) (@ah _ _ _ _ _ (jh (au GT hrT rfl mT kT bT .nil bQ (@aa _ _ _ _ _ (pv 0) (@aa _ _ _ _ _ (pv 1) (@aa _ _ _ _ _ (pv 2) (@aa _ _ _ _ _ (pv 3) ae rfl) rfl) rfl) rfl)) (eT rfl (aU (aY (i:=8) dv.nd rfl (Or.inl rfl)) (aU (aY (i:=9) dv.nd rfl (Or.inl rfl)) dG)))) (@ah _ _ _ _ _ (ay (i:=10) dv.nd rfl (Or.inl rfl) (@ak _ _ _ _ _ (@aa _ _ _ _ _ ai (@aa _ _ _ _ _ (aq ap (pv 1) ag (fun _ _=>rfl)) (@aa _ _ _ _ _ (aq ap (pv 1) ag (fun _ _=>rfl)) ae rfl) rfl) rfl))) (@ah _ _ _ _ _ (ay (i:=11) dv.nd rfl (Or.inl rfl) (@ak _ _ _ _ _ (@aa _ _ _ _ _ ai (@aa _ _ _ _ _ (aq ap (pv 1) ag (fun _ _=>rfl)) (@aa _ _ _ _ _ (aq ap (pv 1) ag (fun _ _=>rfl)) (@aa _ _ _ _ _ (@ak _ _ _ _ _ (@aa _ _ _ _ _ (@ak _ _ _ _ _ (@aa _ _ _ _ _ ai (@aa _ _ _ _ _ (pv 6) ae rfl) rfl)) (@aa _ _ _ _ _ (@ak _ _ _ _ _ (@aa _ _ _ _ _ ai (@aa _ _ _ _ _ (bt lW (pv 2) ag) (@aa _ _ _ _ _ (pv 2) ae rfl) rfl) rfl)) ae rfl) rfl)) ae rfl) rfl) rfl) rfl))) (@ah _ _ _ _ _ (ay (i:=12) dv.nd rfl (Or.inl rfl) (dq (@aa _ _ _ _ _ (@ak _ _ _ _ _ (@aa _ _ _ _ _ ai (@aa _ _ _ _ _ (aq ap (pv 1) ag (fun _ _=>rfl)) (@aa _ _ _ _ _ (pv 8) ae rfl) rfl) rfl)) ae rfl))) (@ah _ _ _ _ _ (aO (eQ PySem.F.plainAttrs_list PySem.F.slot_list_append PySem.F.type_list_append bo (pv 12) (@aa _ _ _ _ _ (@ak _ _ _ _ _ (@aa _ _ _ _ _ ai (@aa _ _ _ _ _ (aq ap (pv 1) ag (fun _ _=>rfl)) (@aa _ _ _ _ _ (@ak _ _ _ _ _ (@aa _ _ _ _ _ (@ak _ _ _ _ _ (@aa _ _ _ _ _ (pv 6) (@aa _ _ _ _ _ (pv 5) ae rfl) rfl)) (@aa _ _ _ _ _ (@ak _ _ _ _ _ (@aa _ _ _ _ _ (pv 7) (@aa _ _ _ _ _ (@ak _ _ _ _ _ (@aa _ _ _ _ _ ai (@aa _ _ _ _ _ ag ae rfl) rfl)) ae rfl) rfl)) ae rfl) rfl)) (@aa _ _ _ _ _ (pv 5) (@aa _ _ _ _ _ (@ak _ _ _ _ _ (@aa _ _ _ _ _ ai (@aa _ _ _ _ _ (@ak _ _ _ _ _ (@aa _ _ _ _ _ ai (@aa _ _ _ _ _ (pv 7) ae rfl) rfl)) (@aa _ _ _ _ _ (@ak _ _ _ _ _ (@aa _ _ _ _ _ ai (@aa _ _ _ _ _ (pv 6) ae rfl) rfl)) (@aa _ _ _ _ _ (pv 9) ae rfl) rfl) rfl) rfl)) ae rfl) rfl) rfl) rfl) rfl)) ae rfl))) (@ah _ _ _ _ _ (aO (eQ PySem.F.plainAttrs_list PySem.F.slot_list_append PySem.F.type_list_append bo (pv 12) (@aa _ _ _ _ _ (@ak _ _ _ _ _ (@aa _ _ _ _ _ ai (@aa _ _ _ _ _ (aq ap (pv 1) ag (fun _ _=>rfl)) (@aa _ _ _ _ _ (@ak _ _ _ _ _ (@aa _ _ _ _ _ (@ak _ _ _ _ _ (@aa _ _ _ _ _ (pv 6) (@aa _ _ _ _ _ (pv 10) ae rfl) rfl)) ae rfl)) (@aa _ _ _ _ _ (@ak _ _ _ _ _ (@aa _ _ _ _ _ ai (@aa _ _ _ _ _ (aq ap (pv 1) ag (fun _ _=>rfl)) (@aa _ _ _ _ _ (aq ap (pv 1) ag (fun _ _=>rfl)) ae rfl) rfl) rfl)) (@aa _ _ _ _ _ (pv 11) ae rfl) rfl) rfl) rfl) rfl)) ae rfl))) (@ah _ _ _ _ _ (aO (eQ PySem.F.plainAttrs_list PySem.F.slot_list_append PySem.F.type_list_append bo (pv 12) (@aa _ _ _ _ _ (@ak _ _ _ _ _ (@aa _ _ _ _ _ ai (@aa _ _ _ _ _ (aq ap (pv 1) ag (fun _ _=>rfl)) (@aa _ _ _ _ _ (@ak _ _ _ _ _ (@aa _ _ _ _ _ (@ak _ _ _ _ _ (@aa _ _ _ _ _ (pv 7) (@aa _ _ _ _ _ (pv 5) ae rfl) rfl)) ae rfl)) (@aa _ _ _ _ _ (pv 5) (@aa _ _ _ _ _ (@ak _ _ _ _ _ (@aa _ _ _ _ _ ai (@aa _ _ _ _ _ ai (@aa _ _ _ _ _ (aq ap (pv 1) ag (fun _ _=>rfl)) (@aa _ _ _ _ _ (@ak _ _ _ _ _ (@aa _ _ _ _ _ (@ak _ _ _ _ _ (@aa _ _ _ _ _ ai (@aa _ _ _ _ _ (pv 7) ae rfl) rfl)) (@aa _ _ _ _ _ (@ak _ _ _ _ _ (@aa _ _ _ _ _ ai (@aa _ _ _ _ _ ag (@aa _ _ _ _ _ ag ae rfl) rfl) rfl)) ae rfl) rfl)) ae rfl) rfl) rfl) rfl)) ae rfl) rfl) rfl) rfl) rfl)) ae rfl))) (@ah _ _ _ _ _ (bc (aB bu (pv 4) ag (aE _)) (@ah _ _ _ _ _ (aO (eQ PySem.F.plainAttrs_list PySem.F.slot_list_append PySem.F.type_list_append bo (pv 12) (@aa _ _ _ _ _ (@ak _ _ _ _ _ (@aa _ _ _ _ _ ai (@aa _ _ _ _ _ (aq ap (pv 1) ag (fun _ _=>rfl)) (@aa _ _ _ _ _ (@ak _ _ _ _ _ ae) (@aa _ _ _ _ _ (pv 10) (@aa _ _ _ _ _ (@ak _ _ _ _ _ (@aa _ _ _ _ _ ai (@aa _ _ _ _ _ (aq ap (pv 1) ag (fun _ _=>rfl)) (@aa _ _ _ _ _ (aq ap (pv 1) ag (fun _ _=>rfl)) (@aa _ _ _ _ _ (@ak _ _ _ _ _ ae) ae rfl) rfl) rfl) rfl)) ae rfl) rfl) rfl) rfl) rfl)) ae rfl))) (@ao _ _ _ (@aM _ _ _ _ (pv 12)))) aI) (@ah _ _ _ _ _ (aO (eQ PySem.F.plainAttrs_list PySem.F.slot_list_append PySem.F.type_list_append bo (pv 12) (@aa _ _ _ _ _ (@ak _ _ _ _ _ (@aa _ _ _ _ _ ai (@aa _ _ _ _ _ (aq ap (pv 1) ag (fun _ _=>rfl)) (@aa _ _ _ _ _ (@ak _ _ _ _ _ ae) (@aa _ _ _ _ _ (@ak _ _ _ _ _ (@aa _ _ _ _ _ ai (@aa _ _ _ _ _ ai (@aa _ _ _ _ _ (aq ap (pv 1) ag (fun _ _=>rfl)) ae rfl) rfl) rfl)) (@aa _ _ _ _ _ (@ak _ _ _ _ _ (@aa _ _ _ _ _ ai (@aa _ _ _ _ _ ai (@aa _ _ _ _ _ (aq ap (pv 1) ag (fun _ _=>rfl)) (@aa _ _ _ _ _ (@ak _ _ _ _ _ ae) ae rfl) rfl) rfl) rfl)) ae rfl) rfl) rfl) rfl) rfl)) ae rfl))) (@ah _ _ _ _ _ (aO (eQ PySem.F.plainAttrs_list PySem.F.slot_list_insert PySem.F.type_list_insert ql (pv 12) (@aa _ _ _ _ _ (aq ap (dq (@aa _ _ _ _ _ ag (@aa _ _ _ _ _ ag (@aa _ _ _ _ _ ag ae rfl) rfl) rfl)) (au GP hr2 rfl mP kP bP .nil bQ (@aa _ _ _ _ _ (pv 0) (@aa _ _ _ _ _ ag (@aa _ _ _ _ _ ag ae rfl) rfl) rfl)) (fun _ _=>rfl)) (@aa _ _ _ _ _ (@ak _ _ _ _ _ (@aa _ _ _ _ _ ai (@aa _ _ _ _ _ (aq ap (pv 1) ag (fun _ _=>rfl)) ae rfl) rfl)) ae rfl) rfl))) (@ao _ _ _ (@aM _ _ _ _ (pv 12)))))))))))))),?_⟩
 refine⟨_,rfl,lw,_,_,_,rfl,rfl,SqL.of hw,(show atI (wl W) 7=some (.str (W 7)) from rfl),(szQ 3),fun p1 h1=>?_⟩
 have e1:=ad h1 (.tup [.str "name",.str "",.str (W 7)])
 have s1:=e1
 refine⟨_,rfl,lw,_,_,_,rfl,rfl,SqL.of (s1 _ _ hw),(show atI (wl W) 8=some (.str (W 8)) from rfl),_,rfl,lw,_,_,_,rfl,rfl,SqL.of (s1 _ _ hw),(show atI (wl W) 9=some (.str (W 9)) from rfl),_,_,rfl,?_⟩
 refine⟨_,rfl,_,rfl,_,rfl,_,rfl,sc,lw,ns,W,N,M,rfl,s1.seq hS,h63,s1 _ _ hw,hW,fun H3 pt xk xe kc o s3 hpt kxk exe hkc hso=>?_⟩
 refine⟨pt,_,rfl,SqT.of hpt,rfl,_,_,rfl,_,_,rfl,rfl,?_⟩
 have ko:bJ K H3 (.ref p1) (.name "" (W 7)):=.name (SqT.of (s3 _ _ ac))
 have s03:=s1.trans s3
 have hw3:=s03 _ _ hw
 have hS3:=s03.seq hS
 clear hw hS h1 e1 s1 s3
 refine⟨_,rfl,lw,_,_,_,rfl,rfl,SqL.of hw3,(show atI (wl W) 0=some (.str (W 0)) from rfl),_,rfl,lw,_,_,_,rfl,rfl,SqL.of hw3,(show atI (wl W) 1=some (.str (W 1)) from rfl),(szQ 3),fun p2 h2=>?_⟩
 have e2:=ad h2 (.tup [.str "name",.str (W 0),.str (W 1)])
 have s2:=e2
 refine⟨_,rfl,lw,_,_,_,rfl,rfl,SqL.of (s2 _ _ hw3),(show atI (wl W) 0=some (.str (W 0)) from rfl),_,rfl,lw,_,_,_,rfl,rfl,SqL.of (s2 _ _ hw3),(show atI (wl W) 4=some (.str (W 4)) from rfl),_,rfl,(szQ 2),fun p3 h3=>?_⟩
 have e3:=ad h3 (.tup [.str "var",.str (W 8)])
 have s3:=s2.trans e3
 refine⟨_,rfl,N,2,rfl,rfl,⟨by decide,by decide⟩,_,rfl,(szQ 3),fun p4 h4=>?_⟩
 have e4:=ad h4 (.tup [.str "lit",.int (N / 2),.int N])
 have s4:=s3.trans e4
 refine⟨(szQ 2),fun p5 h5=>?_⟩
 have e5:=ad h5 (.tup [.ref p3,.ref p4])
 have s5:=s4.trans e5
 refine⟨(szQ 4),fun p6 h6=>?_⟩
 have e6:=ad h6 (.tup [.str "call",.str (W 0),.str (W 4),.ref p5])
 have s6:=s5.trans e6
 refine⟨_,rfl,lw,_,_,_,rfl,rfl,SqL.of (s6 _ _ hw3),(show atI (wl W) 7=some (.str (W 7)) from rfl),_,rfl,(szQ 3),fun p7 h7=>?_⟩
 have e7:=ad h7 (.tup [.str "kind",.str (W 7),xk])
 have s7:=s6.trans e7
 have t6:=e7
 have t5:=e6.trans t6
 have t4:=e5.trans t5
 have t3:=e4.trans t4
 have t2:=e3.trans t3
 obtain⟨kh,eu,i1⟩:=(by rintro _ rfl;exact⟨(.name (SqT.of (t2 _ _ ac))),(.call (t6 _ _ ac) (t5 _ _ ac) (.cons (.var (t3 _ _ ac) (Nat.le_trans (hW.sm 8).2 (by decide))) (.cons (.nd (f:=.lit ((N / 2)) (N)) (xs:=[]) (t4 _ _ ac) .nil (fun _=>rfl)) .nil)) ⟨(hW.sm 0),(hW.sm 4)⟩),⟨p7,xk,rfl,SqT.of ac,(kxk.same s7)⟩⟩:∀ HH,HH=(upd (upd (upd (upd (upd (upd H3 p2 (.tup [.str "name",.str (W 0),.str (W 1)])) p3 (.tup [.str "var",.str (W 8)])) p4 (.tup [.str "lit",.int (N / 2),.int N])) p5 (.tup [.ref p3,.ref p4])) p6 (.tup [.str "call",.str (W 0),.str (W 4),.ref p5])) p7 (.tup [.str "kind",.str (W 7),xk]))→bJ K HH (.ref p2) (.name (W 0) (W 1))∧J53.ExAt HH (.ref p6) (.call (W 0) (W 4) [.var (W 8),.nd (.lit (N / 2) N) []])∧d0 K HH (.ref p7) (itT ⟨W,N,M,kc,o⟩ .k)) _ rfl
 have w0:=s7
 have ko4:=ko.same w0
 have kx4:=kxk.same w0
 have ex4:=exe.same w0
 have hw4:=w0 _ _ hw3
 have hS4:=w0.seq hS3
 have s04:=s03.trans w0
 clear w0 ko kxk exe hw3 hS3 s03 e2 e3 e4 e5 e6 e7 t2 t3 t4 t5 t6 s2 s3 s4 s5 s6 s7
 refine⟨(szQ 1),fun l hl=>?_⟩
 generalize (upd (upd (upd (upd (upd (upd H3 p2 (.tup [.str "name",.str (W 0),.str (W 1)])) p3 (.tup [.str "var",.str (W 8)])) p4 (.tup [.str "lit",.int (N / 2),.int N])) p5 (.tup [.ref p3,.ref p4])) p6 (.tup [.str "call",.str (W 0),.str (W 4),.ref p5])) p7 (.tup [.str "kind",.str (W 7),xk]))=B at kh eu i1 ko4 kx4 ex4 hw4 hS4 s04 hl ⊢
 clear h2 h3 h4 h5 h6 h7
 have w1:=wR (o:=.lst [.ref p7]) hl
 have q1:=ac (H:=B) (a:=l) (o:=.lst [.ref p7])
 have i1:=i1.same w1
 have hl0:=s04.free hl
 generalize upd B l (.lst [.ref p7])=H1 at i1 w1 q1 ⊢
 refine⟨_,rfl,.inl ⟨rfl,_,SqL.of q1⟩,_,rfl,lw,_,_,_,rfl,rfl,SqL.of (bb _ _ (w1 _ _ hw4)),(show atI (wl W) 10=some (.str (W 10)) from rfl),_,rfl,_,rfl,(szQ 2),fun p8 h8=>?_⟩
 have e8:=aN (d:=l) (ad h8 (.tup [.str (W 8),.ref p1]))
 have m8:=bY h8 q1 (x:=(.tup [.str (W 8),.ref p1]))
 have q8:=(ad h8 (.tup [.str (W 8),.ref p1])) _ _ q1
 have s8:=e8
 refine⟨_,rfl,(szQ 2),fun p9 h9=>?_⟩
 have e9:=aN (d:=l) (ad h9 (.tup [.str "num",.int 2]))
 have m9:=bY h9 q8 (x:=(.tup [.str "num",.int 2]))
 have q9:=(ad h9 (.tup [.str "num",.int 2])) _ _ q8
 have s9:=s8.trans e9
 refine⟨(szQ 2),fun p10 h10=>?_⟩
 have e10:=aN (d:=l) (ad h10 (.tup [.str (W 9),.ref p9]))
 have m10:=bY h10 q9 (x:=(.tup [.str (W 9),.ref p9]))
 have q10:=(ad h10 (.tup [.str (W 9),.ref p9])) _ _ q9
 have s10:=s9.trans e10
 refine⟨(szQ 2),fun p11 h11=>?_⟩
 have e11:=aN (d:=l) (ad h11 (.tup [.ref p8,.ref p10]))
 have m11:=bY h11 q10 (x:=(.tup [.ref p8,.ref p10]))
 have q11:=(ad h11 (.tup [.ref p8,.ref p10])) _ _ q10
 have s11:=s10.trans e11
 refine⟨_,rfl,_,rfl,(szQ 2),fun p12 h12=>?_⟩
 have e12:=aN (d:=l) (ad h12 (.tup [.str "var",.str (W 9)]))
 have m12:=bY h12 q11 (x:=(.tup [.str "var",.str (W 9)]))
 have q12:=(ad h12 (.tup [.str "var",.str (W 9)])) _ _ q11
 have s12:=s11.trans e12
 refine⟨_,rfl,(szQ 2),fun p13 h13=>?_⟩
 have e13:=aN (d:=l) (ad h13 (.tup [.str "var",.str (W 8)]))
 have m13:=bY h13 q12 (x:=(.tup [.str "var",.str (W 8)]))
 have q13:=(ad h13 (.tup [.str "var",.str (W 8)])) _ _ q12
 have s13:=s12.trans e13
 refine⟨_,rfl,(szQ 4),fun p14 h14=>?_⟩
 have e14:=aN (d:=l) (ad h14 (.tup [.str "if",.ref p12,.ref p13,xe]))
 have m14:=bY h14 q13 (x:=(.tup [.str "if",.ref p12,.ref p13,xe]))
 have q14:=(ad h14 (.tup [.str "if",.ref p12,.ref p13,xe])) _ _ q13
 have s14:=s13.trans e14
 refine⟨(szQ 5),fun p15 h15=>?_⟩
 have e15:=aN (d:=l) (ad h15 (.tup [.str "fun",.str (W 10),.ref p11,.ref p1,.ref p14]))
 have m15:=bY h15 q14 (x:=(.tup [.str "fun",.str (W 10),.ref p11,.ref p1,.ref p14]))
 have q15:=(ad h15 (.tup [.str "fun",.str (W 10),.ref p11,.ref p1,.ref p14])) _ _ q14
 have s15:=s14.trans e15
 have t14:=e15
 have t13:=e14.trans t14
 have t12:=e13.trans t13
 have t11:=e12.trans t12
 have t10:=e11.trans t11
 have t9:=e10.trans t10
 have t8:=e9.trans t9
 have i2:d0 K (wo (upd (upd (upd (upd (upd (upd (upd (upd H1 p8 (.tup [.str (W 8),.ref p1])) p9 (.tup [.str "num",.int 2])) p10 (.tup [.str (W 9),.ref p9])) p11 (.tup [.ref p8,.ref p10])) p12 (.tup [.str "var",.str (W 9)])) p13 (.tup [.str "var",.str (W 8)])) p14 (.tup [.str "if",.ref p12,.ref p13,xe])) p15 (.tup [.str "fun",.str (W 10),.ref p11,.ref p1,.ref p14])) l) (.ref p15) (itT ⟨W,N,M,kc,o⟩ .f1):=⟨p15,p11,.ref p1,.ref p14,[.ref p8,.ref p10],rfl,SqT.of m15,SqT.of (t11 _ _ m11),(.cons ⟨p8,.ref p1,rfl,SqT.of (t8 _ _ m8),(ko4.same (w1.trans s15))⟩ (.cons ⟨p10,.ref p9,rfl,SqT.of (t10 _ _ m10),(.num (SqT.of (t9 _ _ m9)))⟩ .nil)),(ko4.same (w1.trans s15)),(.nd (f:=.if_) (xs:=[.ref p12,.ref p13,xe]) (t14 _ _ m14) (.cons (.var (t12 _ _ m12) (Nat.le_trans (hW.sm 9).2 (by decide))) (.cons (.var (t13 _ _ m13) (Nat.le_trans (hW.sm 8).2 (by decide))) (.cons (ex4.same (w1.trans s15)) .nil))) (by rintro⟨_,_,h⟩;cases h))⟩
 have i2:=bG (o:=.lst ([V.ref p7]++[V.ref p15])) i2
 have i1:=bG (o:=.lst ([V.ref p7]++[V.ref p15])) (i1.same s15)
 have w2:=gA (o:=.lst ([V.ref p7]++[V.ref p15])) (w1.trans s15)
 refine⟨l,_,_,rfl,rfl,q15,(by show 1 < sizeLine;decide),?_⟩
 have q1001:=ac (H:=(upd (upd (upd (upd (upd (upd (upd (upd H1 p8 (.tup [.str (W 8),.ref p1])) p9 (.tup [.str "num",.int 2])) p10 (.tup [.str (W 9),.ref p9])) p11 (.tup [.ref p8,.ref p10])) p12 (.tup [.str "var",.str (W 9)])) p13 (.tup [.str "var",.str (W 8)])) p14 (.tup [.str "if",.ref p12,.ref p13,xe])) p15 (.tup [.str "fun",.str (W 10),.ref p11,.ref p1,.ref p14]))) (a:=l) (o:=.lst ([V.ref p7]++[V.ref p15]))
 generalize upd (upd (upd (upd (upd (upd (upd (upd (upd H1 p8 (.tup [.str (W 8),.ref p1])) p9 (.tup [.str "num",.int 2])) p10 (.tup [.str (W 9),.ref p9])) p11 (.tup [.ref p8,.ref p10])) p12 (.tup [.str "var",.str (W 9)])) p13 (.tup [.str "var",.str (W 8)])) p14 (.tup [.str "if",.ref p12,.ref p13,xe])) p15 (.tup [.str "fun",.str (W 10),.ref p11,.ref p1,.ref p14])) l (.lst ([V.ref p7]++[V.ref p15]))=H2 at i1 i2 w2 q1001 ⊢
 clear w1 q1 e8 e9 e10 e11 e12 e13 e14 e15 s8 s9 s10 s11 s12 s13 s14 s15 m8 m9 m10 m11 m12 m13 m14 m15 q8 q9 q10 q11 q12 q13 q14 q15 t8 t9 t10 t11 t12 t13 t14
 clear h8 h9 h10 h11 h12 h13 h14 h15
 have q2:H2 l=some (.lst [.ref p7,.ref p15]):=q1001
 clear q1001
 refine⟨_,rfl,.inl ⟨rfl,_,SqL.of q2⟩,_,rfl,lw,_,_,_,rfl,rfl,SqL.of (bb _ _ (w2 _ _ hw4)),(show atI (wl W) 11=some (.str (W 11)) from rfl),_,rfl,_,rfl,(szQ 2),fun p16 h16=>?_⟩
 have e16:=aN (d:=l) (ad h16 (.tup [.str (W 8),.ref p2]))
 have m16:=bY h16 q2 (x:=(.tup [.str (W 8),.ref p2]))
 have q16:=(ad h16 (.tup [.str (W 8),.ref p2])) _ _ q2
 have s16:=e16
 refine⟨(szQ 1),fun p17 h17=>?_⟩
 have e17:=aN (d:=l) (ad h17 (.tup [.ref p16]))
 have m17:=bY h17 q16 (x:=(.tup [.ref p16]))
 have q17:=(ad h17 (.tup [.ref p16])) _ _ q16
 have s17:=s16.trans e17
 refine⟨_,rfl,lw,_,_,_,rfl,rfl,SqL.of (bb _ _ ((w2.trans s17) _ _ hw4)),(show atI (wl W) 0=some (.str (W 0)) from rfl),_,rfl,lw,_,_,_,rfl,rfl,SqL.of (bb _ _ ((w2.trans s17) _ _ hw4)),(show atI (wl W) 2=some (.str (W 2)) from rfl),(szQ 3),fun p18 h18=>?_⟩
 have e18:=aN (d:=l) (ad h18 (.tup [.str "name",.str (W 0),.str (W 2)]))
 have m18:=bY h18 q17 (x:=(.tup [.str "name",.str (W 0),.str (W 2)]))
 have q18:=(ad h18 (.tup [.str "name",.str (W 0),.str (W 2)])) _ _ q17
 have s18:=s17.trans e18
 refine⟨_,rfl,(szQ 5),fun p19 h19=>?_⟩
 have e19:=aN (d:=l) (ad h19 (.tup [.str "fun",.str (W 11),.ref p17,.ref p18,.ref p6]))
 have m19:=bY h19 q18 (x:=(.tup [.str "fun",.str (W 11),.ref p17,.ref p18,.ref p6]))
 have q19:=(ad h19 (.tup [.str "fun",.str (W 11),.ref p17,.ref p18,.ref p6])) _ _ q18
 have s19:=s18.trans e19
 have t18:=e19
 have t17:=e18.trans t18
 have t16:=e17.trans t17
 have i3:d0 K (wo (upd (upd (upd (upd H2 p16 (.tup [.str (W 8),.ref p2])) p17 (.tup [.ref p16])) p18 (.tup [.str "name",.str (W 0),.str (W 2)])) p19 (.tup [.str "fun",.str (W 11),.ref p17,.ref p18,.ref p6])) l) (.ref p19) (itT ⟨W,N,M,kc,o⟩ .f2):=⟨p19,p17,.ref p18,.ref p6,[.ref p16],rfl,SqT.of m19,SqT.of (t17 _ _ m17),(.cons ⟨p16,.ref p2,rfl,SqT.of (t16 _ _ m16),(kh.same (w2.trans s19))⟩ .nil),(.name (SqT.of (t18 _ _ m18))),(eu.same (w2.trans s19))⟩
 have i3:=bG (o:=.lst ([V.ref p7,V.ref p15]++[V.ref p19])) i3
 have i1:=bG (o:=.lst ([V.ref p7,V.ref p15]++[V.ref p19])) (i1.same s19)
 have i2:=bG (o:=.lst ([V.ref p7,V.ref p15]++[V.ref p19])) (i2.same s19)
 have w3:=gA (o:=.lst ([V.ref p7,V.ref p15]++[V.ref p19])) (w2.trans s19)
 refine⟨l,_,_,rfl,rfl,q19,(by show 2 < sizeLine;decide),?_⟩
 have q1002:=ac (H:=(upd (upd (upd (upd H2 p16 (.tup [.str (W 8),.ref p2])) p17 (.tup [.ref p16])) p18 (.tup [.str "name",.str (W 0),.str (W 2)])) p19 (.tup [.str "fun",.str (W 11),.ref p17,.ref p18,.ref p6]))) (a:=l) (o:=.lst ([V.ref p7,V.ref p15]++[V.ref p19]))
 generalize upd (upd (upd (upd (upd H2 p16 (.tup [.str (W 8),.ref p2])) p17 (.tup [.ref p16])) p18 (.tup [.str "name",.str (W 0),.str (W 2)])) p19 (.tup [.str "fun",.str (W 11),.ref p17,.ref p18,.ref p6])) l (.lst ([V.ref p7,V.ref p15]++[V.ref p19]))=H3 at i1 i2 i3 w3 q1002 ⊢
 clear w2 q2 e16 e17 e18 e19 s16 s17 s18 s19 m16 m17 m18 m19 q16 q17 q18 q19 t16 t17 t18
 clear h16 h17 h18 h19
 have q3:H3 l=some (.lst [.ref p7,.ref p15,.ref p19]):=q1002
 clear q1002
 refine⟨_,rfl,.inl ⟨rfl,_,SqL.of q3⟩,_,rfl,lw,_,_,_,rfl,rfl,SqL.of (bb _ _ (w3 _ _ hw4)),(show atI (wl W) 12=some (.str (W 12)) from rfl),_,rfl,_,rfl,(szQ 2),fun p20 h20=>?_⟩
 have e20:=aN (d:=l) (ad h20 (.tup [.str (W 9),.ref p1]))
 have m20:=bY h20 q3 (x:=(.tup [.str (W 9),.ref p1]))
 have q20:=(ad h20 (.tup [.str (W 9),.ref p1])) _ _ q3
 have s20:=e20
 refine⟨(szQ 1),fun p21 h21=>?_⟩
 have e21:=aN (d:=l) (ad h21 (.tup [.ref p20]))
 have m21:=bY h21 q20 (x:=(.tup [.ref p20]))
 have q21:=(ad h21 (.tup [.ref p20])) _ _ q20
 have s21:=s20.trans e21
 refine⟨_,rfl,_,rfl,lw,_,_,_,rfl,rfl,SqL.of (bb _ _ ((w3.trans s21) _ _ hw4)),(show atI (wl W) 10=some (.str (W 10)) from rfl),_,rfl,(szQ 2),fun p22 h22=>?_⟩
 have e22:=aN (d:=l) (ad h22 (.tup [.str "var",.str (W 9)]))
 have m22:=bY h22 q21 (x:=(.tup [.str "var",.str (W 9)]))
 have q22:=(ad h22 (.tup [.str "var",.str (W 9)])) _ _ q21
 have s22:=s21.trans e22
 refine⟨(szQ 3),fun p23 h23=>?_⟩
 have e23:=aN (d:=l) (ad h23 (.tup [.str "lit",.int 1,.int 2]))
 have m23:=bY h23 q22 (x:=(.tup [.str "lit",.int 1,.int 2]))
 have q23:=(ad h23 (.tup [.str "lit",.int 1,.int 2])) _ _ q22
 have s23:=s22.trans e23
 refine⟨(szQ 2),fun p24 h24=>?_⟩
 have e24:=aN (d:=l) (ad h24 (.tup [.ref p22,.ref p23]))
 have m24:=bY h24 q23 (x:=(.tup [.ref p22,.ref p23]))
 have q24:=(ad h24 (.tup [.ref p22,.ref p23])) _ _ q23
 have s24:=s23.trans e24
 refine⟨(szQ 4),fun p25 h25=>?_⟩
 have e25:=aN (d:=l) (ad h25 (.tup [.str "call",.str "",.str (W 10),.ref p24]))
 have m25:=bY h25 q24 (x:=(.tup [.str "call",.str "",.str (W 10),.ref p24]))
 have q25:=(ad h25 (.tup [.str "call",.str "",.str (W 10),.ref p24])) _ _ q24
 have s25:=s24.trans e25
 refine⟨(szQ 5),fun p26 h26=>?_⟩
 have e26:=aN (d:=l) (ad h26 (.tup [.str "fun",.str (W 12),.ref p21,.ref p1,.ref p25]))
 have m26:=bY h26 q25 (x:=(.tup [.str "fun",.str (W 12),.ref p21,.ref p1,.ref p25]))
 have q26:=(ad h26 (.tup [.str "fun",.str (W 12),.ref p21,.ref p1,.ref p25])) _ _ q25
 have s26:=s25.trans e26
 have t25:=e26
 have t24:=e25.trans t25
 have t23:=e24.trans t24
 have t22:=e23.trans t23
 have t21:=e22.trans t22
 have t20:=e21.trans t21
 have i4:d0 K (wo (upd (upd (upd (upd (upd (upd (upd H3 p20 (.tup [.str (W 9),.ref p1])) p21 (.tup [.ref p20])) p22 (.tup [.str "var",.str (W 9)])) p23 (.tup [.str "lit",.int 1,.int 2])) p24 (.tup [.ref p22,.ref p23])) p25 (.tup [.str "call",.str "",.str (W 10),.ref p24])) p26 (.tup [.str "fun",.str (W 12),.ref p21,.ref p1,.ref p25])) l) (.ref p26) (itT ⟨W,N,M,kc,o⟩ .f3):=⟨p26,p21,.ref p1,.ref p25,[.ref p20],rfl,SqT.of m26,SqT.of (t21 _ _ m21),(.cons ⟨p20,.ref p1,rfl,SqT.of (t20 _ _ m20),(ko4.same (w3.trans s26))⟩ .nil),(ko4.same (w3.trans s26)),(.call (t25 _ _ m25) (t24 _ _ m24) (.cons (.var (t22 _ _ m22) (Nat.le_trans (hW.sm 9).2 (by decide))) (.cons (.nd (f:=.lit (1) (2)) (xs:=[]) (t23 _ _ m23) .nil (fun _=>rfl)) .nil)) ⟨dL,(hW.sm 10)⟩)⟩
 have i4:=bG (o:=.lst ([V.ref p7,V.ref p15,V.ref p19]++[V.ref p26])) i4
 have i1:=bG (o:=.lst ([V.ref p7,V.ref p15,V.ref p19]++[V.ref p26])) (i1.same s26)
 have i2:=bG (o:=.lst ([V.ref p7,V.ref p15,V.ref p19]++[V.ref p26])) (i2.same s26)
 have i3:=bG (o:=.lst ([V.ref p7,V.ref p15,V.ref p19]++[V.ref p26])) (i3.same s26)
 have w4:=gA (o:=.lst ([V.ref p7,V.ref p15,V.ref p19]++[V.ref p26])) (w3.trans s26)
 refine⟨l,_,_,rfl,rfl,q26,(by show 3 < sizeLine;decide),?_⟩
 have q1003:=ac (H:=(upd (upd (upd (upd (upd (upd (upd H3 p20 (.tup [.str (W 9),.ref p1])) p21 (.tup [.ref p20])) p22 (.tup [.str "var",.str (W 9)])) p23 (.tup [.str "lit",.int 1,.int 2])) p24 (.tup [.ref p22,.ref p23])) p25 (.tup [.str "call",.str "",.str (W 10),.ref p24])) p26 (.tup [.str "fun",.str (W 12),.ref p21,.ref p1,.ref p25]))) (a:=l) (o:=.lst ([V.ref p7,V.ref p15,V.ref p19]++[V.ref p26]))
 generalize upd (upd (upd (upd (upd (upd (upd (upd H3 p20 (.tup [.str (W 9),.ref p1])) p21 (.tup [.ref p20])) p22 (.tup [.str "var",.str (W 9)])) p23 (.tup [.str "lit",.int 1,.int 2])) p24 (.tup [.ref p22,.ref p23])) p25 (.tup [.str "call",.str "",.str (W 10),.ref p24])) p26 (.tup [.str "fun",.str (W 12),.ref p21,.ref p1,.ref p25])) l (.lst ([V.ref p7,V.ref p15,V.ref p19]++[V.ref p26]))=H4 at i1 i2 i3 i4 w4 q1003 ⊢
 clear w3 q3 e20 e21 e22 e23 e24 e25 e26 s20 s21 s22 s23 s24 s25 s26 m20 m21 m22 m23 m24 m25 m26 q20 q21 q22 q23 q24 q25 q26 t20 t21 t22 t23 t24 t25
 clear h20 h21 h22 h23 h24 h25 h26
 have q4:H4 l=some (.lst [.ref p7,.ref p15,.ref p19,.ref p26]):=q1003
 clear q1003
 have hm:mode=0\/mode=1:=by omega
 rcases hm with rfl|rfl
 ·refine⟨_,rfl,rfl,_,rfl,dZ ?_⟩
  refine⟨_,rfl,.inl ⟨rfl,_,SqL.of q4⟩,_,rfl,lw,_,_,_,rfl,rfl,SqL.of (bb _ _ (w4 _ _ hw4)),(show atI (wl W) 13=some (.str (W 13)) from rfl),(szQ 0),fun p27 h27=>?_⟩
  have e27:=aN (d:=l) (ad h27 (.tup []))
  have m27:=bY h27 q4 (x:=(.tup []))
  have q27:=(ad h27 (.tup [])) _ _ q4
  have s27:=e27
  refine⟨_,rfl,_,rfl,lw,_,_,_,rfl,rfl,SqL.of (bb _ _ ((w4.trans s27) _ _ hw4)),(show atI (wl W) 0=some (.str (W 0)) from rfl),_,rfl,lw,_,_,_,rfl,rfl,SqL.of (bb _ _ ((w4.trans s27) _ _ hw4)),(show atI (wl W) 3=some (.str (W 3)) from rfl),(szQ 0),fun p28 h28=>?_⟩
  have e28:=aN (d:=l) (ad h28 (.tup []))
  have m28:=bY h28 q27 (x:=(.tup []))
  have q28:=(ad h28 (.tup [])) _ _ q27
  have s28:=s27.trans e28
  refine⟨(szQ 4),fun p29 h29=>?_⟩
  have e29:=aN (d:=l) (ad h29 (.tup [.str "call",.str (W 0),.str (W 3),.ref p28]))
  have m29:=bY h29 q28 (x:=(.tup [.str "call",.str (W 0),.str (W 3),.ref p28]))
  have q29:=(ad h29 (.tup [.str "call",.str (W 0),.str (W 3),.ref p28])) _ _ q28
  have s29:=s28.trans e29
  refine⟨(szQ 5),fun p30 h30=>?_⟩
  have e30:=aN (d:=l) (ad h30 (.tup [.str "fun",.str (W 13),.ref p27,.ref p2,.ref p29]))
  have m30:=bY h30 q29 (x:=(.tup [.str "fun",.str (W 13),.ref p27,.ref p2,.ref p29]))
  have q30:=(ad h30 (.tup [.str "fun",.str (W 13),.ref p27,.ref p2,.ref p29])) _ _ q29
  have s30:=s29.trans e30
  have t29:=e30
  have t28:=e29.trans t29
  have t27:=e28.trans t28
  have i5:d0 K (wo (upd (upd (upd (upd H4 p27 (.tup [])) p28 (.tup [])) p29 (.tup [.str "call",.str (W 0),.str (W 3),.ref p28])) p30 (.tup [.str "fun",.str (W 13),.ref p27,.ref p2,.ref p29])) l) (.ref p30) (itT ⟨W,N,M,kc,o⟩ .f4):=⟨p30,p27,.ref p2,.ref p29,[],rfl,SqT.of m30,SqT.of (t27 _ _ m27),.nil,(kh.same (w4.trans s30)),(.call (t29 _ _ m29) (t28 _ _ m28) .nil ⟨(hW.sm 0),(hW.sm 3)⟩)⟩
  have i5:=bG (o:=.lst ([V.ref p7,V.ref p15,V.ref p19,V.ref p26]++[V.ref p30])) i5
  have i1:=bG (o:=.lst ([V.ref p7,V.ref p15,V.ref p19,V.ref p26]++[V.ref p30])) (i1.same s30)
  have i2:=bG (o:=.lst ([V.ref p7,V.ref p15,V.ref p19,V.ref p26]++[V.ref p30])) (i2.same s30)
  have i3:=bG (o:=.lst ([V.ref p7,V.ref p15,V.ref p19,V.ref p26]++[V.ref p30])) (i3.same s30)
  have i4:=bG (o:=.lst ([V.ref p7,V.ref p15,V.ref p19,V.ref p26]++[V.ref p30])) (i4.same s30)
  have w5:=gA (o:=.lst ([V.ref p7,V.ref p15,V.ref p19,V.ref p26]++[V.ref p30])) (w4.trans s30)
  refine⟨l,_,_,rfl,rfl,q30,(by show 4 < sizeLine;decide),?_⟩
  exact⟨_,rfl,q _ l _ kc 0 o (s04.trans (w5.trans bb)) hl0 ac hkc (by decide) hso (Paired.ofw (g:=l) (.cons i1 (.cons i2 (.cons i3 (.cons i4 (.cons i5 .nil))))))⟩
 ·refine⟨_,rfl,rfl,_,rfl,ce ?_⟩
  refine⟨_,rfl,.inl ⟨rfl,_,SqL.of q4⟩,_,rfl,lw,_,_,_,rfl,rfl,SqL.of (bb _ _ (w4 _ _ hw4)),(show atI (wl W) 13=some (.str (W 13)) from rfl),(szQ 0),fun p27 h27=>?_⟩
  have e27:=aN (d:=l) (ad h27 (.tup []))
  have m27:=bY h27 q4 (x:=(.tup []))
  have q27:=(ad h27 (.tup [])) _ _ q4
  have s27:=e27
  refine⟨_,rfl,lw,_,_,_,rfl,rfl,SqL.of (bb _ _ ((w4.trans s27) _ _ hw4)),(show atI (wl W) 1=some (.str (W 1)) from rfl),(szQ 3),fun p28 h28=>?_⟩
  have e28:=aN (d:=l) (ad h28 (.tup [.str "name",.str "",.str (W 1)]))
  have m28:=bY h28 q27 (x:=(.tup [.str "name",.str "",.str (W 1)]))
  have q28:=(ad h28 (.tup [.str "name",.str "",.str (W 1)])) _ _ q27
  have s28:=s27.trans e28
  refine⟨_,rfl,lw,_,_,_,rfl,rfl,SqL.of (bb _ _ ((w4.trans s28) _ _ hw4)),(show atI (wl W) 3=some (.str (W 3)) from rfl),(szQ 0),fun p29 h29=>?_⟩
  have e29:=aN (d:=l) (ad h29 (.tup []))
  have m29:=bY h29 q28 (x:=(.tup []))
  have q29:=(ad h29 (.tup [])) _ _ q28
  have s29:=s28.trans e29
  refine⟨(szQ 4),fun p30 h30=>?_⟩
  have e30:=aN (d:=l) (ad h30 (.tup [.str "call",.str "",.str (W 3),.ref p29]))
  have m30:=bY h30 q29 (x:=(.tup [.str "call",.str "",.str (W 3),.ref p29]))
  have q30:=(ad h30 (.tup [.str "call",.str "",.str (W 3),.ref p29])) _ _ q29
  have s30:=s29.trans e30
  refine⟨(szQ 5),fun p31 h31=>?_⟩
  have e31:=aN (d:=l) (ad h31 (.tup [.str "fun",.str (W 13),.ref p27,.ref p28,.ref p30]))
  have m31:=bY h31 q30 (x:=(.tup [.str "fun",.str (W 13),.ref p27,.ref p28,.ref p30]))
  have q31:=(ad h31 (.tup [.str "fun",.str (W 13),.ref p27,.ref p28,.ref p30])) _ _ q30
  have s31:=s30.trans e31
  have t30:=e31
  have t29:=e30.trans t30
  have t28:=e29.trans t29
  have t27:=e28.trans t28
  have i5:d0 K (wo (upd (upd (upd (upd (upd H4 p27 (.tup [])) p28 (.tup [.str "name",.str "",.str (W 1)])) p29 (.tup [])) p30 (.tup [.str "call",.str "",.str (W 3),.ref p29])) p31 (.tup [.str "fun",.str (W 13),.ref p27,.ref p28,.ref p30])) l) (.ref p31) (itT ⟨W,N,M,kc,o⟩ .g4):=⟨p31,p27,.ref p28,.ref p30,[],rfl,SqT.of m31,SqT.of (t27 _ _ m27),.nil,(.name (SqT.of (t28 _ _ m28))),(.call (t30 _ _ m30) (t29 _ _ m29) .nil ⟨dL,(hW.sm 3)⟩)⟩
  have i5:=bG (o:=.lst ([V.ref p7,V.ref p15,V.ref p19,V.ref p26]++[V.ref p31])) i5
  have i1:=bG (o:=.lst ([V.ref p7,V.ref p15,V.ref p19,V.ref p26]++[V.ref p31])) (i1.same s31)
  have i2:=bG (o:=.lst ([V.ref p7,V.ref p15,V.ref p19,V.ref p26]++[V.ref p31])) (i2.same s31)
  have i3:=bG (o:=.lst ([V.ref p7,V.ref p15,V.ref p19,V.ref p26]++[V.ref p31])) (i3.same s31)
  have i4:=bG (o:=.lst ([V.ref p7,V.ref p15,V.ref p19,V.ref p26]++[V.ref p31])) (i4.same s31)
  have w5:=gA (o:=.lst ([V.ref p7,V.ref p15,V.ref p19,V.ref p26]++[V.ref p31])) (w4.trans s31)
  refine⟨l,_,_,rfl,rfl,q31,(by show 4 < sizeLine;decide),?_⟩
  have q1004:=ac (H:=(upd (upd (upd (upd (upd H4 p27 (.tup [])) p28 (.tup [.str "name",.str "",.str (W 1)])) p29 (.tup [])) p30 (.tup [.str "call",.str "",.str (W 3),.ref p29])) p31 (.tup [.str "fun",.str (W 13),.ref p27,.ref p28,.ref p30]))) (a:=l) (o:=.lst ([V.ref p7,V.ref p15,V.ref p19,V.ref p26]++[V.ref p31]))
  generalize upd (upd (upd (upd (upd (upd H4 p27 (.tup [])) p28 (.tup [.str "name",.str "",.str (W 1)])) p29 (.tup [])) p30 (.tup [.str "call",.str "",.str (W 3),.ref p29])) p31 (.tup [.str "fun",.str (W 13),.ref p27,.ref p28,.ref p30])) l (.lst ([V.ref p7,V.ref p15,V.ref p19,V.ref p26]++[V.ref p31]))=H5 at i1 i2 i3 i4 i5 w5 q1004 ⊢
  clear w4 q4 e27 e28 e29 e30 e31 s27 s28 s29 s30 s31 m27 m28 m29 m30 m31 q27 q28 q29 q30 q31 t27 t28 t29 t30
  clear h27 h28 h29 h30 h31
  have q5:H5 l=some (.lst [.ref p7,.ref p15,.ref p19,.ref p26,.ref p31]):=q1004
  clear q1004
  refine⟨_,rfl,.inl ⟨rfl,_,SqL.of q5⟩,(szQ 3),fun p32 h32=>?_⟩
  have e32:=aN (d:=l) (ad h32 (.lst [.int 0,.int 1,.int 4]))
  have m32:=bY h32 q5 (x:=(.lst [.int 0,.int 1,.int 4]))
  have q32:=(ad h32 (.lst [.int 0,.int 1,.int 4])) _ _ q5
  have s32:=e32
  refine⟨_,rfl,sc,ns,5,3,rfl,aH.seq bb (aH.seq (w5.trans s32) hS4),h63,by decide,by decide,by decide,fun r r0 r1=>?_⟩
  have rs:r=0\/r=1\/r=2:=by omega
  rcases rs with rfl|rfl|rfl
  ·refine⟨p32,_,_,_,rfl,rfl,SqL.of (bb _ _ m32),(show atI [V.int 0,V.int 1,V.int 4] 0=some (V.int 0) from rfl),_,rfl,lw,_,_,_,rfl,rfl,SqL.of (bb _ _ ((w5.trans s32) _ _ hw4)),(show atI (wl W) 0=some (.str (W 0)) from rfl),(szQ 2),fun p33 h33=>?_⟩
   have e33:=aN (d:=l) (ad h33 (.tup [.str "open",.str (W 0)]))
   have m33:=bY h33 q32 (x:=(.tup [.str "open",.str (W 0)]))
   have q33:=(ad h33 (.tup [.str "open",.str (W 0)])) _ _ q32
   have s33:=s32.trans e33
   have t32:=e33
   have i6:d0 K (wo (upd (upd H5 p32 (.lst [.int 0,.int 1,.int 4])) p33 (.tup [.str "open",.str (W 0)])) l) (.ref p33) (itT ⟨W,N,M,kc,o⟩ .o):=⟨p33,rfl,SqT.of m33⟩
   have i6:=bG (o:=.lst ([V.ref p7,V.ref p15,V.ref p19,V.ref p26,V.ref p31].take 0++V.ref p33::[V.ref p7,V.ref p15,V.ref p19,V.ref p26,V.ref p31].drop 0)) i6
   have i1:=bG (o:=.lst ([V.ref p7,V.ref p15,V.ref p19,V.ref p26,V.ref p31].take 0++V.ref p33::[V.ref p7,V.ref p15,V.ref p19,V.ref p26,V.ref p31].drop 0)) (i1.same s33)
   have i2:=bG (o:=.lst ([V.ref p7,V.ref p15,V.ref p19,V.ref p26,V.ref p31].take 0++V.ref p33::[V.ref p7,V.ref p15,V.ref p19,V.ref p26,V.ref p31].drop 0)) (i2.same s33)
   have i3:=bG (o:=.lst ([V.ref p7,V.ref p15,V.ref p19,V.ref p26,V.ref p31].take 0++V.ref p33::[V.ref p7,V.ref p15,V.ref p19,V.ref p26,V.ref p31].drop 0)) (i3.same s33)
   have i4:=bG (o:=.lst ([V.ref p7,V.ref p15,V.ref p19,V.ref p26,V.ref p31].take 0++V.ref p33::[V.ref p7,V.ref p15,V.ref p19,V.ref p26,V.ref p31].drop 0)) (i4.same s33)
   have i5:=bG (o:=.lst ([V.ref p7,V.ref p15,V.ref p19,V.ref p26,V.ref p31].take 0++V.ref p33::[V.ref p7,V.ref p15,V.ref p19,V.ref p26,V.ref p31].drop 0)) (i5.same s33)
   have w6:=gA (o:=.lst ([V.ref p7,V.ref p15,V.ref p19,V.ref p26,V.ref p31].take 0++V.ref p33::[V.ref p7,V.ref p15,V.ref p19,V.ref p26,V.ref p31].drop 0)) (w5.trans s33)
   refine⟨l,0,_,_,rfl,rfl,q33,(by show 0<=5;decide),(by show 5 < sizeLine;decide),?_⟩
   exact⟨_,rfl,q _ l _ kc 0 o (s04.trans (w6.trans bb)) hl0 ac hkc (by decide) hso (Paired.ofw (g:=l) (.cons i6 (.cons i1 (.cons i2 (.cons i3 (.cons i4 (.cons i5 .nil)))))))⟩
  ·refine⟨p32,_,_,_,rfl,rfl,SqL.of (bb _ _ m32),(show atI [V.int 0,V.int 1,V.int 4] 1=some (V.int 1) from rfl),_,rfl,lw,_,_,_,rfl,rfl,SqL.of (bb _ _ ((w5.trans s32) _ _ hw4)),(show atI (wl W) 0=some (.str (W 0)) from rfl),(szQ 2),fun p33 h33=>?_⟩
   have e33:=aN (d:=l) (ad h33 (.tup [.str "open",.str (W 0)]))
   have m33:=bY h33 q32 (x:=(.tup [.str "open",.str (W 0)]))
   have q33:=(ad h33 (.tup [.str "open",.str (W 0)])) _ _ q32
   have s33:=s32.trans e33
   have t32:=e33
   have i6:d0 K (wo (upd (upd H5 p32 (.lst [.int 0,.int 1,.int 4])) p33 (.tup [.str "open",.str (W 0)])) l) (.ref p33) (itT ⟨W,N,M,kc,o⟩ .o):=⟨p33,rfl,SqT.of m33⟩
   have i6:=bG (o:=.lst ([V.ref p7,V.ref p15,V.ref p19,V.ref p26,V.ref p31].take 1++V.ref p33::[V.ref p7,V.ref p15,V.ref p19,V.ref p26,V.ref p31].drop 1)) i6
   have i1:=bG (o:=.lst ([V.ref p7,V.ref p15,V.ref p19,V.ref p26,V.ref p31].take 1++V.ref p33::[V.ref p7,V.ref p15,V.ref p19,V.ref p26,V.ref p31].drop 1)) (i1.same s33)
   have i2:=bG (o:=.lst ([V.ref p7,V.ref p15,V.ref p19,V.ref p26,V.ref p31].take 1++V.ref p33::[V.ref p7,V.ref p15,V.ref p19,V.ref p26,V.ref p31].drop 1)) (i2.same s33)
   have i3:=bG (o:=.lst ([V.ref p7,V.ref p15,V.ref p19,V.ref p26,V.ref p31].take 1++V.ref p33::[V.ref p7,V.ref p15,V.ref p19,V.ref p26,V.ref p31].drop 1)) (i3.same s33)
   have i4:=bG (o:=.lst ([V.ref p7,V.ref p15,V.ref p19,V.ref p26,V.ref p31].take 1++V.ref p33::[V.ref p7,V.ref p15,V.ref p19,V.ref p26,V.ref p31].drop 1)) (i4.same s33)
   have i5:=bG (o:=.lst ([V.ref p7,V.ref p15,V.ref p19,V.ref p26,V.ref p31].take 1++V.ref p33::[V.ref p7,V.ref p15,V.ref p19,V.ref p26,V.ref p31].drop 1)) (i5.same s33)
   have w6:=gA (o:=.lst ([V.ref p7,V.ref p15,V.ref p19,V.ref p26,V.ref p31].take 1++V.ref p33::[V.ref p7,V.ref p15,V.ref p19,V.ref p26,V.ref p31].drop 1)) (w5.trans s33)
   refine⟨l,1,_,_,rfl,rfl,q33,(by show 1<=5;decide),(by show 5 < sizeLine;decide),?_⟩
   exact⟨_,rfl,q _ l _ kc 1 o (s04.trans (w6.trans bb)) hl0 ac hkc (by decide) hso (Paired.ofw (g:=l) (.cons i1 (.cons i6 (.cons i2 (.cons i3 (.cons i4 (.cons i5 .nil)))))))⟩
  ·refine⟨p32,_,_,_,rfl,rfl,SqL.of (bb _ _ m32),(show atI [V.int 0,V.int 1,V.int 4] 2=some (V.int 4) from rfl),_,rfl,lw,_,_,_,rfl,rfl,SqL.of (bb _ _ ((w5.trans s32) _ _ hw4)),(show atI (wl W) 0=some (.str (W 0)) from rfl),(szQ 2),fun p33 h33=>?_⟩
   have e33:=aN (d:=l) (ad h33 (.tup [.str "open",.str (W 0)]))
   have m33:=bY h33 q32 (x:=(.tup [.str "open",.str (W 0)]))
   have q33:=(ad h33 (.tup [.str "open",.str (W 0)])) _ _ q32
   have s33:=s32.trans e33
   have t32:=e33
   have i6:d0 K (wo (upd (upd H5 p32 (.lst [.int 0,.int 1,.int 4])) p33 (.tup [.str "open",.str (W 0)])) l) (.ref p33) (itT ⟨W,N,M,kc,o⟩ .o):=⟨p33,rfl,SqT.of m33⟩
   have i6:=bG (o:=.lst ([V.ref p7,V.ref p15,V.ref p19,V.ref p26,V.ref p31].take 4++V.ref p33::[V.ref p7,V.ref p15,V.ref p19,V.ref p26,V.ref p31].drop 4)) i6
   have i1:=bG (o:=.lst ([V.ref p7,V.ref p15,V.ref p19,V.ref p26,V.ref p31].take 4++V.ref p33::[V.ref p7,V.ref p15,V.ref p19,V.ref p26,V.ref p31].drop 4)) (i1.same s33)
   have i2:=bG (o:=.lst ([V.ref p7,V.ref p15,V.ref p19,V.ref p26,V.ref p31].take 4++V.ref p33::[V.ref p7,V.ref p15,V.ref p19,V.ref p26,V.ref p31].drop 4)) (i2.same s33)
   have i3:=bG (o:=.lst ([V.ref p7,V.ref p15,V.ref p19,V.ref p26,V.ref p31].take 4++V.ref p33::[V.ref p7,V.ref p15,V.ref p19,V.ref p26,V.ref p31].drop 4)) (i3.same s33)
   have i4:=bG (o:=.lst ([V.ref p7,V.ref p15,V.ref p19,V.ref p26,V.ref p31].take 4++V.ref p33::[V.ref p7,V.ref p15,V.ref p19,V.ref p26,V.ref p31].drop 4)) (i4.same s33)
   have i5:=bG (o:=.lst ([V.ref p7,V.ref p15,V.ref p19,V.ref p26,V.ref p31].take 4++V.ref p33::[V.ref p7,V.ref p15,V.ref p19,V.ref p26,V.ref p31].drop 4)) (i5.same s33)
   have w6:=gA (o:=.lst ([V.ref p7,V.ref p15,V.ref p19,V.ref p26,V.ref p31].take 4++V.ref p33::[V.ref p7,V.ref p15,V.ref p19,V.ref p26,V.ref p31].drop 4)) (w5.trans s33)
   refine⟨l,4,_,_,rfl,rfl,q33,(by show 4<=5;decide),(by show 5 < sizeLine;decide),?_⟩
   exact⟨_,rfl,q _ l _ kc 2 o (s04.trans (w6.trans bb)) hl0 ac hkc (by decide) hso (Paired.ofw (g:=l) (.cons i1 (.cons i2 (.cons i3 (.cons i4 (.cons i6 (.cons i5 .nil)))))))⟩
abbrev moN:List Str:=["_law_script","_law_words","_law_size_here","_law_mode","_law_a","_law_b","_law_bad","_law_hid","_law_bit","_law_strange","_law_number","_law_odd","_law_own","_law_behind","_law_opened"]
abbrev moP:List Str:=["_law_script","_law_words","_law_size_here","_law_mode"]
def fL:Option Nat->Str
 |none=>""
 |some 0=>"NoName"
 |some 1=>"NoCount"
 |some 2=>"WrongKind"
 |some _=>"Twice"
def plN:Nat->Nat
 |1=>1
 |8=>2
 |10=>3
 |11=>4
 |_=>0
def uO(K:W.Frag)(H:Hp)(x:V)(S:Sc)(mode st v:Nat):Prop:=∃(p:Addr) (xi:V),x=.ref p/\H p=some (.tup [xi,.str (fL (km mode v)),.int (plN v:Int)])/\d0 K H xi (bd S mode st v)
theorem uO.same{K:W.Frag}{H H':Hp}{x:V}{S:Sc}{mode st v:Nat}(s:aH H H')(h:uO K H x S mode st v):uO K H' x S mode st v:=by
 obtain⟨p,xi,h1,h2,h3⟩:=h
 exact⟨p,xi,h1,s _ _ h2,h3.same s⟩
theorem zn{S:Sc}(hW:WOk S.W):∀st,okW (bX S st).1/\okW (bX S st).2
 |0=>⟨hW.sm 15,hW.sm 3⟩
 |1=>⟨hW.sm 5,hW.sm 4⟩
 |_+2=>⟨dL,hW.sm 15⟩
def qp(K:W.Frag):Sp:=fun vs H Q _=>∃(sc lw:Addr) (ns:List Int) (S:Sc) (mode:Nat),vs=[.ref sc,.ref lw,.int S.N,.int (mode:Int)]/\mode < 2/\SqL K H sc (ns.map V.int)/\ns.length<=63/\H lw=some (.lst (wl S.W))/\WOk S.W/\∀(H':Hp) (x:V) (st v:Nat),aH H H'->v < 12->uO K H' x S mode st v->Q x H'
theorem oN{X:Cx}{e:Expr}{t t':TE}(h:PE X e t)(u:∀σ H Q,t' σ H Q->t σ H Q):PE X e t':=fun pins s σ H Q I hq=>h pins s σ H Q I (u _ _ _ hq)
def MFx(K:W.Frag)(sc lw:Addr)(S:Sc)(mode st:Nat)(σ:St)(H:Hp):Prop:=∃(hid bit num odd own beh opn:V) (ps:Addr),σ=[some (.ref sc),some (.ref lw),some (.int S.N),some (.int (mode:Int)),some (.str (S.W 8)),some (.str (S.W 9)),some (.str (S.W 14)),some hid,some bit,some (.ref ps),some num,some odd,some own,some beh,some opn]/\H lw=some (.lst (wl S.W))/\bJ K H hid S.hid/\bJ K H bit (.num 2)/\H ps=some (.tup [.str (bX S st).1,.str (bX S st).2])/\J53.ExAt H num (.nd (.lit 0 S.N) [])/\d0 K H odd (bd S mode st 8)/\bJ K H own S.ow/\J53.ExAt H beh (.call "" (S.W 10) [.var (S.W 9),.nd (.lit 1 2) []])/\d0 K H opn (itT S .x)
theorem MFx.same{K:W.Frag}{sc lw:Addr}{S:Sc}{mode st:Nat}{σ:St}{H H':Hp}(h:MFx K sc lw S mode st σ H)(s:aH H H'):MFx K sc lw S mode st σ H':=by
 obtain⟨hid,bit,num,odd,own,beh,opn,ps,h0,h1,h2,h3,h4,h5,h6,h7,h8,h9⟩:=h
 exact⟨hid,bit,num,odd,own,beh,opn,ps,h0,s _ _ h1,h2.same s,h3.same s,s _ _ h4,h5.same s,h6.same s,h7.same s,h8.same s,h9.same s⟩
def oO(K:W.Frag)(sc lw:Addr)(S:Sc)(mode v:Nat):TE:=fun σ H Q=>∃st,MFx K sc lw S mode st σ H/\∀x H',aH H H'->uO K H' x S mode st v->Q x H'
theorem de:aJ moN moP (aj jg):=⟨rfl,rfl,rfl,by decide +kernel,rfl,by decide +kernel,by decide +kernel⟩
theorem sE{f fP:Addr}{fd fdP:FuncData} (F:Fun K "_law_more" "_law_more" jg f fd)
  (GP:aV P w K mg base CX0 2 fP fdP ["_law_script","_law_k","_law_many"] (J53.spPick K)) (bP:aL K fdP ["_law_script","_law_k","_law_many"] []) (kP:W.keepIn K (.ref fP)=true) (mP:mg "_law_pick"=some (.ref fP)) :
  aV P w K mg base CX0 3 f fd moP (qp K):=by
 refine F.ok de (fun vs H Q E h=>?_) (fun cdv A outer s H vs Q E hrP h=>?_)
 ·obtain⟨_,_,_,_,_,rfl,_⟩:=h
  rfl
 obtain⟨sc,lw,ns,S,mode,rfl,hmd,hS,h63,hw,hW,q⟩:=h
 have hr2:=hrP
 have hm:mode=0\/mode=1:=by omega
 refine⟨_,@ah _ _ _ _ _ (vm (i:=4) (j:=5) (k:=6) rfl de.nd rfl rfl rfl rfl rfl rfl (@aa _ _ _ _ _ (aq ap (pv 1) ag (fun _ _=>rfl)) (@aa _ _ _ _ _ (aq ap (pv 1) ag (fun _ _=>rfl)) (@aa _ _ _ _ _ (aq ap (pv 1) ag (fun _ _=>rfl)) ae rfl) rfl) rfl) rfl) (@ah _ _ _ _ _ (ay (i:=7) de.nd rfl (Or.inl rfl) (@ak _ _ _ _ _ (@aa _ _ _ _ _ ai (@aa _ _ _ _ _ (aq ap (pv 1) ag (fun _ _=>rfl)) (@aa _ _ _ _ _ (aq ap (pv 1) ag (fun _ _=>rfl)) ae rfl) rfl) rfl))) (@ah _ _ _ _ _ (ay (i:=8) de.nd rfl (Or.inl rfl) (@ak _ _ _ _ _ (@aa _ _ _ _ _ ai (@aa _ _ _ _ _ ag ae rfl) rfl))) (@ah _ _ _ _ _ (ay (i:=9) de.nd rfl (Or.inl rfl) (aq ap (dq (@aa _ _ _ _ _ (@ak _ _ _ _ _ (@aa _ _ _ _ _ (aq ap (pv 1) ag (fun _ _=>rfl)) (@aa _ _ _ _ _ (aq ap (pv 1) ag (fun _ _=>rfl)) ae rfl) rfl)) (@aa _ _ _ _ _ (@ak _ _ _ _ _ (@aa _ _ _ _ _ (aq ap (pv 1) ag (fun _ _=>rfl)) (@aa _ _ _ _ _ (aq ap (pv 1) ag (fun _ _=>rfl)) ae rfl) rfl)) (@aa _ _ _ _ _ (@ak _ _ _ _ _ (@aa _ _ _ _ _ ai (@aa _ _ _ _ _ (aq ap (pv 1) ag (fun _ _=>rfl)) ae rfl) rfl)) ae rfl) rfl) rfl)) (au GP hr2 rfl mP kP bP .nil bQ (@aa _ _ _ _ _ (pv 0) (@aa _ _ _ _ _ ag (@aa _ _ _ _ _ ag ae rfl) rfl) rfl)) (fun _ _=>rfl))) (@ah _ _ _ _ _ (ay (i:=10) de.nd rfl (Or.inl rfl) (@ak _ _ _ _ _ (@aa _ _ _ _ _ ai (@aa _ _ _ _ _ ag (@aa _ _ _ _ _ (pv 2) ae rfl) rfl) rfl))) (@ah _ _ _ _ _ (ay (i:=11) de.nd rfl (Or.inl rfl) (@ak _ _ _ _ _ (@aa _ _ _ _ _ ai (@aa _ _ _ _ _ (pv 6) (@aa _ _ _ _ _ (@ak _ _ _ _ _ ae) (@aa _ _ _ _ _ (@ak _ _ _ _ _ (@aa _ _ _ _ _ ai (@aa _ _ _ _ _ (aq ap (pv 1) ag (fun _ _=>rfl)) (@aa _ _ _ _ _ (aq ap (pv 1) ag (fun _ _=>rfl)) ae rfl) rfl) rfl)) (@aa _ _ _ _ _ (@ak _ _ _ _ _ (@aa _ _ _ _ _ ai (@aa _ _ _ _ _ ai (@aa _ _ _ _ _ (aq ap (pv 1) ag (fun _ _=>rfl)) (@aa _ _ _ _ _ (@ak _ _ _ _ _ ae) ae rfl) rfl) rfl) rfl)) ae rfl) rfl) rfl) rfl) rfl))) (@ah _ _ _ _ _ (bc (aB bu (pv 3) ag (aE _)) (@ao _ _ _ (ay (i:=11) de.nd rfl (Or.inl rfl) (@ak _ _ _ _ _ (@aa _ _ _ _ _ ai (@aa _ _ _ _ _ (pv 6) (@aa _ _ _ _ _ (@ak _ _ _ _ _ ae) (@aa _ _ _ _ _ (pv 7) (@aa _ _ _ _ _ (@ak _ _ _ _ _ (@aa _ _ _ _ _ ai (@aa _ _ _ _ _ ai (@aa _ _ _ _ _ (aq ap (pv 1) ag (fun _ _=>rfl)) (@aa _ _ _ _ _ (@ak _ _ _ _ _ ae) ae rfl) rfl) rfl) rfl)) ae rfl) rfl) rfl) rfl) rfl)))) aI) (@ah _ _ _ _ _ (ay (i:=12) de.nd rfl (Or.inl rfl) (@ak _ _ _ _ _ (@aa _ _ _ _ _ ai (@aa _ _ _ _ _ ai (@aa _ _ _ _ _ (aq ap (pv 1) ag (fun _ _=>rfl)) ae rfl) rfl) rfl))) (@ah _ _ _ _ _ (ay (i:=13) de.nd rfl (Or.inl rfl) (@ak _ _ _ _ _ (@aa _ _ _ _ _ ai (@aa _ _ _ _ _ ai (@aa _ _ _ _ _ (aq ap (pv 1) ag (fun _ _=>rfl)) (@aa _ _ _ _ _ (@ak _ _ _ _ _ (@aa _ _ _ _ _ (@ak _ _ _ _ _ (@aa _ _ _ _ _ ai (@aa _ _ _ _ _ (pv 5) ae rfl) rfl)) (@aa _ _ _ _ _ (@ak _ _ _ _ _ (@aa _ _ _ _ _ ai (@aa _ _ _ _ _ ag (@aa _ _ _ _ _ ag ae rfl) rfl) rfl)) ae rfl) rfl)) ae rfl) rfl) rfl) rfl))) (@ah _ _ _ _ _ (ay (i:=14) de.nd rfl (Or.inl rfl) (@ak _ _ _ _ _ (@aa _ _ _ _ _ ai (@aa _ _ _ _ _ (pv 6) (@aa _ _ _ _ _ (@ak _ _ _ _ _ ae) (@aa _ _ _ _ _ (pv 7) (@aa _ _ _ _ _ (@ak _ _ _ _ _ (@aa _ _ _ _ _ ai (@aa _ _ _ _ _ ai (@aa _ _ _ _ _ (aq ap (pv 1) ag (fun _ _=>rfl)) (@aa _ _ _ _ _ (@ak _ _ _ _ _ ae) ae rfl) rfl) rfl) rfl)) ae rfl) rfl) rfl) rfl) rfl))) (@ao _ _ _ (@aM _ _ _ _ (aq ap (dq (@aa _ _ _ _ _ (oN (t':=oO K sc lw S mode 0) (@ak _ _ _ _ _ (@aa _ _ _ _ _ (@ak _ _ _ _ _ (@aa _ _ _ _ _ ai (@aa _ _ _ _ _ (pv 6) (@aa _ _ _ _ _ (@ak _ _ _ _ _ ae) (@aa _ _ _ _ _ (pv 8) (@aa _ _ _ _ _ (@ak _ _ _ _ _ (@aa _ _ _ _ _ ai (@aa _ _ _ _ _ ai (@aa _ _ _ _ _ (pv 6) (@aa _ _ _ _ _ (@ak _ _ _ _ _ ae) ae rfl) rfl) rfl) rfl)) ae rfl) rfl) rfl) rfl) rfl)) (@aa _ _ _ _ _ ai (@aa _ _ _ _ _ ag ae rfl) rfl) rfl)) (fun σ H Q h=>by
    obtain⟨st,⟨hid,bit,num,odd,own,beh,opn,ps,rfl,hw,kh,kb,hst,en,io,ko,eb,ip⟩,q⟩:=h
    refine⟨_,rfl,(szQ 0),fun p1 h1=>?_⟩
    have e1:=ad h1 (.tup [])
    have s1:=e1
    refine⟨_,rfl,_,rfl,(szQ 0),fun p2 h2=>?_⟩
    have e2:=ad h2 (.tup [])
    have s2:=s1.trans e2
    refine⟨(szQ 4),fun p3 h3=>?_⟩
    have e3:=ad h3 (.tup [.str "call",.str "",.str (S.W 14),.ref p2])
    have s3:=s2.trans e3
    refine⟨(szQ 5),fun p4 h4=>?_⟩
    have e4:=ad h4 (.tup [.str "fun",.str (S.W 14),.ref p1,bit,.ref p3])
    have s4:=s3.trans e4
    refine⟨(szQ 3),fun p5 h5=>?_⟩
    have e5:=ad h5 (.tup [.ref p4,.str "NoName",.int 0])
    have s5:=s4.trans e5
    have t4:=e5
    have t3:=e4.trans t4
    have t2:=e3.trans t3
    have t1:=e2.trans t2
    exact q _ _ s5 ⟨p5,.ref p4,rfl,ac,⟨p4,p1,bit,.ref p3,[],rfl,SqT.of (t4 _ _ ac),SqT.of (t1 _ _ ac),.nil,(kb.same s5),(.call (t3 _ _ ac) (t2 _ _ ac) .nil ⟨dL,(hW.sm 14)⟩)⟩⟩)) (@aa _ _ _ _ _ (oN (t':=oO K sc lw S mode 1) (@ak _ _ _ _ _ (@aa _ _ _ _ _ (@ak _ _ _ _ _ (@aa _ _ _ _ _ ai (@aa _ _ _ _ _ (pv 6) (@aa _ _ _ _ _ (@ak _ _ _ _ _ (@aa _ _ _ _ _ (@ak _ _ _ _ _ (@aa _ _ _ _ _ (pv 5) (@aa _ _ _ _ _ (pv 12) ae rfl) rfl)) ae rfl)) (@aa _ _ _ _ _ (pv 12) (@aa _ _ _ _ _ (pv 13) ae rfl) rfl) rfl) rfl) rfl)) (@aa _ _ _ _ _ ai (@aa _ _ _ _ _ ag ae rfl) rfl) rfl)) (fun σ H Q h=>by
    obtain⟨st,⟨hid,bit,num,odd,own,beh,opn,ps,rfl,hw,kh,kb,hst,en,io,ko,eb,ip⟩,q⟩:=h
    refine⟨_,rfl,_,rfl,_,rfl,(szQ 2),fun p1 h1=>?_⟩
    have e1:=ad h1 (.tup [.str (S.W 9),own])
    have s1:=e1
    refine⟨(szQ 1),fun p2 h2=>?_⟩
    have e2:=ad h2 (.tup [.ref p1])
    have s2:=s1.trans e2
    refine⟨_,rfl,_,rfl,(szQ 5),fun p3 h3=>?_⟩
    have e3:=ad h3 (.tup [.str "fun",.str (S.W 14),.ref p2,own,beh])
    have s3:=s2.trans e3
    refine⟨(szQ 3),fun p4 h4=>?_⟩
    have e4:=ad h4 (.tup [.ref p3,.str "NoName",.int 1])
    have s4:=s3.trans e4
    have t3:=e4
    have t2:=e3.trans t3
    have t1:=e2.trans t2
    exact q _ _ s4 ⟨p4,.ref p3,rfl,ac,⟨p3,p2,own,beh,[.ref p1],rfl,SqT.of (t3 _ _ ac),SqT.of (t2 _ _ ac),(.cons ⟨p1,own,rfl,SqT.of (t1 _ _ ac),(ko.same s4)⟩ .nil),(ko.same s4),(eb.same s4)⟩⟩)) (@aa _ _ _ _ _ (oN (t':=oO K sc lw S mode 2) (@ak _ _ _ _ _ (@aa _ _ _ _ _ (@ak _ _ _ _ _ (@aa _ _ _ _ _ ai (@aa _ _ _ _ _ (pv 6) (@aa _ _ _ _ _ (@ak _ _ _ _ _ (@aa _ _ _ _ _ (@ak _ _ _ _ _ (@aa _ _ _ _ _ (pv 4) (@aa _ _ _ _ _ (pv 8) ae rfl) rfl)) (@aa _ _ _ _ _ (@ak _ _ _ _ _ (@aa _ _ _ _ _ (pv 5) (@aa _ _ _ _ _ (pv 8) ae rfl) rfl)) (@aa _ _ _ _ _ (@ak _ _ _ _ _ (@aa _ _ _ _ _ (pv 4) (@aa _ _ _ _ _ (pv 8) ae rfl) rfl)) ae rfl) rfl) rfl)) (@aa _ _ _ _ _ (pv 8) (@aa _ _ _ _ _ (@ak _ _ _ _ _ (@aa _ _ _ _ _ ai (@aa _ _ _ _ _ (pv 5) ae rfl) rfl)) ae rfl) rfl) rfl) rfl) rfl)) (@aa _ _ _ _ _ ai (@aa _ _ _ _ _ ag ae rfl) rfl) rfl)) (fun σ H Q h=>by
    obtain⟨st,⟨hid,bit,num,odd,own,beh,opn,ps,rfl,hw,kh,kb,hst,en,io,ko,eb,ip⟩,q⟩:=h
    refine⟨_,rfl,_,rfl,_,rfl,(szQ 2),fun p1 h1=>?_⟩
    have e1:=ad h1 (.tup [.str (S.W 8),bit])
    have s1:=e1
    refine⟨_,rfl,_,rfl,(szQ 2),fun p2 h2=>?_⟩
    have e2:=ad h2 (.tup [.str (S.W 9),bit])
    have s2:=s1.trans e2
    refine⟨_,rfl,_,rfl,(szQ 2),fun p3 h3=>?_⟩
    have e3:=ad h3 (.tup [.str (S.W 8),bit])
    have s3:=s2.trans e3
    refine⟨(szQ 3),fun p4 h4=>?_⟩
    have e4:=ad h4 (.tup [.ref p1,.ref p2,.ref p3])
    have s4:=s3.trans e4
    refine⟨_,rfl,_,rfl,(szQ 2),fun p5 h5=>?_⟩
    have e5:=ad h5 (.tup [.str "var",.str (S.W 9)])
    have s5:=s4.trans e5
    refine⟨(szQ 5),fun p6 h6=>?_⟩
    have e6:=ad h6 (.tup [.str "fun",.str (S.W 14),.ref p4,bit,.ref p5])
    have s6:=s5.trans e6
    refine⟨(szQ 3),fun p7 h7=>?_⟩
    have e7:=ad h7 (.tup [.ref p6,.str "Twice",.int 0])
    have s7:=s6.trans e7
    have t6:=e7
    have t5:=e6.trans t6
    have t4:=e5.trans t5
    have t3:=e4.trans t4
    have t2:=e3.trans t3
    have t1:=e2.trans t2
    exact q _ _ s7 ⟨p7,.ref p6,rfl,ac,⟨p6,p4,bit,.ref p5,[.ref p1,.ref p2,.ref p3],rfl,SqT.of (t6 _ _ ac),SqT.of (t4 _ _ ac),(.cons ⟨p1,bit,rfl,SqT.of (t1 _ _ ac),(kb.same s7)⟩ (.cons ⟨p2,bit,rfl,SqT.of (t2 _ _ ac),(kb.same s7)⟩ (.cons ⟨p3,bit,rfl,SqT.of (t3 _ _ ac),(kb.same s7)⟩ .nil))),(kb.same s7),(.var (t5 _ _ ac) (Nat.le_trans (hW.sm 9).2 (by decide)))⟩⟩)) (@aa _ _ _ _ _ (oN (t':=oO K sc lw S mode 3) (@ak _ _ _ _ _ (@aa _ _ _ _ _ (@ak _ _ _ _ _ (@aa _ _ _ _ _ ai (@aa _ _ _ _ _ (pv 6) (@aa _ _ _ _ _ (@ak _ _ _ _ _ (@aa _ _ _ _ _ (@ak _ _ _ _ _ (@aa _ _ _ _ _ (pv 4) (@aa _ _ _ _ _ (pv 7) ae rfl) rfl)) ae rfl)) (@aa _ _ _ _ _ (@ak _ _ _ _ _ (@aa _ _ _ _ _ ai (@aa _ _ _ _ _ (pv 2) ae rfl) rfl)) (@aa _ _ _ _ _ (@ak _ _ _ _ _ (@aa _ _ _ _ _ ai (@aa _ _ _ _ _ (pv 4) ae rfl) rfl)) ae rfl) rfl) rfl) rfl) rfl)) (@aa _ _ _ _ _ ai (@aa _ _ _ _ _ ag ae rfl) rfl) rfl)) (fun σ H Q h=>by
    obtain⟨st,⟨hid,bit,num,odd,own,beh,opn,ps,rfl,hw,kh,kb,hst,en,io,ko,eb,ip⟩,q⟩:=h
    refine⟨_,rfl,_,rfl,_,rfl,(szQ 2),fun p1 h1=>?_⟩
    have e1:=ad h1 (.tup [.str (S.W 8),hid])
    have s1:=e1
    refine⟨(szQ 1),fun p2 h2=>?_⟩
    have e2:=ad h2 (.tup [.ref p1])
    have s2:=s1.trans e2
    refine⟨_,rfl,(szQ 2),fun p3 h3=>?_⟩
    have e3:=ad h3 (.tup [.str "num",.int S.N])
    have s3:=s2.trans e3
    refine⟨_,rfl,(szQ 2),fun p4 h4=>?_⟩
    have e4:=ad h4 (.tup [.str "var",.str (S.W 8)])
    have s4:=s3.trans e4
    refine⟨(szQ 5),fun p5 h5=>?_⟩
    have e5:=ad h5 (.tup [.str "fun",.str (S.W 14),.ref p2,.ref p3,.ref p4])
    have s5:=s4.trans e5
    refine⟨(szQ 3),fun p6 h6=>?_⟩
    have e6:=ad h6 (.tup [.ref p5,.str "WrongKind",.int 0])
    have s6:=s5.trans e6
    have t5:=e6
    have t4:=e5.trans t5
    have t3:=e4.trans t4
    have t2:=e3.trans t3
    have t1:=e2.trans t2
    exact q _ _ s6 ⟨p6,.ref p5,rfl,ac,⟨p5,p2,.ref p3,.ref p4,[.ref p1],rfl,SqT.of (t5 _ _ ac),SqT.of (t2 _ _ ac),(.cons ⟨p1,hid,rfl,SqT.of (t1 _ _ ac),(kh.same s6)⟩ .nil),(.num (SqT.of (t3 _ _ ac))),(.var (t4 _ _ ac) (Nat.le_trans (hW.sm 8).2 (by decide)))⟩⟩)) (@aa _ _ _ _ _ (oN (t':=oO K sc lw S mode 4) (@ak _ _ _ _ _ (@aa _ _ _ _ _ (@ak _ _ _ _ _ (@aa _ _ _ _ _ ai (@aa _ _ _ _ _ (pv 6) (@aa _ _ _ _ _ (@ak _ _ _ _ _ ae) (@aa _ _ _ _ _ (pv 8) (@aa _ _ _ _ _ (@ak _ _ _ _ _ (@aa _ _ _ _ _ ai (@aa _ _ _ _ _ (aq aG (pv 9) ag (fun _ _=>rfl)) (@aa _ _ _ _ _ (aq aG (pv 9) ag (fun _ _=>rfl)) (@aa _ _ _ _ _ (@ak _ _ _ _ _ ae) ae rfl) rfl) rfl) rfl)) ae rfl) rfl) rfl) rfl) rfl)) (@aa _ _ _ _ _ ai (@aa _ _ _ _ _ ag ae rfl) rfl) rfl)) (fun σ H Q h=>by
    obtain⟨st,⟨hid,bit,num,odd,own,beh,opn,ps,rfl,hw,kh,kb,hst,en,io,ko,eb,ip⟩,q⟩:=h
    refine⟨_,rfl,(szQ 0),fun p1 h1=>?_⟩
    have e1:=ad h1 (.tup [])
    have s1:=e1
    refine⟨_,rfl,_,rfl,ps,_,_,_,rfl,rfl,SqT.of (s1 _ _ hst),(show atI [V.str (bX S st).1,.str (bX S st).2] 0=some (.str (bX S st).1) from rfl),_,rfl,ps,_,_,_,rfl,rfl,SqT.of (s1 _ _ hst),(show atI [V.str (bX S st).1,.str (bX S st).2] 1=some (.str (bX S st).2) from rfl),(szQ 0),fun p2 h2=>?_⟩
    have e2:=ad h2 (.tup [])
    have s2:=s1.trans e2
    refine⟨(szQ 4),fun p3 h3=>?_⟩
    have e3:=ad h3 (.tup [.str "call",.str (bX S st).1,.str (bX S st).2,.ref p2])
    have s3:=s2.trans e3
    refine⟨(szQ 5),fun p4 h4=>?_⟩
    have e4:=ad h4 (.tup [.str "fun",.str (S.W 14),.ref p1,bit,.ref p3])
    have s4:=s3.trans e4
    refine⟨(szQ 3),fun p5 h5=>?_⟩
    have e5:=ad h5 (.tup [.ref p4,.str "NoName",.int 0])
    have s5:=s4.trans e5
    have t4:=e5
    have t3:=e4.trans t4
    have t2:=e3.trans t3
    have t1:=e2.trans t2
    exact q _ _ s5 ⟨p5,.ref p4,rfl,ac,⟨p4,p1,bit,.ref p3,[],rfl,SqT.of (t4 _ _ ac),SqT.of (t1 _ _ ac),.nil,(kb.same s5),(.call (t3 _ _ ac) (t2 _ _ ac) .nil ⟨(zn hW st).1,(zn hW st).2⟩)⟩⟩)) (@aa _ _ _ _ _ (oN (t':=oO K sc lw S mode 5) (@ak _ _ _ _ _ (@aa _ _ _ _ _ (@ak _ _ _ _ _ (@aa _ _ _ _ _ ai (@aa _ _ _ _ _ (pv 6) (@aa _ _ _ _ _ (@ak _ _ _ _ _ ae) (@aa _ _ _ _ _ (pv 8) (@aa _ _ _ _ _ (@ak _ _ _ _ _ (@aa _ _ _ _ _ ai (@aa _ _ _ _ _ (pv 5) ae rfl) rfl)) ae rfl) rfl) rfl) rfl) rfl)) (@aa _ _ _ _ _ ai (@aa _ _ _ _ _ ag ae rfl) rfl) rfl)) (fun σ H Q h=>by
    obtain⟨st,⟨hid,bit,num,odd,own,beh,opn,ps,rfl,hw,kh,kb,hst,en,io,ko,eb,ip⟩,q⟩:=h
    refine⟨_,rfl,(szQ 0),fun p1 h1=>?_⟩
    have e1:=ad h1 (.tup [])
    have s1:=e1
    refine⟨_,rfl,_,rfl,(szQ 2),fun p2 h2=>?_⟩
    have e2:=ad h2 (.tup [.str "var",.str (S.W 9)])
    have s2:=s1.trans e2
    refine⟨(szQ 5),fun p3 h3=>?_⟩
    have e3:=ad h3 (.tup [.str "fun",.str (S.W 14),.ref p1,bit,.ref p2])
    have s3:=s2.trans e3
    refine⟨(szQ 3),fun p4 h4=>?_⟩
    have e4:=ad h4 (.tup [.ref p3,.str "NoName",.int 0])
    have s4:=s3.trans e4
    have t3:=e4
    have t2:=e3.trans t3
    have t1:=e2.trans t2
    exact q _ _ s4 ⟨p4,.ref p3,rfl,ac,⟨p3,p1,bit,.ref p2,[],rfl,SqT.of (t3 _ _ ac),SqT.of (t1 _ _ ac),.nil,(kb.same s4),(.var (t2 _ _ ac) (Nat.le_trans (hW.sm 9).2 (by decide)))⟩⟩)) (@aa _ _ _ _ _ (oN (t':=oO K sc lw S mode 6) (@ak _ _ _ _ _ (@aa _ _ _ _ _ (@ak _ _ _ _ _ (@aa _ _ _ _ _ ai (@aa _ _ _ _ _ (pv 6) (@aa _ _ _ _ _ (@ak _ _ _ _ _ (@aa _ _ _ _ _ (@ak _ _ _ _ _ (@aa _ _ _ _ _ (pv 4) (@aa _ _ _ _ _ (pv 7) ae rfl) rfl)) ae rfl)) (@aa _ _ _ _ _ (@ak _ _ _ _ _ (@aa _ _ _ _ _ ai (@aa _ _ _ _ _ (pv 2) ae rfl) rfl)) (@aa _ _ _ _ _ (@ak _ _ _ _ _ (@aa _ _ _ _ _ ai (@aa _ _ _ _ _ ai (@aa _ _ _ _ _ (pv 2) (@aa _ _ _ _ _ (@ak _ _ _ _ _ (@aa _ _ _ _ _ ai (@aa _ _ _ _ _ (pv 4) ae rfl) rfl)) (@aa _ _ _ _ _ (pv 10) ae rfl) rfl) rfl) rfl) rfl)) ae rfl) rfl) rfl) rfl) rfl)) (@aa _ _ _ _ _ ai (@aa _ _ _ _ _ ag ae rfl) rfl) rfl)) (fun σ H Q h=>by
    obtain⟨st,⟨hid,bit,num,odd,own,beh,opn,ps,rfl,hw,kh,kb,hst,en,io,ko,eb,ip⟩,q⟩:=h
    refine⟨_,rfl,_,rfl,_,rfl,(szQ 2),fun p1 h1=>?_⟩
    have e1:=ad h1 (.tup [.str (S.W 8),hid])
    have s1:=e1
    refine⟨(szQ 1),fun p2 h2=>?_⟩
    have e2:=ad h2 (.tup [.ref p1])
    have s2:=s1.trans e2
    refine⟨_,rfl,(szQ 2),fun p3 h3=>?_⟩
    have e3:=ad h3 (.tup [.str "num",.int S.N])
    have s3:=s2.trans e3
    refine⟨_,rfl,_,rfl,(szQ 2),fun p4 h4=>?_⟩
    have e4:=ad h4 (.tup [.str "var",.str (S.W 8)])
    have s4:=s3.trans e4
    refine⟨_,rfl,(szQ 5),fun p5 h5=>?_⟩
    have e5:=ad h5 (.tup [.str "op",.str "+",.int S.N,.ref p4,num])
    have s5:=s4.trans e5
    refine⟨(szQ 5),fun p6 h6=>?_⟩
    have e6:=ad h6 (.tup [.str "fun",.str (S.W 14),.ref p2,.ref p3,.ref p5])
    have s6:=s5.trans e6
    refine⟨(szQ 3),fun p7 h7=>?_⟩
    have e7:=ad h7 (.tup [.ref p6,.str "WrongKind",.int 0])
    have s7:=s6.trans e7
    have t6:=e7
    have t5:=e6.trans t6
    have t4:=e5.trans t5
    have t3:=e4.trans t4
    have t2:=e3.trans t3
    have t1:=e2.trans t2
    exact q _ _ s7 ⟨p7,.ref p6,rfl,ac,⟨p6,p2,.ref p3,.ref p5,[.ref p1],rfl,SqT.of (t6 _ _ ac),SqT.of (t2 _ _ ac),(.cons ⟨p1,hid,rfl,SqT.of (t1 _ _ ac),(kh.same s7)⟩ .nil),(.num (SqT.of (t3 _ _ ac))),(.nd (f:=.op "+" (S.N)) (xs:=[.ref p4,num]) (t5 _ _ ac) (.cons (.var (t4 _ _ ac) (Nat.le_trans (hW.sm 8).2 (by decide))) (.cons (en.same s7) .nil)) (by rintro⟨_,_,h⟩;cases h))⟩⟩)) (@aa _ _ _ _ _ (oN (t':=oO K sc lw S mode 7) (@ak _ _ _ _ _ (@aa _ _ _ _ _ (@ak _ _ _ _ _ (@aa _ _ _ _ _ ai (@aa _ _ _ _ _ (pv 6) (@aa _ _ _ _ _ (@ak _ _ _ _ _ (@aa _ _ _ _ _ (@ak _ _ _ _ _ (@aa _ _ _ _ _ (pv 4) (@aa _ _ _ _ _ (pv 7) ae rfl) rfl)) ae rfl)) (@aa _ _ _ _ _ (@ak _ _ _ _ _ (@aa _ _ _ _ _ ai (@aa _ _ _ _ _ (pv 2) ae rfl) rfl)) (@aa _ _ _ _ _ (@ak _ _ _ _ _ (@aa _ _ _ _ _ ai (@aa _ _ _ _ _ (aq ap (pv 1) ag (fun _ _=>rfl)) (@aa _ _ _ _ _ (aq ap (pv 1) ag (fun _ _=>rfl)) (@aa _ _ _ _ _ (@ak _ _ _ _ _ (@aa _ _ _ _ _ (@ak _ _ _ _ _ (@aa _ _ _ _ _ ai (@aa _ _ _ _ _ (pv 4) ae rfl) rfl)) ae rfl)) ae rfl) rfl) rfl) rfl)) ae rfl) rfl) rfl) rfl) rfl)) (@aa _ _ _ _ _ ai (@aa _ _ _ _ _ ag ae rfl) rfl) rfl)) (fun σ H Q h=>by
    obtain⟨st,⟨hid,bit,num,odd,own,beh,opn,ps,rfl,hw,kh,kb,hst,en,io,ko,eb,ip⟩,q⟩:=h
    refine⟨_,rfl,_,rfl,_,rfl,(szQ 2),fun p1 h1=>?_⟩
    have e1:=ad h1 (.tup [.str (S.W 8),hid])
    have s1:=e1
    refine⟨(szQ 1),fun p2 h2=>?_⟩
    have e2:=ad h2 (.tup [.ref p1])
    have s2:=s1.trans e2
    refine⟨_,rfl,(szQ 2),fun p3 h3=>?_⟩
    have e3:=ad h3 (.tup [.str "num",.int S.N])
    have s3:=s2.trans e3
    refine⟨_,rfl,lw,_,_,_,rfl,rfl,SqL.of (s3 _ _ hw),(show atI (wl S.W) 0=some (.str (S.W 0)) from rfl),_,rfl,lw,_,_,_,rfl,rfl,SqL.of (s3 _ _ hw),(show atI (wl S.W) 4=some (.str (S.W 4)) from rfl),_,rfl,(szQ 2),fun p4 h4=>?_⟩
    have e4:=ad h4 (.tup [.str "var",.str (S.W 8)])
    have s4:=s3.trans e4
    refine⟨(szQ 1),fun p5 h5=>?_⟩
    have e5:=ad h5 (.tup [.ref p4])
    have s5:=s4.trans e5
    refine⟨(szQ 4),fun p6 h6=>?_⟩
    have e6:=ad h6 (.tup [.str "call",.str (S.W 0),.str (S.W 4),.ref p5])
    have s6:=s5.trans e6
    refine⟨(szQ 5),fun p7 h7=>?_⟩
    have e7:=ad h7 (.tup [.str "fun",.str (S.W 14),.ref p2,.ref p3,.ref p6])
    have s7:=s6.trans e7
    refine⟨(szQ 3),fun p8 h8=>?_⟩
    have e8:=ad h8 (.tup [.ref p7,.str "NoCount",.int 0])
    have s8:=s7.trans e8
    have t7:=e8
    have t6:=e7.trans t7
    have t5:=e6.trans t6
    have t4:=e5.trans t5
    have t3:=e4.trans t4
    have t2:=e3.trans t3
    have t1:=e2.trans t2
    exact q _ _ s8 ⟨p8,.ref p7,rfl,ac,⟨p7,p2,.ref p3,.ref p6,[.ref p1],rfl,SqT.of (t7 _ _ ac),SqT.of (t2 _ _ ac),(.cons ⟨p1,hid,rfl,SqT.of (t1 _ _ ac),(kh.same s8)⟩ .nil),(.num (SqT.of (t3 _ _ ac))),(.call (t6 _ _ ac) (t5 _ _ ac) (.cons (.var (t4 _ _ ac) (Nat.le_trans (hW.sm 8).2 (by decide))) .nil) ⟨(hW.sm 0),(hW.sm 4)⟩)⟩⟩)) (@aa _ _ _ _ _ (oN (t':=oO K sc lw S mode 8) (@ak _ _ _ _ _ (@aa _ _ _ _ _ (pv 11) (@aa _ _ _ _ _ (jr (aB bu (pv 3) ag (aE _)) ai ai) (@aa _ _ _ _ _ ag ae rfl) rfl) rfl)) (fun σ H Q h=>by
    obtain⟨st,⟨hid,bit,num,odd,own,beh,opn,ps,rfl,hw,kh,kb,hst,en,io,ko,eb,ip⟩,q⟩:=h
    rcases hm with rfl|rfl
    ·refine⟨_,rfl,_,rfl,rfl,_,rfl,dZ ?_⟩
     refine⟨(szQ 3),fun p1 h1=>?_⟩
     have e1:=ad h1 (.tup [odd,.str "NoName",.int 2])
     have s1:=e1
     exact q _ _ s1 ⟨p1,odd,rfl,ac,(io.same s1)⟩
    ·refine⟨_,rfl,_,rfl,rfl,_,rfl,ce ?_⟩
     refine⟨(szQ 3),fun p1 h1=>?_⟩
     have e1:=ad h1 (.tup [odd,.str "WrongKind",.int 2])
     have s1:=e1
     exact q _ _ s1 ⟨p1,odd,rfl,ac,(io.same s1)⟩)) (@aa _ _ _ _ _ (oN (t':=oO K sc lw S mode 9) (@ak _ _ _ _ _ (@aa _ _ _ _ _ (@ak _ _ _ _ _ (@aa _ _ _ _ _ ai (@aa _ _ _ _ _ (pv 6) (@aa _ _ _ _ _ (@ak _ _ _ _ _ (@aa _ _ _ _ _ (@ak _ _ _ _ _ (@aa _ _ _ _ _ (pv 4) (@aa _ _ _ _ _ (@ak _ _ _ _ _ (@aa _ _ _ _ _ ai (@aa _ _ _ _ _ (aq ap (pv 1) ag (fun _ _=>rfl)) (@aa _ _ _ _ _ (aq ap (pv 1) ag (fun _ _=>rfl)) ae rfl) rfl) rfl)) ae rfl) rfl)) ae rfl)) (@aa _ _ _ _ _ (@ak _ _ _ _ _ (@aa _ _ _ _ _ ai (@aa _ _ _ _ _ (pv 2) ae rfl) rfl)) (@aa _ _ _ _ _ (@ak _ _ _ _ _ (@aa _ _ _ _ _ ai (@aa _ _ _ _ _ (aq ap (pv 1) ag (fun _ _=>rfl)) (@aa _ _ _ _ _ (aq ap (pv 1) ag (fun _ _=>rfl)) (@aa _ _ _ _ _ (@ak _ _ _ _ _ (@aa _ _ _ _ _ (@ak _ _ _ _ _ (@aa _ _ _ _ _ ai (@aa _ _ _ _ _ (pv 4) ae rfl) rfl)) (@aa _ _ _ _ _ (pv 10) ae rfl) rfl)) ae rfl) rfl) rfl) rfl)) ae rfl) rfl) rfl) rfl) rfl)) (@aa _ _ _ _ _ ai (@aa _ _ _ _ _ ag ae rfl) rfl) rfl)) (fun σ H Q h=>by
    obtain⟨st,⟨hid,bit,num,odd,own,beh,opn,ps,rfl,hw,kh,kb,hst,en,io,ko,eb,ip⟩,q⟩:=h
    refine⟨_,rfl,_,rfl,_,rfl,lw,_,_,_,rfl,rfl,SqL.of hw,(show atI (wl S.W) 5=some (.str (S.W 5)) from rfl),_,rfl,lw,_,_,_,rfl,rfl,SqL.of hw,(show atI (wl S.W) 6=some (.str (S.W 6)) from rfl),(szQ 3),fun p1 h1=>?_⟩
    have e1:=ad h1 (.tup [.str "name",.str (S.W 5),.str (S.W 6)])
    have s1:=e1
    refine⟨(szQ 2),fun p2 h2=>?_⟩
    have e2:=ad h2 (.tup [.str (S.W 8),.ref p1])
    have s2:=s1.trans e2
    refine⟨(szQ 1),fun p3 h3=>?_⟩
    have e3:=ad h3 (.tup [.ref p2])
    have s3:=s2.trans e3
    refine⟨_,rfl,(szQ 2),fun p4 h4=>?_⟩
    have e4:=ad h4 (.tup [.str "num",.int S.N])
    have s4:=s3.trans e4
    refine⟨_,rfl,lw,_,_,_,rfl,rfl,SqL.of (s4 _ _ hw),(show atI (wl S.W) 0=some (.str (S.W 0)) from rfl),_,rfl,lw,_,_,_,rfl,rfl,SqL.of (s4 _ _ hw),(show atI (wl S.W) 4=some (.str (S.W 4)) from rfl),_,rfl,(szQ 2),fun p5 h5=>?_⟩
    have e5:=ad h5 (.tup [.str "var",.str (S.W 8)])
    have s5:=s4.trans e5
    refine⟨_,rfl,(szQ 2),fun p6 h6=>?_⟩
    have e6:=ad h6 (.tup [.ref p5,num])
    have s6:=s5.trans e6
    refine⟨(szQ 4),fun p7 h7=>?_⟩
    have e7:=ad h7 (.tup [.str "call",.str (S.W 0),.str (S.W 4),.ref p6])
    have s7:=s6.trans e7
    refine⟨(szQ 5),fun p8 h8=>?_⟩
    have e8:=ad h8 (.tup [.str "fun",.str (S.W 14),.ref p3,.ref p4,.ref p7])
    have s8:=s7.trans e8
    refine⟨(szQ 3),fun p9 h9=>?_⟩
    have e9:=ad h9 (.tup [.ref p8,.str "WrongKind",.int 0])
    have s9:=s8.trans e9
    have t8:=e9
    have t7:=e8.trans t8
    have t6:=e7.trans t7
    have t5:=e6.trans t6
    have t4:=e5.trans t5
    have t3:=e4.trans t4
    have t2:=e3.trans t3
    have t1:=e2.trans t2
    exact q _ _ s9 ⟨p9,.ref p8,rfl,ac,⟨p8,p3,.ref p4,.ref p7,[.ref p2],rfl,SqT.of (t8 _ _ ac),SqT.of (t3 _ _ ac),(.cons ⟨p2,.ref p1,rfl,SqT.of (t2 _ _ ac),(.name (SqT.of (t1 _ _ ac)))⟩ .nil),(.num (SqT.of (t4 _ _ ac))),(.call (t7 _ _ ac) (t6 _ _ ac) (.cons (.var (t5 _ _ ac) (Nat.le_trans (hW.sm 8).2 (by decide))) (.cons (en.same s9) .nil)) ⟨(hW.sm 0),(hW.sm 4)⟩)⟩⟩)) (@aa _ _ _ _ _ (oN (t':=oO K sc lw S mode 10) (@ak _ _ _ _ _ (@aa _ _ _ _ _ (pv 14) (@aa _ _ _ _ _ ai (@aa _ _ _ _ _ ag ae rfl) rfl) rfl)) (fun σ H Q h=>by
    obtain⟨st,⟨hid,bit,num,odd,own,beh,opn,ps,rfl,hw,kh,kb,hst,en,io,ko,eb,ip⟩,q⟩:=h
    refine⟨_,rfl,(szQ 3),fun p1 h1=>?_⟩
    have e1:=ad h1 (.tup [opn,.str "NoName",.int 3])
    have s1:=e1
    exact q _ _ s1 ⟨p1,opn,rfl,ac,(ip.same s1)⟩)) (@aa _ _ _ _ _ (oN (t':=oO K sc lw S mode 11) (@ak _ _ _ _ _ (@aa _ _ _ _ _ (pv 14) (@aa _ _ _ _ _ (jr (aB bu (pv 3) ag (aE _)) ai ai) (@aa _ _ _ _ _ ag ae rfl) rfl) rfl)) (fun σ H Q h=>by
    obtain⟨st,⟨hid,bit,num,odd,own,beh,opn,ps,rfl,hw,kh,kb,hst,en,io,ko,eb,ip⟩,q⟩:=h
    rcases hm with rfl|rfl
    ·refine⟨_,rfl,_,rfl,rfl,_,rfl,dZ ?_⟩
     refine⟨(szQ 3),fun p1 h1=>?_⟩
     have e1:=ad h1 (.tup [opn,.str "NoName",.int 4])
     have s1:=e1
     exact q _ _ s1 ⟨p1,opn,rfl,ac,(ip.same s1)⟩
    ·refine⟨_,rfl,_,rfl,rfl,_,rfl,ce ?_⟩
     refine⟨(szQ 3),fun p1 h1=>?_⟩
     have e1:=ad h1 (.tup [opn,.str "",.int 4])
     have s1:=e1
     exact q _ _ s1 ⟨p1,opn,rfl,ac,(ip.same s1)⟩)) ae rfl) rfl) rfl) rfl) rfl) rfl) rfl) rfl) rfl) rfl) rfl) rfl)) (au GP hr2 rfl mP kP bP .nil bQ (@aa _ _ _ _ _ (pv 0) (@aa _ _ _ _ _ ag (@aa _ _ _ _ _ ag ae rfl) rfl) rfl)) (fun _ _=>rfl))))))))))))),?_⟩
 have hm0:=hm
 have s0:=aH.refl H
 refine⟨_,rfl,lw,_,_,_,rfl,rfl,SqL.of hw,(show atI (wl S.W) 8=some (.str (S.W 8)) from rfl),_,rfl,lw,_,_,_,rfl,rfl,SqL.of hw,(show atI (wl S.W) 9=some (.str (S.W 9)) from rfl),_,rfl,lw,_,_,_,rfl,rfl,SqL.of hw,(show atI (wl S.W) 14=some (.str (S.W 14)) from rfl),_,_,_,rfl,?_⟩
 refine⟨_,rfl,lw,_,_,_,rfl,rfl,SqL.of hw,(show atI (wl S.W) 0=some (.str (S.W 0)) from rfl),_,rfl,lw,_,_,_,rfl,rfl,SqL.of hw,(show atI (wl S.W) 1=some (.str (S.W 1)) from rfl),(szQ 3),fun p1 h1=>?_⟩
 have e1:=ad h1 (.tup [.str "name",.str (S.W 0),.str (S.W 1)])
 have s1:=e1
 refine⟨(szQ 2),fun p2 h2=>?_⟩
 have e2:=ad h2 (.tup [.str "num",.int 2])
 have s2:=s1.trans e2
 refine⟨_,rfl,lw,_,_,_,rfl,rfl,SqL.of (s2 _ _ hw),(show atI (wl S.W) 15=some (.str (S.W 15)) from rfl),_,rfl,lw,_,_,_,rfl,rfl,SqL.of (s2 _ _ hw),(show atI (wl S.W) 3=some (.str (S.W 3)) from rfl),(szQ 2),fun p3 h3=>?_⟩
 have e3:=ad h3 (.tup [.str (S.W 15),.str (S.W 3)])
 have s3:=s2.trans e3
 refine⟨_,rfl,lw,_,_,_,rfl,rfl,SqL.of (s3 _ _ hw),(show atI (wl S.W) 5=some (.str (S.W 5)) from rfl),_,rfl,lw,_,_,_,rfl,rfl,SqL.of (s3 _ _ hw),(show atI (wl S.W) 4=some (.str (S.W 4)) from rfl),(szQ 2),fun p4 h4=>?_⟩
 have e4:=ad h4 (.tup [.str (S.W 5),.str (S.W 4)])
 have s4:=s3.trans e4
 refine⟨_,rfl,lw,_,_,_,rfl,rfl,SqL.of (s4 _ _ hw),(show atI (wl S.W) 15=some (.str (S.W 15)) from rfl),(szQ 2),fun p5 h5=>?_⟩
 have e5:=ad h5 (.tup [.str "",.str (S.W 15)])
 have s5:=s4.trans e5
 refine⟨(szQ 3),fun p6 h6=>?_⟩
 have e6:=ad h6 (.lst [.ref p3,.ref p4,.ref p5])
 have s6:=s5.trans e6
 have sZ:=s6
 have t5:=e6
 have t4:=e5.trans t5
 have t3:=e4.trans t4
 have t2:=e3.trans t3
 have t1:=e2.trans t2
 obtain⟨kh,kb,gl,z0,z1,z2⟩:=(by rintro _ rfl;exact⟨(.name (SqT.of (t1 _ _ ac))),(.num (SqT.of (t2 _ _ ac))),SqL.of ac,(t3 _ _ ac),(t4 _ _ ac),(t5 _ _ ac)⟩:∀ HH,HH=(upd (upd (upd (upd (upd (upd H p1 (.tup [.str "name",.str (S.W 0),.str (S.W 1)])) p2 (.tup [.str "num",.int 2])) p3 (.tup [.str (S.W 15),.str (S.W 3)])) p4 (.tup [.str (S.W 5),.str (S.W 4)])) p5 (.tup [.str "",.str (S.W 15)])) p6 (.lst [.ref p3,.ref p4,.ref p5]))→bJ K HH (.ref p1) (.name (S.W 0) (S.W 1))∧bJ K HH (.ref p2) (.num 2)∧SqL K HH p6 [V.ref p3,V.ref p4,V.ref p5]∧HH p3=some (.tup [.str (S.W 15),.str (S.W 3)])∧HH p4=some (.tup [.str (S.W 5),.str (S.W 4)])∧HH p5=some (.tup [.str "",.str (S.W 15)])) _ rfl
 have hw:=s6 _ _ hw
 have hS:=s6.seq hS
 clear e1 s1 e2 s2 e3 s3 e4 s4 e5 s5 e6 s6 t1 t2 t3 t4 t5
 generalize (upd (upd (upd (upd (upd (upd H p1 (.tup [.str "name",.str (S.W 0),.str (S.W 1)])) p2 (.tup [.str "num",.int 2])) p3 (.tup [.str (S.W 15),.str (S.W 3)])) p4 (.tup [.str (S.W 5),.str (S.W 4)])) p5 (.tup [.str "",.str (S.W 15)])) p6 (.lst [.ref p3,.ref p4,.ref p5]))=H1 at sZ kh kb gl z0 z1 z2 hw hS ⊢
 clear h1 h2 h3 h4 h5 h6
 refine⟨_,rfl,sc,ns,7,3,rfl,hS,h63,by decide,by decide,by decide,fun r r0 r1=>?_⟩
 obtain⟨st,ps,hat,hst⟩:∃st ps,atI [V.ref p3,V.ref p4,V.ref p5] r=some (V.ref ps)/\H1 ps=some (.tup [.str (bX S st).1,.str (bX S st).2]):=by
  have rs:r=0\/r=1\/r=2:=by omega
  rcases rs with rfl|rfl|rfl
  ·exact⟨0,_,rfl,z0⟩
  ·exact⟨1,_,rfl,z1⟩
  ·exact⟨2,_,rfl,z2⟩
 refine⟨p6,_,_,_,rfl,rfl,gl,hat,?_⟩
 clear z0 z1 z2 gl hat r0 r1
 rcases hm with rfl|rfl
 ·refine⟨_,rfl,(szQ 3),fun p7 h7=>?_⟩
  have e7:=ad h7 (.tup [.str "lit",.int 0,.int S.N])
  have s7:=e7
  refine⟨_,rfl,(szQ 0),fun p8 h8=>?_⟩
  have e8:=ad h8 (.tup [])
  have s8:=s7.trans e8
  refine⟨_,rfl,lw,_,_,_,rfl,rfl,SqL.of (s8 _ _ hw),(show atI (wl S.W) 5=some (.str (S.W 5)) from rfl),_,rfl,lw,_,_,_,rfl,rfl,SqL.of (s8 _ _ hw),(show atI (wl S.W) 6=some (.str (S.W 6)) from rfl),(szQ 3),fun p9 h9=>?_⟩
  have e9:=ad h9 (.tup [.str "name",.str (S.W 5),.str (S.W 6)])
  have s9:=s8.trans e9
  refine⟨_,rfl,lw,_,_,_,rfl,rfl,SqL.of (s9 _ _ hw),(show atI (wl S.W) 3=some (.str (S.W 3)) from rfl),(szQ 0),fun p10 h10=>?_⟩
  have e10:=ad h10 (.tup [])
  have s10:=s9.trans e10
  refine⟨(szQ 4),fun p11 h11=>?_⟩
  have e11:=ad h11 (.tup [.str "call",.str "",.str (S.W 3),.ref p10])
  have s11:=s10.trans e11
  refine⟨(szQ 5),fun p12 h12=>?_⟩
  have e12:=ad h12 (.tup [.str "fun",.str (S.W 14),.ref p8,.ref p9,.ref p11])
  have s12:=s11.trans e12
  refine⟨_,rfl,rfl,_,rfl,dZ ?_⟩
  refine⟨_,rfl,(szQ 0),fun p13 h13=>?_⟩
  have e13:=ad h13 (.tup [])
  have s13:=s12.trans e13
  refine⟨_,rfl,_,rfl,lw,_,_,_,rfl,rfl,SqL.of (s13 _ _ hw),(show atI (wl S.W) 3=some (.str (S.W 3)) from rfl),(szQ 0),fun p14 h14=>?_⟩
  have e14:=ad h14 (.tup [])
  have s14:=s13.trans e14
  refine⟨(szQ 4),fun p15 h15=>?_⟩
  have e15:=ad h15 (.tup [.str "call",.str "",.str (S.W 3),.ref p14])
  have s15:=s14.trans e15
  refine⟨(szQ 5),fun p16 h16=>?_⟩
  have e16:=ad h16 (.tup [.str "fun",.str (S.W 14),.ref p13,.ref p1,.ref p15])
  have s16:=s15.trans e16
  refine⟨_,rfl,lw,_,_,_,rfl,rfl,SqL.of (s16 _ _ hw),(show atI (wl S.W) 7=some (.str (S.W 7)) from rfl),(szQ 3),fun p17 h17=>?_⟩
  have e17:=ad h17 (.tup [.str "name",.str "",.str (S.W 7)])
  have s17:=s16.trans e17
  refine⟨_,rfl,lw,_,_,_,rfl,rfl,SqL.of (s17 _ _ hw),(show atI (wl S.W) 10=some (.str (S.W 10)) from rfl),_,rfl,(szQ 2),fun p18 h18=>?_⟩
  have e18:=ad h18 (.tup [.str "var",.str (S.W 9)])
  have s18:=s17.trans e18
  refine⟨(szQ 3),fun p19 h19=>?_⟩
  have e19:=ad h19 (.tup [.str "lit",.int 1,.int 2])
  have s19:=s18.trans e19
  refine⟨(szQ 2),fun p20 h20=>?_⟩
  have e20:=ad h20 (.tup [.ref p18,.ref p19])
  have s20:=s19.trans e20
  refine⟨(szQ 4),fun p21 h21=>?_⟩
  have e21:=ad h21 (.tup [.str "call",.str "",.str (S.W 10),.ref p20])
  have s21:=s20.trans e21
  refine⟨_,rfl,(szQ 0),fun p22 h22=>?_⟩
  have e22:=ad h22 (.tup [])
  have s22:=s21.trans e22
  refine⟨_,rfl,_,rfl,lw,_,_,_,rfl,rfl,SqL.of (s22 _ _ hw),(show atI (wl S.W) 3=some (.str (S.W 3)) from rfl),(szQ 0),fun p23 h23=>?_⟩
  have e23:=ad h23 (.tup [])
  have s23:=s22.trans e23
  refine⟨(szQ 4),fun p24 h24=>?_⟩
  have e24:=ad h24 (.tup [.str "call",.str "",.str (S.W 3),.ref p23])
  have s24:=s23.trans e24
  refine⟨(szQ 5),fun p25 h25=>?_⟩
  have e25:=ad h25 (.tup [.str "fun",.str (S.W 14),.ref p22,.ref p1,.ref p24])
  have s25:=s24.trans e25
  have t24:=e25
  have t23:=e24.trans t24
  have t22:=e23.trans t23
  have t21:=e22.trans t22
  have t20:=e21.trans t21
  have t19:=e20.trans t20
  have t18:=e19.trans t19
  have t17:=e18.trans t18
  have t16:=e17.trans t17
  have t15:=e16.trans t16
  have t14:=e15.trans t15
  have t13:=e14.trans t14
  have t12:=e13.trans t13
  have t11:=e12.trans t12
  have t10:=e11.trans t11
  have t9:=e10.trans t10
  have t8:=e9.trans t9
  have t7:=e8.trans t8
  obtain⟨en,ko,eb,io,ip⟩:=(by rintro _ rfl;exact⟨(.nd (f:=.lit (0) (S.N)) (xs:=[]) (t7 _ _ ac) .nil (fun _=>rfl)),(.name (SqT.of (t17 _ _ ac))),(.call (t21 _ _ ac) (t20 _ _ ac) (.cons (.var (t18 _ _ ac) (Nat.le_trans (hW.sm 9).2 (by decide))) (.cons (.nd (f:=.lit (1) (2)) (xs:=[]) (t19 _ _ ac) .nil (fun _=>rfl)) .nil)) ⟨dL,(hW.sm 10)⟩),(⟨p16,p13,.ref p1,.ref p15,[],rfl,SqT.of (t16 _ _ ac),SqT.of (t13 _ _ ac),.nil,(kh.same s25),(.call (t15 _ _ ac) (t14 _ _ ac) .nil ⟨dL,(hW.sm 3)⟩)⟩:d0 K (upd (upd (upd (upd (upd (upd (upd (upd (upd (upd (upd (upd (upd (upd (upd (upd (upd (upd (upd H1 p7 (.tup [.str "lit",.int 0,.int S.N])) p8 (.tup [])) p9 (.tup [.str "name",.str (S.W 5),.str (S.W 6)])) p10 (.tup [])) p11 (.tup [.str "call",.str "",.str (S.W 3),.ref p10])) p12 (.tup [.str "fun",.str (S.W 14),.ref p8,.ref p9,.ref p11])) p13 (.tup [])) p14 (.tup [])) p15 (.tup [.str "call",.str "",.str (S.W 3),.ref p14])) p16 (.tup [.str "fun",.str (S.W 14),.ref p13,.ref p1,.ref p15])) p17 (.tup [.str "name",.str "",.str (S.W 7)])) p18 (.tup [.str "var",.str (S.W 9)])) p19 (.tup [.str "lit",.int 1,.int 2])) p20 (.tup [.ref p18,.ref p19])) p21 (.tup [.str "call",.str "",.str (S.W 10),.ref p20])) p22 (.tup [])) p23 (.tup [])) p24 (.tup [.str "call",.str "",.str (S.W 3),.ref p23])) p25 (.tup [.str "fun",.str (S.W 14),.ref p22,.ref p1,.ref p24])) (.ref p16) (.fn (S.W 14) [] S.hid,.call "" (S.W 3) [])),⟨p25,p22,.ref p1,.ref p24,[],rfl,SqT.of ac,SqT.of (t22 _ _ ac),.nil,(kh.same s25),(.call (t24 _ _ ac) (t23 _ _ ac) .nil ⟨dL,(hW.sm 3)⟩)⟩⟩:∀ HH,HH=(upd (upd (upd (upd (upd (upd (upd (upd (upd (upd (upd (upd (upd (upd (upd (upd (upd (upd (upd H1 p7 (.tup [.str "lit",.int 0,.int S.N])) p8 (.tup [])) p9 (.tup [.str "name",.str (S.W 5),.str (S.W 6)])) p10 (.tup [])) p11 (.tup [.str "call",.str "",.str (S.W 3),.ref p10])) p12 (.tup [.str "fun",.str (S.W 14),.ref p8,.ref p9,.ref p11])) p13 (.tup [])) p14 (.tup [])) p15 (.tup [.str "call",.str "",.str (S.W 3),.ref p14])) p16 (.tup [.str "fun",.str (S.W 14),.ref p13,.ref p1,.ref p15])) p17 (.tup [.str "name",.str "",.str (S.W 7)])) p18 (.tup [.str "var",.str (S.W 9)])) p19 (.tup [.str "lit",.int 1,.int 2])) p20 (.tup [.ref p18,.ref p19])) p21 (.tup [.str "call",.str "",.str (S.W 10),.ref p20])) p22 (.tup [])) p23 (.tup [])) p24 (.tup [.str "call",.str "",.str (S.W 3),.ref p23])) p25 (.tup [.str "fun",.str (S.W 14),.ref p22,.ref p1,.ref p24]))→J53.ExAt HH (.ref p7) (.nd (.lit 0 S.N) [])∧bJ K HH (.ref p17) (.name "" (S.W 7))∧J53.ExAt HH (.ref p21) (.call "" (S.W 10) [.var (S.W 9),.nd (.lit 1 2) []])∧d0 K HH (.ref p16) (bd S 0 st 8)∧d0 K HH (.ref p25) (itT S .x)) _ rfl
  have hw:=s25 _ _ hw
  have hS:=s25.seq hS
  have kh:=kh.same s25
  have kb:=kb.same s25
  have sZ:=sZ.trans s25
  have hst:=s25 _ _ hst
  clear e7 s7 e8 s8 e9 s9 e10 s10 e11 s11 e12 s12 e13 s13 e14 s14 e15 s15 e16 s16 e17 s17 e18 s18 e19 s19 e20 s20 e21 s21 e22 s22 e23 s23 e24 s24 e25 s25 t7 t8 t9 t10 t11 t12 t13 t14 t15 t16 t17 t18 t19 t20 t21 t22 t23 t24
  generalize (upd (upd (upd (upd (upd (upd (upd (upd (upd (upd (upd (upd (upd (upd (upd (upd (upd (upd (upd H1 p7 (.tup [.str "lit",.int 0,.int S.N])) p8 (.tup [])) p9 (.tup [.str "name",.str (S.W 5),.str (S.W 6)])) p10 (.tup [])) p11 (.tup [.str "call",.str "",.str (S.W 3),.ref p10])) p12 (.tup [.str "fun",.str (S.W 14),.ref p8,.ref p9,.ref p11])) p13 (.tup [])) p14 (.tup [])) p15 (.tup [.str "call",.str "",.str (S.W 3),.ref p14])) p16 (.tup [.str "fun",.str (S.W 14),.ref p13,.ref p1,.ref p15])) p17 (.tup [.str "name",.str "",.str (S.W 7)])) p18 (.tup [.str "var",.str (S.W 9)])) p19 (.tup [.str "lit",.int 1,.int 2])) p20 (.tup [.ref p18,.ref p19])) p21 (.tup [.str "call",.str "",.str (S.W 10),.ref p20])) p22 (.tup [])) p23 (.tup [])) p24 (.tup [.str "call",.str "",.str (S.W 3),.ref p23])) p25 (.tup [.str "fun",.str (S.W 14),.ref p22,.ref p1,.ref p24]))=H2 at en ko eb io ip hw hS kh kb sZ hst ⊢
  clear h7 h8 h9 h10 h11 h12 h13 h14 h15 h16 h17 h18 h19 h20 h21 h22 h23 h24 h25
  have mf:MFx K sc lw S 0 st [some (V.ref sc),some (.ref lw),some (.int S.N),some (.int ((0:Nat):Int)),some (.str (S.W 8)),some (.str (S.W 9)),some (.str (S.W 14)),some (.ref p1),some (.ref p2),some (.ref ps),some (.ref p7),some (.ref p16),some (.ref p17),some (.ref p21),some (.ref p25)] H2:=⟨_,_,_,_,_,_,_,_,rfl,hw,kh,kb,hst,en,io,ko,eb,ip⟩
  refine⟨st,mf,fun x0 G0 g0 tr0=>?_⟩
  have mf0:=mf.same g0
  refine⟨st,mf0,fun x1 G1 g1 tr1=>?_⟩
  have mf1:=mf0.same g1
  refine⟨st,mf1,fun x2 G2 g2 tr2=>?_⟩
  have mf2:=mf1.same g2
  refine⟨st,mf2,fun x3 G3 g3 tr3=>?_⟩
  have mf3:=mf2.same g3
  refine⟨st,mf3,fun x4 G4 g4 tr4=>?_⟩
  have mf4:=mf3.same g4
  refine⟨st,mf4,fun x5 G5 g5 tr5=>?_⟩
  have mf5:=mf4.same g5
  refine⟨st,mf5,fun x6 G6 g6 tr6=>?_⟩
  have mf6:=mf5.same g6
  refine⟨st,mf6,fun x7 G7 g7 tr7=>?_⟩
  have mf7:=mf6.same g7
  refine⟨st,mf7,fun x8 G8 g8 tr8=>?_⟩
  have mf8:=mf7.same g8
  refine⟨st,mf8,fun x9 G9 g9 tr9=>?_⟩
  have mf9:=mf8.same g9
  refine⟨st,mf9,fun x10 G10 g10 tr10=>?_⟩
  have mf10:=mf9.same g10
  refine⟨st,mf10,fun x11 G11 g11 tr11=>?_⟩
  have c10:=g11.trans (aH.refl _)
  have c9:=g10.trans c10
  have c8:=g9.trans c9
  have c7:=g8.trans c8
  have c6:=g7.trans c7
  have c5:=g6.trans c6
  have c4:=g5.trans c5
  have c3:=g4.trans c4
  have c2:=g3.trans c3
  have c1:=g2.trans c2
  have c0:=g1.trans c1
  refine⟨(szQ 12),fun pL hL=>?_⟩
  have eL:=ad hL (.lst [x0,x1,x2,x3,x4,x5,x6,x7,x8,x9,x10,x11])
  have cL:=g0.trans (c0.trans eL)
  refine⟨_,rfl,sc,ns,8,12,rfl,cL.seq hS,h63,by decide,by decide,by decide,fun r r0 r1=>?_⟩
  obtain⟨v,x,hv,hat,htr⟩:∃v x,v < 12/\atI [x0,x1,x2,x3,x4,x5,x6,x7,x8,x9,x10,x11] r=some x/\uO K G11 x S 0 st v:=by
   have rs:r=0\/r=1\/r=2\/r=3\/r=4\/r=5\/r=6\/r=7\/r=8\/r=9\/r=10\/r=11:=by omega
   rcases rs with rfl|rfl|rfl|rfl|rfl|rfl|rfl|rfl|rfl|rfl|rfl|rfl
   ·exact⟨0,_,by decide,rfl,tr0.same c0⟩
   ·exact⟨1,_,by decide,rfl,tr1.same c1⟩
   ·exact⟨2,_,by decide,rfl,tr2.same c2⟩
   ·exact⟨3,_,by decide,rfl,tr3.same c3⟩
   ·exact⟨4,_,by decide,rfl,tr4.same c4⟩
   ·exact⟨5,_,by decide,rfl,tr5.same c5⟩
   ·exact⟨6,_,by decide,rfl,tr6.same c6⟩
   ·exact⟨7,_,by decide,rfl,tr7.same c7⟩
   ·exact⟨8,_,by decide,rfl,tr8.same c8⟩
   ·exact⟨9,_,by decide,rfl,tr9.same c9⟩
   ·exact⟨10,_,by decide,rfl,tr10.same c10⟩
   ·exact⟨11,_,by decide,rfl,tr11⟩
  refine⟨pL,_,_,_,rfl,rfl,SqL.of ac,hat,?_⟩
  exact q _ x st v (sZ.trans cL) hv (htr.same eL)
 ·refine⟨_,rfl,(szQ 3),fun p7 h7=>?_⟩
  have e7:=ad h7 (.tup [.str "lit",.int 0,.int S.N])
  have s7:=e7
  refine⟨_,rfl,(szQ 0),fun p8 h8=>?_⟩
  have e8:=ad h8 (.tup [])
  have s8:=s7.trans e8
  refine⟨_,rfl,lw,_,_,_,rfl,rfl,SqL.of (s8 _ _ hw),(show atI (wl S.W) 5=some (.str (S.W 5)) from rfl),_,rfl,lw,_,_,_,rfl,rfl,SqL.of (s8 _ _ hw),(show atI (wl S.W) 6=some (.str (S.W 6)) from rfl),(szQ 3),fun p9 h9=>?_⟩
  have e9:=ad h9 (.tup [.str "name",.str (S.W 5),.str (S.W 6)])
  have s9:=s8.trans e9
  refine⟨_,rfl,lw,_,_,_,rfl,rfl,SqL.of (s9 _ _ hw),(show atI (wl S.W) 3=some (.str (S.W 3)) from rfl),(szQ 0),fun p10 h10=>?_⟩
  have e10:=ad h10 (.tup [])
  have s10:=s9.trans e10
  refine⟨(szQ 4),fun p11 h11=>?_⟩
  have e11:=ad h11 (.tup [.str "call",.str "",.str (S.W 3),.ref p10])
  have s11:=s10.trans e11
  refine⟨(szQ 5),fun p12 h12=>?_⟩
  have e12:=ad h12 (.tup [.str "fun",.str (S.W 14),.ref p8,.ref p9,.ref p11])
  have s12:=s11.trans e12
  refine⟨_,rfl,rfl,_,rfl,ce ?_⟩
  refine⟨_,rfl,lw,_,_,_,rfl,rfl,SqL.of (s12 _ _ hw),(show atI (wl S.W) 7=some (.str (S.W 7)) from rfl),(szQ 3),fun p13 h13=>?_⟩
  have e13:=ad h13 (.tup [.str "name",.str "",.str (S.W 7)])
  have s13:=s12.trans e13
  refine⟨_,rfl,lw,_,_,_,rfl,rfl,SqL.of (s13 _ _ hw),(show atI (wl S.W) 10=some (.str (S.W 10)) from rfl),_,rfl,(szQ 2),fun p14 h14=>?_⟩
  have e14:=ad h14 (.tup [.str "var",.str (S.W 9)])
  have s14:=s13.trans e14
  refine⟨(szQ 3),fun p15 h15=>?_⟩
  have e15:=ad h15 (.tup [.str "lit",.int 1,.int 2])
  have s15:=s14.trans e15
  refine⟨(szQ 2),fun p16 h16=>?_⟩
  have e16:=ad h16 (.tup [.ref p14,.ref p15])
  have s16:=s15.trans e16
  refine⟨(szQ 4),fun p17 h17=>?_⟩
  have e17:=ad h17 (.tup [.str "call",.str "",.str (S.W 10),.ref p16])
  have s17:=s16.trans e17
  refine⟨_,rfl,(szQ 0),fun p18 h18=>?_⟩
  have e18:=ad h18 (.tup [])
  have s18:=s17.trans e18
  refine⟨_,rfl,_,rfl,lw,_,_,_,rfl,rfl,SqL.of (s18 _ _ hw),(show atI (wl S.W) 3=some (.str (S.W 3)) from rfl),(szQ 0),fun p19 h19=>?_⟩
  have e19:=ad h19 (.tup [])
  have s19:=s18.trans e19
  refine⟨(szQ 4),fun p20 h20=>?_⟩
  have e20:=ad h20 (.tup [.str "call",.str "",.str (S.W 3),.ref p19])
  have s20:=s19.trans e20
  refine⟨(szQ 5),fun p21 h21=>?_⟩
  have e21:=ad h21 (.tup [.str "fun",.str (S.W 14),.ref p18,.ref p1,.ref p20])
  have s21:=s20.trans e21
  have t20:=e21
  have t19:=e20.trans t20
  have t18:=e19.trans t19
  have t17:=e18.trans t18
  have t16:=e17.trans t17
  have t15:=e16.trans t16
  have t14:=e15.trans t15
  have t13:=e14.trans t14
  have t12:=e13.trans t13
  have t11:=e12.trans t12
  have t10:=e11.trans t11
  have t9:=e10.trans t10
  have t8:=e9.trans t9
  have t7:=e8.trans t8
  obtain⟨en,ko,eb,io,ip⟩:=(by rintro _ rfl;exact⟨(.nd (f:=.lit (0) (S.N)) (xs:=[]) (t7 _ _ ac) .nil (fun _=>rfl)),(.name (SqT.of (t13 _ _ ac))),(.call (t17 _ _ ac) (t16 _ _ ac) (.cons (.var (t14 _ _ ac) (Nat.le_trans (hW.sm 9).2 (by decide))) (.cons (.nd (f:=.lit (1) (2)) (xs:=[]) (t15 _ _ ac) .nil (fun _=>rfl)) .nil)) ⟨dL,(hW.sm 10)⟩),(⟨p12,p8,.ref p9,.ref p11,[],rfl,SqT.of (t12 _ _ ac),SqT.of (t8 _ _ ac),.nil,(.name (SqT.of (t9 _ _ ac))),(.call (t11 _ _ ac) (t10 _ _ ac) .nil ⟨dL,(hW.sm 3)⟩)⟩:d0 K (upd (upd (upd (upd (upd (upd (upd (upd (upd (upd (upd (upd (upd (upd (upd H1 p7 (.tup [.str "lit",.int 0,.int S.N])) p8 (.tup [])) p9 (.tup [.str "name",.str (S.W 5),.str (S.W 6)])) p10 (.tup [])) p11 (.tup [.str "call",.str "",.str (S.W 3),.ref p10])) p12 (.tup [.str "fun",.str (S.W 14),.ref p8,.ref p9,.ref p11])) p13 (.tup [.str "name",.str "",.str (S.W 7)])) p14 (.tup [.str "var",.str (S.W 9)])) p15 (.tup [.str "lit",.int 1,.int 2])) p16 (.tup [.ref p14,.ref p15])) p17 (.tup [.str "call",.str "",.str (S.W 10),.ref p16])) p18 (.tup [])) p19 (.tup [])) p20 (.tup [.str "call",.str "",.str (S.W 3),.ref p19])) p21 (.tup [.str "fun",.str (S.W 14),.ref p18,.ref p1,.ref p20])) (.ref p12) (.fn (S.W 14) [] S.own5,.call "" (S.W 3) [])),⟨p21,p18,.ref p1,.ref p20,[],rfl,SqT.of ac,SqT.of (t18 _ _ ac),.nil,(kh.same s21),(.call (t20 _ _ ac) (t19 _ _ ac) .nil ⟨dL,(hW.sm 3)⟩)⟩⟩:∀ HH,HH=(upd (upd (upd (upd (upd (upd (upd (upd (upd (upd (upd (upd (upd (upd (upd H1 p7 (.tup [.str "lit",.int 0,.int S.N])) p8 (.tup [])) p9 (.tup [.str "name",.str (S.W 5),.str (S.W 6)])) p10 (.tup [])) p11 (.tup [.str "call",.str "",.str (S.W 3),.ref p10])) p12 (.tup [.str "fun",.str (S.W 14),.ref p8,.ref p9,.ref p11])) p13 (.tup [.str "name",.str "",.str (S.W 7)])) p14 (.tup [.str "var",.str (S.W 9)])) p15 (.tup [.str "lit",.int 1,.int 2])) p16 (.tup [.ref p14,.ref p15])) p17 (.tup [.str "call",.str "",.str (S.W 10),.ref p16])) p18 (.tup [])) p19 (.tup [])) p20 (.tup [.str "call",.str "",.str (S.W 3),.ref p19])) p21 (.tup [.str "fun",.str (S.W 14),.ref p18,.ref p1,.ref p20]))→J53.ExAt HH (.ref p7) (.nd (.lit 0 S.N) [])∧bJ K HH (.ref p13) (.name "" (S.W 7))∧J53.ExAt HH (.ref p17) (.call "" (S.W 10) [.var (S.W 9),.nd (.lit 1 2) []])∧d0 K HH (.ref p12) (bd S 1 st 8)∧d0 K HH (.ref p21) (itT S .x)) _ rfl
  have hw:=s21 _ _ hw
  have hS:=s21.seq hS
  have kh:=kh.same s21
  have kb:=kb.same s21
  have sZ:=sZ.trans s21
  have hst:=s21 _ _ hst
  clear e7 s7 e8 s8 e9 s9 e10 s10 e11 s11 e12 s12 e13 s13 e14 s14 e15 s15 e16 s16 e17 s17 e18 s18 e19 s19 e20 s20 e21 s21 t7 t8 t9 t10 t11 t12 t13 t14 t15 t16 t17 t18 t19 t20
  generalize (upd (upd (upd (upd (upd (upd (upd (upd (upd (upd (upd (upd (upd (upd (upd H1 p7 (.tup [.str "lit",.int 0,.int S.N])) p8 (.tup [])) p9 (.tup [.str "name",.str (S.W 5),.str (S.W 6)])) p10 (.tup [])) p11 (.tup [.str "call",.str "",.str (S.W 3),.ref p10])) p12 (.tup [.str "fun",.str (S.W 14),.ref p8,.ref p9,.ref p11])) p13 (.tup [.str "name",.str "",.str (S.W 7)])) p14 (.tup [.str "var",.str (S.W 9)])) p15 (.tup [.str "lit",.int 1,.int 2])) p16 (.tup [.ref p14,.ref p15])) p17 (.tup [.str "call",.str "",.str (S.W 10),.ref p16])) p18 (.tup [])) p19 (.tup [])) p20 (.tup [.str "call",.str "",.str (S.W 3),.ref p19])) p21 (.tup [.str "fun",.str (S.W 14),.ref p18,.ref p1,.ref p20]))=H2 at en ko eb io ip hw hS kh kb sZ hst ⊢
  clear h7 h8 h9 h10 h11 h12 h13 h14 h15 h16 h17 h18 h19 h20 h21
  have mf:MFx K sc lw S 1 st [some (V.ref sc),some (.ref lw),some (.int S.N),some (.int ((1:Nat):Int)),some (.str (S.W 8)),some (.str (S.W 9)),some (.str (S.W 14)),some (.ref p1),some (.ref p2),some (.ref ps),some (.ref p7),some (.ref p12),some (.ref p13),some (.ref p17),some (.ref p21)] H2:=⟨_,_,_,_,_,_,_,_,rfl,hw,kh,kb,hst,en,io,ko,eb,ip⟩
  refine⟨st,mf,fun x0 G0 g0 tr0=>?_⟩
  have mf0:=mf.same g0
  refine⟨st,mf0,fun x1 G1 g1 tr1=>?_⟩
  have mf1:=mf0.same g1
  refine⟨st,mf1,fun x2 G2 g2 tr2=>?_⟩
  have mf2:=mf1.same g2
  refine⟨st,mf2,fun x3 G3 g3 tr3=>?_⟩
  have mf3:=mf2.same g3
  refine⟨st,mf3,fun x4 G4 g4 tr4=>?_⟩
  have mf4:=mf3.same g4
  refine⟨st,mf4,fun x5 G5 g5 tr5=>?_⟩
  have mf5:=mf4.same g5
  refine⟨st,mf5,fun x6 G6 g6 tr6=>?_⟩
  have mf6:=mf5.same g6
  refine⟨st,mf6,fun x7 G7 g7 tr7=>?_⟩
  have mf7:=mf6.same g7
  refine⟨st,mf7,fun x8 G8 g8 tr8=>?_⟩
  have mf8:=mf7.same g8
  refine⟨st,mf8,fun x9 G9 g9 tr9=>?_⟩
  have mf9:=mf8.same g9
  refine⟨st,mf9,fun x10 G10 g10 tr10=>?_⟩
  have mf10:=mf9.same g10
  refine⟨st,mf10,fun x11 G11 g11 tr11=>?_⟩
  have c10:=g11.trans (aH.refl _)
  have c9:=g10.trans c10
  have c8:=g9.trans c9
  have c7:=g8.trans c8
  have c6:=g7.trans c7
  have c5:=g6.trans c6
  have c4:=g5.trans c5
  have c3:=g4.trans c4
  have c2:=g3.trans c3
  have c1:=g2.trans c2
  have c0:=g1.trans c1
  refine⟨(szQ 12),fun pL hL=>?_⟩
  have eL:=ad hL (.lst [x0,x1,x2,x3,x4,x5,x6,x7,x8,x9,x10,x11])
  have cL:=g0.trans (c0.trans eL)
  refine⟨_,rfl,sc,ns,8,12,rfl,cL.seq hS,h63,by decide,by decide,by decide,fun r r0 r1=>?_⟩
  obtain⟨v,x,hv,hat,htr⟩:∃v x,v < 12/\atI [x0,x1,x2,x3,x4,x5,x6,x7,x8,x9,x10,x11] r=some x/\uO K G11 x S 1 st v:=by
   have rs:r=0\/r=1\/r=2\/r=3\/r=4\/r=5\/r=6\/r=7\/r=8\/r=9\/r=10\/r=11:=by omega
   rcases rs with rfl|rfl|rfl|rfl|rfl|rfl|rfl|rfl|rfl|rfl|rfl|rfl
   ·exact⟨0,_,by decide,rfl,tr0.same c0⟩
   ·exact⟨1,_,by decide,rfl,tr1.same c1⟩
   ·exact⟨2,_,by decide,rfl,tr2.same c2⟩
   ·exact⟨3,_,by decide,rfl,tr3.same c3⟩
   ·exact⟨4,_,by decide,rfl,tr4.same c4⟩
   ·exact⟨5,_,by decide,rfl,tr5.same c5⟩
   ·exact⟨6,_,by decide,rfl,tr6.same c6⟩
   ·exact⟨7,_,by decide,rfl,tr7.same c7⟩
   ·exact⟨8,_,by decide,rfl,tr8.same c8⟩
   ·exact⟨9,_,by decide,rfl,tr9.same c9⟩
   ·exact⟨10,_,by decide,rfl,tr10.same c10⟩
   ·exact⟨11,_,by decide,rfl,tr11⟩
  refine⟨pL,_,_,_,rfl,rfl,SqL.of ac,hat,?_⟩
  exact q _ x st v (sZ.trans cL) hv (htr.same eL)
end
def yj:V->PyData
 |.str z=>.str z
 |.int i=>.int i
 |_=>.none
mutual
def exD:Ex->PyData
 |.var s=>.tuple [.str "var",.str s]
 |.let_ s a b=>.tuple [.str "let",.str s,exD a,exD b]
 |.nd f es=>.tuple (f.vals.map yj++ua es)
 |.call q t es=>.tuple [.str "call",.str q,.str t,.tuple (ua es)]
def ua:List Ex->List PyData
 |[]=>[]
 |e::es=>exD e::ua es
end
theorem fq.app{K:W.Frag}{H:Hp}:∀{xs ys:List V} {ds es:List PyData},fq K H xs ds->fq K H ys es->fq K H (xs++ys) (ds++es)
 |_,_,_,_,.nil,h=>h
 |_,_,_,_,.cons a r,h=>.cons a (fq.app r h)
theorem vj{K:W.Frag}{H:Hp}(f:Fm):fq K H f.vals (f.vals.map yj):=by
 cases f
 ·exact .cons (.str _) (.cons (.int _) (.cons (.int _) .nil))
 ·exact .cons (.str _) (.cons (.str _) (.cons (.int _) .nil))
 ·exact .cons (.str _) (.cons (.str _) .nil)
 ·exact .cons (.str _) (.cons (.int _) .nil)
 ·exact .cons (.str _) .nil
 ·exact .cons (.str _) .nil
 ·exact .cons (.str _) .nil
 ·exact .cons (.str _) .nil
mutual
theorem m6{K:W.Frag}{H:Hp}:∀{x:V} {e:Ex},J53.ExAt H x e->Dat K H x (exD e)
 |_,_,.var h _=>by rw [exD];exact .tup (SqT.of h) (.cons (.str _) (.cons (.str _) .nil))
 |_,_,.let_ h a b=>by rw [exD];exact .tup (SqT.of h) (.cons (.str _) (.cons (.str _) (.cons (m6 a) (.cons (m6 b) .nil))))
 |_,_,.nd (f:=f) h r _=>by rw [exD];exact .tup (SqT.of h) (fq.app (vj f) (lM r))
 |_,_,.call h h2 r _=>by rw [exD];exact .tup (SqT.of h) (.cons (.str _) (.cons (.str _) (.cons (.str _) (.cons (.tup (SqT.of h2) (lM r)) .nil))))
theorem lM{K:W.Frag}{H:Hp}:∀{xs:List V} {es:List Ex},J53.ExsAt H xs es->fq K H xs (ua es)
 |_,_,.nil=>by rw [ua];exact .nil
 |_,_,.cons a r=>by rw [ua];exact .cons (m6 a) (lM r)
end
def psD(ps:List (Str × Kd)):PyData:=.tuple (ps.map fun q=>.tuple [.str q.1,J53.Kd.dat q.2])
def ieD:IE->PyData
 |(.fn z ps k,e)=>.tuple [.str "fun",.str z,psD ps,J53.Kd.dat k,exD e]
 |(.kind w k,_)=>.tuple [.str "kind",.str w,J53.Kd.dat k]
 |(.opn p,_)=>.tuple [.str "open",.str p]
theorem qd{K:W.Frag}{H:Hp}{xs:List V}{ps:List (Str × Kd)}(h:lJ K H xs ps):fq K H xs (ps.map fun q=>.tuple [.str q.1,J53.Kd.dat q.2]):=by
 induction h with
 |nil=>exact .nil
 |cons r _ ih =>
  obtain⟨p,y,rfl,h2,h3⟩:=r
  exact .cons (.tup h2 (.cons (.str _) (.cons (J53.kd_dat h3) .nil))) ih
theorem xo{K:W.Frag}{H:Hp}{v:V}:∀{i:IE},d0 K H v i->Dat K H v (ieD i)
 |(.fn _ _ _,_),h=>by
  obtain⟨p,ta,y,xe,xs,rfl,h1,h2,h3,h4,h5⟩:=h
  exact .tup h1 (.cons (.str _) (.cons (.str _) (.cons (.tup h2 (qd h3)) (.cons (J53.kd_dat h4) (.cons (m6 h5) .nil)))))
 |(.kind _ _,_),h=>by
  obtain⟨p,y,rfl,h1,h2⟩:=h
  exact .tup h1 (.cons (.str _) (.cons (.str _) (.cons (J53.kd_dat h2) .nil)))
 |(.opn _,_),h=>by
  obtain⟨p,rfl,h1⟩:=h
  exact .tup h1 (.cons (.str _) (.cons (.str _) .nil))
theorem qK{K:W.Frag}{H:Hp}{xs:List V}{is:List IE}(h:Paired (d0 K H) xs is):fq K H xs (is.map ieD):=by
 induction h with
 |nil=>exact .nil
 |cons r _ ih=>exact .cons (xo r) ih
theorem iq{k:Kd}:J53.Kd.ok k->PyData.canLay0 (J53.Kd.dat k)=true:=by
 induction k with
 |num n =>
  intro _
  have h:PyData.strOk "num"=true:=by decide +kernel
  simp [J53.Kd.dat,PyData.canLay0,PyData.canLayAll0,h]
 |name q t =>
  intro ⟨h1,h2⟩
  have h:PyData.strOk "name"=true:=by decide +kernel
  simp [J53.Kd.dat,PyData.canLay0,PyData.canLayAll0,h,h1.1,h2.1]
 |pair a b iha ihb =>
  intro ⟨h1,h2⟩
  have h:PyData.strOk "pair"=true:=by decide +kernel
  simp [J53.Kd.dat,PyData.canLay0,PyData.canLayAll0,h,iha h1,ihb h2]
theorem wc{S:Sc}(hW:WOk S.W)(ho:PyData.strOk S.o=true)(t:Tg):PyData.canLay0 (ieD (itT S t))=true:=by
 have hn:PyData.strOk ""=true:=by decide +kernel
 have c1:PyData.strOk "var"=true:=by decide +kernel
 have c2:PyData.strOk "lit"=true:=by decide +kernel
 have c3:PyData.strOk "call"=true:=by decide +kernel
 have c4:PyData.strOk "fun"=true:=by decide +kernel
 have c5:PyData.strOk "kind"=true:=by decide +kernel
 have c6:PyData.strOk "open"=true:=by decide +kernel
 have c7:PyData.strOk "if"=true:=by decide +kernel
 have c8:PyData.strOk "two"=true:=by decide +kernel
 have c9:PyData.strOk "first"=true:=by decide +kernel
 have c10:PyData.strOk "second"=true:=by decide +kernel
 have c11:PyData.strOk "as"=true:=by decide +kernel
 have c12:PyData.strOk "op"=true:=by decide +kernel
 have hs:∀i,PyData.strOk (S.W i)=true:=fun i=>(hW.sm i).1
 have kn:∀i j,PyData.canLay0 (J53.Kd.dat (.name (S.W i) (S.W j)))=true:=fun i j=>iq ⟨hW.sm i,hW.sm j⟩
 have ko:PyData.canLay0 (J53.Kd.dat S.ow)=true:=iq ⟨dL,hW.sm 7⟩
 have k0:∀j,PyData.canLay0 (J53.Kd.dat (.name "" (S.W j)))=true:=fun j=>iq ⟨dL,hW.sm j⟩
 have k2:∀n,PyData.canLay0 (J53.Kd.dat (.num n))=true:=fun n=>iq trivial
 have kK:PyData.canLay0 (J53.Kd.dat S.K0)=true:=by
  refine iq ?_
  unfold Sc.K0
  split
  ·trivial
  ·exact⟨hW.sm 0,hW.sm 2⟩
  ·exact⟨⟨hW.sm 0,hW.sm 1⟩,trivial⟩
  ·exact⟨hW.sm 0,hW.sm 1⟩
 have tk:PyData.canLay0 (exD S.taken)=true:=by
  unfold Sc.taken
  split<;>simp [exD,ua,Fm.vals,yj,PyData.canLay0,PyData.canLayAll0,hs,ho,c1,c2,c8,c9,c10,c11,c12]
 cases t<;>simp [itT,ieD,psD,exD,ua,Fm.vals,yj,PyData.canLay0,PyData.canLayAll0,hs,hn,c1,c2,c3,c4,c5,c6,c7,kn,ko,k0,k2,kK,tk]
theorem lX{S:Sc}(hW:WOk S.W)(ho:PyData.strOk S.o=true):∀ts:List Tg,PyData.canLayAll0 ((ts.map (itT S)).map ieD)=true
 |[]=>by simp [PyData.canLayAll0]
 |t::ts=>by
  rw [List.map_cons,List.map_cons,PyData.canLayAll0,wc hW ho t,lX hW ho ts]
  rfl
theorem gP{S:Sc}(t:Tg):PyData.eqv (ieD (itT S t)) (.tuple [.str "open",.str (S.W 0)])=decide (t=.o):=by
 have e1:(("fun":Str)="open")=False:=by decide +kernel
 have e2:(("kind":Str)="open")=False:=by decide +kernel
 cases t<;>simp [itT,ieD,J53.eqv_tup,J53.eqvA_cons,J53.eqvA_nil,J53.eqv_str,e1,e2]
theorem uj:∀j < 3,∃e,(bsT 1 j)[idx j]?=some e/\e=.o:=by decide
theorem qm:∀j < 3,∀i < idx j,∀e,(bsT 1 j)[i]?=some e->e≠.o:=by
 intro j hj i hi e he
 have:j=0\/j=1\/j=2:=by omega
 rcases this with rfl|rfl|rfl
 ·exact absurd hi (by show ¬i < 0;omega)
 ·obtain rfl:i=0:=by have:i < 1:=hi;omega
  cases he;decide
 ·have:i=0\/i=1\/i=2\/i=3:=by have:i < 4:=hi;omega
  rcases this with rfl|rfl|rfl|rfl<;>· cases he;decide
theorem wJ{xs:List V}{n:Nat}(h:n<=xs.length):nE xs none (some (n:Int))=xs.take n:=by
 unfold nE
 rw [HT.sIx_none,HT.sIx_nat,List.drop_zero,Nat.sub_zero,Nat.min_eq_left h]
theorem xD{xs:List V}{n:Nat}(h:n<=xs.length):nE xs (some (n:Int)) none=xs.drop n:=by
 unfold nE
 rw [HT.sIx_none,HT.sIx_nat,Nat.min_eq_left h]
 exact List.take_of_length_le (by rw [List.length_drop];omega)
theorem oU{α β:Type}{R:α->β->Prop}:∀{xs:List α} {ys:List β} (n:Nat),Paired R xs ys->Paired R (xs.take n) (ys.take n)
 |_,_,0,_=>.nil
 |_,_,_+1,.nil=>.nil
 |_,_,n+1,.cons r t=>.cons r (oU n t)
theorem rT{α β:Type}{R:α->β->Prop}:∀{xs:List α} {ys:List β} (n:Nat),Paired R xs ys->Paired R (xs.drop n) (ys.drop n)
 |_,_,0,h=>h
 |_,_,_+1,.nil=>.nil
 |_,_,n+1,.cons _ t=>rT n t
theorem um{α β:Type}{R:α->β->Prop}:∀{xs xs':List α} {ys ys':List β},Paired R xs ys->Paired R xs' ys'->Paired R (xs++xs') (ys++ys')
 |_,_,_,_,.nil,h=>h
 |_,_,_,_,.cons r t,h=>.cons r (um t h)
theorem qD{α β:Type}{R:α->β->Prop}:∀{xs:List α} {ys:List β},Paired R xs ys->xs.length=ys.length
 |_,_,.nil=>rfl
 |_,_,.cons _ t=>congrArg (·+1) (qD t)
theorem xg{α β:Type}{R:α->β->Prop}{xs:List α}{ys:List β}{x:α}{y:β}(n:Nat)(h:Paired R xs ys)(r:R x y):Paired R (xs.take n++[x]++xs.drop n) (ys.take n++y::ys.drop n):=by
 rw [List.append_assoc]
 exact um (oU n h) (.cons r (rT n h))
theorem xI{α β:Type}{R:α->β->Prop}{xs:List α}{a b:β}{r:List β}(h:Paired R xs (a::b::r)):∃x y r',xs=x::y::r'/\R x a/\R y b:=by
 cases h with
 |cons p t =>
  cases t with
  |cons p2 t2=>exact⟨_,_,_,rfl,p,p2⟩
theorem mQ:∀mode < 2,∀j < 3,5<=(bsT mode j).length/\(bsT mode j).length<=6:=by decide
def tgS:Tg->Str
 |.k=>"kind"
 |.o=>"open"
 |_=>"fun"
theorem mJ{K:W.Frag}{H:Hp}{v:V}{S:Sc}{t:Tg}(h:d0 K H v (itT S t)):∃p r,v=.ref p/\SqT K H p (.str (tgS t)::r):=by
 cases t
 case k=>obtain⟨p,y,e,h1,_⟩:=h;exact⟨p,_,e,h1⟩
 case o=>obtain⟨p,e,h1⟩:=h;exact⟨p,_,e,h1⟩
 all_goals obtain⟨p,ta,y,xe,xs,e,h1,_⟩:=h;exact⟨p,_,e,h1⟩
theorem ny{S:Sc}(hW:WOk S.W):PyData.canLay0 (.tuple [.str "open",.str (S.W 0)])=true:=by
 have h:PyData.strOk "open"=true:=by decide +kernel
 simp [PyData.canLay0,PyData.canLayAll0,h,(hW.sm 0).1]
theorem yS:∀mode < 2,∀j < 3,∃r,bsT mode j=(if mode=1/\j=0 then .o else .k)::(if mode=0 then .f1 else if j=0 then .k else if j=1 then .o else .f1)::r:=by
 intro mode hm j hj
 have h1:mode=0\/mode=1:=by omega
 have h2:j=0\/j=1\/j=2:=by omega
 rcases h1 with rfl|rfl<;>rcases h2 with rfl|rfl|rfl<;>exact⟨_,rfl⟩
abbrev sbN:List Str:=["_law_script","_law_words","_law_items_here","_law_size_here","_law_mode","_law_fun","_law_due","_law_place","_law_at"]
abbrev sbP:List Str:=["_law_script","_law_words","_law_items_here","_law_size_here","_law_mode"]
def iG(K:W.Frag):Sp:=fun vs H Q _=>∃(sc lw l:Addr) (ns:List Int) (S:Sc) (mode j:Nat) (xs:List V),vs=[.ref sc,.ref lw,.ref l,.int S.N,.int (mode:Int)]/\mode < 2/\j < 3/\PyData.strOk S.o=true/\SqL K H sc (ns.map V.int)/\ns.length<=63/\H lw=some (.lst (wl S.W))/\WOk S.W/\H l=some (.lst xs)/\Paired (d0 K H) xs ((bsT mode j).map (itT S)) /\
 ∀(H':Hp) (p l2:Addr) (ys:List V) (v st at':Nat),aH H H'->H' p=some (.tup [.ref l2,.str (fL (km mode v))])->H' l2=some (.lst ys)->v < 12->at' < 7->vX mode j v at'=true ->
  Paired (d0 K H') ys (((bsT mode j).take at').map (itT S)++bd S mode st v::((bsT mode j).drop at').map (itT S))->Q (.ref p) H'
section
variable{P:Program}{w:World}{K:W.Frag}{mg:Str->Option Value}{base0:Heap}
theorem cQ:aJ sbN sbP (aj dC):=⟨rfl,rfl,rfl,by decide +kernel,rfl,by decide +kernel,by decide +kernel⟩
theorem nV{f fP fM:Addr}{fd fdP fdM:FuncData} (F:Fun K "_law_spoilt" "_law_spoilt" dC f fd) (ml:mg "len"=none) (mi:mg "int"=none)
  (GP:aV P w K mg base0 CX0 2 fP fdP ["_law_script","_law_k","_law_many"] (J53.spPick K)) (bP:aL K fdP ["_law_script","_law_k","_law_many"] []) (kP:W.keepIn K (.ref fP)=true) (mP:mg "_law_pick"=some (.ref fP))
  (GM:aV P w K mg base0 CX0 3 fM fdM moP (qp K)) (bM:aL K fdM moP []) (kM:W.keepIn K (.ref fM)=true) (mM:mg "_law_more"=some (.ref fM)) :
  aV P w K mg base0 CX0 4 f fd sbP (iG K):=by
 refine F.ok cQ (fun vs H Q E h=>?_) (fun cdv A outer s H vs Q E hrM h=>?_)
 ·obtain⟨_,_,_,_,_,_,_,_,rfl,_⟩:=h
  rfl
 obtain⟨sc,lw,l,ns,S,mode,j,xs,rfl,hmd,hj,hso,hS,h63,hw,hW,hl,hP,q⟩:=h
 have hr2:=hrM.mono (show 2<=3 by decide)
 have hu64:=gf hrM
 have hlen:=qD hP
 rw [List.length_map] at hlen
 obtain⟨l5,l6⟩:=mQ mode hmd j hj
 obtain⟨t5,d5,k5⟩:∃t,PSs (dI CX0 P w K mg base0 ["_law_script","_law_words","_law_items_here","_law_size_here","_law_mode","_law_fun","_law_due","_law_place","_law_at"] "_law_spoilt" (aj dC) f cdv A outer s H E).nox (List.drop 5 (aw dC)) t /\
   ∀(H1:Hp) (xi:V) (v st at':Nat) (z pc:Int),aH H H1->d0 K H1 xi (bd S mode st v)->v < 12->at' < 7->vX mode j v at'=true->at'<=(bsT mode j).length->z=(at':Int) ->
    t { nx:=fun _ H'=>Q .non H',rt:=Q } [some (.ref sc),some (.ref lw),some (.ref l),some (.int S.N),some (.int (mode:Int)),some xi,some (.str (fL (km mode v))),some (.int pc),some (.int z)] H1:=by
  refine⟨_,@ao _ _ _ (@aM _ _ _ _ (@ak _ _ _ _ _ (@aa _ _ _ _ _ (bt ub (bt ub (jy qb (pv 2) lF (lK (pv 8))) (dq (@aa _ _ _ _ _ (pv 5) ae rfl))) (jy qb (pv 2) (lK (pv 8)) lF)) (@aa _ _ _ _ _ (pv 6) ae rfl) rfl))),?_⟩
  rintro H1 xi v st at' z pc s1 hx hv ha hok hle rfl
  have hl1:=s1 _ _ hl
  refine⟨_,rfl,_,rfl,_,rfl,l,_,rfl,SqL.of hl1,fun p1 h1=>?_⟩
  rw [wJ (by omega)]
  have e1:=ad h1 (.lst (xs.take at'))
  refine⟨_,rfl,(szQ 1),fun p2 h2=>?_⟩
  have e2:=ad h2 (.lst [xi])
  refine⟨p1,p2,_,_,rfl,rfl,e2 _ _ ac,ac,(by rw [List.length_take];exact Nat.le_trans (show min at' xs.length+1<=10 by omega) (by decide)),fun p3 h3=>?_⟩
  have e3:=ad h3 (.lst (xs.take at'++[xi]))
  have s3:=e1.trans (e2.trans e3)
  refine⟨_,rfl,_,rfl,_,rfl,l,_,rfl,SqL.of (s3 _ _ hl1),fun p4 h4=>?_⟩
  rw [xD (by omega)]
  have e4:=ad h4 (.lst (xs.drop at'))
  refine⟨p3,p4,_,_,rfl,rfl,e4 _ _ ac,ac,(by rw [List.length_append,List.length_take,List.length_drop];exact Nat.le_trans (show min at' xs.length+1+(xs.length - at')<=20 by omega) (by decide)),fun p5 h5=>?_⟩
  have e5:=ad h5 (.lst (xs.take at'++[xi]++xs.drop at'))
  refine⟨_,rfl,(szQ 2),fun p6 h6=>?_⟩
  have e6:=ad h6 (.tup [.ref p5,.str (fL (km mode v))])
  have s6:=s3.trans (e4.trans (e5.trans e6))
  refine q _ p6 p5 _ v st at' (s1.trans s6) ac (e6 _ _ ac) hv ha hok ?_
  have hP6:=xg at' (Paired.mapP hP fun _ _ t=>t.same (s1.trans s6)) (hx.same s6)
  rw [<-List.map_take,<-List.map_drop] at hP6
  exact hP6
 refine⟨_,@ah _ _ _ _ _ (jh (au GM hrM rfl mM kM bM .nil bQ (@aa _ _ _ _ _ (pv 0) (@aa _ _ _ _ _ (pv 1) (@aa _ _ _ _ _ (pv 3) (@aa _ _ _ _ _ (pv 4) ae rfl) rfl) rfl) rfl)) (eT rfl (aU (aY (i:=5) cQ.nd rfl (Or.inl rfl)) (aU (aY (i:=6) cQ.nd rfl (Or.inl rfl)) (aU (aY (i:=7) cQ.nd rfl (Or.inl rfl)) dG))))) (@ah _ _ _ _ _ (ay (i:=8) cQ.nd rfl (Or.inl rfl) (bt fK ag (au GP hr2 rfl mP kP bP .nil bQ (@aa _ _ _ _ _ (pv 0) (@aa _ _ _ _ _ ag (@aa _ _ _ _ _ (bU aR rfl ml boot_len (@aa _ _ _ _ _ (pv 2) ae rfl)) ae rfl) rfl) rfl)))) (@ah _ _ _ _ _ (bc (aB bu (pv 7) ag (aE _)) (@ao _ _ _ (ay (i:=8) cQ.nd rfl (Or.inl rfl) (bt fK ag (cw rG rfl mi uT (@aa _ _ _ _ _ (yQ (cH bu (aq aG (aq ap (pv 2) ag (fun _ _=>rfl)) ag (fun _ _=>rfl)) ai (aE _)) (rg (cH bu (aq aG (aq ap (pv 2) ag (fun _ _=>rfl)) ag (fun _ _=>rfl)) ai (aE _)))) ae rfl))))) aI) (@ah _ _ _ _ _ (bc (aB bu (pv 7) ag (aE _)) (@ao _ _ _ (ay (i:=8) cQ.nd rfl (Or.inl rfl) (bU aR rfl ml boot_len (@aa _ _ _ _ _ (pv 2) ae rfl)))) aI) (@ah _ _ _ _ _ (bc (PW.pt (t0 (aB mh (pv 7) ag (aE _)) (qw (aB bu (pv 4) ag (aE _))))) (@ao _ _ _ (ay (i:=8) cQ.nd rfl (Or.inl rfl) (bt qQ (bt fK (eQ PySem.F.plainAttrs_list PySem.F.slot_list_index PySem.F.type_list_index (oQ hu64) (pv 2) (@aa _ _ _ _ _ (@ak _ _ _ _ _ (@aa _ _ _ _ _ ai (@aa _ _ _ _ _ (aq ap (pv 1) ag (fun _ _=>rfl)) ae rfl) rfl)) ae rfl)) (pv 7)) ag))) aI) d5)))),?_⟩
 refine⟨_,rfl,_,rfl,_,rfl,_,rfl,sc,lw,ns,S,mode,rfl,hmd,hS,h63,hw,hW,fun H1 x st v s1 hv ht=>?_⟩
 obtain⟨p,xi,rfl,hp,hx⟩:=ht
 have hl1:=s1 _ _ hl
 have hP1:=Paired.mapP hP fun _ _ t=>t.same s1
 by_cases v1:v=1
 ·subst v1
  obtain⟨r0,hb⟩:=yS mode hmd j hj
  rw [hb,List.map_cons,List.map_cons] at hP1
  obtain⟨x0,x1,xr,rfl,q0,q1⟩:=xI hP1
  obtain⟨p0,y0,rfl,g0⟩:=mJ q0
  obtain⟨p1,y1,rfl,g1⟩:=mJ q1
  refine⟨p,_,rfl,SqT.of hp,rfl,_,_,rfl,_,_,rfl,_,_,rfl,rfl,?_⟩
  refine⟨_,rfl,_,rfl,l,_,rfl,.inl (SqL.of hl1),sc,ns,9,_,rfl,s1.seq hS,h63,by decide,by decide,by omega,fun r r0' r1=>?_⟩
  obtain⟨a,rfl⟩:=Int.eq_ofNat_of_zero_le r0'
  refine⟨_,_,rfl,rfl,?_⟩
  refine⟨_,rfl,rfl,_,rfl,dZ ?_⟩
  have h1:mode=0\/mode=1:=by omega
  have h2:j=0\/j=1\/j=2:=by omega
  have fin:∀(at':Nat),vX mode j 1 at'=true->at' < 3->3<=(bsT mode j).length->at' < 7/\at'<=(bsT mode j).length:=fun at' _ h h'=>⟨by omega,by omega⟩
  have l3:3<=(bsT mode j).length:=by omega
  clear hb q0 q1 hP1
  rcases h1 with rfl|rfl<;>rcases h2 with rfl|rfl|rfl
  ·refine⟨_,rfl,l,_,_,_,rfl,rfl,SqL.of hl1,J53.at0,p0,_,_,_,rfl,rfl,g0,J53.at0,rfl,_,rfl,J53.no_s (by decide +kernel) ?_⟩
   refine⟨_,rfl,l,_,_,_,rfl,rfl,SqL.of hl1,J53.at1,p1,_,_,_,rfl,rfl,g1,J53.at0,rfl,.inr ⟨_,rfl,_,_,rfl,rfl,?_⟩⟩
   refine⟨_,rfl,rfl,_,rfl,ce ?_⟩
   refine⟨_,rfl,_,_,rfl,rfl,_,rfl,ce ?_⟩
   exact k5 H1 xi 1 st 1 _ _ s1 hx hv (by decide) (by decide) (by decide) (by decide +kernel)
  ·refine⟨_,rfl,l,_,_,_,rfl,rfl,SqL.of hl1,J53.at0,p0,_,_,_,rfl,rfl,g0,J53.at0,rfl,_,rfl,J53.no_s (by decide +kernel) ?_⟩
   refine⟨_,rfl,l,_,_,_,rfl,rfl,SqL.of hl1,J53.at1,p1,_,_,_,rfl,rfl,g1,J53.at0,rfl,.inr ⟨_,rfl,_,_,rfl,rfl,?_⟩⟩
   refine⟨_,rfl,rfl,_,rfl,ce ?_⟩
   refine⟨_,rfl,_,_,rfl,rfl,_,rfl,ce ?_⟩
   exact k5 H1 xi 1 st 1 _ _ s1 hx hv (by decide) (by decide) (by decide) (by decide +kernel)
  ·refine⟨_,rfl,l,_,_,_,rfl,rfl,SqL.of hl1,J53.at0,p0,_,_,_,rfl,rfl,g0,J53.at0,rfl,_,rfl,J53.no_s (by decide +kernel) ?_⟩
   refine⟨_,rfl,l,_,_,_,rfl,rfl,SqL.of hl1,J53.at1,p1,_,_,_,rfl,rfl,g1,J53.at0,rfl,.inr ⟨_,rfl,_,_,rfl,rfl,?_⟩⟩
   refine⟨_,rfl,rfl,_,rfl,ce ?_⟩
   refine⟨_,rfl,_,_,rfl,rfl,_,rfl,ce ?_⟩
   exact k5 H1 xi 1 st 1 _ _ s1 hx hv (by decide) (by decide) (by decide) (by decide +kernel)
  ·refine⟨_,rfl,l,_,_,_,rfl,rfl,SqL.of hl1,J53.at0,p0,_,_,_,rfl,rfl,g0,J53.at0,rfl,_,rfl,J53.yes_s ?_⟩
   refine .inr ⟨_,rfl,_,_,rfl,rfl,?_⟩
   refine⟨_,rfl,rfl,_,rfl,ce ?_⟩
   refine⟨_,rfl,_,_,rfl,rfl,_,rfl,ce ?_⟩
   exact k5 H1 xi 1 st 2 _ _ s1 hx hv (by decide) (by decide) (by decide) (by decide +kernel)
  ·refine⟨_,rfl,l,_,_,_,rfl,rfl,SqL.of hl1,J53.at0,p0,_,_,_,rfl,rfl,g0,J53.at0,rfl,_,rfl,J53.no_s (by decide +kernel) ?_⟩
   refine⟨_,rfl,l,_,_,_,rfl,rfl,SqL.of hl1,J53.at1,p1,_,_,_,rfl,rfl,g1,J53.at0,rfl,.inr ⟨_,rfl,_,_,rfl,rfl,?_⟩⟩
   refine⟨_,rfl,rfl,_,rfl,ce ?_⟩
   refine⟨_,rfl,_,_,rfl,rfl,_,rfl,ce ?_⟩
   exact k5 H1 xi 1 st 2 _ _ s1 hx hv (by decide) (by decide) (by decide) (by decide +kernel)
  ·refine⟨_,rfl,l,_,_,_,rfl,rfl,SqL.of hl1,J53.at0,p0,_,_,_,rfl,rfl,g0,J53.at0,rfl,_,rfl,J53.no_s (by decide +kernel) ?_⟩
   refine⟨_,rfl,l,_,_,_,rfl,rfl,SqL.of hl1,J53.at1,p1,_,_,_,rfl,rfl,g1,J53.at0,rfl,.inr ⟨_,rfl,_,_,rfl,rfl,?_⟩⟩
   refine⟨_,rfl,rfl,_,rfl,ce ?_⟩
   refine⟨_,rfl,_,_,rfl,rfl,_,rfl,ce ?_⟩
   exact k5 H1 xi 1 st 1 _ _ s1 hx hv (by decide) (by decide) (by decide) (by decide +kernel)
 by_cases v8:v=8
 ·subst v8
  refine⟨p,_,rfl,SqT.of hp,rfl,_,_,rfl,_,_,rfl,_,_,rfl,rfl,?_⟩
  refine⟨_,rfl,_,rfl,l,_,rfl,.inl (SqL.of hl1),sc,ns,9,_,rfl,s1.seq hS,h63,by decide,by decide,by omega,fun r r0 r1=>?_⟩
  obtain⟨a,rfl⟩:=Int.eq_ofNat_of_zero_le r0
  refine⟨_,_,rfl,rfl,?_⟩
  refine⟨_,rfl,rfl,_,rfl,ce ?_⟩
  refine⟨_,rfl,rfl,_,rfl,dZ ?_⟩
  refine⟨_,rfl,l,_,rfl,.inl (SqL.of hl1),?_⟩
  refine⟨_,rfl,_,_,rfl,rfl,_,rfl,ce ?_⟩
  exact k5 H1 xi 8 st xs.length _ _ s1 hx hv (by omega) (by show(xs.length==(bsT mode j).length)=true;rw [hlen];exact beq_self_eq_true _) (by omega) rfl
 by_cases v10:10<=v
 ·have h1:mode=0\/mode=1:=by omega
  have hv2:v=10\/v=11:=by omega
  rcases h1 with rfl|rfl
  ·rcases hv2 with rfl|rfl
   ·refine⟨p,_,rfl,SqT.of hp,rfl,_,_,rfl,_,_,rfl,_,_,rfl,rfl,?_⟩
    refine⟨_,rfl,_,rfl,l,_,rfl,.inl (SqL.of hl1),sc,ns,9,_,rfl,s1.seq hS,h63,by decide,by decide,by omega,fun r r0 r1=>?_⟩
    obtain⟨a,rfl⟩:=Int.eq_ofNat_of_zero_le r0
    refine⟨_,_,rfl,rfl,?_⟩
    refine⟨_,rfl,rfl,_,rfl,ce ?_⟩
    refine⟨_,rfl,rfl,_,rfl,ce ?_⟩
    refine⟨_,rfl,_,_,rfl,rfl,_,rfl,dZ ?_⟩
    refine⟨_,rfl,rfl,_,rfl,ce ?_⟩
    refine k5 H1 xi _ st (1+a) _ _ s1 hx hv (by omega) ?_ (by omega) (by omega)
    show(decide (1<=1+a)&&decide (1+a<=(bsT 0 j).length))=true
    simp only [Bool.and_eq_true,decide_eq_true_eq]
    omega
   ·refine⟨p,_,rfl,SqT.of hp,rfl,_,_,rfl,_,_,rfl,_,_,rfl,rfl,?_⟩
    refine⟨_,rfl,_,rfl,l,_,rfl,.inl (SqL.of hl1),sc,ns,9,_,rfl,s1.seq hS,h63,by decide,by decide,by omega,fun r r0 r1=>?_⟩
    obtain⟨a,rfl⟩:=Int.eq_ofNat_of_zero_le r0
    refine⟨_,_,rfl,rfl,?_⟩
    refine⟨_,rfl,rfl,_,rfl,ce ?_⟩
    refine⟨_,rfl,rfl,_,rfl,ce ?_⟩
    refine⟨_,rfl,_,_,rfl,rfl,_,rfl,dZ ?_⟩
    refine⟨_,rfl,rfl,_,rfl,ce ?_⟩
    refine k5 H1 xi _ st (1+a) _ _ s1 hx hv (by omega) ?_ (by omega) (by omega)
    show(decide (1<=1+a)&&decide (1+a<=(bsT 0 j).length))=true
    simp only [Bool.and_eq_true,decide_eq_true_eq]
    omega
  ·rcases hv2 with rfl|rfl
   ·refine⟨p,_,rfl,SqT.of hp,rfl,_,_,rfl,_,_,rfl,_,_,rfl,rfl,?_⟩
    refine⟨_,rfl,_,rfl,l,_,rfl,.inl (SqL.of hl1),sc,ns,9,_,rfl,s1.seq hS,h63,by decide,by decide,by omega,fun r r0 r1=>?_⟩
    obtain⟨a,rfl⟩:=Int.eq_ofNat_of_zero_le r0
    refine⟨_,_,rfl,rfl,?_⟩
    refine⟨_,rfl,rfl,_,rfl,ce ?_⟩
    refine⟨_,rfl,rfl,_,rfl,ce ?_⟩
    refine⟨_,rfl,_,_,rfl,rfl,_,rfl,dZ ?_⟩
    refine⟨_,rfl,rfl,_,rfl,dZ ?_⟩
    refine⟨_,rfl,.inl ⟨rfl,_,SqL.of hl1⟩,_,rfl,lw,_,_,_,rfl,rfl,SqL.of (s1 _ _ hw),(show atI (wl S.W) 0=some (.str (S.W 0)) from rfl),(szQ 2),fun pt ht=>?_⟩
    have et:=ad ht (.tup [.str "open",.str (S.W 0)])
    obtain⟨eo,ge,rfl⟩:=uj j hj
    refine⟨l,_,xs,_,_,idx j,rfl,rfl,SqL.of (et _ _ hl1),by omega,qK (Paired.mapP hP1 fun _ _ t=>t.same et),.tup (SqT.of ac) (.cons (.str _) (.cons (.str _) .nil)),lX hW hso _,ny hW,(by simp [PyData.depth,PyData.depthAll]),⟨_,(by rw [List.getElem?_map,List.getElem?_map,ge];rfl),(by rw [gP];rfl)⟩,(fun i e hi he=>?_),?_⟩
    ·rw [List.getElem?_map,List.getElem?_map] at he
     cases hg:(bsT 1 j)[i]? with
     |none=>rw [hg] at he;cases he
     |some t' =>
      rw [hg] at he
      obtain rfl:=Option.some.inj he
      show PyData.eqv (ieD (itT S t')) _=false
      rw [gP]
      exact decide_eq_false (qm j hj i hi t' hg)
    ·refine⟨_,rfl,_,_,rfl,rfl,_,_,rfl,rfl,?_⟩
     have hij:idx j<=4:=by
      have:j=0\/j=1\/j=2:=by omega
      rcases this with rfl|rfl|rfl<;>decide
     have h6:(bsT 1 j).length=6:=by
      have:j=0\/j=1\/j=2:=by omega
      rcases this with rfl|rfl|rfl<;>rfl
     exact k5 _ xi _ st (idx j+0) _ _ (s1.trans et) (hx.same et) hv (by omega) (by show(idx j+0==idx j+0)=true;exact beq_self_eq_true _) (by omega) (by show((idx j:Nat):Int)+((3+0:Nat):Int) - 3=_;omega)
   ·refine⟨p,_,rfl,SqT.of hp,rfl,_,_,rfl,_,_,rfl,_,_,rfl,rfl,?_⟩
    refine⟨_,rfl,_,rfl,l,_,rfl,.inl (SqL.of hl1),sc,ns,9,_,rfl,s1.seq hS,h63,by decide,by decide,by omega,fun r r0 r1=>?_⟩
    obtain⟨a,rfl⟩:=Int.eq_ofNat_of_zero_le r0
    refine⟨_,_,rfl,rfl,?_⟩
    refine⟨_,rfl,rfl,_,rfl,ce ?_⟩
    refine⟨_,rfl,rfl,_,rfl,ce ?_⟩
    refine⟨_,rfl,_,_,rfl,rfl,_,rfl,dZ ?_⟩
    refine⟨_,rfl,rfl,_,rfl,dZ ?_⟩
    refine⟨_,rfl,.inl ⟨rfl,_,SqL.of hl1⟩,_,rfl,lw,_,_,_,rfl,rfl,SqL.of (s1 _ _ hw),(show atI (wl S.W) 0=some (.str (S.W 0)) from rfl),(szQ 2),fun pt ht=>?_⟩
    have et:=ad ht (.tup [.str "open",.str (S.W 0)])
    obtain⟨eo,ge,rfl⟩:=uj j hj
    refine⟨l,_,xs,_,_,idx j,rfl,rfl,SqL.of (et _ _ hl1),by omega,qK (Paired.mapP hP1 fun _ _ t=>t.same et),.tup (SqT.of ac) (.cons (.str _) (.cons (.str _) .nil)),lX hW hso _,ny hW,(by simp [PyData.depth,PyData.depthAll]),⟨_,(by rw [List.getElem?_map,List.getElem?_map,ge];rfl),(by rw [gP];rfl)⟩,(fun i e hi he=>?_),?_⟩
    ·rw [List.getElem?_map,List.getElem?_map] at he
     cases hg:(bsT 1 j)[i]? with
     |none=>rw [hg] at he;cases he
     |some t' =>
      rw [hg] at he
      obtain rfl:=Option.some.inj he
      show PyData.eqv (ieD (itT S t')) _=false
      rw [gP]
      exact decide_eq_false (qm j hj i hi t' hg)
    ·refine⟨_,rfl,_,_,rfl,rfl,_,_,rfl,rfl,?_⟩
     have hij:idx j<=4:=by
      have:j=0\/j=1\/j=2:=by omega
      rcases this with rfl|rfl|rfl<;>decide
     have h6:(bsT 1 j).length=6:=by
      have:j=0\/j=1\/j=2:=by omega
      rcases this with rfl|rfl|rfl<;>rfl
     exact k5 _ xi _ st (idx j+1) _ _ (s1.trans et) (hx.same et) hv (by omega) (by show(idx j+1==idx j+1)=true;exact beq_self_eq_true _) (by omega) (by show((idx j:Nat):Int)+((3+1:Nat):Int) - 3=_;omega)
 have h0:plN v=0:=by
  match v,v1,v8,v10 with
  |0,_,_,_=>rfl
  |1,h,_,_=>exact absurd rfl h
  |2,_,_,_=>rfl
  |3,_,_,_=>rfl
  |4,_,_,_=>rfl
  |5,_,_,_=>rfl
  |6,_,_,_=>rfl
  |7,_,_,_=>rfl
  |8,_,h,_=>exact absurd rfl h
  |9,_,_,_=>rfl
  |v+10,_,_,h=>exact absurd (by omega) h
 rw [h0] at hp
 refine⟨p,_,rfl,SqT.of hp,rfl,_,_,rfl,_,_,rfl,_,_,rfl,rfl,?_⟩
 refine⟨_,rfl,_,rfl,l,_,rfl,.inl (SqL.of hl1),sc,ns,9,_,rfl,s1.seq hS,h63,by decide,by decide,by omega,fun r r0 r1=>?_⟩
 obtain⟨a,rfl⟩:=Int.eq_ofNat_of_zero_le r0
 refine⟨_,_,rfl,rfl,?_⟩
 refine⟨_,rfl,rfl,_,rfl,ce ?_⟩
 refine⟨_,rfl,rfl,_,rfl,ce ?_⟩
 refine⟨_,rfl,_,_,rfl,rfl,_,rfl,ce ?_⟩
 refine k5 H1 xi v st (1+a) _ _ s1 hx hv (by omega) ?_ (by omega) (by omega)
 unfold vX
 rw [if_neg v1,if_neg (by simpa using v8),if_neg (fun h=>v10 h.1)]
 simp only [Bool.and_eq_true,decide_eq_true_eq]
 omega
end
abbrev woN:List Str:=["_law_items_here","_law_parts","_law_word_here","_law_found"]
abbrev woP:List Str:=["_law_items_here","_law_parts"]
def jF(K:W.Frag)(CF T:Addr):Sp:=fun vs H Q _=>∃(a:Addr) (xs:List V) (its:List IE) (pa:Addr) (parts:bH),vs=[.ref a,.ref pa]/\H T=some (.tbl vU)/\SqT K H a xs/\Paired (d0 K H) xs its/\(∀i∈its,sj i)/\its.length<=19/\fc K H CF pa parts/\qu parts/\(∀c,lwR parts [] [] its=some c->c < 5/\c≠3)/\∀H',aH H H'->Q (.str (fL (lwR parts [] [] its))) H'
section
variable{P:Program}{w:World}{K:W.Frag}{mg:Str->Option Value}{base:Heap}{cx:Nat->Addr}
theorem dz:aJ woN woP (aj em):=⟨rfl,rfl,rfl,by decide +kernel,rfl,by decide +kernel,by decide +kernel⟩
theorem uS{n:Nat}:fL (some n)≠"":=by
 match n with
 |0=>decide +kernel
 |1=>decide +kernel
 |2=>decide +kernel
 |n+3=>show("Twice":Str)≠"";decide +kernel
theorem qT{f fZ CF T:Addr}{fd fdZ:FuncData} (F:Fun K "_law_word_of" "_law_word_of" em f fd)
  (GZ:aV P w K mg base (CX1 P w) 43 fZ fdZ lwP (rl K CF T cx)) (bZ:aL K fdZ lwP []) (kZ:W.keepIn K (.ref fZ)=true) (mZ:mg "look_within"=some (.ref fZ))
  (m0:mg "NoName"=some (.ref (cx 0))) (m1:mg "NoCount"=some (.ref (cx 1))) (m2:mg "WrongKind"=some (.ref (cx 2))) (m4:mg "Twice"=some (.ref (cx 4)))
  (xm:∀i j,i < 5->j < 5->i≠3->j≠3->W.exmOne K (.ref (cx i)) (.ref (cx j))=some (decide (i=j))):aV P w K mg base CX0 44 f fd woP (jF K CF T):=by
 refine F.ok (k:=43) dz (fun vs H Q E h=>?_) (fun cdv A outer s H vs Q E hrZ h=>?_)
 ·obtain⟨_,_,_,_,_,rfl,_⟩:=h
  rfl
 obtain⟨a,xs,its,pa,parts,rfl,hT,ha,hxs,hio,h19,hP,hPo,hc5,q⟩:=h
 obtain⟨th,hH,hN⟩:∃th,PH (dI CX0 P w K mg base woN "_law_word_of" (aj em) f cdv A outer s H E).nox (yO (List.drop 2 (aw em))) th /\
   ∀n,n < 5->n≠3->∀D dd ee H' y5,D.nx [some (.ref a),some (.ref pa),some (.str (fL (some n))),y5] H'->th D (.ref (cx n)) dd ee [some (.ref a),some (.ref pa),some (.str ""),y5] H':=by
  refine⟨_,jD rfl m0 (fun e=>ao (ay (i:=2) dz.nd rfl (Or.inl rfl) ai)) (jD rfl m4 (fun e=>ao (ay (i:=2) dz.nd rfl (Or.inl rfl) ai)) (jD rfl m2 (fun e=>ao (ay (i:=2) dz.nd rfl (Or.inl rfl) ai)) (jD rfl m1 (fun e=>ao (ay (i:=2) dz.nd rfl (Or.inl rfl) ai)) xO))),fun n hn hn3 D dd ee H' y5 qq=>?_⟩
  have:n=0\/n=1\/n=2\/n=4:=by omega
  rcases this with rfl|rfl|rfl|rfl
  ·exact⟨true,xm 0 0 (by decide) (by decide) (by decide) (by decide),dZ qq⟩
  ·exact⟨false,xm 1 0 (by decide) (by decide) (by decide) (by decide),ce ⟨false,xm 1 4 (by decide) (by decide) (by decide) (by decide),ce ⟨false,xm 1 2 (by decide) (by decide) (by decide) (by decide),ce ⟨true,xm 1 1 (by decide) (by decide) (by decide) (by decide),dZ qq⟩⟩⟩⟩
  ·exact⟨false,xm 2 0 (by decide) (by decide) (by decide) (by decide),ce ⟨false,xm 2 4 (by decide) (by decide) (by decide) (by decide),ce ⟨true,xm 2 2 (by decide) (by decide) (by decide) (by decide),dZ qq⟩⟩⟩
  ·exact⟨false,xm 4 0 (by decide) (by decide) (by decide) (by decide),ce ⟨true,xm 4 4 (by decide) (by decide) (by decide) (by decide),dZ qq⟩⟩
 refine⟨_,@ah _ _ _ _ _ (ay (i:=2) dz.nd rfl (Or.inl rfl) ai) (@ah _ _ _ _ _ (ay (i:=3) dz.nd rfl (Or.inl rfl) ag) (@ah _ _ _ _ _ (xt fun pins D=>ao (ay (i:=3) dz.nd rfl (Or.inl rfl) (sI GZ hrZ rfl mZ kZ bZ .nil (yt rfl rfl hH) (@aa _ _ _ _ _ (pv 0) (@aa _ _ _ _ _ (pv 1) ae rfl) rfl)))) (@ah _ _ _ _ _ (bc (PW.pt (t0 (aB bu (pv 2) ai (aE _)) (qw (aB uR (pv 3) wx (aE _))))) (@ao _ _ _ (@aM _ _ _ _ ai)) aI) (@ao _ _ _ (@aM _ _ _ _ (pv 2)))))),?_⟩
 refine⟨_,rfl,_,rfl,a,xs,its,pa,parts,rfl,hT,ha,hxs,hio,h19,hP,hPo,?_⟩
 cases hr:lwR parts [] [] its with
 |none =>
  rw [hr] at q
  intro H' s1
  refine⟨_,rfl,rfl,_,rfl,dZ ⟨_,rfl,rfl,_,rfl,ce ?_⟩⟩
  exact⟨_,rfl,q _ s1⟩
 |some n =>
  rw [hr] at q
  obtain⟨hn,hn3⟩:=hc5 n hr
  refine⟨by omega,fun H' s1=>?_⟩
  refine fun ee he=>hN n hn hn3 _ _ _ _ _ ?_
  refine⟨_,rfl,rfl,_,rfl,J53.no_s uS (ce ?_)⟩
  exact⟨_,rfl,q _ s1⟩
end
section
variable{S:Sc}(hW:WOk S.W)
include hW
theorem gC(i j:Nat):ItK (.name (S.W i) (S.W j)):=⟨⟨hW.sm i,hW.sm j⟩,by show 1<=21;decide,.inl (by show 1<=3;decide)⟩
theorem jf(j:Nat):ItK (.name "" (S.W j)):=⟨⟨dL,hW.sm j⟩,by show 1<=21;decide,.inl (by show 1<=3;decide)⟩
omit hW in
theorem jv(n:Int):ItK (.num n):=⟨trivial,by show 1<=21;decide,.inl (by show 1<=3;decide)⟩
theorem yb:ItK S.K0:=by
 unfold Sc.K0
 split
 ·exact jv _
 ·exact gC hW 0 2
 ·exact⟨⟨⟨hW.sm 0,hW.sm 1⟩,trivial⟩,by show 2<=21;decide,.inl (by show 2<=3;decide)⟩
 ·exact gC hW 0 1
omit hW in
theorem tU:S.taken.ht<=3:=by
 unfold Sc.taken
 split<;>simp [Ex.ht,J53.hts]
omit hW in
theorem sX{α:Type}{a b:α}{p:α->Prop}(ha:p a)(hb:p b):∀q∈[a,b],p q:=fun q hq=>by
 rcases List.mem_cons.mp hq with rfl|hq
 ·exact ha
 ·rcases List.mem_cons.mp hq with rfl|hq
  ·exact hb
  ·exact nomatch hq
omit hW in
theorem j9{α:Type}{a:α}{p:α->Prop}(ha:p a):∀q∈[a],p q:=fun q hq=>by
 rcases List.mem_cons.mp hq with rfl|hq
 ·exact ha
 ·exact nomatch hq
omit hW in
theorem lg{α:Type}{p:α->Prop}:∀q∈([]:List α),p q:=fun q hq=>nomatch hq
theorem tE(t:Tg):sj (itT S t):=by
 have w:=hW.sm
 have tk:=tU (S:=S)
 cases t
 case k=>exact⟨w 7,yb hW⟩
 case f1=>exact⟨⟨w 10,by show 2<=4;decide,sX (jf hW 7) (jv 2),jf hW 7⟩,sX (w 8) (w 9),by simp only [Ex.ht,J53.hts,List.length_cons,List.length_nil];omega⟩
 case f2=>exact⟨⟨w 11,by show 1<=4;decide,j9 (gC hW 0 1),gC hW 0 2⟩,j9 (w 8),by simp [Ex.ht,J53.hts]⟩
 case f3=>exact⟨⟨w 12,by show 1<=4;decide,j9 (jf hW 7),jf hW 7⟩,j9 (w 9),by simp [Ex.ht,J53.hts]⟩
 case f4=>exact⟨⟨w 13,by show 0<=4;decide,lg,gC hW 0 1⟩,lg,by simp [Ex.ht,J53.hts]⟩
 case g4=>exact⟨⟨w 13,by show 0<=4;decide,lg,jf hW 1⟩,lg,by simp [Ex.ht,J53.hts]⟩
 case o=>exact w 0
 case x=>exact⟨⟨w 14,by show 0<=4;decide,lg,gC hW 0 1⟩,lg,by simp [Ex.ht,J53.hts]⟩
theorem yP(mode st v:Nat):sj (bd S mode st v):=by
 have w:=hW.sm
 have n2:=jv 2
 have nN:=jv S.N
 have hd:=gC hW 0 1
 have h5:=gC hW 5 6
 have h7:=jf hW 7
 match v with
 |0=>exact⟨⟨w 14,by show 0<=4;decide,lg,n2⟩,lg,by simp [Ex.ht,J53.hts]⟩
 |1=>exact⟨⟨w 14,by show 1<=4;decide,j9 h7,h7⟩,j9 (w 9),by simp [Ex.ht,J53.hts]⟩
 |2=>exact⟨⟨w 14,by show 3<=4;decide,fun q hq=>(by
   rcases List.mem_cons.mp hq with rfl|hq
   ·exact n2
   ·exact sX (p:=fun q:Str × Kd=>ItK q.2) n2 n2 q hq),n2⟩,fun q hq=>(by
   rcases List.mem_cons.mp hq with rfl|hq
   ·exact w 8
   ·exact sX (p:=fun q:Str × Kd=>okW q.1) (w 9) (w 8) q hq),by simp [Ex.ht]⟩
 |3=>exact⟨⟨w 14,by show 1<=4;decide,j9 hd,nN⟩,j9 (w 8),by simp [Ex.ht]⟩
 |4=>exact⟨⟨w 14,by show 0<=4;decide,lg,n2⟩,lg,by simp [Ex.ht,J53.hts]⟩
 |5=>exact⟨⟨w 14,by show 0<=4;decide,lg,n2⟩,lg,by simp [Ex.ht]⟩
 |6=>exact⟨⟨w 14,by show 1<=4;decide,j9 hd,nN⟩,j9 (w 8),by simp [Ex.ht,J53.hts]⟩
 |7=>exact⟨⟨w 14,by show 1<=4;decide,j9 hd,nN⟩,j9 (w 8),by simp [Ex.ht,J53.hts]⟩
 |8 =>
  show sj (if mode=0 then (.fn (S.W 14) [] S.hid,.call "" (S.W 3) []) else (.fn (S.W 14) [] S.own5,.call "" (S.W 3) []))
  split
  ·exact⟨⟨w 14,by show 0<=4;decide,lg,hd⟩,lg,by simp [Ex.ht,J53.hts]⟩
  ·exact⟨⟨w 14,by show 0<=4;decide,lg,h5⟩,lg,by simp [Ex.ht,J53.hts]⟩
 |9=>exact⟨⟨w 14,by show 1<=4;decide,j9 h5,nN⟩,j9 (w 8),by simp [Ex.ht,J53.hts]⟩
 |v+10=>exact tE hW .x
theorem wk(i j:Nat):KB (.name (S.W i) (S.W j)):=⟨⟨hW.sm i,hW.sm j⟩,by show 1<=60;decide⟩
omit hW in
theorem ng(n:Int):KB (.num n):=⟨trivial,by show 1<=60;decide⟩
theorem wj:qu S.parts:=by
 have w:=hW.sm
 have hd:=wk hW 0 1
 have h5:=wk hW 5 6
 have n12:S.W 1≠S.W 2:=hW.ne (by decide) (by decide) (by decide)
 have n34:S.W 3≠S.W 4:=hW.ne (by decide) (by decide) (by decide)
 have o1:Ok1 S.F0.1:=sX ⟨w 1,hd⟩ ⟨w 2,ng _⟩
 have o2:Ok2 S.F0.2:=sX ⟨w 3,by show 0<=4;decide,j9 hd⟩ ⟨w 4,by show 2<=4;decide,fun k hk=>(by
   rcases List.mem_cons.mp hk with rfl|hk
   ·exact ng _
   ·exact sX (p:=KB) hd (ng _) k hk)⟩
 have o3:Ok1 S.F5.1:=j9 ⟨w 6,h5⟩
 have o4:Ok2 S.F5.2:=j9 ⟨w 3,by show 1<=4;decide,sX (ng _) h5⟩
 intro r hr
 rcases List.mem_cons.mp hr with rfl|hr
 ·exact⟨o1,o2,by show 2<=5;decide,by show 2<=5;decide,by simp [n12],by simp [n34],w 0⟩
 ·rcases List.mem_cons.mp hr with rfl|hr
  ·exact⟨o3,o4,by show 1<=5;decide,by show 1<=5;decide,by simp,by simp,w 5⟩
  ·exact nomatch hr
end
theorem wC{mode v c:Nat}(h:km mode v=some c):c < 5/\c≠3:=by
 unfold km at h
 split at h
 ·cases h
 ·cases h
  unfold yh
  split<;>first|decide|(split<;>decide)
theorem j7{k:Kd}(h:KB k):SeqAt.shaped (Kd.dat k)=true:=by
 have h1:=dr k
 exact gS h.1 (Nat.le_trans h1 h.2)
theorem vt{K:W.Frag}{H:Hp}{x y:V}{k:Kd}(hk:KB k)(h1:bJ K H x k)(h2:bJ K H y k):ir K H x y:=⟨_,_,kd_dat h1,kd_dat h2,j7 hk,j7 hk,by rw [eqv_dat];exact decide_eq_true rfl⟩
theorem mv{K:W.Frag}{H:Hp}{xs:List V}{ks:List Kd}(h:cE K H xs ks):fq K H xs (ks.map Kd.dat):=by
 induction h with
 |nil=>exact .nil
 |cons r _ ih=>exact .cons (kd_dat r) ih
theorem j0:∀l:List Kd,PyData.eqvAll (l.map Kd.dat) (l.map Kd.dat)=true
 |[]=>by simp [PyData.eqvAll]
 |k::l=>by
  rw [List.map_cons]
  show PyData.eqvAll (_::_) (_::_)=true
  simp only [PyData.eqvAll]
  rw [eqv_dat,decide_eq_true rfl,j0 l]
  rfl
theorem iN{f:List Kd × Kd}(hk:∀k∈f.2::f.1,KB k):SeqAt.shaped (.tuple [.tuple (f.1.map Kd.dat),Kd.dat f.2])=true:=by
 have h1:∀l:List Kd,(∀k∈l,KB k)->PyData.canLayAll0 (l.map Kd.dat)=true/\PyData.depthAll (l.map Kd.dat)<=61:=by
  intro l
  induction l with
  |nil=>intro _;exact⟨by simp [PyData.canLayAll0],by simp [PyData.depthAll]⟩
  |cons a l ih =>
   intro h
   obtain⟨i1,i2⟩:=ih fun k hk=>h k (.tail _ hk)
   have ha:=h a (.head _)
   have d1:=dF a
   have d3:=dr a
   have d2:=ha.2
   refine⟨by simp [PyData.canLayAll0,eS ha.1,i1],?_⟩
   simp only [List.map_cons,PyData.depthAll]
   omega
 obtain⟨a,b⟩:=h1 f.1 fun k h=>hk k (.tail _ h)
 have ha:=hk f.2 (.head _)
 have d1:=dF f.2
 have d3:=dr f.2
 have d2:=ha.2
 unfold SeqAt.shaped
 rw [Bool.and_eq_true]
 refine⟨by simp [PyData.canLay0,PyData.canLayAll0,a,eS ha.1],decide_eq_true ?_⟩
 simp only [PyData.depth,PyData.depthAll]
 omega
theorem pj{K:W.Frag}{H:Hp}{x y:V}{f:List Kd × Kd}(hk:∀k∈f.2::f.1,KB k)(h1:cY K H x f)(h2:cY K H y f):ir K H x y:=by
 obtain⟨p,ta,x1,xs,rfl,a1,a2,a3,a4⟩:=h1
 obtain⟨p',ta',x1',xs',rfl,b1,b2,b3,b4⟩:=h2
 refine⟨.tuple [.tuple (f.1.map Kd.dat),Kd.dat f.2],_,.tup a1 (.cons (.tup (SqT.of a2) (mv a3)) (.cons (kd_dat a4) .nil)),.tup b1 (.cons (.tup (SqT.of b2) (mv b3)) (.cons (kd_dat b4) .nil)),iN hk,iN hk,?_⟩
 simp only [PyData.eqv,PyData.eqvAll,Bool.and_eq_true]
 exact⟨j0 _,by rw [eqv_dat];exact decide_eq_true rfl,trivial⟩
theorem o6{α:Type}{K:W.Frag}{H:Hp}{R:V->α->Prop}{a b:List (Key × V)}{m:List (Str × α)}(hs:∀q∈m,∀x y,R x q.2->R y q.2->ir K H x y)(h1:cW R a m)(h2:cW R b m):Paired (fun(p q:Key × V)=>p.1=q.1/\ir K H p.2 q.2) a b:=by
 unfold cW at h1 h2
 induction h1 generalizing b with
 |nil=>cases h2;exact .nil
 |cons r _ ih =>
  cases h2 with
  |cons r2 t2=>exact .cons ⟨r.1.trans r2.1.symm,hs _ (.head _) _ _ r.2 r2.2⟩ (ih (fun q hq=>hs q (.tail _ hq)) t2)
abbrev laN:List Str:=["_law_script","_law_words","_law_size_here","_law_more_here","_law_mode","_law_items_here","_law_spoilt_here","_law_due","_law_parts","_law_found","_law_fresh","_law_q"]
abbrev laP:List Str:=["_law_script"]
theorem vQ{A:Around}{k:Nat}(hr:cA k A):A.units+70 < cLine:=by have:=hr.un;omega
theorem tN{S:Sc}(hW:WOk S.W):∀q∈S.parts,look S.parts q.1=some q.2/\(∃t r,q.2.1=t::r/\t.1≠S.W 0)/\(∃t r,q.2.2=t::r/\t.1≠S.W 0):=by
 have n05:S.W 0≠S.W 5:=hW.ne (by decide) (by decide) (by decide)
 have n1:S.W 1≠S.W 0:=hW.ne (by decide) (by decide) (by decide)
 have n3:S.W 3≠S.W 0:=hW.ne (by decide) (by decide) (by decide)
 have n6:S.W 6≠S.W 0:=hW.ne (by decide) (by decide) (by decide)
 refine sX (p:=fun q:Str × (bh × ba)=>look S.parts q.1=some q.2/\(∃t r,q.2.1=t::r/\t.1≠S.W 0)/\(∃t r,q.2.2=t::r/\t.1≠S.W 0)) ⟨?_,⟨_,_,rfl,n1⟩,⟨_,_,rfl,n3⟩⟩ ⟨?_,⟨_,_,rfl,n6⟩,⟨_,_,rfl,n3⟩⟩
 ·show look [(S.W 0,S.F0),(S.W 5,S.F5)] (S.W 0)=_
  rw [aP,if_pos rfl]
 ·show look [(S.W 0,S.F0),(S.W 5,S.F5)] (S.W 5)=_
  rw [aP,if_neg n05,aP,if_pos rfl]
theorem jx{α:Type}{S:Sc}{H:Hp}{d1 fd:Addr}{kv fk:List (Key × V)}{R:V->α->Prop}{R':V->bh × ba->Prop}{m:List (Str × α)}(h1:H d1=some (.dK kv))(h2:H fd=some (.dK fk))(p1:cW R kv m)(p2:cW R' fk S.parts)(hm:∃t r,m=t::r/\t.1≠S.W 0):d1≠fd:=by
 rintro rfl
 rw [h1] at h2
 cases h2
 obtain⟨t,r,rfl,hn⟩:=hm
 have e1:=p1.keys
 have e2:=p2.keys
 rw [e1] at e2
 have e3:=(List.cons.inj e2).1
 exact hn (Sum.inr.inj e3)
theorem eK.fz{H:Hp}{a:Addr}{o:Obj}{kvs:List (Key × V)}{k:Key}(e:H a=some (.frz o (.dK kvs))):eK H a (kV k) (du kvs k):=.inl ⟨kvs,k,.inr ⟨o,e⟩,rfl,rfl⟩
section
variable{P:Program}{w:World}{K:W.Frag}{mg:Str->Option Value}{base:Heap}{cx:Nat->Addr}
theorem gG:aJ laN laP (aj jV):=⟨rfl,rfl,rfl,by decide +kernel,rfl,by decide +kernel,by decide +kernel⟩
theorem w9{f CF:Addr}{cdv:Value}{A:Around}{outer:List Env}{s:Shared}{H:Hp}{Q:VK}{E:XK} (ml:mg "len"=none) (cF:Cls K CF) (nK:bx K CF "kinds") (nF:bx K CF "funs")
  (hr:cA 44 (dI CX0 P w K mg base laN "law" (aj jV) f cdv A outer s H E).A) :
  ∃t,PSs (dI CX0 P w K mg base laN "law" (aj jV) f cdv A outer s H E).nox (List.drop 13 (aw jV)) t /\
   ∀(D:fG) (H1:Hp) (S:Sc) (due:Str) (pd fd l:Addr) (v0 v1 v2 v3 v4 v5 v6 v11:Option V),D.rt=Q->(∀H',Q (.bl true) H')->WOk S.W->PyData.strOk due=true->fc K H1 CF pd S.parts->fc K H1 CF fd S.parts->pd≠fd->H1 l=some (.lst [.str "",.str due,.str ""]) ->
    t D [v0,v1,v2,v3,v4,v5,v6,some (.str due),some (.ref pd),some (.ref l),some (.ref fd),v11] H1:=by
 have hu:=fH hr
 have hu64:=gf hr
 have hu70:=vQ hr
 refine⟨_,@ah _ _ _ _ _ (gu PassesOwn.never rfl (vL (pv 10)) (aY (i:=11) gG.nd rfl (Or.inl rfl)) (@ao _ _ _ (bc (PW.pt (wL (fN (eC hu (pv 11) (pv 8))) (wL (aB (nj hu70) (cO (dc hu (pv 8) (pv 11) (fun _ _=>rfl)) rfl) (cO (dc hu (pv 10) (pv 11) (fun _ _=>rfl)) rfl) (aE _)) (xh (aB (nj hu70) (cO (dc hu (pv 8) (pv 11) (fun _ _=>rfl)) rfl) (cO (dc hu (pv 10) (pv 11) (fun _ _=>rfl)) rfl) (aE _)))))) (@ao _ _ _ (@aM _ _ _ _ xw)) aI))) (@ao _ _ _ (@aM _ _ _ _ (uH (cH (gz hu64) (pv 9) (dq (@aa _ _ _ _ _ ai (@aa _ _ _ _ _ (pv 7) (@aa _ _ _ _ _ ai ae rfl) rfl) rfl)) (aE _)) (rg (cH bu (bU qX rfl ml boot_len (@aa _ _ _ _ _ (pv 8) ae rfl)) ag (aE _)))))),?_⟩
 intro D H1 S due pd fd l v0 v1 v2 v3 v4 v5 v6 v11 hD q hW hdu hP hF hne hl
 obtain⟨pk,hpd,hp⟩:=hP
 obtain⟨fk,hfd,hf⟩:=hF
 refine⟨_,rfl,fd,fk,rfl,hfd,fun o=>sC (fun i σ H'=>H'=upd H1 fd (.frz o (.dK fk))/\∃y,σ=[v0,v1,v2,v3,v4,v5,v6,some (.str due),some (.ref pd),some (.ref l),some (.ref fd),y]) ⟨rfl,_,rfl⟩ ?_ ?_ ?_⟩
 ·rintro i σ H' hi ⟨rfl,_⟩
  exact ac
 ·rintro i p σ H' hip ⟨rfl,y,rfl⟩
  have frz:∀{b:Addr} {u:HO},H1 b=some u->b≠fd->upd H1 fd (.frz o (.dK fk)) b=some u:=fun h n=>by rw [am n];exact h
  obtain⟨q',hq',hk,_⟩:=cz hf hip
  have hmem:=List.mem_of_getElem? hq'
  obtain⟨hlk,m1,m2⟩:=tN hW q' hmem
  obtain⟨b1,b2,_⟩:=wj hW q' hmem
  rcases cr hp q'.1 with ⟨_,e⟩|⟨v,r,e1,e2,fa,rfl,hA⟩
  ·rw [hlk] at e;cases e
  rcases cr hf q'.1 with ⟨_,e⟩|⟨v',r',e1',e2',fb,rfl,hB⟩
  ·rw [hlk] at e;cases e
  rw [hlk] at e2 e2'
  cases e2;cases e2'
  obtain⟨dx,d1,d2,fs,kv1,kv2,g0,lk,lf,g1,g2,p1,p2,_,_⟩:=hA
  obtain⟨dx',d1',d2',fs',kv1',kv2',g0',lk',lf',g1',g2',p1',p2',_,_⟩:=hB
  have n1:=jx g1 hfd p1 hf m1
  have n2:=jx g2 hfd p2 hf m2
  have n1':=jx g1' hfd p1' hf m1
  have n2':=jx g2' hfd p2' hf m2
  have D1:eK (upd H1 fd (.frz o (.dK fk))) pd (.str q'.1) (some (.ref fa)):=e1▸eK.k (k:=.inr q'.1) (frz hpd hne)
  have D2:eK (upd H1 fd (.frz o (.dK fk))) fd (.str q'.1) (some (.ref fb)):=e1'▸eK.fz (k:=.inr q'.1) ac
  have G0:=frz g0 (fun z=>by rw [z,hfd] at g0;cases g0)
  have G0':=frz g0' (fun z=>by rw [z,hfd] at g0';cases g0')
  have s1:=o6 (fun q hq x y hx hy=>vt (b1 q hq).2 hx hy) (p1.imp fun _ _ t=>fY (o:=.frz o (.dK fk)) hfd t) (p1'.imp fun _ _ t=>fY hfd t)
  have s2:=o6 (fun q hq x y hx hy=>pj (b2 q hq).2.2 hx hy) (p2.imp fun _ _ t=>eI (o:=.frz o (.dK fk)) hfd t) (p2'.imp fun _ _ t=>eI hfd t)
  rw [hk]
  refine⟨_,rfl,_,rfl,pd,_,rfl,D1,_,rfl,ce ?_⟩
  refine⟨_,rfl,_,rfl,pd,_,rfl,D1,fa,CF,dx,fs,_,rfl,G0,cF,nK,lk,_,rfl,_,rfl,fd,_,rfl,D2,fb,CF,dx',fs',_,rfl,G0',cF,nK,lk',d1,d1',kv1,kv1',rfl,rfl,frz g1 n1,frz g1' n1',s1,_,rfl,ce ?_⟩
  refine⟨_,rfl,_,rfl,pd,_,rfl,D1,fa,CF,dx,fs,_,rfl,G0,cF,nF,lf,_,rfl,_,rfl,fd,_,rfl,D2,fb,CF,dx',fs',_,rfl,G0',cF,nF,lf',d2,d2',kv2,kv2',rfl,rfl,frz g2 n2,frz g2' n2',s2,_,rfl,ce ?_⟩
  exact⟨rfl,_,rfl⟩
 ·rintro σ H' ⟨rfl,y,rfl⟩
  have hlf:upd H1 fd (.frz o (.dK fk)) l=some (.lst [.str "",.str due,.str ""]):=by
   rw [am (fun z=>by rw [z,hfd] at hl;cases hl)]
   exact hl
  have hpf:upd H1 fd (.frz o (.dK fk)) pd=some (.dK pk):=by
   rw [am hne]
   exact hpd
  generalize upd H1 fd (.frz o (.dK fk))=H2 at hlf hpf ⊢
  have hs:SeqAt.shaped (.list [.str "",.str due,.str ""])=true:=by
   have h0:PyData.strOk ""=true:=by decide +kernel
   unfold SeqAt.shaped
   simp [PyData.canLay0,PyData.canLayAll0,PyData.depth,PyData.depthAll,h0,hdu]
  refine⟨_,rfl,_,rfl,(szQ 3),fun p5 h5=>?_⟩
  have e5:=ad h5 (.lst [.str "",.str due,.str ""])
  refine⟨.list [.str "",.str due,.str ""],.list [.str "",.str due,.str ""],.lst (SqL.of (e5 _ _ hlf)) (.cons (.str _) (.cons (.str _) (.cons (.str _) .nil))),.lst (SqL.of ac) (.cons (.str _) (.cons (.str _) (.cons (.str _) .nil))),hs,hs,_,rfl,?_⟩
  rw [show PyData.eqv (.list [.str "",.str due,.str ""]) (.list [.str "",.str due,.str ""])=true by simp [PyData.eqv,PyData.eqvAll]]
  have h2:pk.length=2:=by
   have:=qD hp
   exact this
  refine dZ ⟨_,rfl,pd,pk,rfl,e5 _ _ hpf,rfl,?_⟩
  rw [hD,h2]
  exact q _
end
end K53
namespace L2
open PySem PySem.Spec PyProof.Rows
theorem oK{H:Hp}{m:Nat}(R:Nat->Hp->V->Prop){n:Nat}{κ:List Nat}{g:TG}{te:TE}{σ:St}{Q:VK}
  (st:∀i H H' v,aH H H'->R i H v->R i H' v) (hx:m<=1000)
  (turn:∀(i:Nat) (H3:Hp) (N:V->Hp->Prop) (B:Hp->Prop),i < m->aH H H3->(∀v H4,aH H3 H4->R i H4 v->N v H4) ->
   g (.int (0+(i:Int))) (cS n κ σ) H3 fun σ4 H4=>σ4.drop n=(cS n κ σ).drop n/\vW σ4 H4 fun b H5=>if b=true then te σ4 H5 N else B H5)
  (fin:∀ys H3 D,aH H H3->ys.length=m->(∀(i:Nat) (v:V),ys[i]?=some v->R i H3 v)->H3 D=none->Q (.ref D) (upd H3 D (.lst ys))) :
  jn n κ g vW te σ (Itr 0 m) H Q:=by
 refine pR (J:=Itr 0 m) (xs:=iw 0 m) (fun i ys H3=>aH H H3/\ys.length=i/\∀(j:Nat) (v:V),ys[j]?=some v->R j H3 v) ⟨aH.refl _,rfl,fun j v h=>nomatch h⟩ (by rw [eJ];exact Nat.le_of_lt (dJ hx)) ?_ ?_ ?_ ?_ ?_ ?_
 ·rintro i ys H3 ⟨_,hl,_⟩
  exact Nat.le_of_eq hl
 ·rintro i x zs H3 hx _
  exact xB hx
 ·rintro i zs x H3 H' hi _ hy
  rw [eJ] at hi
  exact sK hi hy
 ·rintro zs H3 _
  rw [eJ]
  exact Nat.le_refl _
 ·rintro i u ys H3 N hN hu ⟨s3,hl,hy⟩
  obtain⟨hi9,rfl⟩:=gj.mp hu
  refine turn i H3 (fun v H6=>N (ys++[v]) H6) (fun H5=>N ys H5) hi9 s3 fun v H4 s4 hv=>hN _ _ ⟨s3.trans s4,by rw [List.length_append,hl];rfl,fun j v' hj=>?_⟩
  by_cases c:j < ys.length
  ·rw [List.getElem?_append_left c] at hj
   exact st _ _ _ _ s4 (hy j v' hj)
  ·rw [List.getElem?_append_right (Nat.le_of_not_lt c)] at hj
   have e:j - ys.length=0:=by
    have:=(List.getElem?_eq_some_iff.mp hj).1
    have h1:[v].length=1:=rfl
    omega
   rw [e] at hj
   cases hj
   have ej:j=i:=by omega
   rw [ej]
   exact hv
 ·rintro ys H3 D ⟨s3,hl,hy⟩ hD
  rw [eJ] at hl
  exact fin ys H3 D s3 hl hy hD
end L2
namespace K53
open PySem L2 Kk
open J53 (Ex Fm)
def xY(K:W.Frag)(T:Addr):Sp:=fun vs H Q _=>∃(a:Addr) (ns:List Int),vs=[.ref a]/\SqL K H a (ns.map V.int)/\ns.length<=63/\H T=some (.tbl vU)/\∀H',Q (.bl true) H'
theorem xq(o:Option Nat):PyData.strOk (fL o)=true:=by
 match o with
 |none=>decide +kernel
 |some 0=>decide +kernel
 |some 1=>decide +kernel
 |some 2=>decide +kernel
 |some (n+3)=>show PyData.strOk "Twice"=true;decide +kernel
section
variable{P:Program}{w:World}{K:W.Frag}{mg:Str->Option Value}{base:Heap}{cx:Nat->Addr}
theorem yE{f CF T fI fB fF fO:Addr}{cdv:Value}{A:Around}{outer:List Env}{s:Shared}{H:Hp}{Q:VK}{E:XK}{fdI fdB fdF fdO:FuncData} (ml:mg "len"=none) (mt:mg "tuple"=none) (cF:Cls K CF) (nK:bx K CF "kinds") (nF:bx K CF "funs")
  (GI:aV P w K mg base CX0 4 fI fdI itP (jG K)) (bI:aL K fdI itP []) (kI:PySem.W.keepIn K (.ref fI)=true) (mI:mg "_law_items"=some (.ref fI))
  (GB:aV P w K mg base CX0 4 fB fdB sbP (iG K)) (bB:aL K fdB sbP []) (kB:PySem.W.keepIn K (.ref fB)=true) (mB:mg "_law_spoilt"=some (.ref fB))
  (GF:aV P w K mg base CX0 3 fF fdF fcP (jA K CF)) (bF:aL K fdF fcP []) (kF:PySem.W.keepIn K (.ref fF)=true) (mF:mg "_law_faces"=some (.ref fF))
  (GO:aV P w K mg base CX0 44 fO fdO woP (jF K CF T)) (bO:aL K fdO woP []) (kO:PySem.W.keepIn K (.ref fO)=true) (mO:mg "_law_word_of"=some (.ref fO))
  (hrO:cA 44 (dI CX0 P w K mg base laN "law" (aj jV) f cdv A outer s H E).A) :
  ∃t,PSs (dI CX0 P w K mg base laN "law" (aj jV) f cdv A outer s H E).nox (List.drop 6 (aw jV)) t /\
   ∀(D:fG) (H1:Hp) (sc lw:Addr) (ns:List Int) (W:Nat->Str) (N M:Int) (mode:Nat) (v5 v6 v7 v8 v9 v10 v11:Option V),D.rt=Q->(∀H',Q (.bl true) H')->mode < 2->SqL K H1 sc (ns.map V.int)->ns.length<=63->H1 lw=some (.lst (wl W))->WOk W->H1 T=some (.tbl vU) ->
    t D [some (.ref sc),some (.ref lw),some (.int N),some (.int M),some (.int (mode:Int)),v5,v6,v7,v8,v9,v10,v11] H1:=by
 have hrI:cA 4 _:=hrO.mono (show 4<=44 by decide)
 have hrB:=hrI
 have hrF:cA 3 _:=hrO.mono (show 3<=44 by decide)
 obtain⟨t13,d13,k13⟩:=w9 (P:=P) (w:=w) (K:=K) (mg:=mg) (base:=base) (f:=f) (cdv:=cdv) (A:=A) (outer:=outer) (s:=s) (H:=H) (Q:=Q) (E:=E) ml cF nK nF hrO
 refine⟨_,@ah _ _ _ _ _ (ay (i:=5) gG.nd rfl (Or.inl rfl) (au GI hrI rfl mI kI bI .nil bQ (@aa _ _ _ _ _ (pv 0) (@aa _ _ _ _ _ (pv 1) (@aa _ _ _ _ _ (pv 2) (@aa _ _ _ _ _ (pv 3) (@aa _ _ _ _ _ (pv 4) ae rfl) rfl) rfl) rfl) rfl))) (@ah _ _ _ _ _ (jh (au GB hrB rfl mB kB bB .nil bQ (@aa _ _ _ _ _ (pv 0) (@aa _ _ _ _ _ (pv 1) (@aa _ _ _ _ _ (pv 5) (@aa _ _ _ _ _ (pv 2) (@aa _ _ _ _ _ (pv 4) ae rfl) rfl) rfl) rfl) rfl)) (eT rfl (aU (aY (i:=6) gG.nd rfl (Or.inl rfl)) (aU (aY (i:=7) gG.nd rfl (Or.inl rfl)) dG)))) (@ah _ _ _ _ _ (ay (i:=8) gG.nd rfl (Or.inl rfl) (au GF hrF rfl mF kF bF .nil bQ (@aa _ _ _ _ _ (pv 1) (@aa _ _ _ _ _ (pv 2) ae rfl) rfl))) (@ah _ _ _ _ _ (ay (i:=9) gG.nd rfl (Or.inl rfl) (dq (@aa _ _ _ _ _ (au GO hrO rfl mO kO bO .nil bQ (@aa _ _ _ _ _ (cw cU rfl mt fQ (@aa _ _ _ _ _ (pv 5) ae rfl)) (@aa _ _ _ _ _ (pv 8) ae rfl) rfl)) ae rfl))) (@ah _ _ _ _ _ (aO (eQ PySem.F.plainAttrs_list PySem.F.slot_list_append PySem.F.type_list_append bo (pv 9) (@aa _ _ _ _ _ (au GO hrO rfl mO kO bO .nil bQ (@aa _ _ _ _ _ (cw cU rfl mt fQ (@aa _ _ _ _ _ (pv 6) ae rfl)) (@aa _ _ _ _ _ (pv 8) ae rfl) rfl)) ae rfl))) (@ah _ _ _ _ _ (aO (eQ PySem.F.plainAttrs_list PySem.F.slot_list_append PySem.F.type_list_append bo (pv 9) (@aa _ _ _ _ _ (au GO hrO rfl mO kO bO .nil bQ (@aa _ _ _ _ _ (cw cU rfl mt fQ (@aa _ _ _ _ _ (pv 5) ae rfl)) (@aa _ _ _ _ _ (pv 8) ae rfl) rfl)) ae rfl))) (@ah _ _ _ _ _ (ay (i:=10) gG.nd rfl (Or.inl rfl) (au GF hrF rfl mF kF bF .nil bQ (@aa _ _ _ _ _ (pv 1) (@aa _ _ _ _ _ (pv 2) ae rfl) rfl))) d13)))))),?_⟩
 intro D H1 sc lw ns W N M mode v5 v6 v7 v8 v9 v10 v11 hD q hmd hS h63 hw hW hT
 refine⟨_,rfl,_,rfl,_,rfl,_,rfl,_,rfl,sc,lw,ns,W,N,M,mode,rfl,hmd,hS,h63,hw,hW,fun H2 l xs kc j o s1 hl0 hl hkc hj hso hP=>?_⟩
 refine⟨_,rfl,_,rfl,_,rfl,_,rfl,_,rfl,sc,lw,l,ns,⟨W,N,M,kc,o⟩,mode,j,xs,rfl,hmd,hj,hso,s1.seq hS,h63,s1 _ _ hw,hW,hl,hP,fun H3 p l2 ys v st at' s2 hp hl2 hv ha hok hPy=>?_⟩
 have hlw:=wH (S:=⟨W,N,M,kc,o⟩) hW (oX mode hmd j hj)
 have hly:=spo (S:=⟨W,N,M,kc,o⟩) hW (st:=st) hmd hj hv ha hok
 have hW':WOk (Sc.W ⟨W,N,M,kc,o⟩):=hW
 have eN:N=(Sc.N ⟨W,N,M,kc,o⟩):=rfl
 obtain⟨bl5,bl6⟩:=mQ mode hmd j hj
 have li:((bsT mode j).map (itT ⟨W,N,M,kc,o⟩)).length<=19:=by rw [List.length_map];omega
 have ly:(((bsT mode j).take at').map (itT ⟨W,N,M,kc,o⟩)++bd ⟨W,N,M,kc,o⟩ mode st v::((bsT mode j).drop at').map (itT ⟨W,N,M,kc,o⟩)).length<=19:=by
  rw [List.length_append,List.length_cons,List.length_map,List.length_map,List.length_take,List.length_drop]
  omega
 have oi:∀i∈(bsT mode j).map (itT ⟨W,N,M,kc,o⟩),sj i:=fun i hi=>by
  obtain⟨t,_,rfl⟩:=List.mem_map.mp hi
  exact tE hW' t
 have oy:∀i∈((bsT mode j).take at').map (itT ⟨W,N,M,kc,o⟩)++bd ⟨W,N,M,kc,o⟩ mode st v::((bsT mode j).drop at').map (itT ⟨W,N,M,kc,o⟩),sj i:=fun i hi=>by
  rcases List.mem_append.mp hi with hi|hi
  ·obtain⟨t,_,rfl⟩:=List.mem_map.mp hi
   exact tE hW' t
  ·rcases List.mem_cons.mp hi with rfl|hi
   ·exact yP hW' mode st v
   ·obtain⟨t,_,rfl⟩:=List.mem_map.mp hi
    exact tE hW' t
 have hpo:=wj hW'
 generalize hS':(⟨W,N,M,kc,o⟩:Sc)=S at hP hPy hlw hly hW' eN li ly oi oy hpo ⊢
 have hWS:W=S.W:=by rw [<-hS']
 subst hWS
 subst eN
 clear hS'
 refine⟨p,_,rfl,SqT.of hp,rfl,_,_,rfl,_,_,rfl,rfl,?_⟩
 have s12:=s1.trans s2
 refine⟨_,rfl,_,rfl,lw,S,rfl,s12 _ _ hw,hW',fun H4 pd s3 hpd0 hPt=>?_⟩
 have s4:=s12.trans s3
 have hl4:=(s2.trans s3) _ _ hl
 have hP4:=Paired.mapP hP fun _ _ t=>t.same (s2.trans s3)
 have hl24:=s3 _ _ hl2
 have hPy4:=Paired.mapP hPy fun _ _ t=>t.same s3
 have hT4:=s4 _ _ hT
 have hw4:=s4 _ _ hw
 clear hp hpd0 s1 s2 s3 s12 s4 hl0 hl hP hl2 hPy hw hT hS
 refine⟨_,rfl,l,xs,rfl,.inl ⟨SqL.of hl4,fun q1 h1=>?_⟩⟩
 have e1:=ad h1 (.tup xs)
 refine⟨_,rfl,q1,xs,_,pd,S.parts,rfl,e1 _ _ hT4,SqT.of ac,Paired.mapP hP4 fun _ _ t=>t.same e1,oi,li,hPt.same e1,hpo,(fun c hc=>by rw [hlw] at hc;cases hc),fun H5 s5=>?_⟩
 rw [hlw]
 have e5:=e1.trans s5
 refine⟨(szQ 1),fun lf hlf=>?_⟩
 have hl5:=e5 _ _ hl4
 have hP5:=Paired.mapP hP4 fun _ _ t=>t.same e5
 have hl25:=e5 _ _ hl24
 have hPy5:=Paired.mapP hPy4 fun _ _ t=>t.same e5
 have hT5:=e5 _ _ hT4
 have hw5:=e5 _ _ hw4
 have hPt5:=hPt.same e5
 clear hl4 hP4 hl24 hPy4 hT4 hw4 hPt e1 e5 s5 h1
 have g5:=ac (H:=H5) (a:=lf) (o:=.lst [.str (fL none)])
 have u5:=ad hlf (.lst [.str (fL none)])
 generalize upd H5 lf (.lst [.str (fL none)])=H6 at g5 u5 ⊢
 refine⟨_,rfl,.inl ⟨rfl,_,SqL.of g5⟩,_,rfl,l2,ys,rfl,.inl ⟨SqL.of (u5 _ _ hl25),fun q2 h2=>?_⟩⟩
 have e2:=ad h2 (.tup ys)
 have u6:=u5.trans e2
 refine⟨_,rfl,q2,ys,_,pd,S.parts,rfl,u6 _ _ hT5,SqT.of ac,Paired.mapP hPy5 fun _ _ t=>t.same u6,oy,ly,hPt5.same u6,hpo,(fun c hc=>by rw [hly] at hc;exact wC hc),fun H7 s7=>?_⟩
 rw [hly]
 have g7:=s7 _ _ (e2 _ _ g5)
 have u7:=u6.trans s7
 refine⟨lf,_,_,rfl,rfl,g7,(by show 1 < sizeLine;decide),?_⟩
 have g8:upd H7 lf (.lst ([V.str (fL none)]++[V.str (fL (km mode v))])) lf=some (.lst [V.str (fL none),.str (fL (km mode v))]):=ac
 have u8:=jC (o:=.lst ([V.str (fL none)]++[V.str (fL (km mode v))])) u7 hlf
 clear g5 u5 u6 u7 g7 s7 e2 h2
 generalize upd H7 lf (.lst ([V.str (fL none)]++[V.str (fL (km mode v))]))=H8 at g8 u8 ⊢
 refine⟨_,rfl,.inl ⟨rfl,_,SqL.of g8⟩,_,rfl,l,xs,rfl,.inl ⟨SqL.of (u8 _ _ hl5),fun q3 h3=>?_⟩⟩
 have e3:=ad h3 (.tup xs)
 have u9:=u8.trans e3
 refine⟨_,rfl,q3,xs,_,pd,S.parts,rfl,u9 _ _ hT5,SqT.of ac,Paired.mapP hP5 fun _ _ t=>t.same u9,oi,li,hPt5.same u9,hpo,(fun c hc=>by rw [hlw] at hc;cases hc),fun H9 s9=>?_⟩
 rw [hlw]
 have g9:=s9 _ _ (e3 _ _ g8)
 have u10:=u9.trans s9
 refine⟨lf,_,_,rfl,rfl,g9,(by show 2 < sizeLine;decide),?_⟩
 have g11:upd H9 lf (.lst ([V.str (fL none),.str (fL (km mode v))]++[V.str (fL none)])) lf=some (.lst [V.str "",.str (fL (km mode v)),.str ""]):=ac
 have u11:=jC (o:=.lst ([V.str (fL none),.str (fL (km mode v))]++[V.str (fL none)])) u10 hlf
 clear g8 u8 u9 u10 g9 s9 e3 h3
 generalize upd H9 lf (.lst ([V.str (fL none),.str (fL (km mode v))]++[V.str (fL none)]))=H11 at g11 u11 ⊢
 refine⟨_,rfl,_,rfl,lw,S,rfl,u11 _ _ hw5,hW',fun H12 fd s12 hfd0 hPf=>?_⟩
 refine k13 _ H12 S _ pd fd lf _ _ _ _ _ _ _ _ hD q hW' (xq _) (hPt5.same (u11.trans s12)) hPf (fun z=>?_) (s12 _ _ g11)
 obtain⟨pk,hpk,_⟩:=hPt5.same u11
 rw [z,hfd0] at hpk
 cases hpk
end
abbrev wfn(c:Int)(a b:Bool):Nat->Str:=fun i=>J53.wd c (sgm a b i:Int)
theorem zN(c:Int)(a:Bool):(wl (wfn c a false)).set 6 (.str (wfn c a false 1))=wl (wfn c a true):=by cases a<;>rfl
theorem Af(c:Int):((wl (wfn c false false)).set 10 (.str (wfn c false false 7))).set 8 (.str (wfn c false false 11))=wl (wfn c true false):=rfl
def clS(a b c d e f:Addr):Nat->Addr
 |0=>a
 |1=>b
 |2=>c
 |3=>d
 |4=>e
 |_=>f
theorem yV{K:W.Frag}{a b c d e f:Addr}(x00:W.exmOne K (.ref a) (.ref a)=some true)(x01:W.exmOne K (.ref a) (.ref b)=some false)(x02:W.exmOne K (.ref a) (.ref c)=some false)(x04:W.exmOne K (.ref a) (.ref e)=some false)(x10:W.exmOne K (.ref b) (.ref a)=some false)(x11:W.exmOne K (.ref b) (.ref b)=some true)(x12:W.exmOne K (.ref b) (.ref c)=some false)(x14:W.exmOne K (.ref b) (.ref e)=some false)(x20:W.exmOne K (.ref c) (.ref a)=some false)(x21:W.exmOne K (.ref c) (.ref b)=some false)(x22:W.exmOne K (.ref c) (.ref c)=some true)(x24:W.exmOne K (.ref c) (.ref e)=some false)(x40:W.exmOne K (.ref e) (.ref a)=some false)(x41:W.exmOne K (.ref e) (.ref b)=some false)(x42:W.exmOne K (.ref e) (.ref c)=some false)(x44:W.exmOne K (.ref e) (.ref e)=some true):∀i j,i < 5->j < 5->i≠3->j≠3->W.exmOne K (.ref (clS a b c d e f i)) (.ref (clS a b c d e f j))=some (decide (i=j))
 |0,0,_,_,_,_=>x00
 |0,1,_,_,_,_=>x01
 |0,2,_,_,_,_=>x02
 |0,3,_,_,_,h=>absurd rfl h
 |0,4,_,_,_,_=>x04
 |1,0,_,_,_,_=>x10
 |1,1,_,_,_,_=>x11
 |1,2,_,_,_,_=>x12
 |1,3,_,_,_,h=>absurd rfl h
 |1,4,_,_,_,_=>x14
 |2,0,_,_,_,_=>x20
 |2,1,_,_,_,_=>x21
 |2,2,_,_,_,_=>x22
 |2,3,_,_,_,h=>absurd rfl h
 |2,4,_,_,_,_=>x24
 |3,_,_,_,h,_=>absurd rfl h
 |4,0,_,_,_,_=>x40
 |4,1,_,_,_,_=>x41
 |4,2,_,_,_,_=>x42
 |4,3,_,_,_,h=>absurd rfl h
 |4,4,_,_,_,_=>x44
 |_+5,_,h,_,_,_=>absurd h (by omega)
 |0,_+5,_,h,_,_=>absurd h (by omega)
 |1,_+5,_,h,_,_=>absurd h (by omega)
 |2,_+5,_,h,_,_=>absurd h (by omega)
 |4,_+5,_,h,_,_=>absurd h (by omega)
section
variable{K:W.Frag}{f T:Addr}{fd:FuncData}{oT:Value}{dT:Option Addr}{nT:Nat}{sT:Array (Option Value)}{tk:Tok}
theorem uv (F:jR K "kind_in" "kind_in" J53.sKin (.ref T) f fd) (lT:K.lookup T=some ⟨oT,dT,.seq #[.int 40 tk] nT,sT⟩):aL K fd J53.kiP [] :=
 F.binds lT fun _ _ _ _ _ _ us hl=>by
  have hl':us.length=4:=by simpa using hl
  match us,hl' with
  |[_,_,_,_],_=>exact⟨_,rfl,rfl⟩
theorem wq (F:jR K "look_at_body" "look_at_body" J53.sLookB (.ref T) f fd) (lT:K.lookup T=some ⟨oT,dT,.seq #[.int 40 tk] nT,sT⟩):aL K fd ["params","kind","expression","called","most"] [.int 40 tk] :=
 F.binds lT fun _ _ _ _ _ _ us hl=>by
  have hl':us.length=4:=by simpa using hl
  match us,hl' with
  |[_,_,_,_],_=>exact⟨_,rfl,rfl⟩
theorem wA (F:jR K "normal" "normal" dl (.ref T) f fd) (lT:K.lookup T=some ⟨oT,dT,.seq #[.int 40 tk] nT,sT⟩):aL K fd ["kind","own","parts","most"] [] :=
 F.binds lT fun _ _ _ _ _ _ us hl=>by
  have hl':us.length=4:=by simpa using hl
  match us,hl' with
  |[_,_,_,_],_=>exact⟨_,rfl,rfl⟩
theorem xc (F:jR K "take_item" "take_item" ca (.ref T) f fd) (lT:K.lookup T=some ⟨oT,dT,.seq #[.int 40 tk] nT,sT⟩):aL K fd tiP [.int 40 tk] :=
 F.binds lT fun _ _ _ _ _ _ us hl=>by
  have hl':us.length=3:=by simpa using hl
  match us,hl' with
  |[_,_,_],_=>exact⟨_,rfl,rfl⟩
end
section
variable{P:Program}{w:World}{K:W.Frag}{mg:Str->Option Value}{base:Heap}{cx:Nat->Addr}
theorem wS{f CF T fC fW fP fS fI fB fF fO:Addr}{fd fdC fdW fdP fdS fdI fdB fdF fdO:FuncData} (F:Fun K "law" "law" jV f fd) (ml:mg "len"=none) (mt:mg "tuple"=none) (mr:mg "range"=none) (cF:Cls K CF) (nK:bx K CF "kinds") (nF:bx K CF "funs")
  (GC:aV P w K mg base CX0 1 fC fdC ["_law_script","_law_k"] (J53.spCell K)) (bC:aL K fdC ["_law_script","_law_k"] []) (kC:W.keepIn K (.ref fC)=true) (mC:mg "_law_cell"=some (.ref fC))
  (GW:aV P w K mg base CX0 1 fW fdW ["_law_cell_here","_law_mark"] J53.spWord) (bW:aL K fdW ["_law_cell_here","_law_mark"] []) (kW:W.keepIn K (.ref fW)=true) (mW:mg "_law_word"=some (.ref fW))
  (GP:aV P w K mg base CX0 2 fP fdP ["_law_script","_law_k","_law_many"] (J53.spPick K)) (bP:aL K fdP ["_law_script","_law_k","_law_many"] []) (kP:W.keepIn K (.ref fP)=true) (mP:mg "_law_pick"=some (.ref fP))
  (GS:aV P w K mg base CX0 3 fS fdS ["_law_script","_law_k"] (J53.spSize K)) (bS:aL K fdS ["_law_script","_law_k"] []) (kS:W.keepIn K (.ref fS)=true) (mS:mg "_law_size"=some (.ref fS))
  (GI:aV P w K mg base CX0 4 fI fdI itP (jG K)) (bI:aL K fdI itP []) (kI:W.keepIn K (.ref fI)=true) (mI:mg "_law_items"=some (.ref fI))
  (GB:aV P w K mg base CX0 4 fB fdB sbP (iG K)) (bB:aL K fdB sbP []) (kB:W.keepIn K (.ref fB)=true) (mB:mg "_law_spoilt"=some (.ref fB))
  (GF:aV P w K mg base CX0 3 fF fdF fcP (jA K CF)) (bF:aL K fdF fcP []) (kF:W.keepIn K (.ref fF)=true) (mF:mg "_law_faces"=some (.ref fF))
  (GO:aV P w K mg base CX0 44 fO fdO woP (jF K CF T)) (bO:aL K fdO woP []) (kO:W.keepIn K (.ref fO)=true) (mO:mg "_law_word_of"=some (.ref fO))
  : aV P w K mg base CX0 45 f fd laP (xY K T):=by
 refine F.ok gG (fun vs H Q E h=>?_) (fun cdv A outer s H vs Q E hrO h=>?_)
 ·obtain⟨_,_,rfl,_⟩:=h
  rfl
 obtain⟨sc,ns,rfl,hS,h63,hT,q⟩:=h
 have hr1:cA 1 _:=hrO.mono (show 1<=44 by decide)
 have hr2:cA 2 _:=hrO.mono (show 2<=44 by decide)
 have hr3:cA 3 _:=hrO.mono (show 3<=44 by decide)
 obtain⟨t6,d6,k6⟩:=yE (P:=P) (w:=w) (K:=K) (mg:=mg) (base:=base) (f:=f) (cdv:=cdv) (A:=A) (outer:=outer) (s:=s) (H:=H) (Q:=Q) (E:=E) ml mt cF nK nF GI bI kI mI GB bB kB mB GF bF kF mF GO bO kO mO hrO
 obtain⟨t2,d2,k2⟩:∃t,PSs (dI CX0 P w K mg base ["_law_script","_law_words","_law_size_here","_law_more_here","_law_mode","_law_items_here","_law_spoilt_here","_law_due","_law_parts","_law_found","_law_fresh","_law_q"] "law" (aj jV) f cdv A outer s H E).nox (List.drop 2 (aw jV)) t /\
   ∀(H1:Hp) (lw:Addr) (c:Int) (a:Bool),aH H H1->H lw=none->H1 lw=some (.lst (wl (wfn c a false))) ->
    t { nx:=fun _ H'=>Q .non H',rt:=Q } [some (.ref sc),some (.ref lw),none,none,none,none,none,none,none,none,none,none] H1:=by
  refine⟨_,@ah _ _ _ _ _ (ay (i:=2) gG.nd rfl (Or.inl rfl) (au GS hr3 rfl mS kS bS .nil bQ (@aa _ _ _ _ _ (pv 0) (@aa _ _ _ _ _ ag ae rfl) rfl))) (@ah _ _ _ _ _ (ay (i:=3) gG.nd rfl (Or.inl rfl) (au GS hr3 rfl mS kS bS .nil bQ (@aa _ _ _ _ _ (pv 0) (@aa _ _ _ _ _ ag ae rfl) rfl))) (@ah _ _ _ _ _ (ay (i:=4) gG.nd rfl (Or.inl rfl) (au GP hr2 rfl mP kP bP .nil bQ (@aa _ _ _ _ _ (pv 0) (@aa _ _ _ _ _ ag (@aa _ _ _ _ _ ag ae rfl) rfl) rfl))) (@ah _ _ _ _ _ (bc (aB bu (au GP hr2 rfl mP kP bP .nil bQ (@aa _ _ _ _ _ (pv 0) (@aa _ _ _ _ _ ag (@aa _ _ _ _ _ ag ae rfl) rfl) rfl)) ag (aE _)) (@ao _ _ _ (jh (aq ap (pv 1) ag (fun _ _=>rfl)) (qZ (pv 1) ag jO))) aI) d6))),?_⟩
  intro H1 lw c a s1 hl0 hw
  refine⟨_,rfl,sc,ns,1,rfl,s1.seq hS,h63,by decide,by decide,fun N H2 s2 n0 n1=>?_⟩
  have s02:=s1.trans s2
  refine⟨_,rfl,sc,ns,2,rfl,s02.seq hS,h63,by decide,by decide,fun M H3 s3 m0 m1=>?_⟩
  have s03:=s02.trans s3
  have hw3:=(s2.trans s3) _ _ hw
  refine⟨_,rfl,sc,ns,10,2,rfl,s03.seq hS,h63,by decide,by decide,by decide,fun r r0 r1=>?_⟩
  obtain⟨mode,rfl⟩:=Int.eq_ofNat_of_zero_le r0
  refine⟨_,rfl,sc,ns,11,2,rfl,s03.seq hS,h63,by decide,by decide,by decide,fun r' r0' r1'=>?_⟩
  refine⟨rfl,_,rfl,dH (fun _=>?_) (fun _=>?_)⟩
  ·refine⟨_,rfl,lw,_,_,_,rfl,rfl,SqL.of hw3,(show atI (wl (wfn c a false)) 1=some (.str (wfn c a false 1)) from rfl),?_⟩
   refine⟨_,rfl,lw,_,6,6,rfl,rfl,hw3,rfl,?_⟩
   rw [zN]
   have s4:=jC (o:=.lst (wl (wfn c a true))) s03 hl0
   exact k6 _ _ sc lw ns _ N M mode _ _ _ _ _ _ _ rfl q (by omega) (s4.seq hS) h63 ac (wok c a true) (s4 _ _ hT)
  ·exact k6 _ _ sc lw ns _ N M mode _ _ _ _ _ _ _ rfl q (by omega) (s03.seq hS) h63 hw3 (wok c a false) (s03 _ _ hT)
 refine⟨_,@ah _ _ _ _ _ (vS (i0:=1) gG.nd rfl (Or.inl rfl) (own:=["_law_mark"]) (caps:=["_law_script"]) (κ:=[0]) rfl ⟨rfl,by decide +kernel,by decide +kernel,rfl,rfl,(fun y hy=>by simp only [List.mem_cons,List.not_mem_nil,or_false] at hy;rcases hy with rfl<;>rfl),(fun y hy=>by simp only [List.mem_cons,List.not_mem_nil,or_false] at hy;rcases hy with rfl<;>exact⟨.inl rfl,rfl,.inl rfl⟩)⟩ rfl (rK rfl mr (@aa _ _ _ _ _ ag ae rfl)) (fun _ _ _ _=>(aY (i:=0) (show(["_law_mark","_law_script"]:List Str).Nodup from by decide +kernel) rfl (Or.inl rfl))) (fun _ _ _ _=>(au GW hr1 rfl mW kW bW .nil bQ (@aa _ _ _ _ _ (au GC hr1 rfl mC kC bC .nil bQ (@aa _ _ _ _ _ (pv 1) (@aa _ _ _ _ _ ag ae rfl) rfl)) (@aa _ _ _ _ _ (pv 0) ae rfl) rfl)))) (@ah _ _ _ _ _ (bc (aB bu (au GP hr2 rfl mP kP bP .nil bQ (@aa _ _ _ _ _ (pv 0) (@aa _ _ _ _ _ ag (@aa _ _ _ _ _ ag ae rfl) rfl) rfl)) ag (aE _)) (@ah _ _ _ _ _ (jh (aq ap (pv 1) ag (fun _ _=>rfl)) (qZ (pv 1) ag jO)) (@ao _ _ _ (jh (aq ap (pv 1) ag (fun _ _=>rfl)) (qZ (pv 1) ag jO)))) aI) d2),?_⟩
 refine⟨_,rfl,by omega,by omega,oK (m:=16) (fun j Hz v=>v=.str (J53.wd (J53.cellOf ns 0) (j:Int))) (fun _ _ _ _ _ h=>h) (by omega) (fun j H2 N B hj s2 hN=>?_) (fun zs H2 lw s2 hzl hz hlw=>?_)⟩
 ·exact⟨rfl,dZ (B:=True) ⟨_,rfl,sc,ns,0,rfl,s2.seq hS,h63,by decide,by decide,_,rfl,J53.cellOf ns 0,_,rfl,fun H3 s3=>hN _ _ s3 (by rw [show(0:Int)+(j:Int)=(j:Int) by omega])⟩⟩
 have ez:zs=wl (wfn (J53.cellOf ns 0) false false):=by
  have e1:wl (wfn (J53.cellOf ns 0) false false)=(List.range 16).map fun i:Nat=>V.str (J53.wd (J53.cellOf ns 0) (i:Int)):=rfl
  rw [e1]
  apply List.ext_getElem?
  intro i
  rw [List.getElem?_map]
  by_cases hi:i < 16
  ·rw [List.getElem?_range hi,List.getElem?_eq_getElem (by omega)]
   exact congrArg some (hz i _ (List.getElem?_eq_getElem (by omega)))
  ·rw [List.getElem?_eq_none (by omega),List.getElem?_eq_none (l:=List.range 16) (by rw [List.length_range];omega)]
   rfl
 subst ez
 have s3:=s2.trans (ad hlw (.lst (wl (wfn (J53.cellOf ns 0) false false))))
 have hw3:=ac (H:=H2) (a:=lw) (o:=.lst (wl (wfn (J53.cellOf ns 0) false false)))
 have hl0:=s2.free hlw
 generalize upd H2 lw (.lst (wl (wfn (J53.cellOf ns 0) false false)))=H3 at s3 hw3 ⊢
 refine⟨_,rfl,sc,ns,6,3,rfl,s3.seq hS,h63,by decide,by decide,by decide,fun r r0 r1=>?_⟩
 refine⟨rfl,_,rfl,dH (fun _=>?_) (fun _=>?_)⟩
 ·refine⟨_,rfl,lw,_,_,_,rfl,rfl,SqL.of hw3,(show atI (wl (wfn (J53.cellOf ns 0) false false)) 7=some (.str (wfn (J53.cellOf ns 0) false false 7)) from rfl),?_⟩
  refine⟨_,rfl,lw,_,10,10,rfl,rfl,hw3,rfl,?_⟩
  have g4:=ac (H:=H3) (a:=lw) (o:=.lst ((wl (wfn (J53.cellOf ns 0) false false)).set 10 (.str (wfn (J53.cellOf ns 0) false false 7))))
  have s4:=jC (o:=.lst ((wl (wfn (J53.cellOf ns 0) false false)).set 10 (.str (wfn (J53.cellOf ns 0) false false 7)))) s3 hl0
  generalize upd H3 lw (.lst ((wl (wfn (J53.cellOf ns 0) false false)).set 10 (.str (wfn (J53.cellOf ns 0) false false 7))))=H4 at g4 s4 ⊢
  refine⟨_,rfl,lw,_,_,_,rfl,rfl,SqL.of g4,(show atI ((wl (wfn (J53.cellOf ns 0) false false)).set 10 (.str (wfn (J53.cellOf ns 0) false false 7))) 11=some (.str (wfn (J53.cellOf ns 0) false false 11)) from rfl),?_⟩
  refine⟨_,rfl,lw,_,8,8,rfl,rfl,g4,rfl,?_⟩
  rw [Af]
  exact k2 _ lw (J53.cellOf ns 0) true (jC s4 hl0) hl0 ac
 ·exact k2 _ lw (J53.cellOf ns 0) false s3 hl0 hw3
end
end K53
namespace PySem.W.Fast
def tw18312929170413586461:=()
def tw9206596792239197835:=()
def tw12483424733779215795:=()
def tw7592199946993282139:=()
def tw12276402306969843141:=()
def tw9609919919710905577:=()
def tw1984143324695887288:=()
def tw16683304167550117712:=()
def tw3625495306586176705:=()
def tw3323492035393832450:=()
def tw12978099293972711003:=()
def tw16436404778251681513:=()
def tw17033609701753483672:=()
def tw18041262738466001462:=()
def tw17042816159360115452:=()
def tw16237529985036921097:=()
def tw2544785448466320260:=()
def tw18196352230729387509:=()
def tw12187477307967950916:=()
def tw16467294061235435085:=()
def tw17107501041096858069:=()
def tw15255135435171389084:=()
def tw5122332606042820007:=()
def tw1913360971047132200:=()
def tw14666063000632897377:=()
def tw9573053105710138003:=()
def tw5618237501921377394:=()
def tw4302340301653897909:=()
def tw11989049698305254816:=()
def tw7710306339242994479:=()
def tw3883975031203670571:=()
def tw3921297300185800958:=()
def tw156946373602227145:=()
def tw5523735041706784716:=()
def tw3779134092112567726:=()
def tw8397361956136322102:=()
def tw17667581508262430850:=()
def tw2716524694054144570:=()
def tw1928114874898812013:=()
def tw11599438631165801354:=()
def tw2386807802667626348:=()
def tw17439582815114983973:=()
def tw10625344891623517628:=()
def tw592238455610667730:=()
def tw8974425340130177470:=()
def tw18222664163144057101:=()
def tw11488085652204292192:=()
def tw3203851720936243309:=()
def tw4104319888152053793:=()
def tw3133995456558130453:=()
def tw3869675855275261152:=()
def tw12030442222117877664:=()
def tw12208937912940114306:=()
def tw13559460818615299958:=()
def tw17869964089487479708:=()
def tw17243241121382373552:=()
def tw14883713661558322294:=()
def tw3060059394010000914:=()
def tw11582270360254672829:=()
def tw1471263504886242511:=()
def tw7821222293459153736:=()
def tw5860680405462237892:=()
def tw7695092570328316997:=()
def tw14626076102299163939:=()
def tw50173317461503790:=()
def tw12876283141631765214:=()
def tw18324603127230194436:=()
def tw14097140401446646717:=()
def tw5389295987867274910:=()
def tw13257726766908871756:=()
def tw11288671449407755060:=()
def tw2008216537529378293:=()
def tw6677595119559460895:=()
def tw8511902111965984173:=()
def tw2759836913160319372:=()
def tw6958276758613584152:=()
def tw17799810811086118065:=()
def tw2043302601771891790:=()
def tw18372540869511195755:=()
def tw8212064113016388799:=()
def tw8485327233675779393:=()
def tw802046153070553363:=()
def tw15236313603657506900:=()
def tw16768701429504797354:=()
def tw14297470375156409153:=()
def tw7070582640929689959:=()
def tw8950258960036346416:=()
def tw16401540249445571579:=()
def tw6392739912668081039:=()
def tw9033355481012285877:=()
def tw17947726392899698537:=()
def tw15253213784985537481:=()
def tw16797714508960555618:=()
def tw15682129022932598348:=()
def tw4364893701579236710:=()
def tw5121913059122933240:=()
def tw10993435385597881500:=()
def tw15868775116470467836:=()
def tw706101770776262380:=()
def tw14630329655242079120:=()
def tw28223407132994783:=()
def tw17784855562114978971:=()
def tw5356432271967878934:=()
def tw14384229794246686012:=()
def tw30889246399306502:=()
def tw12325231966022494952:=()
def tw2311498309642174053:=()
def tw4835330526173271885:=()
def tw15092912552573209343:=()
def tw3886188810315261096:=()
def tw5934809058051058236:=()
def tw9989202149151270353:=()
def tw6901672057155985571:=()
def tw366999499685754795:=()
def tw7751047719352042930:=()
def tw14224788960720009375:=()
def tw17558665743246370106:=()
def tw17913219590103336881:=()
def tw9612076765196796072:=()
def tw1730426357038842455:=()
def tw4116341231512806811:=()
def tw3269175685564968406:=()
def tw11957749602053694797:=()
def tw9338009579361772312:=()
def tw8402506043117936091:=()
def tw6132304181461882056:=()
def tw8594152479785729359:=()
def tw16420145866457407538:=()
def tw4370450891109552602:=()
def tw4153113176907362644:=()
def tw9128651662414091148:=()
def tw13553903861445735292:=()
def tw14487674053529991984:=()
def tw16140159480199691492:=()
def tw3203464818120732822:=()
def tw13354632898057177747:=()
def tw6250748277452267965:=()
def tw15727270422627657285:=()
def tw15324756039404842518:=()
def tw10122580654928517683:=()
def tw5047313787851545221:=()
def tw6072208061853639113:=()
def tw15335334783951831723:=()
def tw4957340139723989638:=()
def tw2851050750577480491:=()
def tw3643330558433050977:=()
def tw4408298680803614620:=()
def tw16876224857429495686:=()
def tw4100131777576987990:=()
def tw614068231579593196:=()
def tw9132683382018620006:=()
def tw6979286628637271048:=()
def tw7697342676227884033:=()
def tw15424895929317940282:=()
def tw1445932231793662312:=()
def tw13808015943193206016:=()
def tw8727850888867282539:=()
def tw3528251687690792138:=()
def tw8391283815010598352:=()
def tw4046005313957951447:=()
def tw3612096087947396983:=()
def tw16776929071283176357:=()
def tw1320777983570163364:=()
def tw2143120344213997028:=()
def tw651783466482860632:=()
def tw3979933111335902333:=()
def tw1340562509523337025:=()
def tw7006711890445355219:=()
def tw7853134271465211976:=()
def tw14012235015394154296:=()
def tw3496687517354065823:=()
def tw17352700490874065229:=()
def tw10789344934699917394:=()
def tw11063810189816189613:=()
def tw10513651420987264127:=()
def tw4182831496379175963:=()
def tw3947799857741240877:=()
def tw4576107636807435909:=()
def tw18173713858453346683:=()
def tw1697614828249102278:=()
def tw3027851802612470047:=()
def tw17273262581790031796:=()
def tw17151095048017056815:=()
def tw12389796400927553109:=()
def tw8904331277262670110:=()
def tw4534177283801180848:=()
def tw1945717258760171114:=()
def tw1595045255978776841:=()
def tw9085502107186231367:=()
def tw3639592898018434243:=()
def tw3025079949933985313:=()
def tw1746574055110347547:=()
def tw11995986280875734562:=()
def tw13279217197942264174:=()
def tw12113496630652720829:=()
def tw12450979711781289905:=()
def tw11393725701512230540:=()
def tw17843520262477231832:=()
def tw9709477840559697268:=()
def tw39068888694045891:=()
def tw9969833892401215861:=()
def tw2593239128666848601:=()
def tw15095263615231866123:=()
def tw17469517271469038318:=()
def tw6438903139602070267:=()
def tw16961921165254626736:=()
def tw3265077977216608907:=()
def tw3262152510978906947:=()
def tw9921252671147939184:=()
def tw7540802763660914794:=()
def tw7854379703627972015:=()
def tw6854161341732428851:=()
def tw12989231493012701136:=()
def tw12096674457529728255:=()
def tw8860326804394111324:=()
def tw17654050040385467656:=()
def tw5491002644444494264:=()
def tw13659265546183386128:=()
def tw7981077672685688082:=()
def tw12537319995554354663:=()
def tw7156425507107418441:=()
def tw9232229291618426395:=()
def tw4862501727967796904:=()
def tw10178748332340647556:=()
def tw7425576329720593429:=()
def tw8233505994238562472:=()
def tw56176403845356502:=()
def tw206841200356568026:=()
def tw3295667811465616645:=()
def tw13043666373267982027:=()
def tw14113813915549815978:=()
def tw449762805291878689:=()
def tw16010364678398214450:=()
def tw14294841336899949340:=()
def tw5301214629548311876:=()
def tw11674257359197870714:=()
def tw5948380010153173366:=()
def tw2871010148941781011:=()
def tw7759752276016742637:=()
def tw9332981586144579222:=()
def tw10412248062503553156:=()
def tw12475829602290568033:=()
def tw8808981861575702593:=()
def tw5156385527963134036:=()
def tw17548412388902768176:=()
def tw14707062482461316852:=()
def tw13058361139837346514:=()
def tw14575795314940185102:=()
def tw3442207819550668380:=()
def tw5102991517984463515:=()
def tw2487263589281285260:=()
def tw16121989598087519917:=()
def tw16847751665935248731:=()
def tw15188759314161052043:=()
def tw4809914871915334273:=()
def tw5002623434013642799:=()
def tw2955698471578847001:=()
def tw8848328859013175931:=()
def tw691862582673902516:=()
def tw15101637547693519934:=()
def tw2341762468859421709:=()
def tw13946577882425928416:=()
def tw10740809031693553869:=()
def tw16062598797080546497:=()
def tw15166660185418813397:=()
def tw5089997037814054732:=()
def tw11197146265534707903:=()
def tw7025300698447725581:=()
def tw595179737255069169:=()
def tw5503051175350558067:=()
def tw6580302728562139860:=()
def tw349538076617381469:=()
def tw1143771618344488575:=()
def tw2534240289902578460:=()
def tw16725469706902010881:=()
def tw9917827712314387789:=()
def tw862287099321854389:=()
def tw6429418688887103538:=()
def tw1086105747694203737:=()
def tw1680299732412179138:=()
def tw17517545972558842933:=()
def tw4580503782637762215:=()
def tw15885018876855979989:=()
def tw3943969200440425371:=()
def tw1935539347398860366:=()
def tw1698087752661625530:=()
def tw13179047933852075660:=()
def tw2086010055261284740:=()
def tw5849353852663559149:=()
def tw12425679319024799149:=()
def tw7034830187764250370:=()
def tw10016592449160658392:=()
def tw6781344507321929224:=()
def tw15119064526336223707:=()
def tw4882892217244931367:=()
def tw17904195695326339744:=()
def tw11242192146709654892:=()
def tw11333972612458515956:=()
def tw2284559867029977049:=()
def tw9277471409792147373:=()
def tw2720908940757292152:=()
def tw7025988958249075549:=()
def tw7905311935548385671:=()
def tw1008811192597044160:=()
def tw743144030814380042:=()
def tw3877253625367000354:=()
def tw2404098883784245107:=()
def tw4850350870714526113:=()
def tw1409259170049957315:=()
def tw3977015165637727828:=()
def tw9634889253537940204:=()
def tw7863896546656775887:=()
def tw18442019620337282321:=()
def tw14561632357559427732:=()
def tw11346577436753394962:=()
def tw1495922399865347852:=()
def tw3354915002333394707:=()
def tw4916812030672263032:=()
def tw14093079500796584668:=()
def tw11142596781935391966:=()
def tw13264106293349658794:=()
def tw92458822900900891:=()
def tw2803338658126229247:=()
def tw18169973199207898576:=()
def tw18224268004809669851:=()
def tw13977647481353964274:=()
def tw3076263833093550676:=()
def tw8015457180298260281:=()
def tw2256004462898784138:=()
def tw15402117052154094518:=()
def tw5275902186792791597:=()
def tw270689681610505865:=()
def tw4449872947276088276:=()
def tw16989989667043901973:=()
def tw2246585591145251542:=()
def tw10656693288912847431:=()
def tw12295803156070305033:=()
def tw2605900752600552704:=()
def tw7294243744585772184:=()
def tw7638000633491980567:=()
def tw18198304884036909087:=()
def tw12601891188212199254:=()
def tw15182500342171274291:=()
def tw4190401130206201779:=()
def tw15458289928794403709:=()
def tw13560682656909838892:=()
def tw17314769114201064845:=()
def tw8546919698405413332:=()
def tw13104072488085407937:=()
end PySem.W.Fast
namespace K53
open PySem L2 Kk
theorem all_mk{l:W.OpenLaw}{q:Program}{w:World}{K:W.Frag}{h:Heap}{mg:Str->Option Value}{fa f1 f2 f3 f4 f5 f6 f7 f8 f9 f10 f11 f12 f13 f14 f15 f16 f17 f18 f19 f20 f21 f22 f23 f24 f25 f26:Addr}(X:K.In h)(G:h.Ns mainGlobals mg) (hfa:mg "law"=some (.ref fa))
  {od1 an1 od2 an2 od3 an3 od4 an4 od5 an5 od6 an6 od7 an7 od8 an8 od9 an9 od10 an10 od11 an11 od12 an12 od13 an13 od14 an14 od15 an15 od16 an16 od17 an17 od18 an18 od19 an19 od20 an20 od21 an21 od22 an22 od23 an23 od24 an24 od25 an25 od26 an26:Option Addr} {sl1 sl2 sl3 sl4 sl5 sl6 sl7 sl8 sl9 sl10 sl11 sl12 sl13 sl14 sl15 sl16 sl17 sl18 sl19 sl20 sl21 sl22 sl23 sl24 sl25 sl26:Array (Option Value)} {oc1 kV1 dc1 pm1 ct1 cd1 oc2 kV2 dc2 pm2 ct2 cd2 oc3 kV3 dc3 pm3 ct3 cd3 oc4 kV4 dc4 pm4 ct4 cd4 oc5 kV5 dc5 pm5 ct5 cd5 oc6 kV6 dc6 pm6 ct6 cd6 oc7 kV7 dc7 pm7 ct7 cd7 oc8 kV8 dc8 pm8 ct8 cd8 oc9 kV9 dc9 pm9 ct9 cd9 oc10 kV10 dc10 pm10 ct10 cd10 oc11 kV11 dc11 pm11 ct11 cd11 oc12 kV12 dc12 pm12 ct12 cd12 oc13 kV13 dc13 pm13 ct13 cd13 oc14 kV14 dc14 pm14 ct14 oc15 kV15 dc15 pm15 ct15 cd15 oc16 kV16 dc16 pm16 ct16 cd16 oc17 kV17 dc17 pm17 ct17 cd17 oc18 kV18 dc18 pm18 ct18 cd18 oc19 kV19 dc19 pm19 ct19 cd19 oc20 kV20 dc20 pm20 ct20 cd20 oc21 kV21 dc21 pm21 ct21 cd21 oc22 kV22 dc22 pm22 ct22 cd22 oc23 kV23 dc23 pm23 ct23 cd23 oc24 kV24 dc24 pm24 ct24 cd24 oc25 kV25 dc25 pm25 ct25 cd25 oc26 kV26 dc26 pm26 ct26 cd26:Value} {cc14 PT14:Addr}
  {pA fk TD fb TB CA CC CW CT CZ CK CF fn T1 fv T5 fi:Addr} {nA nQ nQ2 nT1 nT5:Nat} {odk ank dT odb anb dT2 odn ann dT1 odv anv dT5 odi ani:Option Addr} {slk sT slb sT2 sln sT1 slv sT5 sli:Array (Option Value)} {ock kVk dck pmk cdk ctk oT ocb kVb dcb pmb cdb ctb oT2 ocn kVn dcn pmn cdn ctn oT1 ocv kVv dcv pmv cdv' ctv oT5 oci kVi dci pmi cdi cti:Value} {tk tk2 tk1' tk5 g1 g2 g3 g4 g5 g6 g7 g8 y1 y2 y3 y4 y5 y6 y7 y8:Tok}
  (a1:W.nsIn K mainGlobals "within"=some (some (.ref f1))) (l1:K.lookup f1=some ⟨oc1,od1,.func (W.fnOf "within" "within" (aD J53.sWithin) (aw J53.sWithin) (aj J53.sWithin) .none kV1 dc1 pm1 an1 cd1 ct1),sl1⟩) (c1:W.codeIn K cd1 "within"=true) (k1:W.keepIn K (.ref f1)=true)
  (a2:W.nsIn K mainGlobals "words_in"=some (some (.ref f2))) (l2:K.lookup f2=some ⟨oc2,od2,.func (W.fnOf "words_in" "words_in" (aD fA) (aw fA) (aj fA) .none kV2 dc2 pm2 an2 cd2 ct2),sl2⟩) (c2:W.codeIn K cd2 "words_in"=true) (k2:W.keepIn K (.ref f2)=true)
  (a3:W.nsIn K mainGlobals "names_in"=some (some (.ref f3))) (l3:K.lookup f3=some ⟨oc3,od3,.func (W.fnOf "names_in" "names_in" (aD iT) (aw iT) (aj iT) .none kV3 dc3 pm3 an3 cd3 ct3),sl3⟩) (c3:W.codeIn K cd3 "names_in"=true) (k3:W.keepIn K (.ref f3)=true)
  (a4:W.nsIn K mainGlobals "put"=some (some (.ref f4))) (l4:K.lookup f4=some ⟨oc4,od4,.func (W.fnOf "put" "put" (aD vT) (aw vT) (aj vT) .none kV4 dc4 pm4 an4 cd4 ct4),sl4⟩) (c4:W.codeIn K cd4 "put"=true) (k4:W.keepIn K (.ref f4)=true)
  (a5:W.nsIn K mainGlobals "bounded"=some (some (.ref f5))) (l5:K.lookup f5=some ⟨oc5,od5,.func (W.fnOf "bounded" "bounded" (aD cV) (aw cV) (aj cV) .none kV5 dc5 pm5 an5 cd5 ct5),sl5⟩) (c5:W.codeIn K cd5 "bounded"=true) (k5:W.keepIn K (.ref f5)=true)
  (a6:W.nsIn K mainGlobals "told_kind"=some (some (.ref f6))) (l6:K.lookup f6=some ⟨oc6,od6,.func (W.fnOf "told_kind" "told_kind" (aD cP) (aw cP) (aj cP) .none kV6 dc6 pm6 an6 cd6 ct6),sl6⟩) (c6:W.codeIn K cd6 "told_kind"=true) (k6:W.keepIn K (.ref f6)=true)
  (a7:W.nsIn K mainGlobals "take_opened"=some (some (.ref f7))) (l7:K.lookup f7=some ⟨oc7,od7,.func (W.fnOf "take_opened" "take_opened" (aD aX) (aw aX) (aj aX) .none kV7 dc7 pm7 an7 cd7 ct7),sl7⟩) (c7:W.codeIn K cd7 "take_opened"=true) (k7:W.keepIn K (.ref f7)=true)
  (a8:W.nsIn K mainGlobals "add_once"=some (some (.ref f8))) (l8:K.lookup f8=some ⟨oc8,od8,.func (W.fnOf "add_once" "add_once" (aD eO) (aw eO) (aj eO) .none kV8 dc8 pm8 an8 cd8 ct8),sl8⟩) (c8:W.codeIn K cd8 "add_once"=true) (k8:W.keepIn K (.ref f8)=true)
  (a9:W.nsIn K mainGlobals "variable_kind"=some (some (.ref f9))) (l9:K.lookup f9=some ⟨oc9,od9,.func (W.fnOf "variable_kind" "variable_kind" (aD J53.sVarK) (aw J53.sVarK) (aj J53.sVarK) .none kV9 dc9 pm9 an9 cd9 ct9),sl9⟩) (c9:W.codeIn K cd9 "variable_kind"=true) (k9:W.keepIn K (.ref f9)=true)
  (a10:W.nsIn K mainGlobals "answer_kind"=some (some (.ref f10))) (l10:K.lookup f10=some ⟨oc10,od10,.func (W.fnOf "answer_kind" "answer_kind" (aD J53.sAnsK) (aw J53.sAnsK) (aj J53.sAnsK) .none kV10 dc10 pm10 an10 cd10 ct10),sl10⟩) (c10:W.codeIn K cd10 "answer_kind"=true) (k10:W.keepIn K (.ref f10)=true)
  (a11:W.nsIn K mainGlobals "kind_by_form"=some (some (.ref f11))) (l11:K.lookup f11=some ⟨oc11,od11,.func (W.fnOf "kind_by_form" "kind_by_form" (aD J53.sKbf) (aw J53.sKbf) (aj J53.sKbf) .none kV11 dc11 pm11 an11 cd11 ct11),sl11⟩) (c11:W.codeIn K cd11 "kind_by_form"=true) (k11:W.keepIn K (.ref f11)=true)
  (a12:W.nsIn K mainGlobals "demand"=some (some (.ref f12))) (l12:K.lookup f12=some ⟨oc12,od12,.func (W.fnOf "demand" "demand" (aD J53.sDem) (aw J53.sDem) (aj J53.sDem) .none kV12 dc12 pm12 an12 cd12 ct12),sl12⟩) (c12:W.codeIn K cd12 "demand"=true) (k12:W.keepIn K (.ref f12)=true)
  (a13:W.nsIn K mainGlobals "look_within"=some (some (.ref f13))) (l13:K.lookup f13=some ⟨oc13,od13,.func (W.fnOf "look_within" "look_within" (aD ja) (aw ja) (aj ja) .none kV13 dc13 pm13 an13 cd13 ct13),sl13⟩) (c13:W.codeIn K cd13 "look_within"=true) (k13:W.keepIn K (.ref f13)=true)
  (a14:W.nsIn K mainGlobals "look_at_fun"=some (some (.ref f14))) (l14:K.lookup f14=some ⟨oc14,od14,.func (W.fnOf "look_at_fun" "look_at_fun" (aD ib) (aw ib) (aj ib) .none kV14 dc14 pm14 an14 (.ref cc14) ct14),sl14⟩) (c14:W.codeIn K (.ref cc14) "look_at_fun"=true) (k14:W.keepIn K (.ref f14)=true)
  (a15:W.nsIn K mainGlobals "told_fun"=some (some (.ref f15))) (l15:K.lookup f15=some ⟨oc15,od15,.func (W.fnOf "told_fun" "told_fun" (aD dA) (aw dA) (aj dA) .none kV15 dc15 pm15 an15 cd15 ct15),sl15⟩) (c15:W.codeIn K cd15 "told_fun"=true) (k15:W.keepIn K (.ref f15)=true)
  (a16:W.nsIn K mainGlobals "_law_cell"=some (some (.ref f16))) (l16:K.lookup f16=some ⟨oc16,od16,.func (W.fnOf "_law_cell" "_law_cell" (aD J53.sCell) (aw J53.sCell) (aj J53.sCell) .none kV16 dc16 pm16 an16 cd16 ct16),sl16⟩) (c16:W.codeIn K cd16 "_law_cell"=true) (k16:W.keepIn K (.ref f16)=true)
  (a17:W.nsIn K mainGlobals "_law_pick"=some (some (.ref f17))) (l17:K.lookup f17=some ⟨oc17,od17,.func (W.fnOf "_law_pick" "_law_pick" (aD J53.sPick) (aw J53.sPick) (aj J53.sPick) .none kV17 dc17 pm17 an17 cd17 ct17),sl17⟩) (c17:W.codeIn K cd17 "_law_pick"=true) (k17:W.keepIn K (.ref f17)=true)
  (a18:W.nsIn K mainGlobals "_law_word"=some (some (.ref f18))) (l18:K.lookup f18=some ⟨oc18,od18,.func (W.fnOf "_law_word" "_law_word" (aD J53.sWord) (aw J53.sWord) (aj J53.sWord) .none kV18 dc18 pm18 an18 cd18 ct18),sl18⟩) (c18:W.codeIn K cd18 "_law_word"=true) (k18:W.keepIn K (.ref f18)=true)
  (a19:W.nsIn K mainGlobals "_law_size"=some (some (.ref f19))) (l19:K.lookup f19=some ⟨oc19,od19,.func (W.fnOf "_law_size" "_law_size" (aD J53.sSize) (aw J53.sSize) (aj J53.sSize) .none kV19 dc19 pm19 an19 cd19 ct19),sl19⟩) (c19:W.codeIn K cd19 "_law_size"=true) (k19:W.keepIn K (.ref f19)=true)
  (a20:W.nsIn K mainGlobals "_law_faces"=some (some (.ref f20))) (l20:K.lookup f20=some ⟨oc20,od20,.func (W.fnOf "_law_faces" "_law_faces" (aD gc) (aw gc) (aj gc) .none kV20 dc20 pm20 an20 cd20 ct20),sl20⟩) (c20:W.codeIn K cd20 "_law_faces"=true) (k20:W.keepIn K (.ref f20)=true)
  (a21:W.nsIn K mainGlobals "_law_taken"=some (some (.ref f21))) (l21:K.lookup f21=some ⟨oc21,od21,.func (W.fnOf "_law_taken" "_law_taken" (aD gi) (aw gi) (aj gi) .none kV21 dc21 pm21 an21 cd21 ct21),sl21⟩) (c21:W.codeIn K cd21 "_law_taken"=true) (k21:W.keepIn K (.ref f21)=true)
  (a22:W.nsIn K mainGlobals "_law_items"=some (some (.ref f22))) (l22:K.lookup f22=some ⟨oc22,od22,.func (W.fnOf "_law_items" "_law_items" (aD gs) (aw gs) (aj gs) .none kV22 dc22 pm22 an22 cd22 ct22),sl22⟩) (c22:W.codeIn K cd22 "_law_items"=true) (k22:W.keepIn K (.ref f22)=true)
  (a23:W.nsIn K mainGlobals "_law_more"=some (some (.ref f23))) (l23:K.lookup f23=some ⟨oc23,od23,.func (W.fnOf "_law_more" "_law_more" (aD jg) (aw jg) (aj jg) .none kV23 dc23 pm23 an23 cd23 ct23),sl23⟩) (c23:W.codeIn K cd23 "_law_more"=true) (k23:W.keepIn K (.ref f23)=true)
  (a24:W.nsIn K mainGlobals "_law_spoilt"=some (some (.ref f24))) (l24:K.lookup f24=some ⟨oc24,od24,.func (W.fnOf "_law_spoilt" "_law_spoilt" (aD dC) (aw dC) (aj dC) .none kV24 dc24 pm24 an24 cd24 ct24),sl24⟩) (c24:W.codeIn K cd24 "_law_spoilt"=true) (k24:W.keepIn K (.ref f24)=true)
  (a25:W.nsIn K mainGlobals "_law_word_of"=some (some (.ref f25))) (l25:K.lookup f25=some ⟨oc25,od25,.func (W.fnOf "_law_word_of" "_law_word_of" (aD em) (aw em) (aj em) .none kV25 dc25 pm25 an25 cd25 ct25),sl25⟩) (c25:W.codeIn K cd25 "_law_word_of"=true) (k25:W.keepIn K (.ref f25)=true)
  (a26:W.nsIn K mainGlobals "law"=some (some (.ref f26))) (l26:K.lookup f26=some ⟨oc26,od26,.func (W.fnOf "law" "law" (aD jV) (aw jV) (aj jV) .none kV26 dc26 pm26 an26 cd26 ct26),sl26⟩) (c26:W.codeIn K cd26 "law"=true) (k26:W.keepIn K (.ref f26)=true)
  (t14:W.tabIn K "look_at_fun"=some (cc14,PT14)) (h14:W.codeHdIn K cc14 PT14=true) (r14:∃d,(PyProof.Rows.recsOf q).find? (fun e=>e.name==("look_at_fun":Str))=some d)
  (nT:W.noTabs K=true) (nD:([PT14]:List Addr).Nodup)
  (eH:W.nsIn K mainGlobals "AHEAD"=some (some (.ref pA)))
  (lH:K.lookup pA=some ⟨.type "dict",none,.dict #[⟨hashStr w "op",.str "op" g1,.int 3 y1⟩,⟨hashStr w "test",.str "test" g2,.int 2 y2⟩,⟨hashStr w "as",.str "as" g3,.int 2 y3⟩,⟨hashStr w "let",.str "let" g4,.int 2 y4⟩,⟨hashStr w "if",.str "if" g5,.int 1 y5⟩,⟨hashStr w "two",.str "two" g6,.int 1 y6⟩,⟨hashStr w "first",.str "first" g7,.int 1 y7⟩,⟨hashStr w "second",.str "second" g8,.int 1 y8⟩] nA,#[]⟩)
  (qH:(pA==sysModules)=false)
  (af:W.nsIn K mainGlobals "kind_in"=some (some (.ref fk)))
  (lf:K.lookup fk=some ⟨ock,odk,.func (W.fnOf "kind_in" "kind_in" (aD J53.sKin) (aw J53.sKin) (aj J53.sKin) (.ref TD) kVk dck pmk ank cdk ctk),slk⟩)
  (cf:W.codeIn K cdk "kind_in"=true)
  (kf:W.keepIn K (.ref fk)=true)
  (lT:K.lookup TD=some ⟨oT,dT,.seq #[.int 40 tk] nQ,sT⟩)
  (ab:W.nsIn K mainGlobals "look_at_body"=some (some (.ref fb)))
  (lb:K.lookup fb=some ⟨ocb,odb,.func (W.fnOf "look_at_body" "look_at_body" (aD J53.sLookB) (aw J53.sLookB) (aj J53.sLookB) (.ref TB) kVb dcb pmb anb cdb ctb),slb⟩)
  (cb:W.codeIn K cdb "look_at_body"=true)
  (kb:W.keepIn K (.ref fb)=true)
  (lT2:K.lookup TB=some ⟨oT2,dT2,.seq #[.int 40 tk2] nQ2,sT2⟩)
  (an:W.nsIn K mainGlobals "normal"=some (some (.ref fn)))
  (ln:K.lookup fn=some ⟨ocn,odn,.func (W.fnOf "normal" "normal" (aD dl) (aw dl) (aj dl) (.ref T1) kVn dcn pmn ann cdn ctn),sln⟩)
  (cn:W.codeIn K cdn "normal"=true)
  (kn:W.keepIn K (.ref fn)=true)
  (lT1:K.lookup T1=some ⟨oT1,dT1,.seq #[.int 40 tk1'] nT1,sT1⟩)
  (av:W.nsIn K mainGlobals "take_item"=some (some (.ref fv)))
  (lv:K.lookup fv=some ⟨ocv,odv,.func (W.fnOf "take_item" "take_item" (aD ca) (aw ca) (aj ca) (.ref T5) kVv dcv pmv anv cdv' ctv),slv⟩)
  (cv:W.codeIn K cdv' "take_item"=true)
  (kv:W.keepIn K (.ref fv)=true)
  (lT5:K.lookup T5=some ⟨oT5,dT5,.seq #[.int 40 tk5] nT5,sT5⟩)
  (aF:W.nsIn K mainGlobals "Face"=some (some (.ref CF)))
  (iF:W.findIn K (.ref CF) "__init__"=some (some (.ref fi)))
  (li:K.lookup fi=some ⟨oci,odi,.func (W.fnOf "__init__" "Face.__init__" (aD oG) (aw oG) (aj oG) .none kVi dci pmi ani cdi cti),sli⟩)
  (ci:W.codeIn K cdi "Face.__init__"=true)
  (ki:W.keepIn K (.ref fi)=true)
  (tF:W.isFn K (.ref fi)=true)
  (mk:W.makesIn K CF=true)
  (kF:W.keepIn K (.ref CF)=true)
  (pg:W.plainGet K CF Str.empty=true)
  (hd:W.hasDictIn K CF=true)
  (po:W.plainOver K CF=true)
  (sa:W.findIn K (.ref CF) "__setattr__"=some (some (.builtin "object.__setattr__")))
  (nK:W.findIn K (.ref CF) "kinds"=some none)
  (nF:W.findIn K (.ref CF) "funs"=some none)
  (aA:W.nsIn K mainGlobals "NoName"=some (some (.ref CA)))
  (aC:W.nsIn K mainGlobals "NoCount"=some (some (.ref CC)))
  (aW:W.nsIn K mainGlobals "WrongKind"=some (some (.ref CW)))
  (aT:W.nsIn K mainGlobals "TooBig"=some (some (.ref CT)))
  (aZ:W.nsIn K mainGlobals "Twice"=some (some (.ref CZ)))
  (aK:W.nsIn K mainGlobals "NoKind"=some (some (.ref CK)))
  (xA:W.excIn K CA iM "ValueError.__new__"=true)
  (xC:W.excIn K CC iM "ValueError.__new__"=true)
  (xW:W.excIn K CW iM "ValueError.__new__"=true)
  (xT:W.excIn K CT iM "ValueError.__new__"=true)
  (xZ:W.excIn K CZ iM "ValueError.__new__"=true)
  (xK:W.excIn K CK iM "ValueError.__new__"=true)
  (u00:W.exmOne K (.ref CA) (.ref CA)=some true)
  (u01:W.exmOne K (.ref CA) (.ref CC)=some false)
  (u02:W.exmOne K (.ref CA) (.ref CW)=some false)
  (u04:W.exmOne K (.ref CA) (.ref CZ)=some false)
  (u10:W.exmOne K (.ref CC) (.ref CA)=some false)
  (u11:W.exmOne K (.ref CC) (.ref CC)=some true)
  (u12:W.exmOne K (.ref CC) (.ref CW)=some false)
  (u14:W.exmOne K (.ref CC) (.ref CZ)=some false)
  (u20:W.exmOne K (.ref CW) (.ref CA)=some false)
  (u21:W.exmOne K (.ref CW) (.ref CC)=some false)
  (u22:W.exmOne K (.ref CW) (.ref CW)=some true)
  (u24:W.exmOne K (.ref CW) (.ref CZ)=some false)
  (u40:W.exmOne K (.ref CZ) (.ref CA)=some false)
  (u41:W.exmOne K (.ref CZ) (.ref CC)=some false)
  (u42:W.exmOne K (.ref CZ) (.ref CW)=some false)
  (u44:W.exmOne K (.ref CZ) (.ref CZ)=some true)
  (z1:W.nsIn K mainGlobals "len"=some none)
  (z2:W.nsIn K mainGlobals "list"=some none)
  (z3:W.nsIn K mainGlobals "range"=some none)
  (z4:W.nsIn K mainGlobals "dict"=some none)
  (z5:W.nsIn K mainGlobals "tuple"=some none)
  (z6:W.nsIn K mainGlobals "int"=some none)
  (z7:W.nsIn K mainGlobals "zip"=some none) :
  ∃(fd:FuncData) (tabs:List (Addr × Array Value)) (sp:Sp),(∀(s:Shared) (v:Value),BindsTo s fd ⟨[v],[]⟩ [("_law_script",v)])/\uI q K tabs/\(tabs.map (·.1)).Nodup/\W.noTabs K=true/\(∀base:Heap,K.In base->base.Ns mainGlobals mg->aV l.prog w K mg base CX0 45 fa fd ["_law_script"] sp) /\
   ∀(H:Hp) (a:Addr) (ns:List Int),ns.length<=63->(∀t∈tabs,H t.1=some (.tbl t.2))->SqL K H a (ns.map V.int)->sp [.ref a] H (fun v _=>v=.bl true) fun _ _ _=>False:=by
 have e:=hfa.symm.trans (W.mg_of X G a26)
 cases e
 have F1:=bw (st:=J53.sWithin) l1 c1 k1
 have F2:=bw (st:=fA) l2 c2 k2
 have F3:=bw (st:=iT) l3 c3 k3
 have F4:=bw (st:=vT) l4 c4 k4
 have F5:=bw (st:=cV) l5 c5 k5
 have F6:=bw (st:=cP) l6 c6 k6
 have F7:=bw (st:=aX) l7 c7 k7
 have F8:=bw (st:=eO) l8 c8 k8
 have F9:=bw (st:=J53.sVarK) l9 c9 k9
 have F10:=bw (st:=J53.sAnsK) l10 c10 k10
 have F11:=bw (st:=J53.sKbf) l11 c11 k11
 have F12:=bw (st:=J53.sDem) l12 c12 k12
 have F13:=bw (st:=ja) l13 c13 k13
 have F14:=vF (st:=ib) l14 c14 k14 h14
 have F15:=bw (st:=dA) l15 c15 k15
 have F16:=bw (st:=J53.sCell) l16 c16 k16
 have F17:=bw (st:=J53.sPick) l17 c17 k17
 have F18:=bw (st:=J53.sWord) l18 c18 k18
 have F19:=bw (st:=J53.sSize) l19 c19 k19
 have F20:=bw (st:=gc) l20 c20 k20
 have F21:=bw (st:=gi) l21 c21 k21
 have F22:=bw (st:=gs) l22 c22 k22
 have F23:=bw (st:=jg) l23 c23 k23
 have F24:=bw (st:=dC) l24 c24 k24
 have F25:=bw (st:=em) l25 c25 k25
 have F26:=bw (st:=jV) l26 c26 k26
 have b1:=F1.binds (ps:=["expression"]) fun _ _ _ _ _ _ us hl=>match us,hl with|[_],_=>rfl
 have b2:=F2.binds (ps:=["kind"]) fun _ _ _ _ _ _ us hl=>match us,hl with|[_],_=>rfl
 have b3:=F3.binds (ps:=["kind"]) fun _ _ _ _ _ _ us hl=>match us,hl with|[_],_=>rfl
 have b4:=F4.binds (ps:=["kind","given"]) fun _ _ _ _ _ _ us hl=>match us,hl with|[_,_],_=>rfl
 have b5:=F5.binds (ps:=["kind","most"]) fun _ _ _ _ _ _ us hl=>match us,hl with|[_,_],_=>rfl
 have b6:=F6.binds (ps:=["part","word","own","parts"]) fun _ _ _ _ _ _ us hl=>match us,hl with|[_,_,_,_],_=>rfl
 have b7:=F7.binds (ps:=["full","part","parts"]) fun _ _ _ _ _ _ us hl=>match us,hl with|[_,_,_],_=>rfl
 have b8:=F8.binds (ps:=["told","word","what"]) fun _ _ _ _ _ _ us hl=>match us,hl with|[_,_,_],_=>rfl
 have b9:=F9.binds (ps:=["word","variables"]) fun _ _ _ _ _ _ us hl=>match us,hl with|[_,_],_=>rfl
 have b10:=F10.binds (ps:=["word","told","kinds"]) fun _ _ _ _ _ _ us hl=>match us,hl with|[_,_,_],_=>rfl
 have b11:=F11.binds (ps:=["expression","kinds"]) fun _ _ _ _ _ _ us hl=>match us,hl with|[_,_],_=>rfl
 have b12:=F12.binds (ps:=["does","what"]) fun _ _ _ _ _ _ us hl=>match us,hl with|[_,_],_=>rfl
 have b13:=F13.binds (ps:=["items","parts"]) fun _ _ _ _ _ _ us hl=>match us,hl with|[_,_],_=>rfl
 have b14:=F14.fn.binds (ps:=["item","ahead","parts"]) fun _ _ _ _ _ _ us hl=>match us,hl with|[_,_,_],_=>rfl
 have b15:=F15.binds (ps:=["part","word","own","parts"]) fun _ _ _ _ _ _ us hl=>match us,hl with|[_,_,_,_],_=>rfl
 have b16:=F16.binds (ps:=["_law_script","_law_k"]) fun _ _ _ _ _ _ us hl=>match us,hl with|[_,_],_=>rfl
 have b17:=F17.binds (ps:=["_law_script","_law_k","_law_many"]) fun _ _ _ _ _ _ us hl=>match us,hl with|[_,_,_],_=>rfl
 have b18:=F18.binds (ps:=["_law_cell_here","_law_mark"]) fun _ _ _ _ _ _ us hl=>match us,hl with|[_,_],_=>rfl
 have b19:=F19.binds (ps:=["_law_script","_law_k"]) fun _ _ _ _ _ _ us hl=>match us,hl with|[_,_],_=>rfl
 have b20:=F20.binds (ps:=["_law_words","_law_size_here"]) fun _ _ _ _ _ _ us hl=>match us,hl with|[_,_],_=>rfl
 have b21:=F21.binds (ps:=["_law_script","_law_words","_law_size_here","_law_more_here"]) fun _ _ _ _ _ _ us hl=>match us,hl with|[_,_,_,_],_=>rfl
 have b22:=F22.binds (ps:=["_law_script","_law_words","_law_size_here","_law_more_here","_law_mode"]) fun _ _ _ _ _ _ us hl=>match us,hl with|[_,_,_,_,_],_=>rfl
 have b23:=F23.binds (ps:=["_law_script","_law_words","_law_size_here","_law_mode"]) fun _ _ _ _ _ _ us hl=>match us,hl with|[_,_,_,_],_=>rfl
 have b24:=F24.binds (ps:=["_law_script","_law_words","_law_items_here","_law_size_here","_law_mode"]) fun _ _ _ _ _ _ us hl=>match us,hl with|[_,_,_,_,_],_=>rfl
 have b25:=F25.binds (ps:=["_law_items_here","_law_parts"]) fun _ _ _ _ _ _ us hl=>match us,hl with|[_,_],_=>rfl
 refine⟨W.fnOf "law" "law" (aD jV) (aw jV) (aj jV) .none kV26 dc26 pm26 an26 cd26 ct26,[(PT14,vU)],xY K PT14,fun s v=>.of_eq rfl,List.forall_mem_cons.mpr ⟨⟨"look_at_fun",cc14,r14.choose,t14,r14.choose_spec⟩,fun t ht=>nomatch ht⟩,nD,nT,fun base hB _=>?_,fun H a ns hn hT hS=>⟨a,ns,rfl,hS,hn,hT _ (.head _),fun _=>rfl⟩⟩
 have hA:DKt K w pA J53.ahs:=xH lH qH (.cons rfl (.cons rfl (.cons rfl (.cons rfl (.cons rfl (.cons rfl (.cons rfl (.cons rfl .nil)))))))) (by decide +kernel)
 have FK:jR K "kind_in" "kind_in" J53.sKin (.ref TD) fk (W.fnOf "kind_in" "kind_in" (aD J53.sKin) (aw J53.sKin) (aj J53.sKin) (.ref TD) kVk dck pmk ank cdk ctk):=⟨⟨ock,odk,kVk,dck,pmk,ank,cdk,ctk,slk,rfl,lf,cf⟩,kf⟩
 have FB:jR K "look_at_body" "look_at_body" J53.sLookB (.ref TB) fb (W.fnOf "look_at_body" "look_at_body" (aD J53.sLookB) (aw J53.sLookB) (aj J53.sLookB) (.ref TB) kVb dcb pmb anb cdb ctb):=⟨⟨ocb,odb,kVb,dcb,pmb,anb,cdb,ctb,slb,rfl,lb,cb⟩,kb⟩
 have FNo:jR K "normal" "normal" dl (.ref T1) fn (W.fnOf "normal" "normal" (aD dl) (aw dl) (aj dl) (.ref T1) kVn dcn pmn ann cdn ctn):=⟨⟨ocn,odn,kVn,dcn,pmn,ann,cdn,ctn,sln,rfl,ln,cn⟩,kn⟩
 have FV:jR K "take_item" "take_item" ca (.ref T5) fv (W.fnOf "take_item" "take_item" (aD ca) (aw ca) (aj ca) (.ref T5) kVv dcv pmv anv cdv' ctv):=⟨⟨ocv,odv,kVv,dcv,pmv,anv,cdv',ctv,slv,rfl,lv,cv⟩,kv⟩
 have Fi:=bw (st:=oG) li ci ki
 have bI:=Fi.binds (ps:=["self","kinds","funs"]) fun _ _ _ _ _ _ us hl=>match us,hl with|[_,_,_],_=>rfl
 have MF:Mk K CF fi:=⟨mk,iF,tF,kF⟩
 have cF:Cls K CF:=⟨pg,hd,po,sa⟩
 have GWt:=J53.ok_within (P:=l.prog) (w:=w) (base:=base) (mg:=mg) F1 (W.mg_of X G eH) hA
 have GWi:=ok_words (P:=l.prog) (w:=w) (base:=base) (mg:=mg) F2 (W.mg_none_of X G z1)
 have GWj:=J53.ok_words (P:=l.prog) (w:=w) (base:=base) (mg:=mg) F2 (W.mg_none_of X G z1)
 have GNa:=tt (P:=l.prog) (w:=w) (base:=base) (mg:=mg) F3 (W.mg_none_of X G z1) (W.mg_none_of X G z2)
 have GP0:=uo (P:=l.prog) (w:=w) (base:=base) (mg:=mg) F4 b4 k4 (W.mg_of X G a4) 40
 have GB0:=ok_bounded (P:=l.prog) (w:=w) (base:=base) (mg:=mg) F5 GWi b2 k2 (W.mg_of X G a2) (W.mg_of X G aT) xT
 have GBj:=J53.ok_bounded (P:=l.prog) (w:=w) (base:=base) (mg:=mg) F5 GWj b2 k2 (W.mg_of X G a2) (W.mg_of X G aT) xT
 have GTK:=me (P:=l.prog) (w:=w) (base:=base) (mg:=mg) F6 cF nK (W.mg_of X G aK) xK
 have GNo:=rE (P:=l.prog) (w:=w) (base:=base) (mg:=mg) FNo GNa b3 k3 (W.mg_of X G a3) GP0 b4 k4 (W.mg_of X G a4) GB0 b5 k5 (W.mg_of X G a5) GTK b6 k6 (W.mg_of X G a6)
 have GD:=J53.ok_dem (P:=l.prog) (w:=w) (base:=base) (mg:=mg) F12 (W.mg_of X G aW) xW
 have GVK:=J53.ok_varK (P:=l.prog) (w:=w) (base:=base) (mg:=mg) (cl:=clS CA CC CW CT CZ CK) F9 (W.mg_of X G aA) xA
 have GAK:=J53.ok_ansK (P:=l.prog) (w:=w) (base:=base) (mg:=mg) (cl:=clS CA CC CW CT CZ CK) F10 (W.mg_of X G aC) xC (W.mg_none_of X G z1) (W.mg_none_of X G z7) GD b12 k12 (W.mg_of X G a12)
 have GKF:=J53.ok_kbf (P:=l.prog) (w:=w) (base:=base) (mg:=mg) (cl:=clS CA CC CW CT CZ CK) F11 GD b12 k12 (W.mg_of X G a12)
 have GK:=J53.ok_kin (P:=l.prog) (w:=w) (base:=base) (mg:=mg) (cl:=clS CA CC CW CT CZ CK) (k:=2) FK (uv FK lT) (W.mg_of X G af) (W.mg_none_of X G z4) GVK b9 k9 (W.mg_of X G a9) GWt b1 k1 (W.mg_of X G a1) GAK b10 k10 (W.mg_of X G a10) GBj b5 k5 (W.mg_of X G a5) GKF b11 k11 (W.mg_of X G a11) 8
 have GLB:=J53.ok_lookB (P:=l.prog) (w:=w) (base:=base) (mg:=mg) (cl:=clS CA CC CW CT CZ CK) (k:=2) (n:=8) FB (W.mg_of X G aZ) xZ GK (uv FK lT) kf (W.mg_of X G af) GD b12 k12 (W.mg_of X G a12)
 have GAo:=wa (P:=l.prog) (w:=w) (base:=base) (mg:=mg) F8 (W.mg_of X G aZ) xZ
 have GTo:=jL (P:=l.prog) (w:=w) (base:=base) (mg:=mg) (cl:=clA (clS CA CC CW CT CZ CK)) F7 GAo b8 k8 (W.mg_of X G a8) cF nK nF (W.mg_of X G aA) xA
 have GTi:=lS (P:=l.prog) (w:=w) (base:=base) (mg:=mg) (cl:=clA (clS CA CC CW CT CZ CK)) FV GAo b8 k8 (W.mg_of X G a8) GNo (wA FNo lT1) kn (W.mg_of X G an) GTo b7 k7 (W.mg_of X G a7) cF nK nF (W.mg_none_of X G z5)
 have GTF:=oJ (P:=l.prog) (w:=w) (base:=base) (mg:=mg) F15 cF nF (W.mg_of X G aA) xA
 have GLF:=sk (P:=l.prog) (w:=w) (base:=base) (mg:=mg) (TD:=TD) (TB:=TB) (cx:=clS CA CC CW CT CZ CK) F14 hB cF nK nF GTF b15 k15 (W.mg_of X G a15) GNo (ww FNo lT1) kn (W.mg_of X G an) GLB (wq FB lT2) kb (W.mg_of X G ab)
 have GI:=sG (P:=l.prog) (w:=w) (base:=base) (mg:=mg) Fi cF nK nF (W.mg_none_of X G z4)
 have GLW:=sQ (P:=l.prog) (w:=w) (base:=base) (mg:=mg) (cx:=clS CA CC CW CT CZ CK) F13 GTi (xc FV lT5) kv (W.mg_of X G av) GLF b14 k14 (W.mg_of X G a14) GI bI MF (W.mg_of X G aF)
 have GC:=J53.ok_cell (P:=l.prog) (w:=w) (base:=base) (mg:=mg) F16 (W.mg_none_of X G z1)
 have GP:=J53.ok_pick (P:=l.prog) (w:=w) (base:=base) (mg:=mg) F17 GC b16 k16 (W.mg_of X G a16)
 have GWd:=J53.ok_word (P:=l.prog) (w:=w) (base:=base) (mg:=mg) F18
 have GS:=J53.ok_size (P:=l.prog) (w:=w) (base:=base) (mg:=mg) F19 GC b16 k16 (W.mg_of X G a16) GP b17 k17 (W.mg_of X G a17)
 have GF:=pi (P:=l.prog) (w:=w) (base:=base) (mg:=mg) F20 GI bI MF (W.mg_of X G aF)
 have GT:=pC (P:=l.prog) (w:=w) (base:=base) (mg:=mg) F21 GP b17 k17 (W.mg_of X G a17)
 have GIt:=qj (P:=l.prog) (w:=w) (base:=base) (mg:=mg) F22 GP b17 k17 (W.mg_of X G a17) GT b21 k21 (W.mg_of X G a21)
 have GM:=sE (P:=l.prog) (w:=w) (base:=base) (mg:=mg) F23 GP b17 k17 (W.mg_of X G a17)
 have GSp:=nV (P:=l.prog) (w:=w) (base0:=base) (mg:=mg) F24 (W.mg_none_of X G z1) (W.mg_none_of X G z6) GP b17 k17 (W.mg_of X G a17) GM b23 k23 (W.mg_of X G a23)
 have GO:=qT (P:=l.prog) (w:=w) (base:=base) (mg:=mg) (cx:=clS CA CC CW CT CZ CK) F25 GLW b13 k13 (W.mg_of X G a13) (W.mg_of X G aA) (W.mg_of X G aC) (W.mg_of X G aW) (W.mg_of X G aZ) (yV u00 u01 u02 u04 u10 u11 u12 u14 u20 u21 u22 u24 u40 u41 u42 u44)
 exact wS (P:=l.prog) (w:=w) (base:=base) (mg:=mg) F26 (W.mg_none_of X G z1) (W.mg_none_of X G z5) (W.mg_none_of X G z3) cF nK nF GC b16 k16 (W.mg_of X G a16) GWd b18 k18 (W.mg_of X G a18) GP b17 k17 (W.mg_of X G a17) GS b19 k19 (W.mg_of X G a19) GIt b22 k22 (W.mg_of X G a22) GSp b24 k24 (W.mg_of X G a24) GF b20 k20 (W.mg_of X G a20) GO b25 k25 (W.mg_of X G a25)
end K53
open PySem PySem.W PyProof.Rows
set_option maxRecDepth 100000 in
theorem PySem.Challenge.cw_sealhouse_k53_functions_within_holds : PySem.Challenge.rw_sealhouse_k53_functions_within.Holds := by
 w_on;o_law;k_head;(case hw=>w_witness2)
 k_fill
 refine L2.walk_ofT (l:=PySem.Challenge.rw_sealhouse_k53_functions_within) (n:=63) (k:=45) (x:="_law_script") (CX:=fun _=>L2.CX0) rfl (by decide) rfl ⟨rfl,by decide,by decide,rfl⟩ (by intro w h Y;first|exact W.km_in_of Y|exact W.kIn_of Y) ?F (fun _ _ _ _ _ z=>z)
 case F =>
  intro w mg fa h KX G hmg
  refine' K53.all_mk KX G hmg ?a1 ?l1 ?c1 ?k1 ?a2 ?l2 ?c2 ?k2 ?a3 ?l3 ?c3 ?k3 ?a4 ?l4 ?c4 ?k4 ?a5 ?l5 ?c5 ?k5 ?a6 ?l6 ?c6 ?k6 ?a7 ?l7 ?c7 ?k7 ?a8 ?l8 ?c8 ?k8 ?a9 ?l9 ?c9 ?k9 ?a10 ?l10 ?c10 ?k10 ?a11 ?l11 ?c11 ?k11 ?a12 ?l12 ?c12 ?k12 ?a13 ?l13 ?c13 ?k13 ?a14 ?l14 ?c14 ?k14 ?a15 ?l15 ?c15 ?k15 ?a16 ?l16 ?c16 ?k16 ?a17 ?l17 ?c17 ?k17 ?a18 ?l18 ?c18 ?k18 ?a19 ?l19 ?c19 ?k19 ?a20 ?l20 ?c20 ?k20 ?a21 ?l21 ?c21 ?k21 ?a22 ?l22 ?c22 ?k22 ?a23 ?l23 ?c23 ?k23 ?a24 ?l24 ?c24 ?k24 ?a25 ?l25 ?c25 ?k25 ?a26 ?l26 ?c26 ?k26 ?t14 ?h14 ?r14 ?nT ?nD ?eH ?lH ?qH ?af ?lf ?cf ?kf ?lT ?ab ?lb ?cb ?kb ?lT2 ?an ?ln ?cn ?kn ?lT1 ?av ?lv ?cv ?kv ?lT5 ?aF ?iF ?li ?ci ?ki ?tF ?mk ?kF ?pg ?hd ?po ?sa ?nK ?nF ?aA ?aC ?aW ?aT ?aZ ?aK ?xA ?xC ?xW ?xT ?xZ ?xK ?u00 ?u01 ?u02 ?u04 ?u10 ?u11 ?u12 ?u14 ?u20 ?u21 ?u22 ?u24 ?u40 ?u41 ?u42 ?u44 ?z1 ?z2 ?z3 ?z4 ?z5 ?z6 ?z7
  (case a1=>k_is)
  (case l1=>k_is)
  (case c1=>k_is)
  (case k1=>k_is)
  (case a2=>k_is)
  (case l2=>k_is)
  (case c2=>k_is)
  (case k2=>k_is)
  (case a3=>k_is)
  (case l3=>k_is)
  (case c3=>k_is)
  (case k3=>k_is)
  (case a4=>k_is)
  (case l4=>k_is)
  (case c4=>k_is)
  (case k4=>k_is)
  (case a5=>k_is)
  (case l5=>k_is)
  (case c5=>k_is)
  (case k5=>k_is)
  (case a6=>k_is)
  (case l6=>k_is)
  (case c6=>k_is)
  (case k6=>k_is)
  (case a7=>k_is)
  (case l7=>k_is)
  (case c7=>k_is)
  (case k7=>k_is)
  (case a8=>k_is)
  (case l8=>k_is)
  (case c8=>k_is)
  (case k8=>k_is)
  (case a9=>k_is)
  (case l9=>k_is)
  (case c9=>k_is)
  (case k9=>k_is)
  (case a10=>k_is)
  (case l10=>k_is)
  (case c10=>k_is)
  (case k10=>k_is)
  (case a11=>k_is)
  (case l11=>k_is)
  (case c11=>k_is)
  (case k11=>k_is)
  (case a12=>k_is)
  (case l12=>k_is)
  (case c12=>k_is)
  (case k12=>k_is)
  (case a13=>k_is)
  (case l13=>k_is)
  (case c13=>k_is)
  (case k13=>k_is)
  (case a14=>k_is)
  (case l14=>k_is)
  (case c14=>k_is)
  (case k14=>k_is)
  (case a15=>k_is)
  (case l15=>k_is)
  (case c15=>k_is)
  (case k15=>k_is)
  (case a16=>k_is)
  (case l16=>k_is)
  (case c16=>k_is)
  (case k16=>k_is)
  (case a17=>k_is)
  (case l17=>k_is)
  (case c17=>k_is)
  (case k17=>k_is)
  (case a18=>k_is)
  (case l18=>k_is)
  (case c18=>k_is)
  (case k18=>k_is)
  (case a19=>k_is)
  (case l19=>k_is)
  (case c19=>k_is)
  (case k19=>k_is)
  (case a20=>k_is)
  (case l20=>k_is)
  (case c20=>k_is)
  (case k20=>k_is)
  (case a21=>k_is)
  (case l21=>k_is)
  (case c21=>k_is)
  (case k21=>k_is)
  (case a22=>k_is)
  (case l22=>k_is)
  (case c22=>k_is)
  (case k22=>k_is)
  (case a23=>k_is)
  (case l23=>k_is)
  (case c23=>k_is)
  (case k23=>k_is)
  (case a24=>k_is)
  (case l24=>k_is)
  (case c24=>k_is)
  (case k24=>k_is)
  (case a25=>k_is)
  (case l25=>k_is)
  (case c25=>k_is)
  (case k25=>k_is)
  (case a26=>k_is)
  (case l26=>k_is)
  (case c26=>k_is)
  (case k26=>k_is)
  (case t14=>first|k_is|exact rfl)
  (case h14=>first|kernel_rfl|exact rfl)
  (case r14=>exact⟨_,rfl⟩)
  (case nT=>first|kernel_rfl|exact rfl)
  (case nD=>decide)
  (case eH=>k_is)
  (case lH=>with_unfolding_all exact rfl)
  (case qH=>decide)
  (case af=>k_is)
  (case lf=>k_is)
  (case cf=>k_is)
  (case kf=>k_is)
  (case lT=>k_is)
  (case ab=>k_is)
  (case lb=>k_is)
  (case cb=>k_is)
  (case kb=>k_is)
  (case lT2=>k_is)
  (case an=>k_is)
  (case ln=>k_is)
  (case cn=>k_is)
  (case kn=>k_is)
  (case lT1=>k_is)
  (case av=>k_is)
  (case lv=>k_is)
  (case cv=>k_is)
  (case kv=>k_is)
  (case lT5=>k_is)
  (case aF=>k_is)
  (case iF=>k_is)
  (case li=>k_is)
  (case ci=>k_is)
  (case ki=>k_is)
  (case tF=>k_is)
  (case mk=>k_is)
  (case kF=>k_is)
  (case pg=>k_is)
  (case hd=>k_is)
  (case po=>k_is)
  (case sa=>k_is)
  (case nK=>k_is)
  (case nF=>k_is)
  (case aA=>k_is)
  (case aC=>k_is)
  (case aW=>k_is)
  (case aT=>k_is)
  (case aZ=>k_is)
  (case aK=>k_is)
  (case xA=>with_unfolding_all exact rfl)
  (case xC=>with_unfolding_all exact rfl)
  (case xW=>with_unfolding_all exact rfl)
  (case xT=>with_unfolding_all exact rfl)
  (case xZ=>with_unfolding_all exact rfl)
  (case xK=>with_unfolding_all exact rfl)
  (case u00=>exact rfl)
  (case u01=>exact rfl)
  (case u02=>exact rfl)
  (case u04=>exact rfl)
  (case u10=>exact rfl)
  (case u11=>exact rfl)
  (case u12=>exact rfl)
  (case u14=>exact rfl)
  (case u20=>exact rfl)
  (case u21=>exact rfl)
  (case u22=>exact rfl)
  (case u24=>exact rfl)
  (case u40=>exact rfl)
  (case u41=>exact rfl)
  (case u42=>exact rfl)
  (case u44=>exact rfl)
  (case z1=>k_is)
  (case z2=>k_is)
  (case z3=>k_is)
  (case z4=>k_is)
  (case z5=>k_is)
  (case z6=>k_is)
  (case z7=>k_is)
#print axioms PySem.Challenge.cw_sealhouse_k53_functions_within_holds
