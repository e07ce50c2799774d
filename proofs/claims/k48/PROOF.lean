import PyProof.Rows.All
import Wide.All
import OpenK.AllK
import Wide.FinOn
import Lean
import PyProof.EqAt
import PyProof.EqKinds
import PyProof.TupleCall
import PySem.Challenge.RW_sealhouse_k48_makers_refused
set_option maxHeartbeats 0
set_option Elab.async false
set_option linter.all false
set_option maxRecDepth 100000
namespace L2
open PySem PySem.Spec PyProof.Rows
abbrev Key:=Sum Int Str
def pW:Key->Value->Bool
 |.inl k,v=>Value.isInt k v
 |.inr x,v=>Value.isStrOf x v
def Dq(w:World):Key->Int
 |.inl k=>hashInt k
 |.inr x=>hashStr w x
theorem cs:∀{k:Key} {v:Value},pW k v=true->(∃i t,k=Sum.inl i/\v=Value.int i t)\/(∃x t,k=Sum.inr x/\v=Value.str x t)
 |.inl i,v,h=>by
  obtain⟨t,e⟩:=Value.isInt_shape (k:=i) (v:=v) h
  exact .inl ⟨i,t,rfl,e⟩
 |.inr x,v,h=>by
  obtain⟨t,e⟩:=Value.isStrOf_shape (x:=x) (v:=v) h
  exact .inr ⟨x,t,rfl,e⟩
theorem vq(i:Int)(t:Tok):pW (.inl i) (.int i t)=true:=by simp [pW,Value.isInt]
theorem va(x:Str)(t:Tok):pW (.inr x) (.str x t)=true:=by simp [pW,Value.isStrOf]
theorem A5(a b:Int):decide ((Sum.inl a:Key)=Sum.inl b)=(a==b):=by
 by_cases e:a=b
 ·subst e;simp
 ·have h:¬(Sum.inl a:Key)=Sum.inl b:=fun q=>e (Sum.inl.inj q)
  rw [decide_eq_false h]
  exact(beq_eq_false_iff_ne.mpr e).symm
theorem Bl(a b:Str):decide ((Sum.inr a:Key)=Sum.inr b)=decide (a=b):=by
 by_cases e:a=b
 ·subst e;simp
 ·have h:¬(Sum.inr a:Key)=Sum.inr b:=fun q=>e (Sum.inr.inj q)
  rw [decide_eq_false h,decide_eq_false e]
theorem Bh(a:Int)(b:Str):decide ((Sum.inl a:Key)=Sum.inr b)=false:=decide_eq_false (fun q=>nomatch q)
theorem AW(a:Str)(b:Int):decide ((Sum.inr a:Key)=Sum.inl b)=false:=decide_eq_false (fun q=>nomatch q)
def bo(prog:Program)(w:World):PySem.KeyKind prog w Key where
 is:=pW
 hash:=Dq w
 inj:=fun v a b ha hb=>by
  rcases cs ha with ⟨i,t,rfl,rfl⟩|⟨x,t,rfl,rfl⟩
  ·rcases cs hb with ⟨j,u,rfl,e⟩|⟨y,u,rfl,e⟩
   ·injection e with e1 _;rw [e1]
   ·exact nomatch e
  ·rcases cs hb with ⟨j,u,rfl,e⟩|⟨y,u,rfl,e⟩
   ·exact nomatch e
   ·injection e with e1 _;rw [e1]
 byValue:=fun k v h=>by
  rcases cs h with ⟨i,t,rfl,rfl⟩|⟨x,t,rfl,rfl⟩<;>rfl
 pyHash:=fun hv h=>by
  rcases cs hv with ⟨i,t,rfl,rfl⟩|⟨x,t,rfl,rfl⟩
  ·exact wpAny_pyHash_int h
  ·exact wpAny_pyHash_str h
 eqBool:=fun hu hv h=>by
  rcases cs hu with ⟨i,t,rfl,rfl⟩|⟨x,t,rfl,rfl⟩
  ·rcases cs hv with ⟨j,u,rfl,rfl⟩|⟨y,u,rfl,rfl⟩
   ·rw [A5] at h;exact wpAny_eqBool_int h
   ·rw [Bh] at h;exact SeqAt.EqAt.int_str i t y u _ _ _ _ h
  ·rcases cs hv with ⟨j,u,rfl,rfl⟩|⟨y,u,rfl,rfl⟩
   ·rw [AW] at h;exact SeqAt.EqAt.str_int x t j u _ _ _ _ h
   ·rw [Bl] at h;exact wpAny_eqBool_str h
 «strs»:=fun k x t v h=>by
  rcases cs h with ⟨i,u,rfl,e⟩|⟨y,u,rfl,e⟩
  ·exact nomatch e
  ·injection e with e1 _
   subst e1
   cases v<;>rfl
theorem tq(prog:Program)(w:World)(k:Key)(v:Value):(bo prog w).is k v=pW k v:=rfl
theorem pO(prog:Program)(w:World)(i:Int)(t:Tok):(bo prog w).is (.inl i) (.int i t)=true:=vq i t
theorem qh(prog:Program)(w:World)(x:Str)(t:Tok):(bo prog w).is (.inr x) (.str x t)=true:=va x t
inductive V where
 |non|bl (b:Bool)|int (i:Int)|str (x:Str)|byt (b:Array UInt8)|flt (b:UInt64)|ref (a:Addr)|ty (n:String)
 deriving DecidableEq
def cy:V->Value->Prop
 |.non,u=>u=Value.none
 |.bl b,u=>u=Value.bool b
 |.int i,u=>∃t,u=Value.int i t
 |.str x,u=>∃t,u=Value.str x t
 |.byt b,u=>∃t,u=Value.bytes b t
 |.flt b,u=>∃t,u=Value.float b t
 |.ref a,u=>u=Value.ref a
 |.ty n,u=>u=Value.type n
abbrev cw:List V->List Value->Prop:=Paired cy
theorem cw.length{xs:List V}{us:List Value}(r:cw xs us):xs.length=us.length:=Paired.length r
theorem cw.get:∀{xs:List V} {us:List Value} {i:Nat} {x:V},cw xs us->xs[i]?=some x->∃u,us[i]?=some u/\cy x u
 |_,_,_,_,.nil,e=>by simp at e
 |_,_,0,_,.cons r _,e=>by simp at e;subst e;exact⟨_,rfl,r⟩
 |_,_,i+1,x,.cons _ t,e=>by
  obtain⟨u,h1,h2⟩:=cw.get (i:=i) (x:=x) t (by simpa using e)
  exact⟨u,by simpa using h1,h2⟩
theorem cw.append:∀{xs ys:List V} {us ws:List Value},cw xs us->cw ys ws->cw (xs++ys) (us++ws)
 |_,_,_,_,.nil,s=>s
 |_,_,_,_,.cons r t,s=>.cons r (cw.append t s)
theorem cw.take:∀{xs:List V} {us:List Value} (n:Nat),cw xs us->cw (xs.take n) (us.take n)
 |_,_,0,_=>.nil
 |_,_,_+1,.nil=>.nil
 |_,_,n+1,.cons r t=>.cons r (cw.take n t)
theorem cw.drop:∀{xs:List V} {us:List Value} (n:Nat),cw xs us->cw (xs.drop n) (us.drop n)
 |_,_,0,r=>r
 |_,_,_+1,.nil=>.nil
 |_,_,n+1,.cons _ t=>cw.drop n t
def jy:Option V->Option Value->Prop
 |some v,some u=>cy v u
 |none,none=>True
 |_,_=>False
def KV{κ:Type}:List (κ × V)->List (κ × Value)->Prop:=Paired fun(p:κ × V) (q:κ × Value)=>p.1=q.1/\cy p.2 q.2
def kV:Key->V
 |.inl i=>.int i
 |.inr x=>.str x
inductive HO where
 |lst (xs:List V)
 |tup (xs:List V)
 |dK (kvs:List (Key × V))|dT (kvs:List (List Key × V))
 |set (S:Int->Bool) (n:Nat)
 |ins (C dx:Addr) (fs:List (Str × V))
 |own (x:Addr)
 |xd (fs:List (Str × V))
 |met (f x:Addr)
 |rng (lo hi:Int)
 |frz (o:Obj) (u:HO)
 |tbl (ps:Array Value)
 |ext (φ:Heap->Prop)
abbrev Hp:=Addr->Option HO
def upd(H:Hp)(a:Addr)(o:HO):Hp:=fun b=>if b=a then some o else H b
theorem ac{H:Hp}{a:Addr}{o:HO}:upd H a o a=some o:=by unfold upd;rw [if_pos rfl]
theorem aj{H:Hp}{a b:Addr}{o:HO}(h:b≠a):upd H a o b=H b:=by unfold upd;rw [if_neg h]
theorem fO{H:Hp}{a:Addr}{o u:HO}:upd (upd H a o) a u=upd H a u:=by
 funext b;unfold upd;split<;>rfl
theorem Ab{H:Hp}{a b:Addr}{o u:HO}(h:H a=some o)(h':H b=some u)(d:o≠u):a≠b:=by
 intro e;subst e;rw [h] at h';exact d (Option.some.inj h')
theorem aH{H:Hp}{a b:Addr}{o:HO}(h:H a=some o)(h':H b=none):a≠b:=by
 intro e;subst e;rw [h] at h';cases h'
section
variable(P:Program)(w:World)
def cr(H:Hp)(h:Heap)(a:Addr):HO->Prop
 |.lst xs=>xs.length<=sizeLine/\∃(its:List Value) (n:Nat),cw xs its/\h.get? a=some { cls:=.type "list",data:=.seq its.toArray n }
 |.tup xs=>xs.length<=sizeLine/\∃its:List Value,cw xs its/\IsTup h a its.toArray
 |.dK kvs=>kvs.length<=sizeLine/\(a==sysModules)=false/\∃vs,KV kvs vs/\h.DictOf (bo P w) a vs
 |.dT kvs=>kvs.length<=sizeLine/\(a==sysModules)=false/\∃xs:List (List Key × Addr × Value),
   Paired (fun(p:List Key × V) (q:List Key × Addr × Value)=>p.1=q.1/\H q.2.1=some (.tup (p.1.map kV))/\cy p.2 q.2.2) kvs xs /\
   ∃o es ep,h.get? a=some o/\o.ExactDict/\o.data=.dict es ep/\es.toList=xs.map (entryOfKey (tupleKind (bo P w)))/\(xs.map (·.1)).Nodup
 |.set S n=>h.SetOf (intKind P w) a S n
 |.ins C dx fs=>H dx=some (.own a)/\fs.length<=1000/\dx≠a/\h.get? a=some (W.instObj C dx) /\
   ∃mA,h.Ns1 dx mA/\(∀f,jy (fs.lookup f) (mA f))/\PySem.Within mA (fs.map (·.1))
 |.own _=>∃o,h.get? a=some o
 |.xd fs=>∃mA,h.Ns1 a mA/\∀f,jy (fs.lookup f) (mA f)
 |.rng lo hi=>∃t u v,h.get? a=some { cls:=.type "range",data:=.fields #[.int lo t,.int hi u,.int 1 v] }
 |.frz o u=>h.get? a=some o/\cr H h a u
 |.tbl ps=>h.get? a=some { cls:=.none,data:=.fields ps }
 |.met f x=>h.get? a=some (W.methodObj (.ref f) (.ref x))
 |.ext φ=>φ h/\(∃o,h.get? a=some o)/\∀h1 h2:Heap,φ h1->(∀o,h1.get? a=some o->h2.get? a=some o)->φ h2
def HOk(H:Hp)(h:Heap):Prop:=∀a o,H a=some o->cr P w H h a o
end
section
variable{P:Program}{w:World}{H H':Hp}{h h':Heap}{a:Addr}{o:HO}
theorem cr.lt(x:cr P w H h a o):a < h.objs.size:=by
 cases o with
 |lst xs=>obtain⟨_,_,_,_,e⟩:=x;exact Heap.lt_size e
 |tup xs=>obtain⟨_,_,_,p⟩:=x;exact p.lt
 |dK kvs=>obtain⟨_,_,_,_,o,_,_,e,_⟩:=x;exact Heap.lt_size e
 |dT kvs=>obtain⟨_,_,_,_,o,_,_,e,_⟩:=x;exact Heap.lt_size e
 |set S n=>obtain⟨o,_,_,_,e,_⟩:=x;exact Heap.lt_size e
 |ins C dx fs=>obtain⟨_,_,_,e,_⟩:=x;exact Heap.lt_size e
 |own y=>obtain⟨_,e⟩:=x;exact Heap.lt_size e
 |xd fs=>obtain⟨_,⟨_,_,_,e,_⟩,_⟩:=x;exact Heap.lt_size e
 |rng lo hi=>obtain⟨_,_,_,e⟩:=x;exact Heap.lt_size e
 |frz ob u=>obtain⟨e,_⟩:=x;exact Heap.lt_size e
 |tbl ps=>exact Heap.lt_size (show h.get? a=some _ from x)
 |met f y=>exact Heap.lt_size (show h.get? a=some _ from x)
 |ext φ=>obtain⟨_,⟨_,e⟩,_⟩:=x;exact Heap.lt_size e
theorem Paired.mapP{α β:Type}{F G:α->β->Prop}:∀{l₁:List α} {l₂:List β},Paired F l₁ l₂->(∀a b,F a b->G a b)->Paired G l₁ l₂
 |_,_,.nil,_=>.nil
 |_,_,.cons r t,f=>.cons (f _ _ r) (Paired.mapP t f)
theorem Paired.imp'{α β:Type}{F G:α->β->Prop}(f:∀a b,F a b->G a b){l₁:List α}{l₂:List β}(r:Paired F l₁ l₂):Paired G l₁ l₂:=Paired.mapP r f
theorem cr.stay(x:cr P w H h a o)(k:∀b u,(b=a\/H b=some (.own a))->h.get? b=some u->h'.get? b=some u)
  (ho:∀b,H b=some (.own a)->H' b=some (.own a)) (ht:∀b xs,H b=some (.tup xs)->H' b=some (.tup xs)):cr P w H' h' a o:=by
 induction o with
 |lst xs=>obtain⟨z,its,n,r,e⟩:=x;exact⟨z,its,n,r,k _ _ (.inl rfl) e⟩
 |tup xs=>obtain⟨z,its,r,ob,e,c⟩:=x;exact⟨z,its,r,ob,k _ _ (.inl rfl) e,c⟩
 |dK kvs=>obtain⟨z,y,vs,r,ob,es,ep,e,c⟩:=x;exact⟨z,y,vs,r,ob,es,ep,k _ _ (.inl rfl) e,c⟩
 |dT kvs =>
  obtain⟨z,y,xs,r,ob,es,ep,e,c⟩:=x
  exact⟨z,y,xs,Paired.mapP r fun p q z=>⟨z.1,ht _ _ z.2.1,z.2.2⟩,ob,es,ep,k _ _ (.inl rfl) e,c⟩
 |set S n=>obtain⟨ob,es,ep,t,e,c⟩:=x;exact⟨ob,es,ep,t,k _ _ (.inl rfl) e,c⟩
 |ins C dx fs =>
  obtain⟨d,z,ne,e,mA,⟨od,es,ep,e2,c⟩,r⟩:=x
  exact⟨ho _ d,z,ne,k _ _ (.inl rfl) e,mA,⟨od,es,ep,k _ _ (.inr d) e2,c⟩,r⟩
 |own y=>obtain⟨ob,e⟩:=x;exact⟨ob,k _ _ (.inl rfl) e⟩
 |xd fs=>obtain⟨mA,⟨od,es,ep,e,c⟩,r⟩:=x;exact⟨mA,⟨od,es,ep,k _ _ (.inl rfl) e,c⟩,r⟩
 |rng lo hi=>obtain⟨t,u,v,e⟩:=x;exact⟨t,u,v,k _ _ (.inl rfl) e⟩
 |frz ob u ih=>obtain⟨e,q⟩:=x;exact⟨k _ _ (.inl rfl) e,ih q⟩
 |tbl ps =>
  have e:h.get? a=some { cls:=.none,data:=.fields ps }:=x
  show h'.get? a=some { cls:=.none,data:=.fields ps }
  exact k a _ (.inl rfl) e
 |met f y =>
  have e:h.get? a=some (W.methodObj (.ref f) (.ref y)):=x
  show h'.get? a=some (W.methodObj (.ref f) (.ref y))
  exact k a _ (.inl rfl) e
 |ext φ=>obtain⟨p,⟨o,e⟩,st⟩:=x;exact⟨st _ _ p fun o q=>k _ _ (.inl rfl) q,⟨o,k _ _ (.inl rfl) e⟩,st⟩
theorem HOk.lt(x:HOk P w H h)(e:H a=some o):a < h.objs.size:=(x a o e).lt
theorem HOk.fresh(x:HOk P w H h)(e:h.objs.size<=a):H a=none:=by
 cases q:H a with
 |none=>rfl
 |some u=>exact absurd (Nat.lt_of_lt_of_le (x.lt q) e) (Nat.lt_irrefl _)
theorem HOk.kept(x:HOk P w H h)(k:∀b u,h.get? b=some u->h'.get? b=some u):HOk P w H h':=fun a o e =>
 (x a o e).stay (fun b u _ q=>k b u q) (fun _ q=>q) fun _ _ q=>q
theorem HOk.laid(x:HOk P w H h)(k:∀b u,h.get? b=some u->h'.get? b=some u)(hp:h.objs.size<=a)(new:cr P w (upd H a o) h' a o):HOk P w (upd H a o) h':=fun b u e=>by
 have hn:=x.fresh hp
 by_cases hb:b=a
 ·subst hb;rw [ac] at e;cases e;exact new
 ·rw [aj hb] at e
  exact(x b u e).stay (fun c v _ q=>k c v q) (fun c q=>by rw [aj (aH q hn)];exact q) fun c xs q=>by rw [aj (aH q hn)];exact q
end
def Rd(H:Hp)(a:Addr)(u:HO):Prop:=H a=some u\/∃o,H a=some (.frz o u)
theorem Rd.ok{P:Program}{w:World}{H:Hp}{h:Heap}{a:Addr}{u:HO}(r:Rd H a u)(x:HOk P w H h):cr P w H h a u:=by
 rcases r with r|⟨o,r⟩
 ·exact x a u r
 ·obtain⟨_,q⟩:=x a _ r
  exact q
def Mut:Option HO->Prop
 |some (.lst _)=>True
 |some (.dK _)=>True
 |some (.dT _)=>True
 |some (.set _ _)=>True
 |some (.ins _ _ _)=>True
 |some (.ext _)=>True
 |_=>False
section
variable{P:Program}{w:World}{H:Hp}{h h':Heap}{x e:Addr}{o':HO}
theorem HOk.write(ok:HOk P w H h)(mu:Mut (H x))(he:e=x\/H e=some (.own x))(k:∀b u,b≠e->h.get? b=some u->h'.get? b=some u)(heo:∃u,h'.get? e=some u)
  (new:cr P w (upd H x o') h' x o'):HOk P w (upd H x o') h':=fun b u q=>by
 have nown:∀c y,H c=some (.own y)->c≠x:=fun c y r z=>by subst z;rw [r] at mu;exact mu
 have ntup:∀c xs,H c=some (.tup xs)->c≠x:=fun c xs r z=>by subst z;rw [r] at mu;exact mu
 by_cases hb:b=x
 ·subst hb;rw [ac] at q;cases q;exact new
 ·rw [aj hb] at q
  by_cases hbe:b=e
  ·have q':H b=some (.own x):=by
    rcases he with z|z
    ·exact absurd (hbe.trans z) hb
    ·rw [hbe];exact z
   rw [q] at q';cases q'
   obtain⟨v,hv⟩:=heo
   exact⟨v,by rw [hbe];exact hv⟩
  ·refine(ok b u q).stay (fun c v hc r=>k c v ?_ r) (fun c r=>by rw [aj (nown c b r)];exact r) fun c xs r=>by rw [aj (ntup c xs r)];exact r
   rcases hc with rfl|hc
   ·exact hbe
   ·rintro rfl
    rcases he with z|z
    ·exact nown c b hc z
    ·rw [hc] at z;cases z;exact hb rfl
end
structure Un(fs ex:List Addr)(H H':Hp)(h h':Heap):Prop where
 keep:∀b o,h.get? b=some o->H b=none->b∉fs->b∉ex->h'.get? b=some o
 slot:∀b o,h.get? b=some o->H b=none->b∈fs->b∉ex->∃sl,h'.get? b=some { o with slots:=sl }
 free:∀b o,h.get? b=some o->H b=none->b∉ex->H' b=none
 there:∀b o,h.get? b=some o->b∉ex->∃o',h'.get? b=some o'
 tups:∀b xs,H b=some (.tup xs)->H' b=some (.tup xs)
 frzs:∀b o u,H b=some (.frz o u)->H' b=some (.frz o u)
 tbls:∀b ps,H b=some (.tbl ps)->∃more,H' b=some (.tbl (ps++more))
section
variable{fs fs' ex ex':List Addr}{H H1 H2:Hp}{h h1 h2 h':Heap}{a x e:Addr}{o:HO}
theorem Un.any(u:Un fs ex H H1 h h1){b:Addr}{ob:Obj}(q:h.get? b=some ob)(n:H b=none)(hx:b∉ex):∃sl,h1.get? b=some { ob with slots:=sl }:=by
 by_cases hb:b∈fs
 ·exact u.slot b ob q n hb hx
 ·exact⟨ob.slots,u.keep b ob q n hb hx⟩
theorem Un.kept(k:∀b u,h.get? b=some u->h'.get? b=some u):Un fs ex H H h h' :=
 ⟨fun b ob q _ _ _=>k b ob q,fun b ob q _ _ _=>⟨ob.slots,k b ob q⟩,fun _ _ _ n _=>n,fun b ob q _=>⟨ob,k b ob q⟩,fun _ _ q=>q,fun _ _ _ q=>q,fun _ ps q=>⟨#[],by rw [q];simp⟩⟩
theorem Un.refl:Un fs ex H H h h:=Un.kept fun _ _ q=>q
theorem Un.laid(k:∀b u,h.get? b=some u->h'.get? b=some u)(hp:h.objs.size<=a)(hn:H a=none):Un fs ex H (upd H a o) h h' where
 keep:=fun b u q _ _ _=>k b u q
 slot:=fun b u q _ _ _=>⟨u.slots,k b u q⟩
 free:=fun b u q n _=>by rw [aj (Nat.ne_of_lt (Nat.lt_of_lt_of_le (Heap.lt_size q) hp))];exact n
 there:=fun b u q _=>⟨u,k b u q⟩
 tups:=fun b xs q=>by rw [aj (aH q hn)];exact q
 frzs:=fun b u xs q=>by rw [aj (aH q hn)];exact q
 tbls:=fun b ps q=>⟨#[],by rw [aj (aH q hn),q];simp⟩
theorem Un.write(mu:Mut (H x))(he:e=x\/H e=some (.own x))(k:∀b u,b≠e->h.get? b=some u->h'.get? b=some u)(heo:∃u,h'.get? e=some u):Un fs ex H (upd H x o) h h':=by
 have hx:∀b,H b=none->b≠x:=fun b n z=>by subst z;rw [n] at mu;exact mu
 have hb:∀b,H b=none->b≠e:=fun b n z=>by
  subst z
  rcases he with r|r
  ·exact hx b n r
  ·rw [n] at r;cases r
 have hm:∀b u,H b=some u->¬Mut (some u)->b≠x:=fun b u q nm z=>by subst z;rw [q] at mu;exact nm mu
 refine⟨fun b u q n _ _=>k b u (hb b n) q,fun b u q n _ _=>⟨u.slots,k b u (hb b n) q⟩,fun b u q n _=>by rw [aj (hx b n)];exact n,fun b u q _=>?_,
  fun b xs q=>by rw [aj (hm b _ q fun z=>z)];exact q,fun b u xs q=>by rw [aj (hm b _ q fun z=>z)];exact q,fun b ps q=>⟨#[],by rw [aj (hm b _ q fun z=>z),q];simp⟩⟩
 by_cases hbe:b=e
 ·subst hbe;exact heo
 ·exact⟨u,k b u hbe q⟩
end
def trk(h:Heap)(H:Hp):List Addr:=(List.range h.objs.size).filter fun a=>(H a).isSome
def wn(h:Heap)(H:Hp):Heap:=W.hideAll h (trk h H)
theorem uu(h:Heap)(H:Hp):(wn h H).objs.size=h.objs.size:=W.hideAll_size _ _
theorem wH{h:Heap}{H:Hp}{b:Addr}{o:Obj}(e:h.get? b=some o)(n:H b=none):(wn h H).get? b=some o :=
 W.hideAll_get _ e fun hm=>by
  have q:(H b).isSome=true:=(List.mem_filter.mp hm).2
  rw [n] at q;simp at q
theorem yW{h:Heap}{H:Hp}{b:Addr}{o:Obj}(e:(wn h H).get? b=some o):h.get? b=some o/\H b=none:=by
 have e':h.get? b=some o:=W.of_hideAll (trk h H) e
 refine⟨e',?_⟩
 cases q:H b with
 |none=>rfl
 |some x =>
  have hm:b∈trk h H:=List.mem_filter.mpr ⟨List.mem_range.mpr (Heap.lt_size e'),by simp [q]⟩
  have z:(wn h H).get? b=none:=W.hideAll_none (trk h H) hm
  rw [z] at e;cases e
def zu(g h:Heap)(L:Addr):List (Addr × Obj):=(List.range h.objs.size).filterMap fun a=>if a=L\/(g.get? a).isSome=true then none else (h.get? a).map fun o=>(a,o)
def rest(g h:Heap)(L d:Addr):List (Addr × Obj):=(zu g h L).filter fun p=>decide (p.1≠d)
structure Mod(K:W.Frag)(mg:Str->Option Value)(base:Heap):Prop where
 kin:K.In base
 glob:base.Ns mainGlobals mg
 blt:∃mb,base.Ns builtinsNs mb/\∀x:Str,x≠"__name__"->mb x=bootBuiltins x
 nolimit:base.NoLimit
structure Cx where
 prog:Program
 w:World
 K:W.Frag
 mg:Str->Option Value
 base:Heap
 A:Around
 N:List Str
 s₀:Shared
 H₀:Hp
 env:Env
 outer:List Env
 stack:List Env
 ex:List Addr
 fn:Str->Bool
 calm:Bool
 pn:List (Addr × Obj)
 xe:Value->Shared->Prop
def frs(l:List Env):List Addr:=l.filterMap (·.frame)
abbrev Cx.fs(X:Cx):List Addr:=frs X.outer
def Vis(sc:Scope)(x:Str):Prop:=sc.names.lookup x=some .local\/sc.names.lookup x=some .cell\/sc.names.lookup x=some .free
def Loc(sc:Scope)(x:Str):Prop:=sc.names.lookup x=some .local\/sc.names.lookup x=some .cell
def Du(env:Env)(h:Heap)(m:Str->Option Value)(x:Str)(u:Value):Prop :=
 (env.kindOf x=some .local/\m x=some u)\/((env.kindOf x=some .cell\/env.kindOf x=some .free)/\∃c,env.cells.lookup x=some c/\h.IsCell c (some u))
structure Cx.Ok(X:Cx):Prop where
 mod:Mod X.K X.mg X.base
 kind:X.env.scope.kind=.function
 glob:X.env.globals=mainGlobals
 blt:X.env.builtins=builtinsNs
 above:X.s₀.heap.objs.size<=X.env.locals
 inj:∀x y c,X.env.cells.lookup x=some c->X.env.cells.lookup y=some c->x=y
 has:∀x,(X.env.kindOf x=some .cell\/X.env.kindOf x=some .free)->∃c,X.env.cells.lookup x=some c
 cab:∀x c,X.fn x=true->X.env.cells.lookup x=some c->X.s₀.heap.objs.size<=c
 hd:X.calm=true->X.A.handled=none
 frames:X.A.frames=some X.stack
 stk:X.stack=X.outer\/(X.stack=X.env::X.outer/\X.env.frame=some X.env.locals)
 exf:∀b∈X.ex,b≠X.env.locals/\∀x c,X.env.cells.lookup x=some c->c≠b
 bs:∀b o,X.base.get? b=some o->X.s₀.heap.get? b=some o/\X.H₀ b=none
 bsz:X.base.objs.size<=X.s₀.heap.objs.size
 noex:∀b o,X.base.get? b=some o->b∉X.ex
 exfs:∀b∈X.ex,b∉X.fs
 funs:X.s₀.heap.FunFrames X.base X.outer
 frf:∀b∈X.fs,X.H₀ b=none
structure Inv(X:Cx)(pins:List (Addr × Obj))(σ:List (Option V))(H:Hp)(s:Shared):Prop where
 ok:X.Ok
 os:s.os=X.s₀.os
 bare:AllBare s.gens
 base:Un X.fs X.ex X.H₀ H X.s₀.heap s.heap
 loc:∃m,s.heap.Ns X.env.locals m/\∀(i:Nat) (x:Str) (v:V),X.N[i]?=some x->σ[i]?=some (some v)->Vis X.env.scope x->∃u,cy v u/\Du X.env s.heap m x u
 cell:∀x c,X.env.cells.lookup x=some c->∃v,s.heap.IsCell c v
 free:H X.env.locals=none
 freeC:∀x c,X.env.cells.lookup x=some c->H c=none
 pin:∀p∈X.pn++pins,s.heap.get? p.1=some p.2/\H p.1=none/\p.1≠X.env.locals/\p.1∉X.fs/\∀v,p.2.data≠.cell v
 hok:HOk X.prog X.w H s.heap
 len:σ.length=X.N.length
section
variable{X:Cx}{pins:List (Addr × Obj)}{σ:List (Option V)}{H H':Hp}{s:Shared}{h':Heap}
theorem Cx.Ok.nofr(ok:X.Ok){b:Addr}{o:Obj}(e:X.base.get? b=some o):b∉X.fs:=fun hb=>by
 have:=(ok.funs.mem hb).1
 rw [e] at this;cases this
theorem Inv.bs(I:Inv X pins σ H s):∀b o,X.base.get? b=some o->s.heap.get? b=some o/\H b=none:=fun b o e =>
 ⟨I.base.keep b o (I.ok.bs b o e).1 (I.ok.bs b o e).2 (I.ok.nofr e) (I.ok.noex b o e),I.base.free b o (I.ok.bs b o e).1 (I.ok.bs b o e).2 (I.ok.noex b o e)⟩
theorem Inv.bk(I:Inv X pins σ H s):∀b o,X.base.get? b=some o->s.heap.get? b=some o:=fun b o e=>(I.bs b o e).1
theorem Inv.mod(I:Inv X pins σ H s):Mod X.K X.mg X.base:=I.ok.mod
theorem Inv.kIn(I:Inv X pins σ H s):X.K.In s.heap:=I.ok.mod.kin.keeps I.bk
theorem Inv.lt(I:Inv X pins σ H s):X.env.locals < s.heap.objs.size:=let ⟨_,hn,_⟩:=I.loc;hn.lt
theorem Inv.sz(I:Inv X pins σ H s):X.s₀.heap.objs.size<=s.heap.objs.size:=Nat.le_trans I.ok.above (Nat.le_of_lt I.lt)
theorem Inv.nofs(I:Inv X pins σ H s){a:Addr}(h:s.heap.objs.size<=a):a∉X.fs:=fun hb=>by
 obtain⟨_,o,ho,_⟩:=I.ok.funs.mem hb
 exact absurd (Nat.lt_of_lt_of_le (Heap.lt_size ho) (Nat.le_trans I.sz h)) (Nat.lt_irrefl _)
theorem Inv.cne(I:Inv X pins σ H s):∀x c,X.env.cells.lookup x=some c->c≠X.env.locals:=fun x c e z=>by
 obtain⟨v,o,ho,hd⟩:=I.cell x c e
 obtain⟨m,⟨o',es,ep,ho',hd',_⟩,_⟩:=I.loc
 rw [z,ho'] at ho;cases ho;rw [hd'] at hd;cases hd
theorem Inv.funs(I:Inv X pins σ H s):s.heap.FunFrames X.base X.outer:=by
 have all:∀(l:List Env),(∀b∈frs l,b∈X.fs)->X.s₀.heap.FunFrames X.base l->s.heap.FunFrames X.base l:=by
  intro l
  induction l with
  |nil=>intro _ _;trivial
  |cons env r ih =>
   intro hs hl
   obtain⟨hk,⟨L,o,hf,hn,ho,hd⟩,hr⟩:=hl
   have hL:L∈X.fs:=hs L (by unfold frs;rw [List.filterMap_cons,hf];exact List.mem_cons_self)
   obtain⟨sl,e⟩:=I.base.slot L o ho (I.ok.frf L hL) hL fun z=>I.ok.exfs L z hL
   exact⟨hk,⟨L,_,hf,hn,e,hd⟩,ih (fun b hb=>hs b (by unfold frs;rw [List.filterMap_cons,hf];exact List.mem_cons_of_mem _ hb)) hr⟩
 exact all X.outer (fun _ hb=>hb) I.ok.funs
theorem Inv.stack(I:Inv X pins σ H s):s.heap.FunFrames X.base X.stack:=by
 rcases I.ok.stk with e|⟨e,hf⟩
 ·rw [e];exact I.funs
 ·rw [e]
  obtain⟨m,hn,_⟩:=I.loc
  refine .cons (by rw [I.ok.kind];decide) hf hn ?_ I.funs
  exact Heap.get?_none_of_le (Nat.le_trans I.ok.bsz I.ok.above)
theorem Inv.stkSub(I:Inv X pins σ H s):∀b∈frs X.stack,b∈X.env.locals::X.fs:=fun b hb=>by
 rcases I.ok.stk with e|⟨e,hf⟩
 ·rw [e] at hb;exact List.mem_cons_of_mem _ hb
 ·rw [e] at hb
  unfold frs at hb
  rw [List.filterMap_cons,hf] at hb
  exact hb
theorem Inv.stkFree(I:Inv X pins σ H s):∀b∈frs X.stack,H b=none:=fun b hb=>by
 rcases List.mem_cons.mp (I.stkSub b hb) with e|hb
 ·rw [e];exact I.free
 ·obtain⟨_,o,ho,_⟩:=I.ok.funs.mem hb
  exact I.base.free b o ho (I.ok.frf b hb) fun z=>I.ok.exfs b z hb
theorem Inv.step{g':Array GenState}{t':Nat}{d':Drawn}{ch:List Addr}(I:Inv X pins σ H s)
  (hch:∀b∈ch,(b∈X.ex\/X.s₀.heap.objs.size<=b)/\b≠X.env.locals/\(∀x c,X.env.cells.lookup x=some c->c≠b)/\∀p∈X.pn++pins,p.1≠b)
  (keep:∀b o,b≠X.env.locals->b∉X.fs->b∉ch->s.heap.get? b=some o->H b=none->h'.get? b=some o)
  (slot:∀b o,b≠X.env.locals->b∈X.fs->b∉ch->s.heap.get? b=some o->H b=none->∃sl,h'.get? b=some { o with slots:=sl }) (free:∀b o,b∉ch->s.heap.get? b=some o->H b=none->H' b=none)
  (there:∀b o,b∉ch->s.heap.get? b=some o->∃o',h'.get? b=some o')
  (tups:∀b xs,H b=some (.tup xs)->H' b=some (.tup xs)) (frzs:∀b o u,H b=some (.frz o u)->H' b=some (.frz o u)) (tbls:∀b ps,H b=some (.tbl ps)->∃more,H' b=some (.tbl (ps++more)))
  (ns:∀m,s.heap.Ns X.env.locals m->h'.Ns X.env.locals m) (hok:HOk X.prog X.w H' h') (hg:AllBare g') :
  Inv X pins σ H' { s with heap:=h',gens:=g',drawn:=d',toks:=t' }:=by
 have neL:∀b o,X.s₀.heap.get? b=some o->b≠X.env.locals:=fun b o e=>Nat.ne_of_lt (Nat.lt_of_lt_of_le (Heap.lt_size e) I.ok.above)
 have neC:∀b o,X.s₀.heap.get? b=some o->b∉X.ex->b∉ch:=fun b o e hx hb=>by
  rcases (hch b hb).1 with z|z
  ·exact hx z
  ·exact absurd (Nat.lt_of_lt_of_le (Heap.lt_size e) z) (Nat.lt_irrefl _)
 have cellK:∀x c,X.env.cells.lookup x=some c->∀v,s.heap.IsCell c v->h'.IsCell c v:=fun x c e v ⟨o,ho,hd⟩=>by
  have nch:c∉ch:=fun z=>(hch c z).2.2.1 x c e rfl
  by_cases hc:c∈X.fs
  ·obtain⟨sl,q⟩:=slot c o (I.cne x c e) hc nch ho (I.freeC x c e)
   exact⟨_,q,hd⟩
  ·exact⟨o,keep c o (I.cne x c e) hc nch ho (I.freeC x c e),hd⟩
 refine⟨I.ok,I.os,hg,⟨fun b o e n hb hx=>?_,fun b o e n hb hx=>?_,fun b o e n hx=>?_,fun b o e hx=>?_,fun b xs e=>tups b xs (I.base.tups b xs e),fun b o xs e=>frzs b o xs (I.base.frzs b o xs e),fun b ps e=>?_⟩,?_,fun x c e=>?_,?_,fun x c e=>?_,fun p hp=>?_,hok,I.len⟩
 ·exact keep b o (neL b o e) hb (neC b o e hx) (I.base.keep b o e n hb hx) (I.base.free b o e n hx)
 ·obtain⟨sl,e1⟩:=I.base.slot b o e n hb hx
  obtain⟨sl',e2⟩:=slot b _ (neL b o e) hb (neC b o e hx) e1 (I.base.free b o e n hx)
  exact⟨sl',e2⟩
 ·obtain⟨o',e1⟩:=I.base.there b o e hx
  exact free b o' (neC b o e hx) e1 (I.base.free b o e n hx)
 ·obtain⟨o',e1⟩:=I.base.there b o e hx
  exact there b o' (neC b o e hx) e1
 ·obtain⟨m1,e1⟩:=I.base.tbls b ps e
  obtain⟨m2,e2⟩:=tbls b _ e1
  exact⟨m1++m2,by rw [e2,Array.append_assoc]⟩
 ·obtain⟨m,hn,hl⟩:=I.loc
  refine⟨m,ns m hn,fun i x v e1 e2 e3=>?_⟩
  obtain⟨u,r,l⟩:=hl i x v e1 e2 e3
  refine⟨u,r,?_⟩
  rcases l with l|⟨k,c,e,z⟩
  ·exact .inl l
  ·exact .inr ⟨k,c,e,cellK x c e _ z⟩
 ·obtain⟨v,z⟩:=I.cell x c e
  exact⟨v,cellK x c e v z⟩
 ·obtain⟨m,⟨o,_,_,ho,_⟩,_⟩:=I.loc
  exact free _ o (fun z=>(hch _ z).2.1 rfl) ho I.free
 ·obtain⟨v,o,ho,hd⟩:=I.cell x c e
  exact free c o (fun z=>(hch c z).2.2.1 x c e rfl) ho (I.freeC x c e)
 ·obtain⟨e,n,ne,nf,d⟩:=I.pin p hp
  have nch:p.1∉ch:=fun z=>(hch p.1 z).2.2.2 p hp rfl
  exact⟨keep p.1 p.2 ne nf nch e n,free p.1 p.2 nch e n,ne,nf,d⟩
theorem Inv.un{t':Nat}(I:Inv X pins σ H s)(u:Un X.fs [] H H' s.heap h')(hok:HOk X.prog X.w H' h'):Inv X pins σ H' { s with heap:=h',toks:=t' }:=by
 obtain⟨m,⟨o,es,ep,ho,r⟩,_⟩:=id I.loc
 obtain⟨sl,hL⟩:=u.any ho I.free (by simp)
 exact I.step (g':=s.gens) (d':=s.drawn) (ch:=[]) (fun _ z=>nomatch z) (fun b o _ hb _ e n=>u.keep b o e n hb (by simp)) (fun b o _ hb _ e n=>u.slot b o e n hb (by simp)) (fun b o _ e n=>u.free b o e n (by simp)) (fun b o _ e=>u.there b o e (by simp)) u.tups u.frzs u.tbls (fun m' hm=>by
  obtain⟨o',es',ep',ho',r'⟩:=hm
  rw [ho] at ho';cases ho'
  exact⟨_,es',ep',hL,r'⟩) hok I.bare
theorem Inv.call{g':Array GenState}{t':Nat}{d':Drawn}{ch:List Addr}(I:Inv X pins σ H s)(u:Un (frs X.stack) ch H H' s.heap h')(hok:HOk X.prog X.w H' h')(hg:AllBare g')
  (hch:∀b∈ch,(b∈X.ex\/X.s₀.heap.objs.size<=b)/\b≠X.env.locals/\(∀x c,X.env.cells.lookup x=some c->c≠b)/\∀p∈X.pn++pins,p.1≠b) :
  Inv X pins σ H' { s with heap:=h',gens:=g',drawn:=d',toks:=t' }:=by
 obtain⟨m,⟨o,es,ep,ho,r⟩,_⟩:=id I.loc
 obtain⟨sl,hL⟩:=u.any ho I.free fun z=>(hch _ z).2.1 rfl
 exact I.step (ch:=ch) hch (fun b o hL hb hc e n=>u.keep b o e n (fun z=>(List.mem_cons.mp (I.stkSub b z)).elim hL hb) hc) (fun b o _ _ hc e n=>u.any e n hc) (fun b o hc e n=>u.free b o e n hc) (fun b o hc e=>u.there b o e hc) u.tups u.frzs u.tbls (fun m' hm=>by
  obtain⟨o',es',ep',ho',r'⟩:=hm
  rw [ho] at ho';cases ho'
  exact⟨_,es',ep',hL,r'⟩) hok hg
theorem Inv.turned{t':Nat}{it:Addr}(I:Inv X pins σ H s)(k:∀b o,b≠it->s.heap.get? b=some o->h'.get? b=some o)(hn:H it=none)(hL:it≠X.env.locals)
  (h1:it∈X.ex\/X.s₀.heap.objs.size<=it) (h2:∀x c,X.env.cells.lookup x=some c->c≠it) (h3:∀p∈X.pn++pins,p.1≠it):Inv X pins σ H { s with heap:=h',toks:=t' }:=by
 have nit:∀b u,H b=some u->b≠it:=fun b u e z=>by rw [z,hn] at e;cases e
 refine I.step (g':=s.gens) (d':=s.drawn) (ch:=[it]) (fun b hb=>?_) (fun b o _ _ hc e _=>k b o (fun z=>hc (by simp [z])) e) (fun b o _ _ hc e _=>⟨o.slots,k b o (fun z=>hc (by simp [z])) e⟩) (fun _ _ _ _ n=>n)
  (fun b o hc e=>⟨o,k b o (fun z=>hc (by simp [z])) e⟩) (fun _ _ e=>e) (fun _ _ _ e=>e) (fun b ps e=>⟨#[],by rw [e];simp⟩) (fun m hm=>?_) (fun b u e=>?_) I.bare
 ·have e:b=it:=by simpa using hb
  subst e
  exact⟨h1,hL,h2,h3⟩
 ·obtain⟨o,es,ep,ho,r⟩:=hm
  exact⟨o,es,ep,k _ o (Ne.symm hL) ho,r⟩
 ·refine(I.hok b u e).stay (fun c v hc q=>k c v ?_ q) (fun _ q=>q) fun _ _ q=>q
  rcases hc with z|z
  ·rw [z];exact nit b u e
  ·exact nit c _ z
theorem Inv.tok(I:Inv X pins σ H s)(t:Nat):Inv X pins σ H { s with toks:=t }:=I.un (h':=s.heap) (t':=t) Un.refl I.hok
theorem Inv.kept{t':Nat}(I:Inv X pins σ H s)(k:∀b u,s.heap.get? b=some u->h'.get? b=some u):Inv X pins σ H { s with heap:=h',toks:=t' }:=I.un (Un.kept k) (I.hok.kept k)
theorem Inv.laid{a:Addr}{o:HO}{t':Nat}(I:Inv X pins σ H s)(k:∀b u,s.heap.get? b=some u->h'.get? b=some u)(hp:s.heap.objs.size<=a)(new:cr X.prog X.w (upd H a o) h' a o) :
  Inv X pins σ (upd H a o) { s with heap:=h',toks:=t' }:=I.un (Un.laid k hp (I.hok.fresh hp)) (I.hok.laid k hp new)
theorem Inv.write{x e:Addr}{o:HO}{t':Nat}(I:Inv X pins σ H s)(mu:Mut (H x))(he:e=x\/H e=some (.own x))(k:∀b u,b≠e->s.heap.get? b=some u->h'.get? b=some u)(heo:∃u,h'.get? e=some u)
  (new:cr X.prog X.w (upd H x o) h' x o):Inv X pins σ (upd H x o) { s with heap:=h',toks:=t' }:=I.un (Un.write mu he k heo) (I.hok.write mu he k heo new)
theorem Inv.weak{σ':List (Option V)}(I:Inv X pins σ H s)(hl:σ'.length=σ.length)(w:∀(i:Nat) v,σ'[i]?=some (some v)->σ[i]?=some (some v)):Inv X pins σ' H s :=
 ⟨I.ok,I.os,I.bare,I.base,let ⟨m,hn,hl'⟩:=I.loc;⟨m,hn,fun i x v e1 e2 e3=>hl' i x v e1 (w i v e2) e3⟩,I.cell,I.free,I.freeC,I.pin,I.hok,hl.trans I.len⟩
theorem Inv.pins_of{pins':List (Addr × Obj)}(I:Inv X pins σ H s)(h:∀p∈pins',s.heap.get? p.1=some p.2/\H p.1=none/\p.1≠X.env.locals/\p.1∉X.fs/\∀v,p.2.data≠.cell v):Inv X pins' σ H s :=
 ⟨I.ok,I.os,I.bare,I.base,I.loc,I.cell,I.free,I.freeC,fun p hp=>(List.mem_append.mp hp).elim (fun z=>I.pin p (List.mem_append_left _ z)) (h p),I.hok,I.len⟩
theorem nG{N:List Str}(hN:N.Nodup){i j:Nat}{x:Str}(a:N[i]?=some x)(b:N[j]?=some x):i=j:=by
 obtain⟨h1,e1⟩:=List.getElem?_eq_some_iff.mp a
 obtain⟨h2,e2⟩:=List.getElem?_eq_some_iff.mp b
 exact(List.getElem_inj hN).mp (e1.trans e2.symm)
theorem pc{M:Model}{A:Around}{E:Value->Shared->Prop}{i:Nat}{x:Str}{v:V}{u:Value}{Q:Unit->Shared->Prop}(I:Inv X pins σ H s)(hN:X.N.Nodup)(hi:X.N[i]?=some x)(hx:Loc X.env.scope x)(r:cy v u)
  (h:∀s',Inv X pins (σ.set i (some v)) H s'->(∃a,Heap.SameBut a s.heap s'.heap/\(a=X.env.locals\/X.env.cells.lookup x=some a))->Q () s') (hf:X.fn x=true\/X.env.scope.names.lookup x=some .local:=by first|exact .inl rfl|exact .inr rfl|assumption):wpAny M A (storeName X.env x u) Q E s:=by
 obtain⟨m,hn,hl⟩:=id I.loc
 have hcls:(X.env.scope.kind==.class||(X.env.scope.kind==.module&&X.env.locals != X.env.globals))=false:=by rw [I.ok.kind];rfl
 have hiσ:i < σ.length:=by rw [I.len];exact(List.getElem?_eq_some_iff.mp hi).1
 have cne:=I.cne
 have tracked:∀{a:Addr} {h':Heap},(∃o,s.heap.get? a=some o/\H a=none)->Heap.SameBut a s.heap h'->HOk X.prog X.w H h':=fun {a h'} ha hs b ob e=>by
  obtain⟨_,_,hfree⟩:=ha
  refine(I.hok b ob e).stay (fun c w' hc q=>(hs.2 c ?_).trans q) (fun _ q=>q) fun _ _ q=>q
  rintro rfl
  rcases hc with rfl|hc
  ·rw [hfree] at e;cases e
  ·rw [hfree] at hc;cases hc
 rcases hx with hk|hk
 ·refine wpAny_storeName_local hk hn (fun h' hn' hs=>?_) hcls
  obtain⟨oL,_,_,hoL,_⟩:=id hn
  refine h _ ⟨I.ok,I.os,I.bare,⟨fun b o e n hb hx=>?_,fun b o e n hb hx=>?_,I.base.free,fun b o e hx=>?_,I.base.tups,I.base.frzs,I.base.tbls⟩,⟨_,hn',fun j y v' e1 e2 e3=>?_⟩,fun y c e=>?_,I.free,I.freeC,fun p hp=>?_,tracked ⟨oL,hoL,I.free⟩ hs,by simpa using I.len⟩ ⟨_,hs,.inl rfl⟩
  ·exact(hs.2 b (Nat.ne_of_lt (Nat.lt_of_lt_of_le (Heap.lt_size e) I.ok.above))).trans (I.base.keep b o e n hb hx)
  ·obtain⟨sl,e1⟩:=I.base.slot b o e n hb hx
   exact⟨sl,(hs.2 b (Nat.ne_of_lt (Nat.lt_of_lt_of_le (Heap.lt_size e) I.ok.above))).trans e1⟩
  ·obtain⟨o',e1⟩:=I.base.there b o e hx
   exact⟨o',(hs.2 b (Nat.ne_of_lt (Nat.lt_of_lt_of_le (Heap.lt_size e) I.ok.above))).trans e1⟩
  ·by_cases hj:j=i
   ·subst hj
    rw [hi] at e1;cases e1
    rw [List.getElem?_set_self hiσ] at e2
    cases e2
    exact⟨u,r,.inl ⟨hk,by simp⟩⟩
   ·rw [List.getElem?_set_ne (Ne.symm hj)] at e2
    obtain⟨u',r',q⟩:=hl j y v' e1 e2 e3
    refine⟨u',r',?_⟩
    rcases q with ⟨k,e⟩|⟨k,c,e,z⟩
    ·refine .inl ⟨k,?_⟩
     have:y≠x:=fun e=>hj (nG hN e1 (e▸hi))
     simp [this,e]
    ·exact .inr ⟨k,c,e,z.sameBut hs (cne y c e)⟩
  ·obtain⟨w',z⟩:=I.cell y c e
   exact⟨w',z.sameBut hs (cne y c e)⟩
  ·obtain⟨e,n,ne,nf,d⟩:=I.pin p hp
   exact⟨(hs.2 p.1 ne).trans e,n,ne,nf,d⟩
 ·have hfn:X.fn x=true:=by
   rcases hf with z|z
   ·exact z
   ·rw [z] at hk;cases hk
  obtain⟨c,hc⟩:=I.ok.has x (.inl hk)
  obtain⟨w',z⟩:=I.cell x c hc
  refine wpAny_storeName_cell I.ok.kind hk hc z (fun h' hc' hs=>?_)
  obtain⟨oc,hoc,hocd⟩:=id z
  refine h { s with heap:=h' } ⟨I.ok,I.os,I.bare,⟨fun b o e n hb hx=>?_,fun b o e n hb hx=>?_,I.base.free,fun b o e hx=>?_,I.base.tups,I.base.frzs,I.base.tbls⟩,⟨m,hn.sameBut hs (Ne.symm (cne x c hc)),fun j y v' e1 e2 e3=>?_⟩,fun y c' e=>?_,I.free,I.freeC,fun p hp=>?_,tracked ⟨oc,hoc,I.freeC x c hc⟩ hs,by simpa using I.len⟩ ⟨c,hs,.inr hc⟩
  ·exact(hs.2 b (Nat.ne_of_lt (Nat.lt_of_lt_of_le (Heap.lt_size e) (I.ok.cab x c hfn hc)))).trans (I.base.keep b o e n hb hx)
  ·obtain⟨sl,e1⟩:=I.base.slot b o e n hb hx
   exact⟨sl,(hs.2 b (Nat.ne_of_lt (Nat.lt_of_lt_of_le (Heap.lt_size e) (I.ok.cab x c hfn hc)))).trans e1⟩
  ·obtain⟨o',e1⟩:=I.base.there b o e hx
   exact⟨o',(hs.2 b (Nat.ne_of_lt (Nat.lt_of_lt_of_le (Heap.lt_size e) (I.ok.cab x c hfn hc)))).trans e1⟩
  ·by_cases hj:j=i
   ·subst hj
    rw [hi] at e1;cases e1
    rw [List.getElem?_set_self hiσ] at e2
    cases e2
    exact⟨u,r,.inr ⟨.inl hk,c,hc,hc'⟩⟩
   ·rw [List.getElem?_set_ne (Ne.symm hj)] at e2
    obtain⟨u',r',q⟩:=hl j y v' e1 e2 e3
    refine⟨u',r',?_⟩
    rcases q with q|⟨k,c',e,z'⟩
    ·exact .inl q
    ·refine .inr ⟨k,c',e,z'.sameBut hs ?_⟩
     rintro rfl
     exact hj (nG hN e1 (I.ok.inj _ _ _ e hc▸hi))
  ·by_cases hcc:c'=c
   ·subst hcc;exact⟨_,hc'⟩
   ·obtain⟨w2,z2⟩:=I.cell y c' e
    exact⟨w2,z2.sameBut hs hcc⟩
  ·obtain⟨e,n,ne,nf,d⟩:=I.pin p hp
   refine⟨(hs.2 p.1 ?_).trans e,n,ne,nf,d⟩
   intro q
   rw [q,hoc] at e
   have q':oc=p.2:=Option.some.inj e
   exact d w' (by rw [<-q'];exact hocd)
theorem iw{M:Model}{A:Around}{E:Value->Shared->Prop}{i:Nat}{x:Str}{v:V}{u:Value}{Q:Unit->Shared->Prop}(I:Inv X pins σ H s)(hN:X.N.Nodup)(hi:X.N[i]?=some x)(hx:Loc X.env.scope x)(r:cy v u)
  (h:∀s',Inv X pins (σ.set i (some v)) H s'->Q () s') (hf:X.fn x=true\/X.env.scope.names.lookup x=some .local:=by first|exact .inl rfl|exact .inr rfl|assumption):wpAny M A (storeName X.env x u) Q E s :=
 pc I hN hi hx r (fun s' I' _=>h s' I') hf
theorem Inv.call'{s':Shared}{ch:List Addr}(I:Inv X pins σ H s)(ho:s'.os=s.os)(u:Un (frs X.stack) ch H H' s.heap s'.heap)(hok:HOk X.prog X.w H' s'.heap)(hg:AllBare s'.gens)
  (hch:∀b∈ch,(b∈X.ex\/X.s₀.heap.objs.size<=b)/\b≠X.env.locals/\(∀x c,X.env.cells.lookup x=some c->c≠b)/\∀p∈X.pn++pins,p.1≠b):Inv X pins σ H' s':=by
 obtain⟨h',g',d',t',o'⟩:=s'
 have e:o'=s.os:=ho
 subst e
 exact I.call (g':=g') (t':=t') (d':=d') u hok hg hch
end
abbrev XK:=Value->Option Addr->Hp->Prop
abbrev St:=List (Option V)
abbrev VK:=V->Hp->Prop
abbrev TE:=St->Hp->VK->Prop
abbrev TT:=St->Hp->(Bool->Hp->Prop)->Prop
abbrev TA:=St->Hp->(List V->Hp->Prop)->Prop
structure fZ where
 nx:St->Hp->Prop
 rt:VK
 bk:St->Hp->Prop:=fun _ _=>False
 ct:St->Hp->Prop:=fun _ _=>False
abbrev TS:=fZ->St->Hp->Prop
def EP(X:Cx)(pins:List (Addr × Obj))(σ:St)(Q:VK)(u:Value)(s':Shared):Prop:=∃v H',Inv X pins σ H' s'/\cy v u/\Q v H'
def TP(X:Cx)(pins:List (Addr × Obj))(σ:St)(Q:Bool->Hp->Prop)(b:Bool)(s':Shared):Prop:=∃H',Inv X pins σ H' s'/\Q b H'
def AP(X:Cx)(pins:List (Addr × Obj))(σ:St)(Q:List V->Hp->Prop)(us:List Value)(s':Shared):Prop:=∃vs H',Inv X pins σ H' s'/\cw vs us/\Q vs H'
def SP(X:Cx)(pins:List (Addr × Obj))(D:fZ)(f:Flow)(s':Shared):Prop :=
 match f with
 |.next=>∃σ' H',Inv X pins σ' H' s'/\D.nx σ' H'
 |.brk=>∃σ' H',Inv X pins σ' H' s'/\D.bk σ' H'
 |.cont=>∃σ' H',Inv X pins σ' H' s'/\D.ct σ' H'
 |.ret u=>∃v σ' H',Inv X pins σ' H' s'/\cy v u/\D.rt v H'
def PE(X:Cx)(e:Expr)(t:TE):Prop :=
 ∀(pins:List (Addr × Obj)) (s:Shared) (σ:St) (H:Hp) (Q:VK),Inv X pins σ H s->t σ H Q->wpAny (model X.prog X.w) X.A (eval e X.env) (EP X pins σ Q) X.xe s
def PT(X:Cx)(e:Expr)(t:TT):Prop :=
 ∀(pins:List (Addr × Obj)) (s:Shared) (σ:St) (H:Hp) (Q:Bool->Hp->Prop),Inv X pins σ H s->t σ H Q->wpAny (model X.prog X.w) X.A (isTrue e X.env (eval e X.env)) (TP X pins σ Q) X.xe s
def PW(X:Cx)(e:Expr)(t:TT):Prop :=
 ∀(whole:Sem Value) (pins:List (Addr × Obj)) (s:Shared) (σ:St) (H:Hp) (Q:Bool->Hp->Prop),Inv X pins σ H s->t σ H Q->wpAny (model X.prog X.w) X.A (isTrue e X.env whole) (TP X pins σ Q) X.xe s
theorem PW.pt{X:Cx}{e:Expr}{t:TT}(h:PW X e t):PT X e t:=h _
def PA(X:Cx)(es:List Expr)(t:TA):Prop :=
 ∀(pos:Pos) (pins:List (Addr × Obj)) (s:Shared) (σ:St) (H:Hp) (Q:List V->Hp->Prop),Inv X pins σ H s->t σ H Q->wpAny (model X.prog X.w) X.A (spliced (backTo pos (starEach es X.env))) (AP X pins σ Q) X.xe s
def PS(X:Cx)(st:Stmt)(t:TS):Prop :=
 ∀(pins:List (Addr × Obj)) (s:Shared) (σ:St) (H:Hp) (D:fZ),Inv X pins σ H s->t D σ H->wpAny (model X.prog X.w) X.A (exec st X.env) (SP X pins D) X.xe s
def PSs(X:Cx)(st:List Stmt)(t:TS):Prop :=
 ∀(pins:List (Addr × Obj)) (s:Shared) (σ:St) (H:Hp) (D:fZ),Inv X pins σ H s->t D σ H->wpAny (model X.prog X.w) X.A (execs st X.env) (SP X pins D) X.xe s
theorem thn{α:Type}{t:Sem α}{Q Q':α->Shared->Prop}{M:Model}{A:Around}{E:Value->Shared->Prop}{s:Shared}(h:wpAny M A t Q E s)(hQ:∀a s,Q a s->Q' a s):wpAny M A t Q' E s:=wpAny_mono h hQ fun _ _ x=>x
section
variable{X:Cx}
inductive Wi (i:Nat) (σ:St) (H:Hp) (Q:VK):Prop
 |mk (v:V) (h:σ[i]?=some (some v)) (q:Q v H)
def C7(i:Nat):TE:=fun σ H Q=>Wi i σ H Q
def tC(v:V):TE:=fun _ H Q=>Q v H
theorem Bi{i:Nat}{x:Str}{pos:Pos}(hN:X.N[i]?=some x)(hv:Vis X.env.scope x) (hd:(x==("__debug__":Str))=false:=by decide) (hcd:(x==("__classdict__":Str))=false:=by decide):PE X (.Name x pos) (C7 i):=by
 intro pins s σ H Q I h
 obtain⟨v,e,h⟩:=h
 obtain⟨m,hn,hl⟩:=I.loc
 obtain⟨u,r,l⟩:=hl i x v hN e hv
 have fin:EP X pins σ Q u s:=⟨v,H,I,r,h⟩
 rcases l with ⟨hk,hm⟩|⟨hk,c,hc,hcell⟩
 ·exact wpAny_Name (wpAny_loadName_local I.ok.kind hk hn hm fin) hd
 ·rcases hk with hk|hk
  ·exact wpAny_Name (wpAny_loadName_cell I.ok.kind hk hc hcell fin) hd
  ·exact wpAny_Name (wpAny_loadName_free I.ok.kind hk hc hcell fin hcd) hd
theorem ai{i j pos}:PE X (.Constant (.int i) j pos) (tC (.int i)):=fun _ _ _ H _ I h=>wpAny_Constant_int ⟨.int i,H,I.tok _,⟨_,rfl⟩,h⟩
theorem oP{b j pos}:PE X (.Constant (.bool b) j pos) (tC (.bl b)):=fun _ _ _ H _ I h=>Constant_bool ⟨.bl b,H,I,rfl,h⟩
theorem cL{j pos}:PE X (.Constant .none j pos) (tC .non):=fun _ _ _ H _ I h=>Constant_none ⟨.non,H,I,rfl,h⟩
theorem am{x j pos}:PE X (.Constant (.str x) j pos) (tC (.str x)):=fun _ _ _ H _ I h=>Calls.Constant_str ⟨.str x,H,I.tok _,⟨_,rfl⟩,h⟩
def Gl(X:Cx)(x:Str):Prop:=X.env.kindOf x=some .globalImplicit
theorem gU{E:Value->Shared->Prop}{pins:List (Addr × Obj)}{s:Shared}{σ:St}{H:Hp}{x:Str}{u:Value}{pos:Pos}{Q:Value->Shared->Prop}(I:Inv X pins σ H s)(hg:Gl X x)(hm:X.mg x=some u)(h:Q u s)
  (hd:(x==("__debug__":Str))=false:=by decide):wpAny (model X.prog X.w) X.A (eval (.Name x pos) X.env) Q E s :=
 Calls.Name_function_global I.ok.kind hg (Calls.loadGlobal_global (by rw [I.ok.glob];exact I.mod.glob.keeps I.bk) hm h) hd
theorem qQ{E:Value->Shared->Prop}{pins:List (Addr × Obj)}{s:Shared}{σ:St}{H:Hp}{x:Str}{u:Value}{pos:Pos}{Q:Value->Shared->Prop}(I:Inv X pins σ H s)(hg:Gl X x)(hm:X.mg x=none)(hv:bootBuiltins x=some u)(h:Q u s)
  (hn:x≠"__name__":=by decide) (hd:(x==("__debug__":Str))=false:=by decide):wpAny (model X.prog X.w) X.A (eval (.Name x pos) X.env) Q E s:=by
 obtain⟨mb,h1,h2⟩:=I.mod.blt
 exact Calls.Name_function_global I.ok.kind hg (Calls.loadGlobal_builtin (by rw [I.ok.glob];exact I.mod.glob.keeps I.bk) hm (by rw [I.ok.blt];exact h1.keeps I.bk) ((h2 x hn).trans hv) h) hd
theorem iS{x:Str}{v:V}{u:Value}{pos:Pos}(hg:Gl X x)(hm:X.mg x=some u)(r:cy v u) (hd:(x==("__debug__":Str))=false:=by decide):PE X (.Name x pos) (tC v) :=
 fun _ _ _ H _ I h=>gU I hg hm ⟨v,H,I,r,h⟩ hd
theorem gc{x:Str}{v:V}{u:Value}{pos:Pos}(hg:Gl X x)(hm:X.mg x=none)(hv:bootBuiltins x=some u)(r:cy v u) (hn:x≠"__name__":=by decide) (hd:(x==("__debug__":Str))=false:=by decide):PE X (.Name x pos) (tC v) :=
 fun _ _ _ H _ I h=>qQ I hg hm hv ⟨v,H,I,r,h⟩ hn hd
variable{a b:Expr}{ta tb:TE}{pos:Pos}
def PC(X:Cx)(op:CmpOp)(a b:Expr)(t:TE):Prop :=
 ∀(pins:List (Addr × Obj)) (s:Shared) (σ:St) (H:Hp) (Q:VK),Inv X pins σ H s->t σ H Q ->
  wpAny (model X.prog X.w) X.A (eval a X.env) (fun v s₁=>wpAny (model X.prog X.w) X.A (eval b X.env) (fun u s₂=>wpAny (model X.prog X.w) X.A (compareOp op v u) (EP X pins σ Q) X.xe s₂) X.xe s₁) X.xe s
inductive Wb (x:V) (H:Hp) (Q:Bool->Hp->Prop):Prop
 |mk (c:Bool) (h:x=.bl c) (q:Q c H)
def tB(t:TE):TT:=fun σ H Q=>t σ H fun x H1=>Wb x H1 Q
theorem lO{op:CmpOp}{t:TE}(h:PC X op a b t)(h1:behindInMarks op b=false:=by first|exact nobehind _ (by decide) (by decide)|rfl):PT X (.Compare a [op] [b] pos) (tB t):=by
 intro pins s σ H Q I hw
 refine wpAny_isTrue_Compare1 (thn (h pins s σ H _ I hw) fun v s1 h1=>thn h1 fun u s2 h2=>thn h2 fun c s3 ⟨x,H1,I1,r1,q1⟩=>?_) h1
 obtain⟨d,rfl,q⟩:=q1
 cases r1
 exact wpAny_truthy_bool ⟨H1,I1,q⟩
theorem pt_val{e:Expr}{t:TE}(h:PE X e t)(he:∀whole,isTrue e X.env whole=(do let v <-whole;standAt e.pos;holding [v] (truthy v)):=by intro _;rfl):PT X e (tB t):=by
 intro pins s σ H Q I hw
 refine isTrue_plain (thn (h pins s σ H _ I hw) fun v s1 ⟨x,H1,I1,r1,q1⟩=>?_) (he _)
 obtain⟨d,rfl,q⟩:=q1
 cases r1
 exact wpAny_truthy_bool ⟨H1,I1,q⟩
variable{tA tB':TT}{rest:List Expr}
def tOr(t u:TT):TT:=fun σ H Q=>t σ H fun c H1=>if c=true then Q true H1 else u σ H1 Q
def Dl(t:TT):TT:=fun σ H Q=>t σ H fun c H1=>Q (!c) H1
theorem qU(ha:PT X a tA):PW X (.BoolOp .Or [a] pos) tA:=by
 intro wh pins s σ H Q I h
 refine isTrue_or (thn (ha pins s σ H Q I h) fun c s1 e=>?_)
 cases c with
 |false=>exact isTrue_or_nil e
 |true=>exact e
theorem tS(ha:PT X a tA)(hb:PW X (.BoolOp .Or (b::rest) pos) tB'):PW X (.BoolOp .Or (a::b::rest) pos) (tOr tA tB'):=by
 intro wh pins s σ H Q I h
 refine isTrue_or (thn (ha pins s σ H _ I h) fun c s1 ⟨H1,I1,q1⟩=>?_)
 cases c with
 |true=>exact⟨H1,I1,q1⟩
 |false=>exact hb wh pins s1 σ H1 Q I1 q1
theorem jl(ha:PT X a tA):PT X (.UnaryOp .Not a pos) (Dl tA):=by
 intro pins s σ H Q I h
 exact isTrue_not (ha pins s σ H (fun c H1=>Q (!c) H1) I h)
def B7(ta tb:TE):TE:=fun σ H Q=>ta σ H fun x H1=>∃c,x=.bl c/\if c=true then tb σ H1 Q else Q (.bl false) H1
def CV(ta:TE):TE:=fun σ H Q=>ta σ H fun x H1=>∃c,x=.bl c/\Q (.bl (!c)) H1
theorem yg{op}{t:TE}(h:PE X a t):PE X (.BoolOp op [a] pos) t:=fun pins s σ H Q I hw=>BoolOp_one (h pins s σ H Q I hw)
theorem ul(ha:PE X a ta)(hb:PE X (.BoolOp .And (b::rest) pos) tb):PE X (.BoolOp .And (a::b::rest) pos) (B7 ta tb):=by
 intro pins s σ H Q I h
 refine BoolOp_and (thn (ha pins s σ H _ I h) fun v s1 ⟨x,H1,I1,r1,q1⟩=>?_)
 obtain⟨c,rfl,q1⟩:=q1
 cases r1
 refine wpAny_truthy_bool ?_
 cases c with
 |true=>exact hb pins s1 σ H1 Q I1 q1
 |false=>exact⟨.bl false,H1,I1,rfl,q1⟩
theorem Bn(ha:PE X a ta):PE X (.UnaryOp .Not a pos) (CV ta):=by
 intro pins s σ H Q I h
 refine UnaryOp_ (thn (ha pins s σ H _ I h) fun v s1 ⟨x,H1,I1,r1,q1⟩=>?_)
 obtain⟨c,rfl,q1⟩:=q1
 cases r1
 exact not_of (wpAny_truthy_bool ⟨.bl (!c),H1,I1,rfl,q1⟩)
end
def SqL(K:W.Frag)(H:Hp)(a:Addr)(xs:List V):Prop :=
 Rd H a (.lst xs) \/
  ∃(o:Obj) (its:Array Value) (n:Nat),K.lookup a=some o/\o.cls=.type "list"/\o.dict=none/\o.data=.seq its n/\its.size<=sizeLine/\cw xs its.toList
def SqT(K:W.Frag)(H:Hp)(a:Addr)(xs:List V):Prop :=
 Rd H a (.tup xs) \/
  ∃(o:Obj) (its:Array Value) (n:Nat),K.lookup a=some o/\o.cls=.type "tuple"/\o.data=.seq its n/\its.size<=sizeLine/\cw xs its.toList
def Dz:Value->Option V
 |.none=>some .non
 |.bool b=>some (.bl b)
 |.int i _=>some (.int i)
 |.str x _=>some (.str x)
 |.bytes b _=>some (.byt b)
 |.float b _=>some (.flt b)
 |.ref a=>some (.ref a)
 |.type n=>some (.ty n)
 |_=>none
theorem cy.abs{x:V}{u:Value}(r:cy x u):Dz u=some x:=by
 cases x with
 |non=>cases r;rfl
 |bl _=>cases r;rfl
 |int _=>obtain⟨t,rfl⟩:=r;rfl
 |str _=>obtain⟨t,rfl⟩:=r;rfl
 |byt _=>obtain⟨t,rfl⟩:=r;rfl
 |flt _=>obtain⟨t,rfl⟩:=r;rfl
 |ref _=>cases r;rfl
 |ty _=>cases r;rfl
theorem cy.inj{x y:V}{u:Value}(r:cy x u)(q:cy y u):x=y:=Option.some.inj (r.abs.symm.trans q.abs)
theorem cw.inj:∀{xs ys:List V} {us:List Value},cw xs us->cw ys us->xs=ys
 |_,_,_,.nil,.nil=>rfl
 |_,_,_,.cons r t,.cons r' t'=>by rw [r.inj r',cw.inj t t']
section
variable{X:Cx}{pins:List (Addr × Obj)}{σ:St}{H:Hp}{s:Shared}{a:Addr}{xs ys:List V}
theorem SqL.of{K:W.Frag}(h:H a=some (.lst xs)):SqL K H a xs:=.inl (.inl h)
theorem SqT.of{K:W.Frag}(h:H a=some (.tup xs)):SqT K H a xs:=.inl (.inl h)
theorem Inv.list(I:Inv X pins σ H s)(h:SqL X.K H a xs):∃its:List Value,cw xs its/\PlainL s.heap a its.toArray/\xs.length<=sizeLine:=by
 rcases h with h|⟨o,its,n,hk,hc,hd,hs,hz,r⟩
 ·obtain⟨z,its,n,r,e⟩:=h.ok I.hok
  exact⟨its,r,⟨_,n,e,rfl,rfl,rfl⟩,z⟩
 ·refine⟨its.toList,r,⟨o,n,I.kIn a o hk,hc,hd,by simpa using hs⟩,?_⟩
  have e:=r.length
  simp only [Array.length_toList] at e
  omega
theorem Inv.tuple(I:Inv X pins σ H s)(h:SqT X.K H a xs):∃its:List Value,cw xs its/\IsTup s.heap a its.toArray/\xs.length<=sizeLine:=by
 rcases h with h|⟨o,its,n,hk,hc,hs,hz,r⟩
 ·obtain⟨z,its,r,p⟩:=h.ok I.hok
  exact⟨its,r,p,z⟩
 ·refine⟨its.toList,r,⟨o,I.kIn a o hk,hc,n,by simpa using hs⟩,?_⟩
  have e:=r.length
  simp only [Array.length_toList] at e
  omega
theorem Inv.list_inj(I:Inv X pins σ H s)(h:SqL X.K H a xs)(h':SqL X.K H a ys):xs=ys:=by
 obtain⟨its,r,⟨o,n,e,_,_,d⟩,_⟩:=I.list h
 obtain⟨its',r',⟨o',n',e',_,_,d'⟩,_⟩:=I.list h'
 rw [e] at e';cases e'
 rw [d] at d'
 injection d' with d1 _
 have:its=its':=by simpa using congrArg Array.toList d1
 subst this
 exact r.inj r'
theorem Inv.tuple_inj(I:Inv X pins σ H s)(h:SqT X.K H a xs)(h':SqT X.K H a ys):xs=ys:=by
 obtain⟨its,r,⟨o,e,_,n,d⟩,_⟩:=I.tuple h
 obtain⟨its',r',⟨o',e',_,n',d'⟩,_⟩:=I.tuple h'
 rw [e] at e';cases e'
 rw [d] at d'
 injection d' with d1 _
 have:its=its':=by simpa using congrArg Array.toList d1
 subst this
 exact r.inj r'
end
abbrev Cx.wish(X:Cx)(E:Value->Shared->Prop):Cx:={ X with xe:=E }
abbrev Cx.nox(X:Cx):Cx:=X.wish fun _ _=>False
theorem Cx.Ok.wish{X:Cx}(ok:X.Ok)(E:Value->Shared->Prop):(X.wish E).Ok :=
 ⟨ok.mod,ok.kind,ok.glob,ok.blt,ok.above,ok.inj,ok.has,ok.cab,ok.hd,ok.frames,ok.stk,ok.exf,ok.bs,ok.bsz,ok.noex,ok.exfs,ok.funs,ok.frf⟩
theorem Cx.Ok.unwish{X:Cx}{E:Value->Shared->Prop}(ok:(X.wish E).Ok):X.Ok :=
 ⟨ok.mod,ok.kind,ok.glob,ok.blt,ok.above,ok.inj,ok.has,ok.cab,ok.hd,ok.frames,ok.stk,ok.exf,ok.bs,ok.bsz,ok.noex,ok.exfs,ok.funs,ok.frf⟩
section
variable{X:Cx}{pins:List (Addr × Obj)}{σ:St}{H:Hp}{s:Shared}{E:Value->Shared->Prop}
theorem Inv.wish(I:Inv X pins σ H s)(E:Value->Shared->Prop):Inv (X.wish E) pins σ H s:=⟨I.ok.wish E,I.os,I.bare,I.base,I.loc,I.cell,I.free,I.freeC,I.pin,I.hok,I.len⟩
theorem Inv.unwish(I:Inv (X.wish E) pins σ H s):Inv X pins σ H s:=⟨I.ok.unwish,I.os,I.bare,I.base,I.loc,I.cell,I.free,I.freeC,I.pin,I.hok,I.len⟩
theorem SP.unwish{D:fZ}{f:Flow}{s':Shared}(h:SP (X.wish E) pins D f s'):SP X pins D f s':=by
 cases f with
 |next=>obtain⟨σ',H',I,q⟩:=h;exact⟨σ',H',I.unwish,q⟩
 |brk=>obtain⟨σ',H',I,q⟩:=h;exact⟨σ',H',I.unwish,q⟩
 |cont=>obtain⟨σ',H',I,q⟩:=h;exact⟨σ',H',I.unwish,q⟩
 |ret u=>obtain⟨v,σ',H',I,r,q⟩:=h;exact⟨v,σ',H',I.unwish,r,q⟩
theorem PSs.nox{st:List Stmt}{t:TS}(h:PSs X.nox st t):PSs X st t:=fun pins s σ H D I hw =>
 wpAny_mono (h pins s σ H D (I.wish _) hw) (fun _ _ q=>q.unwish) fun _ _ z=>False.elim z
end
section
variable{X:Cx}{st:Stmt}{rest:List Stmt}{t u:TS}{e:Expr}{te:TE}{pos:Pos}
def Cb:TS:=fun D σ H=>D.nx σ H
def DC(t u:TS):TS:=fun D σ H=>t { D with nx:=u D } σ H
theorem aU:PSs X [] Cb:=fun _ _ σ H _ I h=>wpAny_execs_nil ⟨σ,H,I,h⟩
theorem ag(h1:PS X st t)(h2:PSs X rest u):PSs X (st::rest) (DC t u):=by
 intro pins s σ H D I h
 refine wpAny_execs_cons (thn (h1 pins s σ H { D with nx:=u D } I h) fun f s1 q=>?_)
 cases f with
 |next =>
  obtain⟨σ',H',I',q⟩:=q
  exact h2 pins s1 σ' H' D I' q
 |ret v=>exact q
 |brk=>exact q
 |cont=>exact q
theorem ao(h1:PS X st t):PSs X [st] t:=by
 intro pins s σ H D I h
 refine wpAny_execs_cons (thn (h1 pins s σ H D I h) fun f s1 q=>?_)
 cases f with
 |next=>exact wpAny_execs_nil q
 |ret v=>exact q
 |brk=>exact q
 |cont=>exact q
theorem Inv.quiet{pins:List (Addr × Obj)}{σ:St}{H:Hp}{s:Shared}(I:Inv X pins σ H s):interactive X.env=false:=by simp [interactive,I.ok.kind]
def B6(te:TE):TS:=fun D σ H=>te σ H fun _ H1=>D.nx σ H1
theorem cW(he:PE X e te)(hs:swapsWith e none pos.line X.env=pure false:=by rfl):PS X (.Expr e pos) (B6 te):=by
 intro pins s σ H D I h
 exact wpAny_Expr_any (thn (he pins s σ H _ I h) fun v s1 ⟨x,H1,I1,r1,q1⟩=>⟨σ,H1,I1,q1⟩) I.quiet hs
def Dt(te:TE):TS:=fun D σ H=>te σ H D.rt
theorem aS(he:PE X e te):PS X (.Return (some e) pos) (Dt te):=by
 intro pins s σ H D I h
 exact wpAny_Return_some (thn (he pins s σ H _ I h) fun v s1 ⟨x,H1,I1,r1,q1⟩=>⟨x,σ,H1,I1,r1,q1⟩)
def Dv(c:TT)(t u:TS):TS:=fun D σ H=>c σ H fun b H1=>if b=true then t D σ H1 else u D σ H1
theorem cg{c:Expr}{a b:List Stmt}{tc:TT}(hc:PT X c tc)(ha:PSs X a t)(hb:PSs X b u):PS X (.If c a b pos) (Dv tc t u):=by
 intro pins s σ H D I h
 refine wpAny_If (thn (hc pins s σ H _ I h) fun d s1 ⟨H1,I1,q1⟩=>?_)
 cases d with
 |true=>exact ha pins s1 σ H1 D I1 q1
 |false=>exact hb pins s1 σ H1 D I1 q1
end
abbrev TG:=V->St->Hp->(St->Hp->Prop)->Prop
abbrev TGs:=List V->St->Hp->(St->Hp->Prop)->Prop
def PG(X:Cx)(target:Expr)(t:TG):Prop :=
 ∀(pins:List (Addr × Obj)) (s:Shared) (σ:St) (H:Hp) (v:V) (u:Value) (Q:St->Hp->Prop),Inv X pins σ H s->cy v u->t v σ H Q ->
  wpAny (model X.prog X.w) X.A (assign target X.env u) (fun _ s'=>∃σ' H',Inv X pins σ' H' s'/\Q σ' H') X.xe s
def PGs(X:Cx)(ts:List Expr)(t:TGs):Prop :=
 ∀(pins:List (Addr × Obj)) (s:Shared) (σ:St) (H:Hp) (vs:List V) (us:List Value) (Q:St->Hp->Prop),Inv X pins σ H s->cw vs us->t vs σ H Q ->
  wpAny (model X.prog X.w) X.A (assignInOrder ((assignEach ts X.env).map (·.2)) us) (fun _ s'=>∃σ' H',Inv X pins σ' H' s'/\Q σ' H') X.xe s
abbrev TIp:=V->V->Hp->VK->Prop
def PIp(X:Cx)(op:Operator)(t:TIp):Prop :=
 ∀(pins:List (Addr × Obj)) (s:Shared) (σ:St) (H:Hp) (x y:V) (v u:Value) (Q:VK),Inv X pins σ H s->cy x v->cy y u->t x y H Q ->
  wpAny (model X.prog X.w) X.A (inplaceOp op v u) (EP X pins σ Q) X.xe s
section
variable{X:Cx}{pos:Pos}
def jq(i:Nat):TG:=fun v σ H Q=>Q (σ.set i (some v)) H
theorem aP{i:Nat}{x:Str}(hN:X.N.Nodup)(hi:X.N[i]?=some x)(hx:Loc X.env.scope x)(hf:X.fn x=true\/X.env.scope.names.lookup x=some .local:=by first|exact .inl rfl|exact .inr rfl|assumption):PG X (.Name x pos) (jq i):=by
 intro pins s σ H v u Q I r h
 exact wpAny_assign_Name (iw I hN hi hx r (fun s' I'=>⟨_,H,I',h⟩) hf)
def B1:TGs:=fun vs σ H Q=>vs=[]/\Q σ H
inductive Wc (t:TG) (u:TGs) (vs:List V) (σ:St) (H:Hp) (Q:St->Hp->Prop):Prop
 |mk (v:V) (r:List V) (h:vs=v::r) (q:t v σ H fun σ' H'=>u r σ' H' Q)
def qo(t:TG)(u:TGs):TGs:=fun vs σ H Q=>Wc t u vs σ H Q
theorem cC:PGs X [] B1:=by
 intro pins s σ H vs us Q I r h
 obtain⟨e,h⟩:=h
 subst e
 cases r
 exact assignInOrder_nil ⟨σ,H,I,h⟩
theorem aL{e:Expr}{es:List Expr}{t:TG}{u:TGs}(h1:PG X e t)(h2:PGs X es u)
  (hs:(assignEach (e::es) X.env).map (·.2)=assign e X.env::(assignEach es X.env).map (·.2):=by rfl):PGs X (e::es) (qo t u):=by
 intro pins s σ H vs us Q I r h
 obtain⟨v,vr,e1,h⟩:=h
 subst e1
 cases r with
 |cons r rr =>
  rw [hs]
  refine assignInOrder_cons (thn (h1 pins s σ H _ _ _ I r h) fun _ s1 ⟨σ1,H1,I1,q1⟩=>?_)
  exact h2 pins s1 σ1 H1 _ _ Q I1 rr q1
def BY(K:W.Frag)(n:Nat)(t:TGs):TG:=fun v σ H Q=>∃a xs,v=.ref a/\SqT K H a xs/\xs.length=n/\t xs σ H Q
theorem dE{es:List Expr}{k:Nat}{t:TGs}{n:Nat}(hc:X.calm=true)(h:PGs X es t)
  (hn:(assignEach es X.env).length=n:=by rfl) (hst:(assignEach es X.env).findIdx? (·.1)=none:=by rfl):PG X (.Tuple es k pos) (BY X.K n t):=by
 intro pins s σ H v u Q I r hw
 obtain⟨a,xs,e1,hq,hl,hw⟩:=hw
 subst e1
 cases r
 obtain⟨its,rv,ht,hz⟩:=I.tuple hq
 refine assign_Tuple_tuple (I.ok.hd hc) ht (by simp [hn,<-hl,rv.length]) hst fun h' hx=>?_
 have I1:Inv X pins σ H { s with heap:=h' }:=I.kept (t':=s.toks) fun b o e=>hx b o (Nat.ne_of_lt (Heap.lt_size e)) e
 exact h pins _ σ H xs _ Q I1 (by simpa using rv) hw
def BN(te:TE)(g:TG):TS:=fun D σ H=>te σ H fun x H1=>g x σ H1 D.nx
theorem qD{tg e:Expr}{te:TE}{g:TG}(he:PE X e te)(hg:PG X tg g)(hs:swapsWithSole [tg] e pos.line X.env=pure false:=by rfl)(hw:swappedStores [tg] e X.env=pure none:=by rfl)
  (h1:(assignEach [tg] X.env).map (·.2)=[assign tg X.env]:=by rfl):PS X (.Assign [tg] e pos) (BN te g):=by
 intro pins s σ H D I h
 refine wpAny_Assign_stores (thn (he pins s σ H _ I h) fun v s1 ⟨x,H1,I1,r1,q1⟩=>?_) hs hw
 rw [h1]
 exact thn (hg pins s1 σ H1 x v _ I1 r1 q1) fun _ s2 q=>q
theorem lK{i:Nat}{x:Str}{e:Expr}{te:TE}{pos':Pos}(hN:X.N.Nodup)(hi:X.N[i]?=some x)(hx:Loc X.env.scope x)(he:PE X e te)(hs:swapsWith e (some (.Name x pos')) pos.line X.env=pure false:=by rfl)(hf:X.fn x=true\/X.env.scope.names.lookup x=some .local:=by first|exact .inl rfl|exact .inr rfl|assumption) :
  PS X (.Assign [.Name x pos'] e pos) (BN te (jq i)):=by
 intro pins s σ H D I h
 refine wpAny_Assign_Name (thn (he pins s σ H _ I h) fun v s1 ⟨y,H1,I1,r1,q1⟩=>?_) hs
 exact iw I1 hN hi hx r1 (fun s2 I2=>⟨_,H1,I2,q1⟩) hf
def Dr(i:Nat)(te:TE)(ti:TIp):TS:=fun D σ H=>∃x,σ[i]?=some (some x)/\te σ H fun y H1=>ti x y H1 fun z H2=>D.nx (σ.set i (some z)) H2
theorem AV{i:Nat}{x:Str}{e:Expr}{te:TE}{op:Operator}{ti:TIp}{pos':Pos}(hN:X.N.Nodup)(hi:X.N[i]?=some x)(hx:Loc X.env.scope x)(he:PE X e te)(ho:PIp X op ti)(hf:X.fn x=true\/X.env.scope.names.lookup x=some .local:=by first|exact .inl rfl|exact .inr rfl|assumption) :
  PS X (.AugAssign (.Name x pos') op e pos) (Dr i te ti):=by
 intro pins s σ H D I h
 obtain⟨v,e1,h⟩:=h
 obtain⟨m,hn,hl⟩:=I.loc
 have vis:Vis X.env.scope x:=by rcases hx with k|k;exact .inl k;exact .inr (.inl k)
 obtain⟨u,r,l⟩:=hl i x v hi e1 vis
 refine wpAny_AugAssign_Name ?_
 have go:wpAny (model X.prog X.w) X.A (eval e X.env) (fun w s₂=>wpAny (model X.prog X.w) X.A (inplaceOp op u w) (fun r s₃=>wpAny (model X.prog X.w) X.A (storeName X.env x r) (fun _=>SP X pins D .next) X.xe s₃) X.xe s₂) X.xe s:=by
  refine thn (he pins s σ H _ I h) fun w s1 ⟨y,H1,I1,r1,q1⟩=>?_
  refine thn (ho pins s1 σ H1 v y u w _ I1 r r1 q1) fun z s2 ⟨zv,H2,I2,r2,q2⟩=>?_
  exact iw I2 hN hi hx r2 (fun s3 I3=>⟨_,H2,I3,q2⟩) hf
 rcases l with ⟨hk,hm⟩|⟨hk,c,hc,hcell⟩
 ·exact wpAny_loadName_local I.ok.kind hk hn hm go
 ·rcases hk with hk|hk
  ·exact wpAny_loadName_cell I.ok.kind hk hc hcell go
  ·rcases hx with k|k
   ·have:X.env.scope.names.lookup x=some .free:=hk
    rw [k] at this;cases this
   ·have:X.env.scope.names.lookup x=some .free:=hk
    rw [k] at this;cases this
def ipI(f:Int->Int->Int):TIp:=fun x y H Q=>∃i j,x=.int i/\y=.int j/\Q (.int (f i j)) H
theorem AF:PIp X .Add (ipI fun i j=>i+j):=by
 intro pins s σ H x y v u Q I r1 r2 h
 obtain⟨i,j,e1,e2,q⟩:=h
 subst e1;subst e2
 obtain⟨t,rfl⟩:=r1
 obtain⟨t',rfl⟩:=r2
 exact iadd_int ⟨.int _,H,I.tok _,⟨_,rfl⟩,q⟩
def ut(c:TT)(tb:TS):TS:=fun D σ H=>∃W:Nat->St->Hp->Prop,(∃m,W m σ H)/\∀m σ H,W m σ H ->
 c σ H fun b H1=>if b=true then ∃N:St->Hp->Prop,(∀σ' H',N σ' H'->∃m',m' < m/\W m' σ' H')/\tb { D with nx:=N,ct:=N,bk:=D.nx } σ H1 else D.nx σ H1
theorem rh{c:Expr}{body:List Stmt}{tc:TT}{tb:TS}(hp:PassesOwn (model X.prog X.w) X.A X.env X.xe)(hc:PT X c tc)(hb:PSs X body tb):PS X (.While c body [] pos) (ut tc tb):=by
 intro pins s σ H D I h
 obtain⟨W,⟨m0,w0⟩,turn⟩:=h
 refine wpAny_While (codeAny_whileLoop (fun n s'=>∃σ' H',Inv X pins σ' H' s'/\W n σ' H') ?_ m0 ⟨σ,H,I,w0⟩)
 rintro n s1 ⟨σ1,H1,I1,w1⟩
 refine wpAny_passesOwn hp (thn (hc pins s1 σ1 H1 _ I1 (turn n σ1 H1 w1)) fun b s2 ⟨H2,I2,q2⟩=>?_)
 cases b with
 |true =>
  obtain⟨N,hN,q2⟩:=q2
  rw [if_pos rfl]
  refine wpAny_passesOwn hp (thn (hb pins s2 σ1 H2 _ I2 q2) fun f s3 q3=>?_)
  cases f with
  |next =>
   obtain⟨σ3,H3,I3,n3⟩:=q3
   obtain⟨m',hm,w3⟩:=hN σ3 H3 n3
   exact⟨m',hm,σ3,H3,I3,w3⟩
  |cont =>
   obtain⟨σ3,H3,I3,n3⟩:=q3
   obtain⟨m',hm,w3⟩:=hN σ3 H3 n3
   exact⟨m',hm,σ3,H3,I3,w3⟩
  |brk=>exact q3
  |ret v=>exact q3
 |false =>
  rw [if_neg Bool.false_ne_true]
  exact wpAny_execs_nil ⟨σ1,H2,I2,q2⟩
end
structure It where
 go:Nat->Hp->Prop
 yld:Nat->Hp->V->Hp->Prop
 stop:Nat->Hp->Prop
def ph(X:Cx)(pins:List (Addr × Obj))(H:Hp)(b:Addr):Prop :=
 H b=none/\b≠X.env.locals/\b∉X.fs/\(b∈X.ex\/X.s₀.heap.objs.size<=b)/\(∀x c,X.env.cells.lookup x=some c->c≠b)/\∀p∈X.pn++pins,p.1≠b
theorem Inv.fpOk{X:Cx}{pins:List (Addr × Obj)}{σ:St}{H H':Hp}{s:Shared}{b:Addr}(I:Inv X pins σ H s)(hb:s.heap.objs.size<=b)(hn:H' b=none):ph X pins H' b:=by
 refine⟨hn,Nat.ne_of_gt (Nat.lt_of_lt_of_le I.lt hb),I.nofs hb,.inr (Nat.le_trans I.sz hb),fun x c e z=>?_,fun p hp z=>?_⟩
 ·obtain⟨v,q⟩:=I.cell x c e
  exact absurd (Nat.lt_of_lt_of_le q.lt (by rw [z];exact hb)) (Nat.lt_irrefl _)
 ·exact absurd (Nat.lt_of_lt_of_le (Heap.lt_size (I.pin p hp).1) (by rw [z];exact hb)) (Nat.lt_irrefl _)
structure Ao(P:Program)(w:World)(K:W.Frag)(tg:Expr)(J:It)(fp:List Addr)(it:Addr)(tn:Nat->Heap->Prop):Prop where
 mem:it∈fp
 obj:∀i h,tn i h->∀b∈fp,∃o,h.get? b=some o/\∀v,o.data≠.cell v
 keep:∀i h h',tn i h->(∀b∈fp,∀o,h.get? b=some o->h'.get? b=some o)->tn i h'
 item:∀(X:Cx),X.prog=P->X.w=w->X.K=K->X.calm=true->∀(i:Nat) (pins:List (Addr × Obj)) (s:Shared) (σ:St) (H:Hp) (E:Value->Shared->Prop),Inv X pins σ H s->(∀b∈fp,ph X pins H b)->tn i s.heap->J.go i H ->
  wpAny (model P w) X.A (pyNext (.ref it)) (fun r s1=>∃u,r=some u /\
   wpAny (model P w) X.A (letOwnedTupleGo tg (.ref it) u) (fun _ s2=>∃x H',Inv X pins σ H' s2/\cy x u/\J.yld i H x H'/\tn (i+1) s2.heap/\∀b∈fp,H' b=none) E s1) E s
 done:∀(X:Cx),X.prog=P->X.w=w->X.K=K->X.calm=true->∀(i:Nat) (pins:List (Addr × Obj)) (s:Shared) (σ:St) (H:Hp) (E:Value->Shared->Prop),Inv X pins σ H s->(∀b∈fp,ph X pins H b)->tn i s.heap->J.stop i H ->
  wpAny (model P w) X.A (pyNext (.ref it)) (fun r s1=>r=none/\Inv X pins σ H s1) E s
 self:∀(A:Around) (i:Nat) (s:Shared) (Q:Value->Shared->Prop) (E:Value->Shared->Prop),tn i s.heap->Q (.ref it) s->wpAny (model P w) A (pyIter (.ref it)) Q E s
abbrev TI:=St->Hp->(It->Hp->Prop)->Prop
def PIE(X:Cx)(pins:List (Addr × Obj))(σ:St)(tg:Expr)(R:It->Hp->Prop)(itv:Value)(s2:Shared):Prop :=
 ∃(it:Addr) (fp:List Addr) (tn:Nat->Heap->Prop) (J:It) (H':Hp),itv=.ref it/\Inv X pins σ H' s2/\Ao X.prog X.w X.K tg J fp it tn/\tn 0 s2.heap/\(∀b∈fp,ph X pins H' b)/\R J H'
def PI(X:Cx)(tg iter:Expr)(wi:TI):Prop :=
 ∀(pins:List (Addr × Obj)) (s:Shared) (σ:St) (H:Hp) (R:It->Hp->Prop),Inv X pins σ H s->wi σ H R ->
  wpAny (model X.prog X.w) X.A (eval iter X.env) (fun v s1=>wpAny (model X.prog X.w) X.A (pyIter v) (PIE X pins σ tg R) X.xe s1) X.xe s
theorem xk{M:Model}{A:Around}{E:Value->Shared->Prop}{s:Shared}{tg:Expr}{it:Addr}{u:Value}{o:Obj}{n:String}{vs:Array Value}{Q:Unit->Shared->Prop}(ho:s.heap.get? it=some o)(hc:o.cls=.type n)(hd:o.data=.fields vs)
    (hn:["enumerate","zip","dict_itemiterator","dict_reverseitemiterator","odict_iterator","itertools.zip_longest","itertools.pairwise"].contains n=false) (hQ:Q () s):wpAny M A (letOwnedTupleGo tg (.ref it) u) Q E s:=by
  unfold letOwnedTupleGo
  cases tg<;>first
    | exact wpAny_pure hQ
    | (cases u<;>first
        | exact wpAny_pure hQ
        | (refine wpAny_bind (wpAny_load ho ?_)
           rw [hc,hd]
           show wpAny M A (if (["enumerate","zip","dict_itemiterator","dict_reverseitemiterator","odict_iterator","itertools.zip_longest","itertools.pairwise"].contains n&&vs[0]?==some (rawInt _))=true then _ else _) Q E s
           rw [if_neg (by intro h;rw [hn,Bool.false_and] at h;cases h)]
           exact wpAny_pure hQ))
def Itl(K:W.Frag)(a:Addr):It :=
 ⟨fun i H=>∃xs x,SqL K H a xs/\xs[i]?=some x,fun i H x H'=>H'=H/\∀xs,SqL K H a xs->xs[i]?=some x,fun i H=>∃xs,SqL K H a xs/\xs.length<=i⟩
def Itt(K:W.Frag)(a:Addr):It :=
 ⟨fun i H=>∃xs x,SqT K H a xs/\xs[i]?=some x,fun i H x H'=>H'=H/\∀xs,SqT K H a xs->xs[i]?=some x,fun i H=>∃xs,SqT K H a xs/\xs.length<=i⟩
def Itr(lo:Int)(n:Nat):It:=⟨fun i _=>i < n,fun i H x H'=>H'=H/\x=.int (lo+i),fun i _=>n<=i⟩
theorem tP{P:Program}{w:World}{K:W.Frag}{tg:Expr}(a it:Addr):Ao P w K tg (Itl K a) [it] it (fun i h=>h.IsListIter it a i) where
 mem:=by simp
 obj:=fun i h st b hb=>by
  have e:b=it:=by simpa using hb
  subst e
  obtain⟨o,e,c,d⟩:=st
  exact⟨o,e,fun v z=>by rw [d] at z;cases z⟩
 keep:=fun i h h' st k=>st.at fun o e=>k it (by simp) o e
 item:=by
  intro X hP hw hK hc i pins s σ H E I hf st hg
  subst hP hw hK
  obtain⟨xs,x,hq,hx⟩:=hg
  obtain⟨its,rv,p,hz⟩:=I.list hq
  obtain⟨u,hu,ru⟩:=rv.get hx
  obtain⟨f0,f1,f2,f3,f4,f5⟩:=hf it (by simp)
  refine wpAny_pyNext_list_item st p.isList (x:=u) (by simpa using hu) fun h' st' sb=>?_
  have I1:Inv X pins σ H { s with heap:=h' }:=I.turned (t':=s.toks) (fun b o hb e=>(sb.2 b hb).trans e) f0 f1 f3 f4 f5
  obtain⟨o,e,c,d⟩:=id st'
  exact⟨u,rfl,xk (s:={ s with heap:=h' }) e c d (by decide) ⟨x,H,I1,ru,⟨rfl,fun ys hy=>by rw [I.list_inj hy hq];exact hx⟩,st',fun b hb=>(hf b hb).1⟩⟩
 done:=by
  intro X hP hw hK hc i pins s σ H E I hf st hg
  subst hP hw hK
  obtain⟨xs,hq,hx⟩:=hg
  obtain⟨its,rv,p,hz⟩:=I.list hq
  obtain⟨f0,f1,f2,f3,f4,f5⟩:=hf it (by simp)
  have hl:=rv.length
  exact wpAny_pyNext_list_end (I.ok.hd hc) st p.isList (by simp;omega) fun h' eb=>⟨rfl,I.turned (t':=s.toks) (fun b o hb e=>eb b o hb e) f0 f1 f3 f4 f5⟩
 self:=fun _ _ _ _ _ st h=>wpAny_pyIter_listiter st h
theorem rS{P:Program}{w:World}{K:W.Frag}{tg:Expr}(a it:Addr):Ao P w K tg (Itt K a) [it] it (fun i h=>h.IsTupleIter it a i) where
 mem:=by simp
 obj:=fun i h st b hb=>by
  have e:b=it:=by simpa using hb
  subst e
  obtain⟨o,e,c,d⟩:=st
  exact⟨o,e,fun v z=>by rw [d] at z;cases z⟩
 keep:=fun i h h' st k=>st.at fun o e=>k it (by simp) o e
 item:=by
  intro X hP hw hK hc i pins s σ H E I hf st hg
  subst hP hw hK
  obtain⟨xs,x,hq,hx⟩:=hg
  obtain⟨its,rv,p,hz⟩:=I.tuple hq
  obtain⟨u,hu,ru⟩:=rv.get hx
  obtain⟨f0,f1,f2,f3,f4,f5⟩:=hf it (by simp)
  refine wpAny_pyNext_tuple_item st (show s.heap.IsTuple a its.toArray from p) (x:=u) (by simpa using hu) fun h' st' sb=>?_
  have I1:Inv X pins σ H { s with heap:=h' }:=I.turned (t':=s.toks) (fun b o hb e=>(sb.2 b hb).trans e) f0 f1 f3 f4 f5
  obtain⟨o,e,c,d⟩:=id st'
  exact⟨u,rfl,xk (s:={ s with heap:=h' }) e c d (by decide) ⟨x,H,I1,ru,⟨rfl,fun ys hy=>by rw [I.tuple_inj hy hq];exact hx⟩,st',fun b hb=>(hf b hb).1⟩⟩
 done:=by
  intro X hP hw hK hc i pins s σ H E I hf st hg
  subst hP hw hK
  obtain⟨xs,hq,hx⟩:=hg
  obtain⟨its,rv,p,hz⟩:=I.tuple hq
  obtain⟨f0,f1,f2,f3,f4,f5⟩:=hf it (by simp)
  have hl:=rv.length
  exact wpAny_pyNext_tuple_end (I.ok.hd hc) st (show s.heap.IsTuple a its.toArray from p) (by simp;omega) fun h' eb=>⟨rfl,I.turned (t':=s.toks) (fun b o hb e=>eb b o hb e) f0 f1 f3 f4 f5⟩
 self:=fun _ _ _ _ _ st h=>wpAny_pyIter_tupleiter st h
theorem rY{P:Program}{w:World}{K:PySem.W.Frag}{tg:Expr}(it:Addr)(lo:Int)(n:Nat):Ao P w K tg (Itr lo n) [it] it (fun i h=>IsRangeIter h it (lo+(i:Nat)*1) ((n:Int) - (i:Nat)) 1) where
 mem:=by simp
 obj:=fun i h st b hb=>by
  have e:b=it:=by simpa using hb
  subst e
  exact⟨_,st,fun v z=>by
   have z':Data.fields _=Data.cell v:=z
   cases z'⟩
 keep:=fun i h h' st k=>k it (by simp) _ st
 item:=by
  intro X hP hw hK hc i pins s σ H E I hf st hg
  subst hP hw hK
  obtain⟨f0,f1,f2,f3,f4,f5⟩:=hf it (by simp)
  have W:=Walks.range (prog:=X.prog) (w:=X.w) (I.ok.hd hc) it lo 1 n
  refine W.item i s _ _ hg st fun v h' tk hv st' kk=>?_
  obtain⟨t,rfl⟩:=hv
  have I1:Inv X pins σ H { s with heap:=h',toks:=tk }:=I.turned (fun b o hb e=>kk b o (by simpa using hb) e) f0 f1 f3 f4 f5
  refine⟨_,rfl,xk (s:={ s with heap:=h',toks:=tk }) (n:="range_iterator") st' rfl rfl (by decide) ⟨.int (lo+i),H,I1,⟨t,?_⟩,⟨rfl,rfl⟩,st',fun b hb=>(hf b hb).1⟩⟩
  rw [Int.mul_one]
 done:=by
  intro X hP hw hK hc i pins s σ H E I hf st hg
  subst hP hw hK
  obtain⟨f0,f1,f2,f3,f4,f5⟩:=hf it (by simp)
  exact wpAny_pyNext_range_end (I.ok.hd hc) st (by have:n<=i:=hg;omega) fun h' eb=>⟨rfl,I.turned (t':=s.toks) (fun b o hb e=>eb b o hb e) f0 f1 f3 f4 f5⟩
 self:=fun _ _ _ _ _ st h=>wpAny_pyIter_rangeiter st h
section
variable{X:Cx}{tg:Expr}
def CS(K:W.Frag)(tl:TE):TI:=fun σ H R=>tl σ H fun x H1=>∃a,x=.ref a/\(∃xs,SqL K H1 a xs)/\R (Itl K a) H1
def DO(K:W.Frag)(tl:TE):TI:=fun σ H R=>tl σ H fun x H1=>∃a,x=.ref a/\(∃xs,SqT K H1 a xs)/\R (Itt K a) H1
theorem iY{l:Expr}{tl:TE}(hl:PE X l tl):PI X tg l (CS X.K tl):=by
 intro pins s σ H R I h
 refine thn (hl pins s σ H _ I h) fun v s1 ⟨x,H1,I1,r1,q1⟩=>?_
 obtain⟨a,e,⟨xs,hq⟩,q⟩:=q1
 subst e
 cases r1
 obtain⟨its,rv,p,hz⟩:=I1.list hq
 refine wpAny_pyIter_list p.isList ?_
 refine⟨s1.heap.objs.size,[s1.heap.objs.size],_,_,H1,rfl,I1.kept (t':=s1.toks) fun b o e=>Heap.get?_push_of_some _ e,tP a _,⟨_,Heap.get?_push_size _ rfl,rfl,rfl⟩,fun b hb=>?_,q⟩
 have e:b=s1.heap.objs.size:=by simpa using hb
 subst e
 exact I1.fpOk (Nat.le_refl _) (I1.hok.fresh (Nat.le_refl _))
theorem lW{l:Expr}{tl:TE}(hl:PE X l tl):PI X tg l (DO X.K tl):=by
 intro pins s σ H R I h
 refine thn (hl pins s σ H _ I h) fun v s1 ⟨x,H1,I1,r1,q1⟩=>?_
 obtain⟨a,e,⟨xs,hq⟩,q⟩:=q1
 subst e
 cases r1
 obtain⟨its,rv,p,hz⟩:=I1.tuple hq
 refine wpAny_pyIter_tuple (show s1.heap.IsTuple a its.toArray from p) ?_
 refine⟨s1.heap.objs.size,[s1.heap.objs.size],_,_,H1,rfl,I1.kept (t':=s1.toks) fun b o e=>Heap.get?_push_of_some _ e,rS a _,⟨_,Heap.get?_push_size _ rfl,rfl,rfl⟩,fun b hb=>?_,q⟩
 have e:b=s1.heap.objs.size:=by simpa using hb
 subst e
 exact I1.fpOk (Nat.le_refl _) (I1.hok.fresh (Nat.le_refl _))
theorem wX{pins:List (Addr × Obj)}{σ:St}{H:Hp}{s:Shared}{R:It->Hp->Prop}{E:Value->Shared->Prop}{lo hi:Int}{t u v:Tok}{tk:Nat}(I:Inv X pins σ H s)(h1:-(2 ^ 62)<=lo)(h2:lo < 2 ^ 62)(h3:-(2 ^ 62)<=hi)(h4:hi < 2 ^ 62)
  (q:R (Itr lo (hi - lo).toNat) H):wpAny (model X.prog X.w) X.A (pyIter (.ref s.heap.objs.size)) (PIE X pins σ tg R) E { s with heap:=s.heap.push { cls:=.type "range",data:=.fields #[.int lo t,.int hi u,.int 1 v] },toks:=tk }:=by
 refine wpAny_pyIter_range (IsRange.new ..) (small_one h1 h2 h3 h4) ?_
 have I1:Inv X pins σ H { s with heap:=s.heap.push { cls:=.type "range",data:=.fields #[.int lo t,.int hi u,.int 1 v] },toks:=tk }:=I.kept fun b o e=>Heap.get?_push_of_some _ e
 refine⟨(s.heap.push { cls:=.type "range",data:=.fields #[.int lo t,.int hi u,.int 1 v] }).objs.size,[(s.heap.push { cls:=.type "range",data:=.fields #[.int lo t,.int hi u,.int 1 v] }).objs.size],_,_,H,rfl,
  I1.kept (t':=tk) fun b o e=>Heap.get?_push_of_some _ e,rY _ lo (hi - lo).toNat,?_,fun b hb=>?_,q⟩
 ·have e1:lo+((0:Nat):Int)*1=lo:=by simp
  have e2:(((hi - lo).toNat:Nat):Int) - ((0:Nat):Int)=Builtin.Range.rangeSize lo hi 1:=by rw [rangeSize_one];split<;>omega
  show IsRangeIter _ _ (lo+((0:Nat):Int)*1) ((((hi - lo).toNat:Nat):Int) - ((0:Nat):Int)) 1
  rw [e1,e2]
  exact Heap.get?_push_size _ rfl
 ·have e:b=(s.heap.push { cls:=.type "range",data:=.fields #[.int lo t,.int hi u,.int 1 v] }).objs.size:=by simpa using hb
  subst e
  exact I1.fpOk (Nat.le_refl _) (I1.hok.fresh (Nat.le_refl _))
def CO(ta:TA):TI:=fun σ H R=>ta σ H fun vs H1=>∃j:Int,vs=[.int j]/\-(2 ^ 62)<=j/\j < 2 ^ 62/\R (Itr 0 j.toNat) H1
theorem eK{a:Expr}{ta:TA}{p pos:Pos} (hg:Gl X "range") (hm:X.mg "range"=none) (ha:PA X [a] ta) (hs:starEach [a] X.env=[(false,eval a X.env)]:=by rfl):PI X tg (.Call (.Name "range" p) [a] [] pos) (CO ta):=by
 intro pins s σ H R I h
 refine Call_ (qQ I hg hm boot_range (PyProof.Rows.callWith_type1 (thn (ha pos pins s σ H _ I h) fun us s1 ⟨vs,H1,I1,r1,q1⟩=>?_) hs rfl))
 obtain⟨j,e,q1,q2,q⟩:=q1
 subst e
 cases r1 with
 |cons r rr =>
  cases rr
  obtain⟨t,rfl⟩:=r
  exact call_range_1 (wX I1 (by omega) (by omega) q1 q2 (by simpa using q))
def Dy(wi:TI)(g:TG)(tb:TS):TS:=fun D σ H=>wi σ H fun J H1=>∃W:Nat->Nat->St->Hp->Prop,(∃m,W 0 m σ H1)/\∀i m σ H,W i m σ H ->
 (J.stop i H/\D.nx σ H)\/(J.go i H/\∃N:St->Hp->Prop,(∀σ' H',N σ' H'->∃m',m' < m/\W (i+1) m' σ' H')/\∀x H',J.yld i H x H'->g x σ H' fun σ2 H2=>tb { D with nx:=N,ct:=N,bk:=D.nx } σ2 H2)
def jQ(fp:List Addr)(h:Heap):List (Addr × Obj):=fp.filterMap fun b=>(h.get? b).map fun o=>(b,o)
theorem fE{fp:List Addr}{h:Heap}{b:Addr}{o:Obj}(hb:b∈fp)(e:h.get? b=some o):(b,o)∈jQ fp h:=List.mem_filterMap.mpr ⟨b,hb,by rw [e];rfl⟩
theorem vD{fp:List Addr}{h:Heap}{p:Addr × Obj}(hp:p∈jQ fp h):p.1∈fp/\h.get? p.1=some p.2:=by
 obtain⟨b,hb,e⟩:=List.mem_filterMap.mp hp
 cases q:h.get? b with
 |none=>rw [q] at e;cases e
 |some o =>
  rw [q] at e
  have e':(b,o)=p:=Option.some.inj e
  subst e'
  exact⟨hb,q⟩
theorem Inv.pinned{pins:List (Addr × Obj)}{σ:St}{H:Hp}{s:Shared}{fp:List Addr}(I:Inv X pins σ H s)(hf:∀b∈fp,ph X pins H b)(ho:∀b∈fp,∃o,s.heap.get? b=some o/\∀v,o.data≠.cell v):Inv X (pins++jQ fp s.heap) σ H s :=
 I.pins_of fun p hp=>(List.mem_append.mp hp).elim (fun z=>I.pin p (List.mem_append_right _ z)) fun z=>by
  obtain⟨hb,e⟩:=vD z
  obtain⟨f0,f1,f2,_⟩:=hf p.1 hb
  obtain⟨o,e',d⟩:=ho p.1 hb
  rw [e] at e';cases e'
  exact⟨e,f0,f1,f2,d⟩
theorem Inv.unpinned{pins pl:List (Addr × Obj)}{σ:St}{H:Hp}{s:Shared}(I:Inv X (pins++pl) σ H s):Inv X pins σ H s:=I.pins_of fun p hp=>I.pin p (List.mem_append_right _ (List.mem_append_left _ hp))
theorem di{iter:Expr}{body:List Stmt}{wi:TI}{g:TG}{tb:TS}{pos:Pos}(hp:PassesOwn (model X.prog X.w) X.A X.env X.xe)(hc:X.calm=true)(hi:PI X tg iter wi)(hg:PG X tg g)(hb:PSs X body tb)
  (hs:∀x,foldedSetIterable iter X.env x=pure x:=by intro _;rfl):PS X (.For tg iter body [] pos) (Dy wi g tb):=by
 intro pins s σ H D I h
 refine wpAny_For (thn (hi pins s σ H _ I h) fun v s1 h1=>thn h1 fun itv s2 h2=>?_) hs
 obtain⟨it,fp,tn,J,H2,e,I2,T,st2,f2,W,⟨m0,w0⟩,turn⟩:=h2
 subst e
 have stat:∀{H':Hp},(∀b∈fp,H' b=none)->∀b∈fp,ph X pins H' b:=fun hn b hb=>⟨hn b hb,(f2 b hb).2⟩
 refine codeAny_forLoop_any (fun n s'=>∃i σ' H',Inv X pins σ' H' s'/\tn i s'.heap/\(∀b∈fp,H' b=none)/\W i n σ' H') ?_ m0 ⟨0,σ,H2,I2,st2,fun b hb=>(f2 b hb).1,w0⟩
 rintro n s3 ⟨i,σ3,H3,I3,st3,fr3,w3⟩
 rcases turn i n σ3 H3 w3 with ⟨stop,qn⟩|⟨go,N,hN,step⟩
 ·refine wpAny_passesOwn hp (thn (T.done X rfl rfl rfl hc i pins s3 σ3 H3 X.xe I3 (stat fr3) st3 stop) fun r s4 ⟨hr,I4⟩=>?_)
  subst hr
  exact wpAny_execs_nil ⟨σ3,H3,I4,qn⟩
 ·refine wpAny_passesOwn hp (thn (T.item X rfl rfl rfl hc i pins s3 σ3 H3 X.xe I3 (stat fr3) st3 go) fun r s4 ⟨u,hr,h4⟩=>?_)
  subst hr
  refine wpAny_passesOwn hp (thn h4 fun _ s5 ⟨x,H5,I5,r5,y5,st5,fr5⟩=>?_)
  have I5':=I5.pinned (stat fr5) (T.obj _ _ st5)
  refine wpAny_passesOwn hp (thn (hg _ s5 σ3 H5 x u _ I5' r5 (step x H5 y5)) fun _ s6 ⟨σ6,H6,I6,q6⟩=>?_)
  refine wpAny_passesOwn hp (thn (hb _ s6 σ6 H6 _ I6 q6) fun f s7 q7=>?_)
  have again:∀{σ7:St} {H7:Hp},Inv X (pins++jQ fp s5.heap) σ7 H7 s7->N σ7 H7->∃m,m < n/\∃i σ' H',Inv X pins σ' H' s7/\tn i s7.heap/\(∀b∈fp,H' b=none)/\W i m σ' H':=fun {σ7 H7} I7 n7=>by
   obtain⟨m',hm,w7⟩:=hN σ7 H7 n7
   refine⟨m',hm,i+1,σ7,H7,I7.unpinned,T.keep _ _ _ st5 fun b hb o e=>(I7.pin (b,o) (List.mem_append_right _ (List.mem_append_right _ (fE hb e)))).1,fun b hb=>?_,w7⟩
   obtain⟨o,e,d⟩:=T.obj _ _ st5 b hb
   exact(I7.pin (b,o) (List.mem_append_right _ (List.mem_append_right _ (fE hb e)))).2.1
  cases f with
  |next=>obtain⟨σ7,H7,I7,n7⟩:=q7;exact again I7 n7
  |cont=>obtain⟨σ7,H7,I7,n7⟩:=q7;exact again I7 n7
  |brk=>obtain⟨σ7,H7,I7,q7⟩:=q7;exact⟨σ7,H7,I7.unpinned,q7⟩
  |ret v=>obtain⟨x7,σ7,H7,I7,r7,q7⟩:=q7;exact⟨x7,σ7,H7,I7.unpinned,r7,q7⟩
end
theorem iz{K:PySem.W.Frag}{a:Addr}{xs:List V}{g:TG}{tb:TS}{D:fZ}{σ:St}{H:Hp}(Pv:Nat->St->Hp->Prop)(h0:Pv 0 σ H)(hl:∀i σ H,i<=xs.length->Pv i σ H->SqL K H a xs)
  (hs:∀i x σ H,xs[i]?=some x->Pv i σ H->g x σ H fun σ2 H2=>tb { D with nx:=Pv (i+1),ct:=Pv (i+1),bk:=D.nx } σ2 H2) (hd:∀σ H,Pv xs.length σ H->D.nx σ H) :
  ∃W:Nat->Nat->St->Hp->Prop,(∃m,W 0 m σ H)/\∀i m σ H,W i m σ H ->
   ((Itl K a).stop i H/\D.nx σ H)\/((Itl K a).go i H/\∃N:St->Hp->Prop,(∀σ' H',N σ' H'->∃m',m' < m/\W (i+1) m' σ' H')/\∀x H',(Itl K a).yld i H x H'->g x σ H' fun σ2 H2=>tb { D with nx:=N,ct:=N,bk:=D.nx } σ2 H2):=by
 refine⟨fun i m σ H=>m=xs.length - i/\i<=xs.length/\Pv i σ H,⟨xs.length,by simp,Nat.zero_le _,h0⟩,?_⟩
 rintro i m σ H ⟨rfl,hi,p⟩
 have q:=hl i σ H hi p
 by_cases hlt:i < xs.length
 ·refine .inr ⟨⟨xs,xs[i],q,by simp [hlt]⟩,Pv (i+1),fun σ' H' p'=>⟨xs.length - (i+1),by omega,rfl,hlt,p'⟩,fun x H' y=>?_⟩
  obtain⟨e,y⟩:=y
  subst e
  exact hs i x σ _ (y xs q) p
 ·have e:i=xs.length:=by omega
  subst e
  exact .inl ⟨⟨xs,q,Nat.le_refl _⟩,hd σ H p⟩
theorem pV{K:PySem.W.Frag}{a:Addr}{xs:List V}{g:TG}{tb:TS}{D:fZ}{σ:St}{H:Hp}(Pv:Nat->St->Hp->Prop)(h0:Pv 0 σ H)(hl:∀i σ H,i<=xs.length->Pv i σ H->SqT K H a xs)
  (hs:∀i x σ H,xs[i]?=some x->Pv i σ H->g x σ H fun σ2 H2=>tb { D with nx:=Pv (i+1),ct:=Pv (i+1),bk:=D.nx } σ2 H2) (hd:∀σ H,Pv xs.length σ H->D.nx σ H) :
  ∃W:Nat->Nat->St->Hp->Prop,(∃m,W 0 m σ H)/\∀i m σ H,W i m σ H ->
   ((Itt K a).stop i H/\D.nx σ H)\/((Itt K a).go i H/\∃N:St->Hp->Prop,(∀σ' H',N σ' H'->∃m',m' < m/\W (i+1) m' σ' H')/\∀x H',(Itt K a).yld i H x H'->g x σ H' fun σ2 H2=>tb { D with nx:=N,ct:=N,bk:=D.nx } σ2 H2):=by
 refine⟨fun i m σ H=>m=xs.length - i/\i<=xs.length/\Pv i σ H,⟨xs.length,by simp,Nat.zero_le _,h0⟩,?_⟩
 rintro i m σ H ⟨rfl,hi,p⟩
 have q:=hl i σ H hi p
 by_cases hlt:i < xs.length
 ·refine .inr ⟨⟨xs,xs[i],q,by simp [hlt]⟩,Pv (i+1),fun σ' H' p'=>⟨xs.length - (i+1),by omega,rfl,hlt,p'⟩,fun x H' y=>?_⟩
  obtain⟨e,y⟩:=y
  subst e
  exact hs i x σ _ (y xs q) p
 ·have e:i=xs.length:=by omega
  subst e
  exact .inl ⟨⟨xs,q,Nat.le_refl _⟩,hd σ H p⟩
theorem jU{lo:Int}{n:Nat}{g:TG}{tb:TS}{D:fZ}{σ:St}{H:Hp}(Pv:Nat->St->Hp->Prop)(h0:Pv 0 σ H)
  (hs:∀i σ H,i < n->Pv i σ H->g (.int (lo+i)) σ H fun σ2 H2=>tb { D with nx:=Pv (i+1),ct:=Pv (i+1),bk:=D.nx } σ2 H2) (hd:∀σ H,Pv n σ H->D.nx σ H) :
  ∃W:Nat->Nat->St->Hp->Prop,(∃m,W 0 m σ H)/\∀i m σ H,W i m σ H ->
   ((Itr lo n).stop i H/\D.nx σ H)\/((Itr lo n).go i H/\∃N:St->Hp->Prop,(∀σ' H',N σ' H'->∃m',m' < m/\W (i+1) m' σ' H')/\∀x H',(Itr lo n).yld i H x H'->g x σ H' fun σ2 H2=>tb { D with nx:=N,ct:=N,bk:=D.nx } σ2 H2):=by
 refine⟨fun i m σ H=>m=n - i/\i<=n/\Pv i σ H,⟨n,by simp,Nat.zero_le _,h0⟩,?_⟩
 rintro i m σ H ⟨rfl,hi,p⟩
 by_cases hlt:i < n
 ·refine .inr ⟨hlt,Pv (i+1),fun σ' H' p'=>⟨n - (i+1),by omega,rfl,hlt,p'⟩,fun x H' y=>?_⟩
  obtain⟨e,y⟩:=y
  subst e y
  exact hs i σ _ hlt p
 ·have e:i=n:=by omega
  subst e
  exact .inl ⟨Nat.le_refl _,hd σ H p⟩
theorem xJ{c:TT}{tb:TS}{D:fZ}{σ:St}{H:Hp}(Pv:St->Hp->Prop)(μ:St->Hp->Nat)(h0:Pv σ H)
  (hs:∀σ H,Pv σ H->c σ H fun b H1=>if b=true then tb { D with nx:=fun σ' H'=>Pv σ' H'/\μ σ' H' < μ σ H,ct:=fun σ' H'=>Pv σ' H'/\μ σ' H' < μ σ H,bk:=D.nx } σ H1 else D.nx σ H1)
  (mono:∀σ H Q Q',(∀b H1,Q b H1->Q' b H1)->c σ H Q->c σ H Q'):ut c tb D σ H:=by
 refine⟨fun m σ H=>m=μ σ H/\Pv σ H,⟨_,rfl,h0⟩,?_⟩
 rintro m σ H ⟨rfl,p⟩
 refine mono σ H _ _ (fun b H1 q=>?_) (hs σ H p)
 cases b with
 |true=>exact⟨_,fun σ' H' ⟨p',l⟩=>⟨_,l,rfl,p'⟩,q⟩
 |false=>exact q
abbrev R2:=V->V->Hp->VK->Prop
def OpR(X:Cx)(f:Value->Value->Sem Value)(r:R2):Prop :=
 ∀(pins:List (Addr × Obj)) (s:Shared) (σ:St) (H:Hp) (x y:V) (v u:Value) (Q:VK),Inv X pins σ H s->cy x v->cy y u->r x y H Q ->
  wpAny (model X.prog X.w) X.A (f v u) (EP X pins σ Q) X.xe s
def gM(X:Cx)(f:Value)(r:List V->Hp->VK->Prop):Prop :=
 ∀(pins:List (Addr × Obj)) (s:Shared) (σ:St) (H:Hp) (xs:List V) (us:List Value) (Q:VK),Inv X pins σ H s->cw xs us->r xs H Q ->
  wpAny (model X.prog X.w) X.A (call f us) (EP X pins σ Q) X.xe s
def tOp(r:R2)(ta tb:TE):TE:=fun σ H Q=>ta σ H fun x H1=>tb σ H1 fun y H2=>r x y H2 Q
inductive Wd (C:Int->Int->Prop) (g:Int->Int->V) (x y:V) (H:Hp) (Q:VK):Prop
 |mk (i j:Int) (a:x=.int i) (b:y=.int j) (c:C i j) (q:Q (g i j) H)
def rI(C:Int->Int->Prop)(g:Int->Int->V):R2:=fun x y H Q=>Wd C g x y H Q
inductive We (g:Int->Int->V) (x y:V) (H:Hp) (Q:VK):Prop
 |mk (i j:Int) (a:x=.int i) (b:y=.int j) (q:Q (g i j) H)
def rI0(g:Int->Int->V):R2:=fun x y H Q=>We g x y H Q
section
variable{X:Cx}{a b c:Expr}{ta tb tc:TE}{pos:Pos}
theorem Cy(ha:PE X a ta)(hb:PE X b tb){pins:List (Addr × Obj)}{s:Shared}{σ:St}{H:Hp}{R:V->V->Hp->Prop}(I:Inv X pins σ H s)
  (h:ta σ H fun x H1=>tb σ H1 fun y H2=>R x y H2) {Q:Value->Shared->Prop} {f:Value->Value->Sem Value}
  (hf:∀v u s2 x y H2,Inv X pins σ H2 s2->cy x v->cy y u->R x y H2->wpAny (model X.prog X.w) X.A (f v u) Q X.xe s2) :
  wpAny (model X.prog X.w) X.A (eval a X.env) (fun v s₁=>wpAny (model X.prog X.w) X.A (eval b X.env) (fun u s₂=>wpAny (model X.prog X.w) X.A (f v u) Q X.xe s₂) X.xe s₁) X.xe s:=by
 refine thn (ha pins s σ H _ I h) fun v s1 ⟨x,H1,I1,r1,q1⟩=>?_
 refine thn (hb pins s1 σ H1 _ I1 q1) fun u s2 ⟨y,H2,I2,r2,q2⟩=>?_
 exact hf v u s2 x y H2 I2 r1 r2 q2
theorem bz{op:Operator}{r:R2}(ho:OpR X (binaryOp op) r)(ha:PE X a ta)(hb:PE X b tb):PE X (.BinOp a op b pos) (tOp r ta tb):=by
 intro pins s σ H Q I h
 exact wpAny_BinOp (Cy ha hb I h fun v u s2 x y H2 I2 rx ry q=>ho pins s2 σ H2 x y v u Q I2 rx ry q)
theorem opI{f:Value->Value->Sem Value}{C:Int->Int->Prop}{g:Int->Int->Int}
  (rule:∀(i j:Int) (t u:Tok) (s:Shared) (Q:Value->Shared->Prop) (E:Value->Shared->Prop),C i j->Q (.int (g i j) s.toks) { s with toks:=s.toks+1 }->wpAny (model X.prog X.w) X.A (f (.int i t) (.int j u)) Q E s) :
  OpR X f (rI C fun i j=>.int (g i j)):=by
 intro pins s σ H x y v u Q I rx ry h
 obtain⟨i,j,rfl,rfl,hc,q⟩:=h
 obtain⟨t,rfl⟩:=rx
 obtain⟨t',rfl⟩:=ry
 exact rule i j t t' s _ _ hc ⟨.int (g i j),H,I.tok _,⟨_,rfl⟩,q⟩
theorem DI{f:Value->Value->Sem Value}{g:Int->Int->Int}
  (rule:∀(i j:Int) (t u:Tok) (s:Shared) (Q:Value->Shared->Prop) (E:Value->Shared->Prop),Q (.int (g i j) s.toks) { s with toks:=s.toks+1 }->wpAny (model X.prog X.w) X.A (f (.int i t) (.int j u)) Q E s) :
  OpR X f (rI0 fun i j=>.int (g i j)):=by
 intro pins s σ H x y v u Q I rx ry h
 obtain⟨i,j,rfl,rfl,q⟩:=h
 obtain⟨t,rfl⟩:=rx
 obtain⟨t',rfl⟩:=ry
 exact rule i j t t' s _ _ ⟨.int (g i j),H,I.tok _,⟨_,rfl⟩,q⟩
theorem C6{f:Value->Value->Sem Value}{g:Int->Int->Bool}
  (rule:∀(i j:Int) (t u:Tok) (s:Shared) (Q:Value->Shared->Prop) (E:Value->Shared->Prop),Q (.bool (g i j)) s->wpAny (model X.prog X.w) X.A (f (.int i t) (.int j u)) Q E s) :
  OpR X f (rI0 fun i j=>.bl (g i j)):=by
 intro pins s σ H x y v u Q I rx ry h
 obtain⟨i,j,rfl,rfl,q⟩:=h
 obtain⟨t,rfl⟩:=rx
 obtain⟨t',rfl⟩:=ry
 exact rule i j t t' s _ _ ⟨.bl (g i j),H,I,rfl,q⟩
def Dw(i j:Int):Prop:=0 < j/\j < 1073741824
def Dm(i j:Int):Prop:=0<=j/\j<=1000000/\i.natAbs < 2 ^ 64
def CD(i j:Int):Prop:=(-(2 ^ 64) < i/\i < 2 ^ 64)\/(-(2 ^ 64) < j/\j < 2 ^ 64)
theorem CD.ok{i j:Int}(h:CD i j):IntMulOk i j:=by
 rcases h with ⟨h1,h2⟩|⟨h1,h2⟩
 ·exact .of_left (intBits_le_64 h1 h2)
 ·exact .of_right (intBits_le_64 h1 h2)
theorem fV:OpR X (binaryOp .Add) (rI0 fun i j=>.int (i+j)):=DI fun _ _ _ _ _ _ _ q=>add_int q
theorem jp:OpR X (binaryOp .Mult) (rI CD fun i j=>.int (i*j)):=opI fun _ _ _ _ _ _ _ hc q=>mul_int q hc.ok
theorem gt:OpR X (binaryOp .FloorDiv) (rI Dw fun i j=>.int (i / j)):=opI fun i j _ _ _ _ _ hc q=>by
 have h1:(0:Int) < j:=hc.1
 have h2:j < 1073741824:=hc.2
 exact floordiv_int (by omega) (by rw [Int.fdiv_eq_ediv_of_nonneg i (by omega)];exact q) (.inl (PyProof.noPylong_small (by omega)))
theorem d9:OpR X (binaryOp .Mod) (rI (fun _ j=>0 < j) fun i j=>.int (i%j)):=opI fun i j _ _ _ _ _ hc q=>by
 have h1:(0:Int) < j:=hc
 exact mod_int' (by omega) (by rw [Int.fmod_eq_emod_of_nonneg i (by omega)];exact q)
theorem AO:OpR X (binaryOp .Pow) (rI Dm fun i j=>.int (i ^ j.toNat)):=opI fun _ _ _ _ _ _ _ hc q=>pow_int_small hc.1 hc.2.1 hc.2.2 q
def Di:V->V->Bool
 |.non,.non=>true|.non,.int _=>true|.int _,.non=>true|.non,.bl _=>true|.bl _,.non=>true|.non,.str _=>true|.str _,.non=>true
 |.int _,.int _=>true|.bl _,.bl _=>true|.str _,.str _=>true|.byt _,.byt _=>true
 |.int _,.str _=>true|.str _,.int _=>true|.bl _,.str _=>true|.str _,.bl _=>true
 |_,_=>false
def rEq:R2:=fun x y H Q=>Di x y=true/\Q (.bl (decide (x=y))) H
def rNe:R2:=fun x y H Q=>Di x y=true/\Q (.bl (!decide (x=y))) H
theorem vE{i j:Int}:decide (V.int i=V.int j)=(i==j):=by
 rw [Bool.eq_iff_iff]
 simp
theorem x8{i j:Bool}:decide (V.bl i=V.bl j)=(i==j):=by
 rw [Bool.eq_iff_iff]
 simp
theorem vR{i j:Str}:decide (V.str i=V.str j)=(i==j):=by
 rw [Bool.eq_iff_iff]
 simp
theorem tV{i j:Array UInt8}:decide (V.byt i=V.byt j)=(i.toList==j.toList):=by
 rw [Bool.eq_iff_iff]
 cases i
 cases j
 simp
theorem ce{pins:List (Addr × Obj)}{σ:St}{H:Hp}{s:Shared}{Q:VK}{k k':Bool}(I:Inv X pins σ H s)(q:Q (.bl k) H)(e:k=k'):EP X pins σ Q (.bool k') s:=by
 subst e
 exact⟨.bl k,H,I,rfl,q⟩
theorem dA:OpR X (compareOp .Eq) rEq:=by
 intro pins s σ H x y v u Q I rx ry h
 obtain⟨hs,q⟩:=h
 cases x with
 |non =>
  cases rx
  cases y with
  |non=>cases ry;exact PySem.EqNone.eq_none_none (ce I q (by simp))
  |bl j=>cases ry;exact PySem.EqNone.eq_none_bool (ce I q (by simp))
  |int j=>obtain⟨t',rfl⟩:=ry;exact PySem.EqNone.eq_none_int (ce I q (by simp))
  |str j=>obtain⟨t',rfl⟩:=ry;exact PySem.EqNone.eq_none_str (ce I q (by simp))
  |_=>exact absurd (show false=true from hs) Bool.false_ne_true
 |bl i =>
  cases rx
  cases y with
  |non=>cases ry;exact PySem.EqNone.eq_bool_none (ce I q (by simp))
  |bl j=>cases ry;exact eq_bool (ce I q x8)
  |str j=>obtain⟨t',rfl⟩:=ry;exact PySem.EqMixed.eq_bool_str (ce I q (by simp))
  |_=>exact absurd (show false=true from hs) Bool.false_ne_true
 |int i =>
  obtain⟨t,rfl⟩:=rx
  cases y with
  |non=>cases ry;exact PySem.EqNone.eq_int_none (ce I q (by simp))
  |int j=>obtain⟨t',rfl⟩:=ry;exact eq_int (ce I q vE)
  |str j=>obtain⟨t',rfl⟩:=ry;exact PySem.EqMixed.eq_int_str (ce I q (by simp))
  |_=>exact absurd (show false=true from hs) Bool.false_ne_true
 |str i =>
  obtain⟨t,rfl⟩:=rx
  cases y with
  |non=>cases ry;exact PySem.EqNone.eq_str_none (ce I q (by simp))
  |bl j=>cases ry;exact PySem.EqMixed.eq_str_bool (ce I q (by simp))
  |int j=>obtain⟨t',rfl⟩:=ry;exact PySem.EqMixed.eq_str_int (ce I q (by simp))
  |str j=>obtain⟨t',rfl⟩:=ry;exact eq_str (ce I q vR)
  |_=>exact absurd (show false=true from hs) Bool.false_ne_true
 |byt i =>
  obtain⟨t,rfl⟩:=rx
  cases y with
  |byt j=>obtain⟨t',rfl⟩:=ry;exact W.eq_bytes (ce I q tV)
  |_=>exact absurd (show false=true from hs) Bool.false_ne_true
 |_=>cases y<;>exact absurd (show false=true from hs) Bool.false_ne_true
theorem Cd:OpR X (compareOp .NotEq) rNe:=by
 intro pins s σ H x y v u Q I rx ry h
 obtain⟨hs,q⟩:=h
 cases x with
 |non =>
  cases rx
  cases y with
  |non=>cases ry;exact PySem.EqNone.ne_none_none (ce I q (by simp))
  |bl j=>cases ry;exact PySem.EqNone.ne_none_bool (ce I q (by simp))
  |int j=>obtain⟨t',rfl⟩:=ry;exact PySem.EqNone.ne_none_int (ce I q (by simp))
  |str j=>obtain⟨t',rfl⟩:=ry;exact PySem.EqNone.ne_none_str (ce I q (by simp))
  |_=>exact absurd (show false=true from hs) Bool.false_ne_true
 |bl i =>
  cases rx
  cases y with
  |non=>cases ry;exact PySem.EqNone.ne_bool_none (ce I q (by simp))
  |bl j=>cases ry;exact ne_bool (ce I q (congrArg not x8))
  |str j=>obtain⟨t',rfl⟩:=ry;exact PySem.EqMixed.ne_bool_str (ce I q (by simp))
  |_=>exact absurd (show false=true from hs) Bool.false_ne_true
 |int i =>
  obtain⟨t,rfl⟩:=rx
  cases y with
  |non=>cases ry;exact PySem.EqNone.ne_int_none (ce I q (by simp))
  |int j=>obtain⟨t',rfl⟩:=ry;exact ne_int (ce I q (congrArg not vE))
  |str j=>obtain⟨t',rfl⟩:=ry;exact PySem.EqMixed.ne_int_str (ce I q (by simp))
  |_=>exact absurd (show false=true from hs) Bool.false_ne_true
 |str i =>
  obtain⟨t,rfl⟩:=rx
  cases y with
  |non=>cases ry;exact PySem.EqNone.ne_str_none (ce I q (by simp))
  |bl j=>cases ry;exact PySem.EqMixed.ne_str_bool (ce I q (by simp))
  |int j=>obtain⟨t',rfl⟩:=ry;exact PySem.EqMixed.ne_str_int (ce I q (by simp))
  |str j=>obtain⟨t',rfl⟩:=ry;exact ne_str (ce I q (congrArg not vR))
  |_=>exact absurd (show false=true from hs) Bool.false_ne_true
 |byt i =>
  obtain⟨t,rfl⟩:=rx
  cases y with
  |byt j=>obtain⟨t',rfl⟩:=ry;exact W.ne_bytes (ce I q (congrArg not tV))
  |_=>exact absurd (show false=true from hs) Bool.false_ne_true
 |_=>cases y<;>exact absurd (show false=true from hs) Bool.false_ne_true
theorem C1:OpR X (compareOp .Lt) (rI0 fun i j=>.bl (decide (i < j))):=C6 fun _ _ _ _ _ _ _ q=>lt_int q
theorem vO:OpR X (compareOp .Gt) (rI0 fun i j=>.bl (decide (j < i))):=C6 fun _ _ _ _ _ _ _ q=>gt_int q
theorem oS:OpR X (compareOp .Is) (fun x y H Q=>y=.non/\Q (.bl (decide (x=.non))) H):=by
 intro pins s σ H x y v u Q I rx ry h
 obtain⟨rfl,q⟩:=h
 cases ry
 refine is_none_gen (ce I q ?_)
 cases x<;>first
  |(cases rx;rfl)
  |(obtain⟨t,rfl⟩:=rx;rfl)
theorem uP:OpR X (compareOp .IsNot) (fun x y H Q=>y=.non/\Q (.bl (!decide (x=.non))) H):=by
 intro pins s σ H x y v u Q I rx ry h
 obtain⟨rfl,q⟩:=h
 cases ry
 refine isnot_none_gen (ce I q ?_)
 cases x<;>first
  |(cases rx;rfl)
  |(obtain⟨t,rfl⟩:=rx;rfl)
theorem aZ(b:Expr){op:CmpOp}(h:op≠.In:=by decide)(h2:op≠.NotIn:=by decide):behindInMarks op b=false:=by
 have e1:(op==CmpOp.In)=false:=by cases op<;>first|rfl|exact absurd rfl h
 have e2:(op==CmpOp.NotIn)=false:=by cases op<;>first|rfl|exact absurd rfl h2
 cases b<;>simp [behindInMarks,e1,e2]
theorem eZ{op:CmpOp}{r:R2}(ho:OpR X (compareOp op) r)(ha:PE X a ta)(hb:PE X b tb)(hm:behindInMarks op b=false):PE X (.Compare a [op] [b] pos) (tOp r ta tb):=by
 intro pins s σ H Q I h
 exact wpAny_Compare1 (Cy ha hb I h fun v u s2 x y H2 I2 rx ry q=>ho pins s2 σ H2 x y v u Q I2 rx ry q) hm
def B8(t:TE):TT:=fun σ H Q=>t σ H fun x H'=>Wb x H' Q
theorem aX{op:CmpOp}{r:R2}(ho:OpR X (compareOp op) r)(ha:PE X a ta)(hb:PE X b tb)(hm:behindInMarks op b=false):PT X (.Compare a [op] [b] pos) (B8 (tOp r ta tb)):=by
 intro pins s σ H Q I h
 refine wpAny_isTrue_Compare1 (thn (ha pins s σ H _ I h) fun v s1 ⟨x,H1,I1,r1,q1⟩=>thn (hb pins s1 σ H1 _ I1 q1) fun u s2 ⟨y,H2,I2,r2,q2⟩ =>
  thn (ho pins s2 σ H2 x y v u _ I2 r1 r2 q2) fun c s3 ⟨z,H3,I3,r3,k,e,q3⟩=>?_) hm
 subst e
 cases r3
 exact wpAny_truthy_bool ⟨H3,I3,q3⟩
theorem rF:(sizeLine:Nat) < 2 ^ 63:=by rw [sizeLine_eq];decide
theorem tH:OpR X (binaryOp .Add) (fun x y H Q=>∃i j,x=.str i/\y=.str j/\i.length+j.length<=sizeLine/\Q (.str (i++j)) H):=by
 intro pins s σ H x y v u Q I rx ry h
 obtain⟨i,j,rfl,rfl,hz,q⟩:=h
 obtain⟨t,rfl⟩:=rx
 obtain⟨t',rfl⟩:=ry
 exact add_str (fun t' tk=>⟨.str (i++j),H,I.tok _,⟨_,rfl⟩,q⟩) hz
theorem nE{x:V}{us:List Value}(r:cw [x] us):∃u,us=[u]/\cy x u:=by
 cases r with
 |cons r1 r2=>cases r2;exact⟨_,rfl,r1⟩
theorem B5{x y:V}{us:List Value}(r:cw [x,y] us):∃u w',us=[u,w']/\cy x u/\cy y w':=by
 cases r with
 |cons r1 r2 =>
  cases r2 with
  |cons r3 r4=>cases r4;exact⟨_,_,rfl,r1,r3⟩
theorem oh:gM X (.type "int") (fun xs H Q=>(∃i,xs=[.int i]/\Q (.int i) H)\/∃k,xs=[.bl k]/\Q (.int (if k then 1 else 0)) H):=by
 intro pins s σ H xs us Q I r h
 rcases h with ⟨i,rfl,q⟩|⟨k,rfl,q⟩
 ·obtain⟨u,rfl,t,rfl⟩:=nE r
  exact call_int_int ⟨.int i,H,I,⟨_,rfl⟩,q⟩
 ·obtain⟨u,rfl,r1⟩:=nE r
  cases r1
  exact call_int_bool ⟨.int (if k then 1 else 0),H,I.tok _,⟨_,rfl⟩,q⟩
end
structure zF(h:Heap)(x dx C:Addr)(mA:Str->Option Value):Prop where
 obj:h.get? x=some (W.instObj C dx)
 ns:h.Ns1 dx mA
 ne:dx≠x
theorem ou{h:Heap}{dx:Addr}{mA:Str->Option Value}(n:h.Ns1 dx mA):∃od,h.get? dx=some od/\∀name,W.lookIn name od=some (mA name):=by
 obtain⟨o,es,ep,ho,hd,hk,_,hm⟩:=n
 refine⟨o,ho,fun name=>?_⟩
 have e:=hm name
 unfold nsFind findBy at e
 rw [<-Array.find?_toList] at e
 unfold W.lookIn
 rw [hd]
 dsimp only
 split
 ·rename_i y q
  rw [q] at e
  exact congrArg some e
 ·rename_i q
  rw [q] at e
  have a:es.toList.any (·.refKey)=false:=by
   rw [List.any_eq_false]
   intro y hy
   obtain⟨z,t,hkey⟩:=hk y (Array.mem_toList_iff.mp hy)
   simp [DictEntry.refKey,hkey]
  have a':¬es.toList.any (·.refKey)=true:=by rw [a];exact Bool.false_ne_true
  rw [if_neg a']
  exact congrArg some e
theorem zF.look{h:Heap}{x dx C:Addr}{mA:Str->Option Value}(I:zF h x dx C mA):∃od,W.InstAt h x (W.instObj C dx) C (some od)/\∀name,W.lookIn name od=some (mA name) :=
 let ⟨od,ho,hl⟩:=ou I.ns
 ⟨od,⟨I.obj,rfl,rfl,ho⟩,hl⟩
section
variable{prog:Program}{w:World}{A:Around}{E:Value->Shared->Prop}{s:Shared}{K:W.Frag}{x dx C f:Addr}{mA:Str->Option Value}{name:Str}{v:Value}
theorem zl{expr:Bool}{Q:Value->Shared->Prop}(X:K.In s.heap)(I:zF s.heap x dx C mA)(hg:W.plainGet K C name=true)(hh:W.hasDictIn K C=true)
  (ha:W.findIn K (.ref C) name=some none) (hv:mA name=some v) (hv':W.handedIn v=true) (h:Q v { s with toks:=s.toks+1 }) :
  wpAny (model prog w) A (getAttr (.ref x) name expr) Q E s:=by
 obtain⟨od,J,hl⟩:=I.look
 exact W.get_value X J (W.plainGet_of hg).1 (W.findObj_own hh ha rfl (by rw [hl,hv])) hv' h
theorem xG{pl:Sem Bool}{Q:Value × List Value->Shared->Prop}(X:K.In s.heap)(I:zF s.heap x dx C mA)(hg:W.plainGet K C name=true)
  (hf:W.findIn K (.ref C) name=some (some (.ref f))) (ht:W.isFn K (.ref f)=true) (hv:mA name=none) (h:Q (.ref f,[.ref x]) s) :
  wpAny (model prog w) A (getMethod (.ref x) name pl) Q E s:=by
 obtain⟨od,J,hl⟩:=I.look
 exact W.method_fn X J (W.plainGet_of hg).1 (W.plainGet_of hg).2 hf (beq_iff_eq.mp ht) (by show(W.lookIn name od).map (·.isSome)=some false;rw [hl,hv];rfl) h
theorem ze{ns:List Str}{Q:Unit->Shared->Prop}(X:K.In s.heap)(I:zF s.heap x dx C mA)
  (hs:W.findIn K (.ref C) "__setattr__"=some (some (.builtin "object.__setattr__"))) (hp:W.plainOver K C=true) (ht:W.takerIn K C name=some none) (hh:W.hasDictIn K C=true)
  (hw:PySem.Within mA ns) (hsz:ns.length<=sizeLine)
  (h:∀h',zF h' x dx C (fun y=>if y=name then some v else mA y)->Heap.SameBut dx s.heap h'->Q () { s with heap:=h',toks:=s.toks+2 }) :
  wpAny (model prog w) A (setAttr (.ref x) name v) Q E s:=by
 obtain⟨od,J,hl⟩:=I.look
 refine W.set_plain X J hs (W.osa_open (s:={ s with toks:=s.toks+1 }) (r:=none) X J hp ht fun b=>?_)
 obtain⟨cd,hc,hd'⟩:=W.any_some hh
 have hx:s.heap.get? x=some ⟨.ref C,some dx,.plain,#[]⟩:=I.obj
 refine wpAny_bind (wpAny_pure (wpAny_bind (wpAny_bind (wpAny_loadPart hx (wpAny_bind (W.Looks.here (s:={ s with toks:=s.toks+1 }) (W.looks_clsIn X hc) ?_))))))
 rw [hd']
 refine wpAny_pure (a:=some dx) (wpAny_bind (wpAny_pure (wpAny_bind ?_)))
 refine wpAny_nsSet1 (s:={ s with toks:=s.toks+1 }) I.ns fun h' hn2 hs2=>?_
 obtain⟨oD,esD,epD,hoD,hdD,hcD⟩:=hn2.count (PySem.Within.cons name v hw)
 refine wpAny_bind (wpAny_lookBehind hoD (by rw [hdD];exact pastItsLine_dict (Nat.le_trans hcD (by rw [List.length_cons];omega))) ?_)
 exact wpAny_pure (h _ ⟨(hs2.2 _ (Ne.symm I.ne)).trans I.obj,hn2,I.ne⟩ hs2)
theorem xL{R:Result->Shared->Prop}{vs:List Value}{kw:List (Str × Value)}(X:K.In s.heap)(hm:W.makesIn K C=true)
  (hi:W.findIn K (.ref C) "__init__"=some (some (.ref f))) (hf:W.typeIn K (.ref f)=some (.type "function"))
  (h:codeAny (model prog w) (A.under (.builtin "type.__call__" ⟨.ref C::vs,kw⟩)) (.call (.ref f) ⟨.ref (s.heap.objs.size+1)::vs,kw⟩) (W.InitBack (s.heap.objs.size+1) R)
   { s with heap:=(s.heap.push W.emptyDict).push (W.instObj C s.heap.objs.size) }) :
  codeAny (model prog w) A (.call (.ref C) ⟨vs,kw⟩) R s:=by
 obtain⟨hh,g,d,t,os⟩:=s
 exact W.make_core (W.makes_of X hm) (W.looks_findIn X hi) (fun self=>W.bind_fn X self hf) (.inl rfl) h
end
def jn(f:Str)(v:V):List (Str × V)->List (Str × V)
 |[]=>[(f,v)]
 |(g,x)::r=>if g=f then (g,v)::r else (g,x)::jn f v r
theorem aQ(f g:Str)(v:V):∀fs:List (Str × V),(jn f v fs).lookup g=if g=f then some v else fs.lookup g
 |[]=>by
  show List.lookup g [(f,v)]=_
  by_cases h:g=f
  ·have hb:(g==f)=true:=beq_iff_eq.mpr h
   simp only [List.lookup,hb,if_pos h]
  ·have hb:(g==f)=false:=beq_eq_false_iff_ne.mpr h
   simp only [List.lookup,hb,if_neg h]
 |(k,x)::r=>by
  have ih:=aQ f g v r
  rw [show jn f v ((k,x)::r)=(if k=f then (k,v)::r else (k,x)::jn f v r) from rfl]
  by_cases hk:k=f
  ·rw [if_pos hk]
   by_cases h:g=k
   ·have hb:(g==k)=true:=beq_iff_eq.mpr h
    simp only [List.lookup,hb,if_pos (h.trans hk)]
   ·have hb:(g==k)=false:=beq_eq_false_iff_ne.mpr h
    simp only [List.lookup,hb,if_neg (fun e:g=f=>h (e.trans hk.symm))]
  ·rw [if_neg hk]
   by_cases h:g=k
   ·have hb:(g==k)=true:=beq_iff_eq.mpr h
    simp only [List.lookup,hb,if_neg (fun e:g=f=>hk (h.symm.trans e))]
   ·have hb:(g==k)=false:=beq_eq_false_iff_ne.mpr h
    simp only [List.lookup,hb]
    exact ih
theorem gr(f:Str)(v:V):∀fs:List (Str × V),f∈(jn f v fs).map (·.1)/\∀g,g∈fs.map (·.1)->g∈(jn f v fs).map (·.1)
 |[]=>⟨by simp [jn],fun g h=>by simp at h⟩
 |(k,x)::r=>by
  obtain⟨i1,i2⟩:=gr f v r
  rw [show jn f v ((k,x)::r)=(if k=f then (k,v)::r else (k,x)::jn f v r) from rfl]
  by_cases hk:k=f
  ·rw [if_pos hk]
   subst hk
   exact⟨by simp,fun g h=>by simpa using h⟩
  ·rw [if_neg hk]
   refine⟨?_,fun g h=>?_⟩
   ·rw [List.map_cons]
    exact List.mem_cons_of_mem _ i1
   ·rw [List.map_cons] at h ⊢
    rcases List.mem_cons.mp h with e|e
    ·exact List.mem_cons.mpr (.inl e)
    ·exact List.mem_cons_of_mem _ (i2 g e)
theorem eJ(f:Str)(v:V):∀fs:List (Str × V),(jn f v fs).length<=fs.length+1
 |[]=>by simp [jn]
 |(k,x)::r=>by
  have ih:=eJ f v r
  rw [show jn f v ((k,x)::r)=(if k=f then (k,v)::r else (k,x)::jn f v r) from rfl]
  by_cases hk:k=f
  ·rw [if_pos hk,List.length_cons,List.length_cons];omega
  ·rw [if_neg hk,List.length_cons,List.length_cons];omega
theorem jy.some_of{v:V}{o:Option Value}(r:jy (some v) o):∃u,o=some u/\cy v u:=by
 cases o with
 |none=>exact(show False from r).elim
 |some u=>exact⟨u,rfl,r⟩
theorem jy.none_of{o:Option Value}(r:jy none o):o=none:=by
 cases o with
 |none=>rfl
 |some u=>exact(show False from r).elim
theorem oQ{v:V}{u:Value}(r:cy v u):W.handedIn u=true:=by
 cases v with
 |non=>cases (show u=Value.none from r);rfl
 |bl b=>cases (show u=Value.bool b from r);rfl
 |int i=>obtain⟨t,e⟩:=(show ∃t,u=Value.int i t from r);cases e;rfl
 |str x=>obtain⟨t,e⟩:=(show ∃t,u=Value.str x t from r);cases e;rfl
 |byt b=>obtain⟨t,e⟩:=(show ∃t,u=Value.bytes b t from r);cases e;rfl
 |flt b=>obtain⟨t,e⟩:=(show ∃t,u=Value.float b t from r);cases e;rfl
 |ref a=>cases (show u=Value.ref a from r);rfl
 |ty n=>cases (show u=Value.type n from r);rfl
section
variable{P:Program}{w:World}{H H':Hp}{h h':Heap}{a C dx:Addr}{fs fs':List (Str × V)}
theorem mz(hok:HOk P w H h)(e:H a=some (.ins C dx fs)):∃mA,zF h a dx C mA/\(∀f,jy (fs.lookup f) (mA f))/\PySem.Within mA (fs.map (·.1))/\fs.length<=1000/\H dx=some (.own a):=by
 obtain⟨d,z,ne,ob,mA,n,r,q⟩:=(show cr P w H h a (.ins C dx fs) from hok a _ e)
 exact⟨mA,⟨ob,n,ne⟩,r,q,z,d⟩
end
structure Cls(K:W.Frag)(C:Addr):Prop where
 pg:W.plainGet K C Str.empty=true
 hd:W.hasDictIn K C=true
 po:W.plainOver K C=true
 sa:W.findIn K (.ref C) "__setattr__"=some (some (.builtin "object.__setattr__"))
theorem Cls.get{K:W.Frag}{C:Addr}(c:Cls K C)(f:Str):W.plainGet K C f=true:=c.pg
def bt(K:W.Frag)(C:Addr)(f:Str):Prop:=W.findIn K (.ref C) f=some none
theorem bt.taker{K:W.Frag}{C:Addr}{f:Str}(n:bt K C f):W.takerIn K C f=some none:=by
 unfold W.takerIn
 rw [show W.findIn K (.ref C) f=some none from n]
 rfl
structure Con(K:W.Frag)(C:Addr)(f:Str)(v:V)(u:Value):Prop where
 at_:W.findIn K (.ref C) f=some (some u)
 rel:cy v u
 get:W.specialIn K u "__get__"=some none
 cp:W.copiedNames.contains f=false
structure vZ(K:W.Frag)(C:Addr)(m:Str)(f:Addr):Prop where
 at_:W.findIn K (.ref C) m=some (some (.ref f))
 fn:W.isFn K (.ref f)=true
 kp:W.keepIn K (.ref f)=true
section
variable{X:Cx}{pins:List (Addr × Obj)}{σ:St}{H:Hp}{s:Shared}{a C dx:Addr}{fs:List (Str × V)}{f:Str}{v:V}{A:Around}{E:Value->Shared->Prop}
theorem sj{b:Bool}{Q:Value->Shared->Prop}(I:Inv X pins σ H s)(e:H a=some (.ins C dx fs))(c:Cls X.K C)(n:bt X.K C f)(l:fs.lookup f=some v)
  (h:∀u s',Inv X pins σ H s'->cy v u->Q u s'):wpAny (model X.prog X.w) A (getAttr (.ref a) f b) Q E s:=by
 obtain⟨mA,O,r,_,_,_⟩:=mz I.hok e
 obtain⟨u,hu,ru⟩:=jy.some_of (v:=v) (o:=mA f) (by rw [<-l];exact r f)
 exact zl I.kIn O (c.get f) c.hd n hu (oQ ru) (h u _ (I.tok _) ru)
theorem l0{m:Str}{g:Addr}{pl:Sem Bool}{Q:Value × List Value->Shared->Prop}(I:Inv X pins σ H s)(e:H a=some (.ins C dx fs))(c:Cls X.K C)(k:vZ X.K C m g)(l:fs.lookup m=none)
  (h:Q (.ref g,[.ref a]) s):wpAny (model X.prog X.w) A (getMethod (.ref a) m pl) Q E s:=by
 obtain⟨mA,O,r,_,_,_⟩:=mz I.hok e
 have hn:mA m=none:=jy.none_of (by rw [<-l];exact r m)
 exact xG I.kIn O (c.get m) k.at_ k.fn hn h
theorem tu{y:V}{u:Value}{Q:Unit->Shared->Prop}(I:Inv X pins σ H s)(e:H a=some (.ins C dx fs))(c:Cls X.K C)(n:bt X.K C f)(hl:fs.length < 1000)(ry:cy y u)
  (h:∀s',Inv X pins σ (upd H a (.ins C dx (jn f y fs))) s'->Q () s'):wpAny (model X.prog X.w) A (setAttr (.ref a) f u) Q E s:=by
 obtain⟨mA,O,r,wi,_,ho⟩:=mz I.hok e
 have hz:(fs.map (·.1)).length<=sizeLine:=by rw [List.length_map,sizeLine_eq];omega
 refine ze I.kIn O c.sa c.po n.taker c.hd wi hz fun h' O' sb=>h _ ?_
 have hd:∃o,h'.get? dx=some o:=let ⟨o,_,_,e',_⟩:=O'.ns;⟨o,e'⟩
 refine I.write (x:=a) (e:=dx) (by rw [e];exact True.intro) (.inr ho) (fun b q hb z=>(sb.2 b hb).trans z) hd ?_
 refine⟨by rw [aj O.ne];exact ho,?_,O.ne,O'.obj,_,O'.ns,fun g=>?_,fun g hg=>?_⟩
 ·have:=eJ f y fs;omega
 ·show jy ((jn f y fs).lookup g) (if g=f then some u else mA g)
  rw [aQ]
  by_cases q:g=f
  ·rw [if_pos q,if_pos q];exact ry
  ·rw [if_neg q,if_neg q];exact r g
 ·by_cases q:g=f
  ·rw [q];exact(gr f y fs).1
  ·refine(gr f y fs).2 g (wi g fun z=>hg ?_)
   show(if g=f then some u else mA g)=none
   rw [if_neg q];exact z
theorem Inv.made(I:Inv X pins σ H s):Inv X pins σ (upd (upd H s.heap.objs.size (.own (s.heap.objs.size+1))) (s.heap.objs.size+1) (.ins C s.heap.objs.size []))
  { s with heap:=(s.heap.push W.emptyDict).push (W.instObj C s.heap.objs.size) }:=by
 have e1:(s.heap.push W.emptyDict).get? s.heap.objs.size=some W.emptyDict:=Heap.get?_push_size s.heap rfl
 have e2:((s.heap.push W.emptyDict).push (W.instObj C s.heap.objs.size)).get? (s.heap.objs.size+1)=some (W.instObj C s.heap.objs.size):=by
  have:=Heap.get?_push_size (s.heap.push W.emptyDict) (o:=W.instObj C s.heap.objs.size) rfl
  rwa [Heap.size_push] at this
 have e3:(s.heap.push W.emptyDict).Ns s.heap.objs.size (fun _=>none):=⟨W.emptyDict,#[],_,e1,rfl,(fun e he=>absurd he (by simp)),fun _=>rfl⟩
 have I1:=I.laid (a:=s.heap.objs.size) (o:=.own (s.heap.objs.size+1)) (h':=s.heap.push W.emptyDict) (t':=s.toks) (fun b u q=>Heap.get?_push_of_some _ q) (Nat.le_refl _) ⟨_,e1⟩
 refine I1.laid (a:=s.heap.objs.size+1) (o:=.ins C s.heap.objs.size []) (t':=s.toks) (fun b u q=>Heap.get?_push_of_some _ q) (Nat.le_of_eq (Heap.size_push _ _)) ?_
 have ne:s.heap.objs.size≠s.heap.objs.size+1:=Nat.ne_of_lt (Nat.lt_succ_self _)
 refine⟨by rw [aj ne,ac],Nat.zero_le _,ne,e2,fun _=>none,(Heap.Ns1.of_empty e3).at fun o q=>Heap.get?_push_of_some _ q,fun _=>True.intro,fun y hy=>absurd rfl hy⟩
theorem vJ{prog:Program}{w:World}{env:Env}{e:Expr}{f:Str}{pos:Pos}{s:Shared}{Q:Value->Shared->Prop}(hb:attributeBase e f env (eval e env)=eval e env)
  (h:wpAny (model prog w) A (eval e env) (fun o s₁=>wpAny (model prog w) A (getAttr o f true) Q E s₁) E s):wpAny (model prog w) A (eval (.Attribute e f pos) env) Q E s :=
 Attribute_any_ h (by rw [arm_eval_Attribute,hb])
end
def CH(K:W.Frag)(ta:TE)(f:Str):TE:=fun σ H Q=>ta σ H fun x H1=>∃a C dx fs v,x=.ref a/\H1 a=some (.ins C dx fs)/\Cls K C/\bt K C f/\fs.lookup f=some v/\Q v H1
def DN(K:W.Frag)(ta tv:TE)(f:Str):TS:=fun D σ H=>tv σ H fun y H1=>ta σ H1 fun x H2=>∃a C dx fs,x=.ref a/\H2 a=some (.ins C dx fs)/\Cls K C/\bt K C f/\fs.length < 1000 /\
 D.nx σ (upd H2 a (.ins C dx (jn f y fs)))
section
variable{X:Cx}{o e value:Expr}{f:Str}{pos pos' tpos:Pos}{ta tv:TE}
theorem bY(he:PE X e ta)(hb:attributeBase e f X.env (eval e X.env)=eval e X.env):PE X (.Attribute e f pos) (CH X.K ta f):=by
 intro pins s σ H Q I h
 refine vJ hb (thn (he pins s σ H _ I h) fun u s1 ⟨x,H1,I1,rx,a,C,dx,fs,v,ex,ea,c,n,l,q⟩=>?_)
 subst ex
 obtain rfl:u=Value.ref a:=rx
 exact sj I1 ea c n l fun u' s2 I2 ru=>⟨v,H1,I2,ru,q⟩
theorem qX(ha:PE X o ta)(hv:PE X value tv)(hs:swapsWith value (some (.Attribute o f pos')) pos.line X.env=pure false):PS X (.Assign [.Attribute o f pos'] value pos) (DN X.K ta tv f):=by
 intro pins s σ H D I h
 refine plainObj_wpAny_Assign_Attribute (thn (hv pins s σ H _ I h) fun u s1 ⟨y,H1,I1,ry,q⟩=>thn (ha pins s1 σ H1 _ I1 q) fun ov s2 ⟨x,H2,I2,rx,a,C,dx,fs,ex,ea,c,n,l,q2⟩=>?_) hs
 subst ex
 obtain rfl:ov=Value.ref a:=rx
 exact tu I2 ea c n l ry fun s3 I3=>⟨σ,_,I3,q2⟩
end
section
variable{X:Cx}{pins:List (Addr × Obj)}{σ:St}{H:Hp}{s:Shared}{A:Around}{E:Value->Shared->Prop}{Q:Value->Shared->Prop}{c:Value}{b:Bool}
inductive qy (K:W.Frag) (H:Hp):V->Value->Prop where
 |non:qy K H .non (.type "NoneType")
 |bl (x:Bool):qy K H (.bl x) (.type "bool")
 |int (i:Int):qy K H (.int i) (.type "int")
 |str (x:Str):qy K H (.str x) (.type "str")
 |flt (x:UInt64):qy K H (.flt x) (.type "float")
 |lst {a:Addr} {xs:List V} (e:H a=some (.lst xs)):qy K H (.ref a) (.type "list")
 |frz {a:Addr} {o:Obj} {xs:List V} (e:H a=some (.frz o (.lst xs))):qy K H (.ref a) (.type "list")
 |tup {a:Addr} {xs:List V} (e:H a=some (.tup xs)):qy K H (.ref a) (.type "tuple")
 |dK {a:Addr} {kvs:List (Key × V)} (e:H a=some (.dK kvs)):qy K H (.ref a) (.type "dict")
 |dT {a:Addr} {kvs:List (List Key × V)} (e:H a=some (.dT kvs)):qy K H (.ref a) (.type "dict")
 |ins {a C dx:Addr} {fs:List (Str × V)} (e:H a=some (.ins C dx fs)) (cl:Cls K C) (ha:W.findIn K (.ref C) "__class__"=some (some (.builtin "object.__class__")))
   (hn:W.specialIn K (.builtin "object.__class__") "__get__"=some (some (.builtin "getset_descriptor.__get__"))) (htk:W.takesIn K (.builtin "object.__class__")=some true)
   (hm:W.mroIn K C (.type "object")=some true):qy K H (.ref a) (.ref C)
theorem ic{x:V}{u t:Value}(I:Inv X pins σ H s)(rx:cy x u)(ty:qy X.K H x t)(e:W.kitOne X.K t c=some b)(h:∀tk,Q (.bool b) { s with toks:=tk }) :
  wpAny (model X.prog X.w) A (call (.builtin "isinstance") [u,c]) Q E s:=by
 cases ty with
 |non=>cases (show u=Value.none from rx);exact W.kia_one W.kitx_none I.kIn True.intro e (fun z=>nomatch z) h
 |bl y=>cases (show u=Value.bool y from rx);exact W.kia_one W.kitx_bool I.kIn True.intro e (fun z=>nomatch z) h
 |int i=>obtain⟨t,q⟩:=(show ∃t,u=Value.int i t from rx);cases q;exact W.kia_one W.kitx_int I.kIn True.intro e (fun z=>nomatch z) h
 |str y=>obtain⟨t,q⟩:=(show ∃t,u=Value.str y t from rx);cases q;exact W.kia_one W.kitx_str I.kIn True.intro e (fun z=>nomatch z) h
 |flt y=>obtain⟨t,q⟩:=(show ∃t,u=Value.float y t from rx);cases q;exact W.kia_one W.kitx_float I.kIn True.intro e (fun z=>nomatch z) h
 |@lst a xs ea =>
  cases (show u=Value.ref a from rx)
  obtain⟨_,_,n,_,h1⟩:=(show cr X.prog X.w H s.heap a (.lst xs) from I.hok a _ ea)
  exact W.kia_one W.kitx_list I.kIn ⟨_,h1,rfl⟩ e (fun z=>nomatch z) h
 |@frz a ob xs ea =>
  cases (show u=Value.ref a from rx)
  obtain⟨_,_,_,n,_,h1⟩:=(show cr X.prog X.w H s.heap a (.frz ob (.lst xs)) from I.hok a _ ea)
  exact W.kia_one W.kitx_list I.kIn ⟨_,h1,rfl⟩ e (fun z=>nomatch z) h
 |@tup a xs ea =>
  cases (show u=Value.ref a from rx)
  obtain⟨_,_,_,p⟩:=(show cr X.prog X.w H s.heap a (.tup xs) from I.hok a _ ea)
  obtain⟨o,h1,h2,_⟩:=p
  exact W.kia_one W.kitx_tuple I.kIn ⟨o,h1,h2⟩ e (fun z=>nomatch z) h
 |@dK a kvs ea =>
  cases (show u=Value.ref a from rx)
  obtain⟨_,_,vs,_,p⟩:=(show cr X.prog X.w H s.heap a (.dK kvs) from I.hok a _ ea)
  obtain⟨o,es,ep,h1,h2,_⟩:=p
  exact W.kia_one W.kitx_dict I.kIn ⟨o,h1,h2.1⟩ e (fun z=>nomatch z) h
 |@dT a kvs ea =>
  cases (show u=Value.ref a from rx)
  obtain⟨_,_,xs,_,o,es,ep,h1,h2,_⟩:=(show cr X.prog X.w H s.heap a (.dT kvs) from I.hok a _ ea)
  exact W.kia_one W.kitx_dict I.kIn ⟨o,h1,h2.1⟩ e (fun z=>nomatch z) h
 |@ins a C dx fs ea cl ha hn htk hm =>
  cases (show u=Value.ref a from rx)
  obtain⟨mA,O,_⟩:=mz I.hok ea
  obtain⟨od,J,_⟩:=O.look
  exact W.kia_one (W.kitx_own (cl.get _) cl.hd ha hn htk hm) I.kIn J e (fun z=>nomatch z) h
end
structure cG(k:Nat)(A:Around):Prop where
 hd:A.handled=none
 dp:A.depth+3*k+5 < recursionLimit
 un:A.units+16*k+200 < cLine
 gd:A.guards=some []
theorem cG.mono{j k:Nat}{A:Around}(r:cG k A)(h:j<=k):cG j A:=⟨r.hd,by have:=r.dp;omega,by have:=r.un;omega,r.gd⟩
theorem cG.deeper{k:Nat}{A:Around}(r:cG (k+1) A)(env:Env):cG k (A.deeper env) :=
 ⟨r.hd,by have:=r.dp;show A.depth+1+3*k+5 < _;omega,by have:=r.un;show A.units+3+16*k+200 < _;omega,r.gd⟩
theorem sK{A:Around}{C:Addr}{us:List Value}{kw:List (Str × Value)}:(A.under (.builtin "type.__call__" ⟨.ref C::us,kw⟩)).depth=A.depth+1:=by
 first|rfl|simp [Around.under,Code.weight,Code.isCreation,Code.isGuard,Code.isCaller,Code.frames,Code.isFrame,guardIds]
theorem tz{A:Around}{C:Addr}{us:List Value}{kw:List (Str × Value)}:(A.under (.builtin "type.__call__" ⟨.ref C::us,kw⟩)).units=A.units+1:=by
 first|rfl|simp [Around.under,Code.cUnits,Code.frames,Code.isFrame]
theorem qe{A:Around}{C:Addr}{us:List Value}{kw:List (Str × Value)}:(A.under (.builtin "type.__call__" ⟨.ref C::us,kw⟩)).guards=A.guards:=by
 first|rfl|simp [Around.under,Code.guards,Code.isGuard,guardIds,pushGuards]
theorem cG.make{k:Nat}{A:Around}(r:cG (k+1) A)(C:Addr)(us:List Value)(kw:List (Str × Value)):cG k (A.under (.builtin "type.__call__" ⟨.ref C::us,kw⟩)) :=
 ⟨r.hd,by have:=r.dp;rw [sK];omega,by have:=r.un;rw [tz];omega,qe.trans r.gd⟩
theorem cG.depth{k:Nat}{A:Around}(r:cG k A):A.depth < recursionLimit:=by have:=r.dp;omega
theorem cG.units{k:Nat}{A:Around}(r:cG k A):A.units+64 < cLine:=by have:=r.un;omega
def C5:TA:=fun _ H Q=>Q [] H
def Cw(ta:TE)(tr:TA):TA:=fun σ H Q=>ta σ H fun x H1=>tr σ H1 fun xs H2=>Q (x::xs) H2
section
variable{X:Cx}{e:Expr}{es:List Expr}{te:TE}{t:TA}{pos:Pos}
theorem ae:PA X [] C5:=fun _ _ _ _ H Q I h=>Calls.spliced_nil ⟨[],H,I,.nil,h⟩
theorem aa(ha:PE X e te)(hr:PA X es t)(hs:starEach (e::es) X.env=(false,eval e X.env)::starEach es X.env:=by rfl):PA X (e::es) (Cw te t):=by
 intro pos pins s σ H Q I h
 rw [hs]
 show wpAny _ _ (spliced ((false,eval e X.env)::backTo pos (starEach es X.env))) _ _ s
 refine Calls.spliced_cons (thn (ha pins s σ H _ I h) fun u s1 ⟨x,H1,I1,r1,q1⟩=>?_)
 exact thn (hr pos pins s1 σ H1 _ I1 q1) fun us s2 ⟨xs,H2,I2,r2,q2⟩=>⟨x::xs,H2,I2,.cons r1 r2,q2⟩
structure Wf(o:List V->HO)(xs:List V)(H:Hp)(Q:VK):Prop where
 h:xs.length<=sizeLine
 q:∀p,H p=none->Q (.ref p) (upd H p (o xs))
def DL(t:TA):TE:=fun σ H Q=>t σ H fun xs H1=>Wf .tup xs H1 Q
def Dx(t:TA):TE:=fun σ H Q=>t σ H fun xs H1=>Wf .lst xs H1 Q
theorem ap{x1}(h:PA X es t):PE X (.Tuple es x1 pos) (DL t):=by
 intro pins s σ H Q I hq
 refine wpAny_Tuple_spliced (thn (h pos pins s σ H _ I hq) fun us s1 ⟨xs,H1,I1,r,z,q⟩=>⟨by rw [<-r.length];exact z,?_⟩)
 have hf:H1 s1.heap.objs.size=none:=I1.hok.fresh (Nat.le_refl _)
 refine⟨.ref s1.heap.objs.size,upd H1 s1.heap.objs.size (.tup xs),I1.laid (t':=s1.toks) (fun b u e=>Heap.get?_push_of_some _ e) (Nat.le_refl _) ?_,rfl,q _ hf⟩
 exact⟨z,us,r,⟨_,Heap.get?_push_size _ rfl,rfl,_,rfl⟩⟩
theorem cU(h:PA X es t):PE X (.List es pos) (Dx t):=by
 intro pins s σ H Q I hq
 refine wpAny_List_spliced (thn (h pos pins s σ H _ I hq) fun us s1 ⟨xs,H1,I1,r,z,q⟩=>⟨by rw [<-r.length];exact z,?_⟩)
 have hf:H1 s1.heap.objs.size=none:=I1.hok.fresh (Nat.le_refl _)
 refine⟨.ref s1.heap.objs.size,upd H1 s1.heap.objs.size (.lst xs),I1.laid (t':=s1.toks) (fun b u e=>Heap.get?_push_of_some _ e) (Nat.le_refl _) ?_,rfl,q _ hf⟩
 exact⟨z,us,0,r,Heap.get?_push_size _ rfl⟩
end
abbrev Sp:=List V->Hp->VK->XK->Prop
abbrev CXT:=List Env->Hp->Shared->XK->Value->Shared->Prop
structure zZ(P:Program)(w:World)(K:W.Frag)(mg:Str->Option Value)(base:Heap)(A:Around)(outer:List Env)(s:Shared)(H:Hp):Prop where
 frames:A.frames=some outer
 mod:Mod K mg base
 bs:∀b o,base.get? b=some o->s.heap.get? b=some o/\H b=none
 bsz:base.objs.size<=s.heap.objs.size
 funs:s.heap.FunFrames base outer
 frf:∀b∈frs outer,H b=none
 hok:HOk P w H s.heap
 bare:AllBare s.gens
def CE(outer:List Env)(P:Program)(w:World)(H:Hp)(s:Shared)(Q:VK)(u:Value)(s':Shared):Prop :=
 ∃v H',s'.os=s.os/\AllBare s'.gens/\Un (frs outer) [] H H' s.heap s'.heap/\HOk P w H' s'.heap/\cy v u/\Q v H'
def CR(CX:CXT)(outer:List Env)(P:Program)(w:World)(H:Hp)(s:Shared)(Q:VK)(E:XK)(r:Result)(s':Shared):Prop :=
 match r with
 |.ok (.ret u)=>CE outer P w H s Q u s'
 |.ok _=>False
 |.error e=>CX outer H s E e s'
structure bq(P:Program)(w:World)(K:W.Frag)(mg:Str->Option Value)(base:Heap)(CX:CXT)(k:Nat)(f:Addr)(fd:FuncData)(ps:List Str)(sp:Sp):Prop where
 len:∀vs H Q E,sp vs H Q E->vs.length=ps.length
 run:∀(A:Around) (outer:List Env) (s:Shared) (H:Hp) (args:Args) (us:List Value) (vs:List V) (Q:VK) (E:XK),cG k A->zZ P w K mg base A outer s H->BindsTo s fd args (ps.zip us)->cw vs us->sp vs H Q E ->
  codeAny (model P w) A (.call (.ref f) args) (CR CX outer P w H s Q E) s
theorem zZ.make{P:Program}{w:World}{K:W.Frag}{mg:Str->Option Value}{base:Heap}{A:Around}{outer:List Env}{s:Shared}{H:Hp}(e:zZ P w K mg base A outer s H)(C:Addr)(us:List Value)(kw:List (Str × Value)) :
  zZ P w K mg base (A.under (.builtin "type.__call__" ⟨.ref C::us,kw⟩)) outer s H:=⟨by first|exact e.frames|(simpa [Around.under,Code.envs,Code.isFrame,pushEnvs] using e.frames),e.mod,e.bs,e.bsz,e.funs,e.frf,e.hok,e.bare⟩
section
variable{X:Cx}{pins:List (Addr × Obj)}{σ:St}{H:Hp}{s s':Shared}
theorem Inv.env0(I:Inv X pins σ H s):zZ X.prog X.w X.K X.mg X.base X.A X.stack s H :=
 ⟨I.ok.frames,I.ok.mod,I.bs,Nat.le_trans I.ok.bsz I.sz,I.stack,I.stkFree,I.hok,I.bare⟩
theorem Inv.after{Q:VK}{u:Value}(I:Inv X pins σ H s)(h:CE X.stack X.prog X.w H s Q u s'):EP X pins σ Q u s':=by
 obtain⟨v,H',os,bare,un,hok,r,q⟩:=h
 obtain⟨hh,g,d,t,os'⟩:=s'
 obtain rfl:os'=s.os:=os
 exact⟨v,H',I.call (h':=hh) (g':=g) (d':=d) (t':=t) (ch:=[]) un hok bare (fun b z=>absurd z (by simp)),r,q⟩
end
def Cl(sp:Sp)(dvs:List V)(E:XK)(t:TA):TE:=fun σ H Q=>t σ H fun vs H1=>sp (vs++dvs) H1 Q E
def AN(C:Addr)(m:Str)(sp:Sp)(dvs:List V)(E:XK)(ta:TE)(t:TA):TE:=fun σ H Q=>ta σ H fun x H1=>∃a dx fs,x=.ref a/\H1 a=some (.ins C dx fs)/\fs.lookup m=none /\
 t σ H1 fun vs H2=>sp (x::(vs++dvs)) H2 Q E
def Ci(C:Addr)(sp:Sp)(dvs:List V)(E:XK)(t:TA):TE:=fun σ H Q=>t σ H fun vs H1=>∀x dx,H1 x=none->H1 dx=none->dx≠x ->
 sp (.ref x::(vs++dvs)) (upd (upd H1 dx (.own x)) x (.ins C dx [])) (fun v H2=>v=.non/\Q (.ref x) H2) E
def aV(K:W.Frag)(fd:FuncData)(ps:List Str)(ds:List Value):Prop :=
 ∀(s:Shared) (us:List Value),K.In s.heap->(us++ds).length=ps.length->BindsTo s fd ⟨us,[]⟩ (ps.zip (us++ds))
theorem aV.all{K:W.Frag}{fd:FuncData}{ps:List Str}(h:∀us:List Value,us.length=ps.length->bindArgs fd ⟨us,[]⟩=pure (ps.zip us)):aV K fd ps []:=fun s us _ hl=>by
 rw [List.append_nil] at hl ⊢
 exact .of_eq (h us hl)
def fX(CX:CXT)(X:Cx)(E:XK):Prop:=∀(pins:List (Addr × Obj)) (σ:St) (H:Hp) (s:Shared) (e:Value) (s':Shared),Inv X pins σ H s->CX X.stack H s E e s'->X.xe e s'
section
variable{X:Cx}{CX:CXT}{k:Nat}{f C:Addr}{fd:FuncData}{ps:List Str}{sp:Sp}{dvs:List V}{ds:List Value}{E:XK}{x m:Str}{p pos apos:Pos}{e o:Expr}{es:List Expr}{ta:TE}{t:TA}
theorem vX{pins:List (Addr × Obj)}{σ:St}{H:Hp}{s:Shared}{Q:VK}{us:List Value}{vs:List V}(F:bq X.prog X.w X.K X.mg X.base CX k f fd ps sp)(hr:cG k X.A)(hb:aV X.K fd ps ds)(hd:cw dvs ds)(hx:fX CX X E)
  (I:Inv X pins σ H s) (r:cw vs us) (h:sp (vs++dvs) H Q E):wpAny (model X.prog X.w) X.A (call (.ref f) us) (EP X pins σ Q) X.xe s:=by
 have r2:cw (vs++dvs) (us++ds):=r.append hd
 have hl:(us++ds).length=ps.length:=by rw [<-r2.length];exact F.len _ _ _ _ h
 refine wpAny_call (codeAny_mono (F.run X.A X.stack s H ⟨us,[]⟩ (us++ds) (vs++dvs) Q E hr I.env0 (hb s us I.kIn hl) r2 h) fun r s' hq=>?_)
 cases r with
 |error e=>exact hx pins σ H s e s' I hq
 |ok fl =>
  cases fl with
  |ret u=>exact I.after hq
  |next=>exact False.elim hq
  |brk=>exact False.elim hq
  |cont=>exact False.elim hq
theorem aD(F:bq X.prog X.w X.K X.mg X.base CX k f fd ps sp)(hr:cG k X.A)(hg:Gl X x)(hm:X.mg x=some (.ref f))(hk:W.keepIn X.K (.ref f)=true)(hb:aV X.K fd ps ds)(hd:cw dvs ds)(hx:fX CX X E)
  (ha:PA X (e::es) t) (hdb:(x==("__debug__":Str))=false:=by decide) (he:starEach (e::es) X.env=(false,eval e X.env)::starEach es X.env:=by rfl) (hpl:(backTo pos (starEach es X.env)).any (·.1)=false:=by rfl) :
  PE X (.Call (.Name x p) (e::es) [] pos) (Cl sp dvs E t):=by
 intro pins s σ H Q I h
 refine wpAny_Call_Name_kw (gU I hg hm ?_ hdb)
 refine W.callWith_K (h₀:=X.base) I.ok.mod.kin hk (thn (ha pos pins s σ H _ I h) fun us s1 ⟨vs,H1,I1,r,q⟩=>⟨I1.kIn,?_⟩) he hpl
 exact vX F hr hb hd hx I1 r q
theorem Ae{pl:Sem Bool}(he:PE X o ta)(c:Cls X.K C)(hm:vZ X.K C m f)(F:bq X.prog X.w X.K X.mg X.base CX k f fd ps sp)(hr:cG k X.A)(hb:aV X.K fd ps ds)(hd:cw dvs ds)(hx:fX CX X E)(ha:PA X (e::es) t)
  (hst:starEach (e::es) X.env=(false,eval e X.env)::starEach es X.env:=by rfl) (hpl:(backTo pos (starEach es X.env)).any (·.1)=false:=by rfl)
  (ht:eval (.Call (.Attribute o m apos) (e::es) [] pos) X.env=(do
   let ov <-eval o X.env
   standAt apos.atName
   let (f,first) <-holding [ov] (getMethod ov m pl)
   callWith pos f first (backTo pos (starEach (e::es) X.env)) (backToKw pos (keywordEach [] X.env))):=by rfl) :
  PE X (.Call (.Attribute o m apos) (e::es) [] pos) (AN C m sp dvs E ta t):=by
 intro pins s σ H Q I h
 refine W.methodCall_KW (pl:=pl) (thn (he pins s σ H _ I h) fun u s1 ⟨x,H1,I1,rx,a,dx,fs,ex,ea,l,q⟩=>?_) ht
 subst ex
 obtain rfl:u=Value.ref a:=rx
 refine l0 I1 ea c hm l ?_
 refine W.callWith_K (first:=[.ref a]) (h₀:=X.base) I.ok.mod.kin hm.kp (thn (ha pos pins s1 σ H1 _ I1 q) fun us s2 ⟨vs,H2,I2,r,q2⟩=>⟨I2.kIn,?_⟩) hst hpl
 exact vX (us:=.ref a::us) (vs:=.ref a::vs) F hr hb hd hx I2 (.cons rfl r) q2
theorem nS{pl:Sem Bool}(he:PE X o ta)(c:Cls X.K C)(hm:vZ X.K C m f)(F:bq X.prog X.w X.K X.mg X.base CX k f fd ps sp)(hr:cG k X.A)(hb:aV X.K fd ps ds)(hd:cw dvs ds)(hx:fX CX X E)
  (ht:eval (.Call (.Attribute o m apos) [] [] pos) X.env=(do
   let ov <-eval o X.env
   standAt apos.atName
   let (f,first) <-holding [ov] (getMethod ov m pl)
   callWith pos f first (backTo pos (starEach [] X.env)) (backToKw pos (keywordEach [] X.env))):=by rfl) :
  PE X (.Call (.Attribute o m apos) [] [] pos) (AN C m sp dvs E ta C5):=by
 intro pins s σ H Q I h
 refine W.methodCall_KW (pl:=pl) (thn (he pins s σ H _ I h) fun u s1 ⟨x,H1,I1,rx,a,dx,fs,ex,ea,l,q⟩=>?_) ht
 subst ex
 obtain rfl:u=Value.ref a:=rx
 refine l0 I1 ea c hm l ?_
 exact W.callWith_K0 (first:=[.ref a]) I1.kIn hm.kp (vX (us:=[.ref a]) (vs:=[.ref a]) F hr hb hd hx I1 (.cons rfl .nil) q)
structure Mk(K:W.Frag)(C f:Addr):Prop where
 makes:W.makesIn K C=true
 init:W.findIn K (.ref C) "__init__"=some (some (.ref f))
 fn:W.isFn K (.ref f)=true
 kp:W.keepIn K (.ref C)=true
theorem wU{pins:List (Addr × Obj)}{σ:St}{H:Hp}{s:Shared}{Q:VK}{us:List Value}{vs:List V}(M:Mk X.K C f)(F:bq X.prog X.w X.K X.mg X.base CX k f fd ps sp)(hr:cG (k+1) X.A)(hb:aV X.K fd ps ds)(hd:cw dvs ds)
  (hx:fX CX X E) (I:Inv X pins σ H s) (r:cw vs us)
  (h:∀x dx,H x=none->H dx=none->dx≠x->sp (.ref x::(vs++dvs)) (upd (upd H dx (.own x)) x (.ins C dx [])) (fun v H2=>v=.non/\Q (.ref x) H2) E) :
  wpAny (model X.prog X.w) X.A (call (.ref C) us) (EP X pins σ Q) X.xe s:=by
 have hq:=h (s.heap.objs.size+1) s.heap.objs.size (I.hok.fresh (Nat.le_succ _)) (I.hok.fresh (Nat.le_refl _)) (Nat.ne_of_lt (Nat.lt_succ_self _))
 have I2:=Inv.made (C:=C) I
 have r2:cw (V.ref (s.heap.objs.size+1)::(vs++dvs)) (Value.ref (s.heap.objs.size+1)::(us++ds)):=.cons rfl (r.append hd)
 have hl:(Value.ref (s.heap.objs.size+1)::us++ds).length=ps.length:=by
  have e:=r2.length
  rw [F.len _ _ _ _ hq] at e
  exact e.symm
 refine wpAny_call (xL (f:=f) I.kIn M.makes M.init (beq_iff_eq.mp M.fn) (codeAny_mono (F.run _ X.stack _ _ ⟨Value.ref (s.heap.objs.size+1)::us,[]⟩ (Value.ref (s.heap.objs.size+1)::(us++ds)) _ _ E (hr.make C us [])
  (I2.env0.make C us []) (hb _ (Value.ref (s.heap.objs.size+1)::us) I2.kIn hl) r2 hq) fun r s' hq'=>?_))
 cases r with
 |error e=>exact hx pins σ _ _ e s' I2 hq'
 |ok fl =>
  cases fl with
  |ret u =>
   obtain⟨v,H',I3,rv,ev,q3⟩:=I2.after hq'
   subst ev
   exact⟨rv,⟨V.ref (s.heap.objs.size+1),H',I3,rfl,q3⟩⟩
  |next=>exact False.elim hq'
  |brk=>exact False.elim hq'
  |cont=>exact False.elim hq'
theorem fU(M:Mk X.K C f)(F:bq X.prog X.w X.K X.mg X.base CX k f fd ps sp)(hr:cG (k+1) X.A)(hg:Gl X x)(hm:X.mg x=some (.ref C))(hb:aV X.K fd ps ds)(hd:cw dvs ds)(hx:fX CX X E)
  (ha:PA X (e::es) t) (hdb:(x==("__debug__":Str))=false:=by decide) (he:starEach (e::es) X.env=(false,eval e X.env)::starEach es X.env:=by rfl) (hpl:(backTo pos (starEach es X.env)).any (·.1)=false:=by rfl) :
  PE X (.Call (.Name x p) (e::es) [] pos) (Ci C sp dvs E t):=by
 intro pins s σ H Q I h
 refine wpAny_Call_Name_kw (gU I hg hm ?_ hdb)
 refine W.callWith_K (h₀:=X.base) I.ok.mod.kin M.kp (thn (ha pos pins s σ H _ I h) fun us s1 ⟨vs,H1,I1,r,q⟩=>⟨I1.kIn,?_⟩) he hpl
 exact wU M F hr hb hd hx I1 r q
end
def PK(X:Cx)(kws:List Keyword)(t:TA):Prop :=
 ∀(pos:Pos) (pins:List (Addr × Obj)) (s:Shared) (σ:St) (H:Hp) (Q:List V->Hp->Prop),Inv X pins σ H s->t σ H Q->wpAny (model X.prog X.w) X.A (evalAll ((backToKw pos (keywordEach kws X.env)).map (·.2))) (AP X pins σ Q) X.xe s
section
variable{X:Cx}{CX:CXT}{k:Nat}{f C:Addr}{fd:FuncData}{ps ks:List Str}{sp:Sp}{E:XK}{x m:Str}{p pos apos kpos:Pos}{e o:Expr}{es:List Expr}{kws:List Keyword}{te ta:TE}{t tk:TA}{nm:Option Str}
structure Dk(K:W.Frag)(fd:FuncData)(ps ks:List Str)(g:List Value->List Value->List Value)(gV:List V->List V->List V):Prop where
 to:∀(s:Shared) (us ws:List Value),K.In s.heap->(g us ws).length=ps.length->BindsTo s fd ⟨us,ks.zip ws⟩ (ps.zip (g us ws))
 rel:∀{vs:List V} {us:List Value} {zs:List V} {ws:List Value},cw vs us->cw zs ws->cw (gV vs zs) (g us ws)
variable{g:List Value->List Value->List Value}{gV:List V->List V->List V}
end
structure aO(N P:List Str)(sc:Scope):Prop where
 kind:sc.kind=.function
 co:sc.isCoroutine=false
 gen:sc.isGenerator=false
 nd:N.Nodup
 pre:N.take P.length=P
 par:∀x∈P,sc.names.lookup x=some .local\/sc.names.lookup x=some .cell
 nofree:∀y∈sc.names,y.2≠.free
theorem oR{kindOf:Str->Option NameKind}{x:Str}:∀{binds:List (Str × Value)} {m:Str->Option Value},(∀v,(x,v)∉binds)->bindL kindOf binds m x=m x
 |[],_,_=>rfl
 |(n,v)::r,m,h=>by
  unfold bindL
  rw [oR fun w hw=>h w (List.mem_cons_of_mem _ hw)]
  split
  ·have:x≠n:=by rintro rfl;exact h v List.mem_cons_self
   simp [this]
  ·rfl
theorem oA{kindOf:Str->Option NameKind}{x:Str}:∀{binds:List (Str × Value)} {m:Str->Option Value},(∀v,(x,v)∉binds)->bindC kindOf binds m x=m x
 |[],_,_=>rfl
 |(n,v)::r,m,h=>by
  unfold bindC
  rw [oA fun w hw=>h w (List.mem_cons_of_mem _ hw)]
  split
  ·rfl
  ·have:x≠n:=by rintro rfl;exact h v List.mem_cons_self
   simp [this]
theorem o0{kindOf:Str->Option NameKind}{x:Str}{v:Value}:∀{P:List Str} {vs:List Value} {i:Nat} {m:Str->Option Value},P.Nodup->P[i]?=some x->vs[i]?=some v->kindOf x=some .local ->
  bindL kindOf (P.zip vs) m x=some v
 |[],_,_,_,_,h,_,_=>by simp at h
 |_::_,[],_,_,_,_,h,_=>by simp at h
 |p::P,w::vs,0,m,nd,h1,h2,hk=>by
  simp at h1 h2;subst h1;subst h2
  show bindL kindOf ((p,w)::P.zip vs) m p=_
  unfold bindL
  rw [oR fun v hv=>(List.nodup_cons.mp nd).1 (List.of_mem_zip hv).1,if_pos hk]
  simp
 |p::P,w::vs,i+1,m,nd,h1,h2,hk=>by
  show bindL kindOf ((p,w)::P.zip vs) m x=_
  unfold bindL
  exact o0 (i:=i) (List.nodup_cons.mp nd).2 (by simpa using h1) (by simpa using h2) hk
theorem ot{kindOf:Str->Option NameKind}{x:Str}{v:Value}:∀{P:List Str} {vs:List Value} {i:Nat} {m:Str->Option Value},P.Nodup->P[i]?=some x->vs[i]?=some v->kindOf x≠some .local ->
  bindC kindOf (P.zip vs) m x=some v
 |[],_,_,_,_,h,_,_=>by simp at h
 |_::_,[],_,_,_,_,h,_=>by simp at h
 |p::P,w::vs,0,m,nd,h1,h2,hk=>by
  simp at h1 h2;subst h1;subst h2
  show bindC kindOf ((p,w)::P.zip vs) m p=_
  unfold bindC
  rw [oA fun v hv=>(List.nodup_cons.mp nd).1 (List.of_mem_zip hv).1,if_neg hk]
  simp
 |p::P,w::vs,i+1,m,nd,h1,h2,hk=>by
  show bindC kindOf ((p,w)::P.zip vs) m x=_
  unfold bindC
  exact ot (i:=i) (List.nodup_cons.mp nd).2 (by simpa using h1) (by simpa using h2) hk
def start(N:List Str)(vs:List V):St:=vs.map some++List.replicate (N.length - vs.length) none
def ee(CX:CXT)(P:Program)(w:World)(K:W.Frag)(mg:Str->Option Value)(base:Heap)(N:List Str)(qual:Str)(scope:Scope)(f:Addr)(cd:Value)(A:Around)(outer:List Env)(s:Shared)(H:Hp)(E:XK):Cx where
 prog:=P
 w:=w
 K:=K
 mg:=mg
 base:=base
 A:=A.deeper (envOfC qual scope s.heap.objs.size f cd)
 N:=N
 s₀:=s
 H₀:=H
 env:=envOfC qual scope s.heap.objs.size f cd
 outer:=outer
 stack:=envOfC qual scope s.heap.objs.size f cd::outer
 ex:=[]
 calm:=true
 fn:=fun _=>true
 pn:=[]
 xe:=fun e s'=>wpAny (model P w) (A.deeper (envOfC qual scope s.heap.objs.size f cd)) (leaving (envOfC qual scope s.heap.objs.size f cd) e) (fun _ s''=>CX outer H s E e s'') (fun e' s''=>CX outer H s E e' s'') s'
theorem qH{sc:Scope}{n:Nat}{x:Str}(h:sc.names.lookup x=some .cell):∃c,(cellsFrom n sc.names []).lookup x=some c:=by
 have q:=W.cellsFrom_some sc.names n [] (.inl h)
 exact Option.isSome_iff_exists.mp q
theorem tZ{CX:CXT}{P:Program}{w:World}{K:W.Frag}{mg:Str->Option Value}{base:Heap}{N ps:List Str}{qual:Str}{scope:Scope}{f:Addr}{cd:Value}{A:Around}{outer:List Env}{s s1:Shared}{H:Hp}{E:XK}{us:List Value}{vs:List V}
  (S:aO N ps scope) (hd:A.handled=none) (e0:zZ P w K mg base A outer s H) (hl:vs.length=ps.length) (r:cw vs us)
  (x:InCallC s s.heap.objs.size (bindL (envOfC qual scope s.heap.objs.size f cd).kindOf (ps.zip us) fun _=>none) (cellsFrom (s.heap.objs.size+1) scope.names []) (bindC (envOfC qual scope s.heap.objs.size f cd).kindOf (ps.zip us) fun _=>none) s1) :
  Inv (ee CX P w K mg base N qual scope f cd A outer s H E) [] (start N vs) H s1:=by
 have hpl:ps.length<=N.length:=by have:=congrArg List.length S.pre;rw [List.length_take] at this;omega
 obtain⟨h1,tk,rfl,hk⟩:=x.done
 have noA:∀b:Addr,b∉(ee CX P w K mg base N qual scope f cd A outer s H E).ex:=fun b z=>absurd (show b∈([]:List Addr) from z) (by simp)
 refine⟨⟨e0.mod,S.kind,rfl,rfl,Nat.le_refl _,fun y z c h1 h2=>?_,fun y hy=>?_,fun y c _ h=>?_,fun _=>hd,Around.frames_deeper e0.frames,.inr ⟨rfl,rfl⟩,fun b z=>absurd z (noA b),e0.bs,e0.bsz,fun b _ _=>noA b,fun b z=>absurd z (noA b),e0.funs,e0.frf⟩,
  rfl,e0.bare,Un.kept hk,⟨_,x.toInCall.ns,fun i y v h1 h2 h3=>?_⟩,fun y c h=>⟨_,x.cell y c h⟩,e0.hok.fresh (Nat.le_refl _),fun y c h=>?_,fun p hp=>absurd (show p∈([]:List (Addr × Obj)) from hp) (by simp),e0.hok.kept hk,?_⟩
 ·exact name_of_addr x.apart (PySem.mem_of_lookup h1) (PySem.mem_of_lookup h2)
 ·have hy:scope.names.lookup y=some .cell\/scope.names.lookup y=some .free:=hy
  rcases hy with hy|hy
  ·exact qH hy
  ·exact absurd rfl (S.nofree _ (PySem.mem_of_lookup hy))
 ·exact Nat.le_of_lt (x.above y c (PySem.mem_of_lookup h))
 ·have hi:i < vs.length:=by
   unfold start at h2
   by_cases hi:i < vs.length
   ·exact hi
   ·rw [List.getElem?_append_right (by simpa using hi)] at h2
    rw [List.getElem?_replicate] at h2
    split at h2<;>cases h2
  have ha:vs[i]?=some v:=by
   unfold start at h2
   rw [List.getElem?_append_left (by simpa using hi),List.getElem?_map] at h2
   cases e:vs[i]? with
   |none=>rw [e] at h2;cases h2
   |some a=>rw [e] at h2;cases h2;rfl
  obtain⟨u,hu,rv⟩:=r.get ha
  have hp:ps[i]?=some y:=by
   rw [<-S.pre,List.getElem?_take_of_lt (by omega)];exact h1
  have ndP:ps.Nodup:=by rw [<-S.pre];exact S.nd.sublist (List.take_sublist _ _)
  refine⟨u,rv,?_⟩
  rcases S.par y (List.mem_of_getElem? hp) with k|k
  ·exact .inl ⟨k,o0 ndP hp hu k⟩
  ·obtain⟨c,e⟩:=qH (n:=s.heap.objs.size+1) k
   refine .inr ⟨.inl k,c,e,?_⟩
   have q:=x.cell y c e
   rw [ot ndP hp hu (by show scope.names.lookup y≠_;rw [k];decide)] at q
   exact q
 ·exact e0.hok.fresh (Nat.le_of_lt (x.above y c (PySem.mem_of_lookup h)))
 ·unfold start
  show _=N.length
  rw [List.length_append,List.length_map,List.length_replicate]
  omega
theorem y9{CX:CXT}{P:Program}{w:World}{K:W.Frag}{mg:Str->Option Value}{base:Heap}{k:Nat}{f:Addr}{name qual:Str}{params:Arguments}{body:List Stmt}{scope:Scope}{dV kV doc pm cdv ct oc:Value}{an od:Option Addr}
  {osl:Array (Option Value)} {N ps:List Str} {sp:Sp} (lk:K.lookup f=some ⟨oc,od,.func (W.fnOf name qual params body scope dV kV doc pm an cdv ct),osl⟩) (hcd:W.codeIn K cdv qual=true) (S:aO N ps scope)
  (len:∀vs H Q E,sp vs H Q E->vs.length=ps.length)
  (hbody:∀(A:Around) (outer:List Env) (s:Shared) (H:Hp) (vs:List V) (Q:VK) (E:XK),cG k (A.deeper (envOfC qual scope s.heap.objs.size f cdv))->sp vs H Q E ->
   ∃t,PSs (ee CX P w K mg base N qual scope f cdv A outer s H E) body t/\t { nx:=fun _ H'=>Q .non H',rt:=Q } (start N vs) H) :
  bq P w K mg base CX (k+1) f (W.fnOf name qual params body scope dV kV doc pm an cdv ct) ps sp:=by
 refine⟨len,fun A outer s H args us vs Q E hr e0 hb r hsp=>?_⟩
 have hl:=len _ _ _ _ hsp
 have KX:K.In s.heap:=e0.mod.kin.keeps fun b o e=>(e0.bs b o e).1
 have lim:s.heap.NoLimit:=e0.mod.nolimit.keeps fun b o e=>(e0.bs b o e).1
 have hkind:∀y∈ps.zip us,scope.names.lookup y.1=some .local\/(scope.names.lookup y.1=some .cell/\((cellsFrom (s.heap.objs.size+1) scope.names []).lookup y.1).isSome=true):=fun⟨n,v⟩ hy=>by
  rcases S.par n (List.of_mem_zip hy).1 with q|q
  ·exact .inl q
  ·exact .inr ⟨q,W.cellsFrom_some _ _ _ (.inl q)⟩
 refine codeAny_call_function hr.depth (KX _ _ lk) rfl S.co S.gen rfl (W.codeRec_of KX hcd) (hb _ _ _ _ ?_)
 refine wpAny_newFunctionEnv_cells S.kind hkind fun env he s1 x=>?_
 subst he
 refine⟨lim.keeps x.toInCall.keep,codeAny_func ?_⟩
 obtain⟨t,ht,hq⟩:=hbody A outer s H vs Q E (hr.deeper _) hsp
 have I:Inv (ee CX P w K mg base N qual scope f cdv A outer s H E) [] (start N vs) H s1:=tZ S hr.hd e0 hl r x
 refine wpAny_mono (ht [] s1 (start N vs) H _ I hq) (fun fl s' hs=>?_) fun e s' hs=>hs
 have fin:∀{σ':St} {H':Hp} {v:V} {u:Value},Inv (ee CX P w K mg base N qual scope f cdv A outer s H E) [] σ' H' s'->cy v u->Q v H'->CE outer P w H s Q u s' :=
  fun {σ' H' v u} J rv q=>⟨v,H',J.os,J.bare,J.base,J.hok,rv,q⟩
 cases fl with
 |ret u =>
  obtain⟨v,σ',H',J,rv,q⟩:=hs
  exact fin J rv q
 |next =>
  obtain⟨σ',H',J,q⟩:=hs
  exact fin (v:=V.non) (u:=Value.none) J rfl q
 |brk =>
  obtain⟨_,_,_,q⟩:=hs
  exact False.elim q
 |cont =>
  obtain⟨_,_,_,q⟩:=hs
  exact False.elim q
section
variable{X:Cx}{x:Str}{p pos:Pos}{e:Expr}{es:List Expr}{t:TA}{id T:String}{r:List V->Hp->VK->Prop}
def tCB(r:List V->Hp->VK->Prop)(t:TA):TE:=fun σ H Q=>t σ H fun vs H1=>r vs H1 Q
theorem bu(hc:gM X (.builtin id) r)(hg:Gl X x)(hm:X.mg x=none)(hv:bootBuiltins x=some (.builtin id))(ha:PA X (e::es) t) (hn:x≠"__name__":=by decide) (hdb:(x==("__debug__":Str))=false:=by decide)
  (he:starEach (e::es) X.env=(false,eval e X.env)::starEach es X.env:=by rfl) (hpl:(backTo pos (starEach es X.env)).any (·.1)=false:=by rfl):PE X (.Call (.Name x p) (e::es) [] pos) (tCB r t):=by
 intro pins s σ H Q I h
 refine wpAny_Call_Name_kw (qQ I hg hm hv ?_ hn hdb)
 exact PyProof.Rows.callWith_builtin1 (thn (ha pos pins s σ H _ I h) fun us s1 ⟨vs,H1,I1,r1,q1⟩=>hc pins s1 σ H1 vs us Q I1 r1 q1) he hpl
theorem bE(hc:gM X (.type T) r)(hg:Gl X x)(hm:X.mg x=none)(hv:bootBuiltins x=some (.type T))(ha:PA X (e::es) t) (hn:x≠"__name__":=by decide) (hdb:(x==("__debug__":Str))=false:=by decide)
  (he:starEach (e::es) X.env=(false,eval e X.env)::starEach es X.env:=by rfl) (hpl:(backTo pos (starEach es X.env)).any (·.1)=false:=by rfl):PE X (.Call (.Name x p) (e::es) [] pos) (tCB r t):=by
 intro pins s σ H Q I h
 refine wpAny_Call_Name_kw (qQ I hg hm hv ?_ hn hdb)
 exact PyProof.Rows.callWith_type1 (thn (ha pos pins s σ H _ I h) fun us s1 ⟨vs,H1,I1,r1,q1⟩=>hc pins s1 σ H1 vs us Q I1 r1 q1) he hpl
end
end L2
namespace HT
open PySem PyProof.Rows
section
open PySem.SeqAt
open PySem.AutoSeq1 (wpAny_loadPart')
open PySem.MeetsSeq PySem.MeetsSeq2 PySem.MeetsSeq3
end
section
variable{prog:Program}{w:World}{A:Around}{E:Value->Shared->Prop}{s:Shared}
theorem cat_tup{t b:Addr}{vs ws:List Value}{Q:Value->Shared->Prop}(ht:IsTup s.heap t vs.toArray)(hb:IsTup s.heap b ws.toArray)(hv:vs≠[])
  (h1:ws=[]->Q (.ref t) s) (h2:ws≠[]->Q (.ref s.heap.objs.size) { s with heap:=s.heap.push { cls:=.type "tuple",data:=.seq (vs++ws).toArray } })
  (hsz:vs.length+ws.length<=sizeLine):wpAny (model prog w) A (binaryOp .Add (.ref t) (.ref b)) Q E s:=by
 obtain⟨⟨cls,dd,data,sl⟩,ho,hc,n,hd⟩:=id ht
 obtain⟨⟨cls2,dd2,data2,sl2⟩,ho2,hc2,n2,hd2⟩:=id hb
 simp only at hc hd hc2 hd2
 subst hc hd hc2 hd2
 have e:vs.toArray++ws.toArray=(vs++ws).toArray:=by simp
 by_cases hw:ws=[]
 ·exact concat_meets ⟨_,ho,rfl⟩ ⟨_,ho2,rfl⟩ noFill_tuple_add seq_tuple_add PySem.F.slot_tuple_add PySem.F.entry_tuple_add (PySem.F.args_tuple_add_2 _ _)
   (tuple_addW1 t b vs.toArray ws.toArray n n2 dd dd2 sl sl2 (by simpa using hv) (by simp [hw])) ⟨ho,ho2,h1 hw⟩
 ·refine concat_meets ⟨_,ho,rfl⟩ ⟨_,ho2,rfl⟩ noFill_tuple_add seq_tuple_add PySem.F.slot_tuple_add PySem.F.entry_tuple_add (PySem.F.args_tuple_add_2 _ _)
   (tuple_addW2 t b vs.toArray ws.toArray n n2 dd dd2 sl sl2 (by simpa using hv) (by simpa using hw) (by rw [List.size_toArray,List.size_toArray];exact hsz)) ⟨ho,ho2,?_⟩
  rw [e]
  exact h2 hw
def sIx(n d:Nat):Option Int->Nat
 |none=>d
 |some v=>if v < 0 then (v+(n:Int)).toNat else min v.toNat n
end
end HT
namespace L2
open PySem PySem.Spec PyProof.Rows
abbrev TO:=St->Hp->(Option Int->Hp->Prop)->Prop
def PO(X:Cx)(e:Option Expr)(t:TO):Prop :=
 ∀(pins:List (Addr × Obj)) (s:Shared) (σ:St) (H:Hp) (Q:Option Int->Hp->Prop),Inv X pins σ H s->t σ H Q ->
  wpAny (model X.prog X.w) X.A (evalPart e X.env) (fun u s'=>∃o H',Inv X pins σ H' s'/\IsPart u o/\Q o H') X.xe s
def yL:TO:=fun _ H Q=>Q none H
def Ch(t:TE):TO:=fun σ H Q=>t σ H fun x H1=>∃i,x=.int i/\Q (some i) H1
section
variable{X:Cx}{e:Expr}{te:TE}{lo hi:Option Expr}{tl th:TO}{pos p2:Pos}
theorem pN:PO X none yL:=by
 intro pins s σ H Q I h
 rw [evalPart_none]
 exact wpAny_pure ⟨none,H,I,.none,h⟩
theorem qb(h:PE X e te):PO X (some e) (Ch te):=by
 intro pins s σ H Q I hw
 rw [evalPart_some]
 refine thn (h pins s σ H _ I hw) fun u s1 ⟨x,H1,I1,r1,q1⟩=>?_
 obtain⟨i,rfl,q⟩:=q1
 obtain⟨t,rfl⟩:=r1
 exact⟨some i,H1,I1,.int i t,q⟩
def SlR(X:Cx)(r:V->Option Int->Option Int->Hp->VK->Prop):Prop :=
 ∀(pins:List (Addr × Obj)) (s:Shared) (σ:St) (H:Hp) (x:V) (v vl vu:Value) (lo hi:Option Int) (sl:Addr) (Q:VK),Inv X pins σ H s->cy x v->s.heap.IsSliceOf sl vl vu .none->IsPart vl lo->IsPart vu hi->r x lo hi H Q ->
  ∃T id,typeLookup (.type T) "__getitem__"=pure (some (.builtin id))/\s.TypeIs v T/\wpAny (model X.prog X.w) X.A (getItem v (.ref sl)) (EP X pins σ Q) X.xe s
def tSl(r:V->Option Int->Option Int->Hp->VK->Prop)(te:TE)(tl th:TO):TE:=fun σ H Q=>te σ H fun x H1=>tl σ H1 fun l H2=>th σ H2 fun u H3=>r x l u H3 Q
theorem nH{r:V->Option Int->Option Int->Hp->VK->Prop}(hr:SlR X r)(he:PE X e te)(hl:PO X lo tl)(hu:PO X hi th):PE X (.Subscript e (.Slice lo hi none p2) pos) (tSl r te tl th):=by
 intro pins s σ H Q I h
 refine Subscript_ (thn (he pins s σ H _ I h) fun v s1 ⟨x,H1,I1,r1,q1⟩=>?_)
 refine wpAny_Slice (thn (hl pins s1 σ H1 _ I1 q1) fun vl s2 ⟨l,H2,I2,pl,q2⟩=>thn (hu pins s2 σ H2 _ I2 q2) fun vu s3 ⟨u,H3,I3,pu,q3⟩=>?_)
 rw [evalPart_none]
 refine wpAny_pure ?_
 have I4:Inv X pins σ H3 { s3 with heap:=s3.heap.push { cls:=.type "slice",data:=.fields #[vl,vu,.none] } }:=I3.kept (t':=s3.toks) fun b ob q=>Heap.get?_push_of_some _ q
 obtain⟨T,id,hT,ht,hg⟩:=hr pins { s3 with heap:=s3.heap.push { cls:=.type "slice",data:=.fields #[vl,vu,.none] } } σ H3 x v vl vu l u s3.heap.objs.size Q I4 r1 (Heap.IsSliceOf.new ..) pl pu q3
 show wpAny (model X.prog X.w) X.A (subscriptTail e (.Slice lo hi none p2) v (.ref s3.heap.objs.size)) (EP X pins σ Q) X.xe { s3 with heap:=s3.heap.push { cls:=.type "slice",data:=.fields #[vl,vu,.none] } }
 exact tail_any (ops:=[.ref s3.heap.objs.size,v]) ht hT hg (by with_unfolding_all rfl)
def BW(xs:List V)(lo hi:Option Int):List V:=(xs.drop (HT.sIx xs.length 0 lo)).take (HT.sIx xs.length xs.length hi - HT.sIx xs.length 0 lo)
theorem qj(xs:List V)(lo hi:Option Int):(BW xs lo hi).length<=xs.length:=by
 unfold BW
 rw [List.length_take,List.length_drop]
 omega
def Cs(K:W.Frag):R2:=fun x y H Q=>∃a b xs ys,x=.ref a/\y=.ref b/\SqT K H a xs/\SqT K H b ys/\xs≠[]/\xs.length+ys.length<=sizeLine /\
 (ys=[]->Q (.ref a) H)/\(ys≠[]->∀p,H p=none->Q (.ref p) (upd H p (.tup (xs++ys))))
theorem cw.nil_iff{xs:List V}{us:List Value}(r:cw xs us):us=[]↔xs=[]:=by
 cases r with
 |nil=>simp
 |cons _ _=>simp
theorem vQ:OpR X (binaryOp .Add) (Cs X.K):=by
 intro pins s σ H x y v u Q I rx ry h
 obtain⟨a,b,xs,ys,rfl,rfl,ha,hb,hx,hz,q1,q2⟩:=h
 cases rx
 cases ry
 obtain⟨its,r1,p1,_⟩:=I.tuple ha
 obtain⟨its2,r2,p2,_⟩:=I.tuple hb
 refine HT.cat_tup p1 p2 (fun z=>hx (r1.nil_iff.mp z)) (fun z=>⟨.ref a,H,I,rfl,q1 (r2.nil_iff.mp z)⟩) (fun z=>?_) (by rw [<-r1.length,<-r2.length];exact hz)
 refine⟨.ref s.heap.objs.size,_,I.laid (t':=s.toks) (o:=.tup (xs++ys)) (fun b ob q=>Heap.get?_push_of_some _ q) (Nat.le_refl _) ?_,rfl,q2 (fun w=>z (r2.nil_iff.mpr w)) _ (I.hok.fresh (Nat.le_refl _))⟩
 exact⟨by rw [List.length_append];exact hz,_,r1.append r2,IsTup.new _ _⟩
end
def ixN(n:Nat)(i:Int):Option Nat:=if 0<=i then (if i < n then some i.toNat else none) else if -(n:Int)<=i then some (i+n).toNat else none
def atI{α:Type}(xs:List α)(i:Int):Option α:=(ixN xs.length i).bind fun j=>xs[j]?
theorem yG{n:Nat}{i:Int}{j:Nat}(h:ixN n i=some j):seqIndex? i n=some j/\j < n/\-(n:Int)<=i/\i < n:=by
 unfold ixN at h
 by_cases h0:0<=i
 ·rw [if_pos h0] at h
  by_cases h1:i < n
  ·rw [if_pos h1] at h
   have e:i.toNat=j:=Option.some.inj h
   exact⟨by rw [seqIndex_of h0 h1,e],by omega,by omega,h1⟩
  ·rw [if_neg h1] at h;cases h
 ·rw [if_neg h0] at h
  by_cases h1:-(n:Int)<=i
  ·rw [if_pos h1] at h
   have e:(i+n).toNat=j:=Option.some.inj h
   exact⟨by rw [seqIndex_neg (by omega) h1,e],by omega,h1,by omega⟩
  ·rw [if_neg h1] at h;cases h
theorem ql{α:Type}{xs:List α}{i:Int}{v:α}(h:atI xs i=some v):∃j,seqIndex? i xs.length=some j/\xs[j]?=some v/\j < xs.length/\-(xs.length:Int)<=i/\i < xs.length:=by
 unfold atI at h
 cases e:ixN xs.length i with
 |none=>rw [e] at h;cases h
 |some j =>
  rw [e] at h
  obtain⟨h1,h2,h3,h4⟩:=yG e
  exact⟨j,h1,h,h2,h3,h4⟩
theorem nW{α:Type}{xs:List α}{j:Nat}{v:α}(h:xs[j]?=some v):atI xs (j:Int)=some v:=by
 have hj:j < xs.length:=(List.getElem?_eq_some_iff.mp h).1
 have e:ixN xs.length (j:Int)=some j:=by
  unfold ixN
  rw [if_pos (by omega),if_pos (by omega)];simp
 unfold atI;rw [e];exact h
def ub(b:Expr):Prop:=∀o i,subscripted b false o i=operate [o,i] (getItem o i)
def IxR(X:Cx)(r:R2):Prop :=
 ∀(value slice:Expr) (pins:List (Addr × Obj)) (s:Shared) (σ:St) (H:Hp) (x y:V) (v u:Value) (Q:VK),Inv X pins σ H s->cy x v->cy y u->r x y H Q ->
  subscripted slice false v u=operate [v,u] (getItem v u)->wpAny (model X.prog X.w) X.A (subscriptTail value slice v u) (EP X pins σ Q) X.xe s
def MtR(X:Cx)(id:String)(r:V->List V->Hp->VK->Prop):Prop :=
 ∀(pins:List (Addr × Obj)) (s:Shared) (σ:St) (H:Hp) (x:V) (xs:List V) (v:Value) (us:List Value) (Q:VK),Inv X pins σ H s->cy x v->cw xs us->r x xs H Q ->
  wpAny (model X.prog X.w) X.A (call (.builtin id) (v::us)) (EP X pins σ Q) X.xe s
section
variable{X:Cx}{a b:Expr}{ta tb:TE}{pos:Pos}
theorem Cn{r:R2}(hr:IxR X r)(ha:PE X a ta)(hb:PE X b tb)(hs:ub b):PE X (.Subscript a b pos) (tOp r ta tb):=by
 intro pins s σ H Q I h
 exact Subscript_ (Cy ha hb I h fun v u s2 x y H2 I2 rx ry q=>hr a b pins s2 σ H2 x y v u Q I2 rx ry q (hs _ _))
inductive Wg (S:W.Frag->Hp->Addr->List V->Prop) (K:W.Frag) (x y:V) (H:Hp) (Q:VK):Prop
 |mk (p:Addr) (xs:List V) (i:Int) (v:V) (a:x=.ref p) (b:y=.int i) (c:S K H p xs) (d:atI xs i=some v) (q:Q v H)
def DD(K:W.Frag):R2:=fun x y H Q=>Wg SqL K x y H Q
def yH(K:W.Frag):R2:=fun x y H Q=>Wg SqT K x y H Q
def Do:R2:=fun x y H Q=>∃z i c,x=.str z/\y=.int i/\z.length<=sizeLine/\atI z.cps.toList i=some c/\Q (.str ⟨#[c]⟩) H
theorem aw:IxR X (DD X.K):=by
 intro value slice pins s σ H x y v u Q I rx ry h hs
 obtain⟨p,xs,i,z,rfl,rfl,hq,he,q⟩:=h
 cases rx
 obtain⟨t,rfl⟩:=ry
 obtain⟨its,r,pl,hz⟩:=I.list hq
 obtain⟨j,h1,h2,h3,h4,h5⟩:=ql he
 obtain⟨w,ew,rw'⟩:=r.get h2
 have hl:=r.length
 have hn:=rF
 have fin:EP X pins σ Q w s:=⟨z,H,I,rw',q⟩
 by_cases h0:0<=i
 ·have hj:i.toNat=j:=by
   rw [seqIndex_of h0 h5] at h1
   exact Option.some.inj h1
  exact item_listR pl.isList h0 (by omega) (by rw [hj];simpa using ew) fin hs
 ·have hj:(i+(its.toArray.size:Int)).toNat=j:=by
   rw [seqIndex_neg (by omega) h4] at h1
   rw [List.size_toArray,<-hl]
   exact Option.some.inj h1
  exact subscriptTail_builtinR (x:=w) pl.isList.typeIs slot_list_getitem.lookup
   (wpAny_getItem_list_neg (Q:=fun r s'=>r=w/\EP X pins σ Q r s') pl.isList (by omega) (by rw [List.size_toArray]<;>omega) (by omega) (by rw [hj];simpa using ew) ⟨rfl,fin⟩) hs
theorem bj:IxR X (yH X.K):=by
 intro value slice pins s σ H x y v u Q I rx ry h hs
 obtain⟨p,xs,i,z,rfl,rfl,hq,he,q⟩:=h
 cases rx
 obtain⟨t,rfl⟩:=ry
 obtain⟨its,r,pl,hz⟩:=I.tuple hq
 obtain⟨j,h1,h2,h3,h4,h5⟩:=ql he
 obtain⟨w,ew,rw'⟩:=r.get h2
 have hl:=r.length
 have hn:=rF
 have fin:EP X pins σ Q w s:=⟨z,H,I,rw',q⟩
 exact subscriptTail_builtinR (x:=w) pl.typeIs slot_tuple_getitem.lookup
  (getItem_tuple (j:=j) (Q:=fun r s'=>r=w/\EP X pins σ Q r s') pl (by omega) (by omega) (by rw [List.size_toArray,<-hl];exact h1) (by simpa using ew) ⟨rfl,fin⟩) hs
theorem Bv:IxR X Do:=by
 intro value slice pins s σ H x y v u Q I rx ry h hs
 obtain⟨z,i,c,rfl,rfl,hz,he,q⟩:=h
 obtain⟨t,rfl⟩:=rx
 obtain⟨t',rfl⟩:=ry
 obtain⟨j,h1,h2,h3,h4,h5⟩:=ql he
 have hl:z.cps.toList.length=z.length:=by simp [Str.length]
 rw [hl] at h1 h4 h5
 have hn:=rF
 exact tail_any (typeIs_str s z t) slot_str_getitem.lookup (getItem_str (c:=c) (by
  have e1:decide (i < -(2 ^ 63:Int))=false:=decide_eq_false (by omega)
  have e2:decide (i≥2 ^ 63)=false:=decide_eq_false (by omega)
  rw [e1,e2,Bool.or_false]) (by rw [h1];simpa using h2) ⟨.str ⟨#[c]⟩,H,I.tok _,⟨_,rfl⟩,q⟩) hs
theorem o9(lo hi:Option Int)(n:Nat):(sliceBounds lo hi none n).1=((HT.sIx n 0 lo:Nat):Int)/\(sliceBounds lo hi none n).2.1=((HT.sIx n n hi:Nat):Int)/\(sliceBounds lo hi none n).2.2=1:=by
 refine⟨?_,?_,rfl⟩
 ·cases lo with
  |none=>simp [sliceBounds,HT.sIx]
  |some i =>
   simp only [sliceBounds,HT.sIx,Option.getD_none,show(1:Int) > 0 by decide,if_true]
   by_cases h:i < 0
   ·simp only [h,if_true]<;>omega
   ·simp only [h,if_false]<;>omega
 ·cases hi with
  |none=>simp [sliceBounds,HT.sIx]
  |some i =>
   simp only [sliceBounds,HT.sIx,Option.getD_none,show(1:Int) > 0 by decide,if_true]
   by_cases h:i < 0
   ·simp only [h,if_true]<;>omega
   ·simp only [h,if_false]<;>omega
theorem nU(its:List Value)(lo hi:Option Int):slicePick its.toArray lo hi none=((its.drop (HT.sIx its.length 0 lo)).take (HT.sIx its.length its.length hi - HT.sIx its.length 0 lo)).toArray:=by
 obtain⟨h1,h2,h3⟩:=o9 lo hi its.toArray.size
 unfold slicePick
 rw [h1,h2,h3]
 simp only [sliceRange_one,pick_run,List.size_toArray]<;>rfl
def DJ(K:W.Frag):V->Option Int->Option Int->Hp->VK->Prop:=fun x lo hi H Q=>∃a xs,x=.ref a/\SqL K H a xs/\∀p,H p=none->Q (.ref p) (upd H p (.lst (BW xs lo hi)))
theorem pY:SlR X (DJ X.K):=by
 intro pins s σ H x v vl vu lo hi sl Q I rx hs pl pu h
 obtain⟨a,xs,rfl,hx,q⟩:=h
 cases rx
 obtain⟨its,r,ht,hz⟩:=I.list hx
 have hlen:=r.length
 refine⟨"list",_,slot_list_getitem.lookup,ht.isList.typeIs,?_⟩
 refine wpAny_getItem_list_slice ht.isList hs pl pu .none (by simp) ?_ (by rw [List.size_toArray]<;>omega)
 rw [nU,<-hlen]
 refine⟨.ref s.heap.objs.size,_,I.laid (t':=s.toks) (o:=.lst (BW xs lo hi)) (fun b ob q=>Heap.get?_push_of_some _ q) (Nat.le_refl _) ?_,rfl,q _ (I.hok.fresh (Nat.le_refl _))⟩
 exact⟨Nat.le_trans (qj xs lo hi) hz,_,0,(r.drop (HT.sIx xs.length 0 lo)).take (HT.sIx xs.length xs.length hi - HT.sIx xs.length 0 lo),Heap.get?_push_size _ rfl⟩
def mX:V->Bool
 |.non=>true
 |.bl _=>true
 |.int _=>true
 |.str _=>true
 |_=>false
def eqV:V->V->Bool
 |.non,.non=>true
 |.bl a,.bl b=>a==b
 |.bl a,.int b=>(if a then 1 else 0)==b
 |.int a,.bl b=>a==(if b then 1 else 0)
 |.int a,.int b=>a==b
 |.str a,.str b=>a==b
 |_,_=>false
theorem AX{A:Around}{s:Shared}{y x:V}{u v:Value}(ry:cy y u)(rx:cy x v)(fy:mX y=true)(fx:mX x=true):SeqAt.EqAt A s u v (eqV y x):=by
 cases y with
 |non =>
  cases ry
  cases x with
  |non=>cases rx;exact SeqAt.EqAt.same _
  |bl b=>cases rx;exact SeqAt.EqAt.none_bool b
  |int b=>obtain⟨t,rfl⟩:=rx;exact SeqAt.EqAt.none_int b t
  |str b=>obtain⟨t,rfl⟩:=rx;exact SeqAt.EqAt.none_str b t
  |_=>exact absurd (show false=true from fx) Bool.false_ne_true
 |bl a =>
  cases ry
  cases x with
  |non=>cases rx;exact SeqAt.EqAt.bool_none a
  |bl b=>cases rx;exact SeqAt.EqAt.bool_bool a b
  |int b=>obtain⟨t,rfl⟩:=rx;exact SeqAt.EqAt.bool_int a b t
  |str b=>obtain⟨t,rfl⟩:=rx;exact SeqAt.EqAt.bool_str a b t
  |_=>exact absurd (show false=true from fx) Bool.false_ne_true
 |int a =>
  obtain⟨t',rfl⟩:=ry
  cases x with
  |non=>cases rx;exact SeqAt.EqAt.int_none a t'
  |bl b=>cases rx;exact SeqAt.EqAt.int_bool a t' b
  |int b=>obtain⟨t,rfl⟩:=rx;exact SeqAt.EqAt.int_int a t' b t
  |str b=>obtain⟨t,rfl⟩:=rx;exact SeqAt.EqAt.int_str a t' b t
  |_=>exact absurd (show false=true from fx) Bool.false_ne_true
 |str a =>
  obtain⟨t',rfl⟩:=ry
  cases x with
  |non=>cases rx;exact SeqAt.EqAt.str_none a t'
  |bl b=>cases rx;exact SeqAt.EqAt.str_bool a t' b
  |int b=>obtain⟨t,rfl⟩:=rx;exact SeqAt.EqAt.str_int a t' b t
  |str b=>obtain⟨t,rfl⟩:=rx;exact SeqAt.EqAt.str_str a t' b t
  |_=>exact absurd (show false=true from fx) Bool.false_ne_true
 |_=>exact absurd (show false=true from fy) Bool.false_ne_true
def eqU(x:V)(u:Value):Bool:=match u with
 |.none=>eqV .non x
 |.bool b=>eqV (.bl b) x
 |.int i _=>eqV (.int i) x
 |.str z _=>eqV (.str z) x
 |_=>false
theorem yy{x y:V}{u:Value}(r:cy y u)(f:mX y=true):eqU x u=eqV y x:=by
 cases y with
 |non=>cases r;rfl
 |bl b=>cases r;rfl
 |int i=>obtain⟨t,rfl⟩:=r;rfl
 |str z=>obtain⟨t,rfl⟩:=r;rfl
 |_=>exact absurd (show false=true from f) Bool.false_ne_true
theorem pA{x:V}:∀{xs:List V} {us:List Value},cw xs us->xs.all mX=true->us.any (eqU x)=xs.any fun y=>eqV y x
 |_,_,.nil,_=>rfl
 |y::xs,u::us,.cons r t,f=>by
  rw [List.all_cons,Bool.and_eq_true] at f
  rw [List.any_cons,List.any_cons,yy r f.1,pA t f.2]
theorem mY{A:Around}{s:Shared}{x:V}{v:Value}(rx:cy x v)(fx:mX x=true):∀{xs:List V} {us:List Value},cw xs us->xs.all mX=true->∀u∈us,SeqAt.EqAt A s u v (eqU x u)
 |_,_,.nil,_=>fun u hu=>by cases hu
 |y::xs,u::us,.cons r t,f=>fun u' hu=>by
  rw [List.all_cons,Bool.and_eq_true] at f
  rcases List.mem_cons.mp hu with rfl|hu
  ·rw [yy r f.1];exact AX r rx f.1 fx
  ·exact mY rx fx t f.2 u' hu
def inV(x:V)(xs:List V):Bool:=xs.any fun y=>eqV y x
def rIn(K:W.Frag)(neg:Bool):R2:=fun x y H Q=>∃p xs,y=.ref p/\(SqL K H p xs\/SqT K H p xs)/\mX x=true/\xs.all mX=true/\Q (.bl (if neg then !inV x xs else inV x xs)) H
theorem oU:OpR X (compareOp .NotIn) (rIn X.K true):=by
 intro pins s σ H x y v u Q I rx ry h
 obtain⟨p,xs,rfl,hq,fx,fs,q⟩:=h
 cases ry
 rcases hq with hq|hq
 ·obtain⟨its,r,pl,hz⟩:=I.list hq
  refine SeqAt.notIn_listAt (eqU x) pl.isList (fun w hw=>mY rx fx r fs w (by simpa using hw)) ⟨.bl _,H,I,rfl,?_⟩
  rw [show its.toArray.any (eqU x)=its.any (eqU x) by simp,pA r fs]
  exact q
 ·obtain⟨its,r,pl,hz⟩:=I.tuple hq
  refine SeqAt.notIn_tupleAt (eqU x) pl (fun w hw=>mY rx fx r fs w (by simpa using hw)) ⟨.bl _,H,I,rfl,?_⟩
  rw [show its.toArray.any (eqU x)=its.any (eqU x) by simp,pA r fs]
  exact q
theorem cB:gM X (.builtin "len") (fun xs H Q=>∃p ys,xs=[.ref p]/\(SqL X.K H p ys\/SqT X.K H p ys)/\Q (.int ys.length) H):=by
 intro pins s σ H xs us Q I r h
 obtain⟨p,ys,rfl,hq,q⟩:=h
 obtain⟨u,rfl,rx⟩:=nE r
 cases rx
 have hn:=rF
 rcases hq with hq|hq
 ·obtain⟨its,r',pl,hz⟩:=I.list hq
  have hlen:=r'.length
  exact Calls.call_len_list pl.isList (by simp only [List.size_toArray]<;>omega) ⟨.int ys.length,H,I.tok _,⟨s.toks+1,by rw [List.size_toArray,hlen]⟩,q⟩
 ·obtain⟨its,r',pl,hz⟩:=I.tuple hq
  have hlen:=r'.length
  exact len_tuple pl (by simp only [List.size_toArray]<;>omega) ⟨.int ys.length,H,I.tok _,⟨s.toks+1,by rw [List.size_toArray,hlen]⟩,q⟩
theorem dj:gM X (.type "tuple") (fun xs H Q=>∃p ys,xs=[.ref p]/\((SqL X.K H p ys/\∀l,H l=none->Q (.ref l) (upd H l (.tup ys)))\/(SqT X.K H p ys/\Q (.ref p) H))):=by
 intro pins s σ H xs us Q I r h
 obtain⟨p,ys,rfl,h⟩:=h
 obtain⟨u,rfl,rx⟩:=nE r
 cases rx
 rcases h with ⟨hq,q⟩|⟨hq,q⟩
 ·obtain⟨its,r',pl,hz⟩:=I.list hq
  have hlen:=r'.length
  refine call_tuple_list pl.isList (fun h' kp=>?_) (by simp only [List.size_toArray]<;>omega)
  have I1:Inv X pins σ H { s with heap:=h' }:=I.kept (t':=s.toks) kp
  have I2:Inv X pins σ (upd H h'.objs.size (.tup ys)) { s with heap:=h'.push { cls:=.type "tuple",data:=.seq its.toArray } } :=
   I1.laid (t':=s.toks) (fun b o e=>Heap.get?_push_of_some _ e) (Nat.le_refl _) (show cr X.prog X.w _ _ _ (.tup ys) from⟨hz,its,r',IsTup.new _ _⟩)
  exact⟨.ref h'.objs.size,_,I2,rfl,q _ (I1.hok.fresh (Nat.le_refl _))⟩
 ·obtain⟨its,r',pl,hz⟩:=I.tuple hq
  exact call_tuple_same pl ⟨.ref p,H,I,rfl,q⟩
def tyV(K:W.Frag)(T:String)(x:V)(H:Hp):Prop:=match x with
 |.str _=>T="str"
 |.int _=>T="int"
 |.ref p=>(T="list"/\∃xs,SqL K H p xs)\/(T="tuple"/\∃o,K.lookup p=some o/\o.cls=.type "tuple"/\o.dict=none) \/
   (T="dict"/\((∃kvs,H p=some (.dK kvs))\/∃kvs,H p=some (.dT kvs)))\/(T="set"/\∃S n,H p=some (.set S n))
 |_=>False
theorem rE{pins:List (Addr × Obj)}{σ:St}{H:Hp}{s:Shared}{T:String}{x:V}{v:Value}(I:Inv X pins σ H s)(r:cy x v)(ty:tyV X.K T x H) :
  s.TypeIs v T/\∀a,v=.ref a->∃ob,s.heap.get? a=some ob/\ob.dict=none:=by
 cases x with
 |str z =>
  obtain⟨t,rfl⟩:=r
  cases (show T="str" from ty)
  exact⟨typeIs_str s z t,fun _ e=>nomatch e⟩
 |int i =>
  obtain⟨t,rfl⟩:=r
  cases (show T="int" from ty)
  exact⟨typeIs_int s i t,fun _ e=>nomatch e⟩
 |ref p =>
  cases r
  rcases ty with ⟨rfl,xs,hq⟩|⟨rfl,o,hk,hc,hd⟩|⟨rfl,hk⟩|⟨rfl,S,n,hk⟩
  ·obtain⟨its,_,pl,_⟩:=I.list hq
   refine⟨pl.isList.typeIs,fun a e=>?_⟩
   cases e
   obtain⟨o,n,e,c,hd,_⟩:=pl
   exact⟨o,e,hd⟩
  ·refine⟨⟨o,I.kIn p o hk,hc⟩,fun a e=>?_⟩
   cases e
   exact⟨o,I.kIn _ o hk,hd⟩
  ·have z:∃o,s.heap.get? p=some o/\o.ExactDict:=by
    rcases hk with ⟨kvs,hk⟩|⟨kvs,hk⟩
    ·obtain⟨_,_,_,_,o,_,_,e,ex,_⟩:=I.hok p _ hk
     exact⟨o,e,ex⟩
    ·obtain⟨_,_,_,_,o,_,_,e,ex,_⟩:=I.hok p _ hk
     exact⟨o,e,ex⟩
   obtain⟨o,e,ex⟩:=z
   refine⟨⟨o,e,ex.1⟩,fun a e2=>?_⟩
   cases e2
   exact⟨o,e,ex.2.1⟩
  ·obtain⟨o,_,_,_,e,ex,_⟩:=I.hok p _ hk
   refine⟨⟨o,e,ex.1⟩,fun a e2=>?_⟩
   cases e2
   exact⟨o,e,ex.2.1⟩
 |_=>exact False.elim ty
def DG(K:W.Frag)(T:String)(r:V->List V->Hp->VK->Prop)(to:TE):TE:=fun σ H Q=>to σ H fun x H1=>tyV K T x H1/\r x [] H1 Q
structure Wh(K:W.Frag)(T:String)(r:V->List V->Hp->VK->Prop)(t:TA)(x:V)(σ:St)(H:Hp)(Q:VK):Prop where
 h:tyV K T x H
 q:t σ H fun xs H2=>r x xs H2 Q
def tBM(K:W.Frag)(T:String)(r:V->List V->Hp->VK->Prop)(to:TE)(t:TA):TE:=fun σ H Q=>to σ H fun x H1=>Wh K T r t x σ H1 Q
variable{o e:Expr}{es:List Expr}{to:TE}{t:TA}{name:Str}{apos cpos:Pos}{T id:String}{r:V->List V->Hp->VK->Prop}
theorem qJ(pa:PlainAttrs T)(slot:Slot T name id) (hty:typeOf (.builtin id)=pure (.type "method_descriptor")) (hm:MtR X id r) (ho:PE X o to)
  (hbase:attributeBase o name X.env (eval o X.env)=eval o X.env:=by rfl) (hline:(apos.endLine==cpos.line)=true:=by rfl):PE X (.Call (.Attribute o name apos) [] [] cpos) (DG X.K T r to):=by
 intro pins s σ H Q I h
 refine wpAny_Call_method0_late hbase hline (thn (ho pins s σ H _ I h) fun v s1 ⟨x,H1,I1,r1,ty,q1⟩=>?_)
 obtain⟨h1,h2⟩:=rE I1 r1 ty
 exact⟨T,id,pa,slot,hty,h1,h2,Calls.callWith_builtin rfl (PySem.evalArgs_none (hm pins s1 σ H1 x [] v [] Q I1 r1 .nil q1))⟩
theorem sQ(pa:PlainAttrs T)(slot:Slot T name id) (hty:typeOf (.builtin id)=pure (.type "method_descriptor")) (hm:MtR X id r) (ho:PE X o to) (ha:PA X (e::es) t)
  (hbase:attributeBase o name X.env (eval o X.env)=eval o X.env:=by rfl)
  (hfew:((backTo cpos (starEach (e::es) X.env)).all (fun x=>!x.1)&&(backToKw cpos (keywordEach [] X.env)).all (fun x=>x.1.isSome)
   && decide ((e::es).length+([]:List Keyword).length+(if ([]:List Keyword).isEmpty then 0 else 1) < 30))=true:=by rfl)
  (hline:(apos.endLine==cpos.line)=true:=by rfl) (hs:starEach (e::es) X.env=(false,eval e X.env)::starEach es X.env:=by rfl) (hplain:(backTo cpos (starEach es X.env)).any (·.1)=false:=by rfl) :
  PE X (.Call (.Attribute o name apos) (e::es) [] cpos) (tBM X.K T r to t):=by
 intro pins s σ H Q I h
 refine wpAny_Call_method_late hbase hfew hline rfl (thn (ho pins s σ H _ I h) fun v s1 ⟨x,H1,I1,r1,ty,q1⟩=>?_)
 obtain⟨h1,h2⟩:=rE I1 r1 ty
 refine⟨T,id,pa,slot,hty,h1,h2,?_⟩
 have hA:=ha cpos pins s1 σ H1 _ I1 q1
 rw [hs] at hA ⊢
 refine Calls.callWith_builtin (by show(false||(backTo cpos (starEach es X.env)).any (·.1))=false;rw [hplain]<;>rfl) (Calls.evalArgs_plain ?_)
 exact thn hA fun us s2 ⟨vs,H2,I2,r2,q2⟩=>hm pins s2 σ H2 x vs v us Q I2 r1 r2 q2
end
def MtM(X:Cx)(id:String)(r:V->List V->Hp->VK->Prop):Prop :=
 ∀(pins:List (Addr × Obj)) (s:Shared) (σ:St) (H:Hp) (x:V) (xs:List V) (v:Value) (us:List Value) (Q:VK),Inv X pins σ H s->cy x v->cw xs us->r x xs H Q ->
  wpAny (model X.prog X.w) X.A (call (.builtin id) (v::us)) (EP X pins σ Q) X.xe s
theorem cw.one:∀{x:V} {us:List Value},cw [x] us->∃u,us=[u]/\cy x u
 |_,_,.cons r .nil=>⟨_,rfl,r⟩
theorem cw.two:∀{x y:V} {us:List Value},cw [x,y] us->∃u v,us=[u,v]/\cy x u/\cy y v
 |_,_,_,.cons r (.cons q .nil)=>⟨_,_,rfl,r,q⟩
theorem cw.zero:∀{us:List Value},cw [] us->us=[]
 |_,.nil=>rfl
theorem cw.dropLast{xs:List V}{us:List Value}(h:cw xs us):cw xs.dropLast us.dropLast:=by
 induction h with
 |nil=>exact .nil
 |cons r t ih =>
  cases t with
  |nil=>exact .nil
  |cons q t'=>exact .cons r ih
theorem sC{α:Type}(l:List α):l.eraseIdx (l.length - 1)=l.dropLast:=by
 induction l with
 |nil=>rfl
 |cons a r ih =>
  cases r with
  |nil=>rfl
  |cons b r =>
   have e:(a::b::r).length - 1=((b::r).length - 1)+1:=by
    have h1:(a::b::r).length=r.length+2:=rfl
    have h2:(b::r).length=r.length+1:=rfl
    omega
   rw [e,List.eraseIdx_cons_succ,ih]
   all_goals rfl
section
variable{X:Cx}{pins:List (Addr × Obj)}{σ:St}{H:Hp}{s:Shared}{l b:Addr}{xs ys zs:List V}
theorem Inv.lset{its its':List Value}{n:Nat}{f:Array Value->Array Value}{t':Nat}(I:Inv X pins σ H s)(hH:H l=some (.lst xs))
  (e:s.heap.get? l=some { cls:=.type "list",data:=.seq its.toArray n }) (hf:f its.toArray=its'.toArray) (hv:cw ys its') (hz:ys.length<=sizeLine) :
  Inv X pins σ (upd H l (.lst ys)) { s with heap:=s.heap.update l (Obj.mapSeq f),toks:=t' }:=by
 have q:=PySem.IsL.update e f
 rw [hf] at q
 refine I.write (x:=l) (e:=l) (by rw [hH];exact trivial) (.inl rfl) (fun b' u hb hu=>(Heap.get?_update_other s.heap (Obj.mapSeq f) (Ne.symm hb)).trans hu) ⟨_,q⟩ ?_
 exact⟨hz,its',_,hv,q⟩
theorem Inv.lnew{its:List Value}{t':Nat}(I:Inv X pins σ H s)(hv:cw ys its)(hz:ys.length<=sizeLine) :
  Inv X pins σ (upd H s.heap.objs.size (.lst ys)) { s with heap:=s.heap.push { cls:=.type "list",data:=.seq its.toArray },toks:=t' } :=
 I.laid (fun _ _ q=>Heap.get?_push_of_some _ q) (Nat.le_refl _) ⟨hz,its,0,hv,Heap.get?_push_size _ rfl⟩
theorem Inv.fresh(I:Inv X pins σ H s):H s.heap.objs.size=none:=I.hok.fresh (Nat.le_refl _)
theorem Inv.lstM(I:Inv X pins σ H s)(hH:H l=some (.lst xs)):xs.length<=sizeLine/\∃(its:List Value) (n:Nat),cw xs its/\xs.length=its.length/\s.heap.get? l=some { cls:=.type "list",data:=.seq its.toArray n }:=by
 obtain⟨z,its,n,r,e⟩:=I.hok l _ hH
 exact⟨z,its,n,r,r.length,e⟩
end
section
variable{X:Cx}
def zi:V->List V->Hp->VK->Prop:=fun x vs H Q=>∃l xs y,x=.ref l/\vs=[y]/\H l=some (.lst xs)/\xs.length < sizeLine/\Q .non (upd H l (.lst (xs++[y])))
theorem fL:MtM X "list.append" zi:=by
 intro pins s σ H x vs v us Q I rx rv h
 obtain⟨l,xs,y,rfl,rfl,hH,hz,q⟩:=h
 cases rx
 obtain⟨u,rfl,ru⟩:=rv.one
 obtain⟨z,its,n,r,hl,e⟩:=I.lstM hH
 refine call_meets F.slot_list_append ⟨_,e,rfl⟩ F.entry_list_append (F.args_list_append_2 _ _) (PySem.list_append l its.toArray n u (by rw [List.size_toArray];omega)) ⟨e,?_⟩
 refine⟨.non,_,I.lset (its':=its++[u]) hH e (by simp) (r.append (.cons ru .nil)) ?_,rfl,q⟩
 rw [List.length_append,List.length_singleton]
 omega
def DA:V->List V->Hp->VK->Prop:=fun x vs H Q=>∃l xs y,x=.ref l/\vs=[]/\H l=some (.lst xs)/\xs[xs.length - 1]?=some y/\Q y (upd H l (.lst xs.dropLast))
theorem yA:MtM X "list.pop" DA:=by
 intro pins s σ H x vs v us Q I rx rv h
 obtain⟨l,xs,y,rfl,rfl,hH,hy,q⟩:=h
 cases rx
 have hus:=rv.zero
 subst hus
 obtain⟨z,its,n,r,hl,e⟩:=I.lstM hH
 obtain⟨u,hu,ru⟩:=r.get hy
 have hy':its.toArray[its.toArray.size - 1]?=some u:=by
  show its.toArray[its.length - 1]?=some u
  rw [<-Array.getElem?_toList,<-hl]
  exact hu
 refine call_meets F.slot_list_pop ⟨_,e,rfl⟩ F.entry_list_pop (F.args_list_pop_1 _) (MeetsSeq.list_pop_last l its.toArray n u hy' (by rw [List.size_toArray];omega)) ⟨e,?_⟩
 refine⟨y,_,I.lset (its':=its.dropLast) hH e ?_ r.dropLast ?_,ru,q⟩
 ·show its.toArray.eraseIdxIfInBounds (its.toArray.size - 1)=its.dropLast.toArray
  rw [List.size_toArray,List.eraseIdxIfInBounds_toArray,sC]
 ·rw [List.length_dropLast]
  omega
def DB:R2:=fun x y H Q=>∃l b xs zs,x=.ref l/\y=.ref b/\H l=some (.lst xs)/\H b=some (.lst zs)/\xs.length+zs.length<=sizeLine/\∀p,H p=none->Q (.ref p) (upd H p (.lst (xs++zs)))
theorem je:OpR X (binaryOp .Add) DB:=by
 intro pins s σ H x y v u Q I rx ry h
 obtain⟨l,b,xs,zs,rfl,rfl,hH,hB,hz,q⟩:=h
 cases rx
 cases ry
 obtain⟨z,its,n,r,hl,e⟩:=I.lstM hH
 obtain⟨z2,its2,n2,r2,hl2,e2⟩:=I.lstM hB
 refine PySem.P.add_list e e2 ?_ (by rw [List.size_toArray,List.size_toArray];omega)
 have ea:its.toArray++its2.toArray=(its++its2).toArray:=by simp
 rw [ea]
 exact⟨.ref _,_,I.lnew (t':=s.toks) (r.append r2) (by rw [List.length_append];omega),rfl,q _ I.fresh⟩
end
section
variable{prog:Program}{w:World}{A:Around}{E:Value->Shared->Prop}{s:Shared}
end
section
variable{X:Cx}
end
section
variable{κ:Type}[DecidableEq κ]
def dg(kvs:List (κ × V))(k:κ):Option V:=(kvs.find? fun kv=>decide (kv.1=k)).map (·.2)
def bc(kvs:List (κ × V))(k:κ)(v:V):List (κ × V) :=
 if (kvs.any fun kv=>decide (kv.1=k))=true then kvs.map (fun kv=>if kv.1=k then (kv.1,v) else kv) else kvs++[(k,v)]
theorem cZ{p:κ × V}{r:List (κ × V)}{k:κ}(e:p.1=k):dg (p::r) k=some p.2:=by simp [dg,List.find?_cons,e]
theorem dl{p:κ × V}{r:List (κ × V)}{k:κ}(e:¬p.1=k):dg (p::r) k=dg r k:=by simp [dg,List.find?_cons,e]
theorem hZ(k:κ):∀kvs:List (κ × V),(kvs.any fun kv=>decide (kv.1=k))=(dg kvs k).isSome
 |[]=>rfl
 |p::r=>by
  rw [List.any_cons]
  by_cases e:p.1=k
  ·simp only [cZ e,decide_eq_true e,Bool.true_or,Option.isSome_some]
  ·rw [dl e,decide_eq_false e,Bool.false_or];exact hZ k r
theorem rB(k j:κ)(y:V):∀kvs:List (κ × V),dg (kvs.map fun kv=>if kv.1=k then (kv.1,y) else kv) j=(dg kvs j).map fun x=>if j=k then y else x
 |[]=>rfl
 |p::r=>by
  have ih:=rB k j y r
  rw [List.map_cons]
  by_cases h:p.1=k
  ·rw [if_pos h]
   by_cases e:p.1=j
   ·rw [cZ (p:=(p.1,y)) e,cZ e,Option.map_some,if_pos (e.symm.trans h)]
   ·rw [dl (p:=(p.1,y)) e,dl e,ih]
  ·rw [if_neg h]
   by_cases e:p.1=j
   ·rw [cZ (p:=p) e,cZ e,Option.map_some,if_neg (fun z=>h (e.trans z))]
   ·rw [dl (p:=p) e,dl e,ih]
theorem oj(k j:κ)(y:V):∀kvs:List (κ × V),dg kvs k=none->dg (kvs++[(k,y)]) j=if j=k then some y else dg kvs j
 |[],_=>by
  by_cases e:k=j
  ·rw [if_pos e.symm];exact cZ (p:=(k,y)) e
  ·rw [if_neg (fun z=>e z.symm)];exact dl (p:=(k,y)) e
 |p::r,hn=>by
  rw [List.cons_append]
  have hk:¬p.1=k:=fun z=>by rw [cZ z] at hn;cases hn
  rw [dl hk] at hn
  have ih:=oj k j y r hn
  by_cases e:p.1=j
  ·rw [cZ e,cZ e,if_neg (fun z=>hk (e.trans z))]
  ·rw [dl e,dl e,ih]
theorem gE(kvs:List (κ × V))(k j:κ)(y:V):dg (bc kvs k y) j=if j=k then some y else dg kvs j:=by
 unfold bc
 by_cases a:(kvs.any fun kv=>decide (kv.1=k))=true
 ·rw [if_pos a,rB]
  rw [hZ] at a
  by_cases e:j=k
  ·obtain⟨x,hx⟩:=Option.isSome_iff_exists.mp a
   rw [if_pos e,e,hx,Option.map_some,if_pos rfl]
  ·rw [if_neg e]
   cases dg kvs j with
   |none=>rfl
   |some x=>rw [Option.map_some,if_neg e]
 ·rw [if_neg a]
  refine oj k j y kvs ?_
  rw [hZ] at a
  cases q:dg kvs k with
  |none=>rfl
  |some x=>rw [q] at a;exact(a rfl).elim
theorem aG(kvs:List (κ × V))(k:κ)(v:V):(bc kvs k v).length<=kvs.length+1:=by
 unfold bc
 split
 ·rw [List.length_map];omega
 ·rw [List.length_append,List.length_cons,List.length_nil];omega
theorem jJ{kvs:List (κ × V)}{k:κ}(v:V)(h:dg kvs k=none):bc kvs k v=kvs++[(k,v)]:=by
 unfold bc
 rw [hZ,h]
 exact if_neg (by decide)
theorem jy.isSome_eq{o:Option V}{u:Option Value}(r:jy o u):o.isSome=u.isSome:=by
 cases o with
 |none=>cases u with
  |none=>rfl
  |some _=>exact(show False from r).elim
 |some _=>cases u with
  |none=>exact(show False from r).elim
  |some _=>rfl
theorem jy.getD{o:Option V}{u:Option Value}{d:V}{d':Value}(r:jy o u)(rd:cy d d'):cy (o.getD d) (u.getD d'):=by
 cases o with
 |none=>cases u with
  |none=>exact rd
  |some _=>exact(show False from r).elim
 |some _=>cases u with
  |none=>exact(show False from r).elim
  |some _=>exact r
theorem KV.val{kvs:List (κ × V)}{vs:List (κ × Value)}(r:KV kvs vs)(k:κ):jy (dg kvs k) (valueAt vs k):=by
 unfold KV at r
 induction r with
 |nil=>exact True.intro
 |@cons p q ps qs h t ih =>
  obtain⟨h1,h2⟩:=h
  by_cases e:p.1=k
  ·have e':q.1=k:=h1.symm.trans e
   have b:valueAt (q::qs) k=some q.2:=by simp [valueAt,List.find?_cons,e']
   rw [cZ e,b];exact h2
  ·have e':¬q.1=k:=fun z=>e (h1.trans z)
   have b:valueAt (q::qs) k=valueAt qs k:=by simp [valueAt,List.find?_cons,e']
   rw [dl e,b];exact ih
theorem KV.any{kvs:List (κ × V)}{vs:List (κ × Value)}(r:KV kvs vs)(k:κ):(kvs.any fun kv=>decide (kv.1=k))=vs.any fun kv=>decide (kv.1=k):=by
 unfold KV at r
 induction r with
 |nil=>rfl
 |cons h t ih=>rw [List.any_cons,List.any_cons,ih,h.1]
theorem KV.repl{kvs:List (κ × V)}{vs:List (κ × Value)}(r:KV kvs vs)(k:κ){y:V}{u:Value}(ry:cy y u) :
  KV (kvs.map fun kv=>if kv.1=k then (kv.1,y) else kv) (vs.map fun kv=>if kv.1=k then (kv.1,u) else kv):=by
 unfold KV at r ⊢
 induction r with
 |nil=>exact .nil
 |@cons p q ps qs h t ih =>
  rw [List.map_cons,List.map_cons]
  refine .cons ?_ ih
  obtain⟨h1,h2⟩:=h
  by_cases e:p.1=k
  ·rw [if_pos e,if_pos (h1.symm.trans e)];exact⟨h1,ry⟩
  ·rw [if_neg e,if_neg (fun z=>e (h1.trans z))];exact⟨h1,h2⟩
theorem KV.put{kvs:List (κ × V)}{vs:List (κ × Value)}(r:KV kvs vs)(k:κ){y:V}{u:Value}(ry:cy y u):KV (bc kvs k y) (stored vs k u):=by
 unfold bc stored
 rw [r.any k]
 by_cases e:(vs.any fun kv=>decide (kv.1=k))=true
 ·rw [if_pos e,if_pos e];exact r.repl k ry
 ·rw [if_neg e,if_neg e];exact Paired.snoc r ⟨rfl,ry⟩
theorem KV.length{kvs:List (κ × V)}{vs:List (κ × Value)}(r:KV kvs vs):kvs.length=vs.length:=Paired.length r
end
theorem mD{P:Program}{w:World}{k:Key}{u:Value}(r:cy (kV k) u):(bo P w).is k u=true:=by
 cases k with
 |inl i=>obtain⟨t,e⟩:=(show ∃t,u=Value.int i t from r);subst e;exact pO P w i t
 |inr x=>obtain⟨t,e⟩:=(show ∃t,u=Value.str x t from r);subst e;exact qh P w x t
theorem o6{P:Program}{w:World}:∀{ks:List Key} {us:List Value},cw (ks.map kV) us->ItemsAre (bo P w) ks us
 |[],_,r=>by rw [List.map_nil] at r;cases r;exact .nil
 |k::ks,_,r=>by
  rw [List.map_cons] at r
  cases r with
  |cons h t=>exact .cons (mD h) (o6 t)
abbrev KT(H:Hp):List (List Key × V)->List (List Key × Addr × Value)->Prop:=Paired fun p q=>p.1=q.1/\H q.2.1=some (.tup (p.1.map kV))/\cy p.2 q.2.2
theorem KT.val{H:Hp}{kvs:List (List Key × V)}{xs:List (List Key × Addr × Value)}(r:KT H kvs xs)(k:List Key):jy (dg kvs k) ((atKey xs k).map (·.2)):=by
 induction r with
 |nil=>exact True.intro
 |@cons p q ps qs h t ih =>
  obtain⟨h1,_,h2⟩:=h
  by_cases e:p.1=k
  ·have e':q.1=k:=h1.symm.trans e
   have b:atKey (q::qs) k=some q.2:=by simp [atKey,List.find?_cons,e']
   rw [cZ e,b];exact h2
  ·have e':¬q.1=k:=fun z=>e (h1.trans z)
   have b:atKey (q::qs) k=atKey qs k:=by simp [atKey,List.find?_cons,e']
   rw [dl e,b];exact ih
theorem KT.repl{H:Hp}{kvs:List (List Key × V)}{xs:List (List Key × Addr × Value)}(r:KT H kvs xs)(k:List Key){y:V}{u:Value}(ry:cy y u) :
  KT H (kvs.map fun kv=>if kv.1=k then (kv.1,y) else kv) (xs.map (putAt k u)):=by
 induction r with
 |nil=>exact .nil
 |@cons p q ps qs h t ih =>
  rw [List.map_cons,List.map_cons]
  refine .cons ?_ ih
  obtain⟨h1,h2,h3⟩:=h
  unfold putAt
  by_cases e:p.1=k
  ·rw [if_pos e,if_pos (h1.symm.trans e)];exact⟨h1,h2,ry⟩
  ·rw [if_neg e,if_neg (fun z=>e (h1.trans z))];exact⟨h1,h2,h3⟩
theorem KT.put{H:Hp}{kvs:List (List Key × V)}{xs:List (List Key × Addr × Value)}(r:KT H kvs xs)(k:List Key){b:Addr}{y:V}{u:Value}(hb:H b=some (.tup (k.map kV)))(ry:cy y u) :
  KT H (bc kvs k y) (storedH xs k b u):=by
 have e:(kvs.any fun kv=>decide (kv.1=k))=(atKey xs k).isSome:=by
  rw [hZ,(r.val k).isSome_eq,Option.isSome_map]
 unfold bc storedH
 rw [e]
 by_cases q:(atKey xs k).isSome=true
 ·rw [if_pos q,if_pos q];exact r.repl k ry
 ·rw [if_neg q,if_neg q];exact Paired.snoc r ⟨rfl,hb,ry⟩
theorem KT.keeps{H H':Hp}{kvs:List (List Key × V)}{xs:List (List Key × Addr × Value)}(r:KT H kvs xs)(ht:∀b ys,H b=some (.tup ys)->H' b=some (.tup ys)):KT H' kvs xs :=
 Paired.mapP r fun _ _ z=>⟨z.1,ht _ _ z.2.1,z.2.2⟩
section
variable{P:Program}{w:World}{H:Hp}{h:Heap}{a:Addr}
theorem BH{u:HO}(ok:HOk P w H h)(e:Rd H a u):cr P w H h a u:=e.ok ok
theorem om{kvs:List (Key × V)}(ok:HOk P w H h)(e:Rd H a (.dK kvs)):kvs.length<=sizeLine/\(a==sysModules)=false/\∃vs,KV kvs vs/\h.DictOf (bo P w) a vs :=
 show cr P w H h a (.dK kvs) from BH ok e
theorem oB{kvs:List (Key × V)}(ok:HOk P w H h)(e:H a=some (.dK kvs)):kvs.length<=sizeLine/\(a==sysModules)=false/\∃vs,KV kvs vs/\h.DictOf (bo P w) a vs:=om ok (.inl e)
theorem ja{ks:List Key}(ok:HOk P w H h)(e:H a=some (.tup (ks.map kV))):(tupleKind (bo P w)).is h ks a:=by
 obtain⟨_,its,r,o,h1,h2,n,h3⟩:=(show cr P w H h a (.tup (ks.map kV)) from ok a _ e)
 exact⟨o,its.toArray,n,h1,h2,h3,by simpa using o6 r⟩
theorem oN{kvs:List (List Key × V)}(ok:HOk P w H h)(e:Rd H a (.dT kvs)):kvs.length<=sizeLine/\(a==sysModules)=false /\
  ∃xs,KT H kvs xs/\h.DictOfH (tupleKind (bo P w)) a xs:=by
 obtain⟨z,y,xs,r,o,es,ep,h1,h2,h3,h4,h5⟩:=(show cr P w H h a (.dT kvs) from BH ok e)
 refine⟨z,y,xs,r,o,es,ep,h1,h2,h3,h4,fun x hx=>?_,h5⟩
 have all:∀{l:List (List Key × V)} {m:List (List Key × Addr × Value)},KT H l m->∀x∈m,(tupleKind (bo P w)).is h x.1 x.2.1:=by
  intro l m q
  induction q with
  |nil=>intro x hx;exact nomatch hx
  |@cons p q ps qs hq t ih =>
   intro x hx
   rcases List.mem_cons.mp hx with e|hx
   ·subst e
    exact ja ok (by rw [<-hq.1];exact hq.2.1)
   ·exact ih x hx
 exact all r x hx
theorem Bj{kvs:List (List Key × V)}(ok:HOk P w H h)(e:H a=some (.dT kvs)):kvs.length<=sizeLine/\(a==sysModules)=false /\
  ∃xs,KT H kvs xs/\h.DictOfH (tupleKind (bo P w)) a xs:=oN ok (.inl e)
end
def cT(H:Hp)(a:Addr)(y:V)(r:Option V):Prop :=
 (∃kvs k,Rd H a (.dK kvs)/\y=kV k/\r=dg kvs k)\/∃kvs k b,Rd H a (.dT kvs)/\y=.ref b/\H b=some (.tup (k.map kV))/\r=dg kvs k
def gK(H:Hp)(a:Addr)(y v:V)(H':Hp):Prop :=
 (∃kvs k,H a=some (.dK kvs)/\y=kV k/\kvs.length < sizeLine/\H'=upd H a (.dK (bc kvs k v))) \/
 ∃kvs k b,H a=some (.dT kvs)/\y=.ref b/\H b=some (.tup (k.map kV))/\kvs.length < sizeLine/\H'=upd H a (.dT (bc kvs k v))
theorem cT.k{H:Hp}{a:Addr}{kvs:List (Key × V)}{k:Key}(e:H a=some (.dK kvs)):cT H a (kV k) (dg kvs k):=.inl ⟨kvs,k,.inl e,rfl,rfl⟩
theorem cT.t{H:Hp}{a b:Addr}{kvs:List (List Key × V)}{k:List Key}(e:H a=some (.dT kvs))(eb:H b=some (.tup (k.map kV))):cT H a (.ref b) (dg kvs k):=.inr ⟨kvs,k,b,.inl e,rfl,eb,rfl⟩
theorem gK.k{H:Hp}{a:Addr}{kvs:List (Key × V)}{k:Key}{v:V}(e:H a=some (.dK kvs))(hl:kvs.length < sizeLine):gK H a (kV k) v (upd H a (.dK (bc kvs k v))):=.inl ⟨kvs,k,e,rfl,hl,rfl⟩
theorem gK.t{H:Hp}{a b:Addr}{kvs:List (List Key × V)}{k:List Key}{v:V}(e:H a=some (.dT kvs))(eb:H b=some (.tup (k.map kV)))(hl:kvs.length < sizeLine) :
  gK H a (.ref b) v (upd H a (.dT (bc kvs k v))):=.inr ⟨kvs,k,b,e,rfl,eb,hl,rfl⟩
section
variable{X:Cx}{pins:List (Addr × Obj)}{σ:St}{H:Hp}{s:Shared}{a:Addr}{y v:V}{u r:Value}{o:Option V}{A:Around}{E:Value->Shared->Prop}
theorem Inv.big(I:Inv X pins σ H s):sysModules < s.heap.objs.size:=by
 have h:mainGlobals < s.heap.objs.size:=(I.mod.glob.keeps I.bk).lt
 exact Nat.lt_trans (by decide) h
theorem tU{Q:Value->Shared->Prop}(hu:A.units+1 < cLine)(I:Inv X pins σ H s)(g:cT H a y (some v))(ry:cy y u)(h:∀w' s',Inv X pins σ H s'->cy v w'->Q w' s') :
  wpAny (model X.prog X.w) A (getItem (.ref a) u) Q E s:=by
 rcases g with ⟨kvs,k,e,ey,l⟩|⟨kvs,k,b,e,ey,eb,l⟩
 ·subst ey
  obtain⟨z,hd,vs,rel,dd⟩:=om I.hok e
  obtain⟨w',hw,rw'⟩:=jy.some_of (v:=v) (o:=valueAt vs k) (by rw [l];exact rel.val k)
  exact wpAny_getItem_of (mD ry) dd.mapOf hw (h w' _ (I.tok _) rw')
 ·subst ey
  cases (show u=Value.ref b from ry)
  obtain⟨z,hd,xs,rel,dd⟩:=oN I.hok e
  obtain⟨w',hw,rw'⟩:=jy.some_of (v:=v) (o:=(atKey xs k).map (·.2)) (by rw [l];exact rel.val k)
  obtain⟨p,hp,hp2⟩:=Option.map_eq_some_iff.mp hw
  refine wpAny_getItem_heap (tupleKind_room_in1 hu) (ja I.hok eb) dd hp ?_
  rw [hp2]
  exact h w' _ (I.tok _) rw'
theorem Dp{Q:Value->Shared->Prop}(hu:A.units+1 < cLine)(I:Inv X pins σ H s)(g:cT H a y o)(ry:cy y u)(h:∀s',Inv X pins σ H s'->Q (.bool o.isSome) s') :
  wpAny (model X.prog X.w) A (compareOp .In u (.ref a)) Q E s:=by
 rcases g with ⟨kvs,k,e,ey,l⟩|⟨kvs,k,b,e,ey,eb,l⟩
 ·subst ey
  obtain⟨z,hd,vs,rel,dd⟩:=om I.hok e
  refine wpAny_in_of (mD ry) hd dd.mapOf ?_
  rw [<-(rel.val k).isSome_eq,<-l]
  exact h _ (I.tok _)
 ·subst ey
  cases (show u=Value.ref b from ry)
  obtain⟨z,hd,xs,rel,dd⟩:=oN I.hok e
  refine wpAny_in_heap (tupleKind_room_in1 hu) (ja I.hok eb) hd dd ?_
  have q:=(rel.val k).isSome_eq
  rw [Option.isSome_map] at q
  rw [<-q,<-l]
  exact h _ (I.tok _)
theorem zf{Q:Value->Shared->Prop}(hu:A.units+1 < cLine)(I:Inv X pins σ H s)(g:cT H a y o)(ry:cy y u)(h:∀s',Inv X pins σ H s'->Q (.bool (!o.isSome)) s') :
  wpAny (model X.prog X.w) A (compareOp .NotIn u (.ref a)) Q E s:=by
 rcases g with ⟨kvs,k,e,ey,l⟩|⟨kvs,k,b,e,ey,eb,l⟩
 ·subst ey
  obtain⟨z,hd,vs,rel,dd⟩:=om I.hok e
  refine wpAny_notIn_of (mD ry) hd dd.mapOf ?_
  rw [<-(rel.val k).isSome_eq,<-l]
  exact h _ (I.tok _)
 ·subst ey
  cases (show u=Value.ref b from ry)
  obtain⟨z,hd,xs,rel,dd⟩:=oN I.hok e
  refine wpAny_notIn_heap (tupleKind_room_in1 hu) (ja I.hok eb) hd dd ?_
  have q:=(rel.val k).isSome_eq
  rw [Option.isSome_map] at q
  rw [<-q,<-l]
  exact h _ (I.tok _)
theorem jS{h':Heap}{t':Nat}{ob:HO}(I:Inv X pins σ H s)(mu:Mut (H a))(hs:Heap.SameBut a s.heap h')(he:∃q,h'.get? a=some q)(new:cr X.prog X.w (upd H a ob) h' a ob) :
  Inv X pins σ (upd H a ob) { s with heap:=h',toks:=t' } :=
 I.write (x:=a) (e:=a) mu (.inl rfl) (fun b q hb z=>(hs.2 b hb).trans z) he new
theorem vM{P:Program}{w:World}{H':Hp}{h':Heap}{kvs:List (Key × V)}{vs:List (Key × Value)}(z:kvs.length<=sizeLine)(hd:(a==sysModules)=false)(rel:KV kvs vs)(dd:h'.DictOf (bo P w) a vs) :
  cr P w H' h' a (.dK kvs):=⟨z,hd,vs,rel,dd⟩
theorem uJ{H':Hp}{Q:Unit->Shared->Prop}(hu:A.units+1 < cLine)(I:Inv X pins σ H s)(g:gK H a y v H')(ry:cy y u)(rv:cy v r)(h:∀s',Inv X pins σ H' s'->Q () s') :
  wpAny (model X.prog X.w) A (setItem (.ref a) u r) Q E s:=by
 rcases g with ⟨kvs,k,e,ey,l,eH⟩|⟨kvs,k,b,e,ey,eb,l,eH⟩
 ·subst ey eH
  obtain⟨z,hd,vs,rel,dd⟩:=oB I.hok e
  have hz:vs.length<=sizeLine:=by rw [<-rel.length];exact z
  have hl:(bc kvs k v).length<=sizeLine:=by have:=aG kvs k v;omega
  refine wpAny_setItem_pairs (hsz:=hz) (mD ry) dd fun h' dd' hs=>h _ ?_
  have he:∃q,h'.get? a=some q:=let ⟨q,_,_,hq,_⟩:=dd';⟨q,hq⟩
  exact jS I (by rw [e];exact True.intro) hs he (vM hl hd (rel.put k rv) dd')
 ·subst ey eH
  cases (show u=Value.ref b from ry)
  obtain⟨z,hd,xs,rel,dd⟩:=Bj I.hok e
  have hz:xs.length<=sizeLine:=by rw [<-Paired.length rel];exact z
  have hl:(bc kvs k v).length<=sizeLine:=by have:=aG kvs k v;omega
  refine wpAny_setItem_heap (hsz:=hz) (tupleKind_room_in1 hu) (ja I.hok eb) dd fun h' dd' hs=>h _ ?_
  obtain⟨q,es,ep,hq,h2,h3,h4,_,h5⟩:=dd'
  refine jS I (by rw [e];exact True.intro) hs ⟨q,hq⟩ ⟨hl,hd,_,(rel.put k eb rv).keeps fun c ys ec=>?_,q,es,ep,hq,h2,h3,h4,h5⟩
  rw [aj (Ab ec e (fun z=>nomatch z))]
  exact ec
end
section
variable{X:Cx}{pins:List (Addr × Obj)}{σ:St}{H:Hp}{s:Shared}{a:Addr}{kvs:List (Key × V)}{k:Key}{u:Value}{A:Around}{E:Value->Shared->Prop}
end
def C4(i:Expr):Prop:=∀ov iv,subscripted i false ov iv=operate [ov,iv] (getItem ov iv)
theorem Ag{prog:Program}{w:World}{A:Around}{E:Value->Shared->Prop}{s:Shared}{env:Env}{value slice:Expr}{pos:Pos}{T id:String}{Q:Value->Shared->Prop}
  (hl:typeLookup (.type T) "__getitem__"=pure (some (.builtin id))) (hs:C4 slice)
  (h:wpAny (model prog w) A (eval value env) (fun o s₁=>wpAny (model prog w) A (eval slice env) (fun i s₂=>s₂.TypeIs o T/\wpAny (model prog w) A (getItem o i) Q E s₂) E s₁) E s) :
  wpAny (model prog w) A (eval (.Subscript value slice pos) env) Q E s:=by
 refine Subscript_ (wpAny_mono h (fun o s₁ h₁=>wpAny_mono h₁ (fun i s₂ h₂=>?_) fun _ _ x=>x) fun _ _ x=>x)
 obtain⟨hT,h₂⟩:=h₂
 unfold subscriptTail
 refine wpAny_bind ?_
 rw [getitemInPython_of_ne hT.not_modules]
 refine wpAny_bind (wpAny_specialOf hT hl ?_)
 have fin:wpAny (model prog w) A (subscripted slice false o i) (fun r s₃=>wpAny (model prog w) A (letTemporaryGo value o r >>= fun _=>pure r) Q E s₃) E s₂:=by
  rw [hs o i]
  exact wpAny_operating (wpAny_mono h₂ (fun r s₃ h₃=>wpAny_bind (wpAny_letTemporaryGo (wpAny_pure h₃))) fun _ _ x=>x)
 first
  |exact wpAny_pure (wpAny_bind fin)
  |exact wpAny_bind (wpAny_pure (wpAny_bind fin))
  |exact wpAny_bind fin
theorem qv{X:Cx}{pins:List (Addr × Obj)}{σ:St}{H:Hp}{s:Shared}{a:Addr}{y:V}{o:Option V}(I:Inv X pins σ H s)(g:cT H a y o):s.TypeIs (.ref a) "dict":=by
 rcases g with ⟨kvs,k,e,_,_⟩|⟨kvs,k,b,e,_,_,_⟩
 ·obtain⟨_,_,vs,_,dd⟩:=om I.hok e
  exact dd.typeIs
 ·obtain⟨_,_,xs,_,dd⟩:=oN I.hok e
  exact dd.typeIs
def C0(td ty:TE):TE:=fun σ H Q=>td σ H fun x H1=>ty σ H1 fun y H2=>∃a v,x=.ref a/\cT H2 a y (some v)/\Q v H2
def DM(ty td:TE):TE:=fun σ H Q=>ty σ H fun y H1=>td σ H1 fun x H2=>∃a o,x=.ref a/\cT H2 a y o/\Q (.bl o.isSome) H2
def Aa(ty td:TE):TE:=fun σ H Q=>ty σ H fun y H1=>td σ H1 fun x H2=>∃a o,x=.ref a/\cT H2 a y o/\Q (.bl (!o.isSome)) H2
def CC(td ty tv:TE):TS:=fun D σ H=>tv σ H fun v H1=>td σ H1 fun x H2=>ty σ H2 fun y H3=>∃a H4,x=.ref a/\gK H3 a y v H4/\D.nx σ H4
section
variable{X:Cx}{o i e value:Expr}{pos pos' tpos:Pos}{td ty tv:TE}
theorem aJ(hu:X.A.units+1 < cLine)(ho:PE X o td)(hi:PE X i ty)(hs:C4 i):PE X (.Subscript o i pos) (C0 td ty):=by
 intro pins s σ H Q I h
 refine Ag PySem.F.slot_dict_getitem.lookup hs (thn (ho pins s σ H _ I h) fun u s1 ⟨x,H1,I1,rx,q1⟩=>thn (hi pins s1 σ H1 _ I1 q1) fun iv s2 ⟨y,H2,I2,ry,a,v,ex,g,q2⟩=>?_)
 subst ex
 obtain rfl:u=Value.ref a:=rx
 exact⟨qv I2 g,tU hu I2 g ry fun w' s3 I3 rw'=>⟨v,H2,I3,rw',q2⟩⟩
theorem x9(hu:X.A.units+1 < cLine)(hi:PE X i ty)(ho:PE X o td):PC X .In i o (DM ty td):=by
 intro pins s σ H Q I h
 refine thn (hi pins s σ H _ I h) fun iv s1 ⟨y,H1,I1,ry,q1⟩=>thn (ho pins s1 σ H1 _ I1 q1) fun u s2 ⟨x,H2,I2,rx,a,ov,ex,g,q2⟩=>?_
 subst ex
 obtain rfl:u=Value.ref a:=rx
 exact Dp hu I2 g ry fun s3 I3=>⟨.bl ov.isSome,H2,I3,rfl,q2⟩
theorem ik(hu:X.A.units+1 < cLine)(hi:PE X i ty)(ho:PE X o td):PC X .NotIn i o (Aa ty td):=by
 intro pins s σ H Q I h
 refine thn (hi pins s σ H _ I h) fun iv s1 ⟨y,H1,I1,ry,q1⟩=>thn (ho pins s1 σ H1 _ I1 q1) fun u s2 ⟨x,H2,I2,rx,a,ov,ex,g,q2⟩=>?_
 subst ex
 obtain rfl:u=Value.ref a:=rx
 exact zf hu I2 g ry fun s3 I3=>⟨.bl (!ov.isSome),H2,I3,rfl,q2⟩
theorem bw(hu:X.A.units+1 < cLine)(ho:PE X o td)(hi:PE X i ty)(hv:PE X value tv)(hs:swapsWith value (some (.Subscript o i pos')) pos.line X.env=pure false) :
  PS X (.Assign [.Subscript o i pos'] value pos) (CC td ty tv):=by
 intro pins s σ H D I h
 refine wpAny_Assign_Subscript (thn (hv pins s σ H _ I h) fun r s1 ⟨v,H1,I1,rv,q1⟩=>thn (ho pins s1 σ H1 _ I1 q1) fun u s2 ⟨x,H2,I2,rx,q2⟩=>thn (hi pins s2 σ H2 _ I2 q2) fun iv s3 ⟨y,H3,I3,ry,a,H4,ex,g,q3⟩=>?_) hs
 subst ex
 obtain rfl:u=Value.ref a:=rx
 exact uJ hu I3 g ry rv fun s4 I4=>⟨σ,H4,I4,q3⟩
end
theorem mq{P:Program}{w:World}{H:Hp}(h:Heap)(hb:sysModules < h.objs.size):cr P w H (h.push { cls:=.type "dict",data:=.dict #[] }) h.objs.size (.dK []) :=
 ⟨Nat.zero_le _,beq_eq_false_iff_ne.mpr (Ne.symm (Nat.ne_of_lt hb)),[],.nil,Heap.DictOf.new h⟩
theorem qR{P:Program}{w:World}{H:Hp}(h:Heap)(hb:sysModules < h.objs.size):cr P w H (h.push { cls:=.type "dict",data:=.dict #[] }) h.objs.size (.dT []) :=
 ⟨Nat.zero_le _,beq_eq_false_iff_ne.mpr (Ne.symm (Nat.ne_of_lt hb)),[],.nil,_,#[],0,Heap.get?_push_size _ rfl,⟨rfl,rfl,rfl⟩,rfl,rfl,List.nodup_nil⟩
def AS:TE:=fun _ H Q=>∀p,H p=none->Q (.ref p) (upd H p (.dK []))
def Bp:TE:=fun _ H Q=>∀p,H p=none->Q (.ref p) (upd H p (.dT []))
section
variable{X:Cx}{pos:Pos}
theorem gA:PE X (.Dict [] [] pos) AS:=fun pins s σ H Q I h =>
 wpAny_Dict_empty ⟨.ref s.heap.objs.size,_,I.laid (a:=s.heap.objs.size) (o:=.dK []) (t':=s.toks) (fun _ _ q=>Heap.get?_push_of_some _ q) (Nat.le_refl _) (mq s.heap I.big),rfl,h _ (I.hok.fresh (Nat.le_refl _))⟩
theorem jH:PE X (.Dict [] [] pos) Bp:=fun pins s σ H Q I h =>
 wpAny_Dict_empty ⟨.ref s.heap.objs.size,_,I.laid (a:=s.heap.objs.size) (o:=.dT []) (t':=s.toks) (fun _ _ q=>Heap.get?_push_of_some _ q) (Nat.le_refl _) (qR s.heap I.big),rfl,h _ (I.hok.fresh (Nat.le_refl _))⟩
end
def uc:List (TE × TE)->St->Hp->(List (V × V)->Hp->Prop)->Prop
 |[],_,H,Q=>Q [] H
 |(tk,tv)::r,σ,H,Q=>tk σ H fun x H1=>tv σ H1 fun y H2=>uc r σ H2 fun ps H3=>Q ((x,y)::ps) H3
abbrev VV:List (V × V)->List (Value × Value)->Prop:=Paired fun p q=>cy p.1 q.1/\cy p.2 q.2
def PPs(X:Cx)(pos:Pos)(keys:List (Option Expr))(values:List Expr)(trs:List (TE × TE)):Prop :=
 ∀(pins:List (Addr × Obj)) (s:Shared) (σ:St) (H:Hp) (Q:List (V × V)->Hp->Prop),Inv X pins σ H s->uc trs σ H Q ->
  wpAny (model X.prog X.w) X.A (evalPairs (pairTrees keys values X.env pos)) (fun vs s'=>∃ps H',Inv X pins σ H' s'/\VV ps vs/\Q ps H') X.xe s
theorem qc{X:Cx}{pos:Pos}:PPs X pos [] [] []:=fun pins s σ H Q I h=>pairTrees_nil_walk ⟨[],H,I,.nil,h⟩
theorem fT{X:Cx}{pos:Pos}{k v:Expr}{ks:List (Option Expr)}{vs:List Expr}{tk tv:TE}{trs:List (TE × TE)}(hk:PE X k tk)(hv:PE X v tv)(hr:PPs X pos ks vs trs) :
  PPs X pos (some k::ks) (v::vs) ((tk,tv)::trs):=fun pins s σ H Q I h =>
 pairTrees_cons_walk (thn (hk pins s σ H _ I h) fun u s1 ⟨x,H1,I1,rx,q1⟩=>thn (hv pins s1 σ H1 _ I1 q1) fun w2 s2 ⟨y,H2,I2,ry,q2⟩ =>
  thn (hr pins s2 σ H2 _ I2 q2) fun ws s3 ⟨ps,H3,I3,rel,q3⟩=>⟨(x,y)::ps,H3,I3,.cons ⟨rx,ry⟩ rel,q3⟩)
def ed(kvs more:List (Key × V)):List (Key × V):=more.foldl (fun acc kv=>bc acc kv.1 kv.2) kvs
theorem KV.merge:∀{more:List (Key × V)} {rs:List (Key × Value)} {kvs:List (Key × V)} {vs:List (Key × Value)},KV more rs->KV kvs vs->KV (ed kvs more) (merged vs rs):=by
 intro more rs kvs vs r
 unfold KV at r
 induction r generalizing kvs vs with
 |nil=>intro q;exact q
 |@cons p q ps qs h t ih =>
  intro r0
  have e:KV (bc kvs p.1 p.2) (stored vs q.1 q.2):=by
   have:=r0.put p.1 h.2
   rw [<-h.1];exact this
  exact ih e
theorem fQ:∀(more kvs:List (Key × V)),(ed kvs more).length<=kvs.length+more.length
 |[],kvs=>by show kvs.length<=kvs.length+0;omega
 |p::r,kvs=>by
  have h1:=fQ r (bc kvs p.1 p.2)
  have h2:=aG kvs p.1 p.2
  show(ed (bc kvs p.1 p.2) r).length<=_
  rw [List.length_cons];omega
theorem lQ{P:Program}{w:World}:∀{kvs:List (Key × V)} {ws:List (Value × Value)},VV (kvs.map fun kv=>(kV kv.1,kv.2)) ws->∃rs,Carries (bo P w) ws rs/\KV kvs rs
 |[],_,r=>by rw [List.map_nil] at r;cases r;exact⟨[],True.intro,.nil⟩
 |p::kvs,_,r=>by
  rw [List.map_cons] at r
  cases r with
  |@cons a b as bs h t =>
   obtain⟨rs,c,q⟩:=lQ (P:=P) (w:=w) t
   obtain⟨b1,b2⟩:=b
   exact⟨(p.1,b2)::rs,⟨mD h.1,rfl,c⟩,.cons ⟨rfl,h.2⟩ q⟩
def wj(trs:List (TE × TE)):TE:=fun σ H Q=>∀p,H p=none->uc trs σ (upd H p (.dK [])) fun ps H2=>H2 p=some (.dK [])/\∃kvs:List (Key × V),ps=kvs.map (fun kv=>(kV kv.1,kv.2))/\kvs.length<=15/\Q (.ref p) (upd H2 p (.dK (ed [] kvs)))
theorem pI{X:Cx}{pos:Pos}{keys:List (Option Expr)}{values:List Expr}{trs:List (TE × TE)}(h:PPs X pos keys values trs)(hall:keys.all (·.isSome)=true)(hl:keys.length=values.length)(h0:keys≠[])
  (h15:keys.length<=15):PE X (.Dict keys values pos) (wj trs):=by
 intro pins s σ H Q I q
 have hn:=I.hok.fresh (Nat.le_refl s.heap.objs.size)
 have I1:=I.laid (a:=s.heap.objs.size) (o:=.dK []) (h':=s.heap.push { cls:=.type "dict",data:=.dict #[] }) (t':=s.toks) (fun _ _ q=>Heap.get?_push_of_some _ q) (Nat.le_refl _) (mq s.heap I.big)
 refine wpAny_Dict_walk (knd:=bo X.prog X.w) hall hl h0 h15 (thn (h pins _ σ _ _ I1 (q _ hn)) fun ws s2 ⟨ps,H2,I2,rel,e,kvs,ep,lk,q2⟩=>?_)
 subst ep
 obtain⟨rs,c,rk⟩:=lQ (P:=X.prog) (w:=X.w) rel
 obtain⟨z,hd,vs0,r0,dd⟩:=oB I2.hok e
 cases r0
 refine⟨rs,c,dd,fun h' dd' hs=>⟨.ref s.heap.objs.size,_,?_,rfl,q2⟩⟩
 have hz:(ed [] kvs).length<=sizeLine:=by
  have h1:=fQ kvs []
  rw [List.length_nil] at h1
  rw [sizeLine_eq];omega
 have he:∃q,h'.get? s.heap.objs.size=some q:=let ⟨q,_,_,hq,_⟩:=dd';⟨q,hq⟩
 exact jS I2 (by rw [e];exact True.intro) hs he (vM hz hd (rk.merge .nil) dd')
structure M1(X:Cx)(o:Expr)(m:Str)(apos:Pos)(e:Expr)(cpos:Pos):Prop where
 base:attributeBase o m X.env (eval o X.env)=eval o X.env
 few:((backTo cpos (starEach [e] X.env)).all (fun x=>!x.1)&&(backToKw cpos (keywordEach [] X.env)).all (fun x=>x.1.isSome)
  && decide (([e]:List Expr).length+([]:List Keyword).length+(if ([]:List Keyword).isEmpty then 0 else 1) < 30))=true
 line:(apos.endLine==cpos.line)=true
 trees:backTo cpos (starEach [e] X.env)=[(false,eval e X.env)]
structure M2(X:Cx)(o:Expr)(m:Str)(apos:Pos)(e f:Expr)(cpos:Pos):Prop where
 base:attributeBase o m X.env (eval o X.env)=eval o X.env
 few:((backTo cpos (starEach [e,f] X.env)).all (fun x=>!x.1)&&(backToKw cpos (keywordEach [] X.env)).all (fun x=>x.1.isSome)
  && decide (([e,f]:List Expr).length+([]:List Keyword).length+(if ([]:List Keyword).isEmpty then 0 else 1) < 30))=true
 line:(apos.endLine==cpos.line)=true
 trees:backTo cpos (starEach [e,f] X.env)=[(false,eval e X.env),(false,eval f X.env)]
def IsD(H:Hp)(a:Addr):Prop:=(∃kvs,Rd H a (.dK kvs))\/∃kvs,Rd H a (.dT kvs)
theorem yp{X:Cx}{pins:List (Addr × Obj)}{σ:St}{H:Hp}{s:Shared}{a:Addr}(I:Inv X pins σ H s)(d:IsD H a) :
  s.TypeIs (.ref a) "dict"/\(∀b,Value.ref a=.ref b->∃ob,s.heap.get? b=some ob/\ob.dict=none)/\(a==sysModules)=false:=by
 rcases d with ⟨kvs,e⟩|⟨kvs,e⟩
 ·obtain⟨_,hd,vs,_,dd⟩:=om I.hok e
  refine⟨dd.typeIs,fun b q=>?_,hd⟩
  cases q
  obtain⟨ob,_,_,h1,h2,_⟩:=dd
  exact⟨ob,h1,h2.2.1⟩
 ·obtain⟨_,hd,xs,_,dd⟩:=oN I.hok e
  refine⟨dd.typeIs,fun b q=>?_,hd⟩
  cases q
  obtain⟨ob,_,_,h1,h2,_⟩:=dd
  exact⟨ob,h1,h2.2.1⟩
section
variable{X:Cx}{pins:List (Addr × Obj)}{σ:St}{H:Hp}{s:Shared}{a:Addr}{y d:V}{u r:Value}{o:Option V}{A:Around}{E:Value->Shared->Prop}
theorem BL{Q:Value->Shared->Prop}(hu:A.units+1 < cLine)(I:Inv X pins σ H s)(g:cT H a y o)(ry:cy y u)(h:∀w' s',Inv X pins σ H s'->cy (o.getD .non) w'->Q w' s') :
  wpAny (model X.prog X.w) A (call (.builtin "dict.get") [.ref a,u]) Q E s:=by
 rcases g with ⟨kvs,k,e,ey,l⟩|⟨kvs,k,b,e,ey,eb,l⟩
 ·subst ey
  obtain⟨z,hd,vs,rel,dd⟩:=om I.hok e
  refine call_meetsIn PySem.F.slot_dict_get dd.typeIs PySem.F.entry_dict_get (PySem.F.args_dict_get_2 _ _) (meets_dict_get (bo X.prog X.w) a (mD ry) hd) ⟨_,dd.mapOf,h _ _ (I.tok _) ?_⟩
  rw [l]
  exact(rel.val k).getD rfl
 ·subst ey
  cases (show u=Value.ref b from ry)
  obtain⟨z,hd,xs,rel,dd⟩:=oN I.hok e
  refine call_meetsIn PySem.F.slot_dict_get dd.typeIs PySem.F.entry_dict_get (PySem.F.args_dict_get_2 _ _) (meetsH_dict_get (tupleKind (bo X.prog X.w)) a b hd) ⟨tupleKind_room_in1 hu,k,xs,ja I.hok eb,dd,h _ _ (I.tok _) ?_⟩
  rw [l]
  exact(rel.val k).getD rfl
theorem BQ{Q:Value->Shared->Prop}(hu:A.units+1 < cLine)(I:Inv X pins σ H s)(g:cT H a y o)(ry:cy y u)(rd:cy d r)(h:∀w' s',Inv X pins σ H s'->cy (o.getD d) w'->Q w' s') :
  wpAny (model X.prog X.w) A (call (.builtin "dict.get") [.ref a,u,r]) Q E s:=by
 rcases g with ⟨kvs,k,e,ey,l⟩|⟨kvs,k,b,e,ey,eb,l⟩
 ·subst ey
  obtain⟨z,hd,vs,rel,dd⟩:=om I.hok e
  refine call_meetsIn PySem.F.slot_dict_get dd.typeIs PySem.F.entry_dict_get (PySem.F.args_dict_get_3 _ _ _) (meets_dict_get_default (bo X.prog X.w) a (mD ry) hd r) ⟨_,dd.mapOf,h _ _ (I.tok _) ?_⟩
  rw [l]
  exact(rel.val k).getD rd
 ·subst ey
  cases (show u=Value.ref b from ry)
  obtain⟨z,hd,xs,rel,dd⟩:=oN I.hok e
  refine call_meetsIn PySem.F.slot_dict_get dd.typeIs PySem.F.entry_dict_get (PySem.F.args_dict_get_3 _ _ _) (meetsH_dict_get_default (tupleKind (bo X.prog X.w)) a b hd r) ⟨tupleKind_room_in1 hu,k,xs,ja I.hok eb,dd,h _ _ (I.tok _) ?_⟩
  rw [l]
  exact(rel.val k).getD rd
end
def Bw(td ty:TE):TE:=fun σ H Q=>td σ H fun x H1=>∃a,x=.ref a/\IsD H1 a/\ty σ H1 fun y H2=>∃o,cT H2 a y o/\Q (o.getD .non) H2
def Bm(td ty tx:TE):TE:=fun σ H Q=>td σ H fun x H1=>∃a,x=.ref a/\IsD H1 a/\ty σ H1 fun y H2=>tx σ H2 fun z H3=>∃o,cT H3 a y o/\Q (o.getD z) H3
section
variable{X:Cx}{o e f:Expr}{apos cpos:Pos}{td ty tx:TE}
theorem wV(hu:X.A.units+1 < cLine)(ho:PE X o td)(he:PE X e ty) (m:M1 X o "get" apos e cpos):PE X (.Call (.Attribute o "get" apos) [e] [] cpos) (Bw td ty):=by
 intro pins s σ H Q I h
 refine wpAny_Call_method m.base m.few m.line PySem.F.plainAttrs_dict PySem.F.slot_dict_get PySem.F.type_dict_get (thn (ho pins s σ H _ I h) fun u s1 ⟨x,H1,I1,rx,a,ex,d,q1⟩=>?_)
 subst ex
 obtain rfl:u=Value.ref a:=rx
 obtain⟨t1,t2,_⟩:=yp I1 d
 refine⟨t1,t2,?_⟩
 rw [m.trees]
 refine Calls.callWith_builtin rfl (Calls.evalArgs_plain (Calls.spliced_cons (thn (he pins s1 σ H1 _ I1 q1) fun iv s2 ⟨y,H2,I2,ry,ov,g,q2⟩=>Calls.spliced_nil ?_)))
 exact BL hu I2 g ry fun w' s3 I3 rw'=>⟨_,H2,I3,rw',q2⟩
theorem wY(hu:X.A.units+1 < cLine)(ho:PE X o td)(he:PE X e ty)(hf:PE X f tx) (m:M2 X o "get" apos e f cpos):PE X (.Call (.Attribute o "get" apos) [e,f] [] cpos) (Bm td ty tx):=by
 intro pins s σ H Q I h
 refine wpAny_Call_method m.base m.few m.line PySem.F.plainAttrs_dict PySem.F.slot_dict_get PySem.F.type_dict_get (thn (ho pins s σ H _ I h) fun u s1 ⟨x,H1,I1,rx,a,ex,d,q1⟩=>?_)
 subst ex
 obtain rfl:u=Value.ref a:=rx
 obtain⟨t1,t2,_⟩:=yp I1 d
 refine⟨t1,t2,?_⟩
 rw [m.trees]
 refine Calls.callWith_builtin rfl (Calls.evalArgs_plain (Calls.spliced_cons (thn (he pins s1 σ H1 _ I1 q1) fun iv s2 ⟨y,H2,I2,ry,q2⟩ =>
  Calls.spliced_cons (thn (hf pins s2 σ H2 _ I2 q2) fun fv s3 ⟨z,H3,I3,rz,ov,g,q3⟩=>Calls.spliced_nil ?_))))
 exact BQ hu I3 g ry rz fun w' s4 I4 rw'=>⟨_,H3,I4,rw',q3⟩
end
section
variable{X:Cx}{pins:List (Addr × Obj)}{σ:St}{H:Hp}{s:Shared}{a:Addr}{kvs:List (Key × V)}{A:Around}{E:Value->Shared->Prop}
end
section
variable{X:Cx}{pins:List (Addr × Obj)}{σ:St}{H:Hp}{s:Shared}{a:Addr}{y:V}{u:Value}{A:Around}{E:Value->Shared->Prop}
end
end L2
namespace Att
open PySem PySem.W PySem.Calls PyProof.Rows
theorem j6{P:Params}{h:Heap}:∀(ns:List Int) (vs:List Value),WellAll P h vs (ns.map WData.int)->IntsAre vs ns:=by
 intro ns
 induction ns with
 |nil =>
  intro vs w
  rw [List.map_nil] at w
  cases w
  exact .nil
 |cons n ns ih =>
  intro vs w
  rw [List.map_cons] at w
  cases w with
  |cons a b =>
   cases a
   exact .cons _ _ (ih _ b)
theorem vG{l:OpenLaw}{n:Nat}(hn:l.most=some n){P:Params}{h:Heap}{args:List WData}{vals:List Value}
  (hpre:l.row.toRowW.claim.pre args=true) (hwl:WellAll P h vals args) :
  ∃a vs ns,vals=[Value.ref a]/\args=[WData.list (ns.map WData.int)]/\h.get? a=some { cls:=.type "list",data:=.seq vs.toArray }/\IntsAre vs ns/\ns.length<=n:=by
 have hsh:WShape.hasAll [] args [.list .int]=true:=(pre_splitW hpre).1
 have hc:l.pre.holds [] { args:=args }=true:=(pre_splitW hpre).2
 obtain⟨d,r,rfl,h1,h2⟩:=hasAllW_cons hsh
 obtain rfl:=hasAllW_nil h2
 obtain⟨xs,rfl,h3⟩:=hasW_list h1
 obtain⟨ns,rfl⟩:=items_int h3
 have hlen:ns.length<=n:=by
  unfold OpenLaw.pre at hc
  have h4:(WTm.not (.lt (.lit (.int (n:Int))) (.len (.arg 0)))).holds [] { args:=[.list (ns.map .int)] }=true:=by
   have h4:=(holds_andW hc).1
   rw [hn] at h4
   exact h4
  have h5:=condW_of h4 (w_not (w_lt w_lit (w_len_list (w_arg rfl))))
  rw [List.length_map] at h5
  refine Nat.le_of_not_lt fun q=>?_
  have q':(n:Int) < ((ns.length:Nat):Int):=by omega
  first
   |(rw [decide_eq_true q'] at h5;exact absurd h5 (by decide))
   |(simp at h5;omega)
 cases hwl with
 |cons w1 w2 =>
  cases w2
  cases w1 with
  |list ho hall=>exact⟨_,_,ns,rfl,rfl,ho,j6 ns _ hall,hlen⟩
theorem vm(l:OpenLaw)(args:List WData):l.row.toRowW.claim.post args (.bool true) args=true :=
 postW_of (r:=l.row.toRowW) (X:=(true==true))
  (show WShape.has [] (.bool true) .bool=true by first|rfl|decide|simp [WShape.has,WShape.arms,WShape.armsAll])
  (show(WTm.eq .res (.lit (.bool true))).value [] { args:=args,res:=some (.bool true),after:=args }=some (.bool (true==true)) from w_eq_bool (w_res rfl) w_lit) rfl
theorem attach_call{l:OpenLaw}{n:Nat}{q:Program}{loose:List Str}{XP:(Str->Option Value)->Heap->Prop}{YP:World->Heap->Prop}{d:DefRec}
  (hn:l.most=some n) (hdf:d.params.defaults=[])
  (call:∀(w:World) (s₀ s₁:Shared) (mg mb:Str->Option Value) (fa:Addr) (o:Obj) (pm cd doc:Value) (a:Addr) (vs:List Value) (ns:List Int),
   Ground q loose [] XP w s₀ mg mb s₁.heap->YP w s₁.heap ->
   s₁.heap.get? fa=some o->o.data=.func (docDef d.name d.params d.body d.scope pm cd doc)->s₁.heap.CodeRec cd d.name->mg d.name=some (.ref fa) ->
   s₁.heap.get? a=some { cls:=.type "list",data:=.seq vs.toArray }->IntsAre vs ns->ns.length<=n->s₁.gens=#[] ->
   codeAny (model l.prog w) callerA (.call (.ref fa) ⟨[.ref a],[]⟩) (fun r s'=>r=.ok (.ret (.bool true))/\OldK s₁.heap s'.heap/\s'.os=s₁.os/\AllBare s'.gens) s₁) :
  WalkO q loose XP YP l.row.toRowW d [] (fun f vs=>PySem.call f vs):=by
 intro w s₀ s₁ mg mb G Y fa o pm cd doc dV kV ho hd hcd hD hmg hg args vals as hpre hlay hrd hwl hlo
 obtain rfl:dV=.none:=Dflts.none hD hdf
 obtain rfl:kV=.none:=Dflts.noKw hD
 obtain⟨a,vs,ns,rfl,rfl,hobj,hints,hlen⟩:=vG hn hpre hwl
 refine enter_call (codeAny_mono (call w s₀ s₁ mg mb fa o pm cd doc a vs ns G Y ho (fd_plain hd) hcd hmg hobj hints hlen hg) fun r s' hq=>?_)
 obtain⟨rfl,h2,h3,h4⟩:=hq
 exact⟨.inl ⟨.bool true,.bool true,[],rfl,fun _=>rfl,.bool true,vm l _,fun _=>⟨List.Pairwise.nil,fun _ hm=>(nomatch hm)⟩⟩,h2,h3,h4⟩
section
variable{prog:Program}{w:World}{A:Around}{E:Value->Shared->Prop}{s:Shared}{K:Frag}
def C8(h:Heap)(L d:Addr):List (Addr × Obj):=(List.range h.objs.size).filterMap fun a=>if a=L\/a=d then none else (h.get? a).map fun o=>(a,o)
end
end Att
namespace L2
open PySem PySem.Spec PyProof.Rows
theorem oX:∀{vs:List Value} {ns:List Int},IntsAre vs ns->cw (ns.map V.int) vs
 |_,_,.nil=>.nil
 |_,_,.cons n t h=>.cons ⟨t,rfl⟩ (oX h)
def CJ(H:Hp):Prop:=∀b,H b=none\/∃o xs,H b=some (.frz o (.lst xs))
theorem xB{P:Program}{w:World}{K:W.Frag}{mg mb:Str->Option Value}{CX:CXT}{k:Nat}{fa a:Addr}{fd:FuncData}{x:Str}{sp:Sp}{s₁:Shared}{vs:List Value}{ns:List Int}
  (KX:K.In s₁.heap) (hns:s₁.heap.Ns mainGlobals mg) (hb:s₁.heap.Ns builtinsNs mb) (hbb:∀x:Str,x≠"__name__"->mb x=bootBuiltins x) (hlim:s₁.heap.NoLimit) (hg:s₁.gens=#[])
  (ha:s₁.heap.get? a=some { cls:=.type "list",data:=.seq vs.toArray }) (hi:IntsAre vs ns) (hl:ns.length<=sizeLine) (hr:cG k callerA)
  (F:∀base:Heap,K.In base->base.Ns mainGlobals mg->bq P w K mg base CX k fa fd [x] sp) (hbind:∀(s:Shared) (u:Value),BindsTo s fd ⟨[u],[]⟩ [(x,u)])
  (hsp:∀H:Hp,CJ H->SqL K H a (ns.map V.int)->sp [.ref a] H (fun v _=>v=.bl true) fun _ _ _=>False)
  (hCX:∀H e s',CX [] H s₁ (fun _ _ _=>False) e s'->False) :
  codeAny (model P w) callerA (.call (.ref fa) ⟨[.ref a],[]⟩) (fun r s'=>r=.ok (.ret (.bool true))/\OldK s₁.heap s'.heap/\s'.os=s₁.os/\AllBare s'.gens) s₁:=by
 have rv:=oX hi
 have lenV:=hi.length
 have core:∀H:Hp,CJ H->SqL K H a (ns.map V.int)->HOk P w H s₁.heap->(∀b,H b≠none->b=a)->(H a≠none->K.lookup a=none) ->
   codeAny (model P w) callerA (.call (.ref fa) ⟨[.ref a],[]⟩) (fun r s'=>r=.ok (.ret (.bool true))/\OldK s₁.heap s'.heap/\s'.os=s₁.os/\AllBare s'.gens) s₁:=by
  intro H hO hS hok hA hK
  have base_of:∀{b:Addr} {o:Obj},s₁.heap.get? b=some o->H b=none->(wn s₁.heap H).get? b=some o:=fun e n=>wH e n
  have noA:∀{b:Addr} {o:Obj} {es:Array DictEntry} {ep:Nat},s₁.heap.get? b=some o->o.data=.dict es ep->H b=none:=fun {b o es ep} e d=>by
   cases q:H b with
   |none=>rfl
   |some u =>
    have e':b=a:=hA b (by rw [q];simp)
    subst e'
    rw [ha] at e;cases e
    have d':Data.seq vs.toArray _=Data.dict es ep:=d
    cases d'
  have nsK:∀{b:Addr} {m:Str->Option Value},s₁.heap.Ns b m->(wn s₁.heap H).Ns b m:=fun {b m} ⟨o,es,ep,e,d,r⟩=>⟨o,es,ep,base_of e (noA e d),d,r⟩
  have hKb:K.In (wn s₁.heap H):=fun b o e=>base_of (KX b o e) (by
   cases q:H b with
   |none=>rfl
   |some u =>
    have e':b=a:=hA b (by rw [q];simp)
    subst e'
    rw [hK (by rw [q];simp)] at e;cases e)
  have hM:Mod K mg (wn s₁.heap H):=⟨hKb,nsK hns,⟨mb,nsK hb,hbb⟩,let ⟨mc,h1,h2⟩:=hlim;⟨mc,nsK h1,h2⟩⟩
  have e0:zZ P w K mg (wn s₁.heap H) callerA [] s₁ H:=⟨rfl,hM,fun b o e=>yW e,Nat.le_of_eq (uu _ _),trivial,fun b hb=>absurd (show b∈([]:List Addr) from hb) (by simp),hok,.of_eq hg⟩
  refine codeAny_mono ((F _ hKb (nsK hns)).run callerA [] s₁ H ⟨[.ref a],[]⟩ [.ref a] [.ref a] _ _ hr e0 (hbind s₁ (.ref a)) (.cons rfl .nil) (hsp H hO hS)) fun r s' h=>?_
  cases r with
  |error e=>exact(hCX H e s' h).elim
  |ok fl =>
   cases fl with
   |next=>exact False.elim h
   |brk=>exact False.elim h
   |cont=>exact False.elim h
   |ret u =>
    obtain⟨v,H',os,bare,un,hok',r',q⟩:=h
    have q':v=.bl true:=q
    subst q'
    obtain rfl:u=Value.bool true:=r'
    refine⟨rfl,OldK.of_keep fun b o e=>?_,os,bare⟩
    cases q:H b with
    |none=>exact un.keep b o e q (by intro z;exact absurd (show b∈([]:List Addr) from z) (by simp)) (by simp)
    |some u =>
     rcases hO b with z|⟨ob,xs,z⟩
     ·rw [q] at z;cases z
     ·have z2:=un.frzs b ob _ z
      obtain⟨e1,_⟩:=hok b _ z
      obtain⟨e2,_⟩:=hok' b _ z2
      rw [e] at e1;cases e1
      exact e2
 cases hk:K.lookup a with
 |some o =>
  have e:=KX a o hk
  rw [ha] at e
  cases e
  refine core (fun _=>none) (fun _=>.inl rfl) (.inr ⟨_,vs.toArray,_,hk,rfl,rfl,rfl,by rw [List.size_toArray,lenV];exact hl,by simpa using rv⟩) (fun b u z=>by have z':(none:Option HO)=some u:=z;cases z') (fun b z=>absurd rfl z) fun z=>absurd rfl z
 |none =>
  refine core (fun b=>if b=a then some (.frz { cls:=.type "list",data:=.seq vs.toArray } (.lst (ns.map V.int))) else none) (fun b=>?_) (.inl (.inr ⟨{ cls:=.type "list",data:=.seq vs.toArray },if_pos rfl⟩)) (fun b u z=>?_) (fun b z=>?_) fun _=>hk
  ·by_cases hb:b=a
   ·exact .inr ⟨_,_,if_pos hb⟩
   ·exact .inl (if_neg hb)
  ·by_cases hb:b=a
   ·have z':=(if_pos hb).symm.trans z
    cases z'
    subst hb
    exact⟨ha,by rw [List.length_map];exact hl,vs,_,rv,ha⟩
   ·have z':=(if_neg hb).symm.trans z
    cases z'
  ·by_cases hb:b=a
   ·exact hb
   ·exact absurd (if_neg hb) z
abbrev KOf{K:W.Frag}{h:Heap}(_:K.In h):W.Frag:=K
theorem walk_of{l:W.OpenLaw}{n k:Nat}{q:Program}{loose:List Str}{XP:(Str->Option Value)->Heap->Prop}{YP:World->Heap->Prop}{d:DefRec}{K:Params->W.Frag}{CX:World->CXT}{sp:World->Sp}{x:Str}
  (hn:l.most=some n) (hn2:n<=sizeLine) (hdf:d.params.defaults=[]) (hr:cG k callerA)
  (hY:∀(w:World) (h:Heap),YP w h->(K w.params).In h)
  (F:∀(w:World) (mg:Str->Option Value) (fa:Addr) (h:Heap),(K w.params).In h->h.Ns mainGlobals mg->mg d.name=some (.ref fa) ->
   ∃fd:FuncData,(∀(s:Shared) (u:Value),BindsTo s fd ⟨[u],[]⟩ [(x,u)]) /\
    ∀base:Heap,(K w.params).In base->base.Ns mainGlobals mg->bq l.prog w (K w.params) mg base (CX w) k fa fd [x] (sp w))
  (hsp:∀(w:World) (H:Hp) (a:Addr) (ns:List Int),ns.length<=n->CJ H->SqL (K w.params) H a (ns.map V.int)->sp w [.ref a] H (fun v _=>v=.bl true) fun _ _ _=>False)
  (hCX:∀(w:World) (H:Hp) (s:Shared) (e:Value) (s':Shared),CX w [] H s (fun _ _ _=>False) e s'->False) :
  W.WalkO q loose XP YP l.row.toRowW d [] (fun f vs=>PySem.call f vs):=by
 refine Att.attach_call hn hdf fun w s₀ s₁ mg mb fa o pm cd doc a vs ns G Y ho hd hcd hmg hobj hints hlen hg=>?_
 have KX:=hY w _ Y
 obtain⟨fd,hb,hF⟩:=F w mg fa _ KX G.T.g hmg
 exact xB KX G.T.g G.T.b G.T.builtins G.T.nolimit hg hobj hints (Nat.le_trans hlen hn2) hr hF hb (fun H hO hS=>hsp w H a ns hlen hO hS) fun H e s'=>hCX w H s₁ e s'
def kc(s:Stmt)(j:Nat):Stmt:=match s with
 |.ClassDef _ _ _ body _ _ _ _ _ _ _=>body.getD j (.Pass ⟨0,0,0,0⟩)
 |_=>.Pass ⟨0,0,0,0⟩
def aI(s:Stmt):Arguments:=match s with
 |.FunctionDef _ a _ _ _ _ _ _ _ _=>a
 |_=>{ posonlyargs:=[],args:=[],vararg:=none,kwonlyargs:=[],kw_defaults:=[],kwarg:=none,defaults:=[] }
def ar(s:Stmt):List Stmt:=match s with
 |.FunctionDef _ _ b _ _ _ _ _ _ _=>b
 |_=>[]
def ah(s:Stmt):Scope:=match s with
 |.FunctionDef _ _ _ _ _ _ sc _ _ _=>sc
 |_=>{ kind:=.function,names:=[],isGenerator:=false,isCoroutine:=false }
abbrev CX0:CXT:=fun _ _ _ _ _ _=>False
abbrev E0:XK:=fun _ _ _=>False
theorem bx{X:Cx}:fX CX0 X E0:=fun _ _ _ _ _ _ _ h=>h.elim
structure Fun(K:W.Frag)(x qual:Str)(st:Stmt)(f:Addr)(fd:FuncData):Prop where
 ex:∃(oc:Value) (od:Option Addr) (kV doc pm:Value) (an:Option Addr) (cdv ct:Value) (osl:Array (Option Value)),
  fd=W.fnOf x qual (aI st) (ar st) (ah st) .none kV doc pm an cdv ct/\K.lookup f=some ⟨oc,od,.func fd,osl⟩/\W.codeIn K cdv qual=true
 kp:W.keepIn K (.ref f)=true
section
variable{P:Program}{w:World}{K:W.Frag}{mg:Str->Option Value}{base:Heap}
theorem Fun.ok{x qual:Str}{st:Stmt}{f:Addr}{fd:FuncData}{N ps:List Str}{k:Nat}{sp:Sp}(F:Fun K x qual st f fd)(S:aO N ps (ah st))(len:∀vs H Q E,sp vs H Q E->vs.length=ps.length)
  (hbody:∀(cdv:Value) (A:Around) (outer:List Env) (s:Shared) (H:Hp) (vs:List V) (Q:VK) (E:XK),cG k (A.deeper (envOfC qual (ah st) s.heap.objs.size f cdv))->sp vs H Q E ->
   ∃t,PSs (ee CX0 P w K mg base N qual (ah st) f cdv A outer s H E).nox (ar st) t/\t { nx:=fun _ H'=>Q .non H',rt:=Q } (start N vs) H):bq P w K mg base CX0 (k+1) f fd ps sp:=by
 obtain⟨oc,od,kV,doc,pm,an,cdv,ct,osl,rfl,lk,hcd⟩:=F.ex
 refine y9 lk hcd S len fun A outer s H vs Q E hr hsp=>?_
 obtain⟨t,h,q⟩:=hbody cdv A outer s H vs Q E hr hsp
 exact⟨t,h.nox,q⟩
theorem Fun.binds{x qual:Str}{st:Stmt}{f:Addr}{fd:FuncData}{ps:List Str}(F:Fun K x qual st f fd)
  (h:∀(kV doc pm:Value) (an:Option Addr) (cdv ct:Value) (us:List Value),us.length=ps.length->bindArgs (W.fnOf x qual (aI st) (ar st) (ah st) .none kV doc pm an cdv ct) ⟨us,[]⟩=pure (ps.zip us)):aV K fd ps []:=by
 obtain⟨oc,od,kV,doc,pm,an,cdv,ct,osl,rfl,lk,hcd⟩:=F.ex
 exact .all (h kV doc pm an cdv ct)
theorem bV{x qual:Str}{st:Stmt}{f:Addr}{oc:Value}{od an:Option Addr}{osl:Array (Option Value)}{kV doc pm cdv ct:Value}(l:K.lookup f=some ⟨oc,od,.func (W.fnOf x qual (aI st) (ar st) (ah st) .none kV doc pm an cdv ct),osl⟩)
  (c:W.codeIn K cdv qual=true) (k:W.keepIn K (.ref f)=true):Fun K x qual st f (W.fnOf x qual (aI st) (ar st) (ah st) .none kV doc pm an cdv ct):=⟨⟨oc,od,kV,doc,pm,an,cdv,ct,osl,rfl,l,c⟩,k⟩
end
theorem dY{A:Around}{k:Nat}(hr:cG k A):A.units+1 < cLine:=Nat.lt_of_le_of_lt (Nat.add_le_add_left (by decide:1<=64) _) hr.units
theorem gk{n:Nat}(h:n<=1000):n < sizeLine:=Nat.lt_of_le_of_lt h (by decide)
section
variable{X:Cx}
theorem pv(i:Nat){x:Str}{pos:Pos}(hN:X.N[i]?=some x:=by rfl)(hv:Vis X.env.scope x:=by first|exact Or.inl rfl|exact Or.inr (Or.inl rfl)|exact Or.inr (Or.inr rfl)) (hd:(x==("__debug__":Str))=false:=by decide)
  (hcd:(x==("__classdict__":Str))=false:=by decide):PE X (.Name x pos) (C7 i):=Bi hN hv hd hcd
theorem nV{A B:Prop}(h:B):if false=true then A else B:=by
 rw [if_neg Bool.false_ne_true]
 exact h
theorem qT{A B:Prop}(h:A):if true=true then A else B:=by
 rw [if_pos rfl]
 exact h
theorem dL{c A B:Prop}[Decidable c](h1:c->A)(h2:¬c->B):if c then A else B:=by
 by_cases h:c
 ·rw [if_pos h]
  exact h1 h
 ·rw [if_neg h]
  exact h2 h
theorem Cc{c A B:Prop}[Decidable c](hc:c)(h:B):if (!decide c)=true then A else B:=by
 rw [decide_eq_true hc]
 exact nV h
def aE(H H':Hp):Prop:=∀b o,H b=some o->H' b=some o
theorem aE.refl(H:Hp):aE H H:=fun _ _ h=>h
theorem aE.trans{H H1 H2:Hp}(a:aE H H1)(b:aE H1 H2):aE H H2:=fun c o h=>b c o (a c o h)
theorem aE.free{H H':Hp}(e:aE H H'){l:Addr}(h:H' l=Option.none):H l=Option.none:=by
 cases q:H l with
 |none=>rfl
 |some o =>
  rw [e l o q] at h
  cases h
theorem aE.seq{K:W.Frag}{H H':Hp}{a:Addr}{xs:List V}(e:aE H H')(h:SqL K H a xs):SqL K H' a xs:=by
 rcases h with (h|⟨o,h⟩)|h
 ·exact .inl (.inl (e _ _ h))
 ·exact .inl (.inr ⟨o,e _ _ h⟩)
 ·exact .inr h
end
section
variable{κ:Type}[DecidableEq κ]
end
section
variable{X:Cx}{tg:Expr}
end
abbrev blk(X:Cx)(N':List Str)(sc:Scope)(cl:List (Str × Addr))(s₀:Shared)(H₀:Hp)(C:Addr)(ex:List Addr):Cx :=
 { X with N:=N',s₀:=s₀,H₀:=H₀,env:=compEnvC sc cl C X.env,outer:=X.stack,ex:=ex,fn:=fun _=>false,xe:=fun _ _=>False }
structure iK(X:Cx)(caps:List Str)(sc:Scope)(cl:List (Str × Addr)):Prop where
 kind:sc.kind=.function
 nocell:∀y∈sc.names,y.2≠.cell
 names:∀y∈sc.names,y.2=.local->sc.names.lookup y.1=some .local
 clos:closureFor sc X.env=pure cl
 has:(sc.names.all fun y=>y.2 != .free||(cl.lookup y.1).isSome)=true
 sub:∀y∈cl,X.env.cells.lookup y.1=some y.2
 caps:∀x∈caps,(X.env.kindOf x=some .cell\/X.env.kindOf x=some .free)/\(cl.lookup x).isSome=true/\((relabel sc X.env).names.lookup x=some .cell\/(relabel sc X.env).names.lookup x=some .free)
theorem gW{env:Env}:∀{names:List (Str × NameKind)} {x:Str} {k:NameKind},(names.map fun(n,k)=>if (k==NameKind.free&&env.scope.kind==.function&&env.kindOf n==some .cell) then (n,NameKind.cell) else (n,k)).lookup x=some k ->
  ∃k',(x,k')∈names/\(k'=k\/k'=.free)
 |[],_,_,h=>by simp at h
 |(n,k0)::r,x,k,h=>by
  have h':List.lookup x ((if (k0==NameKind.free&&env.scope.kind==.function&&env.kindOf n==some .cell)=true then (n,NameKind.cell) else (n,k0))::(r.map fun(n,k)=>if (k==NameKind.free&&env.scope.kind==.function&&env.kindOf n==some .cell) then (n,NameKind.cell) else (n,k)))=some k:=h
  by_cases hx:x=n
  ·subst hx
   refine⟨k0,List.mem_cons_self,?_⟩
   by_cases hc:(k0==NameKind.free&&env.scope.kind==.function&&env.kindOf x==some .cell)=true
   ·have hf:(k0==NameKind.free)=true:=by
     rw [Bool.and_eq_true,Bool.and_eq_true] at hc
     exact hc.1.1
    exact .inr (by cases k0<;>first|rfl|exact absurd hf (by decide))
   ·rw [if_neg hc,List.lookup_cons_self] at h'
    exact .inl (Option.some.inj h')
  ·have hb:(x==n)=false:=beq_eq_false_iff_ne.mpr hx
   have h2:(r.map fun(n,k)=>if (k==NameKind.free&&env.scope.kind==.function&&env.kindOf n==some .cell) then (n,NameKind.cell) else (n,k)).lookup x=some k:=by
    split at h'<;>simpa [List.lookup_cons,hb] using h'
   obtain⟨k',hm,hk⟩:=gW h2
   exact⟨k',List.mem_cons_of_mem _ hm,hk⟩
theorem iK.hasc{X:Cx}{caps:List Str}{sc:Scope}{cl:List (Str × Addr)}(S:iK X caps sc cl){x:Str}(h:(relabel sc X.env).names.lookup x=some .cell\/(relabel sc X.env).names.lookup x=some .free):∃c,cl.lookup x=some c:=by
 have key:(x,NameKind.free)∈sc.names:=by
  rcases h with h|h
  ·obtain⟨k',hm,hk⟩:=gW h
   rcases hk with rfl|rfl
   ·exact absurd rfl (S.nocell _ hm)
   ·exact hm
  ·obtain⟨k',hm,hk⟩:=gW h
   rcases hk with rfl|rfl<;>exact hm
 have q:=List.all_eq_true.mp S.has _ key
 have q2:(cl.lookup x).isSome=true:=by simpa using q
 exact Option.isSome_iff_exists.mp q2
theorem iK.subc{X:Cx}{caps:List Str}{sc:Scope}{cl:List (Str × Addr)}(S:iK X caps sc cl){x:Str}{c:Addr}(h:cl.lookup x=some c):X.env.cells.lookup x=some c:=S.sub _ (PySem.mem_of_lookup h)
def dk(n:Nat)(κ:List Nat)(σ:St):St:=List.replicate n none++κ.map fun k=>(σ[k]?).join
def iL(n:Nat)(κ:List Nat)(g:TG)(tc:TT)(te:TE)(σ:St)(J:It)(H1:Hp)(Q:VK):Prop :=
 ∃W:Nat->Nat->List V->Hp->Prop,(∃m,W 0 m [] H1)/\∀i m ys H2,W i m ys H2 ->
  (J.stop i H2/\∀D,H2 D=none->Q (.ref D) (upd H2 D (.lst ys))) \/
  (J.go i H2/\ys.length < sizeLine/\∀x H3,J.yld i H2 x H3->g x (dk n κ σ) H3 fun σ4 H4=>σ4.drop n=(dk n κ σ).drop n /\
   tc σ4 H4 fun b H5=>if b=true then te σ4 H5 fun v H6=>∃m',m' < m/\W (i+1) m' (ys++[v]) H6 else ∃m',m' < m/\W (i+1) m' ys H5)
def oy(n:Nat)(κ:List Nat)(wi:TI)(g:TG)(tc:TT)(te:TE):TE:=fun σ H Q=>wi σ H fun J H1=>iL n κ g tc te σ J H1 Q
def AL:TT:=fun _ H Q=>Q true H
theorem gj{σ:St}{H:Hp}{A B:Hp->Prop}(h:A H):AL σ H fun b H5=>if b=true then A H5 else B H5:=by
 show(if true=true then A H else B H)
 rw [if_pos rfl]
 exact h
section
variable{X:Cx}{pins:List (Addr × Obj)}{σ:St}{H:Hp}{s:Shared}
theorem Inv.block{caps:List Str}{own:List Str}{κ:List Nat}{sc:Scope}{cl:List (Str × Addr)}{fp:List Addr}{h₁:Heap}{tk:Nat}(S:iK X caps sc cl)(hκ:κ.map (fun k=>X.N[k]?)=caps.map some)(I:Inv X pins σ H s)
  (f2:∀b∈fp,ph X pins H b) (hfp:∀b∈fp,b < s.heap.objs.size)
  {hp:Heap} {ol:Obj} (ehp:hp=s.heap.push ol) (hns:h₁.Ns hp.objs.size fun _=>none) (old:∀b o,hp.get? b=some o->h₁.get? b=some o) :
  Inv (blk X (own++caps) sc cl { s with heap:=hp } H hp.objs.size (s.heap.objs.size::fp)) pins (dk own.length κ σ) H { s with heap:=h₁,toks:=tk }:=by
 have hsz:hp.objs.size=s.heap.objs.size+1:=by rw [ehp,Heap.size_push]
 have up:∀b o,s.heap.get? b=some o->hp.get? b=some o:=fun b o e=>by rw [ehp];exact Heap.get?_push_of_some _ e
 have I3:Inv X pins σ H { s with heap:=hp }:=I.kept (t':=s.toks) up
 have stk:∀b,b≠X.env.locals->b∉X.fs->b∉frs X.stack:=fun b h1 h2 z=>(List.mem_cons.mp (I.stkSub b z)).elim h1 h2
 have dD:s.heap.objs.size≠X.env.locals:=Nat.ne_of_gt I.lt
 have cellLt:∀x c,X.env.cells.lookup x=some c->c < s.heap.objs.size:=fun x c e=>by
  obtain⟨v,q⟩:=I.cell x c e
  exact q.lt
 have ltC:∀b,b < s.heap.objs.size->b≠hp.objs.size:=fun b hb=>by rw [hsz];exact Nat.ne_of_lt (Nat.lt_succ_of_lt hb)
 have cellK:∀c v,s.heap.IsCell c v->h₁.IsCell c v:=fun c v ⟨o,ho,hd⟩=>⟨o,old _ _ (up _ _ ho),hd⟩
 refine⟨⟨I.ok.mod,?_,I.ok.glob,I.ok.blt,Nat.le_refl _,fun x y c h1 h2=>I.ok.inj x y c (S.subc h1) (S.subc h2),fun x h=>S.hasc h,fun _ _ z=>absurd z Bool.false_ne_true,I.ok.hd,I.ok.frames,.inl rfl,fun b hb=>?_,fun b o e=>⟨up _ _ (I.bs b o e).1,(I.bs b o e).2⟩,
   Nat.le_trans (Nat.le_trans I.ok.bsz I.sz) (by show s.heap.objs.size<=hp.objs.size;rw [hsz];exact Nat.le_succ _),fun b o e hb=>?_,fun b hb=>?_,I3.stack,I.stkFree⟩,
  rfl,I.bare,Un.kept old,⟨_,hns,fun i x v e1 e2 e3=>?_⟩,fun x c h=>?_,I.hok.fresh (by rw [hsz];exact Nat.le_succ _),fun x c h=>I.freeC x c (S.subc h),fun p hp'=>?_,I.hok.kept fun b u e=>old _ _ (up _ _ e),?_⟩
 ·show(relabel sc X.env).kind=.function
  exact S.kind
 ·show b≠hp.objs.size/\∀x c,cl.lookup x=some c->c≠b
  rcases List.mem_cons.mp hb with rfl|hb
  ·exact⟨by rw [hsz];exact Nat.ne_of_lt (Nat.lt_succ_self _),fun x c h=>Nat.ne_of_lt (cellLt x c (S.subc h))⟩
  ·exact⟨ltC b (hfp b hb),fun x c h=>(f2 b hb).2.2.2.2.1 x c (S.subc h)⟩
 ·have hlt:b < X.s₀.heap.objs.size:=Nat.lt_of_lt_of_le (Heap.lt_size e) I.ok.bsz
  rcases List.mem_cons.mp hb with rfl|hb
  ·exact absurd (Nat.lt_of_lt_of_le hlt I.sz) (Nat.lt_irrefl _)
  ·rcases (f2 b hb).2.2.2.1 with z|z
   ·exact I.ok.noex b o e z
   ·exact absurd (Nat.lt_of_lt_of_le hlt z) (Nat.lt_irrefl _)
 ·rcases List.mem_cons.mp hb with rfl|hb
  ·exact stk _ dD (I.nofs (Nat.le_refl _))
  ·exact stk _ (f2 b hb).2.1 (f2 b hb).2.2.1
 ·have e1':(own++caps)[i]?=some x:=e1
  have hlen:(List.replicate own.length (none:Option V)).length=own.length:=List.length_replicate
  have hge:own.length<=i:=by
   refine Nat.le_of_not_lt fun hlt=>?_
   unfold dk at e2
   rw [List.getElem?_append_left (by rw [hlen];exact hlt),List.getElem?_replicate,if_pos hlt] at e2
   cases e2
  unfold dk at e2
  rw [List.getElem?_append_right (by rw [hlen];exact hge),hlen,List.getElem?_map] at e2
  rw [List.getElem?_append_right hge] at e1'
  cases ek:κ[i - own.length]? with
  |none=>rw [ek] at e2;cases e2
  |some k =>
   rw [ek] at e2
   have e2':(σ[k]?).join=some v:=Option.some.inj e2
   have e4:σ[k]?=some (some v):=by
    cases eσ:σ[k]? with
    |none=>rw [eσ] at e2';cases e2'
    |some w=>rw [eσ] at e2';exact congrArg some e2'
   have e5:X.N[k]?=some x:=by
    have z:=congrArg (fun l=>l[i - own.length]?) hκ
    simp only [List.getElem?_map,ek,e1',Option.map_some] at z
    exact Option.some.inj z
   obtain⟨c1,c2,c3⟩:=S.caps x (List.mem_of_getElem? e1')
   obtain⟨m,hn,hl⟩:=I.loc
   obtain⟨u,r,l⟩:=hl k x v e5 e4 (c1.elim (fun z=>.inr (.inl z)) fun z=>.inr (.inr z))
   refine⟨u,r,?_⟩
   rcases l with ⟨hk,_⟩|⟨_,c,hc,hcell⟩
   ·rcases c1 with z|z<;>(rw [hk] at z;cases z)
   ·obtain⟨c',hc'⟩:=Option.isSome_iff_exists.mp c2
    have ecc:c'=c:=Option.some.inj ((S.subc hc').symm.trans hc)
    subst ecc
    exact .inr ⟨c3,c',hc',cellK _ _ hcell⟩
 ·obtain⟨v,q⟩:=I.cell x c (S.subc h)
  exact⟨v,cellK c v q⟩
 ·obtain⟨e,n,ne,nf,d⟩:=I.pin p hp'
  exact⟨old _ _ (up _ _ e),n,ltC _ (Heap.lt_size e),stk _ ne nf,d⟩
 ·show(dk own.length κ σ).length=(own++caps).length
  have z:=congrArg List.length hκ
  rw [List.length_map,List.length_map] at z
  unfold dk
  rw [List.length_append,List.length_append,List.length_replicate,List.length_map,z]
theorem Inv.unblock{own caps:List Str}{sc:Scope}{cl:List (Str × Addr)}{fp:List Addr}{H':Hp}{s4:Shared}{σ':St}{pins':List (Addr × Obj)}{hp h':Heap}{ol:Obj}{ys:List V}{its:List Value}{cap:Nat}(I:Inv X pins σ H s)
  (f2:∀b∈fp,ph X pins H b) (ehp:hp=s.heap.push ol)
  (J:Inv (blk X (own++caps) sc cl { s with heap:=hp } H hp.objs.size (s.heap.objs.size::fp)) pins' σ' H' s4)
  (hD:s4.heap.get? s.heap.objs.size=some { cls:=.type "list",data:=.seq its.toArray cap }) (nD:H' s.heap.objs.size=none) (r:cw ys its) (hz:ys.length<=sizeLine) (sb:Heap.SameBut hp.objs.size s4.heap h') :
  Inv X pins σ (upd H' s.heap.objs.size (.lst ys)) { s4 with heap:=h' }:=by
 have hsz:hp.objs.size=s.heap.objs.size+1:=by rw [ehp,Heap.size_push]
 have up:∀b o,s.heap.get? b=some o->hp.get? b=some o:=fun b o e=>by rw [ehp];exact Heap.get?_push_of_some _ e
 have nDs:H s.heap.objs.size=none:=I.hok.fresh (Nat.le_refl _)
 have neD:∀b o,s.heap.get? b=some o->b≠s.heap.objs.size:=fun b o e=>Nat.ne_of_lt (Heap.lt_size e)
 have neC:∀b o,s.heap.get? b=some o->b≠hp.objs.size:=fun b o e=>by rw [hsz];exact Nat.ne_of_lt (Nat.lt_succ_of_lt (Heap.lt_size e))
 have nex:∀b o,s.heap.get? b=some o->b∉fp->b∉s.heap.objs.size::fp:=fun b o e hb z=>(List.mem_cons.mp z).elim (neD b o e) hb
 have u:=J.base
 have hDC:s.heap.objs.size≠hp.objs.size:=by rw [hsz];exact Nat.ne_of_lt (Nat.lt_succ_self _)
 have eD:h'.get? s.heap.objs.size=some { cls:=.type "list",data:=.seq its.toArray cap }:=(sb.2 _ hDC).trans hD
 refine I.call' (ch:=fp) J.os ⟨fun b o e n hb hx=>?_,fun b o e n hb hx=>?_,fun b o e n hx=>?_,fun b o e hx=>?_,fun b xs e=>?_,fun b o x e=>?_,fun b ps e=>?_⟩ (fun b o e=>?_) J.bare fun b hb=>?_
 ·exact(sb.2 b (neC b o e)).trans (u.keep b o (up _ _ e) n hb (nex b o e hx))
 ·obtain⟨sl,q⟩:=u.slot b o (up _ _ e) n hb (nex b o e hx)
  exact⟨sl,(sb.2 b (neC b o e)).trans q⟩
 ·rw [aj (neD b o e)]
  exact u.free b o (up _ _ e) n (nex b o e hx)
 ·obtain⟨o',q⟩:=u.there b o (up _ _ e) (nex b o e hx)
  exact⟨o',(sb.2 b (neC b o e)).trans q⟩
 ·rw [aj (aH e nDs)]
  exact u.tups b xs e
 ·rw [aj (aH e nDs)]
  exact u.frzs b o x e
 ·rw [aj (aH e nDs)]
  exact u.tbls b ps e
 ·by_cases hb:b=s.heap.objs.size
  ·subst hb
   rw [ac] at e
   cases e
   exact⟨hz,its,cap,r,eD⟩
  ·rw [aj hb] at e
   have nC:∀c w,H' c=some w->c≠hp.objs.size:=fun c w q=>aH q J.free
   refine(J.hok b o e).stay (fun c v hc q=>(sb.2 c ?_).trans q) (fun c q=>by rw [aj (aH q nD)];exact q) fun c xs q=>by rw [aj (aH q nD)];exact q
   rcases hc with rfl|hc
   ·exact nC c o e
   ·exact nC c _ hc
 ·obtain⟨_,f1,_,f3,f4,f5⟩:=f2 b hb
  exact⟨f3,f1,f4,f5⟩
end
section
variable{X:Cx}
theorem qF{tg elt iter:Expr}{ifs:List Expr}{own caps:List Str}{κ:List Nat}{sc:Scope}{cl:List (Str × Addr)}{pos:Pos}{wi:TI}{g:TG}{tc:TT}{te:TE}(hcalm:X.calm=true)(S:iK X caps sc cl)(hκ:κ.map (fun k=>X.N[k]?)=caps.map some)
  (hi:PI X tg iter wi) (hg:∀s₀ H₀ C ex,PG (blk X (own++caps) sc cl s₀ H₀ C ex) tg g)
  (hc:∀s₀ H₀ C ex (pins:List (Addr × Obj)) (s:Shared) (σ:St) (H:Hp) (Q:Bool->Hp->Prop),Inv (blk X (own++caps) sc cl s₀ H₀ C ex) pins σ H s->tc σ H Q ->
   wpAny (model X.prog X.w) X.A (forIn ifs true fun c r=>if r=true then do let ok <-isTrue c (compEnvC sc cl C X.env) (eval c (compEnvC sc cl C X.env));pure (ForInStep.yield ok) else pure (ForInStep.yield r)) (TP (blk X (own++caps) sc cl s₀ H₀ C ex) pins σ Q) (fun _ _=>False) s)
  (he:∀s₀ H₀ C ex,PE (blk X (own++caps) sc cl s₀ H₀ C ex) elt te)
  (hs:∀x,foldedSetIterable iter X.env x=pure x:=by intro _;rfl):PE X (.ListComp elt [⟨tg,iter,ifs,0⟩] sc pos) (oy own.length κ wi g tc te):=by
 intro pins s σ H Q I h
 rw [eval_ListComp]
 refine wpAny_comprehension_free (use:=none) rfl hs S.clos S.kind S.names (thn (hi pins s σ H _ I h) fun v s1 h1=>thn h1 fun itv s2 h2=>?_)
 obtain⟨it,fp,tn,J,H2,e,I2,T,st2,f2,W,⟨m0,w0⟩,turn⟩:=h2
 subst e
 have hfp:∀b∈fp,b < s2.heap.objs.size:=fun b hb=>by
  obtain⟨o,e,_⟩:=T.obj _ _ st2 b hb
  exact Heap.lt_size e
 refine wpAny_newObj_type (wpAny_newFunctionEnv S.nocell (fun y hy=>nomatch hy) (fun h₁ hns hsb=>?_) S.kind)
 generalize ehp:s2.heap.push { cls:=.type "list",dict:=none,data:=.seq ([]:List Value).toArray }=hp at hns hsb ⊢
 have hsz:hp.objs.size=s2.heap.objs.size+1:=by rw [<-ehp,Heap.size_push]
 have hDC:s2.heap.objs.size≠hp.objs.size:=by rw [hsz];exact Nat.ne_of_lt (Nat.lt_succ_self _)
 have old:∀b o,hp.get? b=some o->h₁.get? b=some o:=fun b o e=>(hsb.2 b (Nat.ne_of_lt (Heap.lt_size e))).trans (Heap.get?_push_of_some _ e)
 have eD:h₁.get? s2.heap.objs.size=some { cls:=.type "list",data:=.seq ([]:List Value).toArray }:=old _ _ (by rw [<-ehp];exact Heap.get?_push_size _ rfl)
 have I0:=Inv.block (own:=own) (h₁:=h₁) (tk:=s2.toks+([]:List (Str × Value)).length) S hκ I2 f2 hfp ehp.symm hns old
 have stkD:s2.heap.objs.size∉frs X.stack:=fun z=>(List.mem_cons.mp (I2.stkSub _ z)).elim (Nat.ne_of_gt I2.lt) (I2.nofs (Nat.le_refl _))
 have cellD:∀x c,cl.lookup x=some c->c≠s2.heap.objs.size:=fun x c q=>by
  obtain⟨v,z⟩:=I2.cell x c (S.subc q)
  exact Nat.ne_of_lt z.lt
 have pinD:∀p∈X.pn++pins,p.1≠s2.heap.objs.size:=fun p hp=>Nat.ne_of_lt (Heap.lt_size (I2.pin p hp).1)
 have stkF:∀b∈fp,b∉frs X.stack:=fun b hb z=>(List.mem_cons.mp (I2.stkSub _ z)).elim (f2 b hb).2.1 (f2 b hb).2.2.1
 have loop:codeAny (model X.prog X.w) X.A (.compLoop (.ListComp elt [⟨tg,iter,ifs,0⟩] sc pos) 0 (.ref it) (.ref s2.heap.objs.size) (compEnvC sc cl hp.objs.size X.env))
   (compPost (model X.prog X.w) X.A X.xe none (EP X pins σ Q) (.ref s2.heap.objs.size) hp.objs.size) { s2 with heap:=h₁,toks:=s2.toks+([]:List (Str × Value)).length }:=by
  refine codeAny_loop rfl (fun n s'=>∃(i:Nat) (ys:List V) (its:List Value) (cap:Nat) (H':Hp),Inv (blk X (own++caps) sc cl { s2 with heap:=hp } H2 hp.objs.size (s2.heap.objs.size::fp)) pins (dk own.length κ σ) H' s'/\tn i s'.heap/\(∀b∈fp,H' b=none) /\
   s'.heap.get? s2.heap.objs.size=some { cls:=.type "list",data:=.seq its.toArray cap }/\H' s2.heap.objs.size=none/\cw ys its/\ys.length<=sizeLine/\W i n ys H') (fun n s3 hI=>?_) m0
   ⟨0,[],[],0,H2,I0,T.keep _ _ _ st2 fun b hb o e=>old _ _ (by rw [<-ehp];exact Heap.get?_push_of_some _ e),fun b hb=>(f2 b hb).1,eD,I2.hok.fresh (Nat.le_refl _),.nil,Nat.zero_le _,w0⟩
  obtain⟨i,ys,its,cap,H3,I3,st3,fr3,eD3,nD3,rv,hz,w3⟩:=hI
  show wpAny _ X.A ((compTurn (.ListComp elt [⟨tg,iter,ifs,0⟩] sc pos) 0 (.ref it) (.ref s2.heap.objs.size) (compEnvC sc cl hp.objs.size X.env)).onRaise fun x=>do noteFrame x (compEnvC sc cl hp.objs.size X.env);theTreesLotGoes x) _ _ s3
  refine wpAny_noted ?_
  rw [compTurn_list]
  have I3':Inv (blk X (own++caps) sc cl { s2 with heap:=hp } H2 hp.objs.size (s2.heap.objs.size::fp)) (pins++[(s2.heap.objs.size,{ cls:=.type "list",data:=.seq its.toArray cap })]) (dk own.length κ σ) H3 s3:=by
   refine I3.pins_of fun p hp=>(List.mem_append.mp hp).elim (fun z=>I3.pin p (List.mem_append_right _ z)) fun z=>?_
   obtain rfl:=List.mem_singleton.mp z
   exact⟨eD3,nD3,hDC,stkD,fun v q=>by cases q⟩
  have fpk:∀{H':Hp},(∀b∈fp,H' b=none)->∀b∈fp,ph (blk X (own++caps) sc cl { s2 with heap:=hp } H2 hp.objs.size (s2.heap.objs.size::fp)) (pins++[(s2.heap.objs.size,{ cls:=.type "list",data:=.seq its.toArray cap })]) H' b:=fun {H'} hn b hb =>
   ⟨hn b hb,by show b≠hp.objs.size;rw [hsz];exact Nat.ne_of_lt (Nat.lt_succ_of_lt (hfp b hb)),stkF b hb,.inl (List.mem_cons_of_mem _ hb),fun x c q=>(f2 b hb).2.2.2.2.1 x c (S.subc q),fun p hp=>by
    rw [<-List.append_assoc] at hp
    rcases List.mem_append.mp hp with z|z
    ·exact(f2 b hb).2.2.2.2.2 p z
    ·obtain rfl:=List.mem_singleton.mp z
     exact Nat.ne_of_gt (hfp b hb)⟩
  rcases turn i n ys H3 w3 with ⟨stop,fin⟩|⟨go,hlt,step⟩
  ·refine wpAny_bind (wpAny_standAt (wpAny_bind (thn (T.done (blk X (own++caps) sc cl { s2 with heap:=hp } H2 hp.objs.size (s2.heap.objs.size::fp)) rfl rfl rfl hcalm i _ s3 _ H3 _ I3' (fpk fr3) st3 stop) fun r s4 ⟨hr,I4⟩=>?_)))
   subst hr
   refine wpAny_pure ?_
   obtain⟨m,hm,_⟩:=I4.loc
   refine⟨m,hm,fun h' sb=>?_⟩
   have eD4:=(I4.pin (s2.heap.objs.size,{ cls:=.type "list",data:=.seq its.toArray cap }) (List.mem_append_right _ (List.mem_append_right _ (List.mem_singleton.mpr rfl)))).1
   exact⟨.ref s2.heap.objs.size,_,Inv.unblock I2 f2 ehp.symm I4 eD4 nD3 rv hz sb,rfl,fin _ nD3⟩
  ·refine wpAny_bind (wpAny_standAt (wpAny_bind (thn (T.item (blk X (own++caps) sc cl { s2 with heap:=hp } H2 hp.objs.size (s2.heap.objs.size::fp)) rfl rfl rfl hcalm i _ s3 _ H3 _ I3' (fpk fr3) st3 go) fun r s4 ⟨u,hr,h4⟩=>?_)))
   subst hr
   refine wpAny_bind (thn h4 fun _ s5 ⟨x,H5,I5,r5,y5,st5,fr5⟩=>?_)
   have I5':=I5.pinned (fpk fr5) (T.obj _ _ st5)
   refine wpAny_bind (wpAny_mono (hg _ _ _ _ _ s5 _ H5 x u _ I5' r5 (step x H5 y5)) (fun _ s6 ⟨σ6,H6,I6,eσ,q6⟩=>?_) fun _ _ z=>z.elim)
   refine wpAny_bind (wpAny_mono (hc _ _ _ _ _ s6 σ6 H6 _ I6 q6) (fun ok s7 ⟨H7,I7,q7⟩=>?_) fun _ _ z=>z.elim)
   have back:∀{s8:Shared} {H8:Hp},Inv (blk X (own++caps) sc cl { s2 with heap:=hp } H2 hp.objs.size (s2.heap.objs.size::fp)) ((pins++[(s2.heap.objs.size,{ cls:=.type "list",data:=.seq its.toArray cap })])++jQ fp s5.heap) σ6 H8 s8 ->
     Inv (blk X (own++caps) sc cl { s2 with heap:=hp } H2 hp.objs.size (s2.heap.objs.size::fp)) pins (dk own.length κ σ) H8 s8/\tn (i+1) s8.heap/\(∀b∈fp,H8 b=none)/\s8.heap.get? s2.heap.objs.size=some { cls:=.type "list",data:=.seq its.toArray cap }/\H8 s2.heap.objs.size=none:=by
    intro s8 H8 I8
    have pk:∀b∈fp,∀o,s5.heap.get? b=some o->s8.heap.get? b=some o/\H8 b=none:=fun b hb o e=>by
     have z:=I8.pin (b,o) (List.mem_append_right _ (List.mem_append_right _ (fE hb e)))
     exact⟨z.1,z.2.1⟩
    have zD:=I8.pin (s2.heap.objs.size,{ cls:=.type "list",data:=.seq its.toArray cap }) (List.mem_append_right _ (List.mem_append_left _ (List.mem_append_right _ (List.mem_singleton.mpr rfl))))
    refine⟨(I8.pins_of fun p hp=>I8.pin p (List.mem_append_right _ (List.mem_append_left _ (List.mem_append_left _ hp)))).weak ?_ fun j v e=>?_,T.keep _ _ _ st5 fun b hb o e=>(pk b hb o e).1,fun b hb=>?_,zD.1,zD.2.1⟩
    ·exact I3.len.trans I8.len.symm
    ·have hge:own.length<=j:=by
      refine Nat.le_of_not_lt fun q=>?_
      unfold dk at e
      rw [List.getElem?_append_left (by rw [List.length_replicate];exact q),List.getElem?_replicate,if_pos q] at e
      cases e
     have z:=congrArg (fun l=>l[j - own.length]?) eσ
     simp only [List.getElem?_drop] at z
     rw [show own.length+(j - own.length)=j by omega] at z
     rw [z]
     exact e
    ·obtain⟨o,e,_⟩:=T.obj _ _ st5 b hb
     exact(pk b hb o e).2
   cases ok with
   |false =>
    obtain⟨m',hm,w7⟩:=(if_neg Bool.false_ne_true)▸q7
    obtain⟨I8,st8,fr8,e8,n8⟩:=back I7
    exact wpAny_pure ⟨rfl,m',hm,i+1,ys,its,cap,H7,I8,st8,fr8,e8,n8,rv,hz,w7⟩
   |true =>
    have q7':=(if_pos rfl)▸q7
    refine wpAny_bind (wpAny_bind (wpAny_mono (he _ _ _ _ _ s7 σ6 H7 _ I7 q7') (fun y s8 ⟨v8,H8,I8,r8,m',hm,w8⟩=>?_) fun _ _ z=>z.elim))
    obtain⟨I9,st9,fr9,e9,n9⟩:=back I8
    have hl:=rv.length
    refine wpAny_bind (wpAny_list_append_plain (items:=its.toArray) ⟨cap,e9⟩ (fun h' hl' sb=>?_) (by rw [List.size_toArray,<-hl];exact hz))
    obtain⟨cap',e'⟩:=hl'
    refine wpAny_pure (wpAny_pure ⟨rfl,m',hm,i+1,ys++[v8],its++[y],cap',H8,?_,?_,fr9,?_,n9,cw.append rv (.cons r8 .nil),?_,w8⟩)
    ·exact I9.turned (t':=s8.toks) (fun b o hb e=>(sb.2 b hb).trans e) n9 hDC (.inl List.mem_cons_self) cellD pinD
    ·exact T.keep _ _ _ st9 fun b hb o e=>(sb.2 b (Nat.ne_of_lt (hfp b hb))).trans e
    ·rw [e']
     congr 3
     simp
    ·rw [List.length_append]
     exact hlt
 exact codeAny_compStart_list loop (T.self _ 0 _ _ _ (T.keep _ _ _ st2 fun b hb o e=>old _ _ (by rw [<-ehp];exact Heap.get?_push_of_some _ e)) loop)
theorem nM{tg elt iter:Expr}{own caps:List Str}{κ:List Nat}{sc:Scope}{cl:List (Str × Addr)}{pos:Pos}{wi:TI}{g:TG}{te:TE}(hcalm:X.calm=true)(S:iK X caps sc cl)(hκ:κ.map (fun k=>X.N[k]?)=caps.map some)
  (hi:PI X tg iter wi) (hg:∀s₀ H₀ C ex,PG (blk X (own++caps) sc cl s₀ H₀ C ex) tg g) (he:∀s₀ H₀ C ex,PE (blk X (own++caps) sc cl s₀ H₀ C ex) elt te)
  (hs:∀x,foldedSetIterable iter X.env x=pure x:=by intro _;rfl):PE X (.ListComp elt [⟨tg,iter,[],0⟩] sc pos) (oy own.length κ wi g AL te) :=
 qF hcalm S hκ hi hg (fun s₀ H₀ C ex pins s σ H Q I h=>wpAny_tests_nil ⟨H,I,h⟩) he hs
theorem sG{tg elt iter c:Expr}{own caps:List Str}{κ:List Nat}{sc:Scope}{cl:List (Str × Addr)}{pos:Pos}{wi:TI}{g:TG}{tc:TT}{te:TE}(hcalm:X.calm=true)(S:iK X caps sc cl)(hκ:κ.map (fun k=>X.N[k]?)=caps.map some)
  (hi:PI X tg iter wi) (hg:∀s₀ H₀ C ex,PG (blk X (own++caps) sc cl s₀ H₀ C ex) tg g) (hc:∀s₀ H₀ C ex,PT (blk X (own++caps) sc cl s₀ H₀ C ex) c tc) (he:∀s₀ H₀ C ex,PE (blk X (own++caps) sc cl s₀ H₀ C ex) elt te)
  (hs:∀x,foldedSetIterable iter X.env x=pure x:=by intro _;rfl):PE X (.ListComp elt [⟨tg,iter,[c],0⟩] sc pos) (oy own.length κ wi g tc te) :=
 qF hcalm S hκ hi hg (fun s₀ H₀ C ex pins s σ H Q I h=>wpAny_tests_one (hc s₀ H₀ C ex pins s σ H Q I h)) he hs
theorem zI:bootBuiltins "all"=some (.builtin "all"):=by decide +kernel
theorem zx:bootBuiltins "str"=some (.type "str"):=by decide +kernel
theorem dh:bootBuiltins "isinstance"=some (.builtin "isinstance"):=by decide +kernel
theorem ro:∀{bs:List Bool} {us:List Value},cw (bs.map V.bl) us->LSm.BoolsAre us bs
 |[],_,r=>by cases r;exact .nil
 |b::bs,_,r=>by
  cases r with
  |cons r1 r2 =>
   cases r1
   exact .cons b (ro r2)
theorem uq(hc:X.calm=true):gM X (.builtin "all") (fun xs H Q=>∃(p:Addr) (bs:List Bool),xs=[.ref p]/\SqL X.K H p (bs.map V.bl)/\Q (.bl (bs.all id)) H):=by
 intro pins s σ H xs us Q I r h
 obtain⟨p,bs,rfl,hq,q⟩:=h
 obtain⟨u,rfl,rx⟩:=nE r
 cases rx
 obtain⟨its,rv,pl,hz⟩:=I.list hq
 have hb:=ro rv
 have hlt:p < s.heap.objs.size:=by obtain⟨_,e,_⟩:=pl.isList;exact Heap.lt_size e
 refine call_all_walk (wpAny_pyIter_list pl.isList ?_)
 refine⟨s.heap.objs.size,[s.heap.objs.size,p],[s.heap.objs.size],its.toArray.size,_,_,fun i=>(bs[i]?).getD true,rfl,Walks.list (A:=X.A.in1) (I.ok.hd hc) _ p (Nat.ne_of_lt hlt) its.toArray,
  ⟨⟨_,Heap.get?_push_size _ rfl,rfl,rfl⟩,pl.isList.push _⟩,fun i v s' Q' E' hP hQ=>?_,fun h' tk hk=>?_⟩
 ·obtain⟨b,e,rfl⟩:=hb.get i v (by simpa using hP)
  have hQ':Q' ((bs[i]?).getD true) s':=hQ
  rw [e] at hQ'
  exact wpAny_truthy_bool hQ'
 ·have e:((List.range its.toArray.size).all fun i=>(bs[i]?).getD true)=bs.all id:=by
   rw [List.size_toArray,hb.length]
   exact LSm.range_all bs
  rw [e]
  exact⟨.bl (bs.all id),H,I.kept (LSm.kept_iter hk),rfl,q⟩
theorem iM{J:It}{xs:List V}{n:Nat}{κ:List Nat}{g:TG}{tc:TT}{te:TE}{σ:St}{H:Hp}{Q:VK}(Pv:Nat->List V->Hp->Prop)(h0:Pv 0 [] H)(hz:xs.length<=sizeLine)(hlen:∀i ys H2,Pv i ys H2->ys.length<=i)
  (hgo:∀i x ys H2,xs[i]?=some x->Pv i ys H2->J.go i H2) (hyl:∀i ys x H2 H',i < xs.length->Pv i ys H2->J.yld i H2 x H'->H'=H2/\xs[i]?=some x) (hst:∀ys H2,Pv xs.length ys H2->J.stop xs.length H2)
  (hs:∀i x ys H2 (N:List V->Hp->Prop),(∀ys' H',Pv (i+1) ys' H'->N ys' H')->xs[i]?=some x->Pv i ys H2->g x (dk n κ σ) H2 fun σ4 H4=>σ4.drop n=(dk n κ σ).drop n/\tc σ4 H4 fun b H5=>if b=true then te σ4 H5 fun v H6=>N (ys++[v]) H6 else N ys H5)
  (hQ:∀ys H2 D,Pv xs.length ys H2->H2 D=none->Q (.ref D) (upd H2 D (.lst ys))) :
  iL n κ g tc te σ J H Q:=by
 refine⟨fun i m ys H2=>m=xs.length - i/\i<=xs.length/\Pv i ys H2,⟨xs.length,rfl,Nat.zero_le _,h0⟩,?_⟩
 rintro i m ys H2 ⟨rfl,hi,p⟩
 by_cases hlt:i < xs.length
 ·have e:xs[i]?=some xs[i]:=List.getElem?_eq_getElem hlt
  refine .inr ⟨hgo i _ ys H2 e p,Nat.lt_of_le_of_lt (hlen i ys H2 p) (Nat.lt_of_lt_of_le hlt hz),fun x H3 y=>?_⟩
  obtain⟨rfl,ex⟩:=hyl i ys x H2 H3 hlt p y
  exact hs i x ys _ (fun ys' H'=>∃m',m' < xs.length - i/\m'=xs.length - (i+1)/\i+1<=xs.length/\Pv (i+1) ys' H') (fun ys' H' p'=>⟨xs.length - (i+1),by omega,rfl,hlt,p'⟩) ex p
 ·obtain rfl:i=xs.length:=by omega
  exact .inl ⟨hst ys H2 p,fun D hD=>hQ ys H2 D p hD⟩
def jm(lo:Int)(n:Nat):List V:=(List.range n).map fun i=>V.int (lo+(i:Nat))
theorem dJ(lo:Int)(n:Nat):(jm lo n).length=n:=by simp [jm]
theorem gI{lo:Int}{n i:Nat}{x:V}:(jm lo n)[i]?=some x↔i < n/\x=.int (lo+i):=by
 unfold jm
 rw [List.getElem?_map]
 by_cases h:i < n
 ·rw [List.getElem?_range h]
  simp [h,eq_comm]
 ·rw [List.getElem?_eq_none (by simp;omega)]
  simp [h]
theorem ym{lo:Int}{n:Nat}{H:Hp}{i:Nat}{x:V}(h:(jm lo n)[i]?=some x):(Itr lo n).go i H:=(gI.mp h).1
theorem rN{lo:Int}{n:Nat}{H H':Hp}{i:Nat}{x:V}(hi:i < n)(h:(Itr lo n).yld i H x H'):H'=H/\(jm lo n)[i]?=some x:=⟨h.1,gI.mpr ⟨hi,h.2⟩⟩
end
mutual
inductive Dat (K:W.Frag) (H:Hp):V->PyData->Prop
 |non:Dat K H .non .none
 |bl (b:Bool):Dat K H (.bl b) (.bool b)
 |int (i:Int):Dat K H (.int i) (.int i)
 |str (x:Str):Dat K H (.str x) (.str x)
 |tup {a:Addr} {xs:List V} {ds:List PyData}:SqT K H a xs->kZ K H xs ds->Dat K H (.ref a) (.tuple ds)
 |lst {a:Addr} {xs:List V} {ds:List PyData}:SqL K H a xs->kZ K H xs ds->Dat K H (.ref a) (.list ds)
inductive kZ (K:W.Frag) (H:Hp):List V->List PyData->Prop
 |nil:kZ K H [] []
 |cons {x:V} {d:PyData} {xs:List V} {ds:List PyData}:Dat K H x d->kZ K H xs ds->kZ K H (x::xs) (d::ds)
end
theorem aE.tup{K:W.Frag}{H H':Hp}{a:Addr}{xs:List V}(e:aE H H')(h:SqT K H a xs):SqT K H' a xs:=by
 rcases h with (h|⟨o,h⟩)|h
 ·exact .inl (.inl (e _ _ h))
 ·exact .inl (.inr ⟨o,e _ _ h⟩)
 ·exact .inr h
mutual
theorem Dat.same{K:W.Frag}{H H':Hp}(e:aE H H'):∀{x:V} {d:PyData},Dat K H x d->Dat K H' x d
 |_,_,.non=>.non
 |_,_,.bl b=>.bl b
 |_,_,.int i=>.int i
 |_,_,.str x=>.str x
 |_,_,.tup h r=>.tup (e.tup h) (kZ.same e r)
 |_,_,.lst h r=>.lst (e.seq h) (kZ.same e r)
theorem kZ.same{K:W.Frag}{H H':Hp}(e:aE H H'):∀{xs:List V} {ds:List PyData},kZ K H xs ds->kZ K H' xs ds
 |_,_,.nil=>.nil
 |_,_,.cons h r=>.cons (Dat.same e h) (kZ.same e r)
end
section
variable{X:Cx}{pins:List (Addr × Obj)}{σ:St}{H:Hp}{s:Shared}
mutual
theorem Dat.reads(I:Inv X pins σ H s):∀{x:V} {d:PyData} {v:Value},Dat X.K H x d->cy x v->∃as,Reads s.heap v d as
 |_,_,_,.non,r=>by cases r;exact⟨_,.none⟩
 |_,_,_,.bl b,r=>by cases r;exact⟨_,.bool b⟩
 |_,_,_,.int i,r=>by obtain⟨t,rfl⟩:=r;exact⟨_,.int i t⟩
 |_,_,_,.str x,r=>by obtain⟨t,rfl⟩:=r;exact⟨_,.str x t⟩
 |_,_,_,.tup hq ds,r=>by
  cases r
  obtain⟨its,rv,p,_⟩:=I.tuple hq
  obtain⟨as,q⟩:=kZ.reads I ds rv
  obtain⟨o,e,c,n,dt⟩:=p
  exact⟨as,.tuple e c dt (by simpa using q)⟩
 |_,_,_,.lst hq ds,r=>by
  cases r
  obtain⟨its,rv,p,_⟩:=I.list hq
  obtain⟨as,q⟩:=kZ.reads I ds rv
  obtain⟨o,n,e,c,_,dt⟩:=p
  exact⟨_,.list e c dt (by simpa using q)⟩
theorem kZ.reads(I:Inv X pins σ H s):∀{xs:List V} {ds:List PyData} {vs:List Value},kZ X.K H xs ds->cw xs vs->∃as,ReadsAll s.heap vs ds as
 |_,_,_,.nil,r=>by cases r;exact⟨_,.nil⟩
 |_,_,_,.cons h t,r=>by
  cases r with
  |cons r1 r2 =>
   obtain⟨as,q⟩:=Dat.reads I h r1
   obtain⟨bs,q2⟩:=kZ.reads I t r2
   exact⟨_,.cons q q2⟩
end
end
section
variable{X:Cx}
def BV(K:W.Frag)(neg:Bool):R2:=fun x y H Q=>∃dx dy,Dat K H x dx/\Dat K H y dy/\SeqAt.shaped dx=true/\SeqAt.shaped dy=true/\Q (.bl (if neg then !PyData.eqv dx dy else PyData.eqv dx dy)) H
theorem yj(hu:X.A.units+64 < cLine):OpR X (compareOp .Eq) (BV X.K false):=by
 intro pins s σ H x y v u Q I rx ry h
 obtain⟨dx,dy,hx,hy,sx,sy,q⟩:=h
 obtain⟨as,ra⟩:=Dat.reads I hx rx
 obtain⟨bs,rb⟩:=Dat.reads I hy ry
 exact eq_dataH ra rb sx sy hu ⟨.bl _,H,I,rfl,q⟩
theorem yn(hu:X.A.units+64 < cLine):OpR X (compareOp .NotEq) (BV X.K true):=by
 intro pins s σ H x y v u Q I rx ry h
 obtain⟨dx,dy,hx,hy,sx,sy,q⟩:=h
 obtain⟨as,ra⟩:=Dat.reads I hx rx
 obtain⟨bs,rb⟩:=Dat.reads I hy ry
 exact ne_dataH ra rb sx sy hu ⟨.bl _,H,I,rfl,q⟩
open Classical in
end
def v0(h:Heap)(d:Addr)(es:Array DictEntry)(ep:Nat):Prop:=∃o,h.get? d=some o/\o.ExactDict/\o.data=.dict es ep
theorem v0.at{h h':Heap}{d:Addr}{es:Array DictEntry}{ep:Nat}(x:v0 h d es ep)(k:∀o,h.get? d=some o->h'.get? d=some o):v0 h' d es ep:=let ⟨o,e,r⟩:=x;⟨o,k _ e,r⟩
theorem v0.lt{h:Heap}{d:Addr}{es:Array DictEntry}{ep:Nat}(x:v0 h d es ep):d < h.objs.size:=let ⟨_,e,_⟩:=x;Heap.lt_size e
section
variable{prog:Program}{w:World}{A:Around}{E:Value->Shared->Prop}{s:Shared}
theorem wM{d:Addr}{es:Array DictEntry}{ep:Nat}{Q:Value->Shared->Prop}(hd:(d==sysModules)=false)(hm:v0 s.heap d es ep)
  (hQ:Q (.ref s.heap.objs.size) { s with heap:=s.heap.push { cls:=.type "dict_keyiterator",data:=.fields #[.ref d,.int 0 0,.int es.size 0,.int ep 0] } }):wpAny (model prog w) A (pyIter (.ref d)) Q E s:=by
 obtain⟨o,ho,hx,hdat⟩:=hm
 have tyD:s.TypeIs (.ref d) "dict":=⟨o,ho,hx.1⟩
 refine wpAny_pyIter_slot tyD F.slot_dict_iter (wpAny_call_entry F.slot_dict_iter tyD F.entry_dict_iter ?_ (F.args_dict_iter_1 _))
 unfold Builtin.«dict.__iter__» Builtin.Dict.dictSlotNone
 refine wpAny_bind (wpAny_bind (wpAny_notOrdered_dict tyD ?_))
 refine wpAny_pure (show wpAny _ _ (Builtin.Dict.showsAll d >>= _) _ _ s from ?_)
 unfold Builtin.Dict.showsAll
 rw [if_neg (fun z=>Bool.false_ne_true (hd.symm.trans z))]
 refine wpAny_bind (wpAny_pure (wpAny_bind (wpAny_dictEntries ho hdat (wpAny_bind (wpAny_dictEpoch ho hdat ?_)))))
 exact wpAny_bind (wpAny_newObj_type (wpAny_pure ⟨_,rfl,"dict_keyiterator",_,⟨_,Heap.get?_push_size _ rfl,rfl⟩,F.slot_dict_keyiterator_next.lookup,hQ⟩))
theorem xv{it d:Addr}{i ep:Nat}{es:Array DictEntry}{Q:Option Value->Shared->Prop}(hit:s.heap.IsKeyIter it d i es.size ep)(hm:v0 s.heap d es ep)(hi:i < es.size)
  (hQ:∀h',h'.IsKeyIter it d (i+1) es.size ep->Heap.SameBut it s.heap h'->Q (some es[i].key) { s with heap:=h' }):wpAny (model prog w) A (pyNext (.ref it)) Q E s:=by
 have tyI:=hit.typeIs
 obtain⟨oi,hoi,hci,hdi⟩:=id hit
 obtain⟨od,hod,_,hdd⟩:=hm
 unfold pyNext
 refine wpAny_bind (wpAny_attempt (wpAny_callSpecial?_slot (name:=Str.ofString "__next__") tyI F.slot_dict_keyiterator_next (wpAny_call_entry F.slot_dict_keyiterator_next tyI F.entry_dict_keyiterator_next ?_ (F.args_dict_keyiterator_next_1 _))))
 refine wpAny_bind (wpAny_pure (wpAny_bind (wpAny_bind ?_)))
 first|refine wpAny_bind (wpAny_typeNameOfWhole_keyiter tyI (wpAny_pure ?_))|refine wpAny_bind (wpAny_typeNameOf_keyiter tyI (wpAny_pure ?_))
 refine wpAny_bind (wpAny_fieldsOf hoi hdi ?_)
 simp only [show Builtin.Dict_items.ownsTuple "dict_keyiterator"=false from by decide,Bool.false_eq_true,if_false]
 show wpAny _ _ (if (Value.ref d==.none)=true then _ else _) _ _ s
 have ne0:¬((Value.ref d==Value.none)=true):=fun z=>Bool.false_ne_true z
 rw [if_neg ne0]
 refine wpAny_bind (wpAny_pure (wpAny_bind (wpAny_dictEntries hod hdd ?_)))
 rw [if_neg (by simp)]
 refine wpAny_bind (wpAny_pure (wpAny_bind (wpAny_dictEpoch hod hdd ?_)))
 rw [if_neg (by simp)]
 refine wpAny_pure ?_
 simp only [show ¬((i:Int) < 0) from Int.not_lt.mpr (Int.natCast_nonneg i),if_false,Int.toNat_natCast,Array.getElem?_eq_getElem hi]
 refine wpAny_bind ?_
 first|refine wpAny_bind (wpAny_typeNameOfWhole_keyiter tyI (wpAny_pure ?_))|refine wpAny_bind (wpAny_typeNameOf_keyiter tyI (wpAny_pure ?_))
 refine wpAny_bind (wpAny_isOneOf_keyiter tyI ?_)
 refine(show wpAny _ _ (setField (.ref it) 1 (rawInt ((i:Int)+1)) >>= _) _ _ s from wpAny_bind (wpAny_setField hoi hdi (by simp) ?_))
 have new:(s.heap.update it (Obj.mapFields (·.setIfInBounds 1 (rawInt ((i:Int)+1))))).IsKeyIter it d (i+1) es.size ep :=
  ⟨_,Heap.get?_update_self _ hoi (Obj.isFreed_of_fields (Obj.data_mapFields hdi _)),(Obj.cls_mapFields ..).trans hci,by rw [Obj.data_mapFields hdi];simp [rawInt]⟩
 refine wpAny_bind (wpAny_holding (wpAny_bind (wpAny_isOneOf_keyiter (s:={ s with heap:=s.heap.update it (Obj.mapFields (·.setIfInBounds 1 (rawInt ((i:Int)+1)))) }) new.typeIs ?_)))
 exact(show wpAny _ _ (pure es[i].key) _ _ _ from wpAny_pure (wpAny_pure ⟨_,rfl,wpAny_pure (hQ _ new (Heap.SameBut.update ..))⟩))
theorem yT{it d:Addr}{i ep:Nat}{es:Array DictEntry}{Q:Option Value->Shared->Prop}(hh:A.handled=none)(hit:s.heap.IsKeyIter it d i es.size ep)(hm:v0 s.heap d es ep)(hi:es.size<=i)
  (hF:∀h',Heap.ExtBut it s.heap h'->Q none { s with heap:=h' }):wpAny (model prog w) A (pyNext (.ref it)) Q E s:=by
 have tyI:=hit.typeIs
 obtain⟨oi,hoi,hci,hdi⟩:=id hit
 obtain⟨od,hod,_,hdd⟩:=hm
 unfold pyNext
 refine wpAny_bind (wpAny_attempt (wpAny_callSpecial?_slot (name:=Str.ofString "__next__") tyI F.slot_dict_keyiterator_next (wpAny_call_entry F.slot_dict_keyiterator_next tyI F.entry_dict_keyiterator_next ?_ (F.args_dict_keyiterator_next_1 _))))
 refine wpAny_bind (wpAny_pure (wpAny_bind (wpAny_bind ?_)))
 first|refine wpAny_bind (wpAny_typeNameOfWhole_keyiter tyI (wpAny_pure ?_))|refine wpAny_bind (wpAny_typeNameOf_keyiter tyI (wpAny_pure ?_))
 refine wpAny_bind (wpAny_fieldsOf hoi hdi ?_)
 simp only [show Builtin.Dict_items.ownsTuple "dict_keyiterator"=false from by decide,Bool.false_eq_true,if_false]
 show wpAny _ _ (if (Value.ref d==.none)=true then _ else _) _ _ s
 have ne0:¬((Value.ref d==Value.none)=true):=fun z=>Bool.false_ne_true z
 rw [if_neg ne0]
 refine wpAny_bind (wpAny_pure (wpAny_bind (wpAny_dictEntries hod hdd ?_)))
 rw [if_neg (by simp)]
 refine wpAny_bind (wpAny_pure (wpAny_bind (wpAny_dictEpoch hod hdd ?_)))
 rw [if_neg (by simp)]
 refine wpAny_pure ?_
 simp only [show ¬((i:Int) < 0) from Int.not_lt.mpr (Int.natCast_nonneg i),if_false,Int.toNat_natCast,Array.getElem?_eq_none hi]
 refine wpAny_bind ?_
 first|refine wpAny_bind (wpAny_typeNameOfWhole_keyiter tyI (wpAny_pure ?_))|refine wpAny_bind (wpAny_typeNameOf_keyiter tyI (wpAny_pure ?_))
 refine(show wpAny _ _ (setField (.ref it) 0 .none >>= _) _ _ s from wpAny_bind (wpAny_setField hoi hdi (by simp) ?_))
 refine(show wpAny _ _ (newExc (.type "StopIteration") [] >>= _) _ _ _ from wpAny_bind ?_)
 simp only [newExc,newTuple]
 refine wpAny_bind (wpAny_newObj_type (dict:=none) ?_ (by size_fits))
 refine wpAny_bind (m:=firstArgMember _ _) (wpAny_of_eq (a:=Value.none) (by first|rfl|(simp only [firstArgMember];rfl)) (wpAny_newObj_type ?_ (by size_fits)))
 simp only [raiseNew]
 refine wpAny_bind (m:=_) (wpAny_handled ?_)
 rw [(show A.in1.handled=none from hh)]
 refine wpAny_bind (wpAny_pure (wpAny_throw (wpAny_bind ?_)))
 refine wpAny_isInstance (b:=true) (T:="StopIteration") ⟨_,Heap.get?_push_size _ rfl,rfl⟩ isSubtype_stop ?_
 exact wpAny_pure (hF _ (((Heap.SameBut.update ..).extBut.push _).push _))
theorem Walks.raw(hh:A.handled=none)(I d:Addr)(hne:d≠I)(es:Array DictEntry)(ep:Nat) :
  Walks prog w A I [I,d] [I] es.size (fun i v=>∃e,es[i]?=some e/\v=e.key) (fun i h=>h.IsKeyIter I d i es.size ep/\v0 h d es ep) where
 sub:=fun b hb=>List.mem_cons.mpr (.inl (List.mem_singleton.mp hb))
 frame:=fun _ _ _ st hk=>⟨st.1.at fun o e=>hk I List.mem_cons_self o e,st.2.at fun o e=>hk d (List.mem_cons_of_mem _ List.mem_cons_self) o e⟩
 item:=fun i s Q E hi st hQ=>xv st.1 st.2 hi fun h' new sb=>hQ _ h' s.toks ⟨es[i],Array.getElem?_eq_getElem hi,rfl⟩ ⟨new,st.2.at fun o e=>sb.extBut d o hne e⟩ fun b o hb e=>sb.extBut b o (fun z=>hb (List.mem_singleton.mpr z)) e
 done:=fun s Q E st hQ=>yT hh st.1 st.2 (Nat.le_refl _) fun h' eb=>hQ h' s.toks fun b o hb e=>eb b o (fun z=>hb (List.mem_singleton.mpr z)) e
 self:=fun _ _ _ _ st q=>wpAny_pyIter_keyiter st.1 q
theorem yM{d:Addr}{es:Array DictEntry}{ep:Nat}(lo:(d==sysModules)=false):W.KdlSrc prog w "dict" d d es.size (fun i v=>∃e,es[i]?=some e/\v=e.key) (fun h=>v0 h d es ep) where
 type:=fun _ hm=>let ⟨o,e,x,_⟩:=hm;⟨o,e,x.1⟩
 there:=fun _ hm=>⟨hm.lt,hm.lt⟩
 keep:=fun _ _ hm hk=>hm.at fun o e=>hk d (.inl rfl) o e
 notList:=by decide
 notTuple:=by decide
 hint:=fun _ _ _ _ hm hq=>W.kdl_hint_dict (let ⟨o,e,x,_⟩:=hm;⟨o,e,x.1⟩) hq
 iter:=fun _ _ hh hm=>⟨_,_,(fun _ _ hq=>wM lo hm hq),Walks.raw hh _ d (Nat.ne_of_lt hm.lt) es ep,⟨⟨_,Heap.get?_push_size _ rfl,rfl,rfl⟩,hm.at fun o e=>Heap.get?_push_of_some _ e⟩⟩
end
section
variable{X:Cx}
theorem oG(hc:X.calm=true):gM X (.type "list") (fun xs H Q=>∃a kvs,xs=[.ref a]/\H a=some (.dT kvs) /\
  ∀(ks:List Addr) l,H l=none->Paired (fun(p:List Key × V) (k:Addr)=>H k=some (.tup (p.1.map kV))) kvs ks->Q (.ref l) (upd H l (.lst (ks.map V.ref)))):=by
 intro pins s σ H xs us Q I r h
 obtain⟨a,kvs,rfl,ha,q⟩:=h
 obtain⟨u,rfl,ru⟩:=nE r
 cases ru
 obtain⟨z,hd,ys,rel,o,es,ep,e,ex,dt,eqs,_⟩:=I.hok a _ ha
 have hlen:es.size=ys.length:=by
  have:=congrArg List.length eqs
  rw [List.length_map] at this
  simpa using this
 have hl2:kvs.length=ys.length:=Paired.length rel
 refine W.kdl_call (yM hd) (I.ok.hd hc) ⟨o,e,ex,dt⟩ (by rw [hlen,<-hl2];exact z) fun h' tk acc' c' hk hD hacc=>?_
 have eacc:acc'.toList=ys.map fun y=>Value.ref y.2.1:=by
  apply List.ext_getElem?
  intro j
  rw [List.getElem?_map]
  by_cases hj:j < ys.length
  ·have hj2:j < acc'.size:=by rw [hacc.1,hlen];exact hj
   obtain⟨en,hen,hv⟩:=hacc.2 j acc'[j] (Array.getElem?_eq_getElem hj2)
   have e1:es.toList[j]?=some en:=by rw [<-hen];simp
   rw [eqs,List.getElem?_map,List.getElem?_eq_getElem hj] at e1
   have e2:=Option.some.inj e1
   rw [show acc'.toList[j]?=some acc'[j] by simp [hj2],hv,<-e2,List.getElem?_eq_getElem hj]
   rfl
  ·rw [List.getElem?_eq_none (by rw [Array.length_toList,hacc.1,hlen];omega),List.getElem?_eq_none (by omega)]
   rfl
 have rk:∀{kvs:List (List Key × V)} {ys:List (List Key × Addr × Value)},Paired (fun(p:List Key × V) (q:List Key × Addr × Value)=>p.1=q.1/\H q.2.1=some (.tup (p.1.map kV))/\cy p.2 q.2.2) kvs ys ->
   Paired (fun(p:List Key × V) (k:Addr)=>H k=some (.tup (p.1.map kV))) kvs (ys.map fun y=>y.2.1):=fun {kvs ys} p=>by
  induction p with
  |nil=>exact .nil
  |cons h _ ih=>exact .cons h.2.1 ih
 have vr:∀ks:List Addr,cw (ks.map V.ref) (ks.map Value.ref):=fun ks=>by
  induction ks with
  |nil=>exact .nil
  |cons k ks ih=>exact .cons rfl ih
 refine⟨.ref s.heap.objs.size,_,I.laid (o:=.lst ((ys.map fun y=>y.2.1).map V.ref)) hk (Nat.le_refl _) ?_,rfl,q _ _ (I.hok.fresh (Nat.le_refl _)) (rk rel)⟩
 refine⟨by rw [List.length_map,List.length_map,<-hl2];exact z,_,c',vr _,?_⟩
 rw [hD,show acc'=((ys.map fun y=>y.2.1).map Value.ref).toArray from by rw [List.map_map,<-Array.toArray_toList (xs:=acc'),eacc];rfl]
end
end L2
namespace Kk
open PySem L2
inductive Kd where
 |num (n:Int)
 |name (q t:Str)
 |pair (a b:Kd)
 deriving DecidableEq
def Kd.words:Kd->Nat
 |.num _=>1
 |.name _ _=>1
 |.pair a b=>1+a.words+b.words
def Kd.leaves:Kd->List Kd
 |.num n=>[.num n]
 |.name q t=>[.name q t]
 |.pair a b=>a.leaves++b.leaves
def Kd.leaf:Kd->Bool
 |.pair _ _=>false
 |_=>true
theorem cP:∀k:Kd,k.words+1=2*k.leaves.length
 |.num _=>rfl
 |.name _ _=>rfl
 |.pair a b=>by
  have h1:=cP a
  have h2:=cP b
  show 1+a.words+b.words+1=2*(a.leaves++b.leaves).length
  rw [List.length_append]
  omega
theorem gF:∀k:Kd,0 < k.leaves.length
 |.num _=>Nat.zero_lt_one
 |.name _ _=>Nat.zero_lt_one
 |.pair a b=>by
  have h1:=gF a
  show 0 < (a.leaves++b.leaves).length
  rw [List.length_append]
  omega
inductive cc (K:W.Frag) (H:Hp):V->Kd->Prop
 |num {a:Addr} {n:Int}:SqT K H a [.str "num",.int n]->cc K H (.ref a) (.num n)
 |name {a:Addr} {q t:Str}:SqT K H a [.str "name",.str q,.str t]->cc K H (.ref a) (.name q t)
 |pair {a:Addr} {x y:V} {k l:Kd}:SqT K H a [.str "pair",x,y]->cc K H x k->cc K H y l->cc K H (.ref a) (.pair k l)
theorem cc.same{K:W.Frag}{H H':Hp}(e:aE H H'):∀{x:V} {k:Kd},cc K H x k->cc K H' x k
 |_,_,.num h=>.num (e.tup h)
 |_,_,.name h=>.name (e.tup h)
 |_,_,.pair h a b=>.pair (e.tup h) (a.same e) (b.same e)
inductive dI (K:W.Frag) (H:Hp):List V->List Kd->Prop
 |nil:dI K H [] []
 |cons {x:V} {k:Kd} {xs:List V} {ks:List Kd}:cc K H x k->dI K H xs ks->dI K H (x::xs) (k::ks)
theorem dI.same{K:W.Frag}{H H':Hp}(e:aE H H'):∀{xs:List V} {ks:List Kd},dI K H xs ks->dI K H' xs ks
 |_,_,.nil=>.nil
 |_,_,.cons a b=>.cons (a.same e) (b.same e)
theorem dI.length{K:W.Frag}{H:Hp}:∀{xs:List V} {ks:List Kd},dI K H xs ks->xs.length=ks.length
 |_,_,.nil=>rfl
 |_,_,.cons _ b=>congrArg (·+1) b.length
theorem dI.append{K:W.Frag}{H:Hp}:∀{xs ys:List V} {ks ls:List Kd},dI K H xs ks->dI K H ys ls->dI K H (xs++ys) (ks++ls)
 |_,_,_,_,.nil,h=>h
 |_,_,_,_,.cons a b,h=>.cons a (b.append h)
end Kk
namespace L2
open PySem PySem.Spec PyProof.Rows
section
variable{α β:Type}{P:Shared->Prop}
def aC(P:Shared->Prop)(t:Sem α):Prop:=∀(M:Model) (Γ:PySem.Ctx) (Q:α->Pos->Shared->Prop) (E:Value->Pos->Shared->Prop) (p:Pos) (s:Shared),P s->Sem.wp M Γ t Q E p s ->
 Sem.wp M Γ t (fun a p' s'=>Q a p' s'/\P s') (fun e p' s'=>E e p' s'/\P s') p s
theorem aC.ret(a:α):aC P (Pure.pure a:Sem α):=fun _ _ _ _ _ _ h q=>⟨q,h⟩
theorem aC.no(x:String):aC P (unsupported x:Sem α):=fun _ _ _ _ _ _ _ q=>False.elim q
theorem aC.then{m:Sem α}{f:α->Sem β}(hm:aC P m)(hf:∀a,aC P (f a)):aC P (m >>= f):=fun M Γ Q E p s h q=>by
 rw [Sem.wp_bind'] at q ⊢
 exact Sem.wp_mono M Γ m (fun a p' s' z=>hf a M Γ Q E p' s' z.2 z.1) (fun _ _ _ z=>z) p s (hm M Γ _ E p s h q)
theorem aC.ld(a:Addr):aC P (load a):=fun _ _ _ _ _ _ h ⟨o,e,q⟩=>⟨o,e,q,h⟩
theorem aC.stk:aC P stack:=fun _ _ _ _ _ _ h q=>⟨q,h⟩
theorem aC.ite{c:Prop}[Decidable c]{a b:Sem α}(ha:aC P a)(hb:aC P b):aC P (if c then a else b):=by split<;>assumption
theorem aC.wpAny{t:Sem α}(k:aC P t){M:Model}{A:Around}{Q:α->Shared->Prop}{E:Value->Shared->Prop}{s:Shared}(hp:P s)(h:wpAny M A t Q E s):wpAny M A t (fun a s'=>Q a s'/\P s') (fun e s'=>E e s'/\P s') s :=
 fun Γ p hΓ=>k M Γ _ _ p s hp (h Γ p hΓ)
def cA(x:Addr)(d:Option Addr)(s:Shared):Prop:=∃ob,s.heap.get? x=some ob/\ob.dict=d
variable{x:Addr}{d:Option Addr}
theorem aC.up{a:Addr}{f:Obj->Obj}(hf:∀o:Obj,o.isFreed=false->(f o).dict=o.dict/\(f o).isFreed=false):aC (cA x d) (update a f):=fun _ _ _ _ _ s h q=>by
 refine⟨q.1,q.2,?_⟩
 obtain⟨ob,e,hd⟩:=h
 have hfr:=(Heap.get?_some_iff.mp e).2
 by_cases hx:a=x
 ·subst hx
  exact⟨_,Heap.get?_update_self f e (hf ob hfr).2,(hf ob hfr).1.trans hd⟩
 ·exact⟨ob,(Heap.get?_update_other _ f hx).trans e,hd⟩
theorem aC.new{o:Obj}:aC (cA x d) (alloc o):=fun _ _ _ _ _ s h q=>by
 obtain⟨ob,e,hd⟩:=h
 exact⟨q,ob,Heap.get?_push_of_some _ e,hd⟩
theorem aC.flds{v:Value}:aC P (fieldsOf v):=by
 unfold fieldsOf
 split
 ·refine aC.then (aC.ld _) fun o=>?_
  split
  ·exact aC.ret _
  ·exact aC.no _
 ·exact aC.no _
theorem aC.fld{v:Value}{i:Nat}:aC P (field v i):=by
 unfold field
 refine aC.then aC.flds fun vs=>?_
 split
 ·exact aC.ret _
 ·exact aC.no _
theorem aC.setF{v u:Value}{i:Nat}:aC (cA x d) (setField v i u):=by
 unfold setField
 split
 ·unfold updateField
  refine aC.then (aC.ld _) fun o=>?_
  split
  ·refine aC.ite (aC.up fun o ho=>?_) (aC.no _)
   obtain⟨c,dd,dt,sl⟩:=o
   cases dt<;>exact⟨rfl,ho⟩
  ·exact aC.no _
 ·exact aC.no _
theorem aC.flight{e:Value}{f:Option Addr}:aC (cA x d) (setFlight e f):=by
 unfold setFlight
 exact aC.then aC.fld fun tb=>aC.ite aC.setF (aC.ret _)
theorem aC.ready:∀l:List Env,aC (cA x d) (readyFrames l)
 |[]=>aC.ret _
 |env::outer=>by
  unfold readyFrames
  split
  ·refine aC.then (aC.ld _) fun o=>aC.ite (aC.ret _) (aC.then ?_ fun im=>aC.then ?_ fun bk=>aC.then (aC.up fun o ho=>⟨rfl,by obtain⟨c,dd,dt,sl⟩:=o;cases dt<;>first|rfl|exact ho⟩) fun _=>aC.ready outer)
   ·unfold behindIsImport
    exact aC.ite (aC.ret _) (aC.ite (aC.ret _) (aC.then aC.fld fun _=>aC.ret _))
   ·cases outer with
    |nil =>
     unfold keptBack
     refine aC.ite (aC.ret _) (aC.then ?_ fun _=>aC.ret _)
     unfold underTheClaimsCaller
     exact aC.then aC.stk fun _=>aC.ret _
    |cons c r=>exact aC.ret _
  ·exact aC.no _
theorem aC.frame{env:Env}:aC (cA x d) (PySem.frameOf env):=by
 unfold PySem.frameOf
 refine aC.then (aC.then aC.stk fun _=>aC.ret _) fun l=>aC.then ?_ fun r=>?_
 ·generalize l.dropWhile (fun y=>y.frame != env.frame)=l2
  cases l2 with
  |nil=>exact aC.ret _
  |cons e r=>exact aC.then (aC.ready (e::r)) fun _=>aC.ret _
 ·split
  ·exact aC.ret _
  ·exact aC.no _
theorem aC.entry{a b c e f:Value}{pl:List Value}:aC (cA x d) (EntryCells.newEntry a b c e f pl):=by
 unfold EntryCells.newEntry newFields newObj
 have st:∀(dt:Data) (dd:Option Addr),aC (cA x d) (newObjAsIs (.type "traceback") dt dd):=fun dt dd=>by
  unfold newObjAsIs
  exact aC.then aC.new fun a=>aC.ret _
 exact aC.ite (aC.then (aC.no _) fun _=>st _ _) (st _ _)
theorem aC.note{e:Value}{env:Env}:aC (cA x d) (noteFrame e env):=by
 unfold noteFrame
 split
 ·rename_i fr _
  refine aC.then aC.fld fun hd=>?_
  have go:aC (cA x d) (do setField e 1 (<-EntryCells.newEntry hd (<-PySem.frameOf env) .none (rawInt fr) .none (<-entryPlaceOf fr (hd != .none)))) :=
   aC.then aC.frame fun _=>aC.then (by
    unfold entryPlaceOf
    refine aC.then aC.stk fun _=>?_
    split
    ·exact aC.ret _
    ·exact aC.ret _) fun _=>aC.then aC.entry fun _=>aC.setF
  exact aC.ite (aC.then aC.fld fun _=>aC.ite (aC.ret _) (aC.then aC.setF fun _=>go)) go
 ·exact aC.no _
theorem aC.leave{e:Value}{env:Env}:aC (cA x d) (leaving env e):=by
 unfold leaving
 exact aC.then aC.note fun _=>aC.flight
end
section
variable{P:Program}{w:World}
theorem cr.there{H:Hp}{h:Heap}{a:Addr}{o:HO}(x:cr P w H h a o):∃u,h.get? a=some u:=by
 cases o with
 |lst xs=>obtain⟨_,_,_,_,e⟩:=x;exact⟨_,e⟩
 |tup xs=>obtain⟨_,_,_,ob,e,_⟩:=x;exact⟨_,e⟩
 |dK kvs=>obtain⟨_,_,_,_,o,_,_,e,_⟩:=x;exact⟨_,e⟩
 |dT kvs=>obtain⟨_,_,_,_,o,_,_,e,_⟩:=x;exact⟨_,e⟩
 |set S n=>obtain⟨o,_,_,_,e,_⟩:=x;exact⟨_,e⟩
 |ins C dx fs=>obtain⟨_,_,_,e,_⟩:=x;exact⟨_,e⟩
 |own y=>exact x
 |xd fs=>obtain⟨_,⟨_,_,_,e,_⟩,_⟩:=x;exact⟨_,e⟩
 |rng lo hi=>obtain⟨_,_,_,e⟩:=x;exact⟨_,e⟩
 |frz ob u=>obtain⟨e,_⟩:=x;exact⟨_,e⟩
 |tbl ps=>exact⟨_,(show h.get? a=some _ from x)⟩
 |met f y=>exact⟨_,(show h.get? a=some _ from x)⟩
 |ext φ=>obtain⟨_,e,_⟩:=x;exact e
structure Fly(P:Program)(w:World)(outer:List Env)(H:Hp)(s:Shared)(x:Addr)(cls:Value)(H':Hp)(s':Shared):Prop where
 os:s'.os=s.os
 bare:AllBare s'.gens
 un:Un (frs outer) [] H H' s.heap s'.heap
 hok:HOk P w H' s'.heap
 fl:∃B a0,Heap.FlyingW B outer x cls a0 s'.heap/\(∀b o,H' b=some o->∃u,B.get? b=some u)/\∀b o,s.heap.get? b=some o->b∉frs outer->∃u,B.get? b=some u
 free:H' x=none
def CX1(P:Program)(w:World):CXT:=fun outer H s E e s'=>∃x cls d H',e=.ref x/\Fly P w outer H s x cls H' s'/\cA x d s'/\E cls d H'
end
section
variable{X:Cx}{pins:List (Addr × Obj)}{σ:St}{H H':Hp}{s s':Shared}{x:Addr}{cls:Value}{E:Value->Shared->Prop}{Q:Unit->Shared->Prop}
theorem Inv.notSt(I:Inv X pins σ H s){b:Addr}(h1:b≠X.env.locals)(h2:b∉X.fs):b∉frs X.stack:=fun z=>(List.mem_cons.mp (I.stkSub b z)).elim h1 h2
theorem Inv.oldL(I:Inv X pins σ H s){b:Addr}{o:Obj}(e:X.s₀.heap.get? b=some o):b≠X.env.locals:=Nat.ne_of_lt (Nat.lt_of_lt_of_le (Heap.lt_size e) I.ok.above)
theorem Fly.leave(I:Inv X pins σ H s)(hst:X.stack=X.env::X.outer)(hfr:X.env.frame=some X.env.locals)(hex:X.ex=[])(f:Fly X.prog X.w X.stack H s x cls H' s'){d:Option Addr}(hdi:cA x d s')
  (hQ:∀s'',Fly X.prog X.w X.outer X.H₀ X.s₀ x cls H' s''->cA x d s''->Q () s''):wpAny (model X.prog X.w) X.A (leaving X.env (.ref x)) Q E s':=by
 refine wpAny_mono (aC.leave.wpAny (E:=E) (Q:=fun _ s''=>Fly X.prog X.w X.outer X.H₀ X.s₀ x cls H' s'') hdi ?_) (fun _ s'' z=>hQ s'' z.1 z.2) fun _ _ z=>z.1
 obtain⟨B,a0,fl,c1,c2⟩:=f.fl
 rw [hst] at fl
 have nx:∀b:Addr,b∉X.ex:=fun b=>by rw [hex];simp
 refine wpAny_leaves_onW (by rw [I.ok.frames,hst]) hfr fl fun h' fl' up=>?_
 have st:∀b o,B.get? b=some o->h'.get? b=some o:=fl'.1
 have same:∀b u v,B.get? b=some u->s'.heap.get? b=some v->u=v:=fun b u v h1 h2=>by
  have h3:=fl.1 b u h1
  rw [h2] at h3
  exact(Option.some.inj h3).symm
 have slot:∀b o,X.s₀.heap.get? b=some o->X.H₀ b=none->b∈X.fs->∃sl,h'.get? b=some { o with slots:=sl }:=fun b o e n hb=>by
  obtain⟨sl,e1⟩:=I.base.slot b o e n hb (nx b)
  obtain⟨sl2,e2⟩:=f.un.any e1 (I.base.free b o e n (nx b)) (by simp)
  obtain⟨_,of,ho,hnf⟩:=I.ok.funs.mem hb
  rw [e] at ho
  cases ho
  obtain⟨sl3,e3⟩:=up b _ e2 hnf
  exact⟨sl3,e3⟩
 refine⟨f.os.trans I.os,f.bare,⟨fun b o e n hb _=>?_,fun b o e n hb _=>slot b o e n hb,fun b o e n _=>?_,fun b o e _=>?_,fun b xs e=>f.un.tups b xs (I.base.tups b xs e),fun b o u e=>f.un.frzs b o u (I.base.frzs b o u e),fun b ps e=>?_⟩,fun a o e=>?_,⟨B,a0,fl',c1,fun b o e hb=>?_⟩,f.free⟩
 ·have e1:=I.base.keep b o e n hb (nx b)
  have n1:=I.base.free b o e n (nx b)
  have hb':=I.notSt (I.oldL e) hb
  have e2:=f.un.keep b o e1 n1 hb' (by simp)
  obtain⟨u,hu⟩:=c2 b o e1 hb'
  exact same b u o hu e2▸st b u hu
 ·obtain⟨o',e1⟩:=I.base.there b o e (nx b)
  exact f.un.free b o' e1 (I.base.free b o e n (nx b)) (by simp)
 ·by_cases hb:b∈X.fs
  ·obtain⟨sl,e1⟩:=slot b o e (I.ok.frf b hb) hb
   exact⟨_,e1⟩
  ·obtain⟨o',e1⟩:=I.base.there b o e (nx b)
   obtain⟨u,hu⟩:=c2 b o' e1 (I.notSt (I.oldL e) hb)
   exact⟨u,st b u hu⟩
 ·obtain⟨m1,e1⟩:=I.base.tbls b ps e
  obtain⟨m2,e2⟩:=f.un.tbls b _ e1
  exact⟨m1++m2,by rw [e2,Array.append_assoc]⟩
 ·refine(f.hok a o e).stay (fun b u hb q=>?_) (fun _ q=>q) fun _ _ q=>q
  have t:∃o',H' b=some o':=by
   rcases hb with z|z
   ·exact⟨o,by rw [z];exact e⟩
   ·exact⟨_,z⟩
  obtain⟨o',e'⟩:=t
  obtain⟨v,hv⟩:=c1 b o' e'
  exact same b v u hv q▸st b v hv
 ·obtain⟨o',e1⟩:=I.base.there b o e (nx b)
  exact c2 b o' e1 (I.notSt (I.oldL e) hb)
theorem Fly.first{oe:Obj}{vs:Array Value}{a0:Value}(I:Inv X pins σ H s)(hst:X.stack=X.env::X.outer)(hfr:X.env.frame=some X.env.locals)(hex:X.ex=[])(hx:s.heap.get? x=some oe)(hcl:oe.cls=cls)(hdt:oe.data=.fields vs)
  (h1:vs[1]?=some .none) (h0:vs[0]?=some a0) (hn:X.s₀.heap.get? x=none) (hH:H x=none)
  (hQ:∀s'',Fly X.prog X.w X.outer X.H₀ X.s₀ x cls H s''->cA x oe.dict s''->Q () s''):wpAny (model X.prog X.w) X.A (leaving X.env (.ref x)) Q E s:=by
 have nx:∀b:Addr,b∉X.ex:=fun b=>by rw [hex];simp
 refine wpAny_mono (aC.leave.wpAny (E:=E) (Q:=fun _ s''=>Fly X.prog X.w X.outer X.H₀ X.s₀ x cls H s'') ⟨oe,hx,rfl⟩ ?_) (fun _ s'' z=>hQ s'' z.1 z.2) fun _ _ z=>z.1
 have hl:s.heap.FunFrames (W.hideAll s.heap (x::frs X.stack)) (X.env::X.outer) :=
  W.funFrames_hide (base:=X.base) (by rw [<-hst];exact I.stack) fun env he a hf=>by
   rw [hst]
   exact .tail _ (List.mem_filterMap.mpr ⟨env,he,hf⟩)
 have hen:(W.hideAll s.heap (x::frs X.stack)).get? x=none:=W.hideAll_none _ (.head _)
 refine wpAny_leaving_firstW (a0:=a0) (by rw [I.ok.frames,hst]) hl hfr hx (fun b o q=>W.of_hideAll _ q) hen hdt h1 h0 fun h' hL=>?_
 obtain⟨k1,⟨_,_,k2⟩,k3,up⟩:=hL
 rw [hcl] at k3
 have st:∀b o,s.heap.get? b=some o->b∉frs X.stack->b≠x->h'.get? b=some o:=fun b o e hb hbx=>k1 b o (W.hideAll_get _ e fun z=>(List.mem_cons.mp z).elim hbx hb)
 have old:∀b o,X.s₀.heap.get? b=some o->b≠x:=fun b o e z=>by rw [z,hn] at e;cases e
 have slot:∀b o,X.s₀.heap.get? b=some o->X.H₀ b=none->b∈X.fs->∃sl,h'.get? b=some { o with slots:=sl }:=fun b o e n hb=>by
  obtain⟨sl,e1⟩:=I.base.slot b o e n hb (nx b)
  obtain⟨_,of,ho,hnf⟩:=I.ok.funs.mem hb
  rw [e] at ho
  cases ho
  obtain⟨sl3,e3⟩:=up b _ e1 hnf
  exact⟨sl3,e3⟩
 have trk:∀b o,H b=some o->b∉frs X.stack/\b≠x:=fun b o e=>⟨fun z=>(by rw [I.stkFree b z] at e;cases e),fun z=>(by rw [z,hH] at e;cases e)⟩
 refine⟨I.os,I.bare,⟨fun b o e n hb _=>st b o (I.base.keep b o e n hb (nx b)) (I.notSt (I.oldL e) hb) (old b o e),fun b o e n hb _=>slot b o e n hb,fun b o e n _=>I.base.free b o e n (nx b),fun b o e _=>?_,I.base.tups,I.base.frzs,I.base.tbls⟩,fun a o e=>?_,⟨_,_,⟨k1,hen,k2,k3⟩,fun b o e=>?_,fun b o e hb=>?_⟩,hH⟩
 ·by_cases hb:b∈X.fs
  ·obtain⟨sl,e1⟩:=slot b o e (I.ok.frf b hb) hb
   exact⟨_,e1⟩
  ·obtain⟨o',e1⟩:=I.base.there b o e (nx b)
   exact⟨o',st b o' e1 (I.notSt (I.oldL e) hb) (old b o e)⟩
 ·refine(I.hok a o e).stay (fun b u hb q=>?_) (fun _ q=>q) fun _ _ q=>q
  have hb':∃o',H b=some o':=by
   rcases hb with z|z
   ·exact⟨o,by rw [z];exact e⟩
   ·exact⟨_,z⟩
  obtain⟨o',e'⟩:=hb'
  exact st b u q (trk b o' e').1 (trk b o' e').2
 ·obtain⟨u,hu⟩:=(I.hok b o e).there
  exact⟨u,W.hideAll_get _ hu fun z=>(List.mem_cons.mp z).elim (trk b o e).2 (trk b o e).1⟩
 ·obtain⟨o',e1⟩:=I.base.there b o e (nx b)
  exact⟨o',W.hideAll_get _ e1 fun z=>(List.mem_cons.mp z).elim (old b o e) (I.notSt (I.oldL e) hb)⟩
theorem Fly.made{h1:Heap}{vs:List Value}(I:Inv X pins σ H s)(hst:X.stack=X.env::X.outer)(hfr:X.env.frame=some X.env.locals)(hex:X.ex=[])(hx:Heap.MadeExcOf s.heap h1 x cls vs)
  (hQ:∀s'',Fly X.prog X.w X.outer X.H₀ X.s₀ x cls H s''->cA x none s''->Q () s''):wpAny (model X.prog X.w) X.A (leaving X.env (.ref x)) Q E { s with heap:=h1 }:=by
 obtain⟨t,he,_,_⟩:=hx.there
 have I1:Inv X pins σ H { s with heap:=h1 }:=I.kept hx.keeps
 refine Fly.first I1 hst hfr hex he rfl rfl rfl rfl ?_ ?_ hQ
 ·cases q:X.s₀.heap.get? x with
  |none=>rfl
  |some o =>
   obtain⟨u,hu⟩:=I.base.there x o q (by rw [hex];simp)
   have:=hx.new
   rw [hu] at this
   cases this
 ·cases q:H x with
  |none=>rfl
  |some o =>
   obtain⟨u,hu⟩:=(I.hok x o q).there
   have:=hx.new
   rw [hu] at this
   cases this
end
section
variable{P:Program}{w:World}{K:W.Frag}{mg:Str->Option Value}{base:Heap}{N:List Str}{qual:Str}{scope:Scope}{f:Addr}{cd:Value}{A:Around}{outer:List Env}{s:Shared}{H:Hp}{E:XK}
theorem gN:fX (CX1 P w) (ee (CX1 P w) P w K mg base N qual scope f cd A outer s H E) E:=fun pins σ H1 s1 e s' I h=>by
 obtain⟨x,cls,d,H',rfl,fl,hd,hE⟩:=h
 exact Fly.leave I rfl rfl rfl fl hd fun s'' g gd=>⟨x,cls,d,H',rfl,g,gd,hE⟩
end
theorem vF{K:W.Frag}{h:Heap}{mg:Str->Option Value}{c:Str}{C:Addr}{bmB:List Value}{newId:String}(kin:K.In h)(hm:mg c=some (.ref C))(q:W.excIn K C bmB newId=true):OwnCls c C bmB newId mg h:=by
 refine⟨hm,?_⟩
 unfold W.excIn at q
 split at q
 next ddx cdx slx look =>
  split at q
  next C2 tl z0 z1 z2 z3 nn z5 hmro hsl =>
   simp only [Bool.not_eq_true',Bool.and_eq_true,beq_iff_eq] at q
   obtain⟨⟨⟨⟨⟨e1,e2⟩,hdel⟩,htl⟩,hok⟩,hni⟩:=q
   obtain⟨nm,bs,mro,ns,qn,hd,sn,sub,ab,col,del⟩:=cdx
   obtain⟨sll⟩:=slx
   dsimp only at hmro hdel hok hni hsl
   subst e1 e2 hmro hdel hsl
   exact⟨tl,ns,nm,qn,bs,hd,sn,sub,ab,col,ddx,z0,z1,z2,z3,z5,_,kin _ _ look,.of_isNs (W.isNs_of_in kin hok),W.nsMap_none_of_in kin hok hni,W.tail_of_in kin htl⟩
  next=>cases q
 next=>cases q
abbrev kX:List Value:=[.type "ValueError",.type "Exception",.type "BaseException",.type "object"]
theorem xc{X:Cx}{c:Str}{C:Addr}{e₀:Expr}{es:List Expr}{np cpos pos:Pos}{ta:TA}{W:St->Hp->Prop}(hc:X.calm=true)(hg:Gl X c)(hm:X.mg c=some (.ref C)) (q:PySem.W.excIn X.K C kX "ValueError.__new__"=true)
  (ha:PA X (e₀::es) ta) (hW:∀(pins:List (Addr × Obj)) (σ:St) (H:Hp) (s:Shared) (e:Addr) (h1:Heap) (vs:List Value),Inv X pins σ H s->W σ H->Heap.MadeExcOf s.heap h1 e (.ref C) vs->X.xe (.ref e) { s with heap:=h1 })
  (hd:(c==("__debug__":Str))=false:=by decide) (he:starEach (e₀::es) X.env=(false,eval e₀ X.env)::starEach es X.env:=by rfl) (hpl:(backTo cpos (starEach es X.env)).any (·.1)=false:=by rfl) :
  PS X (.Raise (some (.Call (.Name c np) (e₀::es) [] cpos)) none pos) (fun _ σ H=>ta σ H fun vs H1=>vs.length<=sizeLine/\W σ H1):=by
 intro pins s σ H D I h
 obtain⟨tl,N,nm,qq,bs,hdct,sn,sub,ab,col,dd,k0,k1,k2,k3,k5,mN,hC,hN,hni,T⟩:=(vF I.mod.kin hm q).obj
 refine wpAny_Raise_call_subU (C:=C) (nm:=nm) (q:=qq) (N:=N) (bs:=bs) (bm:=tl) (hdct:=hdct) (sn:=sn) (sub:=sub) (ab:=ab) (col:=col) (dd:=dd) (k0:=k0) (k1:=k1) (k2:=k2) (k3:=k3) (k5:=k5)
  PySem.F.excBase_ValueError (by decide +kernel) PySem.F.excBase_ValueError (mN:=mN) (T.hasType PySem.F.excBase_ValueError.hasBase) (I.ok.hd hc) ?_ hni (gU I hg hm ⟨rfl,?_⟩ hd)
 ·rw [he]
  show(false||(backTo cpos (starEach es X.env)).any (·.1))=false
  rw [hpl]
  rfl
 ·have h2:=ha cpos pins s σ H _ I h
  rw [he] at h2 ⊢
  refine Calls.evalArgs_plain (wpAny_mono h2 (fun us s2 ⟨vs,H1,I1,rv,hl,hw⟩=>⟨rfl,?_,I1.bk _ _ hC,hN.keeps I1.bk,T.keeps I1.bk,fun h' e hx=>hW pins σ H1 s2 e h' us I1 hw hx⟩) fun _ _ z=>z)
  rw [<-rv.length]
  exact hl
section
variable{P:Program}{w:World}{K:W.Frag}{mg:Str->Option Value}{base:Heap}
theorem eF{N:List Str}{qual:Str}{scope:Scope}{f:Addr}{cd:Value}{A:Around}{outer:List Env}{s:Shared}{H:Hp}{E:XK}{c:Str}{C:Addr}{e₀:Expr}{es:List Expr}{np cpos pos:Pos}{ta:TA}
  (hg:Gl (ee (CX1 P w) P w K mg base N qual scope f cd A outer s H E) c) (hm:mg c=some (.ref C)) (q:PySem.W.excIn K C kX "ValueError.__new__"=true) (ha:PA (ee (CX1 P w) P w K mg base N qual scope f cd A outer s H E) (e₀::es) ta)
  (hd:(c==("__debug__":Str))=false:=by decide) (he:starEach (e₀::es) (envOfC qual scope s.heap.objs.size f cd)=(false,eval e₀ (envOfC qual scope s.heap.objs.size f cd))::starEach es (envOfC qual scope s.heap.objs.size f cd):=by rfl)
  (hpl:(backTo cpos (starEach es (envOfC qual scope s.heap.objs.size f cd))).any (·.1)=false:=by rfl) :
  PS (ee (CX1 P w) P w K mg base N qual scope f cd A outer s H E) (.Raise (some (.Call (.Name c np) (e₀::es) [] cpos)) none pos) (fun _ σ H=>ta σ H fun vs H1=>vs.length<=sizeLine/\E (.ref C) none H1) :=
 xc (X:=ee (CX1 P w) P w K mg base N qual scope f cd A outer s H E) (W:=fun _ H1=>E (.ref C) none H1) rfl hg hm q ha (fun pins σ H s e h1 vs I hw hx=>Fly.made I rfl rfl rfl hx fun s'' g gd=>⟨e,.ref C,none,H,rfl,g,gd,hw⟩) hd he hpl
theorem Fun.okX{x qual:Str}{st:Stmt}{f:Addr}{fd:FuncData}{N ps:List Str}{k:Nat}{sp:Sp}(F:Fun K x qual st f fd)(S:aO N ps (ah st))(len:∀vs H Q E,sp vs H Q E->vs.length=ps.length)
  (hbody:∀(cdv:Value) (A:Around) (outer:List Env) (s:Shared) (H:Hp) (vs:List V) (Q:VK) (E:XK),cG k (A.deeper (envOfC qual (ah st) s.heap.objs.size f cdv))->sp vs H Q E ->
   ∃t,PSs (ee (CX1 P w) P w K mg base N qual (ah st) f cdv A outer s H E) (ar st) t/\t { nx:=fun _ H'=>Q .non H',rt:=Q } (start N vs) H):bq P w K mg base (CX1 P w) (k+1) f fd ps sp:=by
 obtain⟨oc,od,kV,doc,pm,an,cdv,ct,osl,rfl,lk,hcd⟩:=F.ex
 exact y9 lk hcd S len fun A outer s H vs Q E hr hsp=>hbody cdv A outer s H vs Q E hr hsp
end
section
variable{X:Cx}{pins:List (Addr × Obj)}{σ:St}{H H':Hp}{s s':Shared}{x:Addr}{cls:Value}
theorem Fly.on{h':Heap}(f:Fly X.prog X.w X.stack H s x cls H' s')(I:Inv X pins σ H s){B:Heap}{a0 a1:Value}(fl:Heap.FlyingW B X.stack x cls a0 s'.heap)(c1:∀b o,H' b=some o->∃u,B.get? b=some u)
  (c2:∀b o,s.heap.get? b=some o->b∉frs X.stack->∃u,B.get? b=some u) (fl':Heap.FlyingW B X.stack x cls a1 h') (up:s'.heap.UpToSlots h'):Fly X.prog X.w X.stack H s x cls H' { s' with heap:=h' }:=by
 have st:∀b o,B.get? b=some o->h'.get? b=some o:=fl'.1
 have same:∀b u v,B.get? b=some u->s'.heap.get? b=some v->u=v:=fun b u v h1 h2=>by
  have h3:=fl.1 b u h1
  rw [h2] at h3
  exact(Option.some.inj h3).symm
 have slot:∀b o,s.heap.get? b=some o->H b=none->b∈frs X.stack->∃sl,h'.get? b=some { o with slots:=sl }:=fun b o e n hb=>by
  obtain⟨sl2,e2⟩:=f.un.any e n (by simp)
  obtain⟨_,of,ho,hnf⟩:=I.stack.mem hb
  rw [e] at ho
  cases ho
  obtain⟨sl3,e3⟩:=up b _ e2 hnf
  exact⟨sl3,e3⟩
 refine⟨f.os,f.bare,⟨fun b o e n hb _=>?_,fun b o e n hb _=>slot b o e n hb,f.un.free,fun b o e _=>?_,f.un.tups,f.un.frzs,f.un.tbls⟩,fun a o e=>?_,⟨B,a1,fl',c1,c2⟩,f.free⟩
 ·have e2:=f.un.keep b o e n hb (by simp)
  obtain⟨u,hu⟩:=c2 b o e hb
  exact same b u o hu e2▸st b u hu
 ·by_cases hb:b∈frs X.stack
  ·obtain⟨sl,e1⟩:=slot b o e (I.stkFree b hb) hb
   exact⟨_,e1⟩
  ·obtain⟨u,hu⟩:=c2 b o e hb
   exact⟨u,st b u hu⟩
 ·refine(f.hok a o e).stay (fun b u hb q=>?_) (fun _ q=>q) fun _ _ q=>q
  have t:∃o',H' b=some o':=by
   rcases hb with z|z
   ·exact⟨o,by rw [z];exact e⟩
   ·exact⟨_,z⟩
  obtain⟨o',e'⟩:=t
  obtain⟨v,hv⟩:=c1 b o' e'
  exact same b v u hv q▸st b v hv
theorem Fly.inv(f:Fly X.prog X.w X.stack H s x cls H' s')(I:Inv X pins σ H s):Inv X pins σ H' s':=I.call' (ch:=[]) f.os f.un f.hok f.bare fun b z=>absurd z (by simp)
theorem Fly.there(f:Fly X.prog X.w X.stack H s x cls H' s'):∃ob,s'.heap.get? x=some ob/\ob.cls=cls:=by
 obtain⟨B,a0,fl,_⟩:=f.fl
 exact fl.there
theorem Fly.again{A:Around}{E:Value->Shared->Prop}{Q:Unit->Shared->Prop}(f:Fly X.prog X.w X.stack H s x cls H' s')(I:Inv X pins σ H s){d:Option Addr}(hdi:cA x d s')(hQ:∀s'',Fly X.prog X.w X.stack H s x cls H' s''->cA x d s''->Q () s'') :
  wpAny (model X.prog X.w) A (setFlight (.ref x) none) Q E s':=by
 refine wpAny_mono (aC.flight.wpAny (E:=E) (Q:=fun _ s''=>Fly X.prog X.w X.stack H s x cls H' s'') hdi ?_) (fun _ s'' z=>hQ s'' z.1 z.2) fun _ _ z=>z.1
 obtain⟨B,a0,fl,c1,c2⟩:=f.fl
 exact lands_againW fl fun h' fl' up=>f.on I fl c1 c2 fl' up
theorem Fly.look{E E2:Value->Shared->Prop}{Q:Unit->Shared->Prop}(f:Fly X.prog X.w X.stack H s x cls H' s')(I:Inv X pins σ H s)(hst:X.stack=X.env::X.outer)(hfr:X.env.frame=some X.env.locals){d:Option Addr}(hdi:cA x d s')
  (hQ:∀s'',Fly X.prog X.w X.stack H s x cls H' s''->cA x d s''->Q () s''):wpAny (model X.prog X.w) X.A (noteFrame (.ref x) X.env) (fun _ s2=>wpAny (model X.prog X.w) X.A (setFlight (.ref x) none) Q E2 s2) E s':=by
 obtain⟨B,a0,fl,c1,c2⟩:=f.fl
 have fl0:=fl
 rw [hst] at fl
 refine wpAny_mono (aC.note.wpAny (E:=E) (Q:=fun _ s2=>wpAny (model X.prog X.w) X.A (setFlight (.ref x) none) (fun _ s''=>Fly X.prog X.w X.stack H s x cls H' s'') E2 s2) hdi ?_) (fun _ s2 z=>?_) fun _ _ z=>z.1
 ·refine wpAny_looks_onW (by rw [I.ok.frames,hst]) hfr fl fun h' hd up=>?_
  refine wpAny_landsW hd fun h2 fl2 up2=>?_
  rw [<-hst] at fl2
  exact f.on I fl0 c1 c2 fl2 (up.trans up2)
 ·exact wpAny_mono (aC.flight.wpAny z.2 z.1) (fun _ s'' y=>hQ s'' y.1 y.2) fun _ _ y=>y.1
end
abbrev Cx.inE(X:Cx)(e:Addr):Cx:={ X with A:=X.A.mark (some (.ref e)),calm:=false }
section
variable{X:Cx}{pins:List (Addr × Obj)}{σ:St}{H:Hp}{s:Shared}
theorem Cx.Ok.inE{e:Addr}(ok:X.Ok):(X.inE e).Ok:=⟨ok.mod,ok.kind,ok.glob,ok.blt,ok.above,ok.inj,ok.has,ok.cab,fun z=>absurd z (by simp),ok.frames,ok.stk,ok.exf,ok.bs,ok.bsz,ok.noex,ok.exfs,ok.funs,ok.frf⟩
theorem Inv.inE{e:Addr}(I:Inv X pins σ H s):Inv (X.inE e) pins σ H s:=⟨I.ok.inE,I.os,I.bare,I.base,I.loc,I.cell,I.free,I.freeC,I.pin,I.hok,I.len⟩
theorem Inv.outE{e:Addr}{E:Value->Shared->Prop}(ok:X.Ok)(I:Inv ((X.inE e).wish E) pins σ H s):Inv X pins σ H s:=⟨ok,I.os,I.bare,I.base,I.loc,I.cell,I.free,I.freeC,I.pin,I.hok,I.len⟩
theorem SP.outE{e:Addr}{E:Value->Shared->Prop}{D:fZ}{f:Flow}{s':Shared}(ok:X.Ok)(h:SP ((X.inE e).wish E) pins D f s'):SP X pins D f s':=by
 cases f with
 |next=>obtain⟨σ',H',I,q⟩:=h;exact⟨σ',H',I.outE ok,q⟩
 |brk=>obtain⟨σ',H',I,q⟩:=h;exact⟨σ',H',I.outE ok,q⟩
 |cont=>obtain⟨σ',H',I,q⟩:=h;exact⟨σ',H',I.outE ok,q⟩
 |ret u=>obtain⟨v,σ',H',I,r,q⟩:=h;exact⟨v,σ',H',I.outE ok,r,q⟩
end
abbrev TH:=fZ->Value->Option Addr->Addr->St->Hp->Prop
def PH(X:Cx)(hs:List ExceptHandler)(t:TH):Prop :=
 ∀(pins:List (Addr × Obj)) (σ:St) (H H':Hp) (s s':Shared) (D:fZ) (cls:Value) (d:Option Addr) (e:Addr),Inv X pins σ H s->Fly X.prog X.w X.stack H s e cls H' s'->cA e d s'->t D cls d e σ H' ->
  wpAny (model X.prog X.w) X.A (handleBy (.ref e) X.env hs) (SP X pins D) X.xe s'
theorem AH{X:Cx}:PH X [] (fun _ _ _ _ _ _=>False):=fun _ _ _ _ _ _ _ _ _ _ _ _ _ h=>h.elim
def DE(X:Cx)(hs:List ExceptHandler)(pins:List (Addr × Obj))(D:fZ):Value->Shared->Prop:=fun e s1 =>
 wpAny (model X.prog X.w) X.A (noteFrame e X.env) (fun _ s2=>wpAny (model X.prog X.w) X.A (setFlight e none) (fun _ s3=>wpAny (model X.prog X.w) X.A (handleBy e X.env hs) (SP X pins D) X.xe s3) X.xe s2) X.xe s1
abbrev Cx.tryIn(X:Cx)(hs:List ExceptHandler)(pins:List (Addr × Obj))(D:fZ):Cx:={ X with pn:=X.pn++pins,xe:=DE X hs pins D }
section
variable{X:Cx}{hs:List ExceptHandler}{pins pins':List (Addr × Obj)}{D D':fZ}{σ:St}{H:Hp}{s:Shared}
theorem Cx.Ok.tryIn(ok:X.Ok):(X.tryIn hs pins D).Ok:=⟨ok.mod,ok.kind,ok.glob,ok.blt,ok.above,ok.inj,ok.has,ok.cab,ok.hd,ok.frames,ok.stk,ok.exf,ok.bs,ok.bsz,ok.noex,ok.exfs,ok.funs,ok.frf⟩
theorem Cx.Ok.tryOut(ok:(X.tryIn hs pins D).Ok):X.Ok:=⟨ok.mod,ok.kind,ok.glob,ok.blt,ok.above,ok.inj,ok.has,ok.cab,ok.hd,ok.frames,ok.stk,ok.exf,ok.bs,ok.bsz,ok.noex,ok.exfs,ok.funs,ok.frf⟩
theorem Inv.tryIn(I:Inv X pins σ H s):Inv (X.tryIn hs pins D) [] σ H s:=⟨I.ok.tryIn,I.os,I.bare,I.base,I.loc,I.cell,I.free,I.freeC,fun p hp=>I.pin p (by simpa using hp),I.hok,I.len⟩
theorem Inv.tryOut(I:Inv (X.tryIn hs pins D) pins' σ H s):Inv X pins σ H s:=⟨I.ok.tryOut,I.os,I.bare,I.base,I.loc,I.cell,I.free,I.freeC,fun p hp=>I.pin p (List.mem_append_left _ hp),I.hok,I.len⟩
theorem SP.tryOut{f:Flow}{s':Shared}(h:SP (X.tryIn hs pins D') [] D f s'):SP X pins D f s':=by
 cases f with
 |next=>obtain⟨σ',H',I,q⟩:=h;exact⟨σ',H',I.tryOut,q⟩
 |brk=>obtain⟨σ',H',I,q⟩:=h;exact⟨σ',H',I.tryOut,q⟩
 |cont=>obtain⟨σ',H',I,q⟩:=h;exact⟨σ',H',I.tryOut,q⟩
 |ret u=>obtain⟨v,σ',H',I,r,q⟩:=h;exact⟨v,σ',H',I.tryOut,r,q⟩
end
theorem BS{X:Cx}{body:List Stmt}{h₀:ExceptHandler}{hs:List ExceptHandler}{pos:Pos}{tb:fZ->TS}(hb:∀pins D,PSs (X.tryIn (h₀::hs) pins D) body (tb D)):PS X (.Try body (h₀::hs) [] [] pos) (fun D σ H=>tb D D σ H):=by
 intro pins s σ H D I h
 refine wpAny_Try_except (wpAny_mono (hb pins D [] s σ H D I.tryIn h) (fun f s1 q=>?_) fun _ _ z=>z)
 have q':=SP.tryOut q
 cases f with
 |next=>exact wpAny_execs_nil q'
 |brk=>exact q'
 |cont=>exact q'
 |ret u=>exact q'
theorem Ca{X:Cx}{hs:List ExceptHandler}{pins:List (Addr × Obj)}{D:fZ}{th:TH}(hst:X.stack=X.env::X.outer)(hfr:X.env.frame=some X.env.locals)(hh:PH X hs th) :
  ∀(pins':List (Addr × Obj)) (σ:St) (H:Hp) (s:Shared) (e:Value) (s':Shared),Inv (X.tryIn hs pins D) pins' σ H s->CX1 X.prog X.w X.stack H s (fun cls d H'=>∀x,H' x=none->th D cls d x σ H') e s'->(X.tryIn hs pins D).xe e s':=by
 intro pins' σ H s e s' I h
 obtain⟨x,cls,d,H',rfl,f,hdi,hE⟩:=h
 have I0:Inv X pins σ H s:=I.tryOut
 exact Fly.look f I0 hst hfr hdi fun s'' f2 d2=>hh pins σ H H' s s'' D cls d x I0 f2 d2 (hE x f.free)
section
variable{X:Cx}{CX:CXT}{k:Nat}{f C:Addr}{fd:FuncData}{ps:List Str}{sp:Sp}{dvs:List V}{ds:List Value}{E:St->XK}{x m:Str}{p pos apos:Pos}{e o:Expr}{es:List Expr}{ta:TE}{t:TA}
theorem xC(F:bq X.prog X.w X.K X.mg X.base CX k f fd ps sp)(hr:cG k X.A)(hg:Gl X x)(hm:X.mg x=some (.ref f))(hk:W.keepIn X.K (.ref f)=true)(hb:aV X.K fd ps ds)(hd:cw dvs ds)
  (hx:∀(pins:List (Addr × Obj)) (σ:St) (H:Hp) (s:Shared) (e:Value) (s':Shared),Inv X pins σ H s->CX X.stack H s (E σ) e s'->X.xe e s') (ha:PA X (e::es) t)
  (hdb:(x==("__debug__":Str))=false:=by decide) (he:starEach (e::es) X.env=(false,eval e X.env)::starEach es X.env:=by rfl) (hpl:(backTo pos (starEach es X.env)).any (·.1)=false:=by rfl) :
  PE X (.Call (.Name x p) (e::es) [] pos) (fun σ H Q=>t σ H fun vs H1=>sp (vs++dvs) H1 Q (E σ)):=by
 intro pins s σ H Q I h
 refine wpAny_Call_Name_kw (gU I hg hm ?_ hdb)
 refine W.callWith_K (h₀:=X.base) I.ok.mod.kin hk (thn (ha pos pins s σ H _ I h) fun us s1 ⟨vs,H1,I1,r,q⟩=>⟨I1.kIn,?_⟩) he hpl
 have r2:cw (vs++dvs) (us++ds):=r.append hd
 have hl:(us++ds).length=ps.length:=by rw [<-r2.length];exact F.len _ _ _ _ q
 refine wpAny_call (codeAny_mono (F.run X.A X.stack s1 H1 ⟨us,[]⟩ (us++ds) (vs++dvs) Q (E σ) hr I1.env0 (hb s1 us I1.kIn hl) r2 q) fun r s' hq=>?_)
 cases r with
 |error e=>exact hx pins σ H1 s1 e s' I1 hq
 |ok fl =>
  cases fl with
  |ret u=>exact I1.after hq
  |next=>exact False.elim hq
  |brk=>exact False.elim hq
  |cont=>exact False.elim hq
end
section
variable{X:Cx}{pos:Pos}{e:Expr}{es:List Expr}{te:TE}
abbrev TJ:=St->Hp->(Hp->Prop)->Prop
def PJ(X:Cx)(es:List Expr)(t:TJ):Prop :=
 ∀(pins:List (Addr × Obj)) (s:Shared) (σ:St) (H:Hp) (acc:Str) (Z:Hp->Prop),acc.length+2000000*es.length<=sizeLine->Inv X pins σ H s->t σ H Z ->
  Joins (model X.prog X.w) X.A X.xe (evalEach es X.env) acc (fun out s1=>out.length<=sizeLine/\∃H1,Inv X pins σ H1 s1/\Z H1) s
theorem jh:PJ X [] (fun _ H Z=>Z H):=fun _ _ _ H _ _ hz I h=>⟨Nat.le_trans (Nat.le_add_right _ _) hz,H,I,h⟩
theorem bh{tj:TJ}(he:PE X e te)(hr:PJ X es tj):PJ X (e::es) (fun σ H Z=>te σ H fun v H1=>∃y:Str,v=.str y/\y.length<=2000000/\tj σ H1 Z):=by
 intro pins s σ H acc Z hz I h
 refine thn (he pins s σ H _ I h) fun u s1 ⟨v,H1,I1,r,y,hv,hy,q⟩=>?_
 subst hv
 obtain⟨t,rfl⟩:=r
 have e1:(acc++y).length=acc.length+y.length:=by
  show Array.size (acc.cps++y.cps)=_
  rw [Array.size_append]
  rfl
 have e2:(e::es).length=es.length+1:=rfl
 rw [e2] at hz
 refine⟨y,t,rfl,by omega,hr pins s1 σ H1 (acc++y) Z (by omega) I1 q⟩
theorem gb{v1 v2:Expr}{rest:List Expr}{tj:TJ}(hj:PJ X (v1::v2::rest) tj)(hl:(v1::v2::rest).length<=8) :
  PE X (.JoinedStr (v1::v2::rest) pos) (fun σ H Q=>tj σ H fun H1=>∀z:Str,z.length<=sizeLine->Q (.str z) H1):=by
 intro pins s σ H Q I h
 have hz:Str.empty.length+2000000*(v1::v2::rest).length<=sizeLine:=by
  have e0:Str.empty.length=0:=rfl
  rw [sizeLine_eq,e0]
  rw [Nat.zero_add]
  exact Nat.le_trans (Nat.mul_le_mul_left _ hl) (Nat.le_of_ble_eq_true rfl)
 refine wpAny_JoinedStr ?_
 have j:=hj pins s σ H Str.empty _ hz I h
 exact joins_mono _ _ (fun out s1 ⟨h1,H1,I1,q⟩=>⟨h1,.str out,H1,I1.tok _,⟨_,rfl⟩,q out h1⟩) _ j
where joins_mono {M:Model} {A:Around} {E:Value->Shared->Prop}:∀(parts:List (Sem Value)) (acc:Str) {Q Q':Str->Shared->Prop},(∀out s,Q out s->Q' out s)->∀s,Joins M A E parts acc Q s->Joins M A E parts acc Q' s
 |[],acc,_,_,hq,s,h=>hq _ _ h
 |x::rest,acc,_,_,hq,s,h=>thn (show wpAny _ _ _ _ _ _ from h) fun v s1 ⟨y,t,e1,e2,e3⟩=>⟨y,t,e1,e2,joins_mono rest (acc++y) hq s1 e3⟩
theorem mQ(he:PE X e te):PE X (.FormattedValue e (-1) none pos) (fun σ H Q=>te σ H fun v H1=>(∃y:Str,v=.str y/\y.length<=sizeLine/\Q (.str y) H1)\/∃i:Int,v=.int i/\i.natAbs.log2 < 1920/\Q (.str (toString i)) H1):=by
 intro pins s σ H Q I h
 refine FormattedValue_plain (thn (he pins s σ H _ I h) fun u s1 ⟨v,H1,I1,r,q⟩=>?_)
 rcases q with ⟨y,rfl,hy,q⟩|⟨i,rfl,hi,q⟩
 ·obtain⟨t,rfl⟩:=r
  exact formatField_str (fun t' tk=>⟨.str y,H1,I1.tok _,⟨_,rfl⟩,q⟩) hy
 ·obtain⟨t,rfl⟩:=r
  exact formatField_int_small hi ⟨.str _,H1,I1.tok _,⟨_,rfl⟩,q⟩
theorem AQ(he:PE X e te):PE X (.FormattedValue e 114 none pos) (fun σ H Q=>te σ H fun v H1=>∃y:Str,v=.str y/\PyData.strOk y=true/\y.length<=9000/\∀z:Str,z.length<=100000->Q (.str z) H1):=by
 intro pins s σ H Q I h
 refine wpAny_FormattedValue_repr (thn (he pins s σ H _ I h) fun u s1 ⟨v,H1,I1,r,y,hv,hok,hy,q⟩=>?_)
 subst hv
 obtain⟨t,rfl⟩:=r
 have hl:=StrLaws.reprText_len y fun c hc=>by
  have h1:y.cps.all (· < 0x110000)=true:=hok
  rw [Array.all_eq_true_iff_forall_mem] at h1
  have h2:=h1 c (by simpa using hc)
  have h3:c < 0x110000:=by simpa using h2
  exact Nat.lt_trans h3 (by decide)
 have hz:(reprText y).length<=sizeLine:=Nat.le_trans hl (by rw [sizeLine_eq];omega)
 refine wpAny_pyReprObj_str ?_ hz
 exact formatField_str (fun t' tk=>⟨.str _,H1,(I1.tok _).tok _,⟨_,rfl⟩,q _ (by omega)⟩) hz
end
section
variable{prog:Program}{w:World}{A:Around}{s:Shared}{E:Value->Shared->Prop}{K:Type}[DecidableEq K]{knd:KeyKind prog w K}
end
section
variable{X:Cx}
theorem eW:gM X (.type "dict") (fun xs H Q=>∃a kvs,xs=[.ref a]/\H a=some (.dK kvs)/\∀l,H l=none->Q (.ref l) (upd H l (.dK kvs))):=by
 intro pins s σ H xs us Q I r h
 obtain⟨a,kvs,rfl,ha,q⟩:=h
 obtain⟨u,rfl,ru⟩:=nE r
 cases ru
 obtain⟨z,hd,vs,rel,dd⟩:=oB I.hok ha
 refine PySem.kt_call_dict hd dd (by rw [<-rel.length];exact z) fun h' dd' hs=>?_
 have keep:∀b o,s.heap.get? b=some o->h'.get? b=some o:=fun b o e=>(hs.2 b (Nat.ne_of_lt (Heap.lt_size e))).trans (Heap.get?_push_of_some _ e)
 refine⟨.ref s.heap.objs.size,_,I.laid (o:=.dK kvs) (t':=s.toks) keep (Nat.le_refl _) ⟨z,beq_eq_false_iff_ne.mpr (Ne.symm (Nat.ne_of_lt I.big)),vs,rel,dd'⟩,rfl,q _ (I.hok.fresh (Nat.le_refl _))⟩
end
structure fW(K:W.Frag)(D:Addr):Prop where
 is:(match K.lookup D with|some ⟨_,_,.cls _,_⟩=>true|_=>false)=true
 ga:W.findIn K (.ref D) "__getattribute__"=some (some (.builtin "BaseException.__getattribute__"))
 gh:W.findIn K (.ref D) "__getattr__"=some none
 cl:W.findIn K (.ref D) "__class__"=some (some (.builtin "object.__class__"))
 sp:W.specialIn K (.builtin "object.__class__") "__get__"=some (some (.builtin "getset_descriptor.__get__"))
 tk:W.takesIn K (.builtin "object.__class__")=some true
 ob:W.mroIn K D (.type "object")=some true
 be:W.mroIn K D (.type "BaseException")=some true
section
variable{prog:Program}{w:World}{A:Around}{E:Value->Shared->Prop}{s:Shared}{K:W.Frag}{x D:Addr}
theorem ux{M:Model}{h:Heap}{a g:Value}{nm:Str}(X:K.In h)(ha:W.findIn K (.ref D) nm=some (some a)) (hg:W.specialIn K a "__get__"=some (some g)) (ht:W.takesIn K a=some true) :
  W.Looks M h (Builtin.ObjectAttr.find (.ref x) (.ref D) nm) (.bind g a):=by
 have z1:=W.looks_findIn (M:=M) X ha
 have z2:W.Looks M h (Builtin.ObjectAttr.getOf (some a)) (some g):=W.looks_specialIn X hg
 have z3:=W.looks_takesIn (M:=M) X ht
 have z4:W.Looks M h (Builtin.ObjectAttr.dataDescriptor? (some a) (some g)) (some (g,a)):=z3.andThen .now
 exact z1.andThen (z2.andThen (z4.andThen (W.Looks.tag .now)))
theorem zE{tp:Value}{R:Result->Shared->Prop}(X:K.In s.heap)(LT:W.Looks (model prog w) s.heap (typeOf (.ref x)) (.ref D)) (hm:W.mroIn K D (.type "object")=some true) (h:R (.ok (.ret (.ref D))) s) :
  codeAny (model prog w) A (.call (.builtin "getset_descriptor.__get__") ⟨[.builtin "object.__class__",.ref x,tp],[]⟩) R s:=by
 obtain⟨hh,gs,dr,tt,oss⟩:=s
 have LM:=W.looks_mroIn (M:=model prog w) X hm
 refine codeAny_call_builtin W.KF.slot_gs.plain W.KF.entry_gs (W.KF.slot_gs.check _ _ _ _ _ _ _ _ W.KF.type_class (W.KF.args_gs _ _ _) ?_)
 unfold Builtin.«getset_descriptor.__get__» Builtin.Getset_descriptor.descrGet
 rw [W.dga_obj]
 refine wpAny_bind (wpAny_pure ?_)
 unfold Builtin.Getset_descriptor.descrGetter Builtin.Getset_descriptor.descrCheckInstance Builtin.Getset_descriptor.descrNameAndClass isInstance
 simp only [W.KF.owner_class]
 repeat lk
 refine⟨Code.quiet_builtin _ (by decide +kernel),codeAny_builtin W.KF.entry_class ?_⟩
 unfold Builtin.«object.__class__» shownTypeOf
 repeat lk
 exact h
theorem rV{tk:Tok}{R:Result->Shared->Prop}(c:fW K D)(X:K.In s.heap)(LT:W.Looks (model prog w) s.heap (typeOf (.ref x)) (.ref D))(h:R (.ok (.ret (.ref D))) s) :
  codeAny (model prog w) A (.call (.builtin "BaseException.__getattribute__") ⟨[.ref x,.str "__class__" tk],[]⟩) R s:=by
 obtain⟨hh,gs,dr,tt,oss⟩:=s
 have LF:=ux (M:=model prog w) (x:=x) X c.cl c.sp c.tk
 have LI:W.Looks (model prog w) hh (isInstance (.ref x) (.type "BaseException")) true:=LT.andThen (W.looks_mroIn (M:=model prog w) X c.be)
 have hk:builtinKind "BaseException.__getattribute__"=some Manifest.AttrKind.slot:=by decide +kernel
 have hsp:splitId "BaseException.__getattribute__"=some ("BaseException","__getattribute__"):=by decide +kernel
 refine codeAny_call_builtin PySem.F.attr_ValueError.ga.plain PySem.F.entry_bexc_ga ?_
 simp only [checkBuiltinCall,hk,hsp]
 have hargs:=PySem.F.args_bexc_ga (.ref x) (.str "__class__" tk)
 refine wpAny_bind (LI.at ?_)
 first
  |(rw [if_neg (by decide)];refine wpAny_of_eq hargs ?_)
  |refine wpAny_of_eq hargs ?_
 unfold Builtin.«object.__getattribute__»
 refine wpAny_bind (wpAny_pure (wpAny_bind (wpAny_pure (wpAny_bind (LT.at (wpAny_bind (LF.at ?_)))))))
 show wpAny _ _ (holding [.builtin "object.__class__"] (call (.builtin "getset_descriptor.__get__") [.builtin "object.__class__",.ref x,.ref D]) >>= ret) _ _ _
 exact wpAny_bind (wpAny_holding (wpAny_call (zE X LT c.ob (wpAny_pure h))))
theorem uM{Q:Option Value->Shared->Prop}(c:fW K D)(X:K.In s.heap)(LT:W.Looks (model prog w) s.heap (typeOf (.ref x)) (.ref D))(h:Q (some (.ref D)) { s with toks:=s.toks+1 }) :
  wpAny (model prog w) A (getAttr? (.ref x) "__class__") Q E s:=by
 obtain⟨hh,gs,dr,tt,oss⟩:=s
 have LG:=W.looks_findIn (M:=model prog w) X c.ga
 have LH:=W.looks_findIn (M:=model prog w) X c.gh
 have hb:=PySem.F.attr_ValueError.ga.bind (.ref x)
 unfold getAttr? getAttrBy? getAttrBy
 refine wpAny_bind (wpAny_mkText (wpAny_bind (wpAny_attempt (wpAny_holding (wpAny_bind (LT.at (wpAny_bind (LG.at ?_))))))))
 show wpAny _ _ (getAttrByItsOwn _ _ _ _ _ _) _ _ _
 unfold getAttrByItsOwn hookBefore
 refine wpAny_bind (LH.at ?_)
 refine wpAny_bind (wpAny_attempt (wpAny_holding ?_))
 show wpAny _ _ (boundAndCalled _ _ _) _ _ _
 unfold boundAndCalled
 refine wpAny_bind (wpAny_of_eq hb ?_)
 show wpAny _ _ (call (.builtin "BaseException.__getattribute__") [.ref x,.str "__class__" tt]) _ _ _
 refine wpAny_call (rV (s:=⟨hh,gs,dr,tt+1,oss⟩) c X LT ?_)
 refine W.handed_on rfl ?_
 exact wpAny_pure h
def gT(x:Addr)(cls:Value)(d:Option Addr)(h:Heap):Prop:=∃o vs,h.get? x=some o/\o.cls=cls/\o.dict=d/\o.data=.fields vs
theorem na{cls:Value}{d:Option Addr}(M:Model)(h:Heap)(p:gT x cls d h):W.Looks M h (typeOf (.ref x)) cls:=by
 obtain⟨o,vs,h1,h2,_⟩:=p
 rw [<-h2]
 exact(W.Looks.ld h1).andThen .now
theorem v6{d:Option Addr}(c:fW K D):W.KitX K (.ref x) (.ref D) (gT x (.ref D) d) where
 ty:=fun M h _ p=>na M h p
 it:=fun _ _ X _=>by
  have q:=c.is
  split at q
  ·rename_i ho
   intro A' Q' E' s' k z
   unfold isType loadHead
   exact wpAny_bind (wpAny_loadPart (k _ _ (X _ _ ho)) (wpAny_pure z))
  ·cases q
 ne:=fun _ t _ _ _ _ X ht=>by
  cases hb:(Value.ref D==Value.ref t) with
  |false=>rfl
  |true =>
   obtain rfl:D=t:=Value.ref.inj (beq_iff_eq.mp hb)
   have q:=c.is
   split at q
   ·next ho=>exact nomatch (X _ _ ho).symm.trans ht
   ·cases q
 ca:=fun X p k=>uM c X (na _ _ p) k
end
section
variable{X:Cx}
theorem vH{D:Addr}(c:fW X.K D):gM X (.builtin "isinstance") (fun xs H Q=>∃e d y u b,xs=[.ref e,y]/\cy y u/\(∀u',cy y u'->u'=u)/\H e=some (.ext (gT e (.ref D) d))/\W.kitOne X.K (.ref D) u=some b/\Q (.bl b) H):=by
 intro pins s σ H xs us Q I rv h
 obtain⟨e,d,y,u,b,rfl,_,hu,he,hk,q⟩:=h
 obtain⟨u1,u2,rfl,r1,r2⟩:=rv.two
 cases r1
 rw [hu u2 r2]
 obtain⟨p,_,_⟩:=(show cr X.prog X.w H s.heap e (.ext (gT e (.ref D) d)) from I.hok e _ he)
 exact W.kia_one (v6 c) I.kIn p hk (fun z=>nomatch z) fun tk=>⟨.bl b,H,I.tok _,rfl,q⟩
end
section
variable{X:Cx}{pins:List (Addr × Obj)}{σ:St}{H H':Hp}{s s':Shared}{x:Addr}{cls:Value}
theorem Fly.new(I:Inv X pins σ H s)(f:Fly X.prog X.w X.stack H s x cls H' s'):s.heap.get? x=none:=by
 cases e:s.heap.get? x with
 |none=>rfl
 |some o =>
  obtain⟨B,a0,fl,c1,c2⟩:=f.fl
  by_cases hb:x∈frs X.stack
  ·obtain⟨_,of,ho,hnf⟩:=fl.2.2.1.mem hb
   obtain⟨oe,vs,hoe,_,hd,_⟩:=fl.first
   rw [ho] at hoe
   cases hoe
   exact absurd hd (hnf vs)
  ·obtain⟨u,hu⟩:=c2 x o e hb
   have:=fl.2.1
   rw [hu] at this
   cases this
theorem Inv.track{o:HO}(I:Inv X pins σ H s)(hn:X.s₀.heap.get? x=none)(hl:x≠X.env.locals)(hc:∀y c,X.env.cells.lookup y=some c->c≠x)(hp:∀p∈X.pn++pins,p.1≠x)(hx:H x=none)(ho:cr X.prog X.w (upd H x o) s.heap x o) :
  Inv X pins σ (upd H x o) s:=by
 have ne:∀b u,H b=some u->b≠x:=fun b u e z=>by rw [z,hx] at e;cases e
 have old:∀b ob,X.s₀.heap.get? b=some ob->b≠x:=fun b ob e z=>by rw [z,hn] at e;cases e
 refine⟨I.ok,I.os,I.bare,⟨I.base.keep,I.base.slot,fun b ob e n hb=>by rw [aj (old b ob e)];exact I.base.free b ob e n hb,I.base.there,fun b xs e=>?_,fun b ob u e=>?_,fun b ps e=>?_⟩,I.loc,I.cell,by rw [aj (Ne.symm hl)];exact I.free,fun y c e=>by rw [aj (hc y c e)];exact I.freeC y c e,fun p hpp=>?_,fun b u e=>?_,I.len⟩
 ·have z:=I.base.tups b xs e
  rw [aj (ne _ _ z)]
  exact z
 ·have z:=I.base.frzs b ob u e
  rw [aj (ne _ _ z)]
  exact z
 ·obtain⟨m,z⟩:=I.base.tbls b ps e
  exact⟨m,by rw [aj (ne _ _ z)];exact z⟩
 ·obtain⟨a1,a2,a3,a4,a5⟩:=I.pin p hpp
  exact⟨a1,by rw [aj (hp p hpp)];exact a2,a3,a4,a5⟩
 ·by_cases eb:b=x
  ·subst eb
   rw [ac] at e
   cases e
   exact ho
  ·rw [aj eb] at e
   refine(I.hok b u e).stay (fun _ _ _ q=>q) (fun c q=>?_) fun c xs q=>?_
   ·rw [aj (ne _ _ q)];exact q
   ·rw [aj (ne _ _ q)];exact q
theorem Fly.track{d:Option Addr}(I:Inv X pins σ H s)(hex:X.ex=[])(f:Fly X.prog X.w X.stack H s x cls H' s')(hdi:cA x d s'):Inv X pins σ (upd H' x (.ext (gT x cls d))) s':=by
 have hn:=f.new I
 have I1:=f.inv I
 obtain⟨B,a0,fl,_⟩:=f.fl
 obtain⟨ob,vs,hob,hcl,hdt,_⟩:=fl.first
 obtain⟨ob',hob',hdd⟩:=hdi
 obtain rfl:ob=ob':=Option.some.inj (hob.symm.trans hob')
 have ne:∀b o,s.heap.get? b=some o->b≠x:=fun b o e z=>by rw [z,hn] at e;cases e
 refine I1.track ?_ ?_ ?_ ?_ f.free ⟨⟨ob,vs,hob,hcl,hdd,hdt⟩,⟨ob,hob⟩,fun h1 h2 p k=>?_⟩
 ·cases e:X.s₀.heap.get? x with
  |none=>rfl
  |some o =>
   obtain⟨o',e1⟩:=I.base.there x o e (by rw [hex];simp)
   rw [hn] at e1
   cases e1
 ·obtain⟨m,⟨o,_,_,ho,_⟩,_⟩:=I.loc
  exact(ne _ _ ho).symm
 ·intro y c e
  obtain⟨v,o,ho,_⟩:=I.cell y c e
  exact ne _ _ ho
 ·intro p hp
  exact ne _ _ (I.pin p hp).1
 ·obtain⟨o,ws,e1,e2⟩:=p
  exact⟨o,ws,k o e1,e2⟩
theorem uW{M:Model}{A:Around}{E:Value->Shared->Prop}{i:Nat}{n:Str}{v:V}{Q:Unit->Shared->Prop}(I:Inv X pins σ H s)(hN:X.N.Nodup)(hi:X.N[i]?=some n)(hk:X.env.scope.names.lookup n=some .local)(hv:σ[i]?=some (some v))
  (h:∀s',Inv X pins (σ.set i none) H s'->Q () s'):wpAny M A (unbindName X.env n) Q E s:=by
 obtain⟨m,hn,hl⟩:=id I.loc
 obtain⟨u,r,lk⟩:=hl i n v hi hv (.inl hk)
 have kk:X.env.kindOf n=some .local:=hk
 have hcls:(X.env.scope.kind==.class||(X.env.scope.kind==.module&&X.env.locals != X.env.globals))=false:=by rw [I.ok.kind];rfl
 have hiσ:i < σ.length:=by rw [I.len];exact(List.getElem?_eq_some_iff.mp hi).1
 have cne:=I.cne
 have e0:m n=some u:=by
  rcases lk with ⟨_,e⟩|⟨k,_⟩
  ·exact e
  ·rw [kk] at k
   rcases k with z|z<;>cases z
 refine wpAny_unbindName_local kk hn e0 hcls fun h' u' hn' hs=>?_
 obtain⟨oL,_,_,hoL,_⟩:=id hn
 refine h _ ⟨I.ok,I.os,I.bare,⟨fun b o e nn hb hx=>?_,fun b o e nn hb hx=>?_,I.base.free,fun b o e hx=>?_,I.base.tups,I.base.frzs,I.base.tbls⟩,⟨_,hn',fun j y v' e1 e2 e3=>?_⟩,fun y c e=>?_,I.free,I.freeC,fun p hp=>?_,fun b ob e=>?_,by rw [List.length_set];exact I.len⟩
 ·exact(hs.2 b (Nat.ne_of_lt (Nat.lt_of_lt_of_le (Heap.lt_size e) I.ok.above))).trans (I.base.keep b o e nn hb hx)
 ·obtain⟨sl,e1⟩:=I.base.slot b o e nn hb hx
  exact⟨sl,(hs.2 b (Nat.ne_of_lt (Nat.lt_of_lt_of_le (Heap.lt_size e) I.ok.above))).trans e1⟩
 ·obtain⟨o',e1⟩:=I.base.there b o e hx
  exact⟨o',(hs.2 b (Nat.ne_of_lt (Nat.lt_of_lt_of_le (Heap.lt_size e) I.ok.above))).trans e1⟩
 ·by_cases hj:j=i
  ·subst hj
   rw [List.getElem?_set_self hiσ] at e2
   cases e2
  ·rw [List.getElem?_set_ne (Ne.symm hj)] at e2
   obtain⟨u2,r2,q⟩:=hl j y v' e1 e2 e3
   refine⟨u2,r2,?_⟩
   rcases q with ⟨k,e⟩|⟨k,c,e,z⟩
   ·refine .inl ⟨k,?_⟩
    have:y≠n:=fun e=>hj (nG hN e1 (e▸hi))
    simp [this,e]
   ·exact .inr ⟨k,c,e,z.sameBut hs (cne y c e)⟩
 ·obtain⟨w',z⟩:=I.cell y c e
  exact⟨w',z.sameBut hs (cne y c e)⟩
 ·obtain⟨e,nn,ne,nf,d⟩:=I.pin p hp
  exact⟨(hs.2 p.1 ne).trans e,nn,ne,nf,d⟩
 ·refine(I.hok b ob e).stay (fun c w' hc q=>(hs.2 c ?_).trans q) (fun _ q=>q) fun _ _ q=>q
  rintro rfl
  rcases hc with rfl|hc
  ·rw [I.free] at e;cases e
  ·rw [I.free] at hc;cases hc
def fZ.gone(D:fZ)(i:Nat):fZ:={ nx:=fun σ H=>D.nx (σ.set i none) H,rt:=D.rt,bk:=fun σ H=>D.bk (σ.set i none) H,ct:=fun σ H=>D.ct (σ.set i none) H }
theorem zW{A:Around}{E:Value->Shared->Prop}{i:Nat}{n:Str}{pos:Pos}{D:fZ}{f:Flow}(hN:X.N.Nodup)(hi:X.N[i]?=some n)(hk:X.env.scope.names.lookup n=some .local)(h:SP X pins (D.gone i) f s) :
  wpAny (model X.prog X.w) A (do bindName X.env n .none;unbindBehindTheSuite X.env n pos) (fun _ s3=>SP X pins D f s3) E s:=by
 have go:∀{σ':St} {H':Hp} {Z:Shared->Prop},Inv X pins σ' H' s->(∀s2,Inv X pins (σ'.set i none) H' s2->Z s2) ->
   wpAny (model X.prog X.w) A (do bindName X.env n .none;unbindBehindTheSuite X.env n pos) (fun _ s3=>Z s3) E s:=fun {σ' H' Z} I hz=>by
  have hiσ:i < σ'.length:=by rw [I.len];exact(List.getElem?_eq_some_iff.mp hi).1
  refine wpAny_bind (wpAny_bindName (iw I hN hi (.inl hk) (v:=.non) rfl (fun s1 I1=>?_) (.inr hk)))
  unfold unbindBehindTheSuite
  refine wpAny_onRaise (uW I1 hN hi hk (by rw [List.getElem?_set_self hiσ]) fun s2 I2=>?_)
  rw [List.set_set] at I2
  exact hz s2 I2
 cases f with
 |next=>obtain⟨σ',H',I,q⟩:=h;exact go I fun s2 I2=>⟨_,H',I2,q⟩
 |brk=>obtain⟨σ',H',I,q⟩:=h;exact go I fun s2 I2=>⟨_,H',I2,q⟩
 |cont=>obtain⟨σ',H',I,q⟩:=h;exact go I fun s2 I2=>⟨_,H',I2,q⟩
 |ret u=>obtain⟨v,σ',H',I,r,q⟩:=h;exact go I fun s2 I2=>⟨v,_,H',I2,r,q⟩
end
theorem Ct{X:Cx}{d n:Str}{i:Nat}{vd:Value}{np pos:Pos}{b₀:Stmt}{suite:List Stmt}{rest:List ExceptHandler}{th:TS}{tr:TH}(hex:X.ex=[])(hN:X.N.Nodup)(hi:X.N[i]?=some n)(hk:X.env.scope.names.lookup n=some .local)
  (hg:Gl X d) (hm:X.mg d=some vd) (hb:∀e,PSs (X.inE e).nox (b₀::suite) th) (hr:PH X rest tr) (hd:(d==("__debug__":Str))=false:=by decide) :
  PH X (.ExceptHandler (some (.Name d np)) (some n) (b₀::suite) pos::rest)
   (fun D cls dd e σ H=>∃b,W.exmOne X.K cls vd=some b/\if b=true then th (D.gone i) (σ.set i (some (.ref e))) (upd H e (.ext (gT e cls dd))) else tr D cls dd e σ H):=by
 intro pins σ H H' s s' D cls dd e I f hdi h
 obtain⟨b,hx,h⟩:=h
 have I1:=f.inv I
 obtain⟨ob,hob,hcl⟩:=f.there
 have LT:W.Looks (model X.prog X.w) s'.heap (typeOf (.ref e)) cls:=by
  rw [<-hcl]
  exact(W.Looks.ld hob).andThen .now
 refine wpAny_handleBy_cons (codeAny_handlers_test (Calls.Name_function_global I1.ok.kind hg (Calls.loadGlobal_global (by rw [I1.ok.glob];exact I1.mod.glob.keeps I1.bk) hm ?_) hd)) (by intro q;cases q)
 refine(W.exm_one I1.kIn LT hx).here ?_
 cases b with
 |false=>exact hr pins σ H H' s s' D cls dd e I f hdi h
 |true =>
  refine codeAny_handlers_suite_as (f.again I hdi fun s2 f2 d2=>?_)
  have I2:=f2.track I hex d2
  refine iw I2 hN hi (.inl hk) (v:=.ref e) rfl (fun s3 I3=>?_) (.inr hk)
  exact wpAny_mono (hb e pins s3 _ _ (D.gone i) (I3.inE.wish _) h) (fun fl s4 q=>zW hN hi hk (SP.outE I1.ok q)) fun _ _ z=>False.elim z
structure jT(K:W.Frag)(x qual:Str)(st:Stmt)(dV:Value)(f:Addr)(fd:FuncData):Prop where
 ex:∃(oc:Value) (od:Option Addr) (kV doc pm:Value) (an:Option Addr) (cdv ct:Value) (osl:Array (Option Value)),
  fd=W.fnOf x qual (aI st) (ar st) (ah st) dV kV doc pm an cdv ct/\K.lookup f=some ⟨oc,od,.func fd,osl⟩/\W.codeIn K cdv qual=true
 kp:W.keepIn K (.ref f)=true
section
variable{P:Program}{w:World}{K:W.Frag}{mg:Str->Option Value}{base:Heap}
theorem jT.okX{x qual:Str}{st:Stmt}{dV:Value}{f:Addr}{fd:FuncData}{N ps:List Str}{k:Nat}{sp:Sp}(F:jT K x qual st dV f fd)(S:aO N ps (ah st))(len:∀vs H Q E,sp vs H Q E->vs.length=ps.length)
  (hbody:∀(cdv:Value) (A:Around) (outer:List Env) (s:Shared) (H:Hp) (vs:List V) (Q:VK) (E:XK),cG k (A.deeper (envOfC qual (ah st) s.heap.objs.size f cdv))->sp vs H Q E ->
   ∃t,PSs (ee (CX1 P w) P w K mg base N qual (ah st) f cdv A outer s H E) (ar st) t/\t { nx:=fun _ H'=>Q .non H',rt:=Q } (start N vs) H):bq P w K mg base (CX1 P w) (k+1) f fd ps sp:=by
 obtain⟨oc,od,kV,doc,pm,an,cdv,ct,osl,rfl,lk,hcd⟩:=F.ex
 exact y9 lk hcd S len fun A outer s H vs Q E hr hsp=>hbody cdv A outer s H vs Q E hr hsp
theorem jT.binds{x qual:Str}{st:Stmt}{T:Addr}{f:Addr}{fd:FuncData}{ps:List Str}{oT:Value}{dT:Option Addr}{its:Array Value}{nT:Nat}{sT:Array (Option Value)}{ds:List Value}(F:jT K x qual st (.ref T) f fd)(lT:K.lookup T=some ⟨oT,dT,.seq its nT,sT⟩)
  (h:∀(kV doc pm:Value) (an:Option Addr) (cdv ct:Value) (us:List Value),(us++ds).length=ps.length->∃k:Option (Array Value)->Sem (List (Str × Value)),
   bindArgs (W.fnOf x qual (aI st) (ar st) (ah st) (.ref T) kV doc pm an cdv ct) ⟨us,[]⟩=seqItems? (.ref T) >>= k/\k (some its)=pure (ps.zip (us++ds))):aV K fd ps ds:=by
 obtain⟨oc,od,kV,doc,pm,an,cdv,ct,osl,rfl,lk,hcd⟩:=F.ex
 intro s us kin hl
 obtain⟨k,h1,h2⟩:=h kV doc pm an cdv ct us hl
 exact BindsTo.of_defaults rfl (kin _ _ lT) rfl h1 h2
end
section
variable{X:Cx}
theorem wR{i0:Nat}{y0:Str}{py0 spos:Pos}{tg elt iter:Expr}{ifs:List Expr}{own caps:List Str}{κ:List Nat}{sc:Scope}{cl:List (Str × Addr)}{pos:Pos}{wi:TI}{g:TG}{tc:TT}{te:TE}(hN:X.N.Nodup)(hi0:X.N[i0]?=some y0)(hy0:Loc X.env.scope y0)(hcalm:X.calm=true)(S:iK X caps sc cl)(hκ:κ.map (fun k=>X.N[k]?)=caps.map some)
  (hi:PI X tg iter wi) (hg:∀s₀ H₀ C ex,PG (blk X (own++caps) sc cl s₀ H₀ C ex) tg g)
  (hc:∀s₀ H₀ C ex (pins:List (Addr × Obj)) (s:Shared) (σ:St) (H:Hp) (Q:Bool->Hp->Prop),Inv (blk X (own++caps) sc cl s₀ H₀ C ex) pins σ H s->tc σ H Q ->
   wpAny (model X.prog X.w) X.A (forIn ifs true fun c r=>if r=true then do let ok <-isTrue c (compEnvC sc cl C X.env) (eval c (compEnvC sc cl C X.env));pure (ForInStep.yield ok) else pure (ForInStep.yield r)) (TP (blk X (own++caps) sc cl s₀ H₀ C ex) pins σ Q) (fun _ _=>False) s)
  (he:∀s₀ H₀ C ex,PE (blk X (own++caps) sc cl s₀ H₀ C ex) elt te)
  (hs:∀x,foldedSetIterable iter X.env x=pure x:=by intro _;rfl) (hsw:swapsWith (.ListComp elt [⟨tg,iter,ifs,0⟩] sc pos) (some (.Name y0 py0)) spos.line X.env=pure true:=by rfl)
  (hf0:X.fn y0=true\/X.env.scope.names.lookup y0=some .local:=by first|exact .inl rfl|exact .inr rfl|assumption) :
  PS X (.Assign [.Name y0 py0] (.ListComp elt [⟨tg,iter,ifs,0⟩] sc pos) spos) (BN (oy own.length κ wi g tc te) (jq i0)):=by
 intro pins s σ H D0 I h
 rw [exec_Assign_Name_used _ _ _ _ hsw]
 refine wpAny_bind (wpAny_standAt (wpAny_bind ?_))
 show wpAny _ X.A (do let _ <-comprehension (.ListComp elt [⟨tg,iter,ifs,0⟩] sc pos) sc X.env _ (newList []) false (eval iter X.env) (some (assign (.Name y0 py0) X.env))) _ _ s
 refine wpAny_bind (wpAny_mono (wpAny_comprehension_free (use:=some (assign (.Name y0 py0) X.env)) (Q:=fun _ s'=>SP X pins D0 .next s') rfl hs S.clos S.kind S.names (thn (hi pins s σ H _ I h) fun v s1 h1=>thn h1 fun itv s2 h2=>?_))
  (fun _ s' hq=>wpAny_pure (wpAny_pure hq)) fun _ _ e=>e)
 obtain⟨it,fp,tn,J,H2,e,I2,T,st2,f2,W,⟨m0,w0⟩,turn⟩:=h2
 subst e
 have hfp:∀b∈fp,b < s2.heap.objs.size:=fun b hb=>by
  obtain⟨o,e,_⟩:=T.obj _ _ st2 b hb
  exact Heap.lt_size e
 refine wpAny_newObj_type (wpAny_newFunctionEnv S.nocell (fun y hy=>nomatch hy) (fun h₁ hns hsb=>?_) S.kind)
 generalize ehp:s2.heap.push { cls:=.type "list",dict:=none,data:=.seq ([]:List Value).toArray }=hp at hns hsb ⊢
 have hsz:hp.objs.size=s2.heap.objs.size+1:=by rw [<-ehp,Heap.size_push]
 have hDC:s2.heap.objs.size≠hp.objs.size:=by rw [hsz];exact Nat.ne_of_lt (Nat.lt_succ_self _)
 have old:∀b o,hp.get? b=some o->h₁.get? b=some o:=fun b o e=>(hsb.2 b (Nat.ne_of_lt (Heap.lt_size e))).trans (Heap.get?_push_of_some _ e)
 have eD:h₁.get? s2.heap.objs.size=some { cls:=.type "list",data:=.seq ([]:List Value).toArray }:=old _ _ (by rw [<-ehp];exact Heap.get?_push_size _ rfl)
 have I0:=Inv.block (own:=own) (h₁:=h₁) (tk:=s2.toks+([]:List (Str × Value)).length) S hκ I2 f2 hfp ehp.symm hns old
 have stkD:s2.heap.objs.size∉frs X.stack:=fun z=>(List.mem_cons.mp (I2.stkSub _ z)).elim (Nat.ne_of_gt I2.lt) (I2.nofs (Nat.le_refl _))
 have cellD:∀x c,cl.lookup x=some c->c≠s2.heap.objs.size:=fun x c q=>by
  obtain⟨v,z⟩:=I2.cell x c (S.subc q)
  exact Nat.ne_of_lt z.lt
 have pinD:∀p∈X.pn++pins,p.1≠s2.heap.objs.size:=fun p hp=>Nat.ne_of_lt (Heap.lt_size (I2.pin p hp).1)
 have stkF:∀b∈fp,b∉frs X.stack:=fun b hb z=>(List.mem_cons.mp (I2.stkSub _ z)).elim (f2 b hb).2.1 (f2 b hb).2.2.1
 have loop:codeAny (model X.prog X.w) X.A (.compLoop (.ListComp elt [⟨tg,iter,ifs,0⟩] sc pos) 0 (.ref it) (.ref s2.heap.objs.size) (compEnvC sc cl hp.objs.size X.env))
   (compPost (model X.prog X.w) X.A X.xe (some (assign (.Name y0 py0) X.env)) (fun _ s'=>SP X pins D0 .next s') (.ref s2.heap.objs.size) hp.objs.size) { s2 with heap:=h₁,toks:=s2.toks+([]:List (Str × Value)).length }:=by
  refine codeAny_loop rfl (fun n s'=>∃(i:Nat) (ys:List V) (its:List Value) (cap:Nat) (H':Hp),Inv (blk X (own++caps) sc cl { s2 with heap:=hp } H2 hp.objs.size (s2.heap.objs.size::fp)) pins (dk own.length κ σ) H' s'/\tn i s'.heap/\(∀b∈fp,H' b=none) /\
   s'.heap.get? s2.heap.objs.size=some { cls:=.type "list",data:=.seq its.toArray cap }/\H' s2.heap.objs.size=none/\cw ys its/\ys.length<=sizeLine/\W i n ys H') (fun n s3 hI=>?_) m0
   ⟨0,[],[],0,H2,I0,T.keep _ _ _ st2 fun b hb o e=>old _ _ (by rw [<-ehp];exact Heap.get?_push_of_some _ e),fun b hb=>(f2 b hb).1,eD,I2.hok.fresh (Nat.le_refl _),.nil,Nat.zero_le _,w0⟩
  obtain⟨i,ys,its,cap,H3,I3,st3,fr3,eD3,nD3,rv,hz,w3⟩:=hI
  show wpAny _ X.A ((compTurn (.ListComp elt [⟨tg,iter,ifs,0⟩] sc pos) 0 (.ref it) (.ref s2.heap.objs.size) (compEnvC sc cl hp.objs.size X.env)).onRaise fun x=>do noteFrame x (compEnvC sc cl hp.objs.size X.env);theTreesLotGoes x) _ _ s3
  refine wpAny_noted ?_
  rw [compTurn_list]
  have I3':Inv (blk X (own++caps) sc cl { s2 with heap:=hp } H2 hp.objs.size (s2.heap.objs.size::fp)) (pins++[(s2.heap.objs.size,{ cls:=.type "list",data:=.seq its.toArray cap })]) (dk own.length κ σ) H3 s3:=by
   refine I3.pins_of fun p hp=>(List.mem_append.mp hp).elim (fun z=>I3.pin p (List.mem_append_right _ z)) fun z=>?_
   obtain rfl:=List.mem_singleton.mp z
   exact⟨eD3,nD3,hDC,stkD,fun v q=>by cases q⟩
  have fpk:∀{H':Hp},(∀b∈fp,H' b=none)->∀b∈fp,ph (blk X (own++caps) sc cl { s2 with heap:=hp } H2 hp.objs.size (s2.heap.objs.size::fp)) (pins++[(s2.heap.objs.size,{ cls:=.type "list",data:=.seq its.toArray cap })]) H' b:=fun {H'} hn b hb =>
   ⟨hn b hb,by show b≠hp.objs.size;rw [hsz];exact Nat.ne_of_lt (Nat.lt_succ_of_lt (hfp b hb)),stkF b hb,.inl (List.mem_cons_of_mem _ hb),fun x c q=>(f2 b hb).2.2.2.2.1 x c (S.subc q),fun p hp=>by
    rw [<-List.append_assoc] at hp
    rcases List.mem_append.mp hp with z|z
    ·exact(f2 b hb).2.2.2.2.2 p z
    ·obtain rfl:=List.mem_singleton.mp z
     exact Nat.ne_of_gt (hfp b hb)⟩
  rcases turn i n ys H3 w3 with ⟨stop,fin⟩|⟨go,hlt,step⟩
  ·refine wpAny_bind (wpAny_standAt (wpAny_bind (thn (T.done (blk X (own++caps) sc cl { s2 with heap:=hp } H2 hp.objs.size (s2.heap.objs.size::fp)) rfl rfl rfl hcalm i _ s3 _ H3 _ I3' (fpk fr3) st3 stop) fun r s4 ⟨hr,I4⟩=>?_)))
   subst hr
   refine wpAny_pure ?_
   obtain⟨m,hm,_⟩:=I4.loc
   have eD4:=(I4.pin (s2.heap.objs.size,{ cls:=.type "list",data:=.seq its.toArray cap }) (List.mem_append_right _ (List.mem_append_right _ (List.mem_singleton.mpr rfl)))).1
   have I5:Inv X pins σ (upd H3 s2.heap.objs.size (.lst ys)) { s4 with heap:=s4.heap }:=Inv.unblock I2 f2 ehp.symm I4 eD4 nD3 rv hz (Heap.SameBut.refl ..)
   have neL:hp.objs.size≠X.env.locals:=by rw [hsz];exact Nat.ne_of_gt (Nat.lt_succ_of_lt I2.lt)
   have neC:∀x c,X.env.cells.lookup x=some c->c≠hp.objs.size:=fun x c q=>by
    obtain⟨v,z⟩:=I2.cell x c q
    rw [hsz]
    exact Nat.ne_of_lt (Nat.lt_succ_of_lt z.lt)
   have frC:upd H3 s2.heap.objs.size (.lst ys) hp.objs.size=none:=by rw [aj (Ne.symm hDC)];exact I4.free
   show wpAny (model X.prog X.w) X.A (assign (.Name y0 py0) X.env (.ref s2.heap.objs.size)) _ X.xe s4
   refine wpAny_assign_Name (pc (v:=.ref s2.heap.objs.size) I5 hN hi0 hy0 rfl (fun s5 I6 ⟨a,sb,ha⟩=>?_) hf0)
   have hCa:hp.objs.size≠a:=by
    rcases ha with ha|ha
    ·rw [ha];exact neL
    ·exact Ne.symm (neC _ _ ha)
   refine⟨m,hm.sameBut sb hCa,fun h' sb'=>⟨_,_,I6.turned (t':=s5.toks) (fun b o hb e=>(sb'.2 b hb).trans e) frC neL (.inr ?_) neC (fun p hp'=>?_),fin _ nD3⟩⟩
   ·exact Nat.le_trans I2.sz (by rw [hsz];exact Nat.le_succ _)
   ·have:=Heap.lt_size (I2.pin p hp').1
    rw [hsz]
    exact Nat.ne_of_lt (Nat.lt_succ_of_lt this)
  ·refine wpAny_bind (wpAny_standAt (wpAny_bind (thn (T.item (blk X (own++caps) sc cl { s2 with heap:=hp } H2 hp.objs.size (s2.heap.objs.size::fp)) rfl rfl rfl hcalm i _ s3 _ H3 _ I3' (fpk fr3) st3 go) fun r s4 ⟨u,hr,h4⟩=>?_)))
   subst hr
   refine wpAny_bind (thn h4 fun _ s5 ⟨x,H5,I5,r5,y5,st5,fr5⟩=>?_)
   have I5':=I5.pinned (fpk fr5) (T.obj _ _ st5)
   refine wpAny_bind (wpAny_mono (hg _ _ _ _ _ s5 _ H5 x u _ I5' r5 (step x H5 y5)) (fun _ s6 ⟨σ6,H6,I6,eσ,q6⟩=>?_) fun _ _ z=>z.elim)
   refine wpAny_bind (wpAny_mono (hc _ _ _ _ _ s6 σ6 H6 _ I6 q6) (fun ok s7 ⟨H7,I7,q7⟩=>?_) fun _ _ z=>z.elim)
   have back:∀{s8:Shared} {H8:Hp},Inv (blk X (own++caps) sc cl { s2 with heap:=hp } H2 hp.objs.size (s2.heap.objs.size::fp)) ((pins++[(s2.heap.objs.size,{ cls:=.type "list",data:=.seq its.toArray cap })])++jQ fp s5.heap) σ6 H8 s8 ->
     Inv (blk X (own++caps) sc cl { s2 with heap:=hp } H2 hp.objs.size (s2.heap.objs.size::fp)) pins (dk own.length κ σ) H8 s8/\tn (i+1) s8.heap/\(∀b∈fp,H8 b=none)/\s8.heap.get? s2.heap.objs.size=some { cls:=.type "list",data:=.seq its.toArray cap }/\H8 s2.heap.objs.size=none:=by
    intro s8 H8 I8
    have pk:∀b∈fp,∀o,s5.heap.get? b=some o->s8.heap.get? b=some o/\H8 b=none:=fun b hb o e=>by
     have z:=I8.pin (b,o) (List.mem_append_right _ (List.mem_append_right _ (fE hb e)))
     exact⟨z.1,z.2.1⟩
    have zD:=I8.pin (s2.heap.objs.size,{ cls:=.type "list",data:=.seq its.toArray cap }) (List.mem_append_right _ (List.mem_append_left _ (List.mem_append_right _ (List.mem_singleton.mpr rfl))))
    refine⟨(I8.pins_of fun p hp=>I8.pin p (List.mem_append_right _ (List.mem_append_left _ (List.mem_append_left _ hp)))).weak ?_ fun j v e=>?_,T.keep _ _ _ st5 fun b hb o e=>(pk b hb o e).1,fun b hb=>?_,zD.1,zD.2.1⟩
    ·exact I3.len.trans I8.len.symm
    ·have hge:own.length<=j:=by
      refine Nat.le_of_not_lt fun q=>?_
      unfold dk at e
      rw [List.getElem?_append_left (by rw [List.length_replicate];exact q),List.getElem?_replicate,if_pos q] at e
      cases e
     have z:=congrArg (fun l=>l[j - own.length]?) eσ
     simp only [List.getElem?_drop] at z
     rw [show own.length+(j - own.length)=j by omega] at z
     rw [z]
     exact e
    ·obtain⟨o,e,_⟩:=T.obj _ _ st5 b hb
     exact(pk b hb o e).2
   cases ok with
   |false =>
    obtain⟨m',hm,w7⟩:=(if_neg Bool.false_ne_true)▸q7
    obtain⟨I8,st8,fr8,e8,n8⟩:=back I7
    exact wpAny_pure ⟨rfl,m',hm,i+1,ys,its,cap,H7,I8,st8,fr8,e8,n8,rv,hz,w7⟩
   |true =>
    have q7':=(if_pos rfl)▸q7
    refine wpAny_bind (wpAny_bind (wpAny_mono (he _ _ _ _ _ s7 σ6 H7 _ I7 q7') (fun y s8 ⟨v8,H8,I8,r8,m',hm,w8⟩=>?_) fun _ _ z=>z.elim))
    obtain⟨I9,st9,fr9,e9,n9⟩:=back I8
    have hl:=rv.length
    refine wpAny_bind (wpAny_list_append_plain (items:=its.toArray) ⟨cap,e9⟩ (fun h' hl' sb=>?_) (by rw [List.size_toArray,<-hl];exact hz))
    obtain⟨cap',e'⟩:=hl'
    refine wpAny_pure (wpAny_pure ⟨rfl,m',hm,i+1,ys++[v8],its++[y],cap',H8,?_,?_,fr9,?_,n9,cw.append rv (.cons r8 .nil),?_,w8⟩)
    ·exact I9.turned (t':=s8.toks) (fun b o hb e=>(sb.2 b hb).trans e) n9 hDC (.inl List.mem_cons_self) cellD pinD
    ·exact T.keep _ _ _ st9 fun b hb o e=>(sb.2 b (Nat.ne_of_lt (hfp b hb))).trans e
    ·rw [e']
     congr 3
     simp
    ·rw [List.length_append]
     exact hlt
 exact codeAny_compStart_list loop (T.self _ 0 _ _ _ (T.keep _ _ _ st2 fun b hb o e=>old _ _ (by rw [<-ehp];exact Heap.get?_push_of_some _ e)) loop)
theorem pU{i0:Nat}{y0:Str}{py0 spos:Pos}{tg elt iter:Expr}{own caps:List Str}{κ:List Nat}{sc:Scope}{cl:List (Str × Addr)}{pos:Pos}{wi:TI}{g:TG}{te:TE}(hN:X.N.Nodup)(hi0:X.N[i0]?=some y0)(hy0:Loc X.env.scope y0)(hcalm:X.calm=true)(S:iK X caps sc cl)(hκ:κ.map (fun k=>X.N[k]?)=caps.map some)
  (hi:PI X tg iter wi) (hg:∀s₀ H₀ C ex,PG (blk X (own++caps) sc cl s₀ H₀ C ex) tg g) (he:∀s₀ H₀ C ex,PE (blk X (own++caps) sc cl s₀ H₀ C ex) elt te)
  (hs:∀x,foldedSetIterable iter X.env x=pure x:=by intro _;rfl) (hsw:swapsWith (.ListComp elt [⟨tg,iter,[],0⟩] sc pos) (some (.Name y0 py0)) spos.line X.env=pure true:=by rfl)
  (hf0:X.fn y0=true\/X.env.scope.names.lookup y0=some .local:=by first|exact .inl rfl|exact .inr rfl|assumption) :
  PS X (.Assign [.Name y0 py0] (.ListComp elt [⟨tg,iter,[],0⟩] sc pos) spos) (BN (oy own.length κ wi g AL te) (jq i0)) :=
 wR hN hi0 hy0 hcalm S hκ hi hg (fun s₀ H₀ C ex pins s σ H Q I h=>wpAny_tests_nil ⟨H,I,h⟩) he hs hsw hf0
end
section
variable{X:Cx}{pins:List (Addr × Obj)}{σ:St}{H:Hp}{s:Shared}{h':Heap}
theorem Inv.turned2{t':Nat}{e j p:Addr}{o:HO}(I:Inv X pins σ H s)(k:∀b ob,b≠e->b≠j->s.heap.get? b=some ob->h'.get? b=some ob)(fe:ph X pins H e)(fj:ph X pins H j)(hp:s.heap.objs.size<=p)
  (new:cr X.prog X.w (upd H p o) h' p o):Inv X pins σ (upd H p o) { s with heap:=h',toks:=t' }:=by
 have hn:H p=none:=I.hok.fresh hp
 have nn:∀b u,H b=some u->b≠e/\b≠j:=fun b u q=>⟨fun z=>(by rw [z,fe.1] at q;cases q),fun z=>(by rw [z,fj.1] at q;cases q)⟩
 have nc:∀b,b∉[e,j]->b≠e/\b≠j:=fun b hb=>⟨fun z=>hb (by simp [z]),fun z=>hb (by simp [z])⟩
 have lt:∀b ob,s.heap.get? b=some ob->b≠p:=fun b ob q z=>absurd (Nat.lt_of_lt_of_le (Heap.lt_size q) (by rw [z];exact hp)) (Nat.lt_irrefl _)
 refine I.step (g':=s.gens) (d':=s.drawn) (ch:=[e,j]) (fun b hb=>?_) (fun b ob _ _ hc q _=>k b ob (nc b hc).1 (nc b hc).2 q) (fun b ob _ _ hc q _=>⟨ob.slots,k b ob (nc b hc).1 (nc b hc).2 q⟩) (fun b ob hc q n=>by rw [aj (lt b ob q)];exact n)
  (fun b ob hc q=>⟨ob,k b ob (nc b hc).1 (nc b hc).2 q⟩) (fun b xs q=>by rw [aj (aH q hn)];exact q) (fun b ob u q=>by rw [aj (aH q hn)];exact q) (fun b ps q=>⟨#[],by rw [aj (aH q hn),q];simp⟩) (fun m hm=>?_) (fun b u q=>?_) I.bare
 ·rcases List.mem_cons.mp hb with rfl|hb
  ·exact⟨fe.2.2.2.1,fe.2.1,fe.2.2.2.2.1,fe.2.2.2.2.2⟩
  ·obtain rfl:=List.mem_singleton.mp hb
   exact⟨fj.2.2.2.1,fj.2.1,fj.2.2.2.2.1,fj.2.2.2.2.2⟩
 ·obtain⟨ob,es,ep,q,r⟩:=hm
  exact⟨ob,es,ep,k _ ob (Ne.symm fe.2.1) (Ne.symm fj.2.1) q,r⟩
 ·by_cases hb:b=p
  ·subst hb
   rw [ac] at q
   cases q
   exact new
  ·rw [aj hb] at q
   refine(I.hok b u q).stay (fun c v hc z=>?_) (fun c z=>by rw [aj (aH z hn)];exact z) fun c xs z=>by rw [aj (aH z hn)];exact z
   rcases hc with hc|hc
   ·rw [hc] at z ⊢
    exact k b v (nn b u q).1 (nn b u q).2 z
   ·exact k c v (nn c _ hc).1 (nn c _ hc).2 z
end
section
variable{X:Cx}{tg:Expr}
end
section
variable{prog:Program}{w:World}{A:Around}{E:Value->Shared->Prop}{s:Shared}
open AutoSeq1 (wpAny_loadPart') in
end
section
variable{X:Cx}
end
theorem vC{P:Program}{w:World}{k:Key}{u:Value}(h:(bo P w).is k u=true):cy (kV k) u:=by
 rw [tq] at h
 rcases cs h with ⟨i,t,rfl,rfl⟩|⟨x,t,rfl,rfl⟩
 ·exact⟨t,rfl⟩
 ·exact⟨t,rfl⟩
section
variable{X:Cx}{pins:List (Addr × Obj)}{σ:St}{H H':Hp}{s:Shared}{h':Heap}
theorem Inv.laids{t':Nat}(I:Inv X pins σ H s)(k:∀b u,s.heap.get? b=some u->h'.get? b=some u)(old:∀b,b < s.heap.objs.size->H' b=H b)
  (new:∀b u,s.heap.objs.size<=b->H' b=some u->cr X.prog X.w H' h' b u):Inv X pins σ H' { s with heap:=h',toks:=t' }:=by
 have lt:∀b u,H b=some u->b < s.heap.objs.size:=fun b u q=>Nat.lt_of_not_le fun z=>by rw [I.hok.fresh z] at q;cases q
 refine I.step (g':=s.gens) (d':=s.drawn) (ch:=[]) (fun _ z=>nomatch z) (fun b ob _ _ _ q _=>k b ob q) (fun b ob _ _ _ q _=>⟨ob.slots,k b ob q⟩) (fun b ob _ q n=>by rw [old b (Heap.lt_size q)];exact n)
  (fun b ob _ q=>⟨ob,k b ob q⟩) (fun b xs q=>by rw [old b (lt _ _ q)];exact q) (fun b ob u q=>by rw [old b (lt _ _ q)];exact q) (fun b ps q=>⟨#[],by rw [old b (lt _ _ q),q];simp⟩) (fun m hm=>?_) (fun b u q=>?_) I.bare
 ·obtain⟨ob,es,ep,q,r⟩:=hm
  exact⟨ob,es,ep,k _ ob q,r⟩
 ·by_cases hb:b < s.heap.objs.size
  ·rw [old b hb] at q
   exact(I.hok b u q).stay (fun c v _ z=>k c v z) (fun c z=>by rw [old c (lt _ _ z)];exact z) fun c xs z=>by rw [old c (lt _ _ z)];exact z
  ·exact new b u (Nat.le_of_not_lt hb) q
end
def qC(H:Hp):List Addr->List (Key × V)->Hp
 |a::as,p::ps=>upd (qC H as ps) a (.tup [kV p.1,p.2])
 |_,_=>H
theorem mj{H:Hp}{b:Addr}:∀{as:List Addr} {ps:List (Key × V)},b∉as->qC H as ps b=H b
 |[],_,_=>rfl
 |_::_,[],_=>rfl
 |a::as,p::ps,h=>by
  show upd (qC H as ps) a _ b=H b
  rw [aj (fun e=>h (by rw [e];exact List.mem_cons_self))]
  exact mj fun z=>h (List.mem_cons_of_mem _ z)
theorem uL{H:Hp}:∀{as:List Addr} {ps:List (Key × V)} {b:Addr} {u:HO},b∈as->as.length=ps.length->qC H as ps b=some u->∃(j:Nat) (p:Key × V),as[j]?=some b/\ps[j]?=some p/\u=.tup [kV p.1,p.2]
 |[],_,_,_,h,_,_=>nomatch h
 |_::_,[],_,_,_,h,_=>nomatch h
 |a::as,p::ps,b,u,hb,hl,h=>by
  by_cases e:b=a
  ·subst e
   have h':upd (qC H as ps) b (.tup [kV p.1,p.2]) b=some u:=h
   rw [ac] at h'
   cases h'
   exact⟨0,p,rfl,rfl,rfl⟩
  ·have h':upd (qC H as ps) a (.tup [kV p.1,p.2]) b=some u:=h
   rw [aj e] at h'
   have hb':b∈as:=(List.mem_cons.mp hb).resolve_left e
   obtain⟨j,p',h1,h2,h3⟩:=uL hb' (Nat.succ.inj hl) h'
   exact⟨j+1,p',h1,h2,h3⟩
theorem lH{H:Hp}:∀{as:List Addr} {ps:List (Key × V)},as.Pairwise (· < ·)->as.length=ps.length->Paired (fun(p:Key × V) (k:Addr)=>qC H as ps k=some (.tup [kV p.1,p.2])) ps as
 |[],[],_,_=>.nil
 |_::_,[],_,h=>nomatch h
 |[],_::_,_,h=>nomatch h
 |a::as,p::ps,hr,hl=>by
  cases hr with
  |cons h1 h2 =>
  refine .cons ac ?_
  have ih:=lH (H:=H) h2 (Nat.succ.inj hl)
  have go:∀{qs:List (Key × V)} {bs:List Addr},(∀b∈bs,a < b)->Paired (fun(p:Key × V) (k:Addr)=>qC H as ps k=some (.tup [kV p.1,p.2])) qs bs->Paired (fun(q:Key × V) (k:Addr)=>qC H (a::as) (p::ps) k=some (.tup [kV q.1,q.2])) qs bs:=fun {qs bs} hb z=>by
   induction z with
   |nil=>exact .nil
   |@cons x y xs ys e _ ih =>
    refine .cons ?_ (ih fun b hb'=>hb b (List.mem_cons_of_mem _ hb'))
    show upd (qC H as ps) a _ y=_
    rw [aj (Nat.ne_of_gt (hb y List.mem_cons_self))]
    exact e
  exact go h1 ih
theorem bv{α β:Type}{F:α->β->Prop}:∀{as:List α} {bs:List β},Paired F as bs->∀{j:Nat} {a:α},as[j]?=some a->∃b,bs[j]?=some b/\F a b
 |_,_,.nil,j,a,h=>by simp at h
 |_,_,.cons x t,0,a,h=>by
  simp at h
  subst h
  exact⟨_,rfl,x⟩
 |_,_,.cons x t,j+1,a,h=>by
  simp at h
  obtain⟨b,hb,r⟩:=bv t h
  exact⟨b,by simpa using hb,r⟩
def jR(v d:Addr)(h:Heap):Prop:=h.IsItemsView v d
section
variable{X:Cx}
def By:V->List V->Hp->VK->Prop:=fun x vs H Q=>∃d kvs,x=.ref d/\vs=[]/\H d=some (.dK kvs)/\∀v,H v=none->Q (.ref v) (upd H v (.ext (jR v d)))
theorem qO:MtR X "dict.items" By:=by
 intro pins s σ H x vs v us Q I rx rv h
 obtain⟨d,kvs,rfl,rfl,hd,q⟩:=h
 cases rx
 cases rv
 obtain⟨z,hs,ys,rel,dd⟩:=oB I.hok hd
 refine call_meetsIn PySem.F.slot_dict_items dd.typeIs PySem.F.entry_dict_items (PySem.F.args_dict_items_1 _) (meets_dict_items (bo X.prog X.w) d hs) ⟨⟨ys,dd⟩,?_⟩
 have hv:(s.heap.push { cls:=.type "dict_items",data:=.fields #[.ref d] }).IsItemsView s.heap.objs.size d:=⟨_,Heap.get?_push_size _ rfl,rfl,rfl⟩
 refine⟨.ref s.heap.objs.size,_,I.laid (t':=s.toks) (o:=.ext (jR s.heap.objs.size d)) (fun b o e=>Heap.get?_push_of_some _ e) (Nat.le_refl _) ⟨hv,⟨_,Heap.get?_push_size _ rfl⟩,fun h1 h2 p k=>?_⟩,rfl,q _ (I.hok.fresh (Nat.le_refl _))⟩
 obtain⟨o,ho,r⟩:=p
 exact⟨o,k o ho,r⟩
end
section
variable{X:Cx}{pins:List (Addr × Obj)}{σ:St}{H:Hp}{s:Shared}{d:Addr}{o:Obj}{u:HO}
theorem Inv.thaw(I:Inv X pins σ H s)(e:H d=some (.frz o u))(h0:∀o' u',X.H₀ d≠some (.frz o' u')):Inv X pins σ (upd H d u) s:=by
 have nd:∀b,H b=none->b≠d:=fun b n z=>by rw [z,e] at n;cases n
 have no:∀b v,H b=some v->(∀o u,v≠.frz o u)->b≠d:=fun b v q n z=>by rw [z,e] at q;cases q;exact n _ _ rfl
 refine⟨I.ok,I.os,I.bare,⟨I.base.keep,I.base.slot,fun b ob q n hx=>?_,I.base.there,fun b xs q=>?_,fun b ob v q=>?_,fun b ps q=>?_⟩,I.loc,I.cell,?_,fun x c q=>?_,fun p hp=>?_,fun b v q=>?_,I.len⟩
 ·have z:=I.base.free b ob q n hx
  rw [aj (nd b z)]
  exact z
 ·have z:=I.base.tups b xs q
  rw [aj (no b _ z (fun _ _=>nofun))]
  exact z
 ·have z:=I.base.frzs b ob v q
  rw [aj (fun w=>h0 ob v (by rw [<-w];exact q))]
  exact z
 ·obtain⟨more,z⟩:=I.base.tbls b ps q
  exact⟨more,by rw [aj (no b _ z (fun _ _=>nofun))];exact z⟩
 ·rw [aj (nd _ I.free)]
  exact I.free
 ·rw [aj (nd _ (I.freeC x c q))]
  exact I.freeC x c q
 ·obtain⟨h1,h2,h3⟩:=I.pin p hp
  exact⟨h1,by rw [aj (nd _ h2)];exact h2,h3⟩
 ·have own:∀a b,H b=some (.own a)->upd H d u b=some (.own a):=fun a b z=>by rw [aj (no b _ z (fun _ _=>nofun))];exact z
  have tup:∀b xs,H b=some (.tup xs)->upd H d u b=some (.tup xs):=fun b xs z=>by rw [aj (no b _ z (fun _ _=>nofun))];exact z
  by_cases hb:b=d
  ·subst hb
   rw [ac] at q
   cases q
   exact(I.hok b _ e).2.stay (fun _ _ _ z=>z) (own b) tup
  ·rw [aj hb] at q
   exact(I.hok b v q).stay (fun _ _ _ z=>z) (own b) tup
end
def CG(H₀:Hp)(D:fZ):fZ where
 nx:=fun σ H=>∃d o u,H d=some (.frz o u)/\(∀o' u',H₀ d≠some (.frz o' u'))/\D.nx σ (upd H d u)
 rt:=fun v H=>∃d o u,H d=some (.frz o u)/\(∀o' u',H₀ d≠some (.frz o' u'))/\D.rt v (upd H d u)
 bk:=D.bk
 ct:=D.ct
theorem fR{X:Cx}{st:Stmt}{t:TS}(h:PS X st t):PS X st (fun D σ H=>t (CG X.H₀ D) σ H):=by
 intro pins s σ H D I q
 refine thn (h pins s σ H _ I q) fun f s1 z=>?_
 cases f with
 |next =>
  obtain⟨σ',H',I',d,o,u,e,h0,q'⟩:=z
  exact⟨σ',_,I'.thaw e h0,q'⟩
 |ret v =>
  obtain⟨σ',x,H',I',r,d,o,u,e,h0,q'⟩:=z
  exact⟨σ',x,_,I'.thaw e h0,r,q'⟩
 |brk=>exact z
 |cont=>exact z
def Itd(d:Addr)(o:Obj)(kvs:List (Key × V)):It :=
 ⟨fun i H=>H d=some (.frz o (.dK kvs))/\i < kvs.length,fun i H x H'=>∃a p,H a=none/\x=.ref a/\H'=upd H a (.tup [kV p.1,p.2])/\kvs[i]?=some p,fun i H=>H d=some (.frz o (.dK kvs))/\kvs.length<=i⟩
theorem tE{P:Program}{w:World}{K:W.Frag}{es:List Expr}{k:Nat}{pos:Pos}{d it:Addr}{o:Obj}{kvs:List (Key × V)}{ys:List (Key × Value)}{ep:Nat}(rel:KV kvs ys)(hat:∀h:Heap,h.get? d=some o->h.DictAt (bo P w) d ys ep) :
  Ao P w K (.Tuple es k pos) (Itd d o kvs) [it] it (fun i h=>∃ok ov,IsItemIter h it d i ys.length ep ok ov) where
 mem:=by simp
 obj:=fun i h st b hb=>by
  obtain rfl:b=it:=by simpa using hb
  obtain⟨ok,ov,e⟩:=st
  exact⟨_,e,fun v z=>by cases z⟩
 keep:=fun i h h' st k=>by
  obtain⟨ok,ov,e⟩:=st
  exact⟨ok,ov,k it (by simp) _ e⟩
 item:=by
  intro X hP hw hK hc i pins s σ H E I hf st hg
  subst hP hw hK
  obtain⟨ok,ov,st⟩:=st
  obtain⟨hd,hi⟩:=hg
  have fe:=hf it (by simp)
  obtain⟨f0,f1,f2,f3,f4,f5⟩:=id fe
  have ex:kvs[i]?=some kvs[i]:=List.getElem?_eq_getElem hi
  obtain⟨⟨k1,y⟩,hy,ek,ry⟩:=bv rel ex
  replace ek:kvs[i].1=k1:=ek
  replace ry:cy kvs[i].2 y:=ry
  have lt:it < s.heap.objs.size:=Heap.lt_size st
  refine wpAny_pyNext_items_item st (hat _ (I.hok d _ hd).1) hy fun key h1 hkey io t1 hz k1'=>⟨_,rfl,?_⟩
  refine wpAny_letOwnedTupleGo_items io fun h2 i2 b2=>?_
  have t2:h2.get? s.heap.objs.size=some { cls:=.type "tuple",data:=.seq #[key,y] }:=(b2.2 _ (Nat.ne_of_gt lt)).trans t1
  have hn:H s.heap.objs.size=none:=I.hok.fresh (Nat.le_refl _)
  have I2:Inv X pins σ (upd H s.heap.objs.size (.tup [kV kvs[i].1,kvs[i].2])) { s with heap:=h2 } :=
   I.turned2 (t':=s.toks) (e:=it) (j:=it) (fun b ob x1 _ z=>(b2.2 b x1).trans (k1' b ob x1 z)) fe fe (Nat.le_refl _) ⟨by show 2<=sizeLine;decide,[key,y],.cons (by rw [ek];exact vC hkey) (.cons ry .nil),_,t2,rfl,_,rfl⟩
  refine⟨.ref s.heap.objs.size,_,I2,rfl,⟨_,kvs[i],hn,rfl,rfl,ex⟩,⟨_,_,i2⟩,fun b hb=>?_⟩
  obtain rfl:b=it:=by simpa using hb
  rw [aj (Nat.ne_of_lt lt)]
  exact f0
 done:=by
  intro X hP hw hK hc i pins s σ H E I hf st hg
  subst hP hw hK
  obtain⟨ok,ov,st⟩:=st
  obtain⟨hd,hi⟩:=hg
  obtain⟨f0,f1,f2,f3,f4,f5⟩:=hf it (by simp)
  have hl:kvs.length=ys.length:=rel.length
  exact wpAny_pyNext_items_end (I.ok.hd hc) st (hat _ (I.hok d _ hd).1) (List.getElem?_eq_none (by omega)) fun h' eb=>⟨rfl,I.turned (t':=s.toks) (fun b o hb q=>eb b o hb q) f0 f1 f3 f4 f5⟩
 self:=fun _ _ _ _ _ st h=>by
  obtain⟨ok,ov,st⟩:=st
  exact W.kcp_self st h
section
variable{X:Cx}
def Bs(to:TE):TI:=fun σ H R=>to σ H fun x H1=>∃d kvs,x=.ref d/\H1 d=some (.dK kvs)/\∀o,R (Itd d o kvs) (upd H1 d (.frz o (.dK kvs)))
theorem eR{o:Expr}{to:TE}{es:List Expr}{k:Nat}{tp apos cpos:Pos}(ho:PE X o to) (hbase:attributeBase o "items" X.env (eval o X.env)=eval o X.env:=by rfl) (hline:(apos.endLine==cpos.line)=true:=by rfl) :
  PI X (.Tuple es k tp) (.Call (.Attribute o "items" apos) [] [] cpos) (Bs to):=by
 intro pins s σ H R I h
 refine wpAny_Call_method0_late hbase hline (thn (ho pins s σ H _ I h) fun v s1 ⟨x,H1,I1,r1,d,kvs,ex,hd,q⟩=>?_)
 subst ex
 obtain⟨h1,h2⟩:=rE (T:="dict") I1 r1 (.inr (.inr (.inl ⟨rfl,.inl ⟨kvs,hd⟩⟩)))
 cases r1
 obtain⟨z,hs,ys,rel,dd⟩:=oB I1.hok hd
 refine⟨"dict","dict.items",PySem.F.plainAttrs_dict,PySem.F.slot_dict_items,PySem.F.type_dict_items,h1,h2,Calls.callWith_builtin rfl (PySem.evalArgs_none (call_meetsIn PySem.F.slot_dict_items dd.typeIs PySem.F.entry_dict_items (PySem.F.args_dict_items_1 _) (meets_dict_items (bo X.prog X.w) d hs) ⟨⟨ys,dd⟩,?_⟩))⟩
 have hv:(s1.heap.push { cls:=.type "dict_items",data:=.fields #[.ref d] }).IsItemsView s1.heap.objs.size d:=⟨_,Heap.get?_push_size _ rfl,rfl,rfl⟩
 obtain⟨ep,ob,en,e1,r1⟩:=dd.dictAt
 have hat:∀h:Heap,h.get? d=some ob->h.DictAt (bo X.prog X.w) d ys ep:=fun h e=>⟨ob,en,e,r1⟩
 refine wpAny_pyIter_items (s:={ s1 with heap:=s1.heap.push { cls:=.type "dict_items",data:=.fields #[.ref d] } }) hv (hat _ (Heap.get?_push_of_some _ e1)) ?_
 have hd2:((s1.heap.push { cls:=.type "dict_items",data:=.fields #[.ref d] }).push { cls:=.type "dict_itemiterator",data:=.fields #[.none,.bool false,.ref d,.int 0 0,.int ys.length 0,.int ep 0,.none,.none] }).get? d=some ob:=Heap.get?_push_of_some _ (Heap.get?_push_of_some _ e1)
 have I2:=I1.kept (t':=s1.toks) (h':=(s1.heap.push { cls:=.type "dict_items",data:=.fields #[.ref d] }).push { cls:=.type "dict_itemiterator",data:=.fields #[.none,.bool false,.ref d,.int 0 0,.int ys.length 0,.int ep 0,.none,.none] }) fun b u e=>Heap.get?_push_of_some _ (Heap.get?_push_of_some _ e)
 have I3:=I2.write (x:=d) (e:=d) (o:=.frz ob (.dK kvs)) (t':=s1.toks) (h':=(s1.heap.push { cls:=.type "dict_items",data:=.fields #[.ref d] }).push { cls:=.type "dict_itemiterator",data:=.fields #[.none,.bool false,.ref d,.int 0 0,.int ys.length 0,.int ep 0,.none,.none] }) (by rw [hd];trivial) (.inl rfl) (fun _ _ _ e=>e) ⟨ob,hd2⟩
  ⟨hd2,z,hs,ys,rel,dd.at fun o e=>Heap.get?_push_of_some _ (Heap.get?_push_of_some _ e)⟩
 have hn:H1 ((s1.heap.push { cls:=.type "dict_items",data:=.fields #[.ref d] }).objs.size)=none:=I1.hok.fresh (by rw [Heap.size_push];exact Nat.le_succ _)
 refine⟨_,[(s1.heap.push { cls:=.type "dict_items",data:=.fields #[.ref d] }).objs.size],_,_,_,rfl,I3,tE rel hat,⟨_,_,Heap.get?_push_size _ rfl⟩,fun b hb=>?_,q ob⟩
 obtain rfl:b=(s1.heap.push { cls:=.type "dict_items",data:=.fields #[.ref d] }).objs.size:=by simpa using hb
 refine I1.fpOk (by rw [Heap.size_push];exact Nat.le_succ _) ?_
 rw [aj (fun e=>by rw [e,hd] at hn;cases hn)]
 exact hn
end
theorem eE{d:Addr}{o:Obj}{kvs:List (Key × V)}{g:TG}{tb:TS}{D:fZ}{σ:St}{H:Hp}(Pv:Nat->St->Hp->Prop)(h0:Pv 0 σ H)(hl:∀i σ H,i<=kvs.length->Pv i σ H->H d=some (.frz o (.dK kvs)))
  (hs:∀i p a σ H,kvs[i]?=some p->H a=none->Pv i σ H->g (.ref a) σ (upd H a (.tup [kV p.1,p.2])) fun σ2 H2=>tb { D with nx:=Pv (i+1),ct:=Pv (i+1),bk:=D.nx } σ2 H2) (hd:∀σ H,Pv kvs.length σ H->D.nx σ H) :
  ∃W:Nat->Nat->St->Hp->Prop,(∃m,W 0 m σ H)/\∀i m σ H,W i m σ H ->
   ((Itd d o kvs).stop i H/\D.nx σ H)\/((Itd d o kvs).go i H/\∃N:St->Hp->Prop,(∀σ' H',N σ' H'->∃m',m' < m/\W (i+1) m' σ' H')/\∀x H',(Itd d o kvs).yld i H x H'->g x σ H' fun σ2 H2=>tb { D with nx:=N,ct:=N,bk:=D.nx } σ2 H2):=by
 refine⟨fun i m σ H=>m=kvs.length - i/\i<=kvs.length/\Pv i σ H,⟨kvs.length,by simp,Nat.zero_le _,h0⟩,?_⟩
 rintro i m σ H ⟨rfl,hi,p⟩
 have q:=hl i σ H hi p
 by_cases hlt:i < kvs.length
 ·refine .inr ⟨⟨q,hlt⟩,Pv (i+1),fun σ' H' p'=>⟨kvs.length - (i+1),by omega,rfl,hlt,p'⟩,fun x H' y=>?_⟩
  obtain⟨b,z,hb,rfl,rfl,hz⟩:=y
  exact hs i z b σ H hz hb p
 ·obtain rfl:i=kvs.length:=by omega
  exact .inl ⟨⟨q,Nat.le_refl _⟩,hd σ H p⟩
def Itw(d:Addr)(o:Obj)(kvs:List (Key × V)):It :=
 ⟨fun i H=>H d=some (.frz o (.dK kvs))/\i < kvs.length,fun i H x H'=>H'=H/\∃p,kvs[i]?=some p/\x=p.2,fun i H=>H d=some (.frz o (.dK kvs))/\kvs.length<=i⟩
theorem pD{P:Program}{w:World}{K:W.Frag}{tg:Expr}{d it:Addr}{o:Obj}{kvs:List (Key × V)}{ys:List (Key × Value)}{ep:Nat}(rel:KV kvs ys)(hat:∀h:Heap,h.get? d=some o->h.DictAt (bo P w) d ys ep) :
  Ao P w K tg (Itw d o kvs) [it] it (fun i h=>h.IsValIter it d i ys.length ep) where
 mem:=by simp
 obj:=fun i h st b hb=>by
  obtain rfl:b=it:=by simpa using hb
  obtain⟨o,e,c,hd⟩:=st
  exact⟨o,e,fun v z=>by rw [hd] at z;cases z⟩
 keep:=fun i h h' st k=>by
  obtain⟨o,e,r⟩:=st
  exact⟨o,k it (by simp) _ e,r⟩
 item:=by
  intro X hP hw hK hc i pins s σ H E I hf st hg
  subst hP hw hK
  obtain⟨hd,hi⟩:=hg
  obtain⟨f0,f1,f2,f3,f4,f5⟩:=hf it (by simp)
  have ex:kvs[i]?=some kvs[i]:=List.getElem?_eq_getElem hi
  obtain⟨⟨k1,y⟩,hy,ek,ry⟩:=bv rel ex
  replace ry:cy kvs[i].2 y:=ry
  refine wpAny_pyNext_values_item st (hat _ (I.hok d _ hd).1) hy fun h' st' sb=>?_
  have I1:Inv X pins σ H { s with heap:=h' }:=I.turned (t':=s.toks) (fun b o hb e=>(sb.2 b hb).trans e) f0 f1 f3 f4 f5
  obtain⟨o',e,c,dt⟩:=id st'
  exact⟨y,rfl,xk (s:={ s with heap:=h' }) e c dt (by decide) ⟨kvs[i].2,H,I1,ry,⟨rfl,_,ex,rfl⟩,st',fun b hb=>(hf b hb).1⟩⟩
 done:=by
  intro X hP hw hK hc i pins s σ H E I hf st hg
  subst hP hw hK
  obtain⟨hd,hi⟩:=hg
  obtain⟨f0,f1,f2,f3,f4,f5⟩:=hf it (by simp)
  have hl:kvs.length=ys.length:=rel.length
  exact wpAny_pyNext_values_end (I.ok.hd hc) st (hat _ (I.hok d _ hd).1) (List.getElem?_eq_none (by omega)) fun h' eb=>⟨rfl,I.turned (t':=s.toks) (fun b o hb q=>eb b o hb q) f0 f1 f3 f4 f5⟩
 self:=fun _ _ _ _ _ st h=>wpAny_pyIter_valiter st h
section
variable{X:Cx}{tg:Expr}
def yS(to:TE):TI:=fun σ H R=>to σ H fun x H1=>∃d kvs,x=.ref d/\H1 d=some (.dK kvs)/\∀o,R (Itw d o kvs) (upd H1 d (.frz o (.dK kvs)))
theorem o8{o:Expr}{to:TE}{apos cpos:Pos}(ho:PE X o to) (hbase:attributeBase o "values" X.env (eval o X.env)=eval o X.env:=by rfl) (hline:(apos.endLine==cpos.line)=true:=by rfl) :
  PI X tg (.Call (.Attribute o "values" apos) [] [] cpos) (yS to):=by
 intro pins s σ H R I h
 refine wpAny_Call_method0_late hbase hline (thn (ho pins s σ H _ I h) fun v s1 ⟨x,H1,I1,r1,d,kvs,ex,hd,q⟩=>?_)
 subst ex
 obtain⟨h1,h2⟩:=rE (T:="dict") I1 r1 (.inr (.inr (.inl ⟨rfl,.inl ⟨kvs,hd⟩⟩)))
 cases r1
 obtain⟨z,hs,ys,rel,dd⟩:=oB I1.hok hd
 refine⟨"dict","dict.values",PySem.F.plainAttrs_dict,PySem.F.slot_dict_values,PySem.F.type_dict_values,h1,h2,Calls.callWith_builtin rfl (PySem.evalArgs_none (call_meetsIn PySem.F.slot_dict_values dd.typeIs PySem.F.entry_dict_values (PySem.F.args_dict_values_1 _) (meets_dict_values (bo X.prog X.w) d hs) ⟨⟨ys,dd⟩,?_⟩))⟩
 have hv:(s1.heap.push { cls:=.type "dict_values",data:=.fields #[.ref d] }).IsValuesView s1.heap.objs.size d:=⟨_,Heap.get?_push_size _ rfl,rfl,rfl⟩
 obtain⟨ep,ob,en,e1,r1⟩:=dd.dictAt
 have hat:∀h:Heap,h.get? d=some ob->h.DictAt (bo X.prog X.w) d ys ep:=fun h e=>⟨ob,en,e,r1⟩
 refine wpAny_pyIter_values (s:={ s1 with heap:=s1.heap.push { cls:=.type "dict_values",data:=.fields #[.ref d] } }) hv (hat _ (Heap.get?_push_of_some _ e1)) ?_
 have hd2:((s1.heap.push { cls:=.type "dict_values",data:=.fields #[.ref d] }).push { cls:=.type "dict_valueiterator",data:=.fields #[.ref d,.int 0 0,.int ys.length 0,.int ep 0] }).get? d=some ob:=Heap.get?_push_of_some _ (Heap.get?_push_of_some _ e1)
 have I2:=I1.kept (t':=s1.toks) (h':=(s1.heap.push { cls:=.type "dict_values",data:=.fields #[.ref d] }).push { cls:=.type "dict_valueiterator",data:=.fields #[.ref d,.int 0 0,.int ys.length 0,.int ep 0] }) fun b u e=>Heap.get?_push_of_some _ (Heap.get?_push_of_some _ e)
 have I3:=I2.write (x:=d) (e:=d) (o:=.frz ob (.dK kvs)) (t':=s1.toks) (h':=(s1.heap.push { cls:=.type "dict_values",data:=.fields #[.ref d] }).push { cls:=.type "dict_valueiterator",data:=.fields #[.ref d,.int 0 0,.int ys.length 0,.int ep 0] }) (by rw [hd];trivial) (.inl rfl) (fun _ _ _ e=>e) ⟨ob,hd2⟩
  ⟨hd2,z,hs,ys,rel,dd.at fun o e=>Heap.get?_push_of_some _ (Heap.get?_push_of_some _ e)⟩
 have hn:H1 ((s1.heap.push { cls:=.type "dict_values",data:=.fields #[.ref d] }).objs.size)=none:=I1.hok.fresh (by rw [Heap.size_push];exact Nat.le_succ _)
 refine⟨_,[(s1.heap.push { cls:=.type "dict_values",data:=.fields #[.ref d] }).objs.size],_,_,_,rfl,I3,pD rel hat,⟨_,Heap.get?_push_size _ rfl,rfl,rfl⟩,fun b hb=>?_,q ob⟩
 obtain rfl:b=(s1.heap.push { cls:=.type "dict_values",data:=.fields #[.ref d] }).objs.size:=by simpa using hb
 refine I1.fpOk (by rw [Heap.size_push];exact Nat.le_succ _) ?_
 rw [aj (fun e=>by rw [e,hd] at hn;cases hn)]
 exact hn
theorem ly{d:Addr}{o:Obj}{kvs:List (Key × V)}{g:TG}{tb:TS}{D:fZ}{σ:St}{H:Hp}(Pv:Nat->St->Hp->Prop)(h0:Pv 0 σ H)(hl:∀i σ H,i<=kvs.length->Pv i σ H->H d=some (.frz o (.dK kvs)))
  (hs:∀i p σ H,kvs[i]?=some p->Pv i σ H->g p.2 σ H fun σ2 H2=>tb { D with nx:=Pv (i+1),ct:=Pv (i+1),bk:=D.nx } σ2 H2) (hd:∀σ H,Pv kvs.length σ H->D.nx σ H) :
  ∃W:Nat->Nat->St->Hp->Prop,(∃m,W 0 m σ H)/\∀i m σ H,W i m σ H ->
   ((Itw d o kvs).stop i H/\D.nx σ H)\/((Itw d o kvs).go i H/\∃N:St->Hp->Prop,(∀σ' H',N σ' H'->∃m',m' < m/\W (i+1) m' σ' H')/\∀x H',(Itw d o kvs).yld i H x H'->g x σ H' fun σ2 H2=>tb { D with nx:=N,ct:=N,bk:=D.nx } σ2 H2):=by
 refine⟨fun i m σ H=>m=kvs.length - i/\i<=kvs.length/\Pv i σ H,⟨kvs.length,by simp,Nat.zero_le _,h0⟩,?_⟩
 rintro i m σ H ⟨rfl,hi,p⟩
 have q:=hl i σ H hi p
 by_cases hlt:i < kvs.length
 ·refine .inr ⟨⟨q,hlt⟩,Pv (i+1),fun σ' H' p'=>⟨kvs.length - (i+1),by omega,rfl,hlt,p'⟩,fun x H' y=>?_⟩
  obtain⟨rfl,z,hz,rfl⟩:=y
  exact hs i z σ _ hz p
 ·obtain rfl:i=kvs.length:=by omega
  exact .inl ⟨⟨q,Nat.le_refl _⟩,hd σ H p⟩
end
theorem zk{X:Cx}{e:Expr}{t:TE}(h:PE X e t):PE X e (fun σ H Q=>t σ H fun v H'=>∃d o u,H' d=some (.frz o u)/\(∀o' u',X.H₀ d≠some (.frz o' u'))/\Q v (upd H' d u)) :=
 fun pins s σ H _ I q=>thn (h pins s σ H _ I q) fun _ _ ⟨x,_,I',r,_,_,_,e,h0,q'⟩=>⟨x,_,I'.thaw e h0,r,q'⟩
theorem sX{d:Addr}{o:Obj}{kvs:List (Key × V)}{n:Nat}{κ:List Nat}{g:TG}{tc:TT}{te:TE}{σ:St}{H:Hp}{Q:VK}(Pv:Nat->List V->Hp->Prop)(h0:Pv 0 [] H)(hz:kvs.length<=sizeLine)(hlen:∀i ys H2,Pv i ys H2->ys.length<=i)
  (hl:∀i ys H2,Pv i ys H2->H2 d=some (.frz o (.dK kvs)))
  (hs:∀i p a ys H2 (N:List V->Hp->Prop),(∀ys' H',Pv (i+1) ys' H'->N ys' H')->kvs[i]?=some p->H2 a=none->Pv i ys H2->g (.ref a) (dk n κ σ) (upd H2 a (.tup [kV p.1,p.2])) fun σ4 H4=>σ4.drop n=(dk n κ σ).drop n/\tc σ4 H4 fun b H5=>if b=true then te σ4 H5 fun v H6=>N (ys++[v]) H6 else N ys H5)
  (hQ:∀ys H2 D,Pv kvs.length ys H2->H2 D=none->Q (.ref D) (upd H2 D (.lst ys))) :
  iL n κ g tc te σ (Itd d o kvs) H Q:=by
 refine⟨fun i m ys H2=>m=kvs.length - i/\i<=kvs.length/\Pv i ys H2,⟨kvs.length,rfl,Nat.zero_le _,h0⟩,?_⟩
 rintro i m ys H2 ⟨rfl,hi,p⟩
 have hd:=hl i ys H2 p
 by_cases hlt:i < kvs.length
 ·refine .inr ⟨⟨hd,hlt⟩,Nat.lt_of_le_of_lt (hlen i ys H2 p) (Nat.lt_of_lt_of_le hlt hz),fun x H3 y=>?_⟩
  obtain⟨a,z,ha,rfl,rfl,hz'⟩:=y
  exact hs i z a ys H2 (fun ys' H'=>∃m',m' < kvs.length - i/\m'=kvs.length - (i+1)/\i+1<=kvs.length/\Pv (i+1) ys' H') (fun ys' H' p'=>⟨kvs.length - (i+1),by omega,rfl,hlt,p'⟩) hz' ha p
 ·obtain rfl:i=kvs.length:=by omega
  exact .inl ⟨⟨hd,Nat.le_refl _⟩,fun D hD=>hQ ys H2 D p hD⟩
section
variable{X:Cx}
theorem kz:gM X (.builtin "isinstance") (fun xs H Q=>∃x y u t b,xs=[x,y]/\(∀u',cy y u'->u'=u)/\qy X.K H x t/\W.kitOne X.K t u=some b/\Q (.bl b) H):=by
 intro pins s σ H xs us Q I rv h
 obtain⟨x,y,u,t,b,rfl,hu,ty,hk,q⟩:=h
 obtain⟨u1,u2,rfl,r1,r2⟩:=rv.two
 rw [hu u2 r2]
 exact ic I r1 ty hk fun tk=>⟨.bl b,H,I.tok _,rfl,q⟩
end
section
variable{X:Cx}{K:W.Frag}
theorem eqK(h:X.K=K)(hu:X.A.units+64 < cLine):OpR X (compareOp .Eq) (BV K false):=by subst h;exact yj hu
theorem neK(h:X.K=K)(hu:X.A.units+64 < cLine):OpR X (compareOp .NotEq) (BV K true):=by subst h;exact yn hu
def C3(K:W.Frag):R2:=fun x y H Q=>∃a b xs ys,x=.ref a/\y=.ref b/\SqT K H a xs/\SqT K H b ys/\ys≠[]/\xs.length+ys.length<=sizeLine /\
 ∀p H',aE H H'->SqT K H' p (xs++ys)->Q (.ref p) H'
theorem zO:OpR X (binaryOp .Add) (C3 X.K):=by
 intro pins s σ H x y v u Q I rx ry h
 obtain⟨a,b,xs,ys,rfl,rfl,ha,hb,hy,hz,q⟩:=h
 by_cases hx:xs=[]
 ·subst hx
  cases rx
  cases ry
  obtain⟨its,r1,p1,_⟩:=I.tuple ha
  obtain⟨its2,r2,p2,_⟩:=I.tuple hb
  cases r1
  obtain⟨o1,e1,c1,n1,d1⟩:=p1
  obtain⟨o2,e2,c2,n2,d2⟩:=p2
  obtain⟨oc1,od1,dt1,sl1⟩:=o1
  obtain⟨oc2,od2,dt2,sl2⟩:=o2
  dsimp only at c1 d1 c2 d2
  subst c1 d1 c2 d2
  exact concat_meets ⟨_,e1,rfl⟩ ⟨_,e2,rfl⟩ noFill_tuple_add seq_tuple_add PySem.F.slot_tuple_add PySem.F.entry_tuple_add (PySem.F.args_tuple_add_2 _ _)
   (tuple_addW0 a b _ its2.toArray n1 n2 od1 od2 sl1 sl2 rfl) ⟨e1,e2,.ref b,H,I,rfl,q b H (fun _ _ e=>e) hb⟩
 ·refine vQ pins s σ H _ _ v u Q I rx ry ⟨a,b,xs,ys,rfl,rfl,ha,hb,hx,hz,fun z=>absurd z hy,fun _ p hp=>q p _ (fun b u e=>by rw [aj (aH e hp)];exact e) (SqT.of ac)⟩
theorem yw{i j:Nat}{x y:Str}{k:Nat}{px py pt:Pos}(hK:X.K=K)(hc:X.calm=true)(hN:X.N.Nodup)(hi:X.N[i]?=some x)(hx:Loc X.env.scope x)(hfx:X.fn x=true\/X.env.scope.names.lookup x=some .local)
  (hj:X.N[j]?=some y) (hy:Loc X.env.scope y) (hfy:X.fn y=true\/X.env.scope.names.lookup y=some .local):PG X (.Tuple [.Name x px,.Name y py] k pt) (BY K 2 (qo (jq i) (qo (jq j) B1))):=by
 subst hK
 exact dE hc (aL (aP hN hi hx hfx) (aL (aP hN hj hy hfy) cC))
end
def zB(tk tv:TE):TE:=fun σ H Q=>∀p,H p=none->tk σ (upd H p (.dT [])) fun x H1=>tv σ H1 fun y H2=>∃b ks,x=.ref b/\H2 p=some (.dT [])/\H2 b=some (.tup (ks.map kV))/\Q (.ref p) (upd H2 p (.dT (bc [] ks y)))
theorem uo{X:Cx}{pos:Pos}{k v:Expr}{tk tv:TE}(hu:X.A.units+1 < cLine)(hk:PE X k tk)(hv:PE X v tv):PE X (.Dict [some k] [v] pos) (zB tk tv):=by
 intro pins s σ H Q I q
 have hn:=I.hok.fresh (Nat.le_refl s.heap.objs.size)
 have I1:=I.laid (a:=s.heap.objs.size) (o:=.dT []) (h':=s.heap.push { cls:=.type "dict",data:=.dict #[] }) (t':=s.toks) (fun _ _ q=>Heap.get?_push_of_some _ q) (Nat.le_refl _) (qR s.heap I.big)
 have h1:=q _ hn
 refine wpAny_Dict_any rfl rfl (by intro z;cases z) (by show 1<=15;decide) (pairTrees_cons_walk (thn (hk pins _ σ _ _ I1 h1) fun u s1 ⟨x,H1,I2,rx,q1⟩=>thn (hv pins s1 σ H1 _ I2 q1) fun w2 s2 ⟨y,H2,I3,ry,b,ks,ex,ea,eb,q2⟩=>pairTrees_nil_walk ?_))
 subst ex
 cases rx
 obtain⟨z,hd,xs,rel,dd⟩:=Bj I3.hok ea
 cases rel
 have room:HeapKind.room (tupleKind (bo X.prog X.w)) X.A:=(show X.A.units < cLine from Nat.lt_of_succ_lt hu)
 unfold storeAll
 rw [List.forIn_cons]
 refine wpAny_bind (wpAny_bind (wpAny_dictSet_heap (hsz:=Nat.zero_le _) room (ja I3.hok eb) dd fun h' dd' hs=>wpAny_pure ?_))
 show wpAny _ _ (forIn [] PUnit.unit _) _ _ _
 rw [List.forIn_nil]
 refine wpAny_pure ⟨.ref s.heap.objs.size,_,?_,rfl,q2⟩
 obtain⟨o,es,ep,hq,h2,h3,h4,_,h5⟩:=dd'
 refine jS I3 (by rw [ea];exact True.intro) hs ⟨o,hq⟩ ⟨by have:=aG ([]:List (List Key × V)) ks y;exact Nat.le_trans this (by show 0+1<=sizeLine;decide),hd,_,(KT.put (H:=H2) (kvs:=[]) (xs:=[]) .nil ks eb ry).keeps fun c ys ec=>?_,o,es,ep,hq,h2,h3,h4,h5⟩
 rw [aj (Ab ec ea (fun z=>nomatch z))]
 exact ec
def gn(K:W.Frag)(C:Addr)(bmB:List Value)(newId:String):Bool:=match K.lookup C with|some ⟨.type "type",_,.cls cd,sl⟩=>(match cd.mro,sl.toList with|.ref C'::bm,[_,_,_,_,some (.builtin n),_]=>C'==C&&n==newId&&!cd.hasDel&&W.tailIn K bmB bm|_,_=>false)|_=>false
structure DF(h:Heap)(C:Addr)(bmB:List Value)(newId:String):Prop where
 obj:∃bm N nm q bs hdct sn sub ab col dd k0 k1 k2 k3 k5,h.get? C=some (excClassObj nm q C N bs bm hdct sn sub ab col dd k0 k1 k2 k3 k5 newId)/\OwnTail h bmB bm
theorem jO{K:W.Frag}{h:Heap}{C:Addr}{bmB:List Value}{newId:String}(kin:K.In h)(q:gn K C bmB newId=true):DF h C bmB newId:=by
 refine⟨?_⟩
 unfold gn at q
 split at q
 next ddx cdx slx look =>
  split at q
  next C2 tl z0 z1 z2 z3 nn z5 hmro hsl =>
   simp only [Bool.not_eq_true',Bool.and_eq_true,beq_iff_eq] at q
   obtain⟨⟨⟨e1,e2⟩,hdel⟩,htl⟩:=q
   obtain⟨nm,bs,mro,ns,qn,hd,sn,sub,ab,col,del⟩:=cdx
   obtain⟨sll⟩:=slx
   dsimp only at hmro hdel hsl
   subst e1 e2 hmro hdel hsl
   exact⟨tl,ns,nm,qn,bs,hd,sn,sub,ab,col,ddx,z0,z1,z2,z3,z5,kin _ _ look,W.tail_of_in kin htl⟩
  next=>cases q
 next=>cases q
abbrev eU(C:Addr)(d:Option Addr)(t:Addr):Obj:={ cls:=.ref C,dict:=d,data:=.fields #[.ref t,.none,.none,.none,.bool false,.none] }
abbrev iu(h:Heap)(C:Addr)(us:List Value):Heap:=(h.push { cls:=.type "tuple",data:=.seq us.toArray }).push (eU C none h.objs.size)
section
variable{prog:Program}{w:World}{A:Around}{E:Value->Shared->Prop}{h:Heap}{g:Array GenState}{d:Drawn}{t:Nat}{os:OsState}{K:W.Frag}{C fI:Addr}{us:List Value}
theorem uj:(iu h C us).get? (h.objs.size+1)=some (eU C none h.objs.size):=by
 have:=Heap.get?_push_size (h.push { cls:=.type "tuple",data:=.seq us.toArray }) (o:=eU C none h.objs.size) rfl
 rwa [Heap.size_push] at this
theorem i6:∀b o,h.get? b=some o->(iu h C us).get? b=some o:=fun b o e=>Heap.get?_push_of_some _ (Heap.get?_push_of_some _ e)
theorem oM{Q:Fin->Shared->Prop}(X:K.In h) (q:gn K C kX "ValueError.__new__"=true) (hi:W.findIn K (.ref C) "__init__"=some (some (.ref fI))) (hf:W.typeIn K (.ref fI)=some (.type "function")) (hl:us.length<=sizeLine)
  (hq:wpAny (model prog w) A (call (.ref fI) (.ref (h.objs.size+1)::us)) (fun r s'=>r=.none/\Q (.done (.ret (.ref (h.objs.size+1)))) s') E ⟨iu h C us,g,d,t,os⟩) :
  wpAny (model prog w) A (Builtin.«type.__call__» ⟨.ref C::us,[]⟩) Q E ⟨h,g,d,t,os⟩:=by
 have F:=PySem.F.excBase_ValueError
 have X1:K.In (iu h C us):=X.keeps i6
 have hget:=uj (h:=h) (C:=C) (us:=us)
 obtain⟨bm,N,nm,qq,bs,hdct,sn,sub,ab,col,dd,k0,k1,k2,k3,k5,hCl,T⟩:=(jO X q).obj
 have hC1:=i6 (h:=h) (C:=C) (us:=us) _ _ hCl
 have self:(Value.ref C::bm).contains (.ref C)=true:=by simp
 repeat (first|with_reducible refine wpAny_loadPart_at hCl ?_|with_reducible refine wpAny_madeBy_exc hCl ?_|wp_step)
 refine codeAny_call_builtin_code (Code.quiet_builtin _ F.quiet) (wpAny_check_new_subU F (by decide +kernel) T hCl (codeAny_exc_new_subU F (by decide +kernel) F T hCl ?_ hl))
 show wpAny _ _ _ _ _ ⟨iu h C us,g,d,t,os⟩
 unfold isInstance
 repeat (first|with_reducible refine wpAny_loadPart_at hget ?_|(with_reducible refine wpAny_isSubtype_exc hC1 ?_;rw [self])|wp_step)
 show wpAny (model prog w) A (typeLookup (.ref C) _) _ _ _
 refine(W.looks_findIn X1 hi).at ?_
 refine wpAny_holding (wpAny_bind ((W.bind_fn X1 _ hf).at ?_))
 refine wpAny_bind (wpAny_mono hq (fun r s' ⟨hr,hQ⟩=>?_) fun _ _ z=>z)
 subst hr
 wp_walk
 exact hQ
theorem wQ{Q:Value->Shared->Prop}(X:K.In h) (q:gn K C kX "ValueError.__new__"=true) (hi:W.findIn K (.ref C) "__init__"=some (some (.ref fI))) (hf:W.typeIn K (.ref fI)=some (.type "function")) (hl:us.length<=sizeLine)
  (hq:wpAny (model prog w) (A.under (.builtin "type.__call__" ⟨.ref C::us,[]⟩)) (call (.ref fI) (.ref (h.objs.size+1)::us)) (fun r s'=>r=.none/\Q (.ref (h.objs.size+1)) s') E ⟨iu h C us,g,d,t,os⟩) :
  wpAny (model prog w) A (call (.ref C) us) Q E ⟨h,g,d,t,os⟩:=by
 obtain⟨bm,N,nm,qq,bs,hdct,sn,sub,ab,col,dd,k0,k1,k2,k3,k5,hCl,T⟩:=(jO X q).obj
 have tl:=tc_lookup
 have tb:=tc_bind (.ref C)
 have ty:Shared.TypeIs ⟨h,g,d,t,os⟩ (.ref C) "type":=⟨_,hCl,rfl⟩
 refine wpAny_call (codeAny_of_tree (show wpAny (model prog w) _ (callAny (.ref C) _) _ _ _ from ?_))
 repeat (any_goals (first|assumption|with_reducible refine wpAny_loadPart_at hCl ?_|wp_step))
 exact⟨rfl,codeAny_call_builtin_at (Code.quiet_builtin _ (by decide +kernel)) entry_typeCall (wpAny_check_type_call_sub hCl (oM X q hi hf hl hq))⟩
end
section
variable{prog:Program}{w:World}{A:Around}{E:Value->Shared->Prop}{s:Shared}{env:Env}{K:W.Frag}{C fI:Addr}
theorem nl{m:Sem Value}{Q:Flow->Shared->Prop} (q:gn K C kX "ValueError.__new__"=true) (hno:A.handled=none)
  (h:wpAny (model prog w) A m (fun v s1=>∃e d t,v=.ref e/\K.In s1.heap/\s1.heap.get? e=some (eU C d t)/\E (.ref e) s1) E s):wpAny (model prog w) A (raiseStmt env (some m) none) Q E s:=by
 unfold raiseStmt
 refine wpAny_bind (wpAny_mono h (fun v s1 ⟨e,d,t,hv,X,he,hE⟩=>?_) fun _ _ z=>z)
 subst hv
 obtain⟨bm,N,nm,qq,bs,hdct,sn,sub,ab,col,dd,k0,k1,k2,k3,k5,hCl,T⟩:=(jO X q).obj
 have be:(Value.ref C::bm).contains (.type "BaseException")=true:=by rw [List.contains_cons,T.hasType PySem.F.excBase_ValueError.hasBase,Bool.or_true]
 obtain⟨hp,gs,dr,tk,os⟩:=s1
 dsimp only at he hCl
 repeat (first|with_reducible refine wpAny_loadPart_at he ?_|with_reducible refine wpAny_loadPart_at hCl ?_|(with_reducible refine wpAny_isSubtype_exc hCl ?_;rw [be])|wp_step)
 exact wpAny_raiseNew_none hno hE
theorem ud{x:Str}{npos cpos pos:Pos}{args:List Expr}{Q:Flow->Shared->Prop} (q:gn K C kX "ValueError.__new__"=true) (hi:W.findIn K (.ref C) "__init__"=some (some (.ref fI))) (hf:W.typeIn K (.ref fI)=some (.type "function"))
  (hno:A.handled=none) (hpl:(backTo cpos (starEach args env)).any (·.1)=false)
  (h:wpAny (model prog w) A (eval (.Name x npos) env) (fun f s1=>f=.ref C/\wpAny (model prog w) A (evalArgs (.ref C) true (backTo cpos (starEach args env)) [])
   (fun a s2=>a.kw=[]/\a.pos.length<=sizeLine/\K.In s2.heap/\wpAny (model prog w) (A.under (.builtin "type.__call__" ⟨.ref C::a.pos,[]⟩)) (call (.ref fI) (.ref (s2.heap.objs.size+1)::a.pos))
    (fun r s3=>r=.none/\K.In s3.heap/\(∃d t,s3.heap.get? (s2.heap.objs.size+1)=some (eU C d t))/\E (.ref (s2.heap.objs.size+1)) s3) E { s2 with heap:=iu s2.heap C a.pos }) E s1) E s) :
  wpAny (model prog w) A (exec (.Raise (some (.Call (.Name x npos) args [] cpos)) none pos) env) Q E s:=by
 rw [arm_exec_Raise]
 refine wpAny_bind (wpAny_standAt (nl (env:=env) (K:=K) (C:=C) q hno ?_))
 refine wpAny_bind (wpAny_mono (wpAny_Call_ofName (wpAny_mono h (fun f s1 z=>?_) fun _ _ z=>z)) (fun v s3 z=>wpAny_bind (wpAny_standAt (wpAny_pure z))) fun _ _ z=>z)
 obtain⟨rfl,z⟩:=z
 unfold callWith
 refine wpAny_bind (wpAny_holding (wpAny_mono z (fun a s2 y=>wpAny_bind (wpAny_standAt ?_)) fun _ _ z=>z))
 obtain⟨us,kw⟩:=a
 obtain⟨hk,hl,X,y⟩:=y
 obtain rfl:kw=[]:=hk
 obtain⟨bm,N,nm,qq,bs,hdct,sn,sub,ab,col,dd,k0,k1,k2,k3,k5,hCl,T⟩:=(jO X q).obj
 obtain⟨hp,gs,dr,tk,os⟩:=s2
 simp only [hpl]
 refine wpAny_bind (wpAny_keeperOf_exc hCl ?_)
 refine wpAny_bind (wQ X q hi hf hl (wpAny_mono y (fun r s3 ⟨y1,y2,⟨d,t,y3⟩,y4⟩=>⟨y1,wpAny_bind (wpAny_holding (wpAny_point (wpAny_pure ⟨_,d,t,rfl,y2,y3,y4⟩)))⟩) fun _ _ z=>z))
end
def cut(H:Hp)(x:Addr):Hp:=fun b=>if b=x then none else H b
theorem qI{H:Hp}{x:Addr}:cut H x x=none:=by unfold cut;rw [if_pos rfl]
theorem gO{H:Hp}{x b:Addr}(h:b≠x):cut H x b=H b:=by unfold cut;rw [if_neg h]
def cH(e C:Addr)(d:Option Addr)(h:Heap):Prop:=∃t,h.get? e=some (eU C d t)
theorem kD{P:Program}{w:World}{H:Hp}{h:Heap}{e C:Addr}{d:Option Addr}(p:cH e C d h):cr P w H h e (.ext (cH e C d)):=⟨p,let ⟨_,q⟩:=p;⟨_,q⟩,fun _ _ ⟨t,q⟩ k=>⟨t,k _ q⟩⟩
section
variable{X:Cx}{pins:List (Addr × Obj)}{σ:St}{H:Hp}{s:Shared}{x:Addr}
theorem Inv.cut{φ:Heap->Prop}(I:Inv X pins σ H s)(hx:H x=some (.ext φ)):Inv X pins σ (L2.cut H x) s:=by
 have ne:∀b u,(∀ψ,u≠.ext ψ)->H b=some u->b≠x:=fun b u hu e z=>by rw [z,hx] at e;exact hu _ (Option.some.inj e).symm
 have le:∀b,H b=none->L2.cut H x b=none:=fun b e=>by unfold L2.cut;split<;>first|rfl|exact e
 refine⟨I.ok,I.os,I.bare,⟨I.base.keep,I.base.slot,fun b ob e n hb=>le b (I.base.free b ob e n hb),I.base.there,fun b xs e=>?_,fun b ob u e=>?_,fun b ps e=>?_⟩,I.loc,I.cell,le _ I.free,fun y c e=>le c (I.freeC y c e),fun p hp=>?_,fun b u e=>?_,I.len⟩
 ·have z:=I.base.tups b xs e
  rw [gO (ne _ _ (fun _ q=>by cases q) z)]
  exact z
 ·have z:=I.base.frzs b ob u e
  rw [gO (ne _ _ (fun _ q=>by cases q) z)]
  exact z
 ·obtain⟨m,z⟩:=I.base.tbls b ps e
  exact⟨m,by rw [gO (ne _ _ (fun _ q=>by cases q) z)];exact z⟩
 ·obtain⟨a1,a2,a3⟩:=I.pin p hp
  exact⟨a1,le _ a2,a3⟩
 ·by_cases eb:b=x
  ·subst eb
   rw [qI] at e
   cases e
  ·rw [gO eb] at e
   refine(I.hok b u e).stay (fun _ _ _ q=>q) (fun c q=>?_) fun c xs q=>?_
   ·rw [gO (ne _ _ (fun _ q=>by cases q) q)];exact q
   ·rw [gO (ne _ _ (fun _ q=>by cases q) q)];exact q
end
section
variable{P:Program}{w:World}{K:W.Frag}{mg:Str->Option Value}{base:Heap}
structure MkX(K:W.Frag)(C fI:Addr):Prop where
 ex:gn K C kX "ValueError.__new__"=true
 init:W.findIn K (.ref C) "__init__"=some (some (.ref fI))
 fn:W.typeIn K (.ref fI)=some (.type "function")
end
end L2
namespace L2
open PySem PySem.Spec PyProof.Rows Builtin Builtin.ObjectAttr
def qd(l:List Value):Bool:=l.dropWhile (fun|.ref _=>true|_=>false)==kX
theorem lR(self:Value):∀{l:List Value},qd l=true->refuseLoop self "__setattr__" l=pure ()
 |[],e=>by cases e
 |v::r,e=>by
  cases v with
  |ref c=>rw [refuseLoop_ref];exact lR self e
  |type n=>rw [beq_iff_eq.mp (show(Value.type n::r==kX)=true from e)];exact PySem.F.store_ValueError.passes self
  |_=>cases e
structure jM(K:W.Frag)(C:Addr):Prop where
 sa:W.findIn K (.ref C) "__setattr__"=some (some (.builtin "object.__setattr__"))
 po:(W.clsIn K C).any (fun cd=>qd cd.mro)=true
 hd:W.hasDictIn K C=true
 ob:W.mroIn K C (.type "object")=some true
section
variable{prog:Program}{w:World}{A:Around}{E:Value->Shared->Prop}{s:Shared}{K:W.Frag}{x C:Addr}{name:Str}{v:Value}
theorem vP{ox:Obj}{od:Option Obj}{tk0:Tok}{R:Result->Shared->Prop}(X:K.In s.heap)(I:W.InstAt s.heap x ox C od)(c:jM K C)(ht:W.takerIn K C name=some none)
  (h:∀b,wpAny (model prog w) A.in1 (storeInOwnDict (.ref x) (.ref C) (.str name tk0) name v b)
   (fun fx s'=>match fx with|.done f=>R (.ok f) s'|.again c'=>c'.quiet=true/\codeAny (model prog w) A c' R s') (fun e s'=>R (.error e) s') s) :
  codeAny (model prog w) A (.call (.builtin "object.__setattr__") ⟨[.ref x,.str name tk0,v],[]⟩) R s:=by
 have S:=PySem.F.store_object
 obtain⟨cd,hc,ho⟩:=W.any_some c.po
 have isO:W.Looks (model prog w) s.heap (isInstance (.ref x) (.type "object")) true:=I.type.andThen (W.looks_mroIn X c.ob)
 have mr:W.Looks (model prog w) s.heap (mroOf (.ref C)) cd.mro:=(W.looks_clsIn X hc).andThen .now
 refine codeAny_call_builtin S.slot.plain S.entry (@W.check_slot (model prog w) _ _ s "object.__setattr__" "object" "__setattr__" (.ref x) [.str name tk0,v] [] _ S.kind S.split isO (S.args (.ref x) (.str name tk0) v) ?_)
 obtain⟨at0,ha,hr⟩:=Option.bind_eq_some_iff.mp ht
 have tk3:W.Looks (model prog w) s.heap (storeTaker? at0) none:=by
  cases at0 with
  |none=>exact .now
  |some a =>
   obtain⟨b,hb,hn⟩:=Option.map_eq_some_iff.mp hr
   refine(W.looks_takesIn X hb).andThen ?_
   cases b with
   |true=>cases hn
   |false=>exact .now
 rw [W.osa_eq,refuse_eq]
 refine wpAny_bind (wpAny_bind (I.type.here (wpAny_bind (mr.here ?_))))
 rw [lR _ ho]
 exact wpAny_pure (wpAny_bind (I.type.here (wpAny_bind ((W.looks_findIn X ha).here (wpAny_bind (tk3.here (h _)))))))
def rZ(dx:Addr)(fs:List (Str × V))(h:Heap):Prop:=∃mA,h.Ns1 dx mA/\(∀f,jy (fs.lookup f) (mA f))/\PySem.Within mA (fs.map (·.1))
theorem wW{t:Addr}{Q:Unit->Shared->Prop}(X:K.In s.heap)(c:jM K C)(ht:W.takerIn K C name=some none)(hx:s.heap.get? x=some (eU C none t))
  (h:∀h',h'.get? x=some (eU C (some s.heap.objs.size) t)->h'.Ns1 s.heap.objs.size (fun y=>if y=name then some v else none)->(∀b o,b≠x->s.heap.get? b=some o->h'.get? b=some o)->Q () { s with heap:=h',toks:=s.toks+2 }) :
  wpAny (model prog w) A (setAttr (.ref x) name v) Q E s:=by
 have J:W.InstAt s.heap x (eU C none t) C none:=⟨hx,rfl,rfl,True.intro⟩
 obtain⟨cd,hc,hd⟩:=W.any_some c.hd
 refine W.set_plain X J c.sa (vP (s:={ s with toks:=s.toks+1 }) X J c ht fun b=>?_)
 obtain⟨hh,gs,dr,tt,oss⟩:=s
 dsimp only at hx X h ⊢
 refine wpAny_bind (wpAny_pure (wpAny_bind (wpAny_bind (wpAny_loadPart hx (wpAny_bind ((W.looks_clsIn X hc).at ?_))))))
 rw [hd]
 have hx1:(hh.push { cls:=.type "dict",data:=.dict #[] }).get? x=some (eU C none t):=Heap.get?_push_of_some _ hx
 have nx:x≠hh.objs.size:=Nat.ne_of_lt (Heap.lt_size hx)
 refine wpAny_bind (wpAny_alloc' (wpAny_bind (wpAny_update' hx1 (wpAny_pure ?_))))
 have e1:((hh.push { cls:=.type "dict",data:=.dict #[] }).update x fun o=>{ cls:=o.cls,dict:=some hh.objs.size,data:=o.data,slots:=o.slots }).get? hh.objs.size=some { cls:=.type "dict",data:=.dict #[] } :=
  (Heap.get?_update_ne _ _ _ _ nx.symm).trans (Heap.get?_push_at rfl rfl)
 have e2:((hh.push { cls:=.type "dict",data:=.dict #[] }).update x fun o=>{ cls:=o.cls,dict:=some hh.objs.size,data:=o.data,slots:=o.slots }).Ns hh.objs.size (fun _=>none) :=
  ⟨_,#[],_,e1,rfl,fun e he=>absurd he (by simp),fun _=>rfl⟩
 refine wpAny_bind (wpAny_pure (wpAny_bind (wpAny_nsSet1 (Heap.Ns1.of_empty e2) fun h' hn' hs=>?_)))
 obtain⟨oD,esD,epD,hoD,hdD,hcD⟩:=hn'.count (PySem.Within.cons name v PySem.Within.nil)
 refine wpAny_bind (wpAny_lookBehind hoD (by rw [hdD];exact pastItsLine_dict (Nat.le_trans hcD (by rw [List.length_cons,List.length_nil,sizeLine_eq];omega))) (wpAny_pure ?_))
 exact h h' ((hs.2 x nx).trans (Heap.get?_update_self _ hx1 rfl)) hn' fun b o hb e=>(hs.2 b (Nat.ne_of_lt (Heap.lt_size e))).trans ((Heap.get?_update_ne _ _ _ _ hb).trans (Heap.get?_push_of_some _ e))
theorem we{t dx:Addr}{mA:Str->Option Value}{ns:List Str}{Q:Unit->Shared->Prop}(X:K.In s.heap)(c:jM K C)(ht:W.takerIn K C name=some none)(hx:s.heap.get? x=some (eU C (some dx) t))(hn:s.heap.Ns1 dx mA)
  (hw:PySem.Within mA ns) (hsz:ns.length<=sizeLine) (h:∀h',h'.Ns1 dx (fun y=>if y=name then some v else mA y)->Heap.SameBut dx s.heap h'->Q () { s with heap:=h',toks:=s.toks+2 }) :
  wpAny (model prog w) A (setAttr (.ref x) name v) Q E s:=by
 have hdx:∃od,s.heap.get? dx=some od:=let ⟨o,_,_,e,_⟩:=hn;⟨o,e⟩
 obtain⟨od,hod⟩:=hdx
 have J:W.InstAt s.heap x (eU C (some dx) t) C (some od):=⟨hx,rfl,rfl,hod⟩
 obtain⟨cd,hc,hd⟩:=W.any_some c.hd
 refine W.set_plain X J c.sa (vP (s:={ s with toks:=s.toks+1 }) X J c ht fun b=>?_)
 obtain⟨hh,gs,dr,tt,oss⟩:=s
 dsimp only at hx X h hn ⊢
 refine wpAny_bind (wpAny_pure (wpAny_bind (wpAny_bind (wpAny_loadPart hx (wpAny_bind ((W.looks_clsIn X hc).at ?_))))))
 rw [hd]
 refine wpAny_pure (a:=some dx) (wpAny_bind (wpAny_pure (wpAny_bind (wpAny_nsSet1 hn fun h' hn' hs=>?_))))
 obtain⟨oD,esD,epD,hoD,hdD,hcD⟩:=hn'.count (PySem.Within.cons name v hw)
 exact wpAny_bind (wpAny_lookBehind hoD (by rw [hdD];exact pastItsLine_dict (Nat.le_trans hcD (by rw [List.length_cons];omega))) (wpAny_pure (h h' hn' hs)))
end
theorem tY{P:Program}{w:World}{H:Hp}{h:Heap}{dx:Addr}{fs:List (Str × V)}(p:rZ dx fs h):cr P w H h dx (.ext (rZ dx fs)):=by
 refine⟨p,?_,fun h1 h2 q k=>?_⟩
 ·obtain⟨_,⟨o,_,_,e,_⟩,_⟩:=p
  exact⟨o,e⟩
 ·obtain⟨mA,⟨o,es,ep,e,r⟩,z⟩:=q
  exact⟨mA,⟨o,es,ep,k o e,r⟩,z⟩
section
variable{X:Cx}{pins:List (Addr × Obj)}{σ:St}{H H0:Hp}{s s0:Shared}{dx:Addr}
theorem Inv.trackNew{o:HO}(I0:Inv X pins σ H0 s0)(I:Inv X pins σ H s)(hd:s0.heap.objs.size<=dx)(hx:H dx=none)(ho:cr X.prog X.w (upd H dx o) s.heap dx o):Inv X pins σ (upd H dx o) s:=by
 have ne:∀b ob,s0.heap.get? b=some ob->b≠dx:=fun b ob e=>Nat.ne_of_lt (Nat.lt_of_lt_of_le (Heap.lt_size e) hd)
 refine I.track (Heap.get?_none_of_le (Nat.le_trans I0.sz hd)) (Nat.ne_of_lt (Nat.lt_of_lt_of_le I0.lt hd)).symm (fun y c e=>?_) (fun p hp=>ne _ _ (I0.pin p hp).1) hx ho
 obtain⟨v,ob,h1,_⟩:=I0.cell y c e
 exact ne _ _ h1
end
section
variable{X:Cx}{o value:Expr}{f:Str}{pos pos':Pos}{ta tv:TE}
theorem wt(ha:PE X o ta)(hv:PE X value tv)(hs:swapsWith value (some (.Attribute o f pos')) pos.line X.env=pure false):PS X (.Assign [.Attribute o f pos'] value pos)
  (fun D σ H=>tv σ H fun y H1=>ta σ H1 fun x H2=>∃e C,x=.ref e/\jM X.K C/\W.takerIn X.K C f=some none/\H2 e=some (.ext (cH e C none))/\∀dx,H2 dx=none->D.nx σ (upd (upd H2 e (.ext (cH e C (some dx)))) dx (.ext (rZ dx [(f,y)])))):=by
 intro pins s σ H D I h
 refine plainObj_wpAny_Assign_Attribute (thn (hv pins s σ H _ I h) fun u s1 ⟨y,H1,I1,ry,q⟩=>thn (ha pins s1 σ H1 _ I1 q) fun ov s2 ⟨x,H2,I2,rx,e,C,ex,c,ht,he,q2⟩=>?_) hs
 subst ex
 obtain rfl:ov=Value.ref e:=rx
 obtain⟨⟨t,p⟩,_,_⟩:=(show cr X.prog X.w H2 s2.heap e (.ext (cH e C none)) from I2.hok e _ he)
 refine wW I2.kIn c ht p fun h' p' n' k'=>?_
 have hn:H2 s2.heap.objs.size=none:=I2.hok.fresh (Nat.le_refl _)
 have ne:s2.heap.objs.size≠e:=(aH he hn).symm
 have I3:=I2.write (x:=e) (e:=e) (o:=.ext (cH e C (some s2.heap.objs.size))) (h':=h') (t':=s2.toks+2) (by rw [he];exact True.intro) (.inl rfl) (fun b ob hb z=>k' b ob hb z) ⟨_,p'⟩ (kD ⟨t,p'⟩)
 refine⟨σ,_,I2.trackNew I3 (Nat.le_refl _) (by rw [aj ne];exact hn) (tY ⟨_,n',fun g=>?_,fun g hg=>?_⟩),q2 _ hn⟩
 ·show jy (List.lookup g [(f,y)]) (if g=f then some u else none)
  by_cases z:g=f
  ·subst z
   rw [if_pos rfl]
   show jy (match g==g with|true=>some y|false=>none) (some u)
   rw [beq_self_eq_true]
   exact ry
  ·rw [if_neg z]
   show jy (match g==f with|true=>some y|false=>none) none
   rw [beq_false_of_ne z]
   exact True.intro
 ·by_cases z:g=f
  ·subst z
   exact .head _
  ·exact absurd (show(if g=f then some u else none)=none by rw [if_neg z]) hg
theorem nt(ha:PE X o ta)(hv:PE X value tv)(hs:swapsWith value (some (.Attribute o f pos')) pos.line X.env=pure false):PS X (.Assign [.Attribute o f pos'] value pos)
  (fun D σ H=>tv σ H fun y H1=>ta σ H1 fun x H2=>∃e C dx fs,x=.ref e/\jM X.K C/\W.takerIn X.K C f=some none/\H2 e=some (.ext (cH e C (some dx)))/\H2 dx=some (.ext (rZ dx fs))/\fs.length < 1000/\D.nx σ (upd H2 dx (.ext (rZ dx (jn f y fs))))):=by
 intro pins s σ H D I h
 refine plainObj_wpAny_Assign_Attribute (thn (hv pins s σ H _ I h) fun u s1 ⟨y,H1,I1,ry,q⟩=>thn (ha pins s1 σ H1 _ I1 q) fun ov s2 ⟨x,H2,I2,rx,e,C,dx,fs,ex,c,ht,he,hdx,hl,q2⟩=>?_) hs
 subst ex
 obtain rfl:ov=Value.ref e:=rx
 obtain⟨⟨t,p⟩,_,_⟩:=(show cr X.prog X.w H2 s2.heap e (.ext (cH e C (some dx))) from I2.hok e _ he)
 obtain⟨⟨mA,n,r,wi⟩,_,_⟩:=(show cr X.prog X.w H2 s2.heap dx (.ext (rZ dx fs)) from I2.hok dx _ hdx)
 have hz:(fs.map (·.1)).length<=sizeLine:=by rw [List.length_map,sizeLine_eq];omega
 refine we I2.kIn c ht p n wi hz fun h' n' sb=>?_
 refine⟨σ,_,I2.write (x:=dx) (e:=dx) (o:=.ext (rZ dx (jn f y fs))) (h':=h') (t':=s2.toks+2) (by rw [hdx];exact True.intro) (.inl rfl) (fun b ob hb z=>(sb.2 b hb).trans z) (let ⟨o,_,_,e,_⟩:=n';⟨o,e⟩) (tY ⟨_,n',fun g=>?_,fun g hg=>?_⟩),q2⟩
 ·show jy ((jn f y fs).lookup g) (if g=f then some u else mA g)
  rw [aQ]
  by_cases z:g=f
  ·rw [if_pos z,if_pos z];exact ry
  ·rw [if_neg z,if_neg z];exact r g
 ·by_cases z:g=f
  ·rw [z];exact(gr f y fs).1
  ·refine(gr f y fs).2 g (wi g fun zz=>hg ?_)
   show(if g=f then some u else mA g)=none
   rw [if_neg z]
   exact zz
end
structure zy(K:W.Frag)(R:Addr):Prop where
 ga:W.specialIn K (.ref R) "__getattribute__"=some (some (.builtin "type.__getattribute__"))
 rd:W.readsIn K R (.type "type")=true
 fi:W.findCls K (.ref R) (.type "type") "__init__"=some (.val (.builtin "ValueError.__init__"))
theorem BA{H:Hp}{a:Addr}{o:HO}(h:H a=some o):upd H a o=H:=by
 funext b
 unfold upd
 split
 ·next e=>rw [e,h]
 ·rfl
section
variable{X:Cx}
theorem xx{pins:List (Addr × Obj)}{σ:St}{H:Hp}{s:Shared}{e C:Addr}{d:Option Addr}{us:List Value}{Q:Value->Shared->Prop}(I:Inv X pins σ H s) (hx:gn X.K C kX "ValueError.__new__"=true) (he:H e=some (.ext (cH e C d))) (hl:us.length<=sizeLine)
  (h:∀s',Inv X pins σ H s'->Q .none s'):wpAny (model X.prog X.w) X.A (call (.builtin "ValueError.__init__") (.ref e::us)) Q X.xe s:=by
 have F:=PySem.F.excBase_ValueError
 obtain⟨⟨t,p⟩,_,_⟩:=(show cr X.prog X.w H s.heap e (.ext (cH e C d)) from I.hok e _ he)
 obtain⟨bm,N,nm,qq,bs,hdct,sn,sub,ab,col,dd,k0,k1,k2,k3,k5,hCl,T⟩:=(jO I.kIn hx).obj
 have fin:∀h' tk,h'.get? e=some (eU C d s.heap.objs.size)->(∀b o,b≠e->s.heap.get? b=some o->h'.get? b=some o)->Q .none { s with heap:=h',toks:=tk }:=fun h' tk p' k'=>by
  have I3:=I.write (x:=e) (e:=e) (o:=.ext (cH e C d)) (h':=h') (t':=tk) (by rw [he];exact True.intro) (.inl rfl) (fun b ob hb z=>k' b ob hb z) ⟨_,p'⟩ (kD ⟨_,p'⟩)
  rw [BA he] at I3
  exact h _ I3
 obtain⟨hh,g,dr,tt,os⟩:=s
 dsimp only at p hCl fin
 refine wpAny_call (codeAny_call_builtin F.init.plain F.initEntry (wpAny_check_init_subU F T hCl p rfl ?_))
 have p1:(hh.push { cls:=.type "tuple",data:=.seq us.toArray }).get? e=some (eU C d t):=Heap.get?_push_of_some _ p
 wp_walk
 refine fin _ _ ?_ fun b o hb z=>?_
 ·rw [Heap.get?_update_self _ p1 rfl]
  rfl
 ·rw [Heap.get?_update_other _ _ (Ne.symm hb)]
  exact Heap.get?_push_of_some _ z
theorem pT{c:Str}{R:Addr}{p apos pos:Pos}{e₀:Expr}{es:List Expr}{t:TA}{pl:Sem Bool}(b:zy X.K R)(hg:Gl X c)(hm:X.mg c=some (.ref R))(ha:PA X (e₀::es) t)
  (ht:eval (.Call (.Attribute (.Name c p) "__init__" apos) (e₀::es) [] pos) X.env=(do
   let ov <-eval (.Name c p) X.env
   standAt apos.atName
   let (f,first) <-holding [ov] (getMethod ov "__init__" pl)
   callWith pos f first (backTo pos (starEach (e₀::es) X.env)) (backToKw pos (keywordEach [] X.env))))
  (hd:(c==("__debug__":Str))=false:=by decide) (he:starEach (e₀::es) X.env=(false,eval e₀ X.env)::starEach es X.env:=by rfl) (hpl:(backTo pos (starEach es X.env)).any (·.1)=false:=by rfl) :
  PE X (.Call (.Attribute (.Name c p) "__init__" apos) (e₀::es) [] pos) (fun σ H Q=>t σ H fun vs H1=>∃e C d rest,vs=.ref e::rest/\gn X.K C kX "ValueError.__new__"=true/\H1 e=some (.ext (cH e C d))/\rest.length<=sizeLine/\Q .non H1):=by
 intro pins s σ H Q I h
 refine W.methodCall_KW (pl:=pl) (gU I hg hm (W.method_cls I.kIn b.ga (W.cls_value I.kIn b.rd b.fi rfl ?_)) hd) ht
 have hA:=ha pos pins { s with toks:=s.toks+1 } σ H _ (I.tok _) h
 rw [he] at hA ⊢
 refine Calls.callWith_builtin (by show(false||(backTo pos (starEach es X.env)).any (·.1))=false;rw [hpl]<;>rfl) (Calls.evalArgs_plain ?_)
 refine thn hA fun us s2 ⟨vs,H2,I2,r2,e,C,d,rest,ev,hx,hq,hl,q2⟩=>?_
 subst ev
 cases r2 with
 |cons r1 rr =>
  obtain rfl:_=Value.ref e:=r1
  exact xx I2 hx hq (by rw [<-rr.length];exact hl) fun s' I3=>⟨.non,H2,I3,rfl,q2⟩
end
section
variable{prog:Program}{w:World}{A:Around}{E:Value->Shared->Prop}{s:Shared}{K:W.Frag}{x D:Addr}{name:Str}{v:Value}
theorem uw{tk:Tok}{R:Result->Shared->Prop} (be:W.mroIn K D (.type "BaseException")=some true) (X:K.In s.heap) (LT:W.Looks (model prog w) s.heap (typeOf (.ref x)) (.ref D)) (LF:W.Looks (model prog w) s.heap (find (.ref x) (.ref D) name) (.value v))
  (h:R (.ok (.ret v)) s):codeAny (model prog w) A (.call (.builtin "BaseException.__getattribute__") ⟨[.ref x,.str name tk],[]⟩) R s:=by
 obtain⟨hh,gs,dr,tt,oss⟩:=s
 have LI:W.Looks (model prog w) hh (isInstance (.ref x) (.type "BaseException")) true:=LT.andThen (W.looks_mroIn (M:=model prog w) X be)
 have hk:builtinKind "BaseException.__getattribute__"=some Manifest.AttrKind.slot:=by decide +kernel
 have hsp:splitId "BaseException.__getattribute__"=some ("BaseException","__getattribute__"):=by decide +kernel
 refine codeAny_call_builtin PySem.F.attr_ValueError.ga.plain PySem.F.entry_bexc_ga ?_
 simp only [checkBuiltinCall,hk,hsp]
 have hargs:=PySem.F.args_bexc_ga (.ref x) (.str name tk)
 refine wpAny_bind (LI.at ?_)
 first
  |(rw [if_neg (by decide)];refine wpAny_of_eq hargs ?_)
  |refine wpAny_of_eq hargs ?_
 show wpAny _ _ (Builtin.«object.__getattribute__» _) _ _ _
 exact wpAny_bind (wpAny_pure (wpAny_bind (wpAny_pure (wpAny_bind (LT.at (wpAny_bind (LF.at (wpAny_pure h))))))))
theorem pF{b:Bool}{Q:Value->Shared->Prop}(c:fW K D)(X:K.In s.heap)(LT:W.Looks (model prog w) s.heap (typeOf (.ref x)) (.ref D))(LF:W.Looks (model prog w) s.heap (find (.ref x) (.ref D) name) (.value v))(hv:W.handedIn v=true)
  (h:Q v { s with toks:=s.toks+1 }):wpAny (model prog w) A (getAttr (.ref x) name b) Q E s:=by
 obtain⟨hh,gs,dr,tt,oss⟩:=s
 have LG:=W.looks_findIn (M:=model prog w) X c.ga
 have LH:=W.looks_findIn (M:=model prog w) X c.gh
 have hb:=PySem.F.attr_ValueError.ga.bind (.ref x)
 refine wpAny_bind (wpAny_mkText (wpAny_holding (wpAny_bind (LT.at (wpAny_bind (LG.at ?_))))))
 show wpAny _ _ (getAttrByItsOwn (.ref x) (.str name tt) (.ref D) _ true b) _ _ _
 unfold getAttrByItsOwn hookBefore
 refine wpAny_bind (LH.at (wpAny_bind (wpAny_attempt (wpAny_holding ?_))))
 unfold callGetattribute
 rw [show(b&&onTheHeap (Value.builtin "BaseException.__getattribute__"))=false from Bool.and_false b,if_neg (by decide)]
 unfold boundAndCalled
 refine wpAny_bind (wpAny_of_eq hb ?_)
 show wpAny _ _ (call (.builtin "BaseException.__getattribute__") [.ref x,.str name tt]) _ _ _
 exact wpAny_call (uw (s:=⟨hh,gs,dr,tt+1,oss⟩) c.be X LT LF (W.handed_on hv h))
theorem wG{M:Model}{h:Heap}{ox od:Obj}(X:K.In h)(I:W.InstAt h x ox D (some od))(hh:W.hasDictIn K D=true)(ha:W.findIn K (.ref D) name=some none)(hl:W.lookIn name od=some (some v)) :
  W.Looks M h (find (.ref x) (.ref D) name) (.value v):=by
 obtain⟨cd,hc,hd⟩:=W.any_some hh
 have z1:=W.looks_findIn (M:=M) X ha
 have z2:W.Looks M h (inOwnDict name (.ref x)) (some v):=W.looks_own X I hc (by unfold W.ownOf;rw [hd];exact hl)
 have z3:W.Looks M h (ownThenClass (.ref x) name none none) (.value v):=z2.andThen (W.Looks.tag .now)
 have z4:W.Looks M h (dataDescriptor? none none) none:=.now
 have z5:W.Looks M h (getOf none) none:=.now
 exact z1.andThen (z5.andThen (z4.andThen z3))
end
section
variable{X:Cx}{e:Expr}{f:Str}{pos:Pos}{ta:TE}
theorem yO(he:PE X e ta)(hb:attributeBase e f X.env (eval e X.env)=eval e X.env):PE X (.Attribute e f pos)
  (fun σ H Q=>ta σ H fun x H1=>∃a D dx fs v,x=.ref a/\fW X.K D/\W.hasDictIn X.K D=true/\W.findIn X.K (.ref D) f=some none/\H1 a=some (.ext (gT a (.ref D) (some dx)))/\H1 dx=some (.ext (rZ dx fs))/\fs.lookup f=some v/\Q v H1):=by
 intro pins s σ H Q I h
 refine vJ hb (thn (he pins s σ H _ I h) fun u s1 ⟨x,H1,I1,rx,a,D,dx,fs,v,ex,c,hh,hf,ha,hx,l,q⟩=>?_)
 subst ex
 obtain rfl:u=Value.ref a:=rx
 obtain⟨p,_,_⟩:=(show cr X.prog X.w H1 s1.heap a (.ext (gT a (.ref D) (some dx))) from I1.hok a _ ha)
 obtain⟨⟨mA,n,r,wi⟩,_,_⟩:=(show cr X.prog X.w H1 s1.heap dx (.ext (rZ dx fs)) from I1.hok dx _ hx)
 obtain⟨od,hod,hl⟩:=ou n
 obtain⟨u,hu,ru⟩:=jy.some_of (v:=v) (o:=mA f) (by rw [<-l];exact r f)
 have LT:=na (model X.prog X.w) s1.heap p
 obtain⟨o,vs,h1,h2,h3,h4⟩:=p
 have J:W.InstAt s1.heap a o D (some od):=⟨h1,h2,by unfold W.notCls;rw [h4],by rw [h3];exact hod⟩
 exact pF c I1.kIn LT (wG I1.kIn J hh hf (by rw [hl,hu])) (oQ ru) ⟨v,H1,I1.tok _,ru,q⟩
end
end L2
namespace L2
open PySem PySem.Spec PyProof.Rows
structure Shw(d:PyData)(n m:Nat):Prop where
 sh:d.showable=true
 nd:d.hasDict=false
 dp:d.depth<=m
 ln:d.shown.length<=n
structure Bb(ds:List PyData)(n m:Nat):Prop where
 sh:PyData.showableAll ds=true
 nd:PyData.hasDictAll ds=false
 dp:PyData.depthAll ds<=m
 ln:piled (PyData.shownAll ds)<=n
theorem Shw.le{d:PyData}{n m n' m':Nat}(h:Shw d n m)(hn:n<=n')(hm:m<=m'):Shw d n' m':=⟨h.sh,h.nd,Nat.le_trans h.dp hm,Nat.le_trans h.ln hn⟩
theorem za(m:Nat):Shw .none 4 m:=⟨by simp only [PyData.showable],by simp only [PyData.hasDict],by simp only [PyData.depth];omega,by simp only [PyData.shown];exact Nat.le_refl 4⟩
theorem iE{y:Str}(h:PyData.strOk y=true)(m:Nat):Shw (.str y) (10*y.length+2) m:=by
 refine⟨by simp only [PyData.showable],by simp only [PyData.hasDict],by simp only [PyData.depth];omega,?_⟩
 simp only [PyData.shown]
 refine StrLaws.reprText_len y fun c hc=>?_
 have h1:y.cps.all (· < 0x110000)=true:=h
 rw [Array.all_eq_true_iff_forall_mem] at h1
 have h3:c < 0x110000:=by simpa using h1 c (by simpa using hc)
 exact Nat.lt_trans h3 (by decide)
theorem zM{i:Int}(h0:0<=i)(h1:i<=10 ^ 18)(m:Nat):Shw (.int i) 64 m:=by
 have hb:i.natAbs < 10 ^ 19:=by omega
 have hb2:i.natAbs < 2 ^ 64:=Nat.lt_of_le_of_lt (show i.natAbs<=10 ^ 18 by omega) (by decide)
 refine⟨?_,by simp only [PyData.hasDict],by simp only [PyData.depth];omega,?_⟩
 ·simp only [PyData.showable,decide_eq_true_eq]
  rcases Nat.eq_zero_or_pos i.natAbs with z|z
  ·rw [z];decide
  ·exact Nat.lt_trans ((Nat.log2_lt (by omega)).mpr hb2) (by decide)
 ·simp only [PyData.shown]
  have e:=int_text_length_le10 (k:=19) (by decide) hb
  show(Str.ofString (toString i)).length<=64
  rw [PySem.ofString_length]
  omega
theorem iy(m:Nat):Bb [] 0 m:=⟨by simp only [PyData.showableAll],by simp only [PyData.hasDictAll],by simp only [PyData.depthAll];omega,by simp only [PyData.shownAll];exact Nat.le_refl 0⟩
theorem cK{d:PyData}{ds:List PyData}{n n' m:Nat}(h:Shw d n m)(r:Bb ds n' m):Bb (d::ds) (n+2+n') m:=by
 refine⟨?_,?_,?_,?_⟩
 ·simp only [PyData.showableAll,h.sh,r.sh,Bool.and_self]
 ·simp only [PyData.hasDictAll,h.nd,r.nd,Bool.or_self]
 ·simp only [PyData.depthAll]
  exact Nat.max_le.mpr ⟨h.dp,r.dp⟩
 ·simp only [PyData.shownAll]
  rw [piled_cons]
  have:=h.ln
  have:=r.ln
  omega
theorem jX{ds:List PyData}{n m:Nat}(h:Bb ds n m):Shw (.tuple ds) (n+3) (m+1):=by
 refine⟨by simp only [PyData.showable];exact h.sh,by simp only [PyData.hasDict];exact h.nd,by simp only [PyData.depth];exact Nat.succ_le_succ h.dp,?_⟩
 simp only [PyData.shown]
 have hl:=h.ln
 generalize PyData.shownAll ds=ts at hl
 unfold tupleText
 rw [strLen_append,strLen_append]
 have e1:(("(":Str)).length=1:=rfl
 have e3:((if ts.length==1 then ",)" else ")":String):Str).length<=2:=by split<;>decide
 have e2:(Str.join ", " ts).length<=piled ts:=by
  by_cases z:ts=[]
  ·subst z;exact Nat.zero_le _
  ·have:=join_length_add ts z;omega
 omega
section
variable{X:Cx}{k:Nat}{pos:Pos}{e:Expr}{te:TE}
theorem qG(hr:cG k X.A)(he:PE X e te):PE X (.FormattedValue e 114 none pos) (fun σ H Q=>te σ H fun v H1=>∃d n,Dat X.K H1 v d/\Shw d n 60/\n<=2000000/\∀z:Str,z.length<=2000000->Q (.str z) H1):=by
 intro pins s σ H Q I h
 refine wpAny_FormattedValue_repr (thn (he pins s σ H _ I h) fun u s1 ⟨v,H1,I1,r,d,n,hd,sh,hn,q⟩=>?_)
 have hl:d.shown.length<=2000000:=Nat.le_trans sh.ln hn
 have hz:d.shown.length<=sizeLine:=Nat.le_trans hl (by rw [sizeLine_eq];omega)
 have fin:∀h' t tk,(∀b o,s1.heap.get? b=some o->h'.get? b=some o)->wpAny (model X.prog X.w) X.A (formatField (.str d.shown t) Str.empty) (EP X pins σ Q) X.xe { s1 with heap:=h',toks:=tk }:=fun h' t tk hk =>
  formatField_str (fun t' tk'=>⟨.str _,H1,(I1.kept (h':=h') (t':=tk) hk).tok _,⟨_,rfl⟩,q _ hl⟩) hz
 obtain⟨as,ra⟩:=Dat.reads I1 hd r
 have hu:=hr.units
 have ref:∀a,u=.ref a->wpAny (model X.prog X.w) X.A (pyReprObj u) (fun r s2=>wpAny (model X.prog X.w) X.A (formatField r Str.empty) (EP X pins σ Q) X.xe s2) X.xe s1:=fun a e=>by
  subst e
  exact pyReprObj_of_reads ra sh.sh (PyData.noDict_hsm sh.nd) hr.gd (by have:=sh.dp;omega) (fun _ _ z=>z) (fun h' u tk hk=>fin h' u tk hk) hz
 cases hd with
 |non =>
  cases r
  simp only [PyData.shown] at fin
  exact pyReprObj_none (fin s1.heap _ _ fun _ _ z=>z)
 |bl b =>
  cases r
  simp only [PyData.shown] at fin
  exact pyReprObj_bool (fin s1.heap _ _ fun _ _ z=>z)
 |int i =>
  obtain⟨t,rfl⟩:=r
  have hs:=sh.sh
  simp only [PyData.showable,decide_eq_true_eq] at hs
  simp only [PyData.shown] at fin
  exact pyReprObj_int hs (fin s1.heap _ _ fun _ _ z=>z)
 |str x =>
  obtain⟨t,rfl⟩:=r
  simp only [PyData.shown] at fin hz
  exact pyReprObj_str (fin s1.heap _ _ fun _ _ z=>z) hz
 |tup _ _=>cases r;exact ref _ rfl
 |lst _ _=>cases r;exact ref _ rfl
end
section
variable{α β:Type}
variable{P:Shared->Prop}
end
section
variable{X:Cx}{st:Stmt}{rest:List Stmt}{t u:TS}{pos:Pos}
end
section
variable{X:Cx}
end
end L2
local macro_rules
 |`(sortPriv% $n:ident)=>do
  if n.getId==`rn then return Lean.mkCIdent (Lean.mkPrivateNameCore `PySem.Builtin.Int.W0All `PySem.Builtin.readNumeral)
  if n.getId==`vl then return Lean.mkCIdent (Lean.mkPrivateNameCore `PySem.Builtin.Int.W0All `PySem.Builtin.Numeral.value)
  if n.getId==`nd then return Lean.mkCIdent (Lean.mkPrivateNameCore `PySem.Builtin.Int.W0All `PySem.Builtin.numeralDigits?)
  if n.getId==`bl then return Lean.mkCIdent (Lean.mkPrivateNameCore `PySem.Builtin.Int.W0All `PySem.Builtin.isBlank)
  Lean.Macro.throwUnsupported
namespace L2
open PySem
section
variable{prog:Program}{w:World}{A:Around}{E:Value->Shared->Prop}{s:Shared}
end
end L2
namespace L2
open PySem PySem.Spec PyProof.Rows
section
variable{X:Cx}{pos:Pos}{e:Expr}{es:List Expr}{te:TE}
theorem yo{X:Cx}{ss:List Stmt}:PSs X ss (fun _ _ _=>False):=fun _ _ _ _ _ _ h=>h.elim
end
section
variable{prog:Program}{w:World}{A:Around}{R:Result->Shared->Prop}{I S:Addr}{fp wr:List Addr}{n:Nat}{P:Nat->Value->Prop}{St:Nat->Heap->Prop}{d:Value}
end
section
variable{X:Cx}{e:Expr}{es:List Expr}{kws:List Keyword}{t tk:TA}{p pos:Pos}
end
structure DKt(K:W.Frag)(w:World)(a:Addr)(ps:List (Str × Int)):Prop where
 ns:(a==sysModules)=false
 at_:∀(P:Program) (h:Heap),K.In h->∃vs:List (Key × Value),KV (ps.map fun p=>((Sum.inr p.1:Key),V.int p.2)) vs/\h.DictOf (bo P w) a vs
section
variable{X:Cx}{o i:Expr}{pos:Pos}{td ty:TE}
end
section
variable{P:Program}{w:World}{K:W.Frag}{mg:Str->Option Value}{base:Heap}
theorem j7{N:List Str}{qual:Str}{scope:Scope}{f:Addr}{cd:Value}{A:Around}{outer:List Env}{s:Shared}{H:Hp}{E:XK}{c:Str}{C fI:Addr}{k:Nat}{fd:FuncData}{ps:List Str}{sp:Sp}{e₀:Expr}{es:List Expr}{np cpos pos:Pos}{ta:TA}
  (M:MkX K C fI) (F:bq P w K mg base CX0 k fI fd ps sp) (hr:cG (k+1) (A.deeper (envOfC qual scope s.heap.objs.size f cd))) (hb:aV K fd ps [])
  (hg:Gl (ee (CX1 P w) P w K mg base N qual scope f cd A outer s H E) c) (hm:mg c=some (.ref C)) (ha:PA (ee (CX1 P w) P w K mg base N qual scope f cd A outer s H E) (e₀::es) ta)
  (hd:(c==("__debug__":Str))=false:=by decide) (he:starEach (e₀::es) (envOfC qual scope s.heap.objs.size f cd)=(false,eval e₀ (envOfC qual scope s.heap.objs.size f cd))::starEach es (envOfC qual scope s.heap.objs.size f cd):=by rfl)
  (hpl:(backTo cpos (starEach es (envOfC qual scope s.heap.objs.size f cd))).any (·.1)=false:=by rfl) :
  PS (ee (CX1 P w) P w K mg base N qual scope f cd A outer s H E) (.Raise (some (.Call (.Name c np) (e₀::es) [] cpos)) none pos)
   (fun _ σ H'=>ta σ H' fun vs H1=>vs.length<=sizeLine/\∀e,H1 e=none->sp (.ref e::vs) (upd H1 e (.ext (cH e C none))) (fun v H2=>v=.non/\∃d dd o u,H2 e=some (.ext (cH e C d))/\H2 dd=some (.frz o u)/\(∀o' u',H dd≠some (.frz o' u'))/\E (.ref C) d (cut (upd H2 dd u) e)) E0):=by
 intro pins s1 σ H1 D I h
 refine ud (K:=K) M.ex M.init M.fn (I.ok.hd rfl) ?_ (gU I hg hm ⟨rfl,?_⟩ hd)
 ·show(backTo cpos (starEach (e₀::es) (envOfC qual scope s.heap.objs.size f cd))).any (·.1)=false
  rw [he]
  show(false||(backTo cpos (starEach es (envOfC qual scope s.heap.objs.size f cd))).any (·.1))=false
  rw [hpl]
  rfl
 ·have h2:=ha cpos pins s1 σ H1 _ I h
  show wpAny _ _ (evalArgs (.ref C) true (backTo cpos (starEach (e₀::es) (envOfC qual scope s.heap.objs.size f cd))) []) _ _ _
  rw [show starEach (e₀::es) (ee (CX1 P w) P w K mg base N qual scope f cd A outer s H E).env=_ from he] at h2
  rw [he]
  refine Calls.evalArgs_plain (wpAny_mono h2 (fun us s2 ⟨vs,H2,I2,rv,hl,hw⟩=>⟨rfl,?_,I2.kIn,?_⟩) fun _ _ z=>z)
  ·show us.length<=sizeLine
   rw [<-rv.length]
   exact hl
  have hn:H2 (s2.heap.objs.size+1)=none:=I2.hok.fresh (Nat.le_succ _)
  have hq:=hw _ hn
  have I3:=I2.laid (a:=s2.heap.objs.size+1) (o:=.ext (cH (s2.heap.objs.size+1) C none)) (h':=iu s2.heap C us) (t':=s2.toks) i6 (Nat.le_succ _) (kD ⟨_,uj⟩)
  have r2:cw (V.ref (s2.heap.objs.size+1)::vs) (Value.ref (s2.heap.objs.size+1)::us):=.cons rfl rv
  have hlen:(Value.ref (s2.heap.objs.size+1)::us++[]).length=ps.length:=by
   rw [List.append_nil,<-r2.length]
   exact F.len _ _ _ _ hq
  have bd:=hb { s2 with heap:=iu s2.heap C us,toks:=s2.toks } (Value.ref (s2.heap.objs.size+1)::us) I3.kIn hlen
  rw [List.append_nil] at bd
  refine wpAny_call (codeAny_mono (F.run _ _ _ _ ⟨Value.ref (s2.heap.objs.size+1)::us,[]⟩ _ _ _ _ (hr.make C us []) (I3.env0.make C us []) bd r2 hq) fun r s' hq'=>?_)
  cases r with
  |error e=>exact False.elim hq'
  |ok fl =>
   cases fl with
   |ret u =>
    obtain⟨v,H3,I4,rv4,ev,dd,df,of,uf,hx4,hf,h0,hE⟩:=I3.after hq'
    subst ev
    obtain⟨⟨tt,p4⟩,_,_⟩:=(show cr P w H3 s'.heap _ (.ext (cH _ C dd)) from I4.hok _ _ hx4)
    refine⟨rv4,I4.kIn,⟨dd,tt,p4⟩,?_⟩
    have I5:=I4.thaw hf h0
    have hx5:upd H3 df uf (s2.heap.objs.size+1)=some (.ext (cH (s2.heap.objs.size+1) C dd)):=by
     rw [aj (fun z=>by rw [z,hf] at hx4;cases hx4)]
     exact hx4
    exact Fly.first (I5.cut hx5) rfl rfl rfl p4 rfl rfl rfl rfl (Heap.get?_none_of_le (Nat.le_trans I2.sz (Nat.le_succ _))) qI fun s'' g gd=>⟨_,.ref C,dd,_,rfl,g,gd,hE⟩
   |next=>exact False.elim hq'
   |brk=>exact False.elim hq'
   |cont=>exact False.elim hq'
end
section
variable{prog:Program}{w:World}{A:Around}{E:Value->Shared->Prop}{s:Shared}
end
section
variable{X:Cx}
end
end L2
namespace L2
open PySem PySem.Spec PyProof.Rows PySem.Calls
section
variable{prog:Program}{w:World}{K:Type}[DecidableEq K]{knd:HeapKind prog w K}{A:Around}{E:Value->Shared->Prop}{s:Shared}
end
section
variable{X:Cx}
end
end L2
namespace L2
open PySem PySem.Spec PyProof.Rows PySem.W
section
variable{prog:Program}{w:World}{A:Around}{E:Value->Shared->Prop}{s:Shared}
structure DP(es:Array DictEntry)(lo:Addr)(h:Heap)(as:List Addr):Prop where
 rise:as.Pairwise (· < ·)
 up:∀a∈as,lo < a
 at':∀(j:Nat) (a:Addr),as[j]?=some a->∃en,es[j]?=some en/\h.get? a=some { cls:=.type "tuple",data:=.seq #[en.key,en.val] }
end
section
variable{prog:Program}{w:World}{A:Around}{s:Shared}{R:Result->Shared->Prop}{es:Array DictEntry}{ep:Nat}
end
section
variable{prog:Program}{w:World}{A:Around}{E:Value->Shared->Prop}{s:Shared}{r d:Addr}{es:Array DictEntry}{ep:Nat}
end
end L2
namespace L2
open PySem PySem.Spec PyProof.Rows
section
variable{X:Cx}
end
section
variable{prog:Program}{w:World}{A:Around}{E:Value->Shared->Prop}{s:Shared}
end
section
variable{X:Cx}{l:Expr}{tl:TE}{p p2 pos pos2:Pos}
end
section
variable{X:Cx}
end
theorem nZ:entryFor table "dict.update.loop"=some Builtin.«dict.update.loop»:=entryFor_of_tree (by kernel_rfl)
theorem ii:plainId "dict.update.loop"=true:=by decide +kernel
theorem pR:typeLookup (.type "list") "keys"=pure none:=by rw [typeLookup_type,builtinLookup_eq_fast];kernel_rfl
section
variable{prog:Program}{w:World}{A:Around}{E:Value->Shared->Prop}{s:Shared}{a:Addr}{xs:Array Value}{k:Nat}{sl:Array (Option Value)}
theorem nO{Q:Option Value->Shared->Prop} (hx:s.heap.get? a=some { cls:=.type "list",dict:=none,data:=.seq xs k,slots:=sl }) (hA:A.handled=none)
  (h:∀h' tk,(∀b o,s.heap.get? b=some o->h'.get? b=some o)->Q none { s with heap:=h',toks:=tk }):wpAny (model prog w) A (getAttr? (.ref a) "keys") Q E s:=by
 obtain⟨hp,g,d,tk,os⟩:=s
 have hT:∀tk',(⟨hp,g,d,tk',os⟩:Shared).TypeIs (.ref a) "list":=fun _=>⟨_,hx,rfl⟩
 have f1:=sub_AttributeError
 have f3:=F.slot_list_getattribute.lookup
 have f4:=F.slot_list_getattribute.bind (.ref a)
 have f5:=am_list_getattr_none
 unfold getAttr? getAttrBy? getAttrBy
 repeat (any_goals (first|assumption|exact hT _|((with_reducible show wpAny _ _ (call (Value.builtin "list.__getattribute__") _ _) _ _ _);refine call_meets F.slot_list_getattribute (hT _) am_entry_list_getattribute (F.args_list_getattribute_2 _ _) (meets_getattribute_miss_list a xs k sl "keys" _ pR (by decide +kernel)) ⟨hx,hA,fun h' tk' e hx'=>?_⟩)|wp_step))
 obtain⟨t',u',he⟩:=hx'.there
 show wpAny _ _ (getattributeRaised _ _ _ _ _ _ _) _ _ _
 unfold getattributeRaised
 repeat (any_goals (first|assumption|wp_step))
 exact h _ _ hx'.of.keeps
end
section
variable{X:Cx}{pins:List (Addr × Obj)}{σ:St}
end
section
variable{prog:Program}{w:World}{A:Around}{E:Value->Shared->Prop}{s:Shared}{K:Type}[DecidableEq K]{knd:HeapKind prog w K}
end
section
variable{X:Cx}
end
section
variable{M:Model}{A:Around}{E:Value->Shared->Prop}{s:Shared}
theorem sS{base:Heap}{env:Env}{outer:List Env}{L e:Addr}{cls a0 fl:Value}{Q:Unit->Shared->Prop}(hfr:A.frames=some (env::outer))(hf:env.frame=some L)(k1:base.StaysIn s.heap)(k2:base.get? e=none)(k3:s.heap.FunFrames base (env::outer))(k4:s.heap.TracedAtW base e cls a0 fl)
  (hQ:∀h',Heap.FlyingW base outer e cls a0 h'->s.heap.UpToSlots h'->Q () { s with heap:=h' }):wpAny M A (leaving env (.ref e)) Q E s:=by
 by_cases hfl:(fl==rawInt L)=true
 ·have hfl':fl=rawInt L:=by simpa using hfl
  rw [hfl'] at k4
  unfold leaving
  refine wpAny_bind (wpAny_noteFrame_againW hf k4 ?_)
  refine wpAny_landsW ⟨k1,k2,k3,k4⟩ fun h' hF up=>?_
  obtain⟨j1,j2,⟨_,_,j3⟩,j4⟩:=hF
  exact hQ h' ⟨j1,j2,j3,j4⟩ up
 ·obtain⟨oe,vs,T,oT,ts,he,⟨hcls,h0⟩,hd,h1,hnT,hTe,hT,hdT,h3⟩:=k4
  subst hcls
  unfold leaving noteFrame
  simp only [hf]
  refine wpAny_bind (wpAny_bind (wpAny_field he hd h1 ?_))
  rw [if_pos (show(Value.ref T != Value.none)=true from by simp)]
  refine wpAny_bind (wpAny_field hT hdT h3 ?_)
  rw [if_neg hfl]
  refine wpAny_bind (wpAny_setField hT hdT (Array.getElem?_eq_some_iff.mp h3).1 ?_)
  have other:∀b,b≠T->(s.heap.update T (Obj.mapFields (·.setIfInBounds 3 Value.none))).get? b=s.heap.get? b:=fun b hb=>Heap.get?_update_other _ _ (Ne.symm hb)
  have noRecord:∀b o,s.heap.get? b=some o->(∀vs,o.data≠.fields vs)->b≠T:=fun b o hb hnf q=>by
   rw [q,hT] at hb;injection hb with hb;subst hb;exact hnf ts hdT
  refine wpAny_newEntryW hfr (k3.of_keeps fun b o hb hnf=>⟨o,(other b (noRecord b o hb hnf)).trans hb,rfl⟩) hf ((other e (Ne.symm hTe)).trans he)
   (fun b o hbo=>(other b fun q=>by rw [q,hnT] at hbo;cases hbo).trans (k1 b o hbo)) k2 hd (Array.getElem?_eq_some_iff.mp h1).1 h0
   fun h' ⟨x1,x2,x3,x4⟩=>hQ h' ⟨x1,k2,x2.2.2,x3⟩ fun b o hb hnf=>x4 b o ((other b (noRecord b o hb hnf)).trans hb) hnf
theorem ny{base:Heap}{l:List Env}{e:Addr}{cls a0 fl:Value}{fr:Option Addr}{Q:Unit->Shared->Prop}
  (hkb:base.StaysIn s.heap) (hl:s.heap.FunFrames base l) (ht:s.heap.TracedAtW base e cls a0 fl)
  (h:∀h',base.StaysIn h'->h'.FunFrames base l->h'.TracedAtW base e cls a0 (fr.elim Value.none fun f=>rawInt f)->(∀b o,s.heap.get? b=some o->(∀vs,o.data≠.fields vs)->h'.get? b=some o)->Q () { s with heap:=h' }) :
  wpAny M A (setFlight (.ref e) fr) Q E s:=by
 obtain⟨oe,vs,T,oT,ts,he,hcls,hd,h1,hnT,hTe,hT,hdT,h3⟩:=ht
 have hsz3:3 < ts.size:=(Array.getElem?_eq_some_iff.mp h3).1
 have other:∀b,b≠T->(s.heap.update T (Obj.mapFields (·.setIfInBounds 3 (fr.elim Value.none fun f=>rawInt f)))).get? b=s.heap.get? b :=
  fun b hb=>Heap.get?_update_other _ _ (Ne.symm hb)
 have noRecord:∀b o,s.heap.get? b=some o->(∀vs,o.data≠.fields vs)->b≠T:=fun b o hb hnf q=>by
  rw [q,hT] at hb;injection hb with hb;subst hb;exact hnf ts hdT
 unfold setFlight
 refine wpAny_bind (wpAny_field he hd h1 ?_)
 rw [if_pos (show(Value.ref T != Value.none)=true from by simp)]
 refine wpAny_setField hT hdT hsz3 (h _ (fun b o hbo=>(other b fun q=>by rw [q,hnT] at hbo;cases hbo).trans (hkb b o hbo))
  (hl.of_keeps fun b o hb hnf=>⟨o,(other b (noRecord b o hb hnf)).trans hb,rfl⟩) ?_ fun b o hb hnf=>(other b (noRecord b o hb hnf)).trans hb)
 exact⟨oe,vs,T,_,_,(other e (Ne.symm hTe)).trans he,hcls,hd,h1,hnT,hTe,Heap.get?_update_self _ hT (Obj.isFreed_of_fields (Obj.data_mapFields hdT _)),Obj.data_mapFields hdT _,by simp [hsz3]⟩
end
theorem lB{B h1 h2:Heap}{C:Addr}(sb:Heap.SameBut C h1 h2):∀{l:List Env},h1.FunFrames B l->C∉frs l->h2.FunFrames (W.hideAll B [C]) l
 |[],_,_=>trivial
 |env::r,⟨hk,⟨L,o,hf,hn,ho,hd⟩,hr⟩,hne=>by
  have eq:frs (env::r)=L::frs r:=by
   unfold frs
   rw [List.filterMap_cons,hf]
  rw [eq] at hne
  refine⟨hk,⟨L,o,hf,?_,(sb.2 L fun z=>hne (by rw [z];exact .head _)).trans ho,hd⟩,lB sb hr fun z=>hne (.tail _ z)⟩
  cases q:(W.hideAll B [C]).get? L with
  |none=>rfl
  |some u=>rw [W.of_hideAll _ q] at hn;cases hn
section
variable{X:Cx}{pins:List (Addr × Obj)}{σ:St}{H H':Hp}{s s':Shared}{x C:Addr}{cls:Value}{d:Option Addr}
theorem Fly.comp{m0:Str->Option Value}{cenv0:Env}(I:Inv X pins σ H s)(hst:X.stack=X.env::X.outer)(hfr:X.env.frame=some X.env.locals)(hex:X.ex=[])(f:Fly X.prog X.w X.stack H s x cls H' s')(hdi:cA x d s')
  (hC0:X.s₀.heap.get? C=none) (hCs:s.heap.Ns C m0) (hCn:H C=none) (hCf:C∉frs X.stack) (hcf:cenv0.frame=X.env.frame)
  (hxe:∀s,wpAny (model X.prog X.w) X.A (leaving X.env (.ref x)) (fun _ s''=>Fly X.prog X.w X.outer X.H₀ X.s₀ x cls H' s''/\cA x d s'') (fun _ _=>False) s->X.xe (.ref x) s) {Qe:Value->Shared->Prop} {acc:Value} :
  notedBy (model X.prog X.w) X.A cenv0 (fun x' s''=>compPost (model X.prog X.w) X.A X.xe none Qe acc C (.error x') s'') (.ref x) s':=by
 obtain⟨B,a0,fl,c1,c2⟩:=f.fl
 rw [hst] at fl
 have nx:∀b:Addr,b∉X.ex:=fun b=>by rw [hex];simp
 obtain⟨oC,es,ep,hoC,hdC,rC⟩:=hCs
 have keepC:s'.heap.get? C=some oC:=f.un.keep C oC hoC hCn hCf (by simp)
 have hCH':H' C=none:=f.un.free C oC hoC hCn (by simp)
 obtain⟨uC,huC⟩:=c2 C oC hoC hCf
 have hxC:x≠C:=fun z=>by have q:=fl.2.1;rw [z,huC] at q;cases q
 unfold notedBy
 rw [show noteFrame (.ref x) cenv0=noteFrame (.ref x) X.env from by unfold noteFrame PySem.frameOf;rw [hcf]]
 refine wpAny_mono (aC.note.wpAny (Q:=fun _ s''=>∃h1,s''={ s' with heap:=h1 }/\Heap.HeldW B (X.env::X.outer) x cls a0 X.env.locals h1/\s'.heap.UpToSlots h1) (E:=fun _ _=>False) hdi (wpAny_looks_onW (by rw [I.ok.frames,hst]) hfr fl fun h1 hh up=>⟨h1,rfl,hh,up⟩)) (fun _ s'' ⟨⟨h1,e1,hh,up⟩,hdi1⟩=>?_) (fun _ _ z=>z.1.elim)
 subst e1
 refine⟨m0,up.ns ⟨oC,es,ep,keepC,hdC,rC⟩,fun h2 sb cenv _=>?_⟩
 obtain⟨g1,g2,g3,g4⟩:=hh
 have stB:(W.hideAll B [C]).StaysIn h2:=fun b o e=>by
  have hb:b≠C:=fun z=>by rw [z,W.hideAll_none _ (.head _)] at e;cases e
  exact(sb.2 b hb).trans (g1 b o (W.of_hideAll _ e))
 have nB:∀b,B.get? b=none->(W.hideAll B [C]).get? b=none:=fun b hb=>by
  cases q:(W.hideAll B [C]).get? b with
  |none=>rfl
  |some u=>rw [W.of_hideAll _ q] at hb;cases hb
 have fr2:h2.FunFrames (W.hideAll B [C]) (X.env::X.outer):=lB sb g3 (by rw [<-hst];exact hCf)
 obtain⟨oe,vs,T,oT,ts,he,hcl,hd,q1,hnT,hTe,hT,hdT,q3⟩:=g4
 have hTC:T≠C:=fun z=>by rw [z,huC] at hnT;cases hnT
 have tr2:h2.TracedAtW (W.hideAll B [C]) x cls a0 (rawInt X.env.locals):=⟨oe,vs,T,oT,ts,(sb.2 x hxC).trans he,hcl,hd,q1,nB T hnT,hTe,(sb.2 T hTC).trans hT,hdT,q3⟩
 have hdi2:cA x d { s' with heap:=h2 }:=by
  obtain⟨ob,e,hb⟩:=hdi1
  exact⟨ob,(sb.2 x hxC).trans e,hb⟩
 unfold PySem.passOn
 refine wpAny_bind (wpAny_field (s:={ s' with heap:=h2 }) ((sb.2 x hxC).trans he) hd q1 ?_)
 rw [if_neg (show ¬((Value.ref T==Value.none)=true) from by simp)]
 refine wpAny_bind (wpAny_mono (aC.flight.wpAny (Q:=fun _ s3=>∃h3 fl3,s3={ s' with heap:=h3 }/\(W.hideAll B [C]).StaysIn h3/\h3.FunFrames (W.hideAll B [C]) (X.env::X.outer)/\h3.TracedAtW (W.hideAll B [C]) x cls a0 fl3/\h2.UpToSlots h3) (E:=fun _ _=>False) hdi2 (ny stB fr2 tr2 fun h3 j1 j2 j3 j4=>⟨h3,_,rfl,j1,j2,j3,fun b o e hn=>⟨o.slots,j4 b o e hn⟩⟩)) (fun _ s3 ⟨⟨h3,fl3,e3,j1,j2,j3,j4⟩,hdi3⟩=>?_) (fun _ _ z=>z.1.elim))
 subst e3
 refine wpAny_throw (hxe _ ?_)
 refine wpAny_mono (aC.leave.wpAny (Q:=fun _ s4=>Fly X.prog X.w X.outer X.H₀ X.s₀ x cls H' s4) (E:=fun _ _=>False) hdi3 (sS (by rw [I.ok.frames,hst]) hfr j1 (nB x g2) j2 j3 fun h4 fl4 up4=>?_)) (fun _ s4 z=>z) (fun _ _ z=>z.1)
 have st:∀b o,B.get? b=some o->b≠C->h4.get? b=some o:=fun b o e hb=>fl4.1 b o (W.hideAll_get _ e (by simpa using hb))
 have same:∀b u v,B.get? b=some u->s'.heap.get? b=some v->u=v:=fun b u v h1 h2=>by
  have h3:=fl.1 b u h1
  rw [h2] at h3
  exact(Option.some.inj h3).symm
 have oldC:∀b o,X.s₀.heap.get? b=some o->b≠C:=fun b o e z=>by rw [z,hC0] at e;cases e
 have trkC:∀b o,H' b=some o->b≠C:=fun b o e z=>by rw [z,hCH'] at e;cases e
 have upAll:∀b o,b≠C->s'.heap.get? b=some o->(∀vs,o.data≠.fields vs)->∃sl,h4.get? b=some { o with slots:=sl }:=fun b o hb e hn=>by
  obtain⟨s1,e1⟩:=up b o e hn
  obtain⟨s2,e2⟩:=j4 b _ ((sb.2 b hb).trans e1) hn
  obtain⟨s3,e3⟩:=up4 b _ e2 hn
  exact⟨s3,e3⟩
 have slot:∀b o,X.s₀.heap.get? b=some o->X.H₀ b=none->b∈X.fs->∃sl,h4.get? b=some { o with slots:=sl }:=fun b o e n hb=>by
  obtain⟨sl,e1⟩:=I.base.slot b o e n hb (nx b)
  obtain⟨sl2,e2⟩:=f.un.any e1 (I.base.free b o e n (nx b)) (by simp)
  obtain⟨_,of,ho,hnf⟩:=I.ok.funs.mem hb
  rw [e] at ho
  cases ho
  obtain⟨sl3,e3⟩:=upAll b _ (oldC b o e) e2 hnf
  exact⟨sl3,e3⟩
 refine⟨f.os.trans I.os,f.bare,⟨fun b o e n hb _=>?_,fun b o e n hb _=>slot b o e n hb,fun b o e n _=>?_,fun b o e _=>?_,fun b xs e=>f.un.tups b xs (I.base.tups b xs e),fun b o u e=>f.un.frzs b o u (I.base.frzs b o u e),fun b ps e=>?_⟩,fun a o e=>?_,⟨_,a0,fl4,fun b o e=>?_,fun b o e hb=>?_⟩,f.free⟩
 ·have e1:=I.base.keep b o e n hb (nx b)
  have n1:=I.base.free b o e n (nx b)
  have hb':=I.notSt (I.oldL e) hb
  have e2:=f.un.keep b o e1 n1 hb' (by simp)
  obtain⟨u,hu⟩:=c2 b o e1 hb'
  exact same b u o hu e2▸st b u hu (oldC b o e)
 ·obtain⟨o',e1⟩:=I.base.there b o e (nx b)
  exact f.un.free b o' e1 (I.base.free b o e n (nx b)) (by simp)
 ·by_cases hb:b∈X.fs
  ·obtain⟨sl,e1⟩:=slot b o e (I.ok.frf b hb) hb
   exact⟨_,e1⟩
  ·obtain⟨o',e1⟩:=I.base.there b o e (nx b)
   obtain⟨u,hu⟩:=c2 b o' e1 (I.notSt (I.oldL e) hb)
   exact⟨u,st b u hu (oldC b o e)⟩
 ·obtain⟨m1,e1⟩:=I.base.tbls b ps e
  obtain⟨m2,e2⟩:=f.un.tbls b _ e1
  exact⟨m1++m2,by rw [e2,Array.append_assoc]⟩
 ·refine(f.hok a o e).stay (fun b u hb q=>?_) (fun _ q=>q) fun _ _ q=>q
  have t:∃o',H' b=some o':=by
   rcases hb with z|z
   ·exact⟨o,by rw [z];exact e⟩
   ·exact⟨_,z⟩
  obtain⟨o',e'⟩:=t
  obtain⟨v,hv⟩:=c1 b o' e'
  exact same b v u hv q▸st b v hv (trkC b o' e')
 ·obtain⟨u,hu⟩:=c1 b o e
  exact⟨u,W.hideAll_get _ hu (by simpa using trkC b o e)⟩
 ·obtain⟨o',e1⟩:=I.base.there b o e (nx b)
  obtain⟨u,hu⟩:=c2 b o' e1 (I.notSt (I.oldL e) hb)
  exact⟨u,W.hideAll_get _ hu (by simpa using oldC b o e)⟩
theorem Inv.unblock0{own caps:List Str}{sc:Scope}{cl:List (Str × Addr)}{fp:List Addr}{H':Hp}{s4:Shared}{σ':St}{pins':List (Addr × Obj)}{hp:Heap}{ol:Obj}(I:Inv X pins σ H s)
  (f2:∀b∈fp,ph X pins H b) (ehp:hp=s.heap.push ol)
  (J:Inv (blk X (own++caps) sc cl { s with heap:=hp } H hp.objs.size (s.heap.objs.size::fp)) pins' σ' H' s4):Inv X pins σ H' s4:=by
 have up:∀b o,s.heap.get? b=some o->hp.get? b=some o:=fun b o e=>by rw [ehp];exact Heap.get?_push_of_some _ e
 have neD:∀b o,s.heap.get? b=some o->b≠s.heap.objs.size:=fun b o e=>Nat.ne_of_lt (Heap.lt_size e)
 have nex:∀b o,s.heap.get? b=some o->b∉fp->b∉s.heap.objs.size::fp:=fun b o e hb z=>(List.mem_cons.mp z).elim (neD b o e) hb
 have u:=J.base
 refine I.call' (ch:=fp) J.os ⟨fun b o e n hb hx=>u.keep b o (up _ _ e) n hb (nex b o e hx),fun b o e n hb hx=>u.slot b o (up _ _ e) n hb (nex b o e hx),fun b o e n hx=>u.free b o (up _ _ e) n (nex b o e hx),fun b o e hx=>u.there b o (up _ _ e) (nex b o e hx),u.tups,u.frzs,u.tbls⟩ J.hok J.bare fun b hb=>?_
 obtain⟨_,f1,_,f3,f4,f5⟩:=f2 b hb
 exact⟨f3,f1,f4,f5⟩
end
section
variable{X:Cx}
theorem vp{tg elt iter:Expr}{ifs:List Expr}{own caps:List Str}{κ:List Nat}{sc:Scope}{cl:List (Str × Addr)}{pos:Pos}{wi:TI}{g:TG}{tc:TT}{te:TE}{E:XK}(hst:X.stack=X.env::X.outer)(hfr:X.env.frame=some X.env.locals)(hex:X.ex=[])(hpn:X.pn=[])
  (hxe:∀(x:Addr) (cls:Value) (d:Option Addr) (H':Hp) (s:Shared),E cls d H'->wpAny (model X.prog X.w) X.A (leaving X.env (.ref x)) (fun _ s''=>Fly X.prog X.w X.outer X.H₀ X.s₀ x cls H' s''/\cA x d s'') (fun _ _=>False) s->X.xe (.ref x) s) (hcalm:X.calm=true) (S:iK X caps sc cl) (hκ:κ.map (fun k=>X.N[k]?)=caps.map some)
  (hi:PI X tg iter wi) (hg:∀s₀ H₀ C ex xe,PG ((blk X (own++caps) sc cl s₀ H₀ C ex).wish xe) tg g)
  (hc:∀s₀ H₀ C ex xe (pins:List (Addr × Obj)) (s:Shared) (σ:St) (H:Hp) (Q:Bool->Hp->Prop),Inv ((blk X (own++caps) sc cl s₀ H₀ C ex).wish xe) pins σ H s->tc σ H Q ->
   wpAny (model X.prog X.w) X.A (forIn ifs true fun c r=>if r=true then do let ok <-isTrue c (compEnvC sc cl C X.env) (eval c (compEnvC sc cl C X.env));pure (ForInStep.yield ok) else pure (ForInStep.yield r)) (TP ((blk X (own++caps) sc cl s₀ H₀ C ex).wish xe) pins σ Q) (fun _ _=>False) s)
  (he:∀s₀ H₀ C ex xe,fX (CX1 X.prog X.w) ((blk X (own++caps) sc cl s₀ H₀ C ex).wish xe) E->PE ((blk X (own++caps) sc cl s₀ H₀ C ex).wish xe) elt te)
  (hs:∀x,foldedSetIterable iter X.env x=pure x:=by intro _;rfl):PE X (.ListComp elt [⟨tg,iter,ifs,0⟩] sc pos) (oy own.length κ wi g tc te):=by
 intro pins s σ H Q I h
 rw [eval_ListComp]
 refine wpAny_comprehension_free (use:=none) rfl hs S.clos S.kind S.names (thn (hi pins s σ H _ I h) fun v s1 h1=>thn h1 fun itv s2 h2=>?_)
 obtain⟨it,fp,tn,J,H2,e,I2,T,st2,f2,W,⟨m0,w0⟩,turn⟩:=h2
 subst e
 have hfp:∀b∈fp,b < s2.heap.objs.size:=fun b hb=>by
  obtain⟨o,e,_⟩:=T.obj _ _ st2 b hb
  exact Heap.lt_size e
 refine wpAny_newObj_type (wpAny_newFunctionEnv S.nocell (fun y hy=>nomatch hy) (fun h₁ hns hsb=>?_) S.kind)
 generalize ehp:s2.heap.push { cls:=.type "list",dict:=none,data:=.seq ([]:List Value).toArray }=hp at hns hsb ⊢
 have hsz:hp.objs.size=s2.heap.objs.size+1:=by rw [<-ehp,Heap.size_push]
 have hDC:s2.heap.objs.size≠hp.objs.size:=by rw [hsz];exact Nat.ne_of_lt (Nat.lt_succ_self _)
 have old:∀b o,hp.get? b=some o->h₁.get? b=some o:=fun b o e=>(hsb.2 b (Nat.ne_of_lt (Heap.lt_size e))).trans (Heap.get?_push_of_some _ e)
 have eD:h₁.get? s2.heap.objs.size=some { cls:=.type "list",data:=.seq ([]:List Value).toArray }:=old _ _ (by rw [<-ehp];exact Heap.get?_push_size _ rfl)
 obtain⟨xe0,hx0⟩:∃xe0,xe0=notedBy (model X.prog X.w) X.A (compEnvC sc cl hp.objs.size X.env) (fun x s'=>compPost (model X.prog X.w) X.A X.xe none (EP X pins σ Q) (.ref s2.heap.objs.size) hp.objs.size (.error x) s'):=⟨_,rfl⟩
 have I0:=(Inv.block (own:=own) (h₁:=h₁) (tk:=s2.toks+([]:List (Str × Value)).length) S hκ I2 f2 hfp ehp.symm hns old).wish xe0
 have stkD:s2.heap.objs.size∉frs X.stack:=fun z=>(List.mem_cons.mp (I2.stkSub _ z)).elim (Nat.ne_of_gt I2.lt) (I2.nofs (Nat.le_refl _))
 have cellD:∀x c,cl.lookup x=some c->c≠s2.heap.objs.size:=fun x c q=>by
  obtain⟨v,z⟩:=I2.cell x c (S.subc q)
  exact Nat.ne_of_lt z.lt
 have pinD:∀p∈X.pn++pins,p.1≠s2.heap.objs.size:=fun p hp=>Nat.ne_of_lt (Heap.lt_size (I2.pin p hp).1)
 have stkF:∀b∈fp,b∉frs X.stack:=fun b hb z=>(List.mem_cons.mp (I2.stkSub _ z)).elim (f2 b hb).2.1 (f2 b hb).2.2.1
 have hps:fX (CX1 X.prog X.w) ((blk X (own++caps) sc cl { s2 with heap:=hp } H2 hp.objs.size (s2.heap.objs.size::fp)).wish xe0) E:=by
  intro pins' σ' H1 s1 e s' J z
  obtain⟨x,cls,d,H',rfl,fl,hdi,hE⟩:=z
  obtain⟨m,hm,_⟩:=J.loc
  have hsz0:X.s₀.heap.objs.size<=s2.heap.objs.size:=I2.sz
  rw [hx0]
  exact Fly.comp (C:=hp.objs.size) (cenv0:=compEnvC sc cl hp.objs.size X.env) (Inv.unblock0 I2 f2 ehp.symm J.unwish) hst hfr hex fl hdi (by
   cases q:X.s₀.heap.get? hp.objs.size with
   |none=>rfl
   |some o=>exact absurd (Nat.lt_of_lt_of_le (Heap.lt_size q) hsz0) (by rw [hsz];exact Nat.not_lt.mpr (Nat.le_succ _))) hm J.free (fun z=>by
    have:=(List.mem_cons.mp (I2.stkSub _ z)).elim (fun e=>Nat.ne_of_gt (Nat.lt_trans I2.lt (by rw [hsz];exact Nat.lt_succ_self _)) e) (I2.nofs (by rw [hsz];exact Nat.le_succ _))
    exact this) rfl (fun s h=>hxe x cls d H' s hE h)
 have loop:codeAny (model X.prog X.w) X.A (.compLoop (.ListComp elt [⟨tg,iter,ifs,0⟩] sc pos) 0 (.ref it) (.ref s2.heap.objs.size) (compEnvC sc cl hp.objs.size X.env))
   (compPost (model X.prog X.w) X.A X.xe none (EP X pins σ Q) (.ref s2.heap.objs.size) hp.objs.size) { s2 with heap:=h₁,toks:=s2.toks+([]:List (Str × Value)).length }:=by
  refine codeAny_loop rfl (fun n s'=>∃(i:Nat) (ys:List V) (its:List Value) (cap:Nat) (H':Hp),Inv ((blk X (own++caps) sc cl { s2 with heap:=hp } H2 hp.objs.size (s2.heap.objs.size::fp)).wish xe0) pins (dk own.length κ σ) H' s'/\tn i s'.heap/\(∀b∈fp,H' b=none) /\
   s'.heap.get? s2.heap.objs.size=some { cls:=.type "list",data:=.seq its.toArray cap }/\H' s2.heap.objs.size=none/\cw ys its/\ys.length<=sizeLine/\W i n ys H') (fun n s3 hI=>?_) m0
   ⟨0,[],[],0,H2,I0,T.keep _ _ _ st2 fun b hb o e=>old _ _ (by rw [<-ehp];exact Heap.get?_push_of_some _ e),fun b hb=>(f2 b hb).1,eD,I2.hok.fresh (Nat.le_refl _),.nil,Nat.zero_le _,w0⟩
  obtain⟨i,ys,its,cap,H3,I3,st3,fr3,eD3,nD3,rv,hz,w3⟩:=hI
  show wpAny _ X.A ((compTurn (.ListComp elt [⟨tg,iter,ifs,0⟩] sc pos) 0 (.ref it) (.ref s2.heap.objs.size) (compEnvC sc cl hp.objs.size X.env)).onRaise fun x=>do noteFrame x (compEnvC sc cl hp.objs.size X.env);theTreesLotGoes x) _ _ s3
  refine wpAny_noted ?_
  rw [compTurn_list]
  have I3':Inv ((blk X (own++caps) sc cl { s2 with heap:=hp } H2 hp.objs.size (s2.heap.objs.size::fp)).wish xe0) (pins++[(s2.heap.objs.size,{ cls:=.type "list",data:=.seq its.toArray cap })]) (dk own.length κ σ) H3 s3:=by
   refine I3.pins_of fun p hp=>(List.mem_append.mp hp).elim (fun z=>I3.pin p (List.mem_append_right _ z)) fun z=>?_
   obtain rfl:=List.mem_singleton.mp z
   exact⟨eD3,nD3,hDC,stkD,fun v q=>by cases q⟩
  have fpk:∀{H':Hp},(∀b∈fp,H' b=none)->∀b∈fp,ph ((blk X (own++caps) sc cl { s2 with heap:=hp } H2 hp.objs.size (s2.heap.objs.size::fp)).wish xe0) (pins++[(s2.heap.objs.size,{ cls:=.type "list",data:=.seq its.toArray cap })]) H' b:=fun {H'} hn b hb =>
   ⟨hn b hb,by show b≠hp.objs.size;rw [hsz];exact Nat.ne_of_lt (Nat.lt_succ_of_lt (hfp b hb)),stkF b hb,.inl (List.mem_cons_of_mem _ hb),fun x c q=>(f2 b hb).2.2.2.2.1 x c (S.subc q),fun p hp=>by
    rw [<-List.append_assoc] at hp
    rcases List.mem_append.mp hp with z|z
    ·exact(f2 b hb).2.2.2.2.2 p z
    ·obtain rfl:=List.mem_singleton.mp z
     exact Nat.ne_of_gt (hfp b hb)⟩
  rcases turn i n ys H3 w3 with ⟨stop,fin⟩|⟨go,hlt,step⟩
  ·refine wpAny_bind (wpAny_standAt (wpAny_bind (thn (T.done ((blk X (own++caps) sc cl { s2 with heap:=hp } H2 hp.objs.size (s2.heap.objs.size::fp)).wish xe0) rfl rfl rfl hcalm i _ s3 _ H3 _ I3' (fpk fr3) st3 stop) fun r s4 ⟨hr,I4⟩=>?_)))
   subst hr
   refine wpAny_pure ?_
   obtain⟨m,hm,_⟩:=I4.loc
   refine⟨m,hm,fun h' sb=>?_⟩
   have eD4:=(I4.pin (s2.heap.objs.size,{ cls:=.type "list",data:=.seq its.toArray cap }) (List.mem_append_right _ (List.mem_append_right _ (List.mem_singleton.mpr rfl)))).1
   exact⟨.ref s2.heap.objs.size,_,Inv.unblock I2 f2 ehp.symm I4.unwish eD4 nD3 rv hz sb,rfl,fin _ nD3⟩
  ·refine wpAny_bind (wpAny_standAt (wpAny_bind (thn (T.item ((blk X (own++caps) sc cl { s2 with heap:=hp } H2 hp.objs.size (s2.heap.objs.size::fp)).wish xe0) rfl rfl rfl hcalm i _ s3 _ H3 _ I3' (fpk fr3) st3 go) fun r s4 ⟨u,hr,h4⟩=>?_)))
   subst hr
   refine wpAny_bind (thn h4 fun _ s5 ⟨x,H5,I5,r5,y5,st5,fr5⟩=>?_)
   have I5':=I5.pinned (fpk fr5) (T.obj _ _ st5)
   refine wpAny_bind (wpAny_mono (hg _ _ _ _ _ _ s5 _ H5 x u _ I5' r5 (step x H5 y5)) (fun _ s6 ⟨σ6,H6,I6,eσ,q6⟩=>?_) fun _ _ z=>hx0▸z)
   refine wpAny_bind (wpAny_mono (hc _ _ _ _ _ _ s6 σ6 H6 _ I6 q6) (fun ok s7 ⟨H7,I7,q7⟩=>?_) fun _ _ z=>z.elim)
   have back:∀{s8:Shared} {H8:Hp},Inv ((blk X (own++caps) sc cl { s2 with heap:=hp } H2 hp.objs.size (s2.heap.objs.size::fp)).wish xe0) ((pins++[(s2.heap.objs.size,{ cls:=.type "list",data:=.seq its.toArray cap })])++jQ fp s5.heap) σ6 H8 s8 ->
     Inv ((blk X (own++caps) sc cl { s2 with heap:=hp } H2 hp.objs.size (s2.heap.objs.size::fp)).wish xe0) pins (dk own.length κ σ) H8 s8/\tn (i+1) s8.heap/\(∀b∈fp,H8 b=none)/\s8.heap.get? s2.heap.objs.size=some { cls:=.type "list",data:=.seq its.toArray cap }/\H8 s2.heap.objs.size=none:=by
    intro s8 H8 I8
    have pk:∀b∈fp,∀o,s5.heap.get? b=some o->s8.heap.get? b=some o/\H8 b=none:=fun b hb o e=>by
     have z:=I8.pin (b,o) (List.mem_append_right _ (List.mem_append_right _ (fE hb e)))
     exact⟨z.1,z.2.1⟩
    have zD:=I8.pin (s2.heap.objs.size,{ cls:=.type "list",data:=.seq its.toArray cap }) (List.mem_append_right _ (List.mem_append_left _ (List.mem_append_right _ (List.mem_singleton.mpr rfl))))
    refine⟨(I8.pins_of fun p hp=>I8.pin p (List.mem_append_right _ (List.mem_append_left _ (List.mem_append_left _ hp)))).weak ?_ fun j v e=>?_,T.keep _ _ _ st5 fun b hb o e=>(pk b hb o e).1,fun b hb=>?_,zD.1,zD.2.1⟩
    ·exact I3.len.trans I8.len.symm
    ·have hge:own.length<=j:=by
      refine Nat.le_of_not_lt fun q=>?_
      unfold dk at e
      rw [List.getElem?_append_left (by rw [List.length_replicate];exact q),List.getElem?_replicate,if_pos q] at e
      cases e
     have z:=congrArg (fun l=>l[j - own.length]?) eσ
     simp only [List.getElem?_drop] at z
     rw [show own.length+(j - own.length)=j by omega] at z
     rw [z]
     exact e
    ·obtain⟨o,e,_⟩:=T.obj _ _ st5 b hb
     exact(pk b hb o e).2
   cases ok with
   |false =>
    obtain⟨m',hm,w7⟩:=(if_neg Bool.false_ne_true)▸q7
    obtain⟨I8,st8,fr8,e8,n8⟩:=back I7
    exact wpAny_pure ⟨rfl,m',hm,i+1,ys,its,cap,H7,I8,st8,fr8,e8,n8,rv,hz,w7⟩
   |true =>
    have q7':=(if_pos rfl)▸q7
    refine wpAny_bind (wpAny_bind (wpAny_mono (he _ _ _ _ _ hps _ s7 σ6 H7 _ I7 q7') (fun y s8 ⟨v8,H8,I8,r8,m',hm,w8⟩=>?_) fun _ _ z=>hx0▸z))
    obtain⟨I9,st9,fr9,e9,n9⟩:=back I8
    have hl:=rv.length
    refine wpAny_bind (wpAny_list_append_plain (items:=its.toArray) ⟨cap,e9⟩ (fun h' hl' sb=>?_) (by rw [List.size_toArray,<-hl];exact hz))
    obtain⟨cap',e'⟩:=hl'
    refine wpAny_pure (wpAny_pure ⟨rfl,m',hm,i+1,ys++[v8],its++[y],cap',H8,?_,?_,fr9,?_,n9,cw.append rv (.cons r8 .nil),?_,w8⟩)
    ·exact I9.turned (t':=s8.toks) (fun b o hb e=>(sb.2 b hb).trans e) n9 hDC (.inl List.mem_cons_self) cellD pinD
    ·exact T.keep _ _ _ st9 fun b hb o e=>(sb.2 b (Nat.ne_of_lt (hfp b hb))).trans e
    ·rw [e']
     congr 3
     simp
    ·rw [List.length_append]
     exact hlt
 exact codeAny_compStart_list loop (T.self _ 0 _ _ _ (T.keep _ _ _ st2 fun b hb o e=>old _ _ (by rw [<-ehp];exact Heap.get?_push_of_some _ e)) loop)
end
section
variable{P:Program}{w:World}{K:W.Frag}{mg:Str->Option Value}{base:Heap}{N:List Str}{qual:Str}{scope:Scope}{f:Addr}{cd:Value}{A:Around}{outer:List Env}{s:Shared}{H:Hp}{E:XK}
theorem rj{tg elt iter:Expr}{own caps:List Str}{κ:List Nat}{sc:Scope}{cl:List (Str × Addr)}{pos:Pos}{wi:TI}{g:TG}{te:TE}(S:iK (ee (CX1 P w) P w K mg base N qual scope f cd A outer s H E) caps sc cl)(hκ:κ.map (fun k=>N[k]?)=caps.map some)
  (hi:PI (ee (CX1 P w) P w K mg base N qual scope f cd A outer s H E) tg iter wi) (hg:∀s₀ H₀ C ex xe,PG ((blk (ee (CX1 P w) P w K mg base N qual scope f cd A outer s H E) (own++caps) sc cl s₀ H₀ C ex).wish xe) tg g)
  (he:∀s₀ H₀ C ex xe,fX (CX1 P w) ((blk (ee (CX1 P w) P w K mg base N qual scope f cd A outer s H E) (own++caps) sc cl s₀ H₀ C ex).wish xe) E->PE ((blk (ee (CX1 P w) P w K mg base N qual scope f cd A outer s H E) (own++caps) sc cl s₀ H₀ C ex).wish xe) elt te)
  (hs:∀x,foldedSetIterable iter (envOfC qual scope s.heap.objs.size f cd) x=pure x:=by intro _;rfl):PE (ee (CX1 P w) P w K mg base N qual scope f cd A outer s H E) (.ListComp elt [⟨tg,iter,[],0⟩] sc pos) (oy own.length κ wi g AL te) :=
 vp (X:=ee (CX1 P w) P w K mg base N qual scope f cd A outer s H E) (E:=E) rfl rfl rfl rfl (fun x cls d H' s hE h=>wpAny_mono h (fun _ s'' z=>⟨x,cls,d,H',rfl,z.1,z.2,hE⟩) (fun _ _ z=>z.elim)) rfl S hκ hi hg (fun s₀ H₀ C ex xe pins s σ H Q I h=>wpAny_tests_nil ⟨H,I,h⟩) he hs
end
section
variable{X:Cx}
end
def gq(acc:List (Key × V))(ps:List (Key × V)):List (Key × V):=ps.foldl (fun r p=>bc r p.1 p.2) acc
section
variable{X:Cx}{pins:List (Addr × Obj)}{σ:St}
theorem v7{A:Around}(hh:A.handled=none)(hu:A.units+2 < cLine){l it d:Addr}{R:Result->Shared->Prop}{as:List Addr}{ps:List (Key × V)}{H:Hp}(hd:H d=none)(hdi:d≠it)(hl:H l=some (.lst (as.map V.ref)))
  (hps:Paired (fun(p:Key × V) (a:Addr)=>H a=some (.tup [kV p.1,p.2])) ps as) (fo:ph X pins H it):∀(n i:Nat) (s:Shared) (acc:List (Key × V)) (t:Tok),as.length - i=n->i<=as.length ->
   Inv X pins σ (upd H d (.dK acc)) s->s.heap.IsListIter it l i->acc.length+n < sizeLine->(∀s',Inv X pins σ (upd H d (.dK (gq acc (ps.drop i)))) s'->R (.ok (.ret .none)) s') ->
   codeAny (model X.prog X.w) A (.builtin "dict.update.loop" ⟨[.ref d,.ref it,.int i t,.none],[]⟩) R s:=by
 have hlen:ps.length=as.length:=hps.length
 have hnd:∀{b:Addr} {o:HO},H b=some o->b≠d:=fun e z=>by rw [z,hd] at e;cases e
 obtain⟨f0,f1,f2,f3,f4,f5⟩:=fo
 intro n
 induction n with
 |zero =>
  intro i s acc t hn hi I st hz hR
  have hl':upd H d (.dK acc) l=some (.lst (as.map V.ref)):=by rw [aj (hnd hl)];exact hl
  obtain⟨its,rv,p,_⟩:=I.list (a:=l) (xs:=as.map V.ref) (.inl (.inl hl'))
  have hlv:=rv.length
  rw [List.length_map] at hlv
  refine codeAny_builtin nZ ?_
  rw [Around.under_plainId ii]
  refine(show wpAny _ A.in1 (pyNext (.ref it) >>= _) _ _ s from wpAny_bind (wpAny_pyNext_list_end hh st p.isList (by simp;omega) fun h' eb=>?_))
  have I1:=I.turned (t':=s.toks) (h':=h') (fun b o hb e=>eb b o hb e) (by rw [aj (Ne.symm hdi)];exact f0) f1 f3 f4 f5
  have e:ps.drop i=[]:=List.drop_eq_nil_of_le (by omega)
  rw [e] at hR
  exact(show wpAny _ _ (Builtin.Dict.addKeywords d [] >>= _) _ _ _ from wpAny_bind (wpAny_pure (wpAny_pure (hR _ I1))))
 |succ n ih =>
  intro i s acc t hn hi I st hz hR
  have hl':upd H d (.dK acc) l=some (.lst (as.map V.ref)):=by rw [aj (hnd hl)];exact hl
  obtain⟨its,rv,p,_⟩:=I.list (a:=l) (xs:=as.map V.ref) (.inl (.inl hl'))
  have hia:i < as.length:=by omega
  have hip:i < ps.length:=by omega
  obtain⟨a,ha,hak⟩:=bv hps (List.getElem?_eq_getElem hip)
  obtain⟨u,hu',ru⟩:=rv.get (show(as.map V.ref)[i]?=some (V.ref a) by rw [List.getElem?_map,ha];rfl)
  cases ru
  refine codeAny_builtin nZ ?_
  rw [Around.under_plainId ii]
  refine(show wpAny _ A.in1 (pyNext (.ref it) >>= _) _ _ s from wpAny_bind (wpAny_pyNext_list_item st p.isList (x:=.ref a) (by simpa using hu') fun h' st' sb=>?_))
  have I1:=I.turned (t':=s.toks) (h':=h') (fun b o hb e=>(sb.2 b hb).trans e) (by rw [aj (Ne.symm hdi)];exact f0) f1 f3 f4 f5
  obtain⟨kvs2,rkv,⟨ob,eo,co,nn,od⟩,_⟩:=I1.tuple (a:=a) (xs:=[kV ps[i].1,ps[i].2]) (.inl (.inl (by rw [aj (hnd hak)];exact hak)))
  obtain⟨u1,u2,ekv,r1,r2⟩:=B5 rkv
  subst ekv
  refine(show wpAny _ A.in1 (holding [.ref a] _ >>= _) _ _ _ from wpAny_bind (wpAny_holding ?_))
  refine wpAny_bind (wpAny_tryCatch ?_)
  unfold Builtin.Dict.pairItems
  refine wpAny_bind (wpAny_typeOf (T:="tuple") ⟨ob,eo,co⟩ ?_)
  rw [if_pos (by decide)]
  refine wpAny_bind (wpAny_seqItems eo od (wpAny_pure ?_))
  refine(show wpAny _ A.in1 (holding [u1,u2] (dictSet d u1 u2)) _ _ _ from wpAny_holding ?_)
  obtain⟨z,hds,xs,rel,dd⟩:=oB I1.hok (ac (H:=H) (a:=d) (o:=.dK acc))
  have hz2:xs.length<=sizeLine:=by rw [<-rel.length];exact z
  have hlp:(bc acc ps[i].1 ps[i].2).length<=acc.length+1:=aG acc _ _
  refine wpAny_dictSet_pairs (hsz:=hz2) (mD r1) dd fun h2 dd' hs=>?_
  have I2:=jS (t':=s.toks+1) (ob:=.dK (bc acc ps[i].1 ps[i].2)) I1 (by rw [ac];exact True.intro) hs (let ⟨q,_,_,hq,_⟩:=dd';⟨q,hq⟩) (vM (by omega) hds (rel.put ps[i].1 r2) dd')
  rw [fO] at I2
  refine wpAny_pure ⟨plainId_quiet ii _,ih (i+1) _ (bc acc ps[i].1 ps[i].2) 0 (by omega) (by omega) I2 (st'.at fun o e=>(hs.2 it (Ne.symm hdi)).trans e) (by omega) fun s' I'=>hR s' ?_⟩
  rw [List.drop_eq_getElem_cons hip]
  exact I'
theorem dW(hc:X.calm=true)(hu:X.A.units+8 < cLine):gM X (.type "dict") (fun xs H Q=>∃l as ps,xs=[.ref l]/\H l=some (.lst (as.map V.ref))/\Paired (fun(p:Key × V) (a:Addr)=>H a=some (.tup [kV p.1,p.2])) ps as/\ps.length < sizeLine /\
  ∀d,H d=none->Q (.ref d) (upd H d (.dK (gq [] ps)))):=by
 intro pins s σ H xs us Q I r h
 obtain⟨l,as,ps,rfl,hl,hps,hz,q⟩:=h
 obtain⟨u,rfl,ru⟩:=nE r
 cases ru
 have hlen:ps.length=as.length:=hps.length
 refine callType_codes (Q₁:=fun obj s₁=>obj=.ref s.heap.objs.size/\s₁={ s with heap:=s.heap.push { cls:=.type "dict",data:=.dict #[] } }) F.kt_called_dict (F.kt_typeCall_dict_1 _) F.entry_dict_init (kt_code_dict_new _ ⟨rfl,rfl⟩) ?_
 rintro obj s₁ ⟨rfl,rfl⟩
 have hdn:H s.heap.objs.size=none:=I.hok.fresh (Nat.le_refl _)
 have gd:(s.heap.push { cls:=.type "dict",data:=.dict #[] }).get? s.heap.objs.size=some { cls:=.type "dict",data:=.dict #[] }:=Heap.get?_push_size _ rfl
 have I1:Inv X pins σ (upd H s.heap.objs.size (.dK [])) { s with heap:=s.heap.push { cls:=.type "dict",data:=.dict #[] } }:=I.laid (a:=s.heap.objs.size) (o:=.dK []) (t':=s.toks) (fun _ _ q=>Heap.get?_push_of_some _ q) (Nat.le_refl _) (mq s.heap I.big)
 have hld:l≠s.heap.objs.size:=fun z=>by rw [z,hdn] at hl;cases hl
 obtain⟨its,rv,p,_⟩:=I1.list (a:=l) (xs:=as.map V.ref) (.inl (.inl (by rw [aj hld];exact hl)))
 refine⟨⟨_,gd,rfl⟩,F.args_dict_init_2 _ _,?_⟩
 unfold Builtin.«dict.__init__»
 refine wpAny_bind ?_
 unfold Builtin.Dict.selfAndRest
 refine wpAny_bind (wpAny_notOrdered_dict (show Shared.TypeIs _ (.ref s.heap.objs.size) "dict" from⟨_,gd,rfl⟩) ?_)
 refine(show wpAny _ _ (pure (s.heap.objs.size,[Value.ref l])) _ _ _ from wpAny_pure ?_)
 show wpAny _ _ (Builtin.Dict.updateFrom "dict.__init__" s.heap.objs.size (.ref l) [] .none) _ _ _
 unfold Builtin.Dict.updateFrom
 refine wpAny_bind (wpAny_typeOf p.isList.typeIs ?_)
 rw [if_pos (by decide)]
 obtain⟨⟨cl,dc,da,sl⟩,n0,gl,e1,e2,e3⟩:=id p
 simp only at e1 e2 e3
 subst e1 e2 e3
 refine wpAny_bind (nO gl (I.ok.hd hc) fun h' tk hk=>?_)
 rw [if_pos (by decide)]
 have I2:=I1.kept (t':=tk) (h':=h') fun b o e=>hk b o e
 have le:s.heap.objs.size < h'.objs.size:=Heap.lt_size (hk _ _ gd)
 refine wpAny_bind (wpAny_rule ?_)
 refine wpAny_bind (wpAny_pyIter_list (p.isList.at fun o e=>hk l o e) ?_)
 have I3:=I2.kept (t':=tk) (h':=h'.push { cls:=.type "list_iterator",data:=.fields #[.ref l,.int 0 0] }) fun b o e=>Heap.get?_push_of_some _ e
 have fo:ph X pins H h'.objs.size:=I2.fpOk (Nat.le_refl _) (I.hok.fresh (Nat.le_of_lt le))
 refine wpAny_pure ⟨plainId_quiet ii _,v7 (X:=X) (pins:=pins) (σ:=σ) (A:=X.A.in1) (I.ok.hd hc) (by show X.A.units+1+2 < cLine;omega) hdn (Nat.ne_of_lt le) hl hps fo as.length 0 _ [] 0 (Nat.sub_zero _) (Nat.zero_le _) I3 ⟨_,Heap.get?_push_size _ rfl,rfl,rfl⟩ (by rw [List.length_nil];omega) fun s' I'=>⟨rfl,.ref s.heap.objs.size,_,I',rfl,?_⟩⟩
 rw [List.drop_zero]
 exact q _ hdn
end
end L2
namespace HT
open PySem PySem.Spec PyProof.Rows
section
variable{prog:Program}{w:World}{A:Around}{E:Value->Shared->Prop}{s:Shared}
end
end HT
namespace L2
open PySem PySem.Spec PyProof.Rows
section
variable{X:Cx}
theorem qw:gM X (.builtin "isinstance") (fun xs H Q=>∃a ys,xs=[.ref a,.ty "tuple"]/\SqT X.K H a ys/\Q (.bl true) H):=by
 intro pins s σ H xs us Q I rv h
 obtain⟨a,ys,rfl,hq,q⟩:=h
 obtain⟨u,v,rfl,r1,r2⟩:=rv.two
 cases r2
 cases (show u=Value.ref a from r1)
 obtain⟨its,_,⟨o,h1,h2,_⟩,_⟩:=I.tuple hq
 exact W.kia_one (t:=.type "tuple") (b:=true) W.kitx_tuple I.kIn ⟨o,h1,h2⟩ rfl (fun z=>nomatch z) fun tk=>⟨.bl true,H,I.tok _,rfl,q⟩
theorem lI:gM X (.builtin "isinstance") (fun xs H Q=>∃x,xs=[x,.ty "tuple"]/\((∃z,x=.str z/\Q (.bl false) H)\/(∃i,x=.int i/\Q (.bl false) H)\/∃a ys,x=.ref a/\SqT X.K H a ys/\Q (.bl true) H)):=by
 intro pins s σ H xs us Q I rv h
 obtain⟨x,rfl,h⟩:=h
 rcases h with ⟨z,rfl,q⟩|⟨i,rfl,q⟩|⟨a,ys,rfl,hq,q⟩
 ·obtain⟨u,v,rfl,r1,r2⟩:=rv.two
  cases r2
  exact ic (t:=.type "str") (b:=false) I r1 (.str z) rfl fun tk=>⟨.bl false,H,I.tok _,rfl,q⟩
 ·obtain⟨u,v,rfl,r1,r2⟩:=rv.two
  cases r2
  exact ic (t:=.type "int") (b:=false) I r1 (.int i) rfl fun tk=>⟨.bl false,H,I.tok _,rfl,q⟩
 ·exact qw pins s σ H _ us Q I rv ⟨a,ys,rfl,hq,q⟩
end
section
variable{X:Cx}{tg:Expr}
end
end L2
namespace HT
open PySem PySem.Spec PyProof.Rows
section
variable{prog:Program}{w:World}{K:Type}[DecidableEq K]{knd:KeyKind prog w K}{A:Around}{E:Value->Shared->Prop}{s:Shared}{r d:Addr}{kvs:List (K × Value)}{ep:Nat}
theorem pS{Q:Value->Shared->Prop}(hno:A.handled=none)(hv:s.heap.IsItemsView r d)(hd:Heap.DictAt knd s.heap d kvs ep)(hl:kvs.length<=sizeLine)
  (hQ:∀(h':Heap) (tk:Nat) (acc:Array Value) (c:Nat) (as:List Addr),(∀b o,s.heap.get? b=some o->h'.get? b=some o)->h'.get? s.heap.objs.size=some { cls:=.type "list",data:=.seq acc c }->as.length=kvs.length->W.KdxG knd kvs s.heap.objs.size h' as->acc.toList=as.map Value.ref->Q (.ref s.heap.objs.size) { s with heap:=h',toks:=tk }) :
  wpAny (model prog w) A (runValue (.builtin "proto.collect" ⟨[.ref r],[]⟩)) Q E s:=by
 refine wpAny_runValue (codeAny_builtin PySem.F.entry_proto_collect ?_)
 show wpAny _ _ (newList [] >>= _) _ _ s
 refine wpAny_bind (wpAny_newList ?_)
 refine wpAny_pure ⟨plainId_quiet PySem.F.plain_list_iadd _,codeAny_builtin PySem.F.entry_list_iadd ?_⟩
 rw [Around.under_plainId PySem.F.plain_list_iadd]
 show wpAny _ A.in1 (Builtin.List.listExtendWith (.ref s.heap.objs.size) (.ref r) (.ref s.heap.objs.size)) _ _ _
 obtain⟨ov,hov,rv⟩:=id hv
 have nr:s.heap.objs.size≠r:=Nat.ne_of_gt (Heap.lt_size hov)
 have nd:d≠s.heap.objs.size:=Nat.ne_of_lt hd.lt_size
 refine W.kdx_extend (knd:=knd) (A:=A) (R:=fun r s'=>match r with|.ok (.ret v)=>Q v s'|.ok _=>False|.error e=>E e s') (s:={ s with heap:=s.heap.push { cls:=.type "list",data:=.seq #[] } }) hno ⟨ov,Heap.get?_push_of_some _ hov,rv⟩ (hd.push _) s.heap.objs.size nr nd _ 0 (Heap.get?_push_size _ rfl) (fun h' tk acc c as hk hS hlen hG hacc=>?_) hl
 refine hQ h' tk acc c as (fun b o e=>hk b o (Nat.ne_of_lt (Heap.lt_size e)) (Heap.get?_push_of_some _ e)) hS hlen ⟨hG.rise,fun a ha=>?_,hG.pairs⟩ hacc
 have h1:=hG.above a ha
 have e:(s.heap.push { cls:=.type "list",data:=.seq #[] }).objs.size=s.heap.objs.size+1:=by simp [Heap.push]
 have h2:(s.heap.push { cls:=.type "list",data:=.seq #[] }).objs.size < a:=h1
 rw [e] at h2
 exact Nat.lt_of_succ_lt h2
theorem nI{Q:List Value->Shared->Prop}(hno:A.handled=none)(hv:s.heap.IsItemsView r d)(hd:Heap.DictAt knd s.heap d kvs ep)(hl:kvs.length<=sizeLine)
  (hQ:∀(h':Heap) (tk:Nat) (as:List Addr),(∀b o,s.heap.get? b=some o->h'.get? b=some o)->s.heap.objs.size < h'.objs.size->as.length=kvs.length->W.KdxG knd kvs s.heap.objs.size h' as->Q (as.map Value.ref) { s with heap:=h',toks:=tk }) :
  wpAny (model prog w) A (collect (.ref r)) Q E s:=by
 unfold collect
 refine wpAny_bind (pS hno hv hd hl fun h' tk acc c as hk hS hlen hG hacc=>?_)
 refine wpAny_bind (wpAny_load hS ?_)
 refine wpAny_pure ?_
 rw [hacc]
 exact hQ h' tk as hk (Heap.lt_size hS) hlen hG
theorem gL{Q:Value->Shared->Prop}(hno:A.handled=none)(hv:s.heap.IsItemsView r d)(hd:Heap.DictAt knd s.heap d kvs ep)(hl:kvs.length<=sizeLine)
  (hQ:∀(h':Heap) (tk:Nat) (as:List Addr),(∀b o,s.heap.get? b=some o->h'.get? b=some o)->s.heap.objs.size < h'.objs.size->as.length=kvs.length->W.KdxG knd kvs s.heap.objs.size h' as->Q (.ref h'.objs.size) { s with heap:=h'.push { cls:=.type "tuple",data:=.seq (as.map Value.ref).toArray },toks:=tk }) :
  codeAny (model prog w) A (.call (.builtin "tuple.__new__") ⟨[.type "tuple",.ref r],[]⟩) (wants Q E) s:=by
 refine codeAny_of_tree ?_
 show wpAny _ _ (checkBuiltinCall "tuple.__new__" ⟨[.type "tuple",.ref r],[]⟩ >>= _) _ _ s
 refine wpAny_bind (wpAny_of_eq (PySem.F.newCall_tuple_1 _) ?_)
 refine wpAny_pure ⟨plainId_quiet PySem.F.plain_tuple_new _,codeAny_builtin PySem.F.entry_tuple_new ?_⟩
 rw [Around.under_plainId PySem.F.plain_tuple_new]
 unfold Builtin.«tuple.__new__»
 refine wpAny_bind (wpAny_of_eq (a:=true) rfl ?_)
 refine wpAny_ite_false (by decide) ?_
 refine wpAny_bind (wpAny_of_eq sub_tuple_self ?_)
 refine wpAny_ite_false (by decide) ?_
 refine wpAny_ite_false (by decide +kernel) ?_
 refine wpAny_bind (wpAny_of_eq madeHere_tuple ?_)
 refine wpAny_bind (wpAny_of_eq init_tuple_lookup ?_)
 refine wpAny_ite_true (by decide) ?_
 refine wpAny_bind (wpAny_of_eq (a:=()) rfl ?_)
 refine wpAny_bind (wpAny_of_eq (a:=()) rfl ?_)
 refine wpAny_ite_true (by decide) ?_
 unfold Builtin.Tuple.tupleIsExact
 obtain⟨ov,hov,rc,rd⟩:=id hv
 refine wpAny_bind (wpAny_bind (wpAny_typeOf (T:="dict_items") ⟨ov,hov,rc⟩ (wpAny_pure ?_)))
 refine wpAny_ite_false (by decide) ?_
 refine wpAny_bind (nI (A:=A.in1) hno hv hd hl fun h' tk as hk hsz hlen hG=>?_)
 refine wpAny_bind (wpAny_pure ?_)
 show wpAny _ _ (Builtin.Tuple.tupleExact _ >>= _) _ _ _
 unfold Builtin.Tuple.tupleExact
 refine wpAny_bind (wpAny_newObj_type ?_ ?_)
 ·exact wpAny_pure (hQ h' tk as hk hsz hlen hG)
 ·have e:(as.map Value.ref).toArray.size<=sizeLine:=by
   rw [List.size_toArray,List.length_map,hlen]
   exact hl
  exact e
theorem call_tuple_items{Q:Value->Shared->Prop}(hno:A.handled=none)(hv:s.heap.IsItemsView r d)(hd:Heap.DictAt knd s.heap d kvs ep)(hl:kvs.length<=sizeLine)
  (hQ:∀(h':Heap) (tk:Nat) (as:List Addr),(∀b o,s.heap.get? b=some o->h'.get? b=some o)->s.heap.objs.size < h'.objs.size->as.length=kvs.length->W.KdxG knd kvs s.heap.objs.size h' as->Q (.ref h'.objs.size) { s with heap:=h'.push { cls:=.type "tuple",data:=.seq (as.map Value.ref).toArray },toks:=tk }) :
  wpAny (model prog w) A (call (.type "tuple") [.ref r]) Q E s:=by
 refine callType_codes (Q₁:=fun obj s₁=>s₁.TypeIs obj "tuple"/\Q obj s₁) PySem.F.called_tuple (PySem.F.typeCall_tuple_1 _) PySem.F.entry_object_init (gL (A:=A.in1) hno hv hd hl fun h' tk as hk hsz hlen hG=>⟨⟨_,Heap.get?_push_size _ rfl,rfl⟩,hQ h' tk as hk hsz hlen hG⟩) ?_
 rintro obj s₁ ⟨h1,h2⟩
 exact⟨h1,PySem.F.args_object_init_2 _ _,object_init_meets (newId:="tuple.__new__") init_tuple_lookup PySem.F.called_tuple.made (by decide) prog w A.in1 _ s₁ ⟨h1,rfl,h2⟩⟩
end
end HT
namespace L2
open PySem PySem.Spec PyProof.Rows
section
variable{X:Cx}
theorem fG(hc:X.calm=true):gM X (.type "tuple") (fun xs H Q=>∃v d kvs,xs=[.ref v]/\H v=some (.ext (jR v d))/\H d=some (.dK kvs) /\
  ∀(H2:Hp) (as:List Addr) (l:Addr),(∀b u,H b=some u->H2 b=some u)->H l=none->(∀a∈as,H a=none)->H2 l=some (.tup (as.map V.ref))->Paired (fun(p:Key × V) (k:Addr)=>H2 k=some (.tup [kV p.1,p.2])) kvs as->Q (.ref l) H2):=by
 intro pins s σ H xs us Q I r h
 obtain⟨v,d,kvs,rfl,hv,hd,q⟩:=h
 obtain⟨u,rfl,ru⟩:=nE r
 cases ru
 obtain⟨z,hs,ys,rel,dd⟩:=oB I.hok hd
 obtain⟨ep,dat⟩:=dd.dictAt
 have hview:s.heap.IsItemsView v d:=(I.hok v _ hv).1
 have hl2:kvs.length=ys.length:=rel.length
 refine HT.call_tuple_items (knd:=bo X.prog X.w) (I.ok.hd hc) hview dat (by rw [<-hl2];exact z) fun h' tk as hk hsz0 hlen hG=>?_
 have hlen':as.length=kvs.length:=by rw [hlen,hl2]
 have hge:∀a∈as,s.heap.objs.size<=a:=fun a ha=>Nat.le_of_lt (hG.above a ha)
 have hlt:∀a∈as,a < h'.objs.size:=fun a ha=>by
  obtain⟨j,hj⟩:=List.getElem?_of_mem ha
  obtain⟨_,_,_,_,_,h5⟩:=hG.pairs j a hj
  exact Heap.lt_size h5
 have hnS:h'.objs.size∉as:=fun ha=>Nat.lt_irrefl _ (hlt _ ha)
 have hsz:s.heap.objs.size<=h'.objs.size:=Nat.le_of_lt hsz0
 have vr:∀ks:List Addr,cw (ks.map V.ref) (ks.map Value.ref):=fun ks=>by
  induction ks with
  |nil=>exact .nil
  |cons k ks ih=>exact .cons rfl ih
 have old:∀b,b < s.heap.objs.size->upd (qC H as kvs) h'.objs.size (.tup (as.map V.ref)) b=H b:=fun b hb=>by
  rw [aj (Nat.ne_of_lt (Nat.lt_of_lt_of_le hb hsz))]
  exact mj fun ha=>absurd (hge b ha) (Nat.not_le_of_lt hb)
 have I2:Inv X pins σ (upd (qC H as kvs) h'.objs.size (.tup (as.map V.ref))) { s with heap:=h'.push { cls:=.type "tuple",data:=.seq (as.map Value.ref).toArray },toks:=tk }:=by
  refine I.laids (t':=tk) (fun b o e=>Heap.get?_push_of_some _ (hk b o e)) old fun b u hb hu=>?_
  by_cases e:b=h'.objs.size
  ·subst e
   rw [ac] at hu
   cases hu
   exact⟨by rw [List.length_map,hlen'];exact z,as.map Value.ref,vr as,IsTup.new _ _⟩
  ·rw [aj e] at hu
   by_cases ha:b∈as
   ·obtain⟨j,p,h1,h2,rfl⟩:=uL ha hlen' hu
    obtain⟨key,k,x,h3,h4,h5⟩:=hG.pairs j b h1
    have hp:p.1=k/\cy p.2 x:=by
     have:=bv rel h2
     obtain⟨y,hy,e1,e2⟩:=this
     rw [h3] at hy
     cases hy
     exact⟨e1,e2⟩
    refine⟨by show 2<=sizeLine;decide,[key,x],.cons (by rw [hp.1];exact vC h4) (.cons hp.2 .nil),_,Heap.get?_push_of_some _ h5,rfl,_,rfl⟩
   ·rw [mj ha] at hu
    rw [I.hok.fresh hb] at hu
    cases hu
 refine⟨.ref h'.objs.size,_,I2,rfl,q _ as h'.objs.size (fun b u hb=>?_) (I.hok.fresh hsz) (fun a ha=>I.hok.fresh (hge a ha)) ac ?_⟩
 ·have lt:b < s.heap.objs.size:=Nat.lt_of_not_le fun z=>by rw [I.hok.fresh z] at hb;cases hb
  rw [old b lt]
  exact hb
 ·have go:∀{qs:List (Key × V)} {bs:List Addr},(∀b∈bs,b∈as)->Paired (fun(p:Key × V) (k:Addr)=>qC H as kvs k=some (.tup [kV p.1,p.2])) qs bs->Paired (fun(q:Key × V) (k:Addr)=>upd (qC H as kvs) h'.objs.size (.tup (as.map V.ref)) k=some (.tup [kV q.1,q.2])) qs bs:=fun {qs bs} hb z=>by
   induction z with
   |nil=>exact .nil
   |@cons x y xs ys e _ ih =>
    refine .cons ?_ (ih fun b hb'=>hb b (List.mem_cons_of_mem _ hb'))
    rw [aj (fun z=>hnS (by rw [<-z];exact hb y List.mem_cons_self))]
    exact e
  exact go (fun _ z=>z) (lH hG.rise hlen')
end
end L2
namespace HT
open PySem PySem.Spec PyProof.Rows
section
variable{prog:Program}{w:World}{A:Around}{E:Value->Shared->Prop}{s:Shared}
end
end HT
namespace L2
open PySem PySem.Spec PyProof.Rows
section
variable{X:Cx}
end
section
variable{P:Program}{w:World}
theorem Fly.thaw{outer:List Env}{H H':Hp}{s s':Shared}{x d:Addr}{cls:Value}{o:Obj}{u:HO}(f:Fly P w outer H s x cls H' s')(e:H' d=some (.frz o u))(h0:∀o' u',H d≠some (.frz o' u')):Fly P w outer H s x cls (upd H' d u) s':=by
 have nd:∀b,H' b=none->b≠d:=fun b n z=>by rw [z,e] at n;cases n
 have no:∀b v,H' b=some v->(∀o u,v≠.frz o u)->b≠d:=fun b v q n z=>by rw [z,e] at q;cases q;exact n _ _ rfl
 obtain⟨B,a0,fl,c1,c2⟩:=f.fl
 refine⟨f.os,f.bare,⟨f.un.keep,f.un.slot,fun b ob q n hx=>?_,f.un.there,fun b xs q=>?_,fun b ob v q=>?_,fun b ps q=>?_⟩,fun b v q=>?_,⟨B,a0,fl,fun b v q=>?_,c2⟩,?_⟩
 ·have z:=f.un.free b ob q n hx
  rw [aj (nd b z)]
  exact z
 ·have z:=f.un.tups b xs q
  rw [aj (no b _ z (fun _ _=>nofun))]
  exact z
 ·have z:=f.un.frzs b ob v q
  rw [aj (fun w=>h0 ob v (by rw [<-w];exact q))]
  exact z
 ·obtain⟨more,z⟩:=f.un.tbls b ps q
  exact⟨more,by rw [aj (no b _ z (fun _ _=>nofun))];exact z⟩
 ·have own:∀a b,H' b=some (.own a)->upd H' d u b=some (.own a):=fun a b z=>by rw [aj (no b _ z (fun _ _=>nofun))];exact z
  have tup:∀b xs,H' b=some (.tup xs)->upd H' d u b=some (.tup xs):=fun b xs z=>by rw [aj (no b _ z (fun _ _=>nofun))];exact z
  by_cases hb:b=d
  ·subst hb
   rw [ac] at q
   cases q
   exact(f.hok b _ e).2.stay (fun _ _ _ z=>z) (own b) tup
  ·rw [aj hb] at q
   exact(f.hok b v q).stay (fun _ _ _ z=>z) (own b) tup
 ·by_cases hb:b=d
  ·subst hb
   exact c1 b _ e
  ·rw [aj hb] at q
   exact c1 b v q
 ·rw [aj (nd _ f.free)]
  exact f.free
variable{K:W.Frag}{mg:Str->Option Value}{base:Heap}{N:List Str}{qual:Str}{scope:Scope}{f:Addr}{cd:Value}{A:Around}{outer:List Env}{s:Shared}{H:Hp}{E:XK}
theorem Ay:fX (CX1 P w) (ee (CX1 P w) P w K mg base N qual scope f cd A outer s H E) (fun c dd H'=>∃d o u,H' d=some (.frz o u)/\(∀o' u',H d≠some (.frz o' u'))/\E c dd (upd H' d u)):=fun pins σ H1 s1 e s' I h=>by
 obtain⟨x,cls,dd,H',rfl,fl,hd,d,o,u,e1,e2,q⟩:=h
 exact Fly.leave I rfl rfl rfl fl hd fun s'' g gd=>⟨x,cls,dd,_,rfl,g.thaw e1 e2,gd,q⟩
end
section
variable{X:Cx}{tg:Expr}
end
section
variable{X:Cx}{pins:List (Addr × Obj)}{σ:St}{H:Hp}{s:Shared}{h':Heap}
end
section
variable{X:Cx}{es:List Expr}{k:Nat}{ps:Pos}
end
end L2
namespace L2
open PySem PyProof.Rows
theorem sz(n:Nat)(h:n<=1000:=by decide):n<=sizeLine:=Nat.le_of_lt (gk h)
theorem lc0{α:Type}{a:α}{l:List α}:(a::l).length=l.length+1:=List.length_cons
theorem lm0{α β:Type}{l:List α}{f:α->β}:(l.map f).length=l.length:=List.length_map f
theorem ma0{α β:Type}{f:α->β}{l m:List α}:(l++m).map f=l.map f++m.map f:=List.map_append
theorem nr0{n:Nat}:n<=n:=Nat.le_refl n
theorem mc0{α:Type}{a b:α}{l:List α}(h:a∈b::l):a=b\/a∈l:=List.mem_cons.mp h
theorem la0{α:Type}{l m:List α}:(l++m).length=l.length+m.length:=List.length_append
theorem od0{p:Prop}[Decidable p](h:decide p=true):p:=of_decide_eq_true h
theorem dt0{p:Prop}[Decidable p](h:p):decide p=true:=decide_eq_true h
theorem df0{p:Prop}[Decidable p](h:¬p):decide p=false:=decide_eq_false h
theorem sr0{H:Hp}:aE H H:=aE.refl H
section
variable{X:Cx}{x:Str}{pos pos':Pos}{e:Expr}{te:TE}
theorem ba{i:Nat}(hN:X.N.Nodup)(he:PE X e te)(hi:X.N[i]?=some x:=by exact rfl)(hx:Loc X.env.scope x:=by exact Or.inl rfl)(hs:swapsWith e (some (.Name x pos')) pos.line X.env=pure false:=by rfl)(hf:X.fn x=true\/X.env.scope.names.lookup x=some .local:=by first|exact .inl rfl|exact .inr rfl|assumption):PS X (.Assign [.Name x pos'] e pos) (BN te (jq i)):=lK hN hi hx he hs hf
theorem pg0(own:List Str)(hN:own.Nodup:=by decide +kernel)(e:X.N=own:=by exact rfl)(hi:X.N[0]?=some x:=by exact rfl)(hx:Loc X.env.scope x:=by exact Or.inl rfl)(hf:X.fn x=true\/X.env.scope.names.lookup x=some .local:=by first|exact .inl rfl|exact .inr rfl|assumption):PG X (.Name x pos) (jq 0):=aP (e▸hN) hi hx hf
theorem BZ{tg elt iter:Expr}{own:List Str}{sc:Scope}{wi:TI}{g:TG}(hi:PI X tg iter wi)(hg:∀s₀ H₀ C ex,PG (blk X (own++[]) sc [] s₀ H₀ C ex) tg g)(he:∀s₀ H₀ C ex,PE (blk X (own++[]) sc [] s₀ H₀ C ex) elt te)(hc:X.calm=true:=by exact rfl)(S:iK X [] sc []:=by exact⟨rfl,by decide +kernel,by decide +kernel,rfl,rfl,(fun y hy=>nomatch hy),(fun y hy=>nomatch hy)⟩)(hs:∀x,foldedSetIterable iter X.env x=pure x:=by intro _;rfl):PE X (.ListComp elt [⟨tg,iter,[],0⟩] sc pos) (oy own.length [] wi g AL te):=nM (own:=own) (caps:=[]) (κ:=[]) (cl:=[]) hc S rfl hi hg he hs
end
theorem mkS{ns ps:List Str}{sc:Scope}(h:aO ns ps sc:=by exact⟨rfl,rfl,rfl,by decide +kernel,rfl,by decide +kernel,by decide +kernel⟩):aO ns ps sc:=h
section
variable{P:Program}{w:World}{K:W.Frag}{mg:Str->Option Value}{base:Heap}{x qual:Str}{st:Stmt}{f:Addr}{fd:FuncData}{N ps:List Str}{k:Nat}{sp:Sp}
theorem Fun.k0(F:Fun K x qual st f fd)(S:aO N ps (ah st))(hb:∀cdv A outer s H vs Q E,cG k (A.deeper (envOfC qual (ah st) s.heap.objs.size f cdv))->sp vs H Q E->∃t,PSs (ee CX0 P w K mg base N qual (ah st) f cdv A outer s H E).nox (ar st) t/\t { nx:=fun _ H'=>Q .non H',rt:=Q } (start N vs) H)
  (len:∀vs H Q E,sp vs H Q E->vs.length=ps.length:=by intro _ _ _ _ h;repeat first|(obtain⟨rfl,_⟩:=h;rfl)|obtain⟨_,h⟩:=h):bq P w K mg base CX0 (k+1) f fd ps sp:=F.ok S len hb
theorem Fun.k1(F:Fun K x qual st f fd)(S:aO N ps (ah st))(hb:∀cdv A outer s H vs Q E,cG k (A.deeper (envOfC qual (ah st) s.heap.objs.size f cdv))->sp vs H Q E->∃t,PSs (ee (CX1 P w) P w K mg base N qual (ah st) f cdv A outer s H E) (ar st) t/\t { nx:=fun _ H'=>Q .non H',rt:=Q } (start N vs) H)
  (len:∀vs H Q E,sp vs H Q E->vs.length=ps.length:=by intro _ _ _ _ h;repeat first|(obtain⟨rfl,_⟩:=h;rfl)|obtain⟨_,h⟩:=h):bq P w K mg base (CX1 P w) (k+1) f fd ps sp:=F.okX S len hb
end
end L2
namespace L2
theorem ix0{X:Cx}{a b:PySem.Expr}{ta tb:TE}{pos:PySem.Pos}{r:R2}(h:IxR X r)(ha:PE X a ta)(hb:PE X b tb)(hp:ub b:=by exact fun _ _=>rfl):PE X (.Subscript a b pos) (tOp r ta tb):=Cn h ha hb hp
end L2
namespace L2
theorem nK0{p q:Prop}(c:p)(h:¬p:=by decide +kernel):q:=absurd c h
theorem nD0{p q:Prop}(c:p)(h:¬p:=by decide):q:=absurd c h
end L2
namespace K48
open PySem L2 Kk
def top(i:Nat):Stmt:=PySem.Challenge.pw_sealhouse_k48_makers_refused.main.body.getD i (.Pass ⟨0,0,0,0⟩)
abbrev lV:Stmt:=top 8
abbrev lU:Stmt:=top 9
abbrev Aj:Stmt:=top 10
abbrev gH:Stmt:=top 11
abbrev dU:Stmt:=top 12
abbrev dR:Stmt:=top 13
abbrev Al:Stmt:=top 16
abbrev cI:Stmt:=top 17
abbrev iN:Stmt:=top 18
abbrev gB:Stmt:=top 19
abbrev cb:Stmt:=top 20
abbrev cQ:Stmt:=top 22
abbrev cX:Stmt:=top 23
abbrev bQ:Stmt:=top 24
abbrev gJ:Stmt:=top 25
abbrev iC:Stmt:=top 26
abbrev fD:Stmt:=top 27
abbrev fB:Stmt:=top 28
abbrev gz:Stmt:=top 31
abbrev iG:Stmt:=top 32
abbrev sO:Stmt:=top 34
abbrev lG:Stmt:=top 35
abbrev lY:Stmt:=top 36
abbrev sr:Stmt:=top 37
abbrev i8:Stmt:=top 38
abbrev jf:Stmt:=top 39
abbrev lP:Stmt:=top 40
abbrev mf:Stmt:=top 41
abbrev jo:Stmt:=top 42
abbrev gx:Stmt:=top 43
abbrev gP:Stmt:=top 44
abbrev fF:Stmt:=top 45
abbrev uY:Stmt:=top 46
theorem dX{n:Nat}(h:n<=1000):n<=sizeLine:=Nat.le_of_lt (gk h)
theorem ad{H:Hp}{p:Addr}(h:H p=none)(o:HO):aE H (upd H p o):=fun b u q=>by rw [aj (aH q h)];exact q
def pi(ks:List Kd):Nat:=(ks.map Kd.words).sum
theorem dS(k:Kd):0 < k.words:=by
 have:=cP k
 have:=gF k
 omega
theorem gG(a b:List Kd):pi (a++b)=pi a+pi b:=by
 unfold pi
 rw [ma0,List.sum_append]
theorem eV(k:Kd):pi [k]=k.words:=Nat.add_zero _
theorem nJ:∀ks:List Kd,ks.length<=pi ks
 |[]=>Nat.le_refl _
 |k::ks=>by
  have h1:=nJ ks
  have h2:=dS k
  show ks.length+1<=k.words+pi ks
  omega
theorem snoc{K:W.Frag}{H:Hp}:∀{us:List V} {v:V} {ks:List Kd},dI K H (us++[v]) ks->∃ls k,ks=ls++[k]/\dI K H us ls/\cc K H v k
 |[],v,_,.cons a .nil=>⟨[],_,rfl,.nil,a⟩
 |u::us,v,_,.cons a b=>by
  obtain⟨ls,k,rfl,h1,h2⟩:=snoc (us:=us) b
  exact⟨_::ls,k,rfl,.cons a h1,h2⟩
theorem rD{us:List V}{v:V}:(us++[v])[(us++[v]).length - 1]?=some v:=by simp
theorem one{K:W.Frag}{H:Hp}{v:V}{k:Kd}(h:cc K H v k):dI K H [v] [k]:=.cons h .nil
def tT(K:W.Frag):Sp:=fun vs H Q _=>∃(x:V) (k:Kd),vs=[x]/\cc K H x k/\k.words<=900/\∀H',aE H H'->Q (.int k.words) H'
section
variable{P:Program}{w:World}{K:W.Frag}{mg:Str->Option Value}{base:Heap}
theorem jY:aO ["kind","words","left","here"] ["kind"] (ah lV):=mkS
theorem wP{f:Addr}{fd:FuncData} (F:Fun K "words_in" "words_in" lV f fd) (ml:mg "len"=none):bq P w K mg base CX0 1 f fd ["kind"] (tT K):=by
 refine F.k0 jY fun cdv A outer s H vs Q E hr h=>?_
 obtain⟨x,k,rfl,hk,h9,q⟩:=h
 refine⟨_,ag (ba (i:=1) jY.nd ai)
  (ag (ba (i:=2) jY.nd (cU (aa (pv 0) ae)))
  (ag (rh PassesOwn.never (aX vO (bu cB rfl ml boot_len (aa (pv 2) ae)) ai (aZ _))
   (ag (ba (i:=3) jY.nd (qJ PySem.F.plainAttrs_list PySem.F.slot_list_pop PySem.F.type_list_pop yA (pv 2)))
   (ag (AV (i:=1) jY.nd rfl (Or.inl rfl) ai AF)
   (ao (cg (aX dA (ix0 bj (pv 3) ai) am (aZ _))
    (ag (cW (sQ PySem.F.plainAttrs_list PySem.F.slot_list_append PySem.F.type_list_append fL (pv 2) (aa (ix0 bj (pv 3) ai) ae)))
    (ao (cW (sQ PySem.F.plainAttrs_list PySem.F.slot_list_append PySem.F.type_list_append fL (pv 2) (aa (ix0 bj (pv 3) ai) ae))))) aU)))))
  (ao (aS (pv 1))))),?_⟩
 refine⟨_,rfl,(sz 1),fun l hl=>?_⟩
 have sL:∀o,aE H (upd H l o):=ad hl
 refine xJ (fun σ H2=>∃(vs:List V) (ks:List Kd) (n:Nat) (h:Option V),σ=[some x,some (.int n),some (.ref l),h]/\H2=upd H l (.lst vs)/\dI K H vs ks/\n+pi ks=k.words)
  (fun σ _=>match σ with|[_,some (.int n),_,_]=>k.words - n.toNat|_=>0) ⟨[x],[k],0,none,rfl,rfl,one hk,by rw [eV];omega⟩ ?_ ?_
 ·rintro σ H2 ⟨vs,ks,n,h,rfl,rfl,hv,hn⟩
  refine⟨_,rfl,l,_,rfl,.inl (SqL.of ac),_,_,rfl,rfl,_,rfl,?_⟩
  refine dL (fun c=>?_) (fun c=>?_)
  ·have c':(0:Int) < (vs.length:Int):=od0 c
   have hne:vs≠[]:=fun e=>by rw [e] at c';exact absurd c' (by decide)
   obtain⟨us,v,rfl⟩:∃us v,vs=us++[v]:=⟨_,_,(List.dropLast_concat_getLast hne).symm⟩
   obtain⟨ls,j,rfl,hu,hj⟩:=snoc hv
   rw [gG,eV] at hn
   have hjp:=dS j
   refine⟨_,rfl,?_,l,_,v,rfl,rfl,ac,rD,?_⟩
   ·exact .inl ⟨rfl,_,SqL.of ac⟩
   rw [fO,List.dropLast_concat]
   have hl2:=nJ ls
   have hul:=hu.length
   refine⟨_,rfl,_,_,rfl,rfl,?_⟩
   have e1:((n:Int)+1)=((n+1:Nat):Int):=by omega
   cases hj with
   |@num p m t =>
    refine⟨_,rfl,_,_,_,_,rfl,rfl,(sL _).tup t,(show atI [V.str "num",.int m] 0=some (.str "num") from rfl),rfl,_,rfl,dL (fun c=>nK0 c) (fun _=>?_)⟩
    have hw:(Kd.num m).words=1:=rfl
    rw [hw] at hn
    refine⟨⟨us,ls,n+1,_,by rw [<-e1]<;>rfl,rfl,hu,by omega⟩,?_⟩
    show k.words - ((n:Int)+1).toNat < k.words - (n:Int).toNat
    omega
   |@name p q t h =>
    refine⟨_,rfl,_,_,_,_,rfl,rfl,(sL _).tup h,(show atI [V.str "name",.str q,.str t] 0=some (.str "name") from rfl),rfl,_,rfl,dL (fun c=>nK0 c) (fun _=>?_)⟩
    have hw:(Kd.name q t).words=1:=rfl
    rw [hw] at hn
    refine⟨⟨us,ls,n+1,_,by rw [<-e1]<;>rfl,rfl,hu,by omega⟩,?_⟩
    show k.words - ((n:Int)+1).toNat < k.words - (n:Int).toNat
    omega
   |@pair p y z a b t ha hb =>
    have hw:(Kd.pair a b).words=1+a.words+b.words:=rfl
    rw [hw] at hn hjp
    have h1:=dS a
    have h2:=dS b
    refine⟨_,rfl,_,_,_,_,rfl,rfl,(sL _).tup t,(show atI [V.str "pair",y,z] 0=some (.str "pair") from rfl),rfl,_,rfl,dL (fun _=>?_) (fun c=>absurd (by decide +kernel) c)⟩
    refine⟨_,rfl,.inl ⟨rfl,_,SqL.of ac⟩,_,rfl,_,_,_,_,rfl,rfl,(sL _).tup t,(show atI [V.str "pair",y,z] 1=some y from rfl),l,_,_,rfl,rfl,ac,Nat.lt_of_lt_of_le (Nat.lt_succ_self _) (dX (by omega)),?_⟩
    rw [fO]
    refine⟨_,rfl,.inl ⟨rfl,_,SqL.of ac⟩,_,rfl,_,_,_,_,rfl,rfl,(sL _).tup t,(show atI [V.str "pair",y,z] 2=some z from rfl),l,_,_,rfl,rfl,ac,Nat.lt_of_lt_of_le (Nat.lt_succ_self _) (dX (by rw [la0];show us.length+1+1<=1000;omega)),?_⟩
    rw [fO]
    refine⟨⟨us++[y]++[z],ls++[a]++[b],n+1,_,by rw [<-e1]<;>rfl,rfl,(hu.append (one ha)).append (one hb),by rw [gG,gG,eV,eV];omega⟩,?_⟩
    show k.words - ((n:Int)+1).toNat < k.words - (n:Int).toNat
    omega
  ·have c':¬(0:Int) < (vs.length:Int):=of_decide_eq_false (Bool.eq_false_iff.mpr c)
   have hv0:vs=[]:=List.length_eq_zero_iff.mp (by omega)
   subst hv0
   cases hv
   have e:n=k.words:=hn
   subst e
   exact⟨_,rfl,q _ (sL _)⟩
 ·rintro σ H2 Q1 Q2 hq ⟨v,e1,a,xs,e2,hs,i,j,e3,e4,b,e5,h⟩
  exact⟨v,e1,a,xs,e2,hs,i,j,e3,e4,b,e5,hq _ _ h⟩
theorem uE{c:TT}{tb:TS}{D:fZ}{σ:St}{H:Hp}(W:Nat->St->Hp->Prop)(m:Nat)(h0:W m σ H)
  (hs:∀m σ H,W m σ H->c σ H fun b H1=>if b=true then tb { D with nx:=fun σ' H'=>∃m',m' < m/\W m' σ' H',ct:=fun σ' H'=>∃m',m' < m/\W m' σ' H',bk:=D.nx } σ H1 else D.nx σ H1)
  (mono:∀σ H Q Q',(∀b H1,Q b H1->Q' b H1)->c σ H Q->c σ H Q'):ut c tb D σ H:=by
 refine⟨W,⟨m,h0⟩,fun m σ H p=>mono σ H _ _ (fun b H1 q=>?_) (hs m σ H p)⟩
 cases b with
 |true=>exact⟨_,fun σ' H' z=>z,q⟩
 |false=>exact q
def Kd.names:Kd->List (Str × Str)
 |.num _=>[]
 |.name q t=>[(q,t)]
 |.pair a b=>Kd.names a++Kd.names b
def qP(acc:List (Str × Str))(n:Str × Str):List (Str × Str):=if n∈acc then acc else acc++[n]
def dH(acc l:List (Str × Str)):List (Str × Str):=l.foldl qP acc
def xi(ks:List Kd):List (Str × Str):=(ks.reverse.map Kd.names).flatten
theorem iH(ls:List Kd)(j:Kd):xi (ls++[j])=Kd.names j++xi ls:=by
 unfold xi
 rw [List.reverse_concat,List.map_cons,List.flatten_cons]
def fP(n:Str × Str):List Key:=[.inr n.1,.inr n.2]
theorem jA{m n:Str × Str}(h:fP m=fP n):m=n:=by
 cases m;cases n
 simp [fP] at h
 exact Prod.ext h.1 h.2
theorem xD{kvs:List (List Key × V)}{dn:List (Str × Str)}{n:Str × Str}{v:V}(h:kvs.map (·.1)=dn.map fP):(bc kvs (fP n) v).map (·.1)=(qP dn n).map fP:=by
 have e:(kvs.any fun kv=>decide (kv.1=fP n))=true↔n∈dn:=by
  rw [List.any_eq_true]
  constructor
  ·rintro⟨p,hp,q⟩
   have m:p.1∈kvs.map (·.1):=List.mem_map.mpr ⟨p,hp,rfl⟩
   rw [h] at m
   obtain⟨z,hz,ez⟩:=List.mem_map.mp m
   exact jA (ez.trans (od0 q))▸hz
  ·intro hn
   have m:fP n∈dn.map fP:=List.mem_map.mpr ⟨n,hn,rfl⟩
   rw [<-h] at m
   obtain⟨p,hp,ep⟩:=List.mem_map.mp m
   exact⟨p,hp,dt0 ep⟩
 unfold bc qP
 by_cases hn:n∈dn
 ·rw [if_pos (e.mpr hn),if_pos hn,<-h,List.map_map]
  refine List.map_congr_left fun p _=>?_
  show(if p.1=fP n then (p.1,v) else p).1=p.1
  split<;>rfl
 ·rw [if_neg (fun z=>hn (e.mp z)),if_neg hn,ma0,ma0,h]
  rfl
theorem qS(dn:List (Str × Str))(n:Str × Str):(qP dn n).length<=dn.length+1:=by
 unfold qP
 split
 ·omega
 ·rw [la0]
  exact Nat.le_refl _
theorem jj{H:Hp}:∀{kvs:List (List Key × V)} {dn:List (Str × Str)} {as:List Addr},kvs.map (·.1)=dn.map fP ->
  Paired (fun(p:List Key × V) (k:Addr)=>H k=some (.tup (p.1.map kV))) kvs as->Paired (fun(n:Str × Str) (a:Addr)=>H a=some (.tup [.str n.1,.str n.2])) dn as
 |[],[],_,_,.nil=>.nil
 |p::kvs,n::dn,_,h,.cons a b=>by
  have h1:p.1=fP n:=(List.cons.inj h).1
  rw [h1] at a
  exact .cons a (jj (List.cons.inj h).2 b)
theorem jL{H H':Hp}(e:aE H H'):∀{dn:List (Str × Str)} {as:List Addr},Paired (fun(n:Str × Str) (a:Addr)=>H a=some (.tup [.str n.1,.str n.2])) dn as->Paired (fun(n:Str × Str) (a:Addr)=>H' a=some (.tup [.str n.1,.str n.2])) dn as
 |_,_,.nil=>.nil
 |_,_,.cons a b=>.cons (e _ _ a) (jL e b)
theorem tK{H H2:Hp}{a:Addr}{o:HO}(e:aE H H2)(h:H a=none):aE H (upd H2 a o):=fun b u q=>by rw [aj (aH q h)];exact e b u q
def ui(K:W.Frag):Sp:=fun vs H Q _=>∃(x:V) (k:Kd),vs=[x]/\cc K H x k/\k.words<=900 /\
 ∀H' l (as:List Addr),aE H H'->H l=none->H' l=some (.lst (as.map V.ref))->Paired (fun(n:Str × Str) (a:Addr)=>H' a=some (.tup [.str n.1,.str n.2])) (dH [] (Kd.names k)) as->Q (.ref l) H'
theorem xn:bootBuiltins "list"=some (.type "list"):=by decide +kernel
theorem ng:aO ["kind","met","left","here"] ["kind"] (ah lU):=mkS
theorem wu{f:Addr}{fd:FuncData} (F:Fun K "names_in" "names_in" lU f fd) (ml:mg "len"=none) (mi:mg "list"=none):bq P w K mg base CX0 1 f fd ["kind"] (ui K):=by
 refine F.k0 ng fun cdv A outer s H vs Q E hr h=>?_
 obtain⟨x,k,rfl,hk,h9,q⟩:=h
 have hu:=Nat.lt_of_le_of_lt (Nat.add_le_add_left (show 1<=64 by decide) _) hr.units
 refine⟨_,ag (ba (i:=1) ng.nd jH)
  (ag (ba (i:=2) ng.nd (cU (aa (pv 0) ae)))
  (ag (rh PassesOwn.never (aX vO (bu cB rfl ml boot_len (aa (pv 2) ae)) ai (aZ _))
   (ag (ba (i:=3) ng.nd (qJ PySem.F.plainAttrs_list PySem.F.slot_list_pop PySem.F.type_list_pop yA (pv 2)))
   (ao (cg (aX dA (ix0 bj (pv 3) ai) am (aZ _))
    (ag (cW (sQ PySem.F.plainAttrs_list PySem.F.slot_list_append PySem.F.type_list_append fL (pv 2) (aa (ix0 bj (pv 3) ai) ae)))
    (ao (cW (sQ PySem.F.plainAttrs_list PySem.F.slot_list_append PySem.F.type_list_append fL (pv 2) (aa (ix0 bj (pv 3) ai) ae)))))
    (ao (cg (aX dA (ix0 bj (pv 3) ai) am (aZ _))
     (ao (bw hu (pv 1) (ap (aa (ix0 bj (pv 3) ai) (aa (ix0 bj (pv 3) ai) ae))) oP rfl)) aU))))))
  (ao (aS (bE (oG rfl) rfl mi xn (aa (pv 1) ae)))))),?_⟩
 refine fun d hd=>⟨_,rfl,(sz 1),fun l hl=>?_⟩
 have hdl:d≠l:=fun e=>by rw [e] at hl;rw [ac] at hl;cases hl
 have hl0:H l=none:=by rw [aj (Ne.symm hdl)] at hl;exact hl
 refine uE (fun m σ H2=>∃(vs:List V) (ks:List Kd) (kvs:List (List Key × V)) (dn:List (Str × Str)) (h:Option V),σ=[some x,some (.ref d),some (.ref l),h]/\aE H H2/\H2 l=some (.lst vs)/\H2 d=some (.dT kvs) /\
   dI K H vs ks/\kvs.map (·.1)=dn.map fP/\dH dn (xi ks)=dH [] (Kd.names k)/\dn.length+pi ks<=k.words/\m=pi ks) (pi [k])
  ⟨[x],[k],[],[],none,rfl,tK (ad hd _) hl0,ac,by rw [aj hdl];exact ac,one hk,rfl,by show dH [] (Kd.names k++[])=_;rw [List.append_nil],by rw [eV];show 0+_<=_;omega,rfl⟩ ?_ ?_
 ·rintro m σ H2 ⟨vs,ks,kvs,dn,h,rfl,sH,hL,hD,hv,hkeys,hf,hn,rfl⟩
  refine⟨_,rfl,l,_,rfl,.inl (SqL.of hL),_,_,rfl,rfl,_,rfl,?_⟩
  refine dL (fun c=>?_) (fun c=>?_)
  ·have c':(0:Int) < (vs.length:Int):=od0 c
   have hne:vs≠[]:=fun e=>by rw [e] at c';exact absurd c' (by decide)
   obtain⟨us,v,rfl⟩:∃us v,vs=us++[v]:=⟨_,_,(List.dropLast_concat_getLast hne).symm⟩
   obtain⟨ls,j,rfl,hus,hj⟩:=snoc hv
   rw [iH] at hf
   rw [gG,eV] at hn ⊢
   have hjp:=dS j
   refine⟨_,rfl,.inl ⟨rfl,_,SqL.of hL⟩,l,_,v,rfl,rfl,hL,rD,?_⟩
   rw [List.dropLast_concat]
   have hl2:=nJ ls
   have hul:=hus.length
   have sH1:aE H (upd H2 l (.lst us)):=tK sH hl0
   have hD1:upd H2 l (.lst us) d=some (.dT kvs):=by rw [aj hdl];exact hD
   cases hj with
   |@num p m t =>
    refine⟨_,rfl,_,_,_,_,rfl,rfl,sH1.tup t,(show atI [V.str "num",.int m] 0=some (.str "num") from rfl),rfl,_,rfl,dL (fun c=>nK0 c) (fun _=>?_)⟩
    refine⟨_,rfl,_,_,_,_,rfl,rfl,sH1.tup t,(show atI [V.str "num",.int m] 0=some (.str "num") from rfl),rfl,_,rfl,dL (fun c=>nK0 c) (fun _=>?_)⟩
    exact⟨pi ls,by omega,us,ls,kvs,dn,_,rfl,sH1,ac,hD1,hus,hkeys,hf,by omega,rfl⟩
   |@name p n t h =>
    refine⟨_,rfl,_,_,_,_,rfl,rfl,sH1.tup h,(show atI [V.str "name",.str n,.str t] 0=some (.str "name") from rfl),rfl,_,rfl,dL (fun c=>nK0 c) (fun _=>?_)⟩
    refine⟨_,rfl,_,_,_,_,rfl,rfl,sH1.tup h,(show atI [V.str "name",.str n,.str t] 0=some (.str "name") from rfl),rfl,_,rfl,dL (fun _=>?_) (fun c=>absurd (by decide +kernel) c)⟩
    refine⟨_,rfl,_,rfl,_,_,_,_,rfl,rfl,sH1.tup h,(show atI [V.str "name",.str n,.str t] 1=some (.str n) from rfl),_,rfl,_,_,_,_,rfl,rfl,sH1.tup h,(show atI [V.str "name",.str n,.str t] 2=some (.str t) from rfl),(sz 2),fun b hb=>?_⟩
    have hbd:d≠b:=aH hD1 hb
    have hbl:l≠b:=aH ac hb
    have hb0:H b=none:=by
     cases e:H b with
     |none=>rfl
     |some o=>rw [sH1 b o e] at hb;cases hb
    have hlen:kvs.length=dn.length:=by have:=congrArg List.length hkeys;rw [lm0,lm0] at this;exact this
    have hw:(Kd.name n t).words=1:=rfl
    rw [hw] at hn
    refine⟨d,_,rfl,gK.t (k:=fP (n,t)) (by rw [aj hbd];exact hD1) (by rw [ac]<;>rfl) (Nat.lt_of_lt_of_le (Nat.lt_succ_self _) (dX (by omega))),?_⟩
    have al:=qS dn (n,t)
    refine⟨pi ls,by omega,us,ls,_,qP dn (n,t),_,rfl,tK (tK sH1 hb0) hd,?_,ac,hus,xD hkeys,hf,by omega,rfl⟩
    rw [aj (Ne.symm hdl),aj hbl,ac]
   |@pair p y z a b t ha hb =>
    have hw:(Kd.pair a b).words=1+a.words+b.words:=rfl
    rw [hw] at hn hjp ⊢
    have h1:=dS a
    have h2:=dS b
    refine⟨_,rfl,_,_,_,_,rfl,rfl,sH1.tup t,(show atI [V.str "pair",y,z] 0=some (.str "pair") from rfl),rfl,_,rfl,dL (fun _=>?_) (fun c=>absurd (by decide +kernel) c)⟩
    refine⟨_,rfl,.inl ⟨rfl,_,SqL.of ac⟩,_,rfl,_,_,_,_,rfl,rfl,sH1.tup t,(show atI [V.str "pair",y,z] 2=some z from rfl),l,_,_,rfl,rfl,ac,Nat.lt_of_lt_of_le (Nat.lt_succ_self _) (dX (by omega)),?_⟩
    rw [fO]
    refine⟨_,rfl,.inl ⟨rfl,_,SqL.of ac⟩,_,rfl,_,_,_,_,rfl,rfl,(tK sH hl0).tup t,(show atI [V.str "pair",y,z] 1=some y from rfl),l,_,_,rfl,rfl,ac,Nat.lt_of_lt_of_le (Nat.lt_succ_self _) (dX (by rw [la0];show us.length+1+1<=1000;omega)),?_⟩
    rw [fO]
    have es:pi (ls++[b]++[a])=pi ls+b.words+a.words:=by rw [gG,gG,eV,eV]
    refine⟨pi (ls++[b]++[a]),by rw [es];omega,us++[z]++[y],ls++[b]++[a],kvs,dn,_,rfl,tK sH hl0,ac,by rw [aj hdl];exact hD,(hus.append (one hb)).append (one ha),hkeys,?_,by rw [es];omega,rfl⟩
    rw [iH,iH,<-List.append_assoc]
    exact hf
  ·have c':¬(0:Int) < (vs.length:Int):=of_decide_eq_false (Bool.eq_false_iff.mpr c)
   have hv0:vs=[]:=List.length_eq_zero_iff.mp (by omega)
   subst hv0
   cases hv
   refine⟨_,rfl,d,kvs,rfl,hD,fun as o ho pr=>?_⟩
   have ef:dn=dH [] (Kd.names k):=hf
   subst ef
   have so:aE H2 (upd H2 o (.lst (as.map V.ref))):=ad ho _
   have ho0:H o=none:=by
    cases e:H o with
    |none=>rfl
    |some u=>rw [sH o u e] at ho;cases ho
   refine q _ o as (fun b u e=>so b u (sH b u e)) ho0 ac (jL so (jj hkeys pr))
 ·rintro σ H2 Q1 Q2 hq ⟨v,e1,a,xs,e2,hs,i,j,e3,e4,b,e5,h⟩
  exact⟨v,e1,a,xs,e2,hs,i,j,e3,e4,b,e5,hq _ _ h⟩
theorem xX{ns:List Int}{i:Int}(h0:0<=i)(h1:i < ns.length):∃v:Int,atI (ns.map V.int) i=some (.int v):=by
 have hk:i.toNat < List.length ns:=by omega
 have e:i=((i.toNat:Nat):Int):=by omega
 have q:atI (ns.map V.int) ((i.toNat:Nat):Int)=some (.int ns[i.toNat]):=nW (by simp [hk])
 rw [<-e] at q
 exact⟨_,q⟩
theorem CI{α:Type}{xs:List α}{i:Int}(h0:0<=i)(h1:i < xs.length):∃v,atI xs i=some v:=by
 have hk:i.toNat < xs.length:=by omega
 have e:i=((i.toNat:Nat):Int):=by omega
 have q:atI xs ((i.toNat:Nat):Int)=some xs[i.toNat]:=nW (by simp)
 rw [<-e] at q
 exact⟨_,q⟩
theorem tW(z:Str):PyData.strOk z=true↔∀c∈z.cps.toList,c < 0x110000:=by
 unfold PyData.strOk
 rw [Array.all_eq_true_iff_forall_mem]
 simp
theorem zT{a b:Str}(ha:PyData.strOk a=true)(hb:PyData.strOk b=true):PyData.strOk (a++b)=true:=by
 rw [tW] at *
 intro c hc
 have hc':c∈(a.cps++b.cps).toList:=hc
 rw [Array.toList_append] at hc'
 rcases List.mem_append.mp hc' with h|h
 ·exact ha c h
 ·exact hb c h
theorem AY{z:Str}{i:Int}{g:Nat}(h:PyData.strOk z=true)(hm:atI z.cps.toList i=some g):PyData.strOk ⟨#[g]⟩=true:=by
 rw [tW] at *
 intro c hc
 have:c=g:=by simpa using hc
 subst this
 unfold atI at hm
 obtain⟨j,_,e⟩:=Option.bind_eq_some_iff.mp hm
 exact h c (List.mem_of_getElem? e)
def Kd.sok:Kd->Bool
 |.num _=>true
 |.name q t=>PyData.strOk q&&PyData.strOk t
 |.pair a b=>Kd.sok a&&Kd.sok b
theorem zA(a b:Str):(a++b).length=a.length+b.length:=by
 show Array.size (a.cps++b.cps)=_
 rw [Array.size_append]<;>rfl
theorem d8{H H1 H2:Hp}(a:aE H H1)(b:aE H1 H2):aE H H2:=fun x o e=>b x o (a x o e)
theorem aY{K:W.Frag}{H H':Hp}(e:∀a xs,SqT K H a xs->SqT K H' a xs):∀{x:V} {k:Kd},cc K H x k->cc K H' x k
 |_,_,.num h=>.num (e _ _ h)
 |_,_,.name h=>.name (e _ _ h)
 |_,_,.pair h a b=>.pair (e _ _ h) (aY e a) (aY e b)
theorem jC{K:W.Frag}{H H':Hp}(e:∀a xs,SqT K H a xs->SqT K H' a xs):∀{xs:List V} {ks:List Kd},dI K H xs ks->dI K H' xs ks
 |_,_,.nil=>.nil
 |_,_,.cons a b=>.cons (aY e a) (jC e b)
theorem jw{K:W.Frag}{H H':Hp}{a:Addr}{xs:List V}(e:aE H H')(h:SqL K H a xs):SqL K H' a xs:=by
 rcases h with (h|⟨o,h⟩)|h
 ·exact .inl (.inl (e _ _ h))
 ·exact .inl (.inr ⟨o,e _ _ h⟩)
 ·exact .inr h
def DQ(ks:List Kd):List Kd:=(ks.map Kd.leaves).flatten
theorem jD{X:Cx}:gM X (.builtin "isinstance") (fun xs H Q=>∃x T t b,xs=[x,.ty T]/\qy X.K H x t/\W.kitOne X.K t (.type T)=some b/\Q (.bl b) H):=by
 intro pins s σ H xs us Q I rv h
 obtain⟨x,T,t,b,rfl,ty,e,q⟩:=h
 obtain⟨u,v,rfl,r1,r2⟩:=rv.two
 cases r2
 exact ic I r1 ty e fun tk=>⟨.bl b,H,I.tok _,rfl,q⟩
theorem yd(K:W.Frag):W.kitOne K (.type "int") (.type "int")=some true:=rfl
theorem BB(K:W.Frag):W.kitOne K (.type "int") (.type "bool")=some false:=rfl
theorem mE:bootBuiltins "int"=some (.type "int"):=by decide +kernel
theorem dm:bootBuiltins "tuple"=some (.type "tuple"):=by decide +kernel
def Kd.put(G:Str × Str->Option Kd):Kd->Kd
 |.num n=>.num n
 |.name q t=>(G (q,t)).getD (.name q t)
 |.pair a b=>.pair (Kd.put G a) (Kd.put G b)
def Kd.depth:Kd->Nat
 |.num _=>1
 |.name _ _=>1
 |.pair a b=>1+max (Kd.depth a) (Kd.depth b)
theorem nY(k:Kd):1<=Kd.depth k:=by
 cases k with
 |num _=>exact Nat.le_refl _
 |name _ _=>exact Nat.le_refl _
 |pair a b=>exact Nat.le_add_right _ _
theorem dQ:∀k:Kd,Kd.depth k<=k.leaves.length
 |.num _=>Nat.le_refl _
 |.name _ _=>Nat.le_refl _
 |.pair a b=>by
  have h1:=dQ a
  have h2:=dQ b
  have h3:=gF a
  have h4:=gF b
  show 1+max (Kd.depth a) (Kd.depth b)<=(a.leaves++b.leaves).length
  rw [la0]
  omega
def kY(K:W.Frag)(H:Hp)(kvs:List (List Key × V))(G:Str × Str->Option Kd):Prop :=
 ∀n,(dg kvs (fP n)=none/\G n=none)\/∃v k,dg kvs (fP n)=some v/\G n=some k/\cc K H v k
theorem kY.same{K:W.Frag}{H H':Hp}{kvs:List (List Key × V)}{G:Str × Str->Option Kd}(e:aE H H')(h:kY K H kvs G):kY K H' kvs G:=fun n=>by
 rcases h n with h|⟨v,k,h1,h2,h3⟩
 ·exact .inl h
 ·exact .inr ⟨v,k,h1,h2,h3.same e⟩
def pH(K:W.Frag)(n:Nat):Sp:=fun vs H Q _=>∃(x:V) (g:Addr) (k:Kd) (kvs:List (List Key × V)) (G:Str × Str->Option Kd),vs=[x,.ref g]/\cc K H x k/\Kd.depth k<=n/\H g=some (.dT kvs)/\kY K H kvs G /\
 ∀H' v,aE H H'->cc K H' v (Kd.put G k)->Q v H'
theorem Co:aO ["kind","given"] ["kind","given"] (ah Aj):=mkS
theorem xY{f:Addr}{fd:FuncData} (F:Fun K "put" "put" Aj f fd) (bP:aV K fd ["kind","given"] []) (kP:W.keepIn K (.ref f)=true) (mP:mg "put"=some (.ref f)) :
  ∀n,bq P w K mg base CX0 n f fd ["kind","given"] (pH K n)
 |0=>⟨fun vs H Q E h=>by obtain⟨x,g,k,kvs,G,rfl,_⟩:=h;rfl,fun A outer s H args us vs Q E _ _ _ _ h=>by
   obtain⟨x,g,k,kvs,G,_,_,hd,_⟩:=h
   have:=nY k
   omega⟩
 |n+1=>by
  have IH:=xY F bP kP mP n
  refine F.k0 Co fun cdv A outer s H vs Q E hr h=>?_
  obtain⟨x,g,k,kvs,G,rfl,hk,hd,hg,hG,q⟩:=h
  have hu:=dY hr
  refine⟨_,ag (cg (aX dA (ix0 bj (pv 0) ai) am (aZ _))
    (ao (aS (ap (aa am (aa (aD IH hr rfl mP kP bP .nil bx (aa (ix0 bj (pv 0) ai) (aa (pv 1) ae)))
     (aa (aD IH hr rfl mP kP bP .nil bx (aa (ix0 bj (pv 0) ai) (aa (pv 1) ae))) ae)))))) aU)
   (ag (cg (aX dA (ix0 bj (pv 0) ai) am (aZ _))
    (ao (aS (wY hu (pv 1) (ap (aa (ix0 bj (pv 0) ai) (aa (ix0 bj (pv 0) ai) ae))) (pv 0) ⟨rfl,rfl,rfl,rfl⟩))) aU)
   (ao (aS (pv 0)))),?_⟩
  cases hk with
  |@num p m t =>
   refine⟨_,rfl,_,_,_,_,rfl,rfl,t,(show atI [V.str "num",.int m] 0=some (.str "num") from rfl),rfl,_,rfl,dL (fun c=>nK0 c) (fun _=>?_)⟩
   refine⟨_,rfl,_,_,_,_,rfl,rfl,t,(show atI [V.str "num",.int m] 0=some (.str "num") from rfl),rfl,_,rfl,dL (fun c=>nK0 c) (fun _=>?_)⟩
   exact⟨_,rfl,q _ _ sr0 (.num t)⟩
  |@name p a b t =>
   refine⟨_,rfl,_,_,_,_,rfl,rfl,t,(show atI [V.str "name",.str a,.str b] 0=some (.str "name") from rfl),rfl,_,rfl,dL (fun c=>nK0 c) (fun _=>?_)⟩
   refine⟨_,rfl,_,_,_,_,rfl,rfl,t,(show atI [V.str "name",.str a,.str b] 0=some (.str "name") from rfl),rfl,_,rfl,dL (fun _=>?_) (fun c=>absurd (by decide +kernel) c)⟩
   refine⟨_,rfl,g,rfl,.inr ⟨kvs,.inl hg⟩,_,rfl,_,_,_,_,rfl,rfl,t,(show atI [V.str "name",.str a,.str b] 1=some (.str a) from rfl),_,rfl,_,_,_,_,rfl,rfl,t,(show atI [V.str "name",.str a,.str b] 2=some (.str b) from rfl),(sz 2),fun y hy=>?_⟩
   have sy:=ad hy (.tup [.str a,.str b])
   refine⟨_,rfl,_,cT.t (k:=fP (a,b)) (sy _ _ hg) ac,q _ _ sy ?_⟩
   show cc K _ ((dg kvs (fP (a,b))).getD _) ((G (a,b)).getD (.name a b))
   rcases hG (a,b) with ⟨h1,h2⟩|⟨v,k',h1,h2,h3⟩
   ·rw [h1,h2]
    exact .name (sy.tup t)
   ·rw [h1,h2]
    exact h3.same sy
  |@pair p y z a b t ha hb =>
   have hd':1+max (Kd.depth a) (Kd.depth b)<=n+1:=hd
   refine⟨_,rfl,_,_,_,_,rfl,rfl,t,(show atI [V.str "pair",y,z] 0=some (.str "pair") from rfl),rfl,_,rfl,dL (fun _=>?_) (fun c=>absurd (by decide +kernel) c)⟩
   refine⟨_,rfl,_,_,_,_,rfl,rfl,t,(show atI [V.str "pair",y,z] 1=some y from rfl),_,rfl,y,g,a,kvs,G,rfl,ha,by omega,hg,hG,fun H1 v1 s1 k1=>?_⟩
   refine⟨_,rfl,_,_,_,_,rfl,rfl,s1.tup t,(show atI [V.str "pair",y,z] 2=some z from rfl),_,rfl,z,g,b,kvs,G,rfl,hb.same s1,by omega,s1 _ _ hg,hG.same s1,fun H2 v2 s2 k2=>?_⟩
   refine⟨(sz 3),fun c hc=>q _ _ (d8 (d8 s1 s2) (ad hc _)) ?_⟩
   exact .pair (SqT.of ac) ((k1.same s2).same (ad hc _)) (k2.same (ad hc _))
theorem og{i:Int}(h0:0<=i)(h1:i<=1000000):i.natAbs.log2 < 1920:=by
 by_cases hz:i.natAbs=0
 ·rw [hz];decide
 ·refine(Nat.log2_lt hz).mpr (Nat.lt_of_le_of_lt (m:=1000000) (by omega) ?_)
  exact Nat.lt_of_lt_of_le (show 1000000 < 2 ^ 20 by decide) (Nat.pow_le_pow_right (by decide) (by decide))
theorem o7{i:Int}(h0:0<=i)(h1:i<=1000000):(Str.ofString (toString i)).length<=100000:=by
 have:=PyProof.Rows.toString_length_le h0 (k:=7) (by decide) (Int.lt_of_le_of_lt h1 (by decide))
 omega
end
end K48
namespace K48
open PySem L2 Kk Builtin.Str
end K48
namespace K48
open PySem L2 Kk
def chF(i:Int):Nat:=(atI (Str.ofString "abcdefghijklmnopqrstuvwxyz").cps.toList i).getD 97
theorem A4(i:Int):PyData.strOk ⟨#[chF i]⟩=true:=by
 unfold chF
 cases h:atI (Str.ofString "abcdefghijklmnopqrstuvwxyz").cps.toList i with
 |none=>decide +kernel
 |some g=>exact AY (by decide +kernel) h
theorem ug{z:Str}{ws:List Str}:inV (V.str z) (ws.map V.str)=true↔z∈ws:=by
 unfold inV
 rw [List.any_eq_true]
 constructor
 ·rintro⟨y,hy,e⟩
  obtain⟨u,hu,rfl⟩:=List.mem_map.mp hy
  have e':(u==z)=true:=e
  rw [<-eq_of_beq e']
  exact hu
 ·intro h
  exact⟨V.str z,List.mem_map.mpr ⟨z,h,rfl⟩,(show(z==z)=true from beq_self_eq_true z)⟩
section
variable{P:Program}{w:World}{K:W.Frag}{mg:Str->Option Value}{base:Heap}
def okW(z:Str):Prop:=PyData.strOk z=true/\z.length<=9000
abbrev rT:Stmt:=kc (top 15) 0
theorem kf':¬(("kinds":Str)="funs"):=by decide +kernel
def Kd.ok:Kd->Prop
 |.num _=>True
 |.name q t=>okW q/\okW t
 |.pair a b=>Kd.ok a/\Kd.ok b
theorem gw:∀{k:Kd},Kd.ok k->∀n∈Kd.names k,okW n.1/\okW n.2
 |.num _,_,n,hn=>nomatch hn
 |.name q t,h,n,hn=>by
  obtain rfl:=List.mem_singleton.mp hn
  exact h
 |.pair a b,h,n,hn=>by
  rcases List.mem_append.mp hn with z|z
  ·exact gw h.1 n z
  ·exact gw h.2 n z
theorem d6:bootBuiltins "dict"=some (.type "dict"):=by decide +kernel
theorem Bx:aO ["self","kinds","funs"] ["self","kinds","funs"] (ah rT):=mkS
def smW(z:Str):Prop:=PyData.strOk z=true/\z.length<=14
theorem vB(ws:List Str):(ws.map V.str).all mX=true:=by
 induction ws with
 |nil=>rfl
 |cons z ws ih =>
  rw [List.map_cons,List.all_cons,ih]
  rfl
def hV(K:W.Frag)(n:Nat):Sp:=fun vs H Q _=>∃(p g ta:Addr) (x:V) (xs:List V) (ks:List Kd) (k:Kd) (kvs:List (List Key × V)) (G:Str × Str->Option Kd),vs=[.ref p,.ref g]/\SqT K H p [.ref ta,x]/\SqT K H ta xs/\dI K H xs ks/\cc K H x k /\
 (∀k'∈ks,Kd.depth k'<=n)/\Kd.depth k<=n/\ks.length<=100/\H g=some (.dT kvs)/\kY K H kvs G /\
 ∀H' (p' ta':Addr) (xs':List V) (x':V),aE H H'->H' p'=some (.tup [.ref ta',x'])->H' ta'=some (.tup xs')->dI K H' xs' (ks.map (Kd.put G))->cc K H' x' (Kd.put G k)->Q (.ref p') H'
theorem v5:aO ["fun","given"] ["fun","given"] (ah iN):=mkS
theorem qi{H:Hp}:∀{xs:List V} {ks:List Kd},dI K H xs ks->∀{i:Nat} {x:V},xs[i]?=some x->∃k,ks[i]?=some k/\cc K H x k
 |_,_,.nil,i,x,h=>by simp at h
 |_,_,.cons a t,0,x,h=>by
  simp at h
  subst h
  exact⟨_,rfl,a⟩
 |_,_,.cons a t,i+1,x,h=>by
  simp at h
  obtain⟨k,hk,r⟩:=qi t h
  exact⟨k,by simpa using hk,r⟩
theorem uT{n:Nat}{f fp:Addr}{fd fdp:FuncData} (F:Fun K "put_in_fun" "put_in_fun" iN f fd) (GP:bq P w K mg base CX0 n fp fdp ["kind","given"] (pH K n)) (bP:aV K fdp ["kind","given"] []) (kP:W.keepIn K (.ref fp)=true) (mP:mg "put"=some (.ref fp)) (mt:mg "tuple"=none) :
  bq P w K mg base CX0 (n+1) f fd ["fun","given"] (hV K n):=by
 refine F.k0 v5 fun cdv A outer s H vs Q E hr h=>?_
 obtain⟨p,g,ta,x,xs,ks,k,kvs,G,rfl,hp,hta,hks,hk,hdk,hd,hl,hg,hG,q⟩:=h
 refine⟨_,ao (aS (ap (aa (bE dj (by rfl) mt dm (aa (nM (own:=["kind"]) (caps:=["given"]) (κ:=[1]) rfl ⟨rfl,by decide +kernel,by decide +kernel,rfl,rfl,(fun y hy=>by obtain rfl:=List.mem_singleton.mp hy;rfl),(fun y hy=>by obtain rfl:=List.mem_singleton.mp hy;exact⟨.inl rfl,rfl,.inl rfl⟩)⟩ rfl
  (lW (ix0 bj (pv 0) ai)) (fun _ _ _ _=>pg0 ["kind","given"]) (fun _ _ _ _=>aD GP hr rfl mP kP bP .nil bx (aa (pv 0) (aa (pv 1) ae)))) ae))
  (aa (aD GP hr (by rfl) mP kP bP .nil bx (aa (ix0 bj (pv 0) ai) (aa (pv 1) ae))) ae)))),?_⟩
 have hlx:=hks.length
 refine⟨_,rfl,p,_,_,_,rfl,rfl,hp,(show atI [V.ref ta,x] 0=some (.ref ta) from rfl),ta,rfl,⟨_,hta⟩,?_⟩
 refine iM (xs:=xs) (fun i ys H3=>aE H H3/\dI K H3 ys ((ks.take i).map (Kd.put G))/\ys.length=i) ⟨sr0,.nil,rfl⟩ (dX (by omega)) ?_ ?_ ?_ ?_ ?_ ?_
 ·rintro i ys H3 ⟨_,_,h⟩
  exact Nat.le_of_eq h
 ·rintro i u ys H3 hu ⟨s3,_⟩
  exact⟨_,_,s3.tup hta,hu⟩
 ·rintro i ys u H3 H' hn ⟨s3,_⟩ hy
  exact⟨hy.1,hy.2 _ (s3.tup hta)⟩
 ·rintro ys H3 ⟨s3,_⟩
  exact⟨_,s3.tup hta,Nat.le_refl _⟩
 ·rintro i u ys H3 N hN hu ⟨s3,hys,hz⟩
  obtain⟨k1,hk1,hku⟩:=qi hks hu
  have hm:k1∈ks:=List.mem_of_getElem? hk1
  refine⟨rfl,gj ⟨_,rfl,_,rfl,u,g,k1,kvs,G,rfl,hku.same s3,hdk k1 hm,s3 _ _ hg,hG.same s3,fun H4 v s4 hv=>hN _ _ ⟨s3.trans s4,?_,?_⟩⟩⟩
  ·have e:(ks.take (i+1)).map (Kd.put G)=(ks.take i).map (Kd.put G)++[Kd.put G k1]:=by
    rw [List.take_add_one,hk1]
    simp
   rw [e]
   exact(hys.same s4).append (one hv)
  ·rw [la0,hz]
   rfl
 ·rintro ys H3 D ⟨s3,hys,hz⟩ hD
  have eA:ks.take xs.length=ks:=by rw [hlx];exact List.take_length
  rw [eA] at hys
  have e1:=ad hD (.lst ys)
  refine⟨D,ys,rfl,.inl ⟨SqL.of ac,fun ta' hta'=>?_⟩⟩
  have e2:=ad hta' (.tup ys)
  have s5:=s3.trans (e1.trans e2)
  refine⟨_,rfl,p,_,_,_,rfl,rfl,s5.tup hp,(show atI [V.ref ta,x] 1=some x from rfl),_,rfl,x,g,k,kvs,G,rfl,hk.same s5,hd,s5 _ _ hg,hG.same s5,fun H6 x' s6 hx'=>?_⟩
  refine⟨(sz 2),fun p' hp'=>?_⟩
  have e7:=ad hp' (.tup [.ref ta',x'])
  exact q _ p' ta' ys x' (s5.trans (s6.trans e7)) ac (e7 _ _ (s6 _ _ ac)) (hys.same (e1.trans (e2.trans (s6.trans e7)))) (hx'.same e7)
def iD(CF:Addr):Sp:=fun vs H Q _=>∃(p dx a b:Addr) (kvs fvs:List (Key × V)),vs=[.ref p,.ref a,.ref b]/\H p=some (.ins CF dx [])/\H a=some (.dK kvs)/\H b=some (.dK fvs) /\
 ∀(d e:Addr) (fs:List (Str × V)) (H':Hp),H d=none->H e=none->d≠e->H' p=some (.ins CF dx fs)->fs.lookup ("kinds":Str)=some (.ref d)->fs.lookup ("funs":Str)=some (.ref e)->fs.lookup ("hidden":Str)=none->fs.lookup ("put":Str)=none->H' d=some (.dK kvs)->H' e=some (.dK fvs)->(∀c o,H c=some o->c≠p->H' c=some o)->Q .non H'
theorem xj{f CF:Addr}{fd:FuncData} (F:Fun K "__init__" "Face.__init__" rT f fd) (cF:Cls K CF) (nK:bt K CF "kinds") (nF:bt K CF "funs") (md:mg "dict"=none):bq P w K mg base CX0 1 f fd ["self","kinds","funs"] (iD CF):=by
 refine F.k0 Bx fun cdv A outer s H vs Q E hr h=>?_
 obtain⟨p,dx,a,b,kvs,fvs,rfl,hp,ha,hb,q⟩:=h
 refine⟨_,ag (qX (pv 0) (bE eW rfl md d6 (aa (pv 1) ae)) rfl) (ao (qX (pv 0) (bE eW rfl md d6 (aa (pv 2) ae)) rfl)),?_⟩
 refine⟨_,rfl,a,kvs,rfl,ha,fun d hd=>?_⟩
 have npd:p≠d:=aH hp hd
 refine⟨_,rfl,p,CF,dx,[],rfl,(by rw [aj npd];exact hp),cF,nK,(by show 0 < 1000;decide),?_⟩
 have hb1:upd (upd H d (.dK kvs)) p (.ins CF dx (jn "kinds" (.ref d) [])) b=some (.dK fvs):=by
  rw [aj (Ab hb hp (by intro z;cases z)),aj (aH hb hd)]
  exact hb
 refine⟨_,rfl,b,fvs,rfl,hb1,fun e he=>?_⟩
 have npe:p≠e:=fun z=>by rw [<-z,ac] at he;cases he
 have nde:d≠e:=fun z=>by rw [<-z,aj npd.symm,ac] at he;cases he
 have he0:H e=none:=by
  rw [aj npe.symm,aj nde.symm] at he
  exact he
 refine⟨_,rfl,p,CF,dx,_,rfl,(by rw [aj npe];exact ac),cF,nF,(by show 1 < 1000;decide),?_⟩
 refine q d e _ _ hd he0 nde ac (by rw [aQ,if_neg kf',aQ,if_pos rfl]) (by rw [aQ,if_pos rfl]) (by rw [aQ,if_neg (by decide +kernel),aQ,if_neg (by decide +kernel)];rfl) (by rw [aQ,if_neg (by decide +kernel),aQ,if_neg (by decide +kernel)];rfl) ?_ ?_ fun c o ec hc=>?_
 ·rw [aj npd.symm,aj nde,aj npd.symm,ac]
 ·rw [aj npe.symm,ac]
 ·have hce:c≠e:=fun z=>by
   rw [z] at ec hc
   rw [he0] at ec
   cases ec
  rw [aj hc,aj hce,aj hc,aj (aH ec hd)]
  exact ec
def dM{α:Type}(R:V->α->Prop)(kvs:List (Key × V))(m:List (Str × α)):Prop:=Paired (fun(p:Key × V) (q:Str × α)=>p.1=.inr q.1/\R p.2 q.2) kvs m
theorem dM.snoc{α:Type}{R:V->α->Prop}{kvs:List (Key × V)}{m:List (Str × α)}{z:Str}{v:V}{x:α}(h:dM R kvs m)(hv:R v x):dM R (kvs++[(.inr z,v)]) (m++[(z,x)]):=by
 unfold dM at h ⊢
 induction h with
 |nil=>exact .cons ⟨rfl,hv⟩ .nil
 |cons a _ ih=>exact .cons a ih
theorem dM.imp{α:Type}{R S:V->α->Prop}{kvs:List (Key × V)}{m:List (Str × α)}(f:∀v x,R v x->S v x)(h:dM R kvs m):dM S kvs m:=Paired.mapP h fun _ _ ⟨e,r⟩=>⟨e,f _ _ r⟩
theorem dM.keys{α:Type}{R:V->α->Prop}{kvs:List (Key × V)}{m:List (Str × α)}(h:dM R kvs m):kvs.map (·.1)=m.map fun q=>(Sum.inr q.1:Key):=by
 unfold dM at h
 induction h with
 |nil=>rfl
 |cons a _ ih=>rw [List.map_cons,List.map_cons,ih,a.1]
theorem xt{kvs:List (Key × V)}{k:Key}(h:k∉kvs.map (·.1)):dg kvs k=none:=by
 cases e:dg kvs k with
 |none=>rfl
 |some v =>
  exfalso
  apply h
  unfold dg at e
  obtain⟨p,hp,_⟩:=Option.map_eq_some_iff.mp e
  have h1:=List.mem_of_find?_eq_some hp
  have h2:=List.find?_some hp
  have h3:p.1=k:=by simpa using h2
  rw [<-h3]
  exact List.mem_map_of_mem h1
theorem dM.put{α:Type}{R:V->α->Prop}{kvs:List (Key × V)}{m:List (Str × α)}{z:Str}{v:V}{x:α}(h:dM R kvs m)(hz:z∉m.map (·.1))(hv:R v x):dM R (bc kvs (.inr z) v) (m++[(z,x)]):=by
 rw [jJ v (xt ?_)]
 ·exact h.snoc hv
 ·rw [h.keys]
  intro hm
  obtain⟨q,hq,e⟩:=List.mem_map.mp hm
  exact hz (by rw [<-Sum.inr.inj e];exact List.mem_map_of_mem hq)
def db(K:W.Frag)(H:Hp)(v:V)(f:List Kd × Kd):Prop:=∃(p ta:Addr) (x:V) (xs:List V),v=.ref p/\SqT K H p [.ref ta,x]/\SqT K H ta xs/\dI K H xs f.1/\cc K H x f.2
theorem db.keep{K:W.Frag}{H H':Hp}{v:V}{f:List Kd × Kd}(e:∀a xs,SqT K H a xs->SqT K H' a xs)(h:db K H v f):db K H' v f:=by
 obtain⟨p,ta,x,xs,h1,h2,h3,h4,h5⟩:=h
 exact⟨p,ta,x,xs,h1,e _ _ h2,e _ _ h3,jC e h4,aY e h5⟩
theorem eS{H:Hp}{l a:Addr}{kvs:List (Key × V)}{xs:List V}{o:HO}(h:H l=some (.dK kvs))(t:SqT K H a xs):SqT K (upd H l o) a xs:=by
 rcases t with (t|⟨o',t⟩)|t
 ·exact .inl (.inl (by rw [aj (fun e=>by rw [e,h] at t;cases t)];exact t))
 ·exact .inl (.inr ⟨o',by rw [aj (fun e=>by rw [e,h] at t;cases t)];exact t⟩)
 ·exact .inr t
def dZ(K:W.Frag)(H:Hp)(CF fa:Addr)(m1:List (Str × Kd))(m2:List (Str × (List Kd × Kd))):Prop :=
 ∃(dx d1 d2:Addr) (fs:List (Str × V)) (kv1 kv2:List (Key × V)),H fa=some (.ins CF dx fs)/\fs.lookup ("kinds":Str)=some (.ref d1)/\fs.lookup ("funs":Str)=some (.ref d2)/\H d1=some (.dK kv1)/\H d2=some (.dK kv2)/\dM (cc K H) kv1 m1/\dM (db K H) kv2 m2/\fs.lookup ("hidden":Str)=none/\fs.lookup ("put":Str)=none
def Kd.dat:Kd->PyData
 |.num n=>.tuple [.str "num",.int n]
 |.name q t=>.tuple [.str "name",.str q,.str t]
 |.pair a b=>.tuple [.str "pair",Kd.dat a,Kd.dat b]
theorem dq{K:W.Frag}{H:Hp}:∀{x:V} {k:Kd},cc K H x k->Dat K H x (Kd.dat k)
 |_,_,.num t=>.tup t (.cons (.str _) (.cons (.int _) .nil))
 |_,_,.name t=>.tup t (.cons (.str _) (.cons (.str _) (.cons (.str _) .nil)))
 |_,_,.pair t a b=>.tup t (.cons (.str _) (.cons (dq a) (.cons (dq b) .nil)))
theorem eL(xs ys:List PyData):PyData.eqv (.tuple xs) (.tuple ys)=PyData.eqvAll xs ys:=by simp [PyData.eqv]
theorem bD(x y:PyData)(xs ys:List PyData):PyData.eqvAll (x::xs) (y::ys)=(PyData.eqv x y&&PyData.eqvAll xs ys):=by simp [PyData.eqvAll]
theorem jv:PyData.eqvAll [] []=true:=by simp [PyData.eqvAll]
theorem eI(x y:Str):PyData.eqv (.str x) (.str y)=decide (x=y):=by
 rw [show PyData.eqv (.str x) (.str y)=(x==y) by simp [PyData.eqv]]
 rfl
theorem zX(x y:Int):PyData.eqv (.int x) (.int y)=decide (x=y):=by
 rw [show PyData.eqv (.int x) (.int y)=(x==y) by simp [PyData.eqv]]
 rfl
theorem gZ(a:Kd):∀b:Kd,PyData.eqv (Kd.dat a) (Kd.dat b)=decide (a=b):=by
 induction a with
 |num n =>
  intro b
  cases b with
  |num m =>
   show PyData.eqv (.tuple [.str "num",.int n]) (.tuple [.str "num",.int m])=_
   rw [eL,bD,bD,jv,eI,zX]
   simp
  |name q t =>
   show PyData.eqv (.tuple (.str "num"::_)) (.tuple (.str "name"::_))=_
   rw [eL,bD,eI,df0 (by decide +kernel),df0 (by intro e;cases e)]
   rfl
  |pair c d =>
   show PyData.eqv (.tuple (.str "num"::_)) (.tuple (.str "pair"::_))=_
   rw [eL,bD,eI,df0 (by decide +kernel),df0 (by intro e;cases e)]
   rfl
 |name q t =>
  intro b
  cases b with
  |num m =>
   show PyData.eqv (.tuple (.str "name"::_)) (.tuple (.str "num"::_))=_
   rw [eL,bD,eI,df0 (by decide +kernel),df0 (by intro e;cases e)]
   rfl
  |name q' t' =>
   show PyData.eqv (.tuple [.str "name",.str q,.str t]) (.tuple [.str "name",.str q',.str t'])=_
   rw [eL,bD,bD,bD,jv,eI,eI,eI]
   simp
  |pair c d =>
   show PyData.eqv (.tuple (.str "name"::_)) (.tuple (.str "pair"::_))=_
   rw [eL,bD,eI,df0 (by decide +kernel),df0 (by intro e;cases e)]
   rfl
 |pair a1 a2 h1 h2 =>
  intro b
  cases b with
  |num m =>
   show PyData.eqv (.tuple (.str "pair"::_)) (.tuple (.str "num"::_))=_
   rw [eL,bD,eI,df0 (by decide +kernel),df0 (by intro e;cases e)]
   rfl
  |name q' t' =>
   show PyData.eqv (.tuple (.str "pair"::_)) (.tuple (.str "name"::_))=_
   rw [eL,bD,eI,df0 (by decide +kernel),df0 (by intro e;cases e)]
   rfl
  |pair c d =>
   show PyData.eqv (.tuple [.str "pair",Kd.dat a1,Kd.dat a2]) (.tuple [.str "pair",Kd.dat c,Kd.dat d])=_
   rw [eL,bD,bD,bD,jv,eI,h1,h2]
   simp
theorem oV:∀{k:Kd},Kd.ok k->PyData.canLay0 (Kd.dat k)=true
 |.num n,_=>by
  have h:PyData.strOk "num"=true:=by decide +kernel
  simp [Kd.dat,PyData.canLay0,PyData.canLayAll0,h]
 |.name q t,⟨h1,h2⟩=>by
  have h:PyData.strOk "name"=true:=by decide +kernel
  simp [Kd.dat,PyData.canLay0,PyData.canLayAll0,h,h1.1,h2.1]
 |.pair a b,⟨h1,h2⟩=>by
  have h:PyData.strOk "pair"=true:=by decide +kernel
  simp [Kd.dat,PyData.canLay0,PyData.canLayAll0,h,oV h1,oV h2]
theorem kE:∀k:Kd,PyData.depth (Kd.dat k)<=Kd.depth k
 |.num n=>by simp [Kd.dat,PyData.depth,PyData.depthAll,Kd.depth]
 |.name q t=>by simp [Kd.dat,PyData.depth,PyData.depthAll,Kd.depth]
 |.pair a b=>by
  have h1:=kE a
  have h2:=kE b
  simp only [Kd.dat,PyData.depth,PyData.depthAll,Kd.depth]
  omega
theorem fH{k:Kd}(h:Kd.ok k)(hd:Kd.depth k<=60):SeqAt.shaped (Kd.dat k)=true:=by
 have h1:=oV h
 have h2:=kE k
 unfold SeqAt.shaped
 rw [h1,dt0 (show PyData.depth (Kd.dat k)<=64 by omega)]
 rfl
theorem de:∀k:Kd,Kd.depth k<=k.words
 |.num n=>Nat.le_refl _
 |.name q t=>Nat.le_refl _
 |.pair a b=>by
  have h1:=de a
  have h2:=de b
  simp only [Kd.depth,Kd.words]
  omega
abbrev iJ:Stmt:=kc (top 15) 2
def fM(z:Str):Kd:=.name "" z
def AR(K:W.Frag):Sp:=fun vs H Q _=>∃z:Str,vs=[.str z]/\∀H' x,aE H H'->cc K H' x (fM z)->Q x H'
def uR(q:Str × Kd):Bool:=decide (q.2=fM q.1)
def eM(m:List (Str × Kd)):List Str:=(m.filter uR).map (·.1)
def ib(K:W.Frag)(CF:Addr):Sp:=fun vs H Q _=>∃(fa:Addr) (m1:List (Str × Kd)) (m2:List (Str × (List Kd × Kd))),vs=[.ref fa]/\dZ K H CF fa m1 m2/\m1.length<=100/\(∀q∈m1,okW q.1/\Kd.ok q.2/\Kd.depth q.2<=60) /\
 ∀H' (l:Addr),aE H H'->H l=none->H' l=some (.lst ((eM m1).map V.str))->Q (.ref l) H'
theorem xg:okW "":=⟨by decide +kernel,by decide +kernel⟩
theorem Cq:aO ["word"] ["word"] (ah Al):=mkS
theorem BO{f:Addr}{fd:FuncData} (F:Fun K "own_name" "own_name" Al f fd):bq P w K mg base CX0 1 f fd ["word"] (AR K):=by
 refine F.k0 Cq fun cdv A outer s H vs Q E hr h=>?_
 obtain⟨z,rfl,q⟩:=h
 refine⟨_,ao (aS (ap (aa am (aa am (aa (pv 0) ae))))),?_⟩
 exact⟨_,rfl,(sz 3),fun p hp=>q _ _ (ad hp _) (.name (SqT.of ac))⟩
theorem wb:aO ["self"] ["self"] (ah iJ):=mkS
theorem ua{f fo CF:Addr}{fd fdo:FuncData} (F:Fun K "hidden" "Face.hidden" iJ f fd) (GO:bq P w K mg base CX0 1 fo fdo ["word"] (AR K)) (bO:aV K fdo ["word"] []) (kO:W.keepIn K (.ref fo)=true) (mO:mg "own_name"=some (.ref fo)) (cF:Cls K CF) (nK:bt K CF "kinds") :
  bq P w K mg base CX0 2 f fd ["self"] (ib K CF):=by
 refine F.k0 wb fun cdv A outer s H vs Q E hr h=>?_
 obtain⟨fa,m1,m2,rfl,hF,h100,hok,q⟩:=h
 have hu:=hr.units
 refine⟨_,ao (aS (zk (sG (own:=["word","kind"]) (caps:=[]) (κ:=[]) rfl ⟨rfl,by decide +kernel,by decide +kernel,rfl,rfl,(fun y hy=>nomatch hy),(fun y hy=>nomatch hy)⟩ rfl
  (eR (bY (pv 0) rfl)) (fun _ _ _ _=>yw (K:=K) (i:=0) (j:=1) rfl rfl (show(["word","kind"]:List Str).Nodup from by decide +kernel) rfl (Or.inl rfl) (Or.inr rfl) rfl (Or.inl rfl) (Or.inr rfl))
  (fun _ _ _ _=>aX (eqK (K:=K) rfl hu) (pv 1) (aD GO hr rfl mO kO bO .nil bx (aa (pv 0) ae)) (aZ _)) (fun _ _ _ _=>pv 0)))),?_⟩
 obtain⟨dx,d1,d2,fs,kv1,kv2,hfa,hl1,hl2,hd1,hd2,hk1,hk2,_,_⟩:=hF
 have hlen:kv1.length=m1.length:=Paired.length hk1
 refine⟨_,rfl,fa,CF,dx,fs,_,rfl,hfa,cF,nK,hl1,d1,kv1,rfl,hd1,fun o=>?_⟩
 refine sX (fun i ys H3=>(∀b u,H b=some u->b≠d1->H3 b=some u)/\H3 d1=some (.frz o (.dK kv1))/\ys=(eM (m1.take i)).map V.str/\ys.length<=i/\(∀a xs,SqT K H a xs->SqT K H3 a xs)) ?_ (dX (by omega)) ?_ ?_ ?_ ?_
 ·exact⟨fun b u hb nb=>by rw [aj nb];exact hb,ac,rfl,Nat.le_refl _,fun a xs h=>eS hd1 h⟩
 ·rintro i ys H3 ⟨_,_,_,h,_⟩
  exact h
 ·rintro i ys H3 ⟨_,h,_⟩
  exact h
 ·rintro i p a ys H3 N hN hp ha ⟨old,hd3,rfl,hys,keep⟩
  obtain⟨⟨z,k⟩,hq,ez,hkz⟩:=bv hk1 hp
  obtain⟨pk,pw⟩:=p
  replace ez:pk=.inr z:=ez
  replace hkz:cc K H pw k:=hkz
  subst ez
  obtain⟨oz,ok,od⟩:=hok (z,k) (List.mem_of_getElem? hq)
  have ea:=ad ha (.tup [kV (.inr z),pw])
  refine⟨a,_,rfl,SqT.of ac,rfl,_,_,rfl,_,_,rfl,rfl,rfl,?_⟩
  have keepA:∀b xs,SqT K H b xs->SqT K (upd H3 a (.tup [kV (.inr z),pw])) b xs:=fun b xs h=>ea.tup (keep b xs h)
  refine⟨_,rfl,_,rfl,z,rfl,fun H4 x4 s4 hx4=>?_⟩
  have hkz4:=(aY keepA hkz).same s4
  refine⟨_,_,dq hkz4,dq hx4,fH ok od,fH ⟨xg,oz⟩ (by show 1<=60;decide),_,rfl,?_⟩
  have eT:eM (m1.take (i+1))=eM (m1.take i)++(if uR (z,k)=true then [z] else []):=by
   rw [List.take_add_one,hq]
   unfold eM
   rw [List.filter_append,ma0]
   congr 1
   show((([(z,k)]:List (Str × Kd)).filter uR).map (·.1))=_
   rw [List.filter_cons]
   by_cases c:uR (z,k)=true
   ·rw [if_pos c,if_pos c];rfl
   ·rw [if_neg c,if_neg c];rfl
  have old4:∀b u,H b=some u->b≠d1->H4 b=some u:=fun b u hb nb=>s4 _ _ (ea _ _ (old b u hb nb))
  have eb:PyData.eqv (Kd.dat k) (Kd.dat (fM z))=uR (z,k):=gZ _ _
  refine dL (fun c=>?_) (fun c=>?_)
  ·have c':uR (z,k)=true:=by rw [<-eb];exact c
   rw [if_pos c'] at eT
   refine⟨_,rfl,hN _ _ ⟨old4,s4 _ _ (ea _ _ hd3),?_,?_,fun b xs t=>s4.tup (keepA b xs t)⟩⟩
   ·rw [eT,ma0];rfl
   ·rw [la0];show _+1<=_;omega
  ·have c':¬uR (z,k)=true:=by rw [<-eb];exact c
   rw [if_neg c',List.append_nil] at eT
   refine hN _ _ ⟨old4,s4 _ _ (ea _ _ hd3),by rw [eT],by omega,fun b xs t=>s4.tup (keepA b xs t)⟩
 ·rintro ys H3 D ⟨old,hd3,rfl,hys,keep⟩ hD
  have nD:d1≠D:=aH hd3 hD
  have nofz:∀o' u',H d1≠some (.frz o' u'):=fun o' u' e=>by
   rw [e] at hd1
   cases hd1
  refine⟨d1,o,.dK kv1,(by rw [aj nD];exact hd3),nofz,?_⟩
  have hs:aE H (upd (upd H3 D (.lst ((eM (m1.take kv1.length)).map V.str))) d1 (.dK kv1)):=fun b u hb=>by
   by_cases e:b=d1
   ·rw [e] at hb ⊢
    rw [hd1] at hb
    cases hb
    exact ac
   ·rw [aj e]
    have h3:=old b u hb e
    rw [aj (aH h3 hD)]
    exact h3
  have hD0:H D=none:=by
   cases e:H D with
   |none=>rfl
   |some u=>rw [old D u e (Ne.symm nD)] at hD;cases hD
  refine q _ D hs hD0 ?_
  rw [aj (Ne.symm nD),ac,hlen,List.take_length]
def tM(K:W.Frag)(H:Hp)(x:V):Prop:=∃d n,Dat K H x d/\Shw d n 60/\n<=1900000
theorem tM.same{K:W.Frag}{H H':Hp}{x:V}(s:aE H H')(h:tM K H x):tM K H' x:=let ⟨d,n,a,b⟩:=h;⟨d,n,a.same s,b⟩
def Kd.sm:Kd->Prop
 |.num n=>0<=n/\n<=10 ^ 18
 |.name q t=>(PyData.strOk q=true/\q.length<=14)/\PyData.strOk t=true/\t.length<=14
 |.pair a b=>Kd.sm a/\Kd.sm b
theorem nq:∀{k:Kd},Kd.sm k->Kd.ok k
 |.num _,_=>True.intro
 |.name _ _,⟨⟨a,b⟩,c,d⟩=>⟨⟨a,by omega⟩,c,by omega⟩
 |.pair _ _,⟨a,b⟩=>⟨nq a,nq b⟩
theorem oO:∀{k:Kd},Kd.sm k->Shw (Kd.dat k) (400*k.words) (Kd.depth k)
 |.num n,h=>by
  have h1:=cK (iE (y:="num") (by decide +kernel) 0) (cK (zM h.1 h.2 0) (iy 0))
  have e:(Str.ofString "num").length=3:=by decide +kernel
  refine(jX h1).le ?_ (by show 0+1<=1;decide)
  rw [e]
  show _<=400*1
  omega
 |.name q t,⟨⟨a,b⟩,c,d⟩=>by
  have h1:=cK (iE (y:="name") (by decide +kernel) 0) (cK (iE a 0) (cK (iE c 0) (iy 0)))
  have e:(Str.ofString "name").length=4:=by decide +kernel
  refine(jX h1).le ?_ (by show 0+1<=1;decide)
  rw [e]
  show _<=400*1
  omega
 |.pair k l,⟨a,b⟩=>by
  have m1:Kd.depth k<=max (Kd.depth k) (Kd.depth l):=Nat.le_max_left _ _
  have m2:Kd.depth l<=max (Kd.depth k) (Kd.depth l):=Nat.le_max_right _ _
  have h1:=cK (iE (y:="pair") (by decide +kernel) (max (Kd.depth k) (Kd.depth l))) (cK ((oO a).le nr0 m1) (cK ((oO b).le nr0 m2) (iy _)))
  have e:(Str.ofString "pair").length=4:=by decide +kernel
  refine(jX h1).le ?_ ?_
  ·rw [e]
   show _<=400*(1+k.words+l.words)
   omega
  ·simp only [Kd.depth]
   omega
theorem pE{K:W.Frag}{H:Hp}{x:V}{k:Kd}(h:cc K H x k)(s:Kd.sm k)(hw:k.words<=4000)(hd:Kd.depth k<=60):tM K H x:=⟨_,_,dq h,(oO s).le nr0 hd,by omega⟩
theorem gC{K:W.Frag}{H:Hp}{z:Str}(h:PyData.strOk z=true)(hl:z.length<=1000):tM K H (.str z):=⟨_,_,.str z,iE h 60,by omega⟩
theorem rJ{K:W.Frag}{H:Hp}:tM K H .non:=⟨_,_,.non,za 60,by omega⟩
def sV(ks:List Kd):Nat:=(ks.map Kd.words).sum
def Fn.dat(f:List Kd × Kd):PyData:=.tuple [.tuple (f.1.map Kd.dat),Kd.dat f.2]
theorem tR{K:W.Frag}{H:Hp}:∀{xs:List V} {ks:List Kd},dI K H xs ks->kZ K H xs (ks.map Kd.dat)
 |_,_,.nil=>.nil
 |_,_,.cons h r=>.cons (dq h) (tR r)
theorem ji{K:W.Frag}{H:Hp}{v:V}{f:List Kd × Kd}(h:db K H v f):Dat K H v (Fn.dat f):=by
 obtain⟨p,ta,x,xs,rfl,h1,h2,h3,h4⟩:=h
 exact .tup h1 (.cons (.tup h2 (tR h3)) (.cons (dq h4) .nil))
theorem rm:∀{ks:List Kd} {m:Nat},(∀k∈ks,Kd.sm k/\Kd.depth k<=m)->Bb (ks.map Kd.dat) (402*sV ks) m
 |[],m,_=>iy m
 |k::ks,m,h=>by
  obtain⟨h1,h2⟩:=h k (.head _)
  have r:=rm (ks:=ks) fun j hj=>h j (.tail _ hj)
  have c:=cK ((oO h1).le nr0 h2) r
  have p:=dS k
  refine⟨c.sh,c.nd,c.dp,Nat.le_trans c.ln ?_⟩
  show _<=402*(k.words+(ks.map Kd.words).sum)
  have:sV ks=(ks.map Kd.words).sum:=rfl
  omega
theorem uO{K:W.Frag}{H:Hp}{v:V}{f:List Kd × Kd}(h:db K H v f)(s:∀k∈f.2::f.1,Kd.sm k/\Kd.depth k<=50)(hw:sV (f.2::f.1)<=4600):tM K H v:=by
 obtain⟨s1,s2⟩:=s f.2 (.head _)
 have h1:=jX (rm (ks:=f.1) (m:=50) fun k hk=>s k (.tail _ hk))
 have h2:=jX (cK h1 (cK ((oO s1).le nr0 (Nat.le_trans s2 (by decide:50<=51))) (iy 51)))
 refine⟨_,_,ji h,h2.le nr0 (by decide),?_⟩
 have e:sV (f.2::f.1)=f.2.words+sV f.1:=rfl
 omega
abbrev lL:Stmt:=kc (top 6) 0
def nfs(p n u f:V):List (Str × V):=jn "found" f (jn "due" u (jn "name" n [("part",p)]))
theorem xO(p n u f:V):(nfs p n u f).lookup (Str.ofString "part")=some p:=by
 unfold nfs
 rw [aQ,if_neg (by decide +kernel),aQ,if_neg (by decide +kernel),aQ,if_neg (by decide +kernel)]
 rfl
theorem wC(p n u f:V):(nfs p n u f).lookup (Str.ofString "name")=some n:=by
 unfold nfs
 rw [aQ,if_neg (by decide +kernel),aQ,if_neg (by decide +kernel),aQ,if_pos rfl]
theorem yF(p n u f:V):(nfs p n u f).lookup (Str.ofString "due")=some u:=by
 unfold nfs
 rw [aQ,if_neg (by decide +kernel),aQ,if_pos rfl]
theorem vW(p n u f:V):(nfs p n u f).lookup (Str.ofString "found")=some f:=by
 unfold nfs
 rw [aQ,if_pos rfl]
def jZ(K:W.Frag)(C:Addr):Sp:=fun vs H Q _=>∃(e:Addr) (p n u f:V),vs=[.ref e,p,n,u,f]/\H e=some (.ext (cH e C none))/\tM K H p/\tM K H n/\tM K H u/\tM K H f /\
 ∀dx H',dx≠e->(∀b o,b≠e->H b=some o->H' b=some o)->H' e=some (.ext (cH e C (some dx)))->H' dx=some (.ext (rZ dx (nfs p n u f)))->Q .non H'
theorem zN:aO ["self","part","name","due","found"] ["self","part","name","due","found"] (ah lL):=mkS
theorem v9{f C R:Addr}{fd:FuncData} (F:Fun K "__init__" "NoFit.__init__" lL f fd) (mR:mg "Refused"=some (.ref R)) (bR:zy K R) (ex:gn K C kX "ValueError.__new__"=true) (st:jM K C)
  (t1:W.takerIn K C "part"=some none) (t2:W.takerIn K C "name"=some none) (t3:W.takerIn K C "due"=some none) (t4:W.takerIn K C "found"=some none) :
  bq P w K mg base CX0 1 f fd ["self","part","name","due","found"] (jZ K C):=by
 refine F.k0 zN fun cdv A outer s H vs Q E hr h=>?_
 obtain⟨e,p,n,u,f,rfl,he,⟨dp,np,hp,sp,lp⟩,⟨dn,nn,hn,sn,ln⟩,⟨du,nu,hu,su,lu⟩,⟨df,nf,hf,sf,lf⟩,q⟩:=h
 refine⟨_,ag (cW (pT bR rfl mR (aa (pv 0) (aa (gb (bh am (bh (qG hr (pv 1)) (bh am (bh (qG hr (pv 2)) (bh am (bh (qG hr (pv 3)) (bh am (bh (qG hr (pv 4)) jh)))))))) (by decide)) ae)) rfl))
  (ag (wt (pv 0) (pv 1) rfl) (ag (nt (pv 0) (pv 2) rfl) (ag (nt (pv 0) (pv 3) rfl) (ao (nt (pv 0) (pv 4) rfl))))),?_⟩
 refine⟨_,rfl,_,rfl,by decide +kernel,_,rfl,dp,np,hp,sp,by omega,fun z1 l1=>⟨z1,rfl,l1,?_⟩⟩
 refine⟨_,rfl,by decide +kernel,_,rfl,dn,nn,hn,sn,by omega,fun z2 l2=>⟨z2,rfl,l2,?_⟩⟩
 refine⟨_,rfl,by decide +kernel,_,rfl,du,nu,hu,su,by omega,fun z3 l3=>⟨z3,rfl,l3,?_⟩⟩
 refine⟨_,rfl,by decide +kernel,_,rfl,df,nf,hf,sf,by omega,fun z4 l4=>⟨z4,rfl,l4,fun z lz=>?_⟩⟩
 refine⟨e,C,none,_,rfl,ex,he,(sz 1),?_⟩
 refine⟨_,rfl,_,rfl,e,C,rfl,st,t1,he,fun dx hdx=>?_⟩
 have ne:e≠dx:=aH he hdx
 have e1:∀o,upd (upd H e (.ext (cH e C (some dx)))) dx o e=some (.ext (cH e C (some dx))):=fun o=>by rw [aj ne,ac]
 refine⟨_,rfl,_,rfl,e,C,dx,_,rfl,st,t2,e1 _,ac,(by show 1 < 1000;decide),?_⟩
 rw [fO]
 refine⟨_,rfl,_,rfl,e,C,dx,_,rfl,st,t3,e1 _,ac,?_,?_⟩
 ·have:=eJ "name" n [(("part":Str),p)]
  simp only [lc0,List.length_nil] at this
  omega
 rw [fO]
 refine⟨_,rfl,_,rfl,e,C,dx,_,rfl,st,t4,e1 _,ac,?_,?_⟩
 ·have h1:=eJ "name" n [(("part":Str),p)]
  have h2:=eJ "due" u (jn "name" n [(("part":Str),p)])
  simp only [lc0,List.length_nil] at h1
  omega
 rw [fO]
 refine q dx _ ne.symm (fun b o hb hbo=>?_) (e1 _) ac
 rw [aj (aH hbo hdx),aj hb]
 exact hbo
def look{α:Type}(m:List (Str × α))(z:Str):Option α:=(m.find? fun q=>decide (q.1=z)).map (·.2)
theorem cJ{α:Type}{R:V->α->Prop}:∀{kvs:List (Key × V)} {m:List (Str × α)},dM R kvs m->∀z:Str,(dg kvs (.inr z)=none/\look m z=none)\/∃v x,dg kvs (.inr z)=some v/\look m z=some x/\R v x
 |_,_,.nil,z=>.inl ⟨rfl,rfl⟩
 |p::ps,q::qs,.cons ⟨h1,h2⟩ r,z=>by
  unfold look dg
  rw [List.find?_cons,List.find?_cons]
  by_cases e:q.1=z
  ·rw [dt0 (show p.1=Sum.inr z by rw [h1,e]),dt0 e]
   exact .inr ⟨_,_,rfl,rfl,h2⟩
  ·rw [df0 (show ¬p.1=Sum.inr z by rw [h1];exact fun z'=>e (Sum.inr.inj z')),df0 e]
   exact cJ r z
def ig(m1:List (Str × Kd))(hs:List Str):Str × Str->Option Kd:=fun n=>if n.1=""/\n.2∈hs then look m1 n.2 else none
def cV(G:Str × Str->Option Kd)(f:List Kd × Kd):List Kd × Kd:=(f.1.map (Kd.put G),Kd.put G f.2)
abbrev Gf(m1 n1:List (Str × Kd)):Str × Str->Option Kd:=ig m1 (eM n1)
def no1(m1 n1:List (Str × Kd)):Option (Str × PyData × PyData):=(n1.find? fun q=>(look m1 q.1).isNone).map fun q=>(q.1,Kd.dat q.2,.none)
def no3(G:Str × Str->Option Kd)(m1 n1:List (Str × Kd)):Option (Str × PyData × PyData):=(n1.find? fun q=>decide (look m1 q.1≠some (Kd.put G q.2))).map fun q=>(q.1,Kd.dat (Kd.put G q.2),((look m1 q.1).map Kd.dat).getD .none)
def no4(G:Str × Str->Option Kd)(m2 n2:List (Str × (List Kd × Kd))):Option (Str × PyData × PyData):=(n2.find? fun q=>decide (look m2 q.1≠some (cV G q.2))).map fun q=>(q.1,Fn.dat (cV G q.2),((look m2 q.1).map Fn.dat).getD .none)
def sM(m1 n1:List (Str × Kd))(m2 n2:List (Str × (List Kd × Kd))):Option (Str × PyData × PyData):=(no1 m1 n1).or ((no3 (Gf m1 n1) m1 n1).or (no4 (Gf m1 n1) m2 n2))
def XOk(K:W.Frag)(H:Hp)(d:Option Addr)(part:V)(r:Str × PyData × PyData):Prop:=∃dx u f,d=some dx/\H dx=some (.ext (rZ dx (nfs part (.str r.1) u f)))/\Dat K H u r.2.1/\Dat K H f r.2.2
theorem hU{α:Type}{p:α->Bool}:∀{l:List α} {i:Nat} {x:α},l[i]?=some x->p x=true->(∀y∈l.take i,p y=false)->l.find? p=some x
 |a::l,0,x,h,hp,_=>by
  cases h
  rw [List.find?_cons,hp]
 |a::l,i+1,x,h,hp,hn=>by
  rw [List.find?_cons,hn a (by rw [List.take_succ_cons];exact .head _)]
  exact hU (l:=l) (i:=i) h hp fun y hy=>hn y (by rw [List.take_succ_cons];exact .tail _ hy)
theorem qf{α:Type}{p:α->Bool}{l:List α}(h:∀y∈l,p y=false):l.find? p=none:=List.find?_eq_none.mpr fun x hx=>by rw [h x hx];decide
structure jt(K:W.Frag)(H:Hp)(CF fa:Addr)(dx d1 d2:Addr)(fs:List (Str × V))(kv1 kv2:List (Key × V))(m1:List (Str × Kd))(m2:List (Str × (List Kd × Kd))):Prop where
 obj:H fa=some (.ins CF dx fs)
 fk:fs.lookup ("kinds":Str)=some (.ref d1)
 ff:fs.lookup ("funs":Str)=some (.ref d2)
 h1:H d1=some (.dK kv1)
 h2:H d2=some (.dK kv2)
 p1:dM (cc K H) kv1 m1
 p2:dM (db K H) kv2 m2
 nh:fs.lookup ("hidden":Str)=none
 np:fs.lookup ("put":Str)=none
theorem jt.same{K:W.Frag}{H H':Hp}{CF fa dx d1 d2:Addr}{fs:List (Str × V)}{kv1 kv2:List (Key × V)}{m1:List (Str × Kd)}{m2:List (Str × (List Kd × Kd))}(F:jt K H CF fa dx d1 d2 fs kv1 kv2 m1 m2)(s:aE H H'):jt K H' CF fa dx d1 d2 fs kv1 kv2 m1 m2 :=
 ⟨s _ _ F.obj,F.fk,F.ff,s _ _ F.h1,s _ _ F.h2,F.p1.imp fun _ _ h=>h.same s,F.p2.imp fun _ _ h=>h.keep fun _ _ t=>s.tup t,F.nh,F.np⟩
structure pj(K:W.Frag)(H H3:Hp)(d:Addr)(o:Obj)(kv:List (Key × V)):Prop where
 old:∀b u,H b=some u->b≠d->H3 b=some u
 fz:H3 d=some (.frz o (.dK kv))
 tup:∀a xs,SqT K H a xs->SqT K H3 a xs
theorem pj.start{K:W.Frag}{H:Hp}{d:Addr}{o:Obj}{kv:List (Key × V)}(h:H d=some (.dK kv)):pj K H (upd H d (.frz o (.dK kv))) d o kv:=⟨fun b u hb nb=>by rw [aj nb];exact hb,ac,fun a xs t=>eS h t⟩
theorem pj.go{K:W.Frag}{H H3 H4:Hp}{d:Addr}{o:Obj}{kv:List (Key × V)}(w:pj K H H3 d o kv)(s:aE H3 H4):pj K H H4 d o kv:=⟨fun b u hb nb=>s _ _ (w.old b u hb nb),s _ _ w.fz,fun a xs t=>s.tup (w.tup a xs t)⟩
theorem pj.rd{K:W.Frag}{H H3:Hp}{d:Addr}{o:Obj}{kv:List (Key × V)}(w:pj K H H3 d o kv)(h:H d=some (.dK kv)){a:Addr}{kw:List (Key × V)}(ha:H a=some (.dK kw)):Rd H3 a (.dK kw):=by
 by_cases e:a=d
 ·subst e
  rw [h] at ha
  cases ha
  exact .inr ⟨o,w.fz⟩
 ·exact .inl (w.old a _ ha e)
theorem pj.thaw{K:W.Frag}{H H3:Hp}{d:Addr}{o:Obj}{kv:List (Key × V)}(w:pj K H H3 d o kv)(h:H d=some (.dK kv)):aE H (upd H3 d (.dK kv)):=fun b u hb=>by
 by_cases e:b=d
 ·rw [e] at hb ⊢
  rw [h] at hb
  cases hb
  exact ac
 ·rw [aj e]
  exact w.old b u hb e
theorem zp{K:W.Frag}{H H3 H5:Hp}{d e dx:Addr}{o:Obj}{kv:List (Key × V)}{part u f:V}{r:Str × PyData × PyData}(w:pj K H H3 d o kv)(h:H d=some (.dK kv))(he:H3 e=none)(ne:dx≠e)
  (k5:∀b o',b≠e->upd H3 e (.ext (cH e CN none)) b=some o'->H5 b=some o') (hx:H5 dx=some (.ext (rZ dx (nfs part (.str r.1) u f)))) (hu:∀H',(∀a xs,SqT K H3 a xs->SqT K H' a xs)->Dat K H' u r.2.1) (hf:∀H',(∀a xs,SqT K H3 a xs->SqT K H' a xs)->Dat K H' f r.2.2) :
  H5 d=some (.frz o (.dK kv))/\aE H (cut (upd H5 d (.dK kv)) e)/\XOk K (cut (upd H5 d (.dK kv)) e) (some dx) part r:=by
 have old:∀b o',H3 b=some o'->H5 b=some o':=fun b o' hb=>k5 b o' (fun z=>by rw [z,he] at hb;cases hb) (by rw [aj (fun z=>by rw [z,he] at hb;cases hb)];exact hb)
 have hd5:=old _ _ w.fz
 have hxd:dx≠d:=fun z=>by rw [z,hd5] at hx;cases hx
 have s5:aE H3 H5:=fun b o' hb=>old b o' hb
 have w5:=w.go s5
 have sm:aE H (cut (upd H5 d (.dK kv)) e):=fun b o' hb=>by
  have nb:b≠e:=fun z=>by
   subst z
   by_cases q:b=d
   ·rw [q,w.fz] at he
    cases he
   ·rw [w.old b o' hb q] at he
    cases he
  rw [gO nb]
  exact w5.thaw h b o' hb
 have kt:∀a xs,SqT K H3 a xs->SqT K (cut (upd H5 d (.dK kv)) e) a xs:=fun a xs t=>by
  rcases t with (t|⟨o',t⟩)|t
  ·refine .inl (.inl ?_)
   rw [gO (fun z=>by rw [z,he] at t;cases t),aj (fun z=>by rw [z,w.fz] at t;cases t)]
   exact old _ _ t
  ·refine .inl (.inr ⟨o',?_⟩)
   rw [gO (fun z=>by rw [z,he] at t;cases t),aj (fun z=>by rw [z,w.fz] at t;cases t)]
   exact old _ _ t
  ·exact .inr t
 refine⟨hd5,sm,dx,u,f,rfl,?_,hu _ kt,hf _ kt⟩
 rw [gO ne,aj hxd]
 exact hx
theorem rU{H H1:Hp}{d:Addr}{kv:List (Key × V)}(s:aE H H1)(h:H1 d=some (.dK kv)):∀o' u',H d≠some (.frz o' u'):=fun o' u' e=>by
 rw [s _ _ e] at h
 cases h
def SmK(q:Str × Kd):Prop:=(PyData.strOk q.1=true/\q.1.length<=14)/\Kd.sm q.2/\q.2.words<=60/\Kd.depth q.2<=20
def SmF(q:Str × (List Kd × Kd)):Prop:=(PyData.strOk q.1=true/\q.1.length<=14)/\q.2.1.length<=4/\∀k∈q.2.2::q.2.1,Kd.sm k/\k.words<=60/\Kd.depth k<=20
abbrev ftN:List Str:=["had","wanted","part","word","kind","given","due","fun","found"]
abbrev ftP:List Str:=["had","wanted","part"]
abbrev nfP:List Str:=["self","part","name","due","found"]
theorem cY:aO ftN ftP (ah cb):=mkS
theorem ft1{f CF CN fi:Addr}{fdi:FuncData}(MN:MkX K CN fi)(GI:bq P w K mg base CX0 1 fi fdi nfP (jZ K CN))(bI:aV K fdi nfP []) (mN:mg "NoFit"=some (.ref CN)) (cF:Cls K CF) (nK:bt K CF "kinds")
  {cdv:Value} {A:Around} {outer:List Env} {s:Shared} {H:Hp} {E:XK} (hr:cG 2 (A.deeper (PyProof.Rows.envOfC "fitted" (ah cb) s.heap.objs.size f cdv))) :
  ∃t,PS (ee (CX1 P w) P w K mg base ftN "fitted" (ah cb) f cdv A outer s H E) ((ar cb).getD 0 (.Pass ⟨0,0,0,0⟩)) t /\
   ∀(D:fZ) (H1:Hp) (ha wa dxh dh1 dh2 dxw dw1 dw2:Addr) (fsh fsw:List (Str × V)) (kh1 kh2 kw1 kw2:List (Key × V)) (m1 n1:List (Str × Kd)) (m2 n2:List (Str × (List Kd × Kd))) (pz:Str),aE H H1 ->
    jt K H1 CF ha dxh dh1 dh2 fsh kh1 kh2 m1 m2->jt K H1 CF wa dxw dw1 dw2 fsw kw1 kw2 n1 n2->n1.length<=100->(∀q∈n1,SmK q)->PyData.strOk pz=true/\pz.length<=14 ->
    (∀r,no1 m1 n1=some r->∀d H',aE H1 H'->XOk K H' d (.str pz) r->E (.ref CN) d H') ->
    (no1 m1 n1=none->∀(H4:Hp) (y3 y4:Option V),aE H1 H4->D.nx [some (.ref ha),some (.ref wa),some (.str pz),y3,y4,none,none,none,none] H4) ->
    t D [some (.ref ha),some (.ref wa),some (.str pz),none,none,none,none,none,none] H1:=by
 have hu:=dY hr
 refine⟨_,fR (di PassesOwn.leaving rfl (eR (bY (pv 1) rfl)) (dE rfl (aL (aP (i:=3) cY.nd rfl (Or.inl rfl)) (aL (aP (i:=4) cY.nd rfl (Or.inl rfl)) cC)))
   (ao (cg (lO (ik hu (pv 3) (bY (pv 0) rfl)) (by with_unfolding_all rfl)) (ao (j7 MN GI hr bI rfl mN (aa (pv 2) (aa (pv 3) (aa (pv 4) (aa cL ae)))))) aU))),?_⟩
 intro D H1 ha wa dxh dh1 dh2 dxw dw1 dw2 fsh fsw kh1 kh2 kw1 kw2 m1 n1 m2 n2 pz s1 FH FW h100 hsm hpt qE q
 have hlen:kw1.length=n1.length:=Paired.length FW.p1
 refine⟨_,rfl,wa,CF,dxw,fsw,_,rfl,FW.obj,cF,nK,FW.fk,dw1,kw1,rfl,FW.h1,fun o=>?_⟩
 refine eE (fun i σ H3=>∃(y3 y4:Option V),σ=[some (.ref ha),some (.ref wa),some (.str pz),y3,y4,none,none,none,none]/\pj K H1 H3 dw1 o kw1/\∀y∈n1.take i,(look m1 y.1).isNone=false) ?_ ?_ ?_ ?_
 ·exact⟨none,none,rfl,pj.start FW.h1,fun y hy=>by cases hy⟩
 ·rintro i σ H3 _ ⟨_,_,_,h,_⟩
  exact h.fz
 ·rintro i p a σ H3 hp hna ⟨y3,y4,rfl,wk,hall⟩
  obtain⟨⟨z,k⟩,hq,ez,hkz⟩:=bv FW.p1 hp
  obtain⟨pk,pw⟩:=p
  replace ez:pk=.inr z:=ez
  replace hkz:cc K H1 pw k:=hkz
  subst ez
  obtain⟨⟨z1,z2⟩,k1,k2,k3⟩:(PyData.strOk z=true/\z.length<=14)/\Kd.sm k/\k.words<=60/\Kd.depth k<=20:=hsm (z,k) (List.mem_of_getElem? hq)
  have ea:=ad hna (.tup [kV (.inr z),pw])
  have wk4:=wk.go ea
  refine⟨a,_,rfl,SqT.of ac,rfl,_,_,rfl,_,_,rfl,rfl,?_⟩
  have haw:ha≠dw1:=fun e=>by
   have:=FH.obj
   rw [e,FW.h1] at this
   cases this
  refine⟨_,rfl,_,rfl,ha,CF,dxh,fsh,_,rfl,wk4.old _ _ FH.obj haw,cF,nK,FH.fk,dh1,_,rfl,.inl ⟨kh1,.inr z,wk4.rd FW.h1 FH.h1,rfl,rfl⟩,_,rfl,dL (fun c=>?_) (fun c=>?_)⟩
  ·have c':(!(dg kh1 (.inr z)).isSome)=true:=c
   have hno:look m1 z=none:=by
    rcases cJ FH.p1 z with ⟨_,h2⟩|⟨v,x,h1,_⟩
    ·exact h2
    ·rw [h1] at c'
     cases c'
   have hR:no1 m1 n1=some (z,Kd.dat k,.none):=by
    unfold no1
    rw [hU hq (by show(look m1 z).isNone=true;rw [hno];rfl) hall]
    rfl
   refine⟨_,rfl,_,rfl,_,rfl,(sz 4),fun e he=>?_⟩
   have kz4:cc K (upd H3 a (.tup [kV (.inr z),pw])) pw k:=aY wk4.tup hkz
   have se:=ad he (.ext (cH e CN none))
   refine⟨e,.str pz,.str z,pw,.non,rfl,ac,gC hpt.1 (by omega),gC z1 (by omega),(pE kz4 k1 (by omega) (by omega)).same se,rJ,fun dx H5 ne k5 he5 hx5=>⟨rfl,some dx,dw1,o,.dK kw1,he5,?_⟩⟩
   obtain⟨g1,g2,g3⟩:=zp (CN:=CN) (r:=(z,Kd.dat k,.none)) wk4 FW.h1 he ne k5 hx5 (fun H' kt=>dq (aY kt kz4)) (fun H' _=>.non)
   exact⟨g1,rU s1 FW.h1,qE _ hR _ _ g2 g3⟩
  ·refine⟨_,_,rfl,wk4,fun y hy=>?_⟩
   rw [List.take_add_one,hq] at hy
   rcases List.mem_append.mp hy with h|h
   ·exact hall y h
   ·obtain rfl:y=(z,k):=by simpa using h
    have c':¬(!(dg kh1 (.inr z)).isSome)=true:=c
    rcases cJ FH.p1 z with ⟨h1,_⟩|⟨v,x,_,h2,_⟩
    ·rw [h1] at c'
     exact absurd rfl c'
    ·show(look m1 z).isNone=false
     rw [h2]
     rfl
 ·rintro σ H3 ⟨y3,y4,rfl,wk,hall⟩
  refine⟨dw1,o,.dK kw1,wk.fz,rU s1 FW.h1,q ?_ _ y3 y4 (wk.thaw FW.h1)⟩
  rw [hlen,List.take_length] at hall
  unfold no1
  rw [qf hall]
  rfl
theorem oY{G:Str × Str->Option Kd}(hG:∀n k,G n=some k->Kd.sm k):∀{k:Kd},Kd.sm k->Kd.sm (Kd.put G k)
 |.num _,h=>h
 |.name q t,h=>by
  show Kd.sm ((G (q,t)).getD (.name q t))
  cases e:G (q,t) with
  |none=>exact h
  |some k=>exact hG _ _ e
 |.pair a b,⟨h1,h2⟩=>⟨oY hG h1,oY hG h2⟩
theorem kY.keep{K:W.Frag}{H H':Hp}{kvs:List (List Key × V)}{G:Str × Str->Option Kd}(e:∀a xs,SqT K H a xs->SqT K H' a xs)(h:kY K H kvs G):kY K H' kvs G:=fun nn=>by
 rcases h nn with h|⟨v,k',h1,h2,h3⟩
 ·exact .inl h
 ·exact .inr ⟨v,k',h1,h2,aY e h3⟩
theorem ft3{n:Nat}{f fp CF CN fi:Addr}{fdp fdi:FuncData} (GP:bq P w K mg base CX0 n fp fdp ["kind","given"] (pH K n)) (bP:aV K fdp ["kind","given"] []) (kP:W.keepIn K (.ref fp)=true) (mP:mg "put"=some (.ref fp))
  (MN:MkX K CN fi) (GI:bq P w K mg base CX0 1 fi fdi nfP (jZ K CN)) (bI:aV K fdi nfP []) (mN:mg "NoFit"=some (.ref CN)) (cF:Cls K CF) (nK:bt K CF "kinds")
  {cdv:Value} {A:Around} {outer:List Env} {s:Shared} {H:Hp} {E:XK} (hr:cG (n+2) (A.deeper (PyProof.Rows.envOfC "fitted" (ah cb) s.heap.objs.size f cdv))) :
  ∃t,PS (ee (CX1 P w) P w K mg base ftN "fitted" (ah cb) f cdv A outer s H E) ((ar cb).getD 3 (.Pass ⟨0,0,0,0⟩)) t /\
   ∀(D:fZ) (H1:Hp) (ha wa dxh dh1 dh2 dxw dw1 dw2 g:Addr) (fsh fsw:List (Str × V)) (kh1 kh2 kw1 kw2:List (Key × V)) (m1 n1:List (Str × Kd)) (m2 n2:List (Str × (List Kd × Kd))) (kvs:List (List Key × V)) (G:Str × Str->Option Kd) (pz:Str) (x3 x4:Option V),aE H H1 ->
    jt K H1 CF ha dxh dh1 dh2 fsh kh1 kh2 m1 m2->jt K H1 CF wa dxw dw1 dw2 fsw kw1 kw2 n1 n2->n1.length<=100->(∀q∈m1,SmK q)->(∀q∈n1,SmK q)->(∀q∈n1,Kd.depth q.2<=n)->(∀n k,G n=some k->Kd.sm k)->(∀q∈n1,(Kd.put G q.2).words<=4000/\Kd.depth (Kd.put G q.2)<=50)->PyData.strOk pz=true/\pz.length<=14 ->
    H1 g=some (.dT kvs)->kY K H1 kvs G->no1 m1 n1=none ->
    (∀r,no3 G m1 n1=some r->∀d H',aE H1 H'->XOk K H' d (.str pz) r->E (.ref CN) d H') ->
    (no3 G m1 n1=none->∀(H4:Hp) (y3 y4 y6:Option V),aE H1 H4->D.nx [some (.ref ha),some (.ref wa),some (.str pz),y3,y4,some (.ref g),y6,none,none] H4) ->
    t D [some (.ref ha),some (.ref wa),some (.str pz),x3,x4,some (.ref g),none,none,none] H1:=by
 have hu:=dY hr
 have hu64:=hr.units
 have hr0:cG n _:=hr.mono (by omega)
 have hr2:cG 2 _:=hr.mono (by omega)
 refine⟨_,fR (di PassesOwn.leaving rfl (eR (bY (pv 1) rfl)) (dE rfl (aL (aP (i:=3) cY.nd rfl (Or.inl rfl)) (aL (aP (i:=4) cY.nd rfl (Or.inl rfl)) cC)))
   (ag (ba (i:=6) cY.nd (aD GP hr0 rfl mP kP bP .nil bx (aa (pv 4) (aa (pv 5) ae))))
   (ao (cg (aX (neK (K:=K) rfl hu64) (pv 6) (aJ hu (bY (pv 0) rfl) (pv 3) (fun _ _=>rfl)) (aZ _)) (ao (j7 MN GI hr2 bI rfl mN (aa (pv 2) (aa (pv 3) (aa (pv 6) (aa (aJ hu (bY (pv 0) rfl) (pv 3) (fun _ _=>rfl)) ae)))))) aU)))),?_⟩
 intro D H1 ha wa dxh dh1 dh2 dxw dw1 dw2 g fsh fsw kh1 kh2 kw1 kw2 m1 n1 m2 n2 kvs G pz x3 x4 s1 FH FW h100 hsmM hsm hdn hGs hGw hpt hg hgv hn1 qE q
 have hlen:kw1.length=n1.length:=Paired.length FW.p1
 have gne:g≠dw1:=fun e=>by rw [e,FW.h1] at hg;cases hg
 have haw:ha≠dw1:=fun e=>by
  have:=FH.obj
  rw [e,FW.h1] at this
  cases this
 refine⟨_,rfl,wa,CF,dxw,fsw,_,rfl,FW.obj,cF,nK,FW.fk,dw1,kw1,rfl,FW.h1,fun o=>?_⟩
 refine eE (fun i σ H3=>∃(y3 y4 y6:Option V),σ=[some (.ref ha),some (.ref wa),some (.str pz),y3,y4,some (.ref g),y6,none,none]/\pj K H1 H3 dw1 o kw1/\∀y∈n1.take i,decide (look m1 y.1≠some (Kd.put G y.2))=false) ?_ ?_ ?_ ?_
 ·exact⟨x3,x4,none,rfl,pj.start FW.h1,fun y hy=>by cases hy⟩
 ·rintro i σ H3 _ ⟨_,_,_,_,h,_⟩
  exact h.fz
 ·rintro i p a σ H3 hp hna ⟨y3,y4,y6,rfl,wk,hall⟩
  obtain⟨⟨z,k⟩,hq,ez,hkz⟩:=bv FW.p1 hp
  obtain⟨pk,pw⟩:=p
  replace ez:pk=.inr z:=ez
  replace hkz:cc K H1 pw k:=hkz
  subst ez
  have hm:=List.mem_of_getElem? hq
  obtain⟨⟨z1,z2⟩,k1,k2,k3⟩:(PyData.strOk z=true/\z.length<=14)/\Kd.sm k/\k.words<=60/\Kd.depth k<=20:=hsm (z,k) hm
  have hdk:Kd.depth k<=n:=hdn (z,k) hm
  obtain⟨w1,w2⟩:(Kd.put G k).words<=4000/\Kd.depth (Kd.put G k)<=50:=hGw (z,k) hm
  have smP:=oY hGs k1
  obtain⟨v,x,hv,hx,hvx⟩:∃v x,dg kh1 (.inr z)=some v/\look m1 z=some x/\cc K H1 v x:=by
   rcases cJ FH.p1 z with ⟨_,h2⟩|h
   ·unfold no1 at hn1
    rw [Option.map_eq_none_iff,List.find?_eq_none] at hn1
    exact absurd (by show(look m1 z).isNone=true;rw [h2];rfl) (hn1 _ hm)
   ·exact h
  have hxm:∃q∈m1,q.2=x:=by
   unfold look at hx
   obtain⟨q,hq1,hq2⟩:=Option.map_eq_some_iff.mp hx
   exact⟨q,List.mem_of_find?_eq_some hq1,hq2⟩
  obtain⟨qx,hqx,rfl⟩:=hxm
  obtain⟨_,sx,_,dx20⟩:=hsmM qx hqx
  have ea:=ad hna (.tup [kV (.inr z),pw])
  have wk4:=wk.go ea
  refine⟨a,_,rfl,SqT.of ac,rfl,_,_,rfl,_,_,rfl,rfl,?_⟩
  refine⟨_,rfl,_,rfl,pw,g,k,kvs,G,rfl,aY wk4.tup hkz,hdk,wk4.old _ _ hg gne,kY.keep wk4.tup hgv,fun H5 u s5 hu5=>?_⟩
  have wk5:=wk4.go s5
  have hvx5:cc K H5 v qx.2:=aY wk5.tup hvx
  refine⟨_,rfl,_,rfl,ha,CF,dxh,fsh,_,rfl,wk5.old _ _ FH.obj haw,cF,nK,FH.fk,_,rfl,dh1,v,rfl,.inl ⟨kh1,.inr z,wk5.rd FW.h1 FH.h1,rfl,hv.symm⟩,_,_,dq hu5,dq hvx5,fH (nq smP) (by omega),fH (nq sx) (by omega),_,rfl,dL (fun c=>?_) (fun c=>?_)⟩
  ·have c':(!PyData.eqv (Kd.dat (Kd.put G k)) (Kd.dat qx.2))=true:=c
   rw [gZ,Bool.not_eq_true',decide_eq_false_iff_not] at c'
   have hR:no3 G m1 n1=some (z,Kd.dat (Kd.put G k),Kd.dat qx.2):=by
    unfold no3
    rw [hU hq (dt0 (by show look m1 z≠some (Kd.put G k);rw [hx];exact fun z'=>c' (Option.some.inj z').symm)) hall]
    show some (z,Kd.dat (Kd.put G k),((look m1 z).map Kd.dat).getD .none)=_
    rw [hx]
    rfl
   refine⟨_,rfl,_,rfl,_,rfl,_,rfl,ha,CF,dxh,fsh,_,rfl,wk5.old _ _ FH.obj haw,cF,nK,FH.fk,_,rfl,dh1,v,rfl,.inl ⟨kh1,.inr z,wk5.rd FW.h1 FH.h1,rfl,hv.symm⟩,(sz 4),fun e he=>?_⟩
   have se:=ad he (.ext (cH e CN none))
   refine⟨e,.str pz,.str z,u,v,rfl,ac,gC hpt.1 (by omega),gC z1 (by omega),(pE hu5 smP w1 (by omega)).same se,(pE hvx5 sx (by omega) (by omega)).same se,fun dx H6 ne k6 he6 hx6=>⟨rfl,some dx,dw1,o,.dK kw1,he6,?_⟩⟩
   obtain⟨g1,g2,g3⟩:=zp (CN:=CN) (r:=(z,Kd.dat (Kd.put G k),Kd.dat qx.2)) wk5 FW.h1 he ne k6 hx6 (fun H' kt=>dq (aY kt hu5)) (fun H' kt=>dq (aY kt hvx5))
   exact⟨g1,rU s1 FW.h1,qE _ hR _ _ g2 g3⟩
  ·refine⟨_,_,_,rfl,wk5,fun y hy=>?_⟩
   rw [List.take_add_one,hq] at hy
   rcases List.mem_append.mp hy with h|h
   ·exact hall y h
   ·obtain rfl:y=(z,k):=by simpa using h
    have c':¬(!PyData.eqv (Kd.dat (Kd.put G k)) (Kd.dat qx.2))=true:=c
    rw [gZ,Bool.not_eq_true',Bool.not_eq_false,decide_eq_true_iff] at c'
    refine df0 fun hne=>hne ?_
    show look m1 z=some (Kd.put G k)
    rw [hx,c']
 ·rintro σ H3 ⟨y3,y4,y6,rfl,wk,hall⟩
  refine⟨dw1,o,.dK kw1,wk.fz,rU s1 FW.h1,q ?_ _ y3 y4 y6 (wk.thaw FW.h1)⟩
  rw [hlen,List.take_length] at hall
  unfold no3
  rw [qf hall]
  rfl
theorem oo{f:List Kd × Kd}(h:∀k∈f.2::f.1,Kd.ok k/\Kd.depth k<=50)(hl:f.1.length<=4):SeqAt.shaped (Fn.dat f)=true:=by
 obtain⟨h1,h2⟩:=h f.2 (.head _)
 have c1:PyData.canLayAll0 (f.1.map Kd.dat)=true:=by
  have:∀ks:List Kd,(∀k∈ks,Kd.ok k)->PyData.canLayAll0 (ks.map Kd.dat)=true:=fun ks=>by
   induction ks with
   |nil=>intro _;simp [PyData.canLayAll0]
   |cons k ks ih =>
    intro hk
    rw [List.map_cons]
    simp only [PyData.canLayAll0,Bool.and_eq_true]
    exact⟨oV (hk k (.head _)),ih fun j hj=>hk j (.tail _ hj)⟩
  exact this _ fun k hk=>(h k (.tail _ hk)).1
 have d1:PyData.depthAll (f.1.map Kd.dat)<=50:=by
  have:∀ks:List Kd,(∀k∈ks,Kd.depth k<=50)->PyData.depthAll (ks.map Kd.dat)<=50:=fun ks=>by
   induction ks with
   |nil=>intro _;simp [PyData.depthAll]
   |cons k ks ih =>
    intro hk
    rw [List.map_cons]
    simp only [PyData.depthAll]
    exact Nat.max_le.mpr ⟨Nat.le_trans (kE k) (hk k (.head _)),ih fun j hj=>hk j (.tail _ hj)⟩
  exact this _ fun k hk=>(h k (.tail _ hk)).2
 have h3:=oV h1
 have h4:=kE f.2
 unfold SeqAt.shaped
 have e1:PyData.canLay0 (Fn.dat f)=true:=by
  unfold Fn.dat
  simp only [PyData.canLay0,PyData.canLayAll0,c1,h3,Bool.and_self]
 have e2:PyData.depth (Fn.dat f)<=64:=by
  unfold Fn.dat
  simp only [PyData.depth,PyData.depthAll]
  omega
 rw [e1,dt0 e2]
 rfl
theorem vI:∀(a b:List Kd),PyData.eqvAll (a.map Kd.dat) (b.map Kd.dat)=decide (a=b)
 |[],[]=>by simp [PyData.eqvAll]
 |[],_::_=>by simp [PyData.eqvAll]
 |_::_,[]=>by simp [PyData.eqvAll]
 |a::as,b::bs=>by
  rw [List.map_cons,List.map_cons,bD,gZ,vI as bs]
  by_cases h:a=b
  ·by_cases h2:as=bs
   ·simp [h,h2]
   ·simp [h2]
  ·simp [h]
theorem A6(f g:List Kd × Kd):PyData.eqv (Fn.dat f) (Fn.dat g)=decide (f=g):=by
 unfold Fn.dat
 rw [eL,bD,bD,jv,eL,vI,gZ]
 obtain⟨a,b⟩:=f
 obtain⟨c,d⟩:=g
 by_cases h:a=c
 ·by_cases h2:b=d
  ·simp [h,h2]
  ·simp [h2]
 ·simp [h]
theorem qg(f:List Kd × Kd):PyData.eqv (Fn.dat f) .none=false:=by
 unfold Fn.dat
 simp [PyData.eqv]
theorem qp:SeqAt.shaped .none=true:=by decide +kernel
theorem ft4{n:Nat}{f fp CF CN fi:Addr}{fdp fdi:FuncData} (GP:bq P w K mg base CX0 (n+1) fp fdp ["fun","given"] (hV K n)) (bP:aV K fdp ["fun","given"] []) (kP:W.keepIn K (.ref fp)=true) (mP:mg "put_in_fun"=some (.ref fp))
  (MN:MkX K CN fi) (GI:bq P w K mg base CX0 1 fi fdi nfP (jZ K CN)) (bI:aV K fdi nfP []) (mN:mg "NoFit"=some (.ref CN)) (cF:Cls K CF) (nF:bt K CF "funs")
  {cdv:Value} {A:Around} {outer:List Env} {s:Shared} {H:Hp} {E:XK} (hr:cG (n+2) (A.deeper (PyProof.Rows.envOfC "fitted" (ah cb) s.heap.objs.size f cdv))) :
  ∃t,PS (ee (CX1 P w) P w K mg base ftN "fitted" (ah cb) f cdv A outer s H E) ((ar cb).getD 4 (.Pass ⟨0,0,0,0⟩)) t /\
   ∀(D:fZ) (H1:Hp) (ha wa dxh dh1 dh2 dxw dw1 dw2 g:Addr) (fsh fsw:List (Str × V)) (kh1 kh2 kw1 kw2:List (Key × V)) (m1 n1:List (Str × Kd)) (m2 n2:List (Str × (List Kd × Kd))) (kvs:List (List Key × V)) (G:Str × Str->Option Kd) (pz:Str) (x3 x4 x6:Option V),aE H H1 ->
    jt K H1 CF ha dxh dh1 dh2 fsh kh1 kh2 m1 m2->jt K H1 CF wa dxw dw1 dw2 fsw kw1 kw2 n1 n2->n2.length<=100->(∀q∈m2,SmF q)->(∀q∈n2,SmF q)->(∀q∈n2,∀k∈q.2.2::q.2.1,Kd.depth k<=n)->(∀n k,G n=some k->Kd.sm k)->(∀q∈n2,sV ((cV G q.2).2::(cV G q.2).1)<=4600/\∀k∈(cV G q.2).2::(cV G q.2).1,Kd.depth k<=50)->PyData.strOk pz=true/\pz.length<=14 ->
    H1 g=some (.dT kvs)->kY K H1 kvs G ->
    (∀r,no4 G m2 n2=some r->∀d H',aE H1 H'->XOk K H' d (.str pz) r->E (.ref CN) d H') ->
    (no4 G m2 n2=none->∀(H4:Hp) (y3 y6 y7 y8:Option V),aE H1 H4->D.nx [some (.ref ha),some (.ref wa),some (.str pz),y3,x4,some (.ref g),y6,y7,y8] H4) ->
    t D [some (.ref ha),some (.ref wa),some (.str pz),x3,x4,some (.ref g),x6,none,none] H1:=by
 have hu:=dY hr
 have hu64:=hr.units
 have hr1:cG (n+1) _:=hr.mono (by omega)
 have hr2:cG 2 _:=hr.mono (by omega)
 refine⟨_,fR (di PassesOwn.leaving rfl (eR (bY (pv 1) rfl)) (dE rfl (aL (aP (i:=3) cY.nd rfl (Or.inl rfl)) (aL (aP (i:=7) cY.nd rfl (Or.inl rfl)) cC)))
   (ag (ba (i:=6) cY.nd (aD GP hr1 rfl mP kP bP .nil bx (aa (pv 7) (aa (pv 5) ae))))
   (ag (ba (i:=8) cY.nd (wV hu (bY (pv 0) rfl) (pv 3) ⟨rfl,rfl,rfl,rfl⟩))
   (ao (cg (aX (neK (K:=K) rfl hu64) (pv 6) (pv 8) (aZ _)) (ao (j7 MN GI hr2 bI rfl mN (aa (pv 2) (aa (pv 3) (aa (pv 6) (aa (pv 8) ae)))))) aU))))),?_⟩
 intro D H1 ha wa dxh dh1 dh2 dxw dw1 dw2 g fsh fsw kh1 kh2 kw1 kw2 m1 n1 m2 n2 kvs G pz x3 x4 x6 s1 FH FW h100 hsmM hsm hdn hGs hGw hpt hg hgv qE q
 have hlen:kw2.length=n2.length:=Paired.length FW.p2
 have gne:g≠dw2:=fun e=>by rw [e,FW.h2] at hg;cases hg
 have haw:ha≠dw2:=fun e=>by
  have:=FH.obj
  rw [e,FW.h2] at this
  cases this
 refine⟨_,rfl,wa,CF,dxw,fsw,_,rfl,FW.obj,cF,nF,FW.ff,dw2,kw2,rfl,FW.h2,fun o=>?_⟩
 refine eE (fun i σ H3=>∃(y3 y6 y7 y8:Option V),σ=[some (.ref ha),some (.ref wa),some (.str pz),y3,x4,some (.ref g),y6,y7,y8]/\pj K H1 H3 dw2 o kw2/\∀y∈n2.take i,decide (look m2 y.1≠some (cV G y.2))=false) ?_ ?_ ?_ ?_
 ·exact⟨x3,x6,none,none,rfl,pj.start FW.h2,fun y hy=>by cases hy⟩
 ·rintro i σ H3 _ ⟨_,_,_,_,_,h,_⟩
  exact h.fz
 ·rintro i p a σ H3 hp hna ⟨y3,y6,y7,y8,rfl,wk,hall⟩
  obtain⟨⟨z,fn⟩,hq,ez,hkz⟩:=bv FW.p2 hp
  obtain⟨pk,pw⟩:=p
  replace ez:pk=.inr z:=ez
  replace hkz:db K H1 pw fn:=hkz
  subst ez
  have hm:=List.mem_of_getElem? hq
  obtain⟨⟨z1,z2⟩,l4,hks⟩:(PyData.strOk z=true/\z.length<=14)/\fn.1.length<=4/\∀k∈fn.2::fn.1,Kd.sm k/\k.words<=60/\Kd.depth k<=20:=hsm (z,fn) hm
  have hdk:∀k∈fn.2::fn.1,Kd.depth k<=n:=hdn (z,fn) hm
  obtain⟨w1,w2⟩:sV ((cV G fn).2::(cV G fn).1)<=4600/\∀k∈(cV G fn).2::(cV G fn).1,Kd.depth k<=50:=hGw (z,fn) hm
  have smP:∀k∈(cV G fn).2::(cV G fn).1,Kd.sm k:=fun k hk=>by
   rcases mc0 hk with rfl|hk
   ·exact oY hGs (hks _ (.head _)).1
   ·obtain⟨j,hj,rfl⟩:=List.mem_map.mp hk
    exact oY hGs (hks j (.tail _ hj)).1
  have ea:=ad hna (.tup [kV (.inr z),pw])
  have wk4:=wk.go ea
  refine⟨a,_,rfl,SqT.of ac,rfl,_,_,rfl,_,_,rfl,rfl,?_⟩
  obtain⟨pf,ta,xf,xsf,rfl,f1,f2,f3,f4⟩:=db.keep wk4.tup hkz
  refine⟨_,rfl,_,rfl,pf,g,ta,xf,xsf,fn.1,fn.2,kvs,G,rfl,f1,f2,f3,f4,fun k hk=>hdk k (.tail _ hk),hdk _ (.head _),by omega,wk4.old _ _ hg gne,kY.keep wk4.tup hgv,fun H5 p5 ta5 xs5 x5 s5 hp5 hta5 hxs5 hx5=>?_⟩
  have wk5:=wk4.go s5
  have hdue:db K H5 (.ref p5) (cV G fn):=⟨p5,ta5,x5,xs5,rfl,SqT.of hp5,SqT.of hta5,hxs5,hx5⟩
  have rdh:=wk5.rd FW.h2 FH.h2
  refine⟨_,rfl,ha,CF,dxh,fsh,_,rfl,wk5.old _ _ FH.obj haw,cF,nF,FH.ff,dh2,rfl,.inl ⟨kh2,rdh⟩,_,rfl,_,.inl ⟨kh2,.inr z,rdh,rfl,rfl⟩,?_⟩
  obtain⟨u,fo,hu8,hfo,hsh,hfi,hkeep,hne⟩:∃(u:V) (fo:PyData),(dg kh2 (.inr z)).getD .non=u/\((look m2 z).map Fn.dat).getD .none=fo/\SeqAt.shaped fo=true/\tM K H5 u/\(∀H',(∀a xs,SqT K H5 a xs->SqT K H' a xs)->Dat K H' u fo)/\PyData.eqv (Fn.dat (cV G fn)) fo=decide (look m2 z=some (cV G fn)):=by
   rcases cJ FH.p2 z with ⟨h1,h2⟩|⟨v,x,h1,h2,h3⟩
   ·refine⟨_,_,rfl,rfl,?_⟩
    rw [h1,h2]
    refine⟨qp,rJ,fun H' _=>.non,?_⟩
    show PyData.eqv _ .none=_
    rw [qg,df0 (by simp)]
   ·obtain⟨qx,hqx,rfl⟩:∃q∈m2,q.2=x:=by
     unfold look at h2
     obtain⟨q,hq1,hq2⟩:=Option.map_eq_some_iff.mp h2
     exact⟨q,List.mem_of_find?_eq_some hq1,hq2⟩
    obtain⟨_,sl,sx⟩:=hsmM qx hqx
    have h35:db K H5 v qx.2:=db.keep wk5.tup h3
    refine⟨_,_,rfl,rfl,?_⟩
    rw [h1,h2]
    refine⟨oo (fun k hk=>⟨nq (sx k hk).1,by have:=(sx k hk).2.2;omega⟩) sl,uO h35 (fun k hk=>⟨(sx k hk).1,by have:=(sx k hk).2.2;omega⟩) ?_,fun H' kt=>ji (db.keep kt h35),?_⟩
    ·have:∀ks:List Kd,(∀k∈ks,k.words<=60)->sV ks<=60*ks.length:=fun ks=>by
      induction ks with
      |nil=>intro _;exact Nat.le_refl _
      |cons k ks ih =>
       intro hk
       have a1:=hk k (.head _)
       have a2:=ih fun j hj=>hk j (.tail _ hj)
       show k.words+sV ks<=60*(ks.length+1)
       omega
     have t:=this (qx.2.2::qx.2.1) fun k hk=>(sx k hk).2.1
     rw [lc0] at t
     omega
    ·show PyData.eqv (Fn.dat (cV G fn)) (Fn.dat qx.2)=_
     rw [A6]
     exact decide_eq_decide.mpr ⟨fun e=>by rw [e],fun e=>(Option.some.inj e).symm⟩
  rw [hu8]
  refine⟨_,rfl,_,rfl,_,_,ji hdue,hkeep _ (fun _ _ t=>t),oo (fun k hk=>⟨nq (smP k hk),w2 k hk⟩) (by show(fn.1.map _).length<=4;rw [lm0];exact l4),hsh,_,rfl,dL (fun c=>?_) (fun c=>?_)⟩
  ·have c':(!PyData.eqv (Fn.dat (cV G fn)) fo)=true:=c
   rw [hne,Bool.not_eq_true',decide_eq_false_iff_not] at c'
   have hR:no4 G m2 n2=some (z,Fn.dat (cV G fn),fo):=by
    unfold no4
    rw [hU hq (dt0 (show look m2 z≠some (cV G fn) from c')) hall]
    show some (z,Fn.dat (cV G fn),((look m2 z).map Fn.dat).getD .none)=_
    rw [hfo]
   refine⟨_,rfl,_,rfl,_,rfl,_,rfl,(sz 4),fun e he=>?_⟩
   have se:=ad he (.ext (cH e CN none))
   refine⟨e,.str pz,.str z,.ref p5,u,rfl,ac,gC hpt.1 (by omega),gC z1 (by omega),(uO hdue (fun k hk=>⟨smP k hk,w2 k hk⟩) w1).same se,hfi.same se,fun dx H6 ne k6 he6 hx6=>⟨rfl,some dx,dw2,o,.dK kw2,he6,?_⟩⟩
   obtain⟨g1,g2,g3⟩:=zp (CN:=CN) (r:=(z,Fn.dat (cV G fn),fo)) wk5 FW.h2 he ne k6 hx6 (fun H' kt=>ji (db.keep kt hdue)) (fun H' kt=>hkeep H' kt)
   exact⟨g1,rU s1 FW.h2,qE _ hR _ _ g2 g3⟩
  ·refine⟨_,_,_,_,rfl,wk5,fun y hy=>?_⟩
   rw [List.take_add_one,hq] at hy
   rcases List.mem_append.mp hy with h|h
   ·exact hall y h
   ·obtain rfl:y=(z,fn):=by simpa using h
    have c':¬(!PyData.eqv (Fn.dat (cV G fn)) fo)=true:=c
    rw [hne,Bool.not_eq_true',Bool.not_eq_false,decide_eq_true_iff] at c'
    exact df0 fun hne'=>hne' c'
 ·rintro σ H3 ⟨y3,y6,y7,y8,rfl,wk,hall⟩
  refine⟨dw2,o,.dK kw2,wk.fz,rU s1 FW.h2,q ?_ _ y3 y6 y7 y8 (wk.thaw FW.h2)⟩
  rw [hlen,List.take_length] at hall
  unfold no4
  rw [qf hall]
  rfl
def pM(K:W.Frag)(H:Hp)(kvs:List (List Key × V))(gl:List (Str × Kd)):Prop:=Paired (fun(p:List Key × V) (q:Str × Kd)=>p.1=fP ("",q.1)/\cc K H p.2 q.2) kvs gl
theorem pM.keep{K:W.Frag}{H H':Hp}{kvs:List (List Key × V)}{gl:List (Str × Kd)}(e:∀a xs,SqT K H a xs->SqT K H' a xs)(h:pM K H kvs gl):pM K H' kvs gl:=Paired.mapP h fun _ _ ⟨a,b⟩=>⟨a,aY e b⟩
theorem pM.same{K:W.Frag}{H H':Hp}{kvs:List (List Key × V)}{gl:List (Str × Kd)}(e:aE H H')(h:pM K H kvs gl):pM K H' kvs gl:=h.keep fun _ _ t=>e.tup t
theorem pt_val{K:W.Frag}{H:Hp}{kvs:List (List Key × V)}{gl:List (Str × Kd)}(h:pM K H kvs gl)(n:Str × Str):(dg kvs (fP n)=none/\(n.1=""->n.2∉gl.map (·.1)))\/∃v k,dg kvs (fP n)=some v/\n.1=""/\(n.2,k)∈gl/\cc K H v k:=by
 unfold pM at h
 induction h with
 |nil=>exact .inl ⟨rfl,fun _ hm=>by cases hm⟩
 |@cons p q ps qs hpq r ih =>
  obtain⟨h1,h2⟩:=hpq
  by_cases e:n=(("":Str),q.1)
  ·refine .inr ⟨p.2,q.2,?_,by rw [e],by rw [e];exact .head _,h2⟩
   exact cZ (by rw [h1,e])
  ·have ne:p.1≠fP n:=fun z=>e (jA (by rw [<-z,h1]))
   have ev:dg (p::ps) (fP n)=dg ps (fP n):=by
    unfold dg
    rw [List.find?_cons,df0 ne]
   rw [ev]
   rcases ih with ⟨a,b⟩|⟨v,k,a,b,c,d⟩
   ·refine .inl ⟨a,fun h0 hm=>?_⟩
    rw [List.map_cons] at hm
    rcases mc0 hm with z|z
    ·exact e (by rw [<-h0,<-z])
    ·exact b h0 z
   ·exact .inr ⟨v,k,a,b,.tail _ c,d⟩
theorem Ck{K:W.Frag}{H:Hp}{kvs:List (List Key × V)}{gl m1:List (Str × Kd)}{hs:List Str}(h:pM K H kvs gl)(e:gl.map (·.1)=hs)(hl:∀q∈gl,look m1 q.1=some q.2):kY K H kvs (ig m1 hs):=fun n=>by
 rcases pt_val h n with ⟨a,b⟩|⟨v,k,a,b,c,d⟩
 ·refine .inl ⟨a,?_⟩
  unfold ig
  rw [if_neg]
  rintro⟨h0,hm⟩
  rw [<-e] at hm
  exact b h0 hm
 ·refine .inr ⟨v,k,a,?_,d⟩
  unfold ig
  rw [if_pos ⟨b,by rw [<-e];exact List.mem_map_of_mem (f:=(·.1)) c⟩]
  exact hl _ c
theorem yv{K:W.Frag}{H:Hp}{kvs:List (List Key × V)}{gl:List (Str × Kd)}{z:Str}{v:V}{k:Kd}(h:pM K H kvs gl)(hz:z∉gl.map (·.1))(hv:cc K H v k):pM K H (bc kvs (fP ("",z)) v) (gl++[(z,k)]):=by
 have e:¬(kvs.any fun kv=>decide (kv.1=fP ("",z)))=true:=fun c=>by
  rcases pt_val h ("",z) with ⟨a,_⟩|⟨v',k',a,b,c',d⟩
  ·rw [List.any_eq_true] at c
   obtain⟨p,hp,he⟩:=c
   unfold dg at a
   rw [Option.map_eq_none_iff,List.find?_eq_none] at a
   exact a p hp he
  ·exact hz (List.mem_map_of_mem (f:=(·.1)) c')
 unfold bc
 rw [if_neg e]
 exact Paired.snoc h ⟨rfl,hv⟩
theorem zP{m:List (Str × Kd)}{z:Str}(h:z∈eM m):∃k,(z,k)∈m:=by
 unfold eM at h
 obtain⟨q,hq,rfl⟩:=List.mem_map.mp h
 exact⟨q.2,(List.mem_filter.mp hq).1⟩
theorem oJ{m:List (Str × Kd)}(h:(m.map (·.1)).Nodup):(eM m).Nodup:=h.sublist (List.Sublist.map _ List.filter_sublist)
theorem ij{l:List Str}{i:Nat}{z:Str}(hn:l.Nodup)(h:l[i]?=some z):z∉l.take i:=fun hm=>by
 have e:l=l.take i++l.drop i:=(List.take_append_drop i l).symm
 rw [e,List.nodup_append] at hn
 have hd:z∈l.drop i:=List.mem_of_getElem? (i:=0) (by rw [List.getElem?_drop];exact h)
 exact hn.2.2 z hm z hd rfl
theorem yf{K:W.Frag}{H:Hp}{l a:Addr}{kvs:List (List Key × V)}{xs:List V}{o:HO}(h:H l=some (.dT kvs))(t:SqT K H a xs):SqT K (upd H l o) a xs:=by
 rcases t with (t|⟨o',t⟩)|t
 ·exact .inl (.inl (by rw [aj (fun e=>by rw [e,h] at t;cases t)];exact t))
 ·exact .inl (.inr ⟨o',by rw [aj (fun e=>by rw [e,h] at t;cases t)];exact t⟩)
 ·exact .inr t
theorem ft2{f fh CF:Addr}{fdh:FuncData} (MH:vZ K CF "hidden" fh) (GH:bq P w K mg base CX0 2 fh fdh ["self"] (ib K CF)) (bH:aV K fdh ["self"] []) (cF:Cls K CF) (nK:bt K CF "kinds")
  {cdv:Value} {A:Around} {outer:List Env} {s:Shared} {H:Hp} {E:XK} (hr:cG 2 (A.deeper (PyProof.Rows.envOfC "fitted" (ah cb) s.heap.objs.size f cdv))) :
  ∃t,PS (ee (CX1 P w) P w K mg base ftN "fitted" (ah cb) f cdv A outer s H E) ((ar cb).getD 2 (.Pass ⟨0,0,0,0⟩)) t /\
   ∀(D:fZ) (H1 H2:Hp) (ha wa dxh dh1 dh2 dxw dw1 dw2 g:Addr) (fsh fsw:List (Str × V)) (kh1 kh2 kw1 kw2:List (Key × V)) (m1 n1:List (Str × Kd)) (m2 n2:List (Str × (List Kd × Kd))) (pz:Str) (x3 x4:Option V),
    jt K H1 CF ha dxh dh1 dh2 fsh kh1 kh2 m1 m2->jt K H1 CF wa dxw dw1 dw2 fsw kw1 kw2 n1 n2->n1.length<=100->(∀q∈n1,SmK q)->(n1.map (·.1)).Nodup->no1 m1 n1=none->H1 g=none->aE H1 H2->H2 g=some (.dT []) ->
    (∀(H4:Hp) (y3:Option V) (kvs:List (List Key × V)) (gl:List (Str × Kd)),aE H1 H4->H4 g=some (.dT kvs)->pM K H4 kvs gl->gl.map (·.1)=eM n1->(∀q∈gl,look m1 q.1=some q.2)->D.nx [some (.ref ha),some (.ref wa),some (.str pz),y3,x4,some (.ref g),none,none,none] H4) ->
    t D [some (.ref ha),some (.ref wa),some (.str pz),x3,x4,some (.ref g),none,none,none] H2:=by
 have hu:=dY hr
 refine⟨_,di PassesOwn.leaving rfl (iY (nS (pv 1) cF MH GH hr bH .nil bx)) (aP (i:=3) cY.nd rfl (Or.inl rfl))
   (ao (bw hu (pv 5) (ap (aa am (aa (pv 3) ae))) (aJ hu (bY (pv 0) rfl) (pv 3) (fun _ _=>rfl)) rfl)),?_⟩
 intro D H1 H2 ha wa dxh dh1 dh2 dxw dw1 dw2 g fsh fsw kh1 kh2 kw1 kw2 m1 n1 m2 n2 pz x3 x4 FH FW h100 hsm hnd hn1 hgn s2 hg2 q
 have FW2:=FW.same s2
 refine⟨_,rfl,wa,dxw,fsw,rfl,FW2.obj,FW2.nh,wa,n1,n2,rfl,⟨dxw,dw1,dw2,fsw,kw1,kw2,FW2.obj,FW2.fk,FW2.ff,FW2.h1,FW2.h2,FW2.p1,FW2.p2,FW2.nh,FW2.np⟩,h100,(fun qq hq=>by
  obtain⟨⟨a1,a2⟩,a3,_,a5⟩:=hsm qq hq
  exact⟨⟨a1,by omega⟩,nq a3,by omega⟩),fun H3 l s3 hl2 hl3=>⟨l,rfl,⟨_,SqL.of hl3⟩,?_⟩⟩
 have hg3:=s3 _ _ hg2
 have lg:l≠g:=fun e=>by rw [e,hg2] at hl2;cases hl2
 have hsl:(eM n1).length<=100:=by
  unfold eM
  rw [lm0]
  exact Nat.le_trans (List.length_filter_le _ _) h100
 refine iz (K:=K) (xs:=(eM n1).map V.str) (fun i σ H4=>∃(y3:Option V) (kvs:List (List Key × V)) (gl:List (Str × Kd)),σ=[some (.ref ha),some (.ref wa),some (.str pz),y3,x4,some (.ref g),none,none,none]/\aE H1 H4/\H4 l=some (.lst ((eM n1).map V.str))/\H4 g=some (.dT kvs)/\pM K H4 kvs gl/\gl.map (·.1)=(eM n1).take i/\∀q∈gl,look m1 q.1=some q.2)
  ⟨x3,[],[],rfl,s2.trans s3,hl3,hg3,.nil,rfl,fun q hq=>by cases hq⟩ ?_ ?_ ?_
 ·rintro i σ H4 _ ⟨_,_,_,_,_,h,_⟩
  exact SqL.of h
 ·rintro i y σ H4 hy ⟨y3,kvs,gl,rfl,s4,hl4,hg4,hpt,hgl,hlk⟩
  rw [List.getElem?_map] at hy
  obtain⟨z,hz,rfl⟩:=Option.map_eq_some_iff.mp hy
  have hi:i < (eM n1).length:=(List.getElem?_eq_some_iff.mp hz).1
  obtain⟨k0,hk0⟩:=zP (List.mem_of_getElem? hz)
  have FH4:=FH.same s4
  obtain⟨v,x,hv,hx,hvx⟩:∃v x,dg kh1 (.inr z)=some v/\look m1 z=some x/\cc K H4 v x:=by
   rcases cJ FH4.p1 z with ⟨_,h2⟩|h
   ·unfold no1 at hn1
    rw [Option.map_eq_none_iff,List.find?_eq_none] at hn1
    exact absurd (by show(look m1 z).isNone=true;rw [h2];rfl) (hn1 _ hk0)
   ·exact h
  refine⟨_,rfl,ha,CF,dxh,fsh,_,rfl,FH4.obj,cF,nK,FH4.fk,_,rfl,dh1,v,rfl,.inl ⟨kh1,.inr z,.inl FH4.h1,rfl,hv.symm⟩,_,rfl,_,rfl,(sz 2),fun p hp=>?_⟩
  have s5:=ad hp (.tup [.str "",.str z])
  have kl:kvs.length=i:=by
   have e1:kvs.length=gl.length:=Paired.length hpt
   have e2:=congrArg List.length hgl
   rw [lm0,List.length_take] at e2
   omega
  have hg5:=s5 _ _ hg4
  refine⟨g,_,rfl,gK.t (k:=fP ("",z)) hg5 (by rw [ac]<;>rfl) (Nat.lt_of_lt_of_le (Nat.lt_succ_self _) (dX (by omega))),?_⟩
  have kt:∀a xs,SqT K (upd H4 p (.tup [.str "",.str z])) a xs->SqT K (upd (upd H4 p (.tup [.str "",.str z])) g (.dT (bc kvs (fP ("",z)) v))) a xs:=fun a xs t=>yf hg5 t
  have ht:(eM n1).take (i+1)=(eM n1).take i++[z]:=by rw [List.take_add_one,hz];rfl
  refine⟨_,_,gl++[(z,x)],rfl,tK (s4.trans s5) hgn,?_,ac,?_,?_,fun qq hq=>?_⟩
  ·rw [aj lg]
   exact s5 _ _ hl4
  ·refine yv ((hpt.same s5).keep kt) ?_ (aY kt (hvx.same s5))
   rw [hgl]
   exact ij (oJ hnd) hz
  ·rw [ma0,hgl,ht]
   rfl
  ·rcases List.mem_append.mp hq with h|h
   ·exact hlk qq h
   ·rw [List.mem_singleton.mp h]
    exact hx
 ·rintro σ H4 ⟨y3,kvs,gl,rfl,s4,hl4,hg4,hpt,hgl,hlk⟩
  rw [lm0,List.take_length] at hgl
  exact q _ y3 kvs gl s4 hg4 hpt hgl hlk
structure Two(m1 n1:List (Str × Kd))(m2 n2:List (Str × (List Kd × Kd)))(n:Nat):Prop where
 l1:n1.length<=100
 l2:n2.length<=100
 sm1:∀q∈m1,SmK q
 sn1:∀q∈n1,SmK q
 sm2:∀q∈m2,SmF q
 sn2:∀q∈n2,SmF q
 nd:(n1.map (·.1)).Nodup
 dp1:∀q∈n1,Kd.depth q.2<=n
 dp2:∀q∈n2,∀k∈q.2.2::q.2.1,Kd.depth k<=n
 w1:∀q∈n1,(Kd.put (Gf m1 n1) q.2).words<=4000/\Kd.depth (Kd.put (Gf m1 n1) q.2)<=50
 w2:∀q∈n2,sV ((cV (Gf m1 n1) q.2).2::(cV (Gf m1 n1) q.2).1)<=4600/\∀k∈(cV (Gf m1 n1) q.2).2::(cV (Gf m1 n1) q.2).1,Kd.depth k<=50
def uB(K:W.Frag)(H:Hp)(CF fa:Addr)(m1:List (Str × Kd))(m2:List (Str × (List Kd × Kd))):Prop:=∃dx d1 d2 fs kv1 kv2,jt K H CF fa dx d1 d2 fs kv1 kv2 m1 m2
def qB(K:W.Frag)(CF CN:Addr)(n:Nat):Sp:=fun vs H Q E=>∃(ha wa:Addr) (pz:Str) (m1 n1:List (Str × Kd)) (m2 n2:List (Str × (List Kd × Kd))),vs=[.ref ha,.ref wa,.str pz]/\uB K H CF ha m1 m2/\uB K H CF wa n1 n2/\Two m1 n1 m2 n2 n/\(PyData.strOk pz=true/\pz.length<=14) /\
 (∀r,sM m1 n1 m2 n2=some r->∀d H',aE H H'->XOk K H' d (.str pz) r->E (.ref CN) d H') /\
 (sM m1 n1 m2 n2=none->∀H' (g:Addr) (kvs:List (List Key × V)) (gl:List (Str × Kd)),aE H H'->H g=none->H' g=some (.dT kvs)->pM K H' kvs gl->gl.map (·.1)=eM n1->(∀q∈gl,look m1 q.1=some q.2)->Q (.ref g) H')
theorem xr{m1:List (Str × Kd)}{hs:List Str}(h:∀q∈m1,SmK q):∀n k,ig m1 hs n=some k->Kd.sm k:=fun n k e=>by
 unfold ig at e
 split at e
 ·unfold look at e
  obtain⟨q,hq1,rfl⟩:=Option.map_eq_some_iff.mp e
  exact(h q (List.mem_of_find?_eq_some hq1)).2.1
 ·cases e
theorem vj{n:Nat}{f fp fq fh fi CF CN:Addr}{dV:Value}{fd fdp fdq fdh fdi:FuncData} (F:jT K "fitted" "fitted" cb dV f fd)
  (GP:bq P w K mg base CX0 n fp fdp ["kind","given"] (pH K n)) (bP:aV K fdp ["kind","given"] []) (kP:W.keepIn K (.ref fp)=true) (mP:mg "put"=some (.ref fp))
  (GF:bq P w K mg base CX0 (n+1) fq fdq ["fun","given"] (hV K n)) (bF:aV K fdq ["fun","given"] []) (kF:W.keepIn K (.ref fq)=true) (mF:mg "put_in_fun"=some (.ref fq))
  (MH:vZ K CF "hidden" fh) (GH:bq P w K mg base CX0 2 fh fdh ["self"] (ib K CF)) (bH:aV K fdh ["self"] [])
  (MN:MkX K CN fi) (GI:bq P w K mg base CX0 1 fi fdi nfP (jZ K CN)) (bI:aV K fdi nfP []) (mN:mg "NoFit"=some (.ref CN)) (cF:Cls K CF) (nK:bt K CF "kinds") (nF:bt K CF "funs") :
  bq P w K mg base (CX1 P w) (n+2+1) f fd ftP (qB K CF CN n):=by
 refine F.okX cY (fun vs H Q E h=>?_) (fun cdv A outer s H vs Q E hr h=>?_)
 ·obtain⟨ha,wa,pz,m1,n1,m2,n2,rfl,_⟩:=h
  rfl
 obtain⟨ha,wa,pz,m1,n1,m2,n2,rfl,⟨dxh,dh1,dh2,fsh,kh1,kh2,FH⟩,⟨dxw,dw1,dw2,fsw,kw1,kw2,FW⟩,T,hpt,qE,qN⟩:=h
 have hr2:cG 2 _:=hr.mono (by omega)
 obtain⟨t0,e0,k0⟩:=ft1 (outer:=outer) (H:=H) (E:=E) MN GI bI mN cF nK hr2
 obtain⟨t2,e2,k2⟩:=ft2 (outer:=outer) (H:=H) (E:=E) MH GH bH cF nK hr2
 obtain⟨t3,e3,k3⟩:=ft3 (outer:=outer) (H:=H) (E:=E) GP bP kP mP MN GI bI mN cF nK hr
 obtain⟨t4,e4,k4⟩:=ft4 (outer:=outer) (H:=H) (E:=E) GF bF kF mF MN GI bI mN cF nF hr
 refine⟨_,(@ag _ _ _ _ _ @e0
  (@ag _ _ _ _ _ (@lK _ _ 5 _ _ _ _ cY.nd rfl (Or.inl rfl) (@jH _ _) rfl (Or.inl rfl))
  (@ag _ _ _ _ _ @e2
  (@ag _ _ _ _ _ @e3
  (@ag _ _ _ _ _ @e4
  (ao (aS (pv 5))))))):PSs (ee (CX1 P w) P w K mg base ftN "fitted" (ah cb) f cdv A outer s H E) (ar cb) _),?_⟩
 refine k0 _ _ ha wa dxh dh1 dh2 dxw dw1 dw2 fsh fsw kh1 kh2 kw1 kw2 m1 n1 m2 n2 pz sr0 FH FW T.l1 T.sn1 hpt (fun r hr' d H' s' x'=>qE r ?_ d H' s' x') fun hn1 H1 y3 y4 s1=>?_
 ·unfold sM
  rw [hr']
  rfl
 intro g hg
 have sg:=ad hg (.dT [])
 refine k2 _ H1 _ ha wa dxh dh1 dh2 dxw dw1 dw2 g fsh fsw kh1 kh2 kw1 kw2 m1 n1 m2 n2 pz y3 y4 (FH.same s1) (FW.same s1) T.l1 T.sn1 T.nd hn1 hg sg ac fun H3 y3' kvs gl s3 hg3 hpt3 hgl hlk=>?_
 have s13:=s1.trans s3
 have gv:=Ck hpt3 hgl hlk
 have hGs:=xr (hs:=eM n1) T.sm1
 refine k3 _ H3 ha wa dxh dh1 dh2 dxw dw1 dw2 g fsh fsw kh1 kh2 kw1 kw2 m1 n1 m2 n2 kvs _ pz y3' y4 s13 (FH.same s13) (FW.same s13) T.l1 T.sm1 T.sn1 T.dp1 hGs T.w1 hpt hg3 gv hn1 (fun r hr' d H' s' x'=>qE r ?_ d H' (s13.trans s') x') fun hn3 H4 y34 y44 y64 s4=>?_
 ·unfold sM
  rw [hn1]
  show(no3 (Gf m1 n1) m1 n1).or _=_
  rw [hr']
  rfl
 have s14:=s13.trans s4
 refine k4 _ H4 ha wa dxh dh1 dh2 dxw dw1 dw2 g fsh fsw kh1 kh2 kw1 kw2 m1 n1 m2 n2 kvs _ pz y34 y44 y64 s14 (FH.same s14) (FW.same s14) T.l2 T.sm2 T.sn2 T.dp2 hGs T.w2 hpt (s4 _ _ hg3) (gv.same s4) (fun r hr' d H' s' x'=>qE r ?_ d H' (s14.trans s') x') fun hn4 H5 y35 y65 y75 y85 s5=>?_
 ·unfold sM
  rw [hn1]
  show(no3 (Gf m1 n1) m1 n1).or _=_
  rw [hn3]
  exact hr'
 refine⟨_,rfl,qN ?_ H5 g kvs gl (s14.trans s5) (aE.free s1 hg) (s5 _ _ (s4 _ _ hg3)) ((hpt3.same s4).same s5) hgl hlk⟩
 unfold sM
 rw [hn1]
 show(no3 (Gf m1 n1) m1 n1).or _=_
 rw [hn3]
 exact hn4
def Cf:List Stmt->List ExceptHandler
 |.Try _ hs _ _ _::_=>hs
 |_=>[]
def ge(K:W.Frag)(CT:Addr):Sp:=fun vs H Q E=>∃(x:V) (k:Kd) (m:Int),vs=[x,.int m]/\cc K H x k/\k.words<=900/\0<=m/\m<=1000000 /\
 ∀H',aE H H'->if (k.words:Int) > m then E (.ref CT) none H' else Q x H'
theorem oI:aO ["kind","most","words"] ["kind","most"] (ah gH):=mkS
theorem rR{f fw CT:Addr}{fd fdw:FuncData} (F:Fun K "bounded" "bounded" gH f fd) (GW:bq P w K mg base CX0 1 fw fdw ["kind"] (tT K)) (bW:aV K fdw ["kind"] []) (kW:W.keepIn K (.ref fw)=true) (mW:mg "words_in"=some (.ref fw))
  (mT:mg "TooBig"=some (.ref CT)) (xT:W.excIn K CT kX "ValueError.__new__"=true):bq P w K mg base (CX1 P w) 2 f fd ["kind","most"] (ge K CT):=by
 refine F.k1 oI fun cdv A outer s H vs Q E hr h=>?_
 obtain⟨x,k,m,rfl,hk,h9,m0,m1,q⟩:=h
 refine⟨_,ag (ba (i:=2) oI.nd (aD GW hr rfl mW kW bW .nil bx (aa (pv 0) ae)))
  (ag (cg (aX vO (pv 2) (pv 1) (aZ _))
   (ao (eF rfl mT xT (aa (gb (bh am (bh (mQ (pv 2)) (bh am (bh (mQ (pv 1)) (bh am jh))))) (by decide)) ae))) aU)
  (ao (aS (pv 0)))),?_⟩
 refine⟨_,rfl,x,k,rfl,hk,h9,fun H1 s1=>?_⟩
 have q1:=q H1 s1
 refine⟨_,rfl,_,rfl,_,_,rfl,rfl,_,rfl,?_⟩
 refine dL (fun c=>?_) (fun c=>?_)
 ·have c':(k.words:Int) > m:=od0 c
  rw [if_pos c'] at q1
  have l9:(0:Int)<=(k.words:Int)/\(k.words:Int)<=1000000:=⟨by omega,by omega⟩
  refine⟨_,rfl,by decide +kernel,_,rfl,.inr ⟨_,rfl,og l9.1 l9.2,_,rfl,Nat.le_trans (o7 l9.1 l9.2) (by decide),_,rfl,by decide +kernel,_,rfl,.inr ⟨_,rfl,og m0 m1,_,rfl,Nat.le_trans (o7 m0 m1) (by decide),_,rfl,by decide +kernel,fun z hz=>⟨(sz 1),q1⟩⟩⟩⟩
 ·have c':¬(k.words:Int) > m:=fun z=>c (dt0 z)
  rw [if_neg c'] at q1
  exact⟨_,rfl,q1⟩
def ya(K:W.Frag)(H:Hp)(kvs:List (Key × V))(g:Str->Option Kd):Prop :=
 ∀t,(dg kvs (.inr t)=none/\g t=none)\/∃v k,dg kvs (.inr t)=some v/\g t=some k/\cc K H v k
theorem ya.same{K:W.Frag}{H H':Hp}{kvs:List (Key × V)}{g:Str->Option Kd}(e:aE H H')(h:ya K H kvs g):ya K H' kvs g:=fun n=>by
 rcases h n with h|⟨v,k,h1,h2,h3⟩
 ·exact .inl h
 ·exact .inr ⟨v,k,h1,h2,h3.same e⟩
def jx(K:W.Frag)(H:Hp)(CF:Addr)(v:V)(g:Str->Option Kd):Prop :=
 ∃a dx fs d kvs,v=.ref a/\H a=some (.ins CF dx fs)/\fs.lookup ("kinds":Str)=some (.ref d)/\H d=some (.dK kvs)/\ya K H kvs g
theorem jx.same{K:W.Frag}{H H':Hp}{CF:Addr}{v:V}{g:Str->Option Kd}(e:aE H H')(h:jx K H CF v g):jx K H' CF v g:=by
 obtain⟨a,dx,fs,d,kvs,h1,h2,h3,h4,h5⟩:=h
 exact⟨a,dx,fs,d,kvs,h1,e _ _ h2,h3,e _ _ h4,h5.same e⟩
def gu(K:W.Frag)(H:Hp)(CF:Addr)(kvs:List (Key × V))(PG:Str->Option (Str->Option Kd)):Prop :=
 ∀q,(dg kvs (.inr q)=none/\PG q=none)\/∃v g,dg kvs (.inr q)=some v/\PG q=some g/\jx K H CF v g
theorem gu.same{K:W.Frag}{H H':Hp}{CF:Addr}{kvs:List (Key × V)}{PG:Str->Option (Str->Option Kd)}(e:aE H H')(h:gu K H CF kvs PG):gu K H' CF kvs PG:=fun n=>by
 rcases h n with h|⟨v,g,h1,h2,h3⟩
 ·exact .inl h
 ·exact .inr ⟨v,g,h1,h2,h3.same e⟩
def iB(OG:Str->Option Kd)(PG:Str->Option (Str->Option Kd))(n:Str × Str):Option Kd:=if n.1="" then OG n.2 else (PG n.1).bind fun g=>g n.2
def B4(o:Option Kd)(K:W.Frag)(H:Hp)(Q:VK)(X:Prop):Prop:=(o=none/\X)\/∃k,o=some k/\∀v,cc K H v k->Q v H
def me(K:W.Frag)(CF CN:Addr):Sp:=fun vs H Q E=>∃(q t:Str) (o p:Addr) (okv pkv:List (Key × V)) (OG:Str->Option Kd) (PG:Str->Option (Str->Option Kd)),
 vs=[.str q,.str t,.ref o,.ref p]/\okW q/\okW t/\H o=some (.dK okv)/\ya K H okv OG/\H p=some (.dK pkv)/\gu K H CF pkv PG/\B4 (iB OG PG (q,t)) K H Q (E (.ref CN) none H)
theorem iT:aO ["part","word","own","parts","kinds"] ["part","word","own","parts"] (ah dR):=mkS
theorem pB{f CF CN:Addr}{fd:FuncData} (F:Fun K "told_kind" "told_kind" dR f fd) (cF:Cls K CF) (nF:bt K CF "kinds") (mN:mg "NoKind"=some (.ref CN)) (xN:W.excIn K CN kX "ValueError.__new__"=true) :
  bq P w K mg base (CX1 P w) 1 f fd ["part","word","own","parts"] (me K CF CN):=by
 refine F.k1 iT fun cdv A outer s H vs Q E hr h=>?_
 obtain⟨q,t,o,p,okv,pkv,OG,PG,rfl,hq,ht,ho,hO,hp,hP,hT⟩:=h
 have hu:=dY hr
 have lq:q.length<=100000:=Nat.le_trans hq.2 (by decide)
 have lt:t.length<=100000:=Nat.le_trans ht.2 (by decide)
 have zq:q.length<=sizeLine:=Nat.le_trans lq (by decide)
 have zt:t.length<=sizeLine:=Nat.le_trans lt (by decide)
 obtain⟨u1,d1,k1⟩:∃t',PSs (ee (CX1 P w) P w K mg base ["part","word","own","parts","kinds"] "told_kind" (ah dR) f cdv A outer s H E) (List.drop 1 (ar dR)) t' /\
   ∀(d:Addr) (kvs:List (Key × V)) (g:Str->Option Kd),H d=some (.dK kvs)->ya K H kvs g->B4 (g t) K H Q (E (.ref CN) none H) ->
    t' { nx:=fun _ H'=>Q .non H',rt:=Q } [some (.str q),some (.str t),some (.ref o),some (.ref p),some (.ref d)] H:=by
  refine⟨_,ag (cg (lO (ik hu (pv 1) (pv 4)) (by with_unfolding_all rfl))
    (ao (eF rfl mN xN (aa (gb (bh am (bh (AQ (pv 1)) (bh am (bh (AQ (pv 0)) jh)))) (by decide)) ae))) aU)
   (ao (aS (aJ hu (pv 4) (pv 1) (fun _ _=>rfl)))),?_⟩
  intro d kvs g hd hg hT
  refine⟨_,rfl,_,rfl,d,_,rfl,cT.k (k:=.inr t) hd,_,rfl,?_⟩
  rcases hg t with ⟨h1,h2⟩|⟨v,k,h1,h2,h3⟩
  ·rw [h1]
   rcases hT with ⟨_,hE⟩|⟨k,hk,_⟩
   ·refine qT ⟨_,rfl,by decide +kernel,_,rfl,t,rfl,ht.1,ht.2,fun z hz=>⟨z,rfl,Nat.le_trans hz (by decide),_,rfl,by decide +kernel,_,rfl,q,rfl,hq.1,hq.2,fun z2 hz2=>⟨z2,rfl,Nat.le_trans hz2 (by decide),fun z3 hz3=>⟨(sz 1),hE⟩⟩⟩⟩
   ·rw [h2] at hk
    cases hk
  ·rw [h1]
   rcases hT with ⟨hn,_⟩|⟨k',hk,hQ⟩
   ·rw [h2] at hn
    cases hn
   ·rw [h2] at hk
    cases hk
    exact nV ⟨_,rfl,_,rfl,d,v,rfl,h1▸cT.k (k:=.inr t) hd,hQ v h3⟩
 refine⟨_,ag (cg (aX dA (pv 0) am (aZ _)) (ao (ba (i:=4) iT.nd (pv 2)))
   (ao (cg (lO (x9 hu (pv 0) (pv 3)) (by with_unfolding_all rfl)) (ao (ba (i:=4) iT.nd (bY (aJ hu (pv 3) (pv 0) (fun _ _=>rfl)) rfl)))
    (ao (eF rfl mN xN (aa (gb (bh am (bh (mQ (pv 0)) (bh am (bh (mQ (pv 0)) (bh am (bh (mQ (pv 1)) jh)))))) (by decide)) ae)))))) d1,?_⟩
 refine⟨_,rfl,rfl,_,rfl,?_⟩
 refine dL (fun c=>?_) (fun c=>?_)
 ·have c':V.str q=V.str "":=od0 c
  have e:q="":=by injection c'
  have hT':B4 (OG t) K H Q (E (.ref CN) none H):=by
   unfold iB at hT
   rw [if_pos e] at hT
   exact hT
  exact⟨_,rfl,k1 o okv OG ho hO hT'⟩
 ·have c':¬q="":=fun e=>c (dt0 (by rw [e]))
  have hT':B4 ((PG q).bind fun g=>g t) K H Q (E (.ref CN) none H):=by
   unfold iB at hT
   rw [if_neg c'] at hT
   exact hT
  refine⟨_,rfl,_,rfl,p,_,rfl,cT.k (k:=.inr q) hp,_,rfl,?_⟩
  rcases hP q with ⟨h1,h2⟩|⟨v,g,h1,h2,h3⟩
  ·rw [h1]
   rw [h2] at hT'
   rcases hT' with ⟨_,hE⟩|⟨k,hk,_⟩
   ·refine nV ⟨_,rfl,by decide +kernel,_,rfl,.inl ⟨q,rfl,zq,q,rfl,Nat.le_trans lq (by decide),_,rfl,by decide +kernel,_,rfl,.inl ⟨q,rfl,zq,q,rfl,Nat.le_trans lq (by decide),_,rfl,by decide +kernel,_,rfl,.inl ⟨t,rfl,zt,t,rfl,Nat.le_trans lt (by decide),fun z3 hz3=>⟨(sz 1),hE⟩⟩⟩⟩⟩
   ·cases hk
  ·rw [h1]
   rw [h2] at hT'
   obtain⟨a,dx,fs,d,kvs,rfl,h4,h5,h6,h7⟩:=h3
   exact qT ⟨_,rfl,_,rfl,p,.ref a,rfl,h1▸cT.k (k:=.inr q) hp,a,CF,dx,fs,_,rfl,h4,cF,nF,h5,k1 d kvs g h6 h7 hT'⟩
theorem kJ{G T:Str × Str->Option Kd}:∀{k:Kd},(∀n∈Kd.names k,G n=T n)->Kd.put G k=Kd.put T k
 |.num _,_=>rfl
 |.name q t,h=>by
  show(G (q,t)).getD _=(T (q,t)).getD _
  rw [h (q,t) (List.mem_singleton.mpr rfl)]
 |.pair a b,h=>by
  show Kd.pair (Kd.put G a) (Kd.put G b)=Kd.pair (Kd.put T a) (Kd.put T b)
  rw [kJ (k:=a) fun n hn=>h n (List.mem_append_left _ hn),kJ (k:=b) fun n hn=>h n (List.mem_append_right _ hn)]
theorem rP{acc:List (Str × Str)}{m n:Str × Str}(h:n∈acc\/n=m):n∈qP acc m:=by
 unfold qP
 split
 ·rename_i hm
  rcases h with h|rfl
  ·exact h
  ·exact hm
 ·rcases h with h|rfl
  ·exact List.mem_append_left _ h
  ·exact List.mem_append_right _ (List.mem_singleton.mpr rfl)
theorem iI:∀{l acc:List (Str × Str)} {n:Str × Str},n∈acc\/n∈l->n∈dH acc l
 |[],acc,n,h=>h.elim id fun z=>nomatch z
 |m::l,acc,n,h=>by
  refine iI (l:=l) (acc:=qP acc m) ?_
  rcases h with h|h
  ·exact .inl (rP (.inl h))
  ·rcases mc0 h with h|h
   ·exact .inl (rP (.inr h))
   ·exact .inr h
theorem xy{acc:List (Str × Str)}{m n:Str × Str}(h:n∈qP acc m):n∈acc\/n=m:=by
 unfold qP at h
 split at h
 ·exact .inl h
 ·rcases List.mem_append.mp h with q|q
  ·exact .inl q
  ·exact .inr (List.mem_singleton.mp q)
theorem lC:∀{l acc:List (Str × Str)} {n:Str × Str},n∈dH acc l->n∈acc\/n∈l
 |[],acc,n,h=>.inl h
 |m::l,acc,n,h=>by
  rcases lC (l:=l) (acc:=qP acc m) h with q|q
  ·rcases xy q with q|q
   ·exact .inl q
   ·exact .inr (q▸List.mem_cons_self)
  ·exact .inr (List.mem_cons_of_mem _ q)
theorem lJ:∀(l acc:List (Str × Str)),(dH acc l).length<=acc.length+l.length
 |[],acc=>Nat.le_refl _
 |m::l,acc=>by
  have h1:=lJ l (qP acc m)
  have h2:=qS acc m
  show(dH (qP acc m) l).length<=acc.length+(l.length+1)
  omega
theorem jK:∀k:Kd,(Kd.names k).length<=k.words
 |.num _=>Nat.zero_le _
 |.name _ _=>Nat.le_refl _
 |.pair a b=>by
  have h1:=jK a
  have h2:=jK b
  show(Kd.names a++Kd.names b).length<=1+a.words+b.words
  rw [la0]
  omega
theorem lZ{H:Hp}:∀{dn:List (Str × Str)} {as:List Addr} {i:Nat} {b:Addr},Paired (fun(n:Str × Str) (a:Addr)=>H a=some (.tup [.str n.1,.str n.2])) dn as->as[i]?=some b->∃n:Str × Str,dn[i]?=some n/\H b=some (.tup [.str n.1,.str n.2])
 |_,_,_,_,.nil,e=>by simp at e
 |_,_,0,_,.cons a _,e=>by
  obtain rfl:=Option.some.inj e
  exact⟨_,rfl,a⟩
 |_,_,i+1,_,.cons _ r,e=>lZ (i:=i) r e
theorem AU{K:W.Frag}{H:Hp}{kvs:List (List Key × V)}{G:Str × Str->Option Kd}{n:Str × Str}{v:V}{k:Kd}(h:kY K H kvs G)(hv:cc K H v k):kY K H (bc kvs (fP n) v) (fun m=>if m=n then some k else G m):=fun m=>by
 by_cases e:m=n
 ·subst e
  exact .inr ⟨v,k,by rw [gE,if_pos rfl],if_pos rfl,hv⟩
 ·have e2:fP m≠fP n:=fun z=>e (jA z)
  rcases h m with ⟨h1,h2⟩|⟨v',k',h1,h2,h3⟩
  ·exact .inl ⟨by rw [gE,if_neg e2];exact h1,(if_neg e).trans h2⟩
  ·exact .inr ⟨v',k',by rw [gE,if_neg e2];exact h1,(if_neg e).trans h2,h3⟩
def mw(K:W.Frag)(CF CN CT:Addr):Sp:=fun vs H Q E=>∃(x:V) (k:Kd) (o p:Addr) (m:Int) (okv pkv:List (Key × V)) (OG:Str->Option Kd) (PG:Str->Option (Str->Option Kd)),
 vs=[x,.ref o,.ref p,.int m]/\cc K H x k/\k.words<=900/\Kd.depth k<=40/\(∀n∈Kd.names k,okW n.1/\okW n.2)/\0<=m/\m<=1000000/\H o=some (.dK okv)/\ya K H okv OG/\H p=some (.dK pkv)/\gu K H CF pkv PG /\
 (∀H',aE H H'->(∃n∈Kd.names k,iB OG PG n=none)->E (.ref CN) none H') /\
 ((∀n∈Kd.names k,iB OG PG n≠none)->(Kd.put (iB OG PG) k).words<=900/\∀H',aE H H'->if ((Kd.put (iB OG PG) k).words:Int) > m then E (.ref CT) none H' else ∀v,cc K H' v (Kd.put (iB OG PG) k)->Q v H')
theorem jI:aO ["kind","own","parts","most","given","part","word"] ["kind","own","parts","most"] (ah dU):=mkS
theorem uz{f fn fp fb ft CF CN CT:Addr}{dV:Value}{fd fdn fdp fdb fdt:FuncData} (F:jT K "normal" "normal" dU dV f fd)
  (GN:bq P w K mg base CX0 1 fn fdn ["kind"] (ui K)) (bN:aV K fdn ["kind"] []) (kN:W.keepIn K (.ref fn)=true) (mN:mg "names_in"=some (.ref fn))
  (GP:bq P w K mg base CX0 40 fp fdp ["kind","given"] (pH K 40)) (bP:aV K fdp ["kind","given"] []) (kP:W.keepIn K (.ref fp)=true) (mP:mg "put"=some (.ref fp))
  (GB:bq P w K mg base (CX1 P w) 2 fb fdb ["kind","most"] (ge K CT)) (bB:aV K fdb ["kind","most"] []) (kB:W.keepIn K (.ref fb)=true) (mB:mg "bounded"=some (.ref fb))
  (GT:bq P w K mg base (CX1 P w) 1 ft fdt ["part","word","own","parts"] (me K CF CN)) (bT:aV K fdt ["part","word","own","parts"] []) (kT:W.keepIn K (.ref ft)=true) (mT:mg "told_kind"=some (.ref ft)) :
  bq P w K mg base (CX1 P w) 41 f fd ["kind","own","parts","most"] (mw K CF CN CT):=by
 refine F.okX jI (fun vs H Q E h=>?_) (fun cdv A outer s H vs Q E hr h=>?_)
 ·obtain⟨x,k,o,p,m,okv,pkv,OG,PG,rfl,_⟩:=h
  rfl
 obtain⟨x,k,o,p,m,okv,pkv,OG,PG,rfl,hk,hw,hdp,hnm,m0,m1,ho,hO,hp,hP,q1,q2⟩:=h
 have hu:=dY hr
 have hr1:cG 1 _:=hr.mono (by decide)
 have hr2:cG 2 _:=hr.mono (by decide)
 refine⟨_,ag (ba (i:=4) jI.nd jH)
  (ag (di PassesOwn.leaving rfl (iY (aD GN hr1 rfl mN kN bN .nil bx (aa (pv 0) ae)))
   (dE rfl (aL (aP (i:=5) jI.nd rfl (Or.inl rfl)) (aL (aP (i:=6) jI.nd rfl (Or.inl rfl)) cC)))
   (ao (bw hu (pv 4) (ap (aa (pv 5) (aa (pv 6) ae))) (aD GT hr1 rfl mT kT bT .nil gN (aa (pv 5) (aa (pv 6) (aa (pv 1) (aa (pv 2) ae))))) rfl)))
  (ao (aS (aD GB hr2 rfl mB kB bB .nil gN (aa (aD GP hr rfl mP kP bP .nil bx (aa (pv 0) (aa (pv 4) ae))) (aa (pv 3) ae)))))),?_⟩
 intro g hg
 have sg:=ad hg (.dT [])
 refine⟨_,rfl,x,k,rfl,hk.same sg,hw,fun H1 l as s1 _ hl hpr=>?_⟩
 have gne:l≠g:=fun e=>by
  have z:=s1 _ _ (ac (H:=H) (a:=g) (o:=.dT []))
  rw [<-e,hl] at z
  cases z
 have hS1:aE H H1:=d8 sg s1
 have hlen:=Paired.length hpr
 refine⟨l,rfl,⟨_,SqL.of hl⟩,iz (K:=K) (xs:=as.map V.ref) (fun i σ H3=>∃(x5 x6:Option V) (kvs:List (List Key × V)),σ=[some x,some (.ref o),some (.ref p),some (.int m),some (.ref g),x5,x6]/\aE H H3/\H3 l=some (.lst (as.map V.ref))/\H3 g=some (.dT kvs) /\
   Paired (fun(n:Str × Str) (a:Addr)=>H3 a=some (.tup [.str n.1,.str n.2])) (dH [] (Kd.names k)) as/\kvs.length<=i/\(∀n∈(dH [] (Kd.names k)).take i,iB OG PG n≠none)/\kY K H3 kvs (fun n=>if n∈(dH [] (Kd.names k)).take i then iB OG PG n else none))
  ⟨none,none,[],rfl,hS1,hl,s1 _ _ ac,hpr,Nat.le_refl _,fun n hn=>(by simp at hn),fun n=>.inl ⟨rfl,by simp⟩⟩ ?_ ?_ ?_⟩
 ·rintro i σ H3 _ ⟨x5,x6,kvs,rfl,_,h3,_⟩
  exact SqL.of h3
 ·rintro i y σ H3 hy ⟨x5,x6,kvs,rfl,s3,hl3,hg3,hp3,hkl,hto,hG⟩
  obtain⟨b,hb,rfl⟩:∃b,as[i]?=some b/\V.ref b=y:=by
   rw [List.getElem?_map] at hy
   exact Option.map_eq_some_iff.mp hy
  obtain⟨n,hn,htu⟩:=lZ hp3 hb
  have hnm':n∈Kd.names k:=by
   rcases lC (List.mem_of_getElem? hn) with z|z
   ·cases z
   ·exact z
  have hil:i < as.length:=(List.getElem?_eq_some_iff.mp hb).1
  have etake:(dH [] (Kd.names k)).take (i+1)=(dH [] (Kd.names k)).take i++[n]:=by
   rw [List.take_add_one,hn]
   rfl
  have hkz:kvs.length < sizeLine:=by
   have h1:=lJ (Kd.names k) []
   have h2:=jK k
   have h3:([]:List (Str × Str)).length=0:=rfl
   exact Nat.lt_of_lt_of_le (Nat.lt_succ_self _) (dX (by omega))
  refine⟨b,_,rfl,SqT.of htu,rfl,_,_,rfl,_,_,rfl,rfl,?_⟩
  refine⟨_,rfl,_,rfl,_,rfl,_,rfl,n.1,n.2,o,p,okv,pkv,OG,PG,rfl,(hnm n hnm').1,(hnm n hnm').2,s3 _ _ ho,hO.same s3,s3 _ _ hp,hP.same s3,?_⟩
  cases ht:iB OG PG n with
  |none=>exact .inl ⟨rfl,q1 _ s3 ⟨n,hnm',ht⟩⟩
  |some kk =>
   refine .inr ⟨kk,rfl,fun v hv=>?_⟩
   refine⟨_,rfl,_,rfl,_,rfl,(sz 2),fun c hc=>?_⟩
   have sc:=ad hc (.tup [.str n.1,.str n.2])
   have hg4:=sc _ _ hg3
   have hcg:g≠c:=aH hg3 hc
   have hcl:l≠c:=aH hl3 hc
   have hc0:H c=none:=by
    cases e:H c with
    |none=>rfl
    |some u=>rw [s3 _ _ e] at hc;cases hc
   refine⟨g,_,rfl,gK.t (k:=fP n) hg4 ac hkz,?_⟩
   have keep:∀a xs,SqT K (upd H3 c (.tup [.str n.1,.str n.2])) a xs->SqT K (upd (upd H3 c (.tup [.str n.1,.str n.2])) g (.dT (bc kvs (fP n) v))) a xs:=fun a xs t=>by
    rcases t with (t|⟨o',t⟩)|t
    ·exact .inl (.inl (by rw [aj (fun e=>by rw [e,hg4] at t;cases t)];exact t))
    ·exact .inl (.inr ⟨o',by rw [aj (fun e=>by rw [e,hg4] at t;cases t)];exact t⟩)
    ·exact .inr t
   refine⟨_,_,bc kvs (fP n) v,rfl,tK (d8 s3 sc) hg,?_,ac,?_,?_,?_,?_⟩
   ·rw [aj gne]
    exact sc _ _ hl3
   ·exact Paired.imp' (fun m a e=>by rw [aj (fun z=>by rw [z,hg3] at e;cases e)];exact sc _ _ e) hp3
   ·have:=aG kvs (fP n) v
    omega
   ·rw [etake]
    intro m hm
    rcases List.mem_append.mp hm with z|z
    ·exact hto m z
    ·rw [List.mem_singleton.mp z,ht]
     exact fun e=>nomatch e
   ·have hG2:=AU (n:=n) (hG.same sc) (hv.same sc)
    rw [etake]
    intro mm
    have eG:(if mm∈(dH [] (Kd.names k)).take i++[n] then iB OG PG mm else none)=(if mm=n then some kk else if mm∈(dH [] (Kd.names k)).take i then iB OG PG mm else none):=by
     by_cases e:mm=n
     ·subst e
      rw [if_pos (List.mem_append_right _ (List.mem_singleton.mpr rfl)),if_pos rfl,ht]
     ·rw [if_neg e]
      by_cases e2:mm∈(dH [] (Kd.names k)).take i
      ·rw [if_pos e2,if_pos (List.mem_append_left _ e2)]
      ·rw [if_neg e2,if_neg (fun z=>(List.mem_append.mp z).elim e2 fun z2=>e (List.mem_singleton.mp z2))]
    rcases hG2 mm with ⟨h1,h2⟩|⟨v',k',h1,h2,h3⟩
    ·exact .inl ⟨h1,eG.trans h2⟩
    ·exact .inr ⟨v',k',h1,eG.trans h2,aY keep h3⟩
 ·rintro σ H3 ⟨x5,x6,kvs,rfl,s3,hl3,hg3,hp3,hkl,hto,hG⟩
  rw [lm0,<-hlen,List.take_length] at hto hG
  have hall:∀n∈Kd.names k,iB OG PG n≠none:=fun n hn=>hto n (iI (.inr hn))
  obtain⟨hb9,q3⟩:=q2 hall
  have epc:Kd.put (fun n=>if n∈dH [] (Kd.names k) then iB OG PG n else none) k=Kd.put (iB OG PG) k:=kJ fun n hn=>if_pos (iI (.inr hn))
  refine⟨_,rfl,_,rfl,x,g,k,kvs,_,rfl,hk.same s3,hdp,hg3,hG,fun H4 v4 s4 hv4=>?_⟩
  rw [epc] at hv4
  refine⟨_,rfl,v4,_,m,rfl,hv4,hb9,m0,m1,fun H5 s5=>?_⟩
  have q4:=q3 H5 (d8 s3 (d8 s4 s5))
  by_cases c:((Kd.put (iB OG PG) k).words:Int) > m
  ·rw [if_pos c] at q4 ⊢
   exact q4
  ·rw [if_neg c] at q4 ⊢
   exact q4 v4 (hv4.same s5)
abbrev pfN:List Str:=["face","given","kinds","word","kind","funs","fun"]
def i9(G:Str × Str->Option Kd)(q:Str × Kd):Str × Kd:=(q.1,Kd.put G q.2)
theorem rg{H:Hp}{l a:Addr}{ob:Obj}{kvs:List (Key × V)}{xs:List V}{o:HO}(h:H l=some (.frz ob (.dK kvs)))(t:SqT K H a xs):SqT K (upd H l o) a xs:=by
 rcases t with (t|⟨o',t⟩)|t
 ·exact .inl (.inl (by rw [aj (fun e=>by rw [e,h] at t;cases t)];exact t))
 ·exact .inl (.inr ⟨o',by rw [aj (fun e=>by rw [e,h] at t;cases t)];exact t⟩)
 ·exact .inr t
theorem eu:aO pfN ["face","given"] (ah cI):=mkS
theorem yQ{n:Nat}{f fp CF:Addr}{fdp:FuncData} (GP:bq P w K mg base CX0 n fp fdp ["kind","given"] (pH K n)) (bP:aV K fdp ["kind","given"] []) (kP:W.keepIn K (.ref fp)=true) (mP:mg "put"=some (.ref fp)) (cF:Cls K CF) (nK:bt K CF "kinds")
  {cdv:Value} {A:Around} {outer:List Env} {s:Shared} {H:Hp} {E:XK} (hr:cG (n+2) (A.deeper (PyProof.Rows.envOfC "put_in_face" (ah cI) s.heap.objs.size f cdv))) :
  ∃t,PS (ee CX0 P w K mg base pfN "put_in_face" (ah cI) f cdv A outer s H E).nox ((ar cI).getD 1 (.Pass ⟨0,0,0,0⟩)) t /\
   ∀(D:fZ) (H1:Hp) (fa g dx d1 kd:Addr) (fs:List (Str × V)) (kv1:List (Key × V)) (m1:List (Str × Kd)) (kvs:List (List Key × V)) (G:Str × Str->Option Kd),aE H H1->H fa=some (.ins CF dx fs)->fs.lookup ("kinds":Str)=some (.ref d1)->H d1=some (.dK kv1)->dM (cc K H) kv1 m1->(m1.map (·.1)).Nodup->m1.length<=100 ->
    (∀q∈m1,Kd.depth q.2<=n)->H g=some (.dT kvs)->kY K H kvs G->H kd=none->H1 kd=some (.dK []) ->
    (∀(H4:Hp) (y3 y4:Option V) (kv':List (Key × V)),aE H H4->H4 kd=some (.dK kv')->dM (cc K H4) kv' (m1.map (i9 G))->D.nx [some (.ref fa),some (.ref g),some (.ref kd),y3,y4,none,none] H4) ->
    t D [some (.ref fa),some (.ref g),some (.ref kd),none,none,none,none] H1:=by
 have hu:=dY hr
 have hr0:cG n _:=hr.mono (by omega)
 refine⟨_,fR (di PassesOwn.never rfl (eR (bY (pv 0) rfl)) (dE rfl (aL (aP (i:=3) eu.nd rfl (Or.inl rfl)) (aL (aP (i:=4) eu.nd rfl (Or.inl rfl)) cC)))
   (ao (bw hu (pv 2) (pv 3) (aD GP hr0 (by rfl) mP kP bP .nil bx (aa (pv 4) (aa (pv 1) ae))) rfl))),?_⟩
 intro D H1 fa g dx d1 kd fs kv1 m1 kvs G s1 hfa hl1 hd1 hk1 hnd h100 hdp hg hG hkd hkd1 q
 have hlen:kv1.length=m1.length:=Paired.length hk1
 have nkd:kd≠d1:=fun e=>by rw [e,hd1] at hkd;cases hkd
 refine⟨_,rfl,fa,CF,dx,fs,_,rfl,s1 _ _ hfa,cF,nK,hl1,d1,kv1,rfl,s1 _ _ hd1,fun o=>?_⟩
 refine eE (fun i σ H3=>∃(kv':List (Key × V)) (y3 y4:Option V),σ=[some (.ref fa),some (.ref g),some (.ref kd),y3,y4,none,none]/\(∀b u,H b=some u->b≠d1->H3 b=some u)/\H3 d1=some (.frz o (.dK kv1))/\H3 kd=some (.dK kv') /\
  dM (cc K H3) kv' ((m1.take i).map (i9 G))/\kv'.length<=i/\(∀a xs,SqT K H a xs->SqT K H3 a xs)) ?_ ?_ ?_ ?_
 ·refine⟨[],none,none,rfl,fun b u hb nb=>by rw [aj nb];exact s1 _ _ hb,ac,by rw [aj nkd];exact hkd1,.nil,Nat.le_refl _,fun a xs h=>eS (s1 _ _ hd1) (s1.tup h)⟩
 ·rintro i σ H3 _ ⟨_,_,_,_,_,h,_⟩
  exact h
 ·rintro i p a σ H3 hp ha ⟨kv',y3,y4,rfl,old,hd3,hkd3,hpk,hfew,keep⟩
  obtain⟨⟨z,k⟩,hq,ez,hkz⟩:=bv hk1 hp
  obtain⟨pk,pw⟩:=p
  replace ez:pk=.inr z:=ez
  replace hkz:cc K H pw k:=hkz
  subst ez
  have hi:i < m1.length:=(List.getElem?_eq_some_iff.mp hq).1
  have ea:=ad ha (.tup [kV (.inr z),pw])
  refine⟨a,_,rfl,SqT.of ac,rfl,_,_,rfl,_,_,rfl,rfl,?_⟩
  have gne:g≠d1:=fun e=>by rw [e,hd1] at hg;cases hg
  have keepA:∀b xs,SqT K H b xs->SqT K (upd H3 a (.tup [kV (.inr z),pw])) b xs:=fun b xs h=>ea.tup (keep b xs h)
  refine⟨_,rfl,_,rfl,pw,g,k,kvs,G,rfl,aY keepA hkz,hdp (z,k) (List.mem_of_getElem? hq),ea _ _ (old g _ hg gne),fun nn=>?_,fun H4 v s4 hv=>?_⟩
  ·rcases hG nn with h|⟨v,k',h1,h2,h3⟩
   ·exact .inl h
   ·exact .inr ⟨v,k',h1,h2,aY keepA h3⟩
  ·have hkd4:=s4 _ _ (ea _ _ hkd3)
   refine⟨_,rfl,_,rfl,kd,_,rfl,gK.k (k:=.inr z) hkd4 (Nat.lt_of_lt_of_le (Nat.lt_succ_self _) (dX (by omega))),?_⟩
   have kp5:∀b xs,SqT K H4 b xs->SqT K (upd H4 kd (.dK (bc kv' (.inr z) v))) b xs:=fun b xs h=>eS hkd4 h
   refine⟨_,_,_,rfl,fun b u hb nb=>?_,?_,ac,?_,?_,fun b xs h=>kp5 b xs (s4.tup (keepA b xs h))⟩
   ·rw [aj (fun e=>by rw [e,hkd] at hb;cases hb)]
    exact s4 _ _ (ea _ _ (old b u hb nb))
   ·rw [aj (Ne.symm nkd)]
    exact s4 _ _ (ea _ _ hd3)
   ·have et:(m1.take (i+1)).map (i9 G)=(m1.take i).map (i9 G)++[(z,Kd.put G k)]:=by
     rw [List.take_add_one,hq]
     simp [i9]
    rw [et]
    refine dM.put (hpk.imp fun v' x' h=>aY (fun b xs t=>kp5 b xs (s4.tup (ea.tup t))) h) ?_ (aY kp5 hv)
    have e1:((m1.take i).map (i9 G)).map (·.1)=(m1.map (·.1)).take i:=by
     rw [List.map_map,List.map_take]
     rfl
    rw [e1]
    exact ij hnd (by rw [List.getElem?_map,hq];rfl)
   ·have:=aG kv' (.inr z) v
    omega
 ·rintro σ H3 ⟨kv',y3,y4,rfl,old,hd3,hkd3,hpk,hfew,keep⟩
  refine⟨d1,o,.dK kv1,hd3,fun o' u' e=>?_,?_⟩
  ·have e':H d1=some (.frz o' u'):=e
   rw [hd1] at e'
   cases e'
  ·have hs:aE H (upd H3 d1 (.dK kv1)):=fun b u hb=>by
    by_cases e:b=d1
    ·rw [e] at hb ⊢
     rw [hd1] at hb
     cases hb
     exact ac
    ·rw [aj e]
     exact old b u hb e
   refine q _ y3 y4 kv' hs (by rw [aj nkd];exact hkd3) ?_
   rw [hlen,List.take_length] at hpk
   exact hpk.imp fun v x h=>aY (fun a xs t=>rg hd3 t) h
def jg(G:Str × Str->Option Kd)(q:Str × (List Kd × Kd)):Str × (List Kd × Kd):=(q.1,(q.2.1.map (Kd.put G),Kd.put G q.2.2))
theorem wO{n:Nat}{f fp CF:Addr}{fdp:FuncData} (GP:bq P w K mg base CX0 (n+1) fp fdp ["fun","given"] (hV K n)) (bP:aV K fdp ["fun","given"] []) (kP:W.keepIn K (.ref fp)=true) (mP:mg "put_in_fun"=some (.ref fp)) (cF:Cls K CF) (nK:bt K CF "funs")
  {cdv:Value} {A:Around} {outer:List Env} {s:Shared} {H:Hp} {E:XK} (hr:cG (n+2) (A.deeper (PyProof.Rows.envOfC "put_in_face" (ah cI) s.heap.objs.size f cdv))) :
  ∃t,PS (ee CX0 P w K mg base pfN "put_in_face" (ah cI) f cdv A outer s H E).nox ((ar cI).getD 3 (.Pass ⟨0,0,0,0⟩)) t /\
   ∀(D:fZ) (B H1:Hp) (fa g dx d1 kd:Addr) (k0 y3 y4:Option V) (fs:List (Str × V)) (kv1:List (Key × V)) (m1:List (Str × (List Kd × Kd))) (kvs:List (List Key × V)) (G:Str × Str->Option Kd),(∀o u,H d1≠some (.frz o u))->aE B H1->B fa=some (.ins CF dx fs)->fs.lookup ("funs":Str)=some (.ref d1)->B d1=some (.dK kv1)->dM (db K B) kv1 m1->(m1.map (·.1)).Nodup->m1.length<=100 ->
    (∀q∈m1,(∀k∈q.2.1,Kd.depth k<=n)/\Kd.depth q.2.2<=n/\q.2.1.length<=100)->B g=some (.dT kvs)->kY K B kvs G->B kd=none->H1 kd=some (.dK []) ->
    (∀(H4:Hp) (y3 y6:Option V) (kv':List (Key × V)),aE B H4->H4 kd=some (.dK kv')->dM (db K H4) kv' (m1.map (jg G))->D.nx [some (.ref fa),some (.ref g),k0,y3,y4,some (.ref kd),y6] H4) ->
    t D [some (.ref fa),some (.ref g),k0,y3,y4,some (.ref kd),none] H1:=by
 have hu:=dY hr
 have hr0:cG (n+1) _:=hr.mono (by omega)
 refine⟨_,fR (di PassesOwn.never rfl (eR (bY (pv 0) rfl)) (dE rfl (aL (aP (i:=3) eu.nd rfl (Or.inl rfl)) (aL (aP (i:=6) eu.nd rfl (Or.inl rfl)) cC)))
   (ao (bw hu (pv 5) (pv 3) (aD GP hr0 (by rfl) mP kP bP .nil bx (aa (pv 6) (aa (pv 1) ae))) rfl))),?_⟩
 intro D B H1 fa g dx d1 kd k0 y30 y4 fs kv1 m1 kvs G hH s1 hfa hl1 hd1 hk1 hnd h100 hdp hg hG hkd hkd1 q
 have hlen:kv1.length=m1.length:=Paired.length hk1
 have nkd:kd≠d1:=fun e=>by rw [e,hd1] at hkd;cases hkd
 refine⟨_,rfl,fa,CF,dx,fs,_,rfl,s1 _ _ hfa,cF,nK,hl1,d1,kv1,rfl,s1 _ _ hd1,fun o=>?_⟩
 refine eE (fun i σ H3=>∃(kv':List (Key × V)) (y3 y6:Option V),σ=[some (.ref fa),some (.ref g),k0,y3,y4,some (.ref kd),y6]/\(∀b u,B b=some u->b≠d1->H3 b=some u)/\H3 d1=some (.frz o (.dK kv1))/\H3 kd=some (.dK kv') /\
  dM (db K H3) kv' ((m1.take i).map (jg G))/\kv'.length<=i/\(∀a xs,SqT K B a xs->SqT K H3 a xs)) ?_ ?_ ?_ ?_
 ·refine⟨[],y30,none,rfl,fun b u hb nb=>by rw [aj nb];exact s1 _ _ hb,ac,by rw [aj nkd];exact hkd1,.nil,Nat.le_refl _,fun a xs h=>eS (s1 _ _ hd1) (s1.tup h)⟩
 ·rintro i σ H3 _ ⟨_,_,_,_,_,h,_⟩
  exact h
 ·rintro i p a σ H3 hp ha ⟨kv',y3,y6,rfl,old,hd3,hkd3,hpk,hfew,keep⟩
  obtain⟨⟨z,k⟩,hq,ez,hkz⟩:=bv hk1 hp
  obtain⟨pk,pw⟩:=p
  replace ez:pk=.inr z:=ez
  replace hkz:db K B pw k:=hkz
  obtain⟨tp,ta,tx,txs,rfl,f1,f2,f3,f4⟩:=hkz
  obtain⟨dpA,dpB,dpC⟩:=hdp (z,k) (List.mem_of_getElem? hq)
  subst ez
  have hi:i < m1.length:=(List.getElem?_eq_some_iff.mp hq).1
  have ea:=ad ha (.tup [kV (.inr z),.ref tp])
  refine⟨a,_,rfl,SqT.of ac,rfl,_,_,rfl,_,_,rfl,rfl,?_⟩
  have gne:g≠d1:=fun e=>by rw [e,hd1] at hg;cases hg
  have keepA:∀b xs,SqT K B b xs->SqT K (upd H3 a (.tup [kV (.inr z),.ref tp])) b xs:=fun b xs h=>ea.tup (keep b xs h)
  refine⟨_,rfl,_,rfl,tp,g,ta,tx,txs,k.1,k.2,kvs,G,rfl,keepA _ _ f1,keepA _ _ f2,jC keepA f3,aY keepA f4,dpA,dpB,dpC,ea _ _ (old g _ hg gne),fun nn=>?_,fun H4 p4 ta4 xs4 x4 s4 v1 v2 v3 v4=>?_⟩
  ·rcases hG nn with h|⟨v,k',h1,h2,h3⟩
   ·exact .inl h
   ·exact .inr ⟨v,k',h1,h2,aY keepA h3⟩
  ·have hkd4:=s4 _ _ (ea _ _ hkd3)
   refine⟨_,rfl,_,rfl,kd,_,rfl,gK.k (k:=.inr z) hkd4 (Nat.lt_of_lt_of_le (Nat.lt_succ_self _) (dX (by omega))),?_⟩
   have kp5:∀b xs,SqT K H4 b xs->SqT K (upd H4 kd (.dK (bc kv' (.inr z) (.ref p4)))) b xs:=fun b xs h=>eS hkd4 h
   refine⟨_,_,_,rfl,fun b u hb nb=>?_,?_,ac,?_,?_,fun b xs h=>kp5 b xs (s4.tup (keepA b xs h))⟩
   ·rw [aj (fun e=>by rw [e,hkd] at hb;cases hb)]
    exact s4 _ _ (ea _ _ (old b u hb nb))
   ·rw [aj (Ne.symm nkd)]
    exact s4 _ _ (ea _ _ hd3)
   ·have et:(m1.take (i+1)).map (jg G)=(m1.take i).map (jg G)++[(z,(k.1.map (Kd.put G),Kd.put G k.2))]:=by
     rw [List.take_add_one,hq]
     simp [jg]
    rw [et]
    refine dM.put (hpk.imp fun v' x' h=>h.keep (fun b xs t=>kp5 b xs (s4.tup (ea.tup t)))) ?_ ⟨p4,ta4,x4,xs4,rfl,kp5 _ _ (SqT.of v1),kp5 _ _ (SqT.of v2),jC kp5 v3,aY kp5 v4⟩
    have e1:((m1.take i).map (jg G)).map (·.1)=(m1.map (·.1)).take i:=by
     rw [List.map_map,List.map_take]
     rfl
    rw [e1]
    exact ij hnd (by rw [List.getElem?_map,hq];rfl)
   ·have:=aG kv' (.inr z) (.ref p4)
    omega
 ·rintro σ H3 ⟨kv',y3,y6,rfl,old,hd3,hkd3,hpk,hfew,keep⟩
  refine⟨d1,o,.dK kv1,hd3,fun o' u' e=>hH o' u' e,?_⟩
  ·have hs:aE B (upd H3 d1 (.dK kv1)):=fun b u hb=>by
    by_cases e:b=d1
    ·rw [e] at hb ⊢
     rw [hd1] at hb
     cases hb
     exact ac
    ·rw [aj e]
     exact old b u hb e
   refine q _ y3 y6 kv' hs (by rw [aj nkd];exact hkd3) ?_
   rw [hlen,List.take_length] at hpk
   exact hpk.imp fun v x h=>h.keep (fun a xs t=>rg hd3 t)
def eO(K:W.Frag)(H0 H:Hp)(CF fa:Addr)(m1:List (Str × Kd))(m2:List (Str × (List Kd × Kd))):Prop :=
 ∃(dx d1 d2:Addr) (fs:List (Str × V)) (kv1 kv2:List (Key × V)),H0 d1=none/\H0 d2=none/\d1≠d2/\H fa=some (.ins CF dx fs)/\fs.lookup ("kinds":Str)=some (.ref d1)/\fs.lookup ("funs":Str)=some (.ref d2)/\H d1=some (.dK kv1)/\H d2=some (.dK kv2)/\dM (cc K H) kv1 m1/\dM (db K H) kv2 m2/\fs.lookup ("hidden":Str)=none/\fs.lookup ("put":Str)=none
def j9(K:W.Frag)(CF:Addr)(n:Nat):Sp:=fun vs H Q _=>∃(fa g:Addr) (m1:List (Str × Kd)) (m2:List (Str × (List Kd × Kd))) (kvs:List (List Key × V)) (G:Str × Str->Option Kd),vs=[.ref fa,.ref g]/\dZ K H CF fa m1 m2/\(m1.map (·.1)).Nodup/\(m2.map (·.1)).Nodup/\m1.length<=100/\m2.length<=100 /\
 (∀q∈m1,Kd.depth q.2<=n)/\(∀q∈m2,(∀k∈q.2.1,Kd.depth k<=n)/\Kd.depth q.2.2<=n/\q.2.1.length<=100)/\H g=some (.dT kvs)/\kY K H kvs G /\
 ∀H' (x:Addr),aE H H'->H x=none->eO K H H' CF x (m1.map (i9 G)) (m2.map (jg G))->Q (.ref x) H'
theorem sP{n:Nat}{f fp fq fi CF:Addr}{fd fdp fdq fdi:FuncData} (F:Fun K "put_in_face" "put_in_face" cI f fd) (GP:bq P w K mg base CX0 n fp fdp ["kind","given"] (pH K n)) (bP:aV K fdp ["kind","given"] []) (kP:W.keepIn K (.ref fp)=true) (mP:mg "put"=some (.ref fp))
  (GF:bq P w K mg base CX0 (n+1) fq fdq ["fun","given"] (hV K n)) (bF:aV K fdq ["fun","given"] []) (kF:W.keepIn K (.ref fq)=true) (mF:mg "put_in_fun"=some (.ref fq))
  (GI:bq P w K mg base CX0 1 fi fdi ["self","kinds","funs"] (iD CF)) (bI:aV K fdi ["self","kinds","funs"] []) (MF:Mk K CF fi) (mC:mg "Face"=some (.ref CF)) (cF:Cls K CF) (nK:bt K CF "kinds") (nF:bt K CF "funs") :
  bq P w K mg base CX0 (n+2+1) f fd ["face","given"] (j9 K CF n):=by
 refine F.k0 eu fun cdv A outer s H vs Q E hr h=>?_
 obtain⟨fa,g,m1,m2,kvs,G,rfl,⟨dx,d1,d2,fs,kv1,kv2,hfa,l1,l2,hd1,hd2,hk1,hk2,_,_⟩,nd1,nd2,hm1,hm2,dp1,dp2,hg,hG,q⟩:=h
 have hr2:cG (1+1) _:=hr.mono (by omega)
 obtain⟨t1,e1,k1⟩:=yQ (outer:=outer) (H:=H) (E:=E) GP bP kP mP cF nK hr
 obtain⟨t3,e3,k3⟩:=wO (outer:=outer) (H:=H) (E:=E) GF bF kF mF cF nF hr
 refine⟨_,(@ag _ _ _ _ _ (@lK _ _ 2 _ _ _ _ eu.nd rfl (Or.inl rfl) (@gA _ _) rfl (Or.inl rfl))
  (@ag _ _ _ _ _ @e1
  (@ag _ _ _ _ _ (@lK _ _ 5 _ _ _ _ eu.nd rfl (Or.inl rfl) (@gA _ _) rfl (Or.inl rfl))
  (@ag _ _ _ _ _ @e3
  (ao (aS (fU MF GI hr2 (by rfl) mC bI .nil bx (aa (pv 2) (aa (pv 5) ae)))))))):PSs (ee CX0 P w K mg base pfN "put_in_face" (ah cI) f cdv A outer s H E).nox (ar cI) _),?_⟩
 intro kd hkd
 refine k1 _ _ fa g dx d1 kd fs kv1 m1 kvs G (ad hkd _) hfa l1 hd1 hk1 nd1 hm1 dp1 hg hG hkd ac fun H4 y3 y4 kv' s4 hkd4 hpk=>?_
 intro fd2 hfd2
 refine k3 _ H4 _ fa g dx d2 fd2 _ y3 y4 fs kv2 m2 kvs G (fun o u e=>by rw [hd2] at e;cases e) (ad hfd2 _) (s4 _ _ hfa) l2 (s4 _ _ hd2) (hk2.imp fun v x h=>h.keep fun a xs t=>s4.tup t) nd2 hm2 dp2 (s4 _ _ hg) (hG.same s4) hfd2 ac fun H6 y3' y6 kv6 s6 hfd6 hpf=>?_
 refine⟨_,rfl,_,rfl,fun x dx' nx ndx nex=>?_⟩
 have ea:=ad ndx (.own x)
 have nx':upd H6 dx' (.own x) x=none:=by rw [aj (Ne.symm nex)];exact nx
 have eb:=ad nx' (.ins CF dx' [])
 have eab:=ea.trans eb
 refine⟨x,dx',kd,fd2,kv',kv6,rfl,ac,eab _ _ (s6 _ _ hkd4),eab _ _ hfd6,fun d e fs' H7 hd he nde hx lk lf lh lp hd7 he7 keep=>⟨rfl,?_⟩⟩
 have s7:aE H6 H7:=fun b o hb=>keep b o (eab _ _ hb) (fun z=>by rw [z,nx] at hb;cases hb)
 have sA:=s4.trans (s6.trans s7)
 exact q H7 x sA ((s4.trans s6).free nx) ⟨dx',d,e,fs',kv',kv6,(s4.trans (s6.trans eab)).free hd,(s4.trans (s6.trans eab)).free he,nde,hx,lk,lf,hd7,he7,hpk.imp fun v y h=>(h.same s6).same s7,hpf.imp fun v y h=>h.keep fun a xs t=>s7.tup t,lh,lp⟩
abbrev fN:Stmt:=kc (top 15) 1
abbrev pmN:List Str:=["self","given","most","result","kind","taken","answer"]
theorem BE{H:Hp}{d:Addr}(h:H d=none):∀o' u',H d≠some (.frz o' u'):=fun o' u' e=>by
 rw [h] at e
 cases e
theorem lF:aO pmN ["self","given","most"] (ah fN):=mkS
theorem xz{f fb CF CT:Addr}{fdb:FuncData} (GB:bq P w K mg base (CX1 P w) 2 fb fdb ["kind","most"] (ge K CT)) (bB:aV K fdb ["kind","most"] []) (kB:W.keepIn K (.ref fb)=true) (mB:mg "bounded"=some (.ref fb)) (cF:Cls K CF) (nK:bt K CF "kinds")
  {cdv:Value} {A:Around} {outer:List Env} {s:Shared} {H:Hp} {E:XK} (hr:cG 2 (A.deeper (PyProof.Rows.envOfC "Face.put" (ah fN) s.heap.objs.size f cdv))) :
  ∃t,PS (ee (CX1 P w) P w K mg base pmN "Face.put" (ah fN) f cdv A outer s H E) ((ar fN).getD 1 (.Pass ⟨0,0,0,0⟩)) t /\
   ∀(D:fZ) (B:Hp) (a0 a1:Option V) (x dx d1:Addr) (fs:List (Str × V)) (kv1:List (Key × V)) (m1:List (Str × Kd)) (m:Int),aE H B->H d1=none->B x=some (.ins CF dx fs)->fs.lookup ("kinds":Str)=some (.ref d1)->B d1=some (.dK kv1)->dM (cc K B) kv1 m1->m1.length<=100 ->
    (∀q∈m1,q.2.words<=900)->0<=m->m<=1000000 ->
    ((∀q∈m1,(q.2.words:Int)<=m)->∀(H4:Hp) (y4:Option V),aE B H4->D.nx [a0,a1,some (.int m),some (.ref x),y4,none,none] H4) ->
    ((∃q∈m1,¬(q.2.words:Int)<=m)->∀H4:Hp,aE H H4->E (.ref CT) none H4) ->
    t D [a0,a1,some (.int m),some (.ref x),none,none,none] B:=by
 refine⟨_,fR (di PassesOwn.leaving rfl (o8 (bY (pv 3) rfl)) (aP (i:=4) lF.nd rfl (Or.inl rfl))
   (ao (cW (aD GB hr rfl mB kB bB .nil gN (aa (pv 4) (aa (pv 2) ae)))))),?_⟩
 intro D B a0 a1 x dx d1 fs kv1 m1 m sB hd0 hx hl1 hd1 hk1 h100 h9 m0 mM qN qE
 have hlen:kv1.length=m1.length:=Paired.length hk1
 refine⟨_,rfl,x,CF,dx,fs,_,rfl,hx,cF,nK,hl1,d1,kv1,rfl,hd1,fun o=>?_⟩
 refine ly (fun i σ H3=>∃y4:Option V,σ=[a0,a1,some (.int m),some (.ref x),y4,none,none]/\(∀b u,B b=some u->b≠d1->H3 b=some u)/\H3 d1=some (.frz o (.dK kv1))/\(∀a xs,SqT K B a xs->SqT K H3 a xs)/\∀q∈m1.take i,(q.2.words:Int)<=m) ?_ ?_ ?_ ?_
 ·exact⟨none,rfl,fun b u hb nb=>by rw [aj nb];exact hb,ac,fun a xs h=>eS hd1 h,fun q hq=>by simp at hq⟩
 ·rintro i σ H3 _ ⟨_,_,_,h,_⟩
  exact h
 ·rintro i p σ H3 hp ⟨y4,rfl,old,hd3,keep,hto⟩
  obtain⟨⟨z,k⟩,hq,ez,hkz⟩:=bv hk1 hp
  obtain⟨pk,pw⟩:=p
  replace hkz:cc K B pw k:=hkz
  have hmem:(z,k)∈m1:=List.mem_of_getElem? hq
  refine⟨_,rfl,_,rfl,pw,k,m,rfl,aY keep hkz,h9 _ hmem,m0,mM,fun H4 s4=>?_⟩
  have old4:∀b u,B b=some u->b≠d1->H4 b=some u:=fun b u hb nb=>s4 _ _ (old b u hb nb)
  by_cases c:(k.words:Int) > m
  ·rw [if_pos c]
   refine qE ⟨_,hmem,by show ¬(k.words:Int)<=m;omega⟩ H4 fun b u hb=>old4 b u (sB _ _ hb) fun e=>?_
   rw [e,hd0] at hb
   cases hb
  ·rw [if_neg c]
   refine⟨_,rfl,old4,s4 _ _ hd3,fun a xs t=>s4.tup (keep a xs t),fun q hq'=>?_⟩
   rw [List.take_add_one,hq] at hq'
   rcases List.mem_append.mp hq' with h|h
   ·exact hto q h
   ·rw [List.mem_singleton.mp h]
    show(k.words:Int)<=m
    omega
 ·rintro σ H3 ⟨y4,rfl,old,hd3,keep,hto⟩
  rw [hlen,List.take_length] at hto
  refine⟨d1,o,.dK kv1,hd3,BE hd0,qN hto _ y4 fun b u hb=>?_⟩
  by_cases e:b=d1
  ·rw [e] at hb ⊢
   rw [hd1] at hb
   cases hb
   exact ac
  ·rw [aj e]
   exact old b u hb e
def oH(m:Int)(g:List Kd × Kd):Prop:=(∀k∈g.1,(k.words:Int)<=m)/\(g.2.words:Int)<=m
theorem xu{f fb CF CT:Addr}{fdb:FuncData} (GB:bq P w K mg base (CX1 P w) 2 fb fdb ["kind","most"] (ge K CT)) (bB:aV K fdb ["kind","most"] []) (kB:W.keepIn K (.ref fb)=true) (mB:mg "bounded"=some (.ref fb)) (cF:Cls K CF) (nF:bt K CF "funs")
  {cdv:Value} {A:Around} {outer:List Env} {s:Shared} {H:Hp} {E:XK} (hr:cG 2 (A.deeper (PyProof.Rows.envOfC "Face.put" (ah fN) s.heap.objs.size f cdv))) :
  ∃t,PS (ee (CX1 P w) P w K mg base pmN "Face.put" (ah fN) f cdv A outer s H E) ((ar fN).getD 2 (.Pass ⟨0,0,0,0⟩)) t /\
   ∀(D:fZ) (B:Hp) (a0 a1 y4:Option V) (x dx d1:Addr) (fs:List (Str × V)) (kv1:List (Key × V)) (m1:List (Str × (List Kd × Kd))) (m:Int),aE H B->H d1=none->B x=some (.ins CF dx fs)->fs.lookup ("funs":Str)=some (.ref d1)->B d1=some (.dK kv1)->dM (db K B) kv1 m1->m1.length<=100 ->
    (∀q∈m1,(∀k∈q.2.1,k.words<=900)/\q.2.2.words<=900/\q.2.1.length<=100)->0<=m->m<=1000000 ->
    ((∀q∈m1,oH m q.2)->∀(H4:Hp) (y4 y5 y6:Option V),aE B H4->D.nx [a0,a1,some (.int m),some (.ref x),y4,y5,y6] H4) ->
    ((∃q∈m1,¬oH m q.2)->∀H4:Hp,aE H H4->E (.ref CT) none H4) ->
    t D [a0,a1,some (.int m),some (.ref x),y4,none,none] B:=by
 refine⟨_,fR (di PassesOwn.leaving rfl (o8 (bY (pv 3) rfl)) (dE rfl (aL (aP (i:=5) lF.nd rfl (Or.inl rfl)) (aL (aP (i:=6) lF.nd rfl (Or.inl rfl)) cC)))
   (ao (di PassesOwn.leaving rfl (lW (bz zO (pv 5) (ap (aa (pv 6) ae)))) (aP (i:=4) lF.nd rfl (Or.inl rfl))
    (ao (cW (aD GB hr rfl mB kB bB .nil gN (aa (pv 4) (aa (pv 2) ae)))))))),?_⟩
 intro D B a0 a1 y40 x dx d1 fs kv1 m1 m sB hd0 hx hl1 hd1 hk1 h100 h9 m0 mM qN qE
 have hlen:kv1.length=m1.length:=Paired.length hk1
 refine⟨_,rfl,x,CF,dx,fs,_,rfl,hx,cF,nF,hl1,d1,kv1,rfl,hd1,fun o=>?_⟩
 refine ly (fun i σ H3=>∃y4 y5 y6:Option V,σ=[a0,a1,some (.int m),some (.ref x),y4,y5,y6]/\(∀b u,B b=some u->b≠d1->H3 b=some u)/\H3 d1=some (.frz o (.dK kv1))/\(∀a xs,SqT K B a xs->SqT K H3 a xs)/\∀q∈m1.take i,oH m q.2) ?_ ?_ ?_ ?_
 ·exact⟨y40,none,none,rfl,fun b u hb nb=>by rw [aj nb];exact hb,ac,fun a xs h=>eS hd1 h,fun q hq=>by simp at hq⟩
 ·rintro i σ H3 _ ⟨_,_,_,_,_,h,_⟩
  exact h
 ·rintro i p σ H3 hp ⟨y4,y5,y6,rfl,old,hd3,keep,hto⟩
  obtain⟨⟨z,g⟩,hq,ez,hkz⟩:=bv hk1 hp
  obtain⟨pk,pw⟩:=p
  replace hkz:db K B pw g:=hkz
  obtain⟨tp,ta,tx,txs,rfl,f1,f2,f3,f4⟩:=hkz
  have hmem:(z,g)∈m1:=List.mem_of_getElem? hq
  obtain⟨w1,w2,w3⟩:=h9 _ hmem
  have hl3:=f3.length
  refine⟨tp,_,rfl,keep _ _ f1,rfl,_,_,rfl,_,_,rfl,rfl,?_⟩
  refine⟨_,rfl,_,rfl,(sz 1),fun p1 hp1=>?_⟩
  have e1:=ad hp1 (.tup [tx])
  have hw3:txs.length+([tx]:List V).length<=sizeLine:=dX (by show txs.length+1<=1000;have:g.1.length<=100:=w3;omega)
  refine⟨ta,p1,txs,[tx],rfl,rfl,e1.tup (keep _ _ f2),SqT.of ac,(by intro z;cases z),hw3,fun p2 H4 s4 hp2=>?_⟩
  have sA:=e1.trans s4
  have hks:dI K B (txs++[tx]) (g.1++[g.2]):=f3.append (one f4)
  refine⟨p2,rfl,⟨_,hp2⟩,pV (K:=K) (xs:=txs++[tx]) (fun j σ H5=>∃y4:Option V,σ=[a0,a1,some (.int m),some (.ref x),y4,some (.ref ta),some tx]/\aE H4 H5/\∀k∈(g.1++[g.2]).take j,(k.words:Int)<=m) ⟨y4,rfl,sr0,fun k hk=>by simp at hk⟩ ?_ ?_ ?_⟩
  ·rintro j σ H5 _ ⟨_,_,s5,_⟩
   exact s5.tup hp2
  ·rintro j y σ H5 hy ⟨y4',rfl,s5,hto5⟩
   obtain⟨k,hk,hky⟩:=qi hks hy
   have hkm:k∈g.1++[g.2]:=List.mem_of_getElem? hk
   have hk9:k.words<=900:=by
    rcases List.mem_append.mp hkm with h|h
    ·exact w1 k h
    ·rw [List.mem_singleton.mp h];exact w2
   have keep5:∀a xs,SqT K B a xs->SqT K H5 a xs:=fun a xs t=>(sA.trans s5).tup (keep a xs t)
   refine⟨_,rfl,_,rfl,y,k,m,rfl,aY keep5 hky,hk9,m0,mM,fun H6 s6=>?_⟩
   by_cases c:(k.words:Int) > m
   ·rw [if_pos c]
    refine qE ⟨_,hmem,fun hf=>?_⟩ H6 fun b u hb=>s6 _ _ (s5 _ _ (sA _ _ (old b u (sB _ _ hb) fun e=>?_)))
    ·rcases List.mem_append.mp hkm with h|h
     ·have:=hf.1 k h
      omega
     ·have h2:(g.2.words:Int)<=m:=hf.2
      rw [List.mem_singleton.mp h] at c
      omega
    ·rw [e,hd0] at hb
     cases hb
   ·rw [if_neg c]
    refine⟨_,rfl,s5.trans s6,fun k' hk'=>?_⟩
    rw [List.take_add_one,hk] at hk'
    rcases List.mem_append.mp hk' with h|h
    ·exact hto5 k' h
    ·rw [List.mem_singleton.mp h]
     omega
  ·rintro σ H5 ⟨y4',rfl,s5,hto5⟩
   have el:(txs++[tx]).length=(g.1++[g.2]).length:=hks.length
   rw [el,List.take_length] at hto5
   refine⟨_,_,_,rfl,fun b u hb nb=>s5 _ _ (sA _ _ (old b u hb nb)),s5 _ _ (sA _ _ hd3),fun a xs t=>(sA.trans s5).tup (keep a xs t),fun q hq'=>?_⟩
   rw [List.take_add_one,hq] at hq'
   rcases List.mem_append.mp hq' with h|h
   ·exact hto q h
   ·rw [List.mem_singleton.mp h]
    exact⟨fun k hk=>hto5 k (List.mem_append_left _ hk),hto5 g.2 (List.mem_append_right _ (List.mem_singleton.mpr rfl))⟩
 ·rintro σ H3 ⟨y4,y5,y6,rfl,old,hd3,keep,hto⟩
  rw [hlen,List.take_length] at hto
  refine⟨d1,o,.dK kv1,hd3,BE hd0,qN hto _ y4 y5 y6 fun b u hb=>?_⟩
  by_cases e:b=d1
  ·rw [e] at hb ⊢
   rw [hd1] at hb
   cases hb
   exact ac
  ·rw [aj e]
   exact old b u hb e
def vS(m:Int)(m1:List (Str × Kd))(m2:List (Str × (List Kd × Kd))):Prop:=(∀q∈m1,(q.2.words:Int)<=m)/\∀q∈m2,oH m q.2
def yi(K:W.Frag)(CF CT:Addr)(n:Nat):Sp:=fun vs H Q E=>∃(fa g:Addr) (m:Int) (m1:List (Str × Kd)) (m2:List (Str × (List Kd × Kd))) (kvs:List (List Key × V)) (G:Str × Str->Option Kd),vs=[.ref fa,.ref g,.int m]/\dZ K H CF fa m1 m2/\(m1.map (·.1)).Nodup/\(m2.map (·.1)).Nodup/\m1.length<=100/\m2.length<=100 /\
 (∀q∈m1,Kd.depth q.2<=n)/\(∀q∈m2,(∀k∈q.2.1,Kd.depth k<=n)/\Kd.depth q.2.2<=n/\q.2.1.length<=100)/\H g=some (.dT kvs)/\kY K H kvs G /\
 (∀q∈m1,(Kd.put G q.2).words<=900)/\(∀q∈m2,(∀k∈q.2.1,(Kd.put G k).words<=900)/\(Kd.put G q.2.2).words<=900)/\0<=m/\m<=1000000 /\
 (vS m (m1.map (i9 G)) (m2.map (jg G))->∀H' (x:Addr),aE H H'->H x=none->eO K H H' CF x (m1.map (i9 G)) (m2.map (jg G))->Q (.ref x) H') /\
 (¬vS m (m1.map (i9 G)) (m2.map (jg G))->∀H',aE H H'->E (.ref CT) none H')
theorem yK{n:Nat}{f fq fb CF CT:Addr}{dV:Value}{fd fdq fdb:FuncData} (F:jT K "put" "Face.put" fN dV f fd) (GF:bq P w K mg base CX0 (n+2+1) fq fdq ["face","given"] (j9 K CF n)) (bF:aV K fdq ["face","given"] []) (kF:W.keepIn K (.ref fq)=true) (mF:mg "put_in_face"=some (.ref fq))
  (GB:bq P w K mg base (CX1 P w) 2 fb fdb ["kind","most"] (ge K CT)) (bB:aV K fdb ["kind","most"] []) (kB:W.keepIn K (.ref fb)=true) (mB:mg "bounded"=some (.ref fb)) (cF:Cls K CF) (nK:bt K CF "kinds") (nF:bt K CF "funs") :
  bq P w K mg base (CX1 P w) (n+2+1+1) f fd ["self","given","most"] (yi K CF CT n):=by
 refine F.okX lF (fun vs H Q E h=>?_) (fun cdv A outer s H vs Q E hr h=>?_)
 ·obtain⟨fa,g,m,m1,m2,kvs,G,rfl,_⟩:=h
  rfl
 obtain⟨fa,g,m,m1,m2,kvs,G,rfl,hF,nd1,nd2,hm1,hm2,dp1,dp2,hg,hG,w1,w2,m0,mM,qN,qE⟩:=h
 have hr2:cG 2 _:=hr.mono (by omega)
 obtain⟨t1,e1,k1⟩:=xz (outer:=outer) (H:=H) (E:=E) GB bB kB mB cF nK hr2
 obtain⟨t2,e2,k2⟩:=xu (outer:=outer) (H:=H) (E:=E) GB bB kB mB cF nF hr2
 refine⟨_,(@ag _ _ _ _ _ (ba (i:=3) lF.nd (aD GF hr (by rfl) mF kF bF .nil bx (aa (pv 0) (aa (pv 1) ae))))
  (@ag _ _ _ _ _ @e1
  (@ag _ _ _ _ _ @e2
  (ao (aS (pv 3))))):PSs (ee (CX1 P w) P w K mg base pmN "Face.put" (ah fN) f cdv A outer s H E) (ar fN) _),?_⟩
 refine⟨_,rfl,_,rfl,fa,g,m1,m2,kvs,G,rfl,hF,nd1,nd2,hm1,hm2,dp1,dp2,hg,hG,fun H1 x s1 hx hN=>?_⟩
 obtain⟨dx,d1,d2,fs,kv1,kv2,n1,n2,ne,hfx,l1,l2,hd1,hd2,hk1,hk2,lh,lp⟩:=id hN
 refine k1 _ H1 _ _ x dx d1 fs kv1 (m1.map (i9 G)) m s1 n1 hfx l1 hd1 hk1 (by rw [lm0];exact hm1) ?_ m0 mM (fun hf1 H2 y4 s2=>?_) fun hb1 H2 s2=>qE (fun hf=>?_) H2 s2
 ·intro q hq
  obtain⟨q',hq',rfl⟩:=List.mem_map.mp hq
  exact w1 q' hq'
 ·refine k2 _ H2 _ _ y4 x dx d2 fs kv2 (m2.map (jg G)) m (s1.trans s2) n2 (s2 _ _ hfx) l2 (s2 _ _ hd2) (hk2.imp fun v y h=>h.keep fun a xs t=>s2.tup t) (by rw [lm0];exact hm2) ?_ m0 mM (fun hf2 H3 y4 y5 y6 s3=>?_) fun hb2 H3 s3=>qE (fun hf=>?_) H3 s3
  ·intro q hq
   obtain⟨q',hq',rfl⟩:=List.mem_map.mp hq
   refine⟨fun k hk=>?_,(w2 q' hq').2,?_⟩
   ·obtain⟨k',hk',rfl⟩:=List.mem_map.mp hk
    exact(w2 q' hq').1 k' hk'
   ·show(q'.2.1.map (Kd.put G)).length<=100
    rw [lm0]
    exact(dp2 q' hq').2.2
  ·have s23:=s2.trans s3
   refine⟨_,rfl,qN ⟨hf1,hf2⟩ H3 x (s1.trans s23) hx ⟨dx,d1,d2,fs,kv1,kv2,n1,n2,ne,s23 _ _ hfx,l1,l2,s23 _ _ hd1,s23 _ _ hd2,hk1.imp fun v y h=>h.same s23,hk2.imp fun v y h=>h.keep fun a xs t=>s23.tup t,lh,lp⟩⟩
  ·obtain⟨q,hq,hn⟩:=hb2
   exact hn (hf.2 q hq)
 ·obtain⟨q,hq,hn⟩:=hb1
  exact hn (hf.1 q hq)
def eY(t:Str)(g:Kd):Str × Str->Option Kd:=fun n=>if n=(("":Str),t) then some g else none
def B0(m1:List (Str × Kd))(m2:List (Str × (List Kd × Kd))):Bool:=(m1.all fun q=>decide ((q.2.words:Int)<=40))&&m2.all fun q=>(q.2.1.all fun k=>decide ((k.words:Int)<=40))&&decide ((q.2.2.words:Int)<=40)
theorem qL{m1:List (Str × Kd)}{m2:List (Str × (List Kd × Kd))}:B0 m1 m2=true↔vS 40 m1 m2:=by
 unfold B0 vS oH
 simp only [Bool.and_eq_true,List.all_eq_true,decide_eq_true_eq]
inductive RR where
 |ok (m1:List (Str × Kd)) (m2:List (Str × (List Kd × Kd)))
 |no
 |big
def js:RR->Str × Kd->RR
 |.ok m1 m2,(t,g)=>if t∈eM m1 then (if B0 (m1.map (i9 (eY t g))) (m2.map (jg (eY t g)))=true then .ok (m1.map (i9 (eY t g))) (m2.map (jg (eY t g))) else .big) else .no
 |.no,_=>.no
 |.big,_=>.big
def lc(m1:List (Str × Kd))(m2:List (Str × (List Kd × Kd)))(ws:List (Str × Kd)):RR:=ws.foldl js (.ok m1 m2)
theorem vh:∀ws:List (Str × Kd),ws.foldl js .no=.no
 |[]=>rfl
 |_::ws=>vh ws
theorem rM:∀ws:List (Str × Kd),ws.foldl js .big=.big
 |[]=>rfl
 |_::ws=>rM ws
theorem nR(m1:List (Str × Kd))(m2:List (Str × (List Kd × Kd)))(a b:List (Str × Kd)):lc m1 m2 (a++b)=b.foldl js (lc m1 m2 a):=List.foldl_append
theorem tQ(m1:List (Str × Kd))(m2:List (Str × (List Kd × Kd))){ws:List (Str × Kd)}{i:Nat}{q:Str × Kd}(h:ws[i]?=some q):lc m1 m2 (ws.take (i+1))=js (lc m1 m2 (ws.take i)) q:=by
 rw [List.take_add_one,h,nR]
 rfl
theorem yR{m1:List (Str × Kd)}{m2:List (Str × (List Kd × Kd))}{ws:List (Str × Kd)}{i:Nat}(h:lc m1 m2 (ws.take i)=.no):lc m1 m2 ws=.no:=by
 rw [<-List.take_append_drop i ws,nR,h,vh]
theorem wc{m1:List (Str × Kd)}{m2:List (Str × (List Kd × Kd))}{ws:List (Str × Kd)}{i:Nat}(h:lc m1 m2 (ws.take i)=.big):lc m1 m2 ws=.big:=by
 rw [<-List.take_append_drop i ws,nR,h,rM]
def zb(k:Kd):Prop:=Kd.ok k/\k.words<=40
structure xF(m1:List (Str × Kd))(m2:List (Str × (List Kd × Kd))):Prop where
 nd1:(m1.map (·.1)).Nodup
 nd2:(m2.map (·.1)).Nodup
 l1:m1.length<=100
 l2:m2.length<=100
 k1:∀q∈m1,okW q.1/\zb q.2
 k2:∀q∈m2,okW q.1/\(∀k∈q.2.1,zb k)/\zb q.2.2/\q.2.1.length<=100
def CQ(ws:List (Str × Kd)):Prop:=∀q∈ws,okW q.1/\Kd.ok q.2/\q.2.words<=27
theorem gy{G:Str × Str->Option Kd}{c:Nat}(hc:1<=c)(hG:∀n g,G n=some g->g.leaves.length<=c):∀k:Kd,(Kd.put G k).leaves.length<=k.leaves.length*c
 |.num n=>by
  show 1<=1*c
  omega
 |.name q t=>by
  show((G (q,t)).getD (.name q t)).leaves.length<=1*c
  cases e:G (q,t) with
  |none =>
   show 1<=1*c
   omega
  |some g =>
   have:=hG _ _ e
   show g.leaves.length<=1*c
   omega
 |.pair a b=>by
  have h1:=gy hc hG a
  have h2:=gy hc hG b
  show((Kd.put G a).leaves++(Kd.put G b).leaves).length<=(a.leaves++b.leaves).length*c
  rw [la0,la0,Nat.add_mul]
  omega
theorem iP{G:Str × Str->Option Kd}(hG:∀n g,G n=some g->Kd.ok g):∀{k:Kd},Kd.ok k->Kd.ok (Kd.put G k)
 |.num n,_=>trivial
 |.name q t,h=>by
  show Kd.ok ((G (q,t)).getD (.name q t))
  cases e:G (q,t) with
  |none=>exact h
  |some g=>exact hG _ _ e
 |.pair a b,h=>⟨iP hG h.1,iP hG h.2⟩
theorem ix{t:Str}{g:Kd}{n:Str × Str}{g':Kd}(h:eY t g n=some g'):g'=g:=by
 unfold eY at h
 split at h
 ·exact(Option.some.inj h).symm
 ·cases h
theorem iU{t:Str}{g k:Kd}(hg:g.words<=27)(hk:k.words<=40):(Kd.put (eY t g) k).words<=900:=by
 have h1:=gy (G:=eY t g) (c:=14) (by decide) (fun n g' e=>by
  rw [ix e]
  have:=cP g
  omega) k
 have h2:=cP (Kd.put (eY t g) k)
 have h3:=cP k
 have h4:k.leaves.length*14<=20*14:=Nat.mul_le_mul_right _ (by omega)
 omega
theorem uA(G:Str × Str->Option Kd)(m1:List (Str × Kd)):(m1.map (i9 G)).map (·.1)=m1.map (·.1):=by
 rw [List.map_map]
 rfl
theorem uN(G:Str × Str->Option Kd)(m2:List (Str × (List Kd × Kd))):(m2.map (jg G)).map (·.1)=m2.map (·.1):=by
 rw [List.map_map]
 rfl
theorem xF.step{m1:List (Str × Kd)}{m2:List (Str × (List Kd × Kd))}{t:Str}{g:Kd}(h:xF m1 m2)(hg:Kd.ok g)(hf:vS 40 (m1.map (i9 (eY t g))) (m2.map (jg (eY t g)))):xF (m1.map (i9 (eY t g))) (m2.map (jg (eY t g))) where
 nd1:=by rw [uA];exact h.nd1
 nd2:=by rw [uN];exact h.nd2
 l1:=by rw [lm0];exact h.l1
 l2:=by rw [lm0];exact h.l2
 k1:=fun q hq=>by
  have hw:=hf.1 q hq
  obtain⟨q',hq',rfl⟩:=List.mem_map.mp hq
  exact⟨(h.k1 q' hq').1,iP (fun n g' e=>by rw [ix e];exact hg) (h.k1 q' hq').2.1,by omega⟩
 k2:=fun q hq=>by
  have hw:=hf.2 q hq
  obtain⟨q',hq',rfl⟩:=List.mem_map.mp hq
  obtain⟨o1,o2,o3,o4⟩:=h.k2 q' hq'
  refine⟨o1,fun k hk=>?_,⟨iP (fun n g' e=>by rw [ix e];exact hg) o3.1,by have:=hw.2;omega⟩,by show(q'.2.1.map _).length<=100;rw [lm0];exact o4⟩
  have hkw:=hw.1 k hk
  obtain⟨k',hk',rfl⟩:=List.mem_map.mp hk
  exact⟨iP (fun n g' e=>by rw [ix e];exact hg) (o2 k' hk').1,by omega⟩
def fJ(K:W.Frag)(H:Hp)(v:V)(q:Str × Kd):Prop:=∃(p:Addr) (y:V),v=.ref p/\SqT K H p [.str q.1,y]/\cc K H y q.2
theorem fJ.same{K:W.Frag}{H H':Hp}{v:V}{q:Str × Kd}(e:aE H H')(h:fJ K H v q):fJ K H' v q:=by
 obtain⟨p,y,h1,h2,h3⟩:=h
 exact⟨p,y,h1,e.tup h2,h3.same e⟩
def iQ(K:W.Frag)(H:Hp)(xs:List V)(ws:List (Str × Kd)):Prop:=Paired (fJ K H) xs ws
theorem eO.face{K:W.Frag}{H0 H:Hp}{CF x:Addr}{m1:List (Str × Kd)}{m2:List (Str × (List Kd × Kd))}(h:eO K H0 H CF x m1 m2):dZ K H CF x m1 m2:=by
 obtain⟨dx,d1,d2,fs,kv1,kv2,_,_,_,r⟩:=h
 exact⟨dx,d1,d2,fs,kv1,kv2,r⟩
theorem eO.anti{K:W.Frag}{H0 H1 H:Hp}{CF x:Addr}{m1:List (Str × Kd)}{m2:List (Str × (List Kd × Kd))}(e:aE H0 H1)(h:eO K H1 H CF x m1 m2):eO K H0 H CF x m1 m2:=by
 obtain⟨dx,d1,d2,fs,kv1,kv2,n1,n2,r⟩:=h
 exact⟨dx,d1,d2,fs,kv1,kv2,e.free n1,e.free n2,r⟩
theorem dZ.same{K:W.Frag}{H H':Hp}{CF x:Addr}{m1:List (Str × Kd)}{m2:List (Str × (List Kd × Kd))}(e:aE H H')(h:dZ K H CF x m1 m2):dZ K H' CF x m1 m2:=by
 obtain⟨dx,d1,d2,fs,kv1,kv2,h1,h2,h3,h4,h5,h6,h7,h8⟩:=h
 exact⟨dx,d1,d2,fs,kv1,kv2,e _ _ h1,h2,h3,e _ _ h4,e _ _ h5,h6.imp fun v y h=>h.same e,h7.imp fun v y h=>h.keep fun a xs t=>e.tup t,h8⟩
theorem eO.same{K:W.Frag}{H0 H H':Hp}{CF x:Addr}{m1:List (Str × Kd)}{m2:List (Str × (List Kd × Kd))}(e:aE H H')(h:eO K H0 H CF x m1 m2):eO K H0 H' CF x m1 m2:=by
 obtain⟨dx,d1,d2,fs,kv1,kv2,n1,n2,n3,h1,h2,h3,h4,h5,h6,h7,h8⟩:=h
 exact⟨dx,d1,d2,fs,kv1,kv2,n1,n2,n3,e _ _ h1,h2,h3,e _ _ h4,e _ _ h5,h6.imp fun v y h=>h.same e,h7.imp fun v y h=>h.keep fun a xs t=>e.tup t,h8⟩
def o5(K:W.Frag)(CF CN CT:Addr):Sp:=fun vs H Q E=>∃(fa tw:Addr) (m1:List (Str × Kd)) (m2:List (Str × (List Kd × Kd))) (xs:List V) (ws:List (Str × Kd)),vs=[.ref fa,.ref tw]/\dZ K H CF fa m1 m2/\xF m1 m2/\SqL K H tw xs/\iQ K H xs ws/\CQ ws /\
 (∀m1' m2',lc m1 m2 ws=.ok m1' m2'->∀H' (x:Addr),aE H H'->H x=none->eO K H H' CF x m1' m2'->Q (.ref x) H') /\
 (lc m1 m2 ws=.no->∀H',aE H H'->E (.ref CN) none H')/\(lc m1 m2 ws=.big->∀H',aE H H'->E (.ref CT) none H')
theorem Cv{f T:Addr}{fd:FuncData}{oT:Value}{dT:Option Addr}{nT:Nat}{sT:Array (Option Value)}{tk:Tok} (F:jT K "put" "Face.put" fN (.ref T) f fd) (lT:K.lookup T=some ⟨oT,dT,.seq #[.int 40 tk] nT,sT⟩):aV K fd ["self","given","most"] [.int 40 tk] :=
 F.binds lT fun _ _ _ _ _ _ us hl=>by
  have hl':us.length=2:=by simpa using hl
  match us,hl' with
  |[_,_],_=>exact⟨_,rfl,rfl⟩
theorem gf:aO ["face","withs","result","word","kind"] ["face","withs"] (ah gB):=mkS
theorem sU{f fi fh fm CF CN CT T:Addr}{fd fdi fdh fdm:FuncData}{oT:Value}{dT:Option Addr}{nT:Nat}{sT:Array (Option Value)}{tk:Tok} (F:Fun K "refined" "refined" gB f fd)
  (GI:bq P w K mg base CX0 1 fi fdi ["self","kinds","funs"] (iD CF)) (bI:aV K fdi ["self","kinds","funs"] []) (MF:Mk K CF fi) (mC:mg "Face"=some (.ref CF)) (cF:Cls K CF) (nK:bt K CF "kinds") (nF:bt K CF "funs")
  (GH:bq P w K mg base CX0 2 fh fdh ["self"] (ib K CF)) (bH:aV K fdh ["self"] []) (MH:vZ K CF "hidden" fh)
  (FM:jT K "put" "Face.put" fN (.ref T) fm fdm) (lT:K.lookup T=some ⟨oT,dT,.seq #[.int 40 tk] nT,sT⟩)
  (GM:bq P w K mg base (CX1 P w) 44 fm fdm ["self","given","most"] (yi K CF CT 40)) (MM:vZ K CF "put" fm) (mN:mg "NoKind"=some (.ref CN)) (xN:W.excIn K CN kX "ValueError.__new__"=true) :
  bq P w K mg base (CX1 P w) 45 f fd ["face","withs"] (o5 K CF CN CT):=by
 refine F.k1 gf fun cdv A outer s H vs Q E hr h=>?_
 obtain⟨fa,tw,m1,m2,xs,ws,rfl,hF,hG,htw,hxs,hW,q1,q2,q3⟩:=h
 have hu:=dY hr
 have hr2:cG (1+1) _:=hr.mono (by decide)
 have bM:=Cv FM lT
 refine⟨_,ag (ba (i:=2) gf.nd (fU MF GI hr2 (by rfl) mC bI .nil bx (aa (bY (pv 0) rfl) (aa (bY (pv 0) rfl) ae))))
  (ag (di PassesOwn.leaving rfl (iY (pv 1)) (dE rfl (aL (aP (i:=3) gf.nd rfl (Or.inl rfl)) (aL (aP (i:=4) gf.nd rfl (Or.inl rfl)) cC)))
   (ag (cg (aX oU (pv 3) (nS (pv 2) cF MH GH hr2 bH .nil bx) (by with_unfolding_all rfl))
    (ao (eF rfl mN xN (aa (gb (bh (mQ (pv 3)) (bh am jh)) (by decide)) ae))) aU)
   (ao (ba (i:=2) gf.nd (Ae (pv 2) cF MM GM hr bM (.cons (show cy (.int 40) (.int 40 tk) from⟨tk,rfl⟩) .nil) gN (aa (uo hu (ap (aa am (aa (pv 3) ae))) (pv 4)) ae))))))
  (ao (aS (pv 2)))),?_⟩
 obtain⟨dx,d1,d2,fs,kv1,kv2,hfa,l1,l2,hd1,hd2,hk1,hk2,_,_⟩:=hF
 refine⟨_,rfl,fa,CF,dx,fs,_,rfl,hfa,cF,nK,l1,_,rfl,fa,CF,dx,fs,_,rfl,hfa,cF,nF,l2,fun x dx' nx ndx nex=>?_⟩
 have ea:=ad ndx (.own x)
 have nx':upd H dx' (.own x) x=none:=by rw [aj (Ne.symm nex)];exact nx
 have eab:=ea.trans (ad nx' (.ins CF dx' []))
 refine⟨x,dx',d1,d2,kv1,kv2,rfl,ac,eab _ _ hd1,eab _ _ hd2,fun d e fs' H7 hd he nde hx lk lf lh lp hd7 he7 keep=>⟨rfl,?_⟩⟩
 have s7:aE H H7:=fun b o hb=>keep b o (eab _ _ hb) (fun z=>by rw [z,nx] at hb;cases hb)
 have hN7:eO K H H7 CF x m1 m2:=⟨dx',d,e,fs',kv1,kv2,eab.free hd,eab.free he,nde,hx,lk,lf,hd7,he7,hk1.imp fun v y h=>h.same s7,hk2.imp fun v y h=>h.keep fun a xs t=>s7.tup t,lh,lp⟩
 have hlen:xs.length=ws.length:=Paired.length hxs
 refine⟨_,rfl,tw,rfl,⟨_,jw s7 htw⟩,iz (K:=K) (xs:=xs) (fun i σ H3=>∃(n1:List (Str × Kd)) (n2:List (Str × (List Kd × Kd))) (x:Addr) (y3 y4:Option V),σ=[some (.ref fa),some (.ref tw),some (.ref x),y3,y4]/\aE H H3/\H x=none/\eO K H H3 CF x n1 n2/\xF n1 n2/\lc m1 m2 (ws.take i)=.ok n1 n2)
  ⟨m1,m2,x,none,none,rfl,s7,nx,hN7,hG,rfl⟩ ?_ ?_ ?_⟩
 ·rintro i σ H3 _ ⟨_,_,_,_,_,_,s3,_⟩
  exact jw s3 htw
 ·rintro i y σ H3 hy ⟨n1,n2,x3,y3,y4,rfl,s3,nx3,hN3,hG3,hrun⟩
  obtain⟨⟨t,g⟩,hq,p,yk,rfl,hp,hyk⟩:=bv hxs hy
  replace hp:SqT K H p [.str t,yk]:=hp
  replace hyk:cc K H yk g:=hyk
  obtain⟨wo,wk,ww⟩:=hW (t,g) (List.mem_of_getElem? hq)
  replace ww:g.words<=27:=ww
  replace wk:Kd.ok g:=wk
  have esnoc:=tQ m1 m2 hq
  rw [hrun] at esnoc
  refine⟨p,_,rfl,s3.tup hp,rfl,_,_,rfl,_,_,rfl,rfl,?_⟩
  have hF3:=hN3.face
  obtain⟨ex,e1,e2,es,ek1,ek2,g1,g2,g3,g4,g5,g6,g7,g8,g9⟩:=id hF3
  refine⟨_,rfl,_,rfl,x3,ex,es,rfl,g1,g8,x3,n1,n2,rfl,hF3,hG3.l1,fun q hq=>⟨(hG3.k1 q hq).1,(hG3.k1 q hq).2.1,Nat.le_trans (de _) (by have:=(hG3.k1 q hq).2.2;omega)⟩,fun H4 l s4 hl hL=>?_⟩
  refine⟨l,_,rfl,.inl (SqL.of hL),rfl,vB _,_,rfl,?_⟩
  have sA:=s3.trans s4
  refine dL (fun c=>?_) (fun c=>?_)
  ·have c':¬t∈eM n1:=fun hm=>by
    have c2:(!inV (V.str t) ((eM n1).map V.str))=true:=c
    rw [ug.mpr hm] at c2
    cases c2
   have er:js (.ok n1 n2) (t,g)=.no:=if_neg c'
   rw [er] at esnoc
   refine⟨_,rfl,.inl ⟨t,rfl,Nat.le_trans wo.2 (by decide),?_⟩⟩
   refine⟨_,rfl,Nat.le_trans wo.2 (by decide),_,rfl,by decide +kernel,fun z hz=>⟨by show 1<=sizeLine;decide,q2 (yR esnoc) _ sA⟩⟩
  ·have c':t∈eM n1:=by
    have c2:¬(!inV (V.str t) ((eM n1).map V.str))=true:=c
    refine ug.mp ?_
    simpa using c2
   refine⟨_,rfl,x3,ex,es,rfl,s4 _ _ g1,g9,fun pd hpd=>?_⟩
   have sd:=ad hpd (.dT [])
   refine⟨_,rfl,(sz 2),fun pb hpb=>?_⟩
   have sb:=ad hpb (.tup [.str "",.str t])
   refine⟨_,rfl,pb,[.inr "",.inr t],rfl,sb _ _ ac,ac,?_⟩
   have hpd0:H4 pd=none:=hpd
   have sE:aE H4 (upd (upd (upd H4 pd (.dT [])) pb (.tup [.str "",.str t])) pd (.dT (bc [] [.inr "",.inr t] yk))):=tK (sd.trans sb) hpd0
   have gv:kY K (upd (upd (upd H4 pd (.dT [])) pb (.tup [.str "",.str t])) pd (.dT (bc [] [.inr "",.inr t] yk))) (bc [] [.inr "",.inr t] yk) (eY t g):=fun n=>by
    by_cases e:n=(("":Str),t)
    ·subst e
     exact .inr ⟨yk,g,(gE ..).trans (if_pos rfl),if_pos rfl,(hyk.same sA).same sE⟩
    ·have e2:fP n≠fP (("":Str),t):=fun z=>e (jA z)
     exact .inl ⟨(gE ..).trans ((if_neg e2).trans rfl),if_neg e⟩
   have hF5:=(hF3.same s4).same sE
   have sF:=sA.trans sE
   refine⟨x3,pd,40,n1,n2,_,eY t g,rfl,hF5,hG3.nd1,hG3.nd2,hG3.l1,hG3.l2,fun q hq=>Nat.le_trans (de _) (hG3.k1 q hq).2.2,fun q hq=>⟨fun k hk=>Nat.le_trans (de _) ((hG3.k2 q hq).2.1 k hk).2,Nat.le_trans (de _) (hG3.k2 q hq).2.2.1.2,(hG3.k2 q hq).2.2.2⟩,ac,gv,
    fun q hq=>iU ww (hG3.k1 q hq).2.2,fun q hq=>⟨fun k hk=>iU ww ((hG3.k2 q hq).2.1 k hk).2,iU ww (hG3.k2 q hq).2.2.1.2⟩,by decide,by decide,fun hf H6 x6 s6 nx6 hN6=>?_,fun hf H6 s6=>?_⟩
   ·have er:js (.ok n1 n2) (t,g)=.ok (n1.map (i9 (eY t g))) (n2.map (jg (eY t g))):=(if_pos c').trans (if_pos (qL.mpr hf))
    rw [er] at esnoc
    exact⟨_,_,x6,_,_,rfl,sF.trans s6,sF.free nx6,hN6.anti sF,hG3.step wk hf,esnoc⟩
   ·have er:js (.ok n1 n2) (t,g)=.big:=(if_pos c').trans (if_neg fun z=>hf (qL.mp z))
    rw [er] at esnoc
    exact q3 (wc esnoc) _ (sF.trans s6)
 ·rintro σ H3 ⟨n1,n2,x3,y3,y4,rfl,s3,nx3,hN3,hG3,hrun⟩
  rw [hlen,List.take_length] at hrun
  exact⟨_,rfl,q1 n1 n2 hrun H3 x3 s3 nx3 hN3⟩
end
end K48
namespace K48
open PySem L2
def bn(ns:List Int)(k:Int):Int :=
 if k < (ns.length:Int) then (match atI (ns.map V.int) k with|some (.int v)=>v|_=>0)
 else if 0 < (ns.length:Int) then (match atI (ns.map V.int) (k%(ns.length:Int)) with|some (.int v)=>(v%1000003*48271+7919*k*k)%2147483647|_=>0)
 else (7919*k+11)%2147483647
def qt(K:W.Frag):Sp:=fun vs H Q _=>∃(a:Addr) (ns:List Int) (k:Int),vs=[.ref a,.int k]/\SqL K H a (ns.map V.int)/\ns.length<=63/\0<=k/\k<=1000/\∀c:Int,c=bn ns k->Q (.int c) H
section
variable{P:Program}{w:World}{K:W.Frag}{mg:Str->Option Value}{base:Heap}
theorem uK:aO ["_law_script","_law_k","_law_number"] ["_law_script","_law_k"] (ah sO):=mkS
theorem wf{f:Addr}{fd:FuncData} (F:Fun K "_law_cell" "_law_cell" sO f fd) (ml:mg "len"=none):bq P w K mg base CX0 1 f fd ["_law_script","_law_k"] (qt K):=by
 refine F.k0 uK fun cdv A outer s H vs Q E hr h=>?_
 obtain⟨a,ns,k,rfl,hS,h63,h0,h1,q⟩:=h
 refine⟨_,ag (cg (aX C1 (pv 1) (bu cB rfl ml boot_len (aa (pv 0) ae)) (aZ _))
   (ao (aS (ix0 aw (pv 0) (pv 1)))) aU)
  (ag (ba (i:=2) uK.nd (bz fV (bz jp ai (pv 1)) ai))
  (ag (cg (aX vO (bu cB rfl ml boot_len (aa (pv 0) ae)) ai (aZ _))
   (ao (ba (i:=2) uK.nd (bz fV (bz jp (bz d9 (ix0 aw (pv 0) (bz d9 (pv 1) (bu cB rfl ml boot_len (aa (pv 0) ae)))) ai) ai)
    (bz jp (bz jp ai (pv 1)) (pv 1))))) aU)
  (ao (aS (bz d9 (pv 2) ai))))),?_⟩
 have hl:(ns.map V.int).length=ns.length:=List.length_map _
 refine⟨_,rfl,_,rfl,a,_,rfl,.inl hS,_,_,rfl,rfl,_,rfl,?_⟩
 refine dL (fun c=>?_) (fun c=>?_)
 ·have c':k < (((ns.map V.int).length:Nat):Int):=od0 c
  rw [hl] at c'
  obtain⟨v,hv⟩:=xX (ns:=ns) h0 c'
  exact⟨_,rfl,_,rfl,a,_,_,_,rfl,rfl,hS,hv,q _ (by unfold bn;rw [if_pos c',hv])⟩
 ·have c':¬k < (((ns.map V.int).length:Nat):Int):=of_decide_eq_false (Bool.eq_false_iff.mpr c)
  rw [hl] at c'
  refine⟨_,rfl,_,_,rfl,rfl,.inl ⟨by omega,by omega⟩,_,_,rfl,rfl,?_⟩
  refine⟨_,rfl,a,_,rfl,.inl hS,_,_,rfl,rfl,_,rfl,?_⟩
  refine dL (fun d=>?_) (fun d=>?_)
  ·have d':0 < (((ns.map V.int).length:Nat):Int):=od0 d
   rw [hl] at d'
   obtain⟨v,hv⟩:=xX (ns:=ns) (i:=k%(((ns.map V.int).length:Nat):Int)) (by rw [hl];exact Int.emod_nonneg _ (by omega)) (by rw [hl];exact Int.emod_lt_of_pos _ d')
   refine⟨_,rfl,_,rfl,_,rfl,a,_,rfl,.inl hS,_,_,rfl,rfl,(by rw [hl];exact d'),a,_,_,_,rfl,rfl,hS,hv,_,_,rfl,rfl,(by show(0:Int) < 1000003;decide),_,_,rfl,rfl,.inr ⟨by omega,by omega⟩,?_⟩
   refine⟨_,rfl,_,_,rfl,rfl,.inl ⟨by omega,by omega⟩,_,rfl,_,_,rfl,rfl,.inr ⟨by omega,by omega⟩,_,_,rfl,rfl,?_⟩
   exact⟨_,rfl,_,_,rfl,rfl,(by show(0:Int) < 2147483647;decide),q _ (by rw [hl] at hv;unfold bn;rw [if_neg c',if_pos d',hv])⟩
  ·have d':¬0 < (((ns.map V.int).length:Nat):Int):=of_decide_eq_false (Bool.eq_false_iff.mpr d)
   rw [hl] at d'
   exact⟨_,rfl,_,_,rfl,rfl,(by show(0:Int) < 2147483647;decide),q _ (by unfold bn;rw [if_neg c',if_neg d'])⟩
end
end K48
namespace K48
open PySem L2 Kk
abbrev hbN:List Str:=["want","part","given","word"]
def tD(m:List (Str × Kd))(part:Str):Str × Str->Option Kd:=fun n=>if n.1=""/\n.2∈eM m then some (.name part n.2) else none
def ll(K:W.Frag)(CF:Addr):Sp:=fun vs H Q _=>∃(fa:Addr) (part:Str) (m1:List (Str × Kd)) (m2:List (Str × (List Kd × Kd))),vs=[.ref fa,.str part]/\dZ K H CF fa m1 m2/\(m1.map (·.1)).Nodup/\m1.length<=100/\(∀q∈m1,okW q.1/\Kd.ok q.2/\Kd.depth q.2<=60) /\
 ∀H' (g:Addr) (kvs:List (List Key × V)),aE H H'->H g=none->H' g=some (.dT kvs)->kY K H' kvs (tD m1 part)->Q (.ref g) H'
section
variable{P:Program}{w:World}{K:W.Frag}{mg:Str->Option Value}{base:Heap}
theorem iV:aO hbN ["want","part"] (ah fB):=mkS
theorem qk{f fh CF:Addr}{fd fdh:FuncData} (F:Fun K "hidden_by" "hidden_by" fB f fd) (MH:vZ K CF "hidden" fh) (GH:bq P w K mg base CX0 2 fh fdh ["self"] (ib K CF)) (bH:aV K fdh ["self"] []) (cF:Cls K CF) :
  bq P w K mg base CX0 3 f fd ["want","part"] (ll K CF):=by
 refine F.k0 iV fun cdv A outer s H vs Q E hr h=>?_
 obtain⟨fa,part,m1,m2,rfl,hF,hnd,h100,hok,q⟩:=h
 have hu:=dY hr
 refine⟨_,ag (ba (i:=2) iV.nd jH)
  (ag (di PassesOwn.never rfl (iY (nS (pv 0) cF MH GH hr bH .nil bx)) (aP (i:=3) iV.nd rfl (Or.inl rfl))
   (ao (bw hu (pv 2) (ap (aa am (aa (pv 3) ae))) (ap (aa am (aa (pv 1) (aa (pv 3) ae)))) rfl)))
  (ao (aS (pv 2)))),?_⟩
 intro g hgn
 have s2:=ad hgn (.dT [])
 obtain⟨dx,d1,d2,fs,kv1,kv2,hfa,l1,l2,hd1,hd2,hk1,hk2,nh,np⟩:=id (hF.same s2)
 refine⟨_,rfl,fa,dx,fs,rfl,hfa,nh,fa,m1,m2,rfl,hF.same s2,h100,hok,fun H3 l s3 hl2 hl3=>⟨l,rfl,⟨_,SqL.of hl3⟩,?_⟩⟩
 have hg3:=s3 _ _ (show upd H g (.dT []) g=some (.dT []) from ac)
 have lg:l≠g:=fun e=>by rw [e,ac] at hl2;cases hl2
 have hsl:(eM m1).length<=100:=by
  unfold eM
  rw [lm0]
  exact Nat.le_trans (List.length_filter_le _ _) h100
 refine iz (K:=K) (xs:=(eM m1).map V.str) (fun i σ H4=>∃(y3:Option V) (kvs:List (List Key × V)),σ=[some (.ref fa),some (.str part),some (.ref g),y3]/\aE H H4/\H4 l=some (.lst ((eM m1).map V.str))/\H4 g=some (.dT kvs)/\pM K H4 kvs (((eM m1).take i).map fun z=>(z,Kd.name part z)))
  ⟨none,[],rfl,s2.trans s3,hl3,hg3,.nil⟩ ?_ ?_ ?_
 ·rintro i σ H4 _ ⟨_,_,_,_,h,_⟩
  exact SqL.of h
 ·rintro i y σ H4 hy ⟨y3,kvs,rfl,s4,hl4,hg4,hpt⟩
  rw [List.getElem?_map] at hy
  obtain⟨z,hz,rfl⟩:=Option.map_eq_some_iff.mp hy
  have hi:i < (eM m1).length:=(List.getElem?_eq_some_iff.mp hz).1
  refine⟨_,rfl,_,rfl,(sz 3),fun p hp=>?_⟩
  have s5:=ad hp (.tup [.str "name",.str part,.str z])
  refine⟨_,rfl,_,rfl,(sz 2),fun p2 hp2=>?_⟩
  have s6:=ad hp2 (.tup [.str "",.str z])
  have s56:=s5.trans s6
  have kl:kvs.length=i:=by
   have e1:=Paired.length hpt
   rw [lm0,List.length_take] at e1
   omega
  have hg5:=s56 _ _ hg4
  have hv:cc K (upd (upd H4 p (.tup [.str "name",.str part,.str z])) p2 (.tup [.str "",.str z])) (.ref p) (.name part z):=.name (SqT.of (s6 _ _ ac))
  refine⟨g,_,rfl,gK.t (k:=fP ("",z)) hg5 (by rw [ac]<;>rfl) (Nat.lt_of_lt_of_le (Nat.lt_succ_self _) (dX (by omega))),?_⟩
  have kt:∀a xs,SqT K (upd (upd H4 p (.tup [.str "name",.str part,.str z])) p2 (.tup [.str "",.str z])) a xs->SqT K (upd (upd (upd H4 p (.tup [.str "name",.str part,.str z])) p2 (.tup [.str "",.str z])) g (.dT (bc kvs (fP ("",z)) (.ref p)))) a xs:=fun a xs t=>yf hg5 t
  have ht:(eM m1).take (i+1)=(eM m1).take i++[z]:=by rw [List.take_add_one,hz];rfl
  refine⟨_,_,rfl,tK (s4.trans s56) hgn,?_,ac,?_⟩
  ·rw [aj lg]
   exact s56 _ _ hl4
  ·rw [ht,ma0]
   refine yv ((hpt.same s56).keep kt) ?_ (aY kt hv)
   rw [List.map_map]
   have e:((fun q:Str × Kd=>q.1)∘fun z=>(z,Kd.name part z))=id:=rfl
   show z∉((eM m1).take i).map ((fun q:Str × Kd=>q.1)∘fun z=>(z,Kd.name part z))
   rw [e,List.map_id]
   exact ij (oJ hnd) hz
 ·rintro σ H4 ⟨y3,kvs,rfl,s4,hl4,hg4,hpt⟩
  rw [lm0,List.take_length] at hpt
  refine⟨_,rfl,q H4 g kvs s4 hgn hg4 fun n=>?_⟩
  rcases pt_val hpt n with ⟨h1,h2⟩|⟨v,k,h1,h2,h3,h4⟩
  ·refine .inl ⟨h1,if_neg fun hh=>h2 hh.1 ?_⟩
   rw [List.map_map]
   exact List.mem_map.mpr ⟨_,hh.2,rfl⟩
  ·obtain⟨z,hz,e⟩:=List.mem_map.mp h3
   cases e
   exact .inr ⟨v,_,h1,if_pos ⟨h2,hz⟩,h4⟩
def lD(K:W.Frag)(CF:Addr)(n:Nat):Sp:=fun vs H Q _=>∃(fa:Addr) (part:Str) (m1:List (Str × Kd)) (m2:List (Str × (List Kd × Kd))),vs=[.ref fa,.str part]/\dZ K H CF fa m1 m2/\(m1.map (·.1)).Nodup/\(m2.map (·.1)).Nodup/\m1.length<=100/\m2.length<=100/\(∀q∈m1,okW q.1/\Kd.ok q.2/\Kd.depth q.2<=60) /\
 (∀q∈m1,Kd.depth q.2<=n)/\(∀q∈m2,(∀k∈q.2.1,Kd.depth k<=n)/\Kd.depth q.2.2<=n/\q.2.1.length<=100) /\
 ∀H' (x:Addr),aE H H'->H x=none->eO K H H' CF x (m1.map (i9 (tD m1 part))) (m2.map (jg (tD m1 part)))->Q (.ref x) H'
theorem si:aO ["want","part"] ["want","part"] (ah fD):=mkS
theorem pJ{n:Nat}{f fp fh CF:Addr}{fd fdp fdh:FuncData} (F:Fun K "told_with" "told_with" fD f fd)
  (GP:bq P w K mg base CX0 (n+2+1) fp fdp ["face","given"] (j9 K CF n)) (bP:aV K fdp ["face","given"] []) (kP:W.keepIn K (.ref fp)=true) (mP:mg "put_in_face"=some (.ref fp))
  (GH:bq P w K mg base CX0 3 fh fdh ["want","part"] (ll K CF)) (bH:aV K fdh ["want","part"] []) (kH:W.keepIn K (.ref fh)=true) (mH:mg "hidden_by"=some (.ref fh)) :
  bq P w K mg base CX0 (n+3+1) f fd ["want","part"] (lD K CF n):=by
 refine F.k0 si fun cdv A outer s H vs Q E hr h=>?_
 obtain⟨fa,part,m1,m2,rfl,hF,nd1,nd2,l1,l2,hok,dp1,dp2,q⟩:=h
 have hr3:cG 3 _:=hr.mono (by omega)
 refine⟨_,ao (aS (aD GP hr rfl mP kP bP .nil bx (aa (pv 0) (aa (aD GH hr3 rfl mH kH bH .nil bx (aa (pv 0) (aa (pv 1) ae))) ae)))),?_⟩
 refine⟨_,rfl,_,rfl,_,rfl,fa,part,m1,m2,rfl,hF,nd1,l1,hok,fun H1 g kvs s1 hg hg1 gv=>?_⟩
 exact⟨fa,g,m1,m2,kvs,_,rfl,hF.same s1,nd1,nd2,l1,l2,dp1,dp2,hg1,gv,fun H' x s' hx hN=>q H' x (s1.trans s') (s1.free hx) (hN.anti s1)⟩
theorem A7{f T:Addr}{fd:FuncData}{oT:Value}{dT:Option Addr}{nT:Nat}{sT:Array (Option Value)}{tk:Tok} (F:jT K "fitted" "fitted" cb (.ref T) f fd) (lT:K.lookup T=some ⟨oT,dT,.seq #[.str "" tk] nT,sT⟩):aV K fd ftP [] :=
 F.binds lT fun _ _ _ _ _ _ us hl=>by
  have hl':us.length=3:=by simpa using hl
  match us,hl' with
  |[_,_,_],_=>exact⟨_,rfl,rfl⟩
abbrev wnN:List Str:=["seal","faces","parts","word","withs"]
abbrev wnP:List Str:=["seal","faces","parts"]
abbrev nX(PG:Str->Option (Str->Option Kd)):Str × Str->Option Kd:=iB (fun _=>none) PG
def mv(PG:Str->Option (Str->Option Kd))(q:Str × Kd):Str × Kd:=(q.1,Kd.put (nX PG) q.2)
abbrev iW(PG:Str->Option (Str->Option Kd))(q:Str × Kd):Prop:=∀n∈Kd.names q.2,nX PG n≠none
def xU(PG:Str->Option (Str->Option Kd))(ws:List (Str × Kd)):Prop:=∀q∈ws,okW q.1/\Kd.ok q.2/\q.2.words<=40/\(iW PG q->Kd.ok (Kd.put (nX PG) q.2)/\(Kd.put (nX PG) q.2).words<=27)
def rq(K:W.Frag)(CF CA CN CT:Addr):Sp:=fun vs H Q E=>∃(x:V) (fa pa:Addr) (fkv pkv:List (Key × V)) (PG:Str->Option (Str->Option Kd)),vs=[x,.ref fa,.ref pa]/\H fa=some (.dK fkv)/\H pa=some (.dK pkv)/\gu K H CF pkv PG /\
 ((x=.non/\∀H',aE H H'->Q .non H') \/
 ∃(p tw:Addr) (z:Str) (xs:List V) (ws:List (Str × Kd)),x=.ref p/\SqT K H p [.str z,.ref tw]/\okW z/\SqT K H tw xs/\iQ K H xs ws/\ws.length<=100/\xU PG ws /\
  ((dg fkv (.inr z)=none/\∀H',aE H H'->E (.ref CA) none H') \/
  ∃(a:Addr) (m1:List (Str × Kd)) (m2:List (Str × (List Kd × Kd))),dg fkv (.inr z)=some (.ref a)/\dZ K H CF a m1 m2/\xF m1 m2 /\
   ((∃q∈ws,¬iW PG q)->∀H',aE H H'->E (.ref CN) none H') /\
   ((∀q∈ws,iW PG q)->(∀m1' m2',lc m1 m2 (ws.map (mv PG))=.ok m1' m2'->∀H' (y:Addr),aE H H'->H y=none->eO K H H' CF y m1' m2'->Q (.ref y) H') /\
    (lc m1 m2 (ws.map (mv PG))=.no->∀H',aE H H'->E (.ref CN) none H')/\(lc m1 m2 (ws.map (mv PG))=.big->∀H',aE H H'->E (.ref CT) none H'))))
theorem xP{α β:Type}{R:α->β->Prop}:∀{xs:List α} {ys:List β} {us:List α} {vs:List β},Paired R xs ys->Paired R us vs->Paired R (xs++us) (ys++vs)
 |_,_,_,_,.nil,h=>h
 |_,_,_,_,.cons a b,h=>.cons a (xP b h)
theorem A1{α β γ:Type}{R:α->γ->Prop}{f:β->γ}:∀{xs:List α} {ys:List β},Paired (fun x y=>R x (f y)) xs ys->Paired R xs (ys.map f)
 |_,_,.nil=>.nil
 |_,_,.cons a b=>.cons a (A1 b)
theorem AT{f T:Addr}{fd:FuncData}{oT:Value}{dT:Option Addr}{nT:Nat}{sT:Array (Option Value)}{tk:Tok} (F:jT K "normal" "normal" dU (.ref T) f fd) (lT:K.lookup T=some ⟨oT,dT,.seq #[.int 40 tk] nT,sT⟩):aV K fd ["kind","own","parts","most"] [.int 40 tk] :=
 F.binds lT fun _ _ _ _ _ _ us hl=>by
  have hl':us.length=3:=by simpa using hl
  match us,hl' with
  |[_,_,_],_=>exact⟨_,rfl,rfl⟩
theorem mZ:aO wnN wnP (ah iC):=mkS
theorem uX{f fr fn CF CA CN CT T:Addr}{fd fdr fdn:FuncData}{oT:Value}{dT:Option Addr}{nT:Nat}{sT:Array (Option Value)}{tk:Tok} (F:Fun K "wanted" "wanted" iC f fd)
  (GR:bq P w K mg base (CX1 P w) 45 fr fdr ["face","withs"] (o5 K CF CN CT)) (bR:aV K fdr ["face","withs"] []) (kR:W.keepIn K (.ref fr)=true) (mR:mg "refined"=some (.ref fr))
  (FN:jT K "normal" "normal" dU (.ref T) fn fdn) (lT:K.lookup T=some ⟨oT,dT,.seq #[.int 40 tk] nT,sT⟩)
  (GN:bq P w K mg base (CX1 P w) 41 fn fdn ["kind","own","parts","most"] (mw K CF CN CT)) (kN:W.keepIn K (.ref fn)=true) (mN:mg "normal"=some (.ref fn))
  (mA:mg "NoName"=some (.ref CA)) (xA:W.excIn K CA kX "ValueError.__new__"=true) :
  bq P w K mg base (CX1 P w) 46 f fd wnP (rq K CF CA CN CT):=by
 refine F.k1 mZ fun cdv A outer s H vs Q E hr h=>?_
 obtain⟨x,fa,pa,fkv,pkv,PG,rfl,hfa,hpa,hP,h⟩:=h
 have hu:=dY hr
 have hr41:cG 41 _:=hr.mono (by decide)
 have bN:=AT FN lT
 have dN:cw [V.int 40] [Value.int 40 tk]:=.cons ⟨tk,rfl⟩ .nil
 refine⟨_,ag (cg (aX oS (pv 0) cL (aZ _)) (ao (aS cL)) aU)
  (ag (qD (pv 0) (dE rfl (aL (aP (i:=3) mZ.nd rfl (Or.inl rfl)) (aL (aP (i:=4) mZ.nd rfl (Or.inl rfl)) cC))))
  (ag (cg (lO (ik hu (pv 3) (pv 1)) (by with_unfolding_all rfl)) (ao (eF rfl mA xA (aa (gb (bh am (bh (mQ (pv 3)) jh)) (by decide)) ae))) aU)
  (ao (aS (aD GR hr rfl mR kR bR .nil gN (aa (aJ hu (pv 1) (pv 3) (fun _ _=>rfl)) (aa (rj (own:=["name","kind"]) (caps:=["parts"]) (κ:=[2]) (g:=BY K 2 (qo (jq 0) (qo (jq 1) B1))) ⟨rfl,by decide +kernel,by decide +kernel,rfl,rfl,(fun y hy=>by simp only [List.mem_cons,List.not_mem_nil,or_false] at hy;subst hy;rfl),(fun y hy=>by simp only [List.mem_cons,List.not_mem_nil,or_false] at hy;subst hy;exact⟨.inl rfl,rfl,.inl rfl⟩)⟩ rfl
   (lW (pv 4)) (fun _ _ _ _ _=>dE rfl (aL (pg0 ["name","kind","parts"]) (aL (aP (i:=1) (show(["name","kind","parts"]:List Str).Nodup from by decide +kernel) rfl (Or.inl rfl)) cC)))
   (fun _ _ _ _ _ hps=>ap (aa (pv 0) (aa (aD GN hr41 rfl mN kN bN dN hps (aa (pv 1) (aa gA (aa (pv 2) ae)))) ae)))) ae))))))),?_⟩
 rcases h with ⟨rfl,q⟩|⟨p,tw,z,xs,ws,rfl,hp,hz,htw,hxs,hl,hS,h⟩
 ·exact⟨_,rfl,rfl,_,rfl,qT (q _ sr0)⟩
 refine⟨_,rfl,rfl,_,rfl,dL (fun c=>absurd (od0 c) (by intro h;cases h)) (fun _=>?_)⟩
 refine⟨_,rfl,p,_,rfl,hp,rfl,_,_,rfl,_,_,rfl,rfl,?_⟩
 refine⟨_,rfl,_,rfl,fa,_,rfl,cT.k (k:=.inr z) hfa,_,rfl,?_⟩
 rcases h with ⟨hv,qE⟩|⟨a,m1,m2,hv,hF,hG,q1,q2⟩
 ·rw [hv]
  exact qT ⟨_,rfl,by decide +kernel,_,rfl,.inl ⟨z,rfl,Nat.le_trans hz.2 (by decide),z,rfl,Nat.le_trans hz.2 (by decide),fun z3 hz3=>⟨(sz 1),qE _ sr0⟩⟩⟩
 ·rw [hv]
  refine nV ?_
  refine⟨_,rfl,_,rfl,fa,.ref a,rfl,hv▸cT.k (k:=.inr z) hfa,_,rfl,tw,rfl,⟨_,htw⟩,?_⟩
  have hlen:xs.length=ws.length:=Paired.length hxs
  refine iM (J:=Itt K tw) (xs:=xs) (fun i ys H3=>aE H H3/\ys.length=i/\(∀q∈ws.take i,iW PG q)/\Paired (fun v q=>fJ K H3 v (mv PG q)) ys (ws.take i)) ⟨sr0,rfl,(fun q hq=>nomatch hq),.nil⟩ (dX (by omega)) ?_ ?_ ?_ ?_ ?_ ?_
  ·rintro i ys H3 ⟨_,hy,_⟩
   omega
  ·rintro i u ys H3 hu ⟨s3,_⟩
   exact⟨_,_,s3.tup htw,hu⟩
  ·rintro i ys u H3 H' hn ⟨s3,_⟩ hy
   exact⟨hy.1,hy.2 _ (s3.tup htw)⟩
  ·rintro ys H3 ⟨s3,_⟩
   exact⟨_,s3.tup htw,Nat.le_refl _⟩
  ·rintro i u ys H3 N hN hu ⟨s3,hy,hat,hpa3⟩
   obtain⟨⟨t,g⟩,hq,p',yk,rfl,hp',hyk⟩:=bv hxs hu
   replace hp':SqT K H p' [.str t,yk]:=hp'
   replace hyk:cc K H yk g:=hyk
   have hm:=List.mem_of_getElem? hq
   obtain⟨o1,o2,o3,o4⟩:=hS (t,g) hm
   replace o3:g.words<=40:=o3
   refine⟨p',_,rfl,s3.tup hp',rfl,_,_,rfl,_,_,rfl,rfl,rfl,gj ⟨_,rfl,_,rfl,fun o ho=>⟨_,rfl,?_⟩⟩⟩
   have so:=ad ho (.dK [])
   have s4:=s3.trans so
   refine⟨yk,g,o,pa,40,[],pkv,(fun _=>none),PG,rfl,hyk.same s4,by omega,Nat.le_trans (de _) o3,gw o2,by decide,by decide,ac,(fun _=>.inl ⟨rfl,rfl⟩),s4 _ _ hpa,hP.same s4,fun H' s' hex=>q1 ⟨(t,g),hm,fun hall=>?_⟩ _ (s4.trans s'),fun hall=>?_⟩
   ·obtain⟨n,hn,e⟩:=hex
    exact hall n hn e
   ·obtain⟨w1,w2⟩:=o4 hall
    replace w2:(Kd.put (nX PG) g).words<=27:=w2
    refine⟨by show(Kd.put (nX PG) g).words<=900;omega,fun H' s'=>?_⟩
    have c:¬(((Kd.put (iB (fun _=>none) PG) g).words:Int) > 40):=by
     show ¬(((Kd.put (nX PG) g).words:Int) > 40)
     omega
    rw [if_neg c]
    intro v hv
    refine⟨(sz 2),fun p2 hp2=>hN _ _ ?_⟩
    have s5:=ad hp2 (.tup [.str t,v])
    have s6:=s4.trans (s'.trans s5)
    have et:ws.take (i+1)=ws.take i++[(t,g)]:=by rw [List.take_add_one,hq];rfl
    refine⟨s6,by rw [la0,hy];rfl,fun q hq'=>?_,?_⟩
    ·rw [et] at hq'
     rcases List.mem_append.mp hq' with hq'|hq'
     ·exact hat q hq'
     ·rw [List.mem_singleton.mp hq']
      exact hall
    ·rw [et]
     exact xP (Paired.mapP hpa3 fun _ _ h=>(h.same so).same (s'.trans s5)) (.cons ⟨p2,v,rfl,SqT.of ac,hv.same s5⟩ .nil)
  ·rintro ys H3 D ⟨s3,_,hat,hpa3⟩ hD
   rw [hlen,List.take_length] at hat hpa3
   have sD:=ad hD (.lst ys)
   have s4:=s3.trans sD
   obtain⟨r1,r2,r3⟩:=q2 hat
   refine⟨a,D,m1,m2,ys,ws.map (mv PG),rfl,hF.same s4,hG,SqL.of ac,?_,fun q hq=>?_,fun a1 a2 e H' y s' hy hN=>r1 a1 a2 e H' y (s4.trans s') (s4.free hy) (hN.anti s4),fun e H' s'=>r2 e H' (s4.trans s'),fun e H' s'=>r3 e H' (s4.trans s')⟩
   ·exact A1 (Paired.mapP hpa3 fun _ _ h=>h.same sD)
   ·obtain⟨q',hq',rfl⟩:=List.mem_map.mp hq
    obtain⟨o1,_,_,o4⟩:=hS q' hq'
    exact⟨o1,(o4 (hat q' hq')).1,(o4 (hat q' hq')).2⟩
def wsz(c:Int):Int:=if 0 < c / 6%3 then 7+c%6 else 1
def yq(c k:Int)(j:Int):Int:=c / 216+(3+c / 1000)*j+k*(if j=c / 18%wsz c then 1 else 0)
def tI(c k:Int):Nat->Str
 |0=>""
 |j+1=>tI c k j++⟨#[chF (yq c k (j:Int)%26)]⟩
def dP(c k:Int):Str:=tI c k (wsz c).toNat
theorem qK(c:Int):1<=wsz c/\wsz c<=12:=by
 unfold wsz
 split<;>omega
theorem jG(c k:Int):∀n,(tI c k n).length=n
 |0=>rfl
 |n+1=>by
  show(tI c k n++⟨#[chF (yq c k (n:Int)%26)]⟩:Str).length=n+1
  rw [zA,jG c k n]
  rfl
theorem uh(c k:Int):∀n,PyData.strOk (tI c k n)=true
 |0=>show PyData.strOk (Str.ofString "")=true by decide +kernel
 |n+1=>zT (uh c k n) (A4 _)
theorem mV(c k:Int):∀n,(tI c k n).cps.toList=(List.range n).map fun(j:Nat)=>chF (yq c k (j:Int)%26)
 |0=>rfl
 |n+1=>by
  have e:(tI c k (n+1)).cps.toList=(tI c k n).cps.toList++[chF (yq c k (n:Int)%26)]:=by
   show((tI c k n).cps++#[chF (yq c k (n:Int)%26)]).toList=_
   simp
  rw [e,mV c k n,List.range_succ,ma0]
  rfl
theorem zG(c k:Int):smW (dP c k):=⟨uh _ _ _,by have:=qK c;unfold dP;rw [jG];omega⟩
theorem Af:∀i:Fin 26,chF (i.val:Int)=97+i.val:=by decide +kernel
theorem yu{i:Int}(h0:0<=i)(h1:i < 26):chF i=97+i.toNat:=by
 have h:=Af ⟨i.toNat,by omega⟩
 have e:((i.toNat:Nat):Int)=i:=Int.toNat_of_nonneg h0
 simp only [e] at h
 exact h
theorem uZ{c k k':Int}(h:dP c k=dP c k'):k%26=k'%26:=by
 have hc:(dP c k).cps.toList=(dP c k').cps.toList:=by rw [h]
 unfold dP at hc
 rw [mV,mV] at hc
 have hb:=qK c
 have a0:=Int.emod_nonneg (c / 18) (show wsz c≠0 by omega)
 have a1:=Int.emod_lt_of_pos (c / 18) (show 0 < wsz c by omega)
 have hj:(c / 18%wsz c).toNat < (wsz c).toNat:=by omega
 have hg:=congrArg (fun l:List Nat=>l[(c / 18%wsz c).toNat]?) hc
 simp only [List.getElem?_map,List.getElem?_range hj,Option.map_some,Option.some.injEq] at hg
 rw [Int.toNat_of_nonneg a0] at hg
 rw [yu (Int.emod_nonneg _ (by decide)) (Int.emod_lt_of_pos _ (by decide)),yu (Int.emod_nonneg _ (by decide)) (Int.emod_lt_of_pos _ (by decide))] at hg
 unfold yq at hg
 rw [if_pos rfl] at hg
 generalize c / 216+(3+c / 1000)*(c / 18%wsz c)=A at hg
 omega
abbrev wlN:List Str:=["_law_cell_here","_law_k","_law_size","_law_at","_law_word_here","_law_j","_law_number"]
abbrev wlP:List Str:=["_law_cell_here","_law_k"]
def vN:Sp:=fun vs H Q _=>∃c k:Int,vs=[.int c,.int k]/\∀H',aE H H'->Q (.str (dP c k)) H'
theorem gS:aO wlN wlP (ah lG):=mkS
theorem xQ{f:Addr}{fd:FuncData} (F:Fun K "_law_word" "_law_word" lG f fd) (mI:mg "int"=none) (mr:mg "range"=none):bq P w K mg base CX0 1 f fd wlP vN:=by
 refine F.k0 gS fun cdv A outer s H vs Q E hr h=>?_
 obtain⟨c,k,rfl,q⟩:=h
 refine⟨_,ag (ba (i:=2) gS.nd (ix0 aw (cU (aa ai (aa (bz fV ai (bz d9 (pv 0) ai)) ae))) (bE oh rfl mI mE (aa (eZ vO (bz d9 (bz gt (pv 0) ai) ai) ai (aZ _)) ae))))
  (ag (ba (i:=3) gS.nd (bz d9 (bz gt (pv 0) ai) (pv 2)))
  (ag (ba (i:=4) gS.nd am)
  (ag (di PassesOwn.never rfl (eK rfl mr (aa (pv 2) ae)) (aP (i:=5) gS.nd rfl (Or.inl rfl))
   (ag (ba (i:=6) gS.nd (bz fV (bz fV (bz gt (pv 0) ai) (bz jp (bz fV ai (bz gt (pv 0) ai)) (pv 5))) (bz jp (pv 1) (bE oh rfl mI mE (aa (eZ dA (pv 5) (pv 3) (aZ _)) ae)))))
   (ao (ba (i:=4) gS.nd (bz tH (pv 4) (ix0 Bv am (bz d9 (pv 6) ai)))))))
  (ao (aS (pv 4)))))),?_⟩
 have hb:=qK c
 have l26:(Str.ofString "abcdefghijklmnopqrstuvwxyz").length<=sizeLine:=by decide +kernel
 have h26:((Str.ofString "abcdefghijklmnopqrstuvwxyz").cps.toList.length:Int)=26:=by decide +kernel
 have hat:atI [V.int 1,V.int (7+c%6)] (if decide (0 < c / 6%3)=true then 1 else 0)=some (.int (wsz c)):=by
  unfold wsz
  by_cases h:0 < c / 6%3
  ·rw [dt0 h,if_pos h]
   rfl
  ·rw [df0 h,if_neg h]
   rfl
 refine⟨_,rfl,_,_,rfl,rfl,(by show(0:Int) < 6;decide),_,_,rfl,rfl,(sz 2),fun l2 hl2=>?_⟩
 have s2:=ad hl2 (.lst [V.int 1,V.int (7+c%6)])
 refine⟨_,rfl,_,_,rfl,rfl,⟨by decide,by decide⟩,_,_,rfl,rfl,(by show(0:Int) < 3;decide),_,_,rfl,rfl,.inr ⟨_,rfl,l2,_,_,_,rfl,rfl,SqL.of ac,hat,?_⟩⟩
 refine⟨_,rfl,_,_,rfl,rfl,⟨by decide,by decide⟩,_,rfl,_,_,rfl,rfl,(by show(0:Int) < wsz c;omega),?_⟩
 refine⟨_,rfl,_,rfl,by omega,by omega,?_⟩
 refine jU (lo:=0) (n:=(wsz c).toNat) (fun i σ H3=>∃(x5 x6:Option V),σ=[some (.int c),some (.int k),some (.int (wsz c)),some (.int (c / 18%wsz c)),some (.str (tI c k i)),x5,x6]/\aE H H3) ⟨none,none,rfl,s2⟩ ?_ ?_
 ·rintro i σ H3 hi ⟨x5,x6,rfl,s3⟩
  rw [Int.zero_add]
  obtain⟨g,hg⟩:=CI (xs:=(Str.ofString "abcdefghijklmnopqrstuvwxyz").cps.toList) (i:=yq c k (i:Int)%26) (Int.emod_nonneg _ (by decide)) (by rw [h26];exact Int.emod_lt_of_pos _ (by decide))
  have eg:chF (yq c k (i:Int)%26)=g:=by unfold chF;rw [hg];rfl
  have el:=jG c k i
  refine⟨_,rfl,_,_,rfl,rfl,⟨by decide,by decide⟩,_,rfl,_,_,rfl,rfl,⟨by decide,by decide⟩,_,_,rfl,rfl,_,rfl,_,_,rfl,rfl,.inr ⟨by omega,by omega⟩,_,_,rfl,rfl,_,rfl,_,rfl,_,rfl,rfl,.inr ⟨_,rfl,?_⟩⟩
  have ek:(if decide (V.int (i:Int)=V.int (c / 18%wsz c))=true then (1:Int) else 0)=if (i:Int)=c / 18%wsz c then 1 else 0:=by
   by_cases h:(i:Int)=c / 18%wsz c
   ·rw [if_pos h,dt0 (by rw [h]),if_pos rfl]
   ·rw [if_neg h,df0 (fun z=>h (by injection z)),if_neg (by decide)]
  rw [ek]
  refine⟨_,_,rfl,rfl,.inr ⟨by split<;>decide,by split<;>decide⟩,_,_,rfl,rfl,?_⟩
  refine⟨_,rfl,_,rfl,_,_,rfl,rfl,(by show(0:Int) < 26;decide),_,_,_,rfl,rfl,l26,hg,_,_,rfl,rfl,dX (by rw [el];show i+1<=1000;omega),?_⟩
  have e:tI c k i++(⟨#[g]⟩:Str)=tI c k (i+1):=by rw [<-eg];rfl
  rw [e]
  exact⟨_,_,rfl,s3⟩
 ·rintro σ H3 ⟨x5,x6,rfl,s3⟩
  exact⟨_,rfl,q _ s3⟩
def AlD:Nat->PyData->Prop
 |0,_=>False
 |_+1,.none=>True
 |_+1,.int _=>True
 |_+1,.str _=>True
 |n+1,.tuple ds=>ds.length<=100/\∀d∈ds,AlD n d
 |_+1,_=>False
theorem AlD.le:∀{n m:Nat} {d:PyData},AlD n d->n<=m->AlD m d
 |0,_,_,h,_=>h.elim
 |_+1,0,_,_,h=>by omega
 |_+1,_+1,.none,_,_=>trivial
 |_+1,_+1,.int _,_,_=>trivial
 |_+1,_+1,.str _,_,_=>trivial
 |_+1,_+1,.tuple ds,h,hl=>⟨h.1,fun d hd=>AlD.le (h.2 d hd) (by omega)⟩
 |_+1,_+1,.bool _,h,_=>h.elim
 |_+1,_+1,.dict _,h,_=>h.elim
 |_+1,_+1,.list _,h,_=>h.elim
theorem mo{K:W.Frag}{H:Hp}:∀{xs:List V} {ds:List PyData} {i:Nat} {x:V} {d:PyData},kZ K H xs ds->xs[i]?=some x->ds[i]?=some d->Dat K H x d
 |_,_,_,_,_,.nil,e,_=>by simp at e
 |_,_,0,_,_,.cons a _,e,f=>by
  obtain rfl:=Option.some.inj e
  obtain rfl:=Option.some.inj f
  exact a
 |_,_,i+1,_,_,.cons _ b,e,f=>mo (i:=i) b e f
theorem nQ{K:W.Frag}{H:Hp}:∀{xs:List V} {ds:List PyData},kZ K H xs ds->xs.length=ds.length
 |_,_,.nil=>rfl
 |_,_,.cons _ b=>congrArg (·+1) (nQ b)
def pC(K:W.Frag)(n:Nat):Sp:=fun vs H Q _=>∃(x y:V) (d:PyData),vs=[x,y]/\Dat K H x d/\Dat K H y d/\AlD n d/\∀H',aE H H'->Q (.bl true) H'
theorem yC{α:Type}{a b:α}{p:α->Prop}(ha:p a)(hb:p b):∀y∈[a,b],p y:=fun y hy=>by
 simp only [List.mem_cons,List.not_mem_nil,or_false] at hy
 rcases hy with rfl|rfl
 ·exact ha
 ·exact hb
theorem xH(n:Nat):(List.replicate n true).all id=true:=by
 rw [List.all_eq_true]
 intro x hx
 exact(List.mem_replicate.mp hx).2
theorem A3(K:W.Frag):W.kitOne K (.type "str") (.type "str")=some true:=rfl
theorem BI(K:W.Frag):W.kitOne K (.type "str") (.type "int")=some false:=rfl
theorem vY:bootBuiltins "bool"=some (.type "bool"):=by decide +kernel
abbrev alN:List Str:=["_law_found","_law_due"]
theorem yX:aO alN alN (ah lY):=mkS
theorem mx{f:Addr}{fd:FuncData} (F:Fun K "_law_alike" "_law_alike" lY f fd) (bA:aV K fd alN []) (kA:W.keepIn K (.ref f)=true) (mA:mg "_law_alike"=some (.ref f))
  (mi:mg "isinstance"=none) (ms:mg "str"=none) (mt:mg "tuple"=none) (mI:mg "int"=none) (mb:mg "bool"=none) (ml:mg "len"=none) (mr:mg "range"=none) (ma:mg "all"=none) :
  ∀n,bq P w K mg base CX0 n f fd alN (pC K n)
 |0=>⟨fun vs H Q E h=>by obtain⟨x,y,d,rfl,_⟩:=h;rfl,fun A outer s H args us vs Q E _ _ _ _ h=>by
   obtain⟨x,y,d,_,_,_,h,_⟩:=h
   exact h.elim⟩
 |n+1=>by
  have IH:=mx F bA kA mA mi ms mt mI mb ml mr ma n
  refine F.k0 yX fun cdv A outer s H vs Q E hr h=>?_
  obtain⟨x,y,d,rfl,hx,hy,hal,q⟩:=h
  refine⟨_,ag (cg (aX oS (pv 1) cL (aZ _)) (ao (aS (eZ oS (pv 0) cL (aZ _)))) aU)
   (ag (cg (L2.pt_val (bu lI rfl mi dh (aa (pv 1) (aa (gc rfl mt dm (v:=.ty "tuple") rfl) ae))))
    (ag (cg (PW.pt (tS (jl (L2.pt_val (bu lI rfl mi dh (aa (pv 0) (aa (gc rfl mt dm (v:=.ty "tuple") rfl) ae))))) (qU (aX Cd (bu cB rfl ml boot_len (aa (pv 0) ae)) (bu cB rfl ml boot_len (aa (pv 1) ae)) (aZ _))))) (ao (aS oP)) aU)
    (ao (aS (bu (uq rfl) rfl ma zI (aa (nM (own:=["_law_k"]) (caps:=["_law_found","_law_due"]) (κ:=[0,1]) rfl ⟨rfl,by decide +kernel,by decide +kernel,rfl,rfl,(yC rfl rfl),(yC ⟨.inl rfl,rfl,.inl rfl⟩ ⟨.inl rfl,rfl,.inl rfl⟩)⟩ rfl
     (eK rfl mr (aa (bu cB rfl ml boot_len (aa (pv 1) ae)) ae)) (fun _ _ _ _=>pg0 ["_law_k","_law_found","_law_due"])
     (fun _ _ _ _=>aD IH hr rfl mA kA bA .nil bx (aa (ix0 (r:=yH K) bj (pv 1) (pv 0)) (aa (ix0 (r:=yH K) bj (pv 2) (pv 0)) ae)))) ae))))) aU)
   (ag (cg (L2.pt_val (bu jD rfl mi dh (aa (pv 1) (aa (gc rfl mI mE (v:=.ty "int") rfl) ae))))
    (ao (aS (ul (bu jD rfl mi dh (aa (pv 0) (aa (gc rfl mI mE (v:=.ty "int") rfl) ae))) (ul (Bn (bu jD rfl mi dh (aa (pv 0) (aa (gc rfl mb vY (v:=.ty "bool") rfl) ae)))) (yg (eZ dA (pv 0) (pv 1) (aZ _))))))) aU)
   (ao (aS (ul (bu jD rfl mi dh (aa (pv 0) (aa (gc rfl ms zx (v:=.ty "str") rfl) ae))) (yg (eZ dA (pv 0) (pv 1) (aZ _)))))))),?_⟩
  cases hy with
  |bl b=>exact hal.elim
  |lst _ _=>exact hal.elim
  |str s0 =>
   cases hx
   refine⟨_,rfl,rfl,_,rfl,dL (fun c=>absurd (od0 c) (by intro h;cases h)) (fun _=>?_)⟩
   refine⟨_,rfl,.str s0,rfl,.inl ⟨s0,rfl,false,rfl,nV ?_⟩⟩
   refine⟨_,rfl,.str s0,"int",_,false,rfl,.str s0,BI K,false,rfl,nV ?_⟩
   refine⟨_,rfl,.str s0,"str",_,true,rfl,.str s0,A3 K,true,rfl,qT ⟨_,rfl,_,rfl,rfl,?_⟩⟩
   show Q (.bl (decide (V.str s0=V.str s0))) H
   rw [dt0 rfl]
   exact q _ sr0
  |non =>
   cases hx
   exact⟨_,rfl,rfl,_,rfl,qT ⟨_,rfl,rfl,q _ sr0⟩⟩
  |int i0 =>
   cases hx
   refine⟨_,rfl,rfl,_,rfl,dL (fun c=>absurd (od0 c) (by intro h;cases h)) (fun _=>?_)⟩
   refine⟨_,rfl,.int i0,rfl,.inr (.inl ⟨i0,rfl,false,rfl,nV ?_⟩)⟩
   refine⟨_,rfl,.int i0,"int",_,true,rfl,.int i0,yd K,true,rfl,qT ?_⟩
   refine⟨_,rfl,.int i0,"int",_,true,rfl,.int i0,yd K,true,rfl,qT ?_⟩
   refine⟨_,rfl,.int i0,"bool",_,false,rfl,.int i0,BB K,false,rfl,true,rfl,qT ⟨_,rfl,_,rfl,rfl,?_⟩⟩
   show Q (.bl (decide (V.int i0=V.int i0))) H
   rw [dt0 rfl]
   exact q _ sr0
  |@tup b ys ds hb hys =>
   obtain⟨a,xs,rfl,ha,hxs⟩:∃a xs,x=.ref a/\SqT K H a xs/\kZ K H xs ds:=by
    cases hx with
    |tup h1 h2=>exact⟨_,_,rfl,h1,h2⟩
   obtain⟨h10,hall⟩:=hal
   have hxl:=nQ hxs
   have hyl:=nQ hys
   have hl:xs.length=ys.length:=by omega
   refine⟨_,rfl,rfl,_,rfl,dL (fun c=>absurd (od0 c) (by intro h;cases h)) (fun _=>?_)⟩
   refine⟨_,rfl,.ref b,rfl,.inr (.inr ⟨b,_,rfl,hb,true,rfl,qT ?_⟩)⟩
   refine⟨_,rfl,.ref a,rfl,.inr (.inr ⟨a,_,rfl,ha,true,rfl,nV ⟨_,rfl,a,_,rfl,.inr ha,_,rfl,b,_,rfl,.inr hb,rfl,_,rfl,dL (fun c=>?_) (fun _=>?_)⟩⟩)⟩
   ·have c':(!decide (V.int (xs.length:Int)=V.int (ys.length:Int)))=true:=c
    rw [hl,dt0 rfl] at c'
    exact absurd c' (by decide)
   refine⟨_,rfl,b,_,rfl,.inr hb,_,rfl,by omega,by omega,?_⟩
   refine iM (J:=Itr 0 ((ys.length:Nat):Int).toNat) (xs:=jm 0 ((ys.length:Nat):Int).toNat) (fun i zs H3=>i<=((ys.length:Nat):Int).toNat/\aE H H3/\zs=(List.replicate i true).map V.bl) ⟨Nat.zero_le _,sr0,rfl⟩ (by rw [dJ];exact dX (by omega)) ?_ ?_ ?_ ?_ ?_ ?_
   ·rintro i zs H3 ⟨hi,_,rfl⟩
    rw [lm0,List.length_replicate]
    exact Nat.le_refl _
   ·rintro i x zs H3 hx _
    exact ym hx
   ·rintro i zs x H3 H' hi _ hy
    rw [dJ] at hi
    exact rN hi hy
   ·rintro zs H3 _
    rw [dJ]
    exact Nat.le_refl _
   ·rintro i x zs H3 N hN hx ⟨hi,s3,rfl⟩
    obtain⟨hi9,rfl⟩:=gI.mp hx
    rw [Int.toNat_natCast] at hi9
    obtain⟨vy,hvy⟩:∃v,ys[i]?=some v:=⟨_,List.getElem?_eq_getElem hi9⟩
    obtain⟨vx,hvx⟩:∃v,xs[i]?=some v:=⟨_,List.getElem?_eq_getElem (by omega)⟩
    obtain⟨d0,hd0⟩:∃v,ds[i]?=some v:=⟨_,List.getElem?_eq_getElem (by omega)⟩
    have ax:atI xs (0+(i:Int))=some vx:=by rw [Int.zero_add];exact nW hvx
    have ay:atI ys (0+(i:Int))=some vy:=by rw [Int.zero_add];exact nW hvy
    refine⟨rfl,gj ⟨_,rfl,_,rfl,a,_,_,_,rfl,rfl,s3.tup ha,ax,_,rfl,_,rfl,b,_,_,_,rfl,rfl,s3.tup hb,ay,vx,vy,d0,rfl,(mo hxs hvx hd0).same s3,(mo hys hvy hd0).same s3,hall d0 (List.mem_of_getElem? hd0),fun H4 s4=>hN _ _ ⟨by rw [Int.toNat_natCast];omega,s3.trans s4,?_⟩⟩⟩
    rw [List.replicate_succ',ma0]
    rfl
   ·rintro zs H3 D ⟨hi,s3,rfl⟩ hD
    refine⟨D,List.replicate _ true,rfl,SqL.of ac,?_⟩
    rw [xH]
    exact q _ (s3.trans (ad hD _))
end
end K48
namespace L2
open PySem
theorem BC{K:W.Frag}{l:Addr}{xs:List V}{n:Nat}{κ:List Nat}{g:TG}{tc:TT}{te:TE}{σ:St}{H:Hp}{Q:VK}(hl:SqL K H l xs)(hz:xs.length<=1000)(R:Nat->List V->Hp->Prop)(h0:R 0 [] H)(hlen:∀i ys H2,R i ys H2->ys.length<=i)
  (hs:∀i x ys H2 (N:List V->Hp->Prop),(∀ys' H',aE H H'->R (i+1) ys' H'->N ys' H')->xs[i]?=some x->aE H H2->R i ys H2->g x (dk n κ σ) H2 fun σ4 H4=>σ4.drop n=(dk n κ σ).drop n/\tc σ4 H4 fun b H5=>if b=true then te σ4 H5 fun v H6=>N (ys++[v]) H6 else N ys H5)
  (hQ:∀ys H2 D,aE H H2->R xs.length ys H2->H2 D=none->Q (.ref D) (upd H2 D (.lst ys))):iL n κ g tc te σ (Itl K l) H Q:=by
 have sq:∀{H2:Hp},aE H H2->SqL K H2 l xs:=fun e=>by
  rcases hl with (h|⟨o,h⟩)|h
  ·exact .inl (.inl (e _ _ h))
  ·exact .inl (.inr ⟨o,e _ _ h⟩)
  ·exact .inr h
 refine iM (J:=Itl K l) (xs:=xs) (fun i ys H3=>aE H H3/\R i ys H3) ⟨sr0,h0⟩ (Nat.le_of_lt (gk hz)) ?_ ?_ ?_ ?_ ?_ ?_
 ·rintro i ys H3 ⟨_,h⟩
  exact hlen i ys H3 h
 ·rintro i u ys H3 hu ⟨s3,_⟩
  exact⟨_,_,sq s3,hu⟩
 ·rintro i ys u H3 H' hn ⟨s3,_⟩ hy
  exact⟨hy.1,hy.2 _ (sq s3)⟩
 ·rintro ys H3 ⟨s3,_⟩
  exact⟨_,sq s3,Nat.le_refl _⟩
 ·rintro i u ys H3 N hN hu ⟨s3,h⟩
  exact hs i u ys H3 N (fun ys' H' a b=>hN ys' H' ⟨a,b⟩) hu s3 h
 ·rintro ys H3 D ⟨s3,h⟩ hD
  exact hQ ys H3 D s3 h hD
theorem AB{K:W.Frag}{l:Addr}{xs:List V}{n:Nat}{κ:List Nat}{g:TG}{tc:TT}{te:TE}{σ:St}{H:Hp}{Q:VK}(hl:SqT K H l xs)(hz:xs.length<=1000)(R:Nat->List V->Hp->Prop)(h0:R 0 [] H)(hlen:∀i ys H2,R i ys H2->ys.length<=i)
  (hs:∀i x ys H2 (N:List V->Hp->Prop),(∀ys' H',aE H H'->R (i+1) ys' H'->N ys' H')->xs[i]?=some x->aE H H2->R i ys H2->g x (dk n κ σ) H2 fun σ4 H4=>σ4.drop n=(dk n κ σ).drop n/\tc σ4 H4 fun b H5=>if b=true then te σ4 H5 fun v H6=>N (ys++[v]) H6 else N ys H5)
  (hQ:∀ys H2 D,aE H H2->R xs.length ys H2->H2 D=none->Q (.ref D) (upd H2 D (.lst ys))):iL n κ g tc te σ (Itt K l) H Q:=by
 refine iM (J:=Itt K l) (xs:=xs) (fun i ys H3=>aE H H3/\R i ys H3) ⟨sr0,h0⟩ (Nat.le_of_lt (gk hz)) ?_ ?_ ?_ ?_ ?_ ?_
 ·rintro i ys H3 ⟨_,h⟩
  exact hlen i ys H3 h
 ·rintro i u ys H3 hu ⟨s3,_⟩
  exact⟨_,_,s3.tup hl,hu⟩
 ·rintro i ys u H3 H' hn ⟨s3,_⟩ hy
  exact⟨hy.1,hy.2 _ (s3.tup hl)⟩
 ·rintro ys H3 ⟨s3,_⟩
  exact⟨_,s3.tup hl,Nat.le_refl _⟩
 ·rintro i u ys H3 N hN hu ⟨s3,h⟩
  exact hs i u ys H3 N (fun ys' H' a b=>hN ys' H' ⟨a,b⟩) hu s3 h
 ·rintro ys H3 D ⟨s3,h⟩ hD
  exact hQ ys H3 D s3 h hD
end L2
namespace K48
open PySem L2 Kk
theorem lS{α:Type}{a:α}{p:α->Prop}(ha:p a):∀y∈[a],p y:=fun y hy=>by
 rw [List.mem_singleton.mp hy]
 exact ha
def wq(K:W.Frag)(H:Hp)(v:V)(q:Str × Kd):Prop:=∃(p:Addr) (y:V),v=.ref p/\H p=some (.tup [.str q.1,y])/\cc K H y q.2
def BT(K:W.Frag)(H:Hp)(v:V)(q:Str × (List Kd × Kd)):Prop:=∃(p:Addr) (y:V),v=.ref p/\H p=some (.tup [.str q.1,y])/\db K H y q.2
theorem wq.same{K:W.Frag}{H H':Hp}{v:V}{q:Str × Kd}(e:aE H H')(h:wq K H v q):wq K H' v q:=by
 obtain⟨p,y,a,b,c⟩:=h
 exact⟨p,y,a,e _ _ b,c.same e⟩
theorem BT.same{K:W.Frag}{H H':Hp}{v:V}{q:Str × (List Kd × Kd)}(e:aE H H')(h:BT K H v q):BT K H' v q:=by
 obtain⟨p,y,a,b,c⟩:=h
 exact⟨p,y,a,e _ _ b,c.keep fun _ _ t=>e.tup t⟩
def Ac(K:W.Frag)(H:Hp)(l:Addr)(m:List (Str × Kd)):Prop:=∃xs,H l=some (.lst xs)/\Paired (wq K H) xs m
def Aq(K:W.Frag)(H:Hp)(l:Addr)(m:List (Str × (List Kd × Kd))):Prop:=∃xs,H l=some (.lst xs)/\Paired (BT K H) xs m
theorem Ac.same{K:W.Frag}{H H':Hp}{l:Addr}{m:List (Str × Kd)}(e:aE H H')(h:Ac K H l m):Ac K H' l m:=by
 obtain⟨xs,a,b⟩:=h
 exact⟨xs,e _ _ a,Paired.mapP b fun _ _ z=>z.same e⟩
theorem Aq.same{K:W.Frag}{H H':Hp}{l:Addr}{m:List (Str × (List Kd × Kd))}(e:aE H H')(h:Aq K H l m):Aq K H' l m:=by
 obtain⟨xs,a,b⟩:=h
 exact⟨xs,e _ _ a,Paired.mapP b fun _ _ z=>z.same e⟩
def An(K:W.Frag)(H:Hp)(p:Addr)(m1:List (Str × Kd))(m2:List (Str × (List Kd × Kd))):Prop:=∃l1 l2,H p=some (.tup [.ref l1,.ref l2])/\Ac K H l1 m1/\Aq K H l2 m2
theorem An.same{K:W.Frag}{H H':Hp}{p:Addr}{m1:List (Str × Kd)}{m2:List (Str × (List Kd × Kd))}(e:aE H H')(h:An K H p m1 m2):An K H' p m1 m2:=by
 obtain⟨l1,l2,a,b,c⟩:=h
 exact⟨l1,l2,e _ _ a,b.same e,c.same e⟩
section
variable{P:Program}{w:World}{K:W.Frag}{mg:Str->Option Value}{base:Heap}
end
end K48
namespace L2
open PySem
theorem uV{m:Nat}{n:Nat}{κ:List Nat}{g:TG}{tc:TT}{te:TE}{σ:St}{H:Hp}{Q:VK}(hz:m<=1000)(R:Nat->List V->Hp->Prop)(h0:R 0 [] H)(hlen:∀i ys H2,R i ys H2->ys.length<=i)
  (hs:∀i ys H2 (N:List V->Hp->Prop),(∀ys' H',aE H H'->R (i+1) ys' H'->N ys' H')->i < m->aE H H2->R i ys H2->g (.int i) (dk n κ σ) H2 fun σ4 H4=>σ4.drop n=(dk n κ σ).drop n/\tc σ4 H4 fun b H5=>if b=true then te σ4 H5 fun v H6=>N (ys++[v]) H6 else N ys H5)
  (hQ:∀ys H2 D,aE H H2->R m ys H2->H2 D=none->Q (.ref D) (upd H2 D (.lst ys))):iL n κ g tc te σ (Itr 0 m) H Q:=by
 refine iM (J:=Itr 0 m) (xs:=jm 0 m) (fun i ys H3=>aE H H3/\R i ys H3) ⟨sr0,h0⟩ (by rw [dJ];exact Nat.le_of_lt (gk hz)) ?_ ?_ ?_ ?_ ?_ ?_
 ·rintro i ys H3 ⟨_,h⟩
  exact hlen i ys H3 h
 ·rintro i u ys H3 hu _
  exact ym hu
 ·rintro i ys u H3 H' hn _ hy
  rw [dJ] at hn
  exact rN hn hy
 ·rintro ys H3 _
  rw [dJ]
  exact Nat.le_refl _
 ·rintro i u ys H3 N hN hu ⟨s3,h⟩
  obtain⟨hi,rfl⟩:=gI.mp hu
  rw [Int.zero_add]
  exact hs i ys H3 N (fun ys' H' a b=>hN ys' H' ⟨a,b⟩) hi s3 h
 ·rintro ys H3 D ⟨s3,h⟩ hD
  rw [dJ] at h
  exact hQ ys H3 D s3 h hD
end L2
namespace K48
open PySem L2 Kk
def wds(c s:Int)(n:Nat):List Str:=(List.range n).map fun(j:Nat)=>dP c (s+(j:Int))
theorem pX(c s:Int)(n:Nat):(wds c s n).length=n:=by unfold wds;rw [lm0,List.length_range]
theorem nN(c s:Int)(n:Nat):wds c s (n+1)=wds c s n++[dP c (s+(n:Int))]:=by
 unfold wds
 rw [List.range_succ,ma0]
 rfl
section
variable{P:Program}{w:World}{K:W.Frag}{mg:Str->Option Value}{base:Heap}
theorem pL{α:Type}{R:V->α->Prop}:∀{ps:List (Key × V)} {rest:List (Str × α)} {acc:List (Key × V)} {m:List (Str × α)},dM R acc m->dM R ps rest->((m++rest).map (·.1)).Nodup->dM R (gq acc ps) (m++rest)
 |[],_,acc,m,ha,.nil,_=>by
  rw [List.append_nil]
  exact ha
 |p::ps,_,acc,m,ha,.cons (b:=q) (l₂:=rest) ⟨e,hv⟩ hb,hn=>by
  have hz:q.1∉m.map (·.1):=fun hm=>by
   rw [ma0,List.map_cons] at hn
   exact(List.nodup_append.mp hn).2.2 _ hm _ (List.mem_cons_self ..) rfl
  have h1:dM R (bc acc p.1 p.2) (m++[q]):=by
   rw [e]
   exact dM.put ha hz hv
  have h2:=pL (ps:=ps) (rest:=rest) h1 hb (by rw [List.append_assoc];exact hn)
  rw [List.append_assoc] at h2
  exact h2
theorem i7{α:Type}{R:V->α->Prop}{H:Hp}:∀{xs:List V} {m:List (Str × α)},Paired (fun v (q:Str × α)=>∃(p:Addr) (y:V),v=.ref p/\H p=some (.tup [.str q.1,y])/\R y q.2) xs m ->
  ∃(as:List Addr) (ps:List (Key × V)),xs=as.map V.ref/\Paired (fun(p:Key × V) (a:Addr)=>H a=some (.tup [kV p.1,p.2])) ps as/\dM R ps m
 |_,_,.nil=>⟨[],[],rfl,.nil,.nil⟩
 |_,_,.cons (b:=q) ⟨p,y,e,hp,hy⟩ b=>by
  obtain⟨as,ps,rfl,h1,h2⟩:=i7 b
  exact⟨p::as,(.inr q.1,y)::ps,by rw [e];rfl,.cons hp h1,.cons ⟨rfl,hy⟩ h2⟩
theorem vz{K:W.Frag}{H:Hp}{l:Addr}{m:List (Str × Kd)}(h:Ac K H l m)(hn:(m.map (·.1)).Nodup):∃(as:List Addr) (ps:List (Key × V)),H l=some (.lst (as.map V.ref))/\Paired (fun(p:Key × V) (a:Addr)=>H a=some (.tup [kV p.1,p.2])) ps as/\ps.length=m.length/\dM (cc K H) (gq [] ps) m:=by
 obtain⟨xs,h1,h2⟩:=h
 obtain⟨as,ps,rfl,h3,h4⟩:=i7 h2
 exact⟨as,ps,h1,h3,Paired.length h4,pL (acc:=[]) (m:=[]) .nil h4 hn⟩
theorem zV{K:W.Frag}{H:Hp}{l:Addr}{m:List (Str × (List Kd × Kd))}(h:Aq K H l m)(hn:(m.map (·.1)).Nodup):∃(as:List Addr) (ps:List (Key × V)),H l=some (.lst (as.map V.ref))/\Paired (fun(p:Key × V) (a:Addr)=>H a=some (.tup [kV p.1,p.2])) ps as/\ps.length=m.length/\dM (db K H) (gq [] ps) m:=by
 obtain⟨xs,h1,h2⟩:=h
 obtain⟨as,ps,rfl,h3,h4⟩:=i7 h2
 exact⟨as,ps,h1,h3,Paired.length h4,pL (acc:=[]) (m:=[]) .nil h4 hn⟩
theorem qm{α:Type}{m:List (Str × α)}{z:Str}{x:α}(h:look m z=some x):(z,x)∈m:=by
 unfold look at h
 obtain⟨q,hq,e⟩:=Option.map_eq_some_iff.mp h
 have h1:=List.mem_of_find?_eq_some hq
 have h2:q.1=z:=by
  have h3:=List.find?_some hq
  exact od0 h3
 obtain⟨a,b⟩:=q
 replace h2:a=z:=h2
 replace e:b=x:=e
 rw [<-h2,<-e]
 exact h1
def AZ{α:Type}(D:α->PyData)(q:Str × α):PyData:=.tuple [.str q.1,D q.2]
theorem pQ{α:Type}{K:W.Frag}{H:Hp}{R:V->α->Prop}{D:α->PyData}(hD:∀v x,R v x->Dat K H v (D x)):∀{kvs:List (Key × V)} {m:List (Str × α)} {as:List Addr},dM R kvs m->Paired (fun(p:Key × V) (k:Addr)=>H k=some (.tup [kV p.1,p.2])) kvs as->kZ K H (as.map V.ref) (m.map (AZ D))
 |_,_,_,.nil,.nil=>.nil
 |_,_,_,.cons ⟨e,hr⟩ b,.cons hk c=>by
  rw [e] at hk
  exact .cons (.tup (SqT.of hk) (.cons (.str _) (.cons (hD _ _ hr) .nil))) (pQ hD b c)
theorem kg{α:Type}{K:W.Frag}{H:Hp}{R:V->α->Prop}{D:α->PyData}(hD:∀v x,R v x->Dat K H v (D x)):∀{xs:List V} {m:List (Str × α)},Paired (fun v (q:Str × α)=>∃(p:Addr) (y:V),v=.ref p/\H p=some (.tup [.str q.1,y])/\R y q.2) xs m->kZ K H xs (m.map (AZ D))
 |_,_,.nil=>.nil
 |_,_,.cons ⟨p,y,e,hp,hr⟩ b=>by
  rw [e]
  exact .cons (.tup (SqT.of hp) (.cons (.str _) (.cons (hD _ _ hr) .nil))) (kg hD b)
theorem rL{α:Type}{D:α->PyData}{m:List (Str × α)}{n:Nat}(hl:m.length<=100)(h:∀q∈m,AlD (n+1) (D q.2)):AlD (n+3) (.tuple (m.map (AZ D))):=by
 refine⟨by rw [lm0];exact hl,fun d hd=>?_⟩
 obtain⟨q,hq,rfl⟩:=List.mem_map.mp hd
 refine⟨by show 2<=100;decide,fun d hd=>?_⟩
 rcases mc0 hd with rfl|hd
 ·trivial
 ·rw [List.mem_singleton.mp hd]
  exact h q hq
abbrev smP:List Str:=["_law_face","_law_kinds","_law_funs"]
def AlM(m1:List (Str × Kd))(m2:List (Str × (List Kd × Kd))):Prop:=m1.length<=100/\m2.length<=100/\(∀q∈m1,AlD 40 (Kd.dat q.2))/\∀q∈m2,AlD 40 (Fn.dat q.2)
def xV(K:W.Frag)(CF:Addr):Sp:=fun vs H Q _=>∃(fa l1 l2:Addr) (m1:List (Str × Kd)) (m2:List (Str × (List Kd × Kd))),vs=[.ref fa,.ref l1,.ref l2]/\dZ K H CF fa m1 m2/\Ac K H l1 m1/\Aq K H l2 m2/\AlM m1 m2/\∀H',aE H H'->Q (.bl true) H'
theorem dh:bootBuiltins "isinstance"=some (.builtin "isinstance"):=by decide +kernel
theorem yx(K:W.Frag):W.kitOne K (.type "dict") (.type "dict")=some true:=rfl
theorem As:aO smP smP (ah sr):=mkS
theorem zU{f fl CF:Addr}{fd fdl:FuncData} (F:Fun K "_law_same" "_law_same" sr f fd)
  (GL:bq P w K mg base CX0 42 fl fdl alN (pC K 42)) (bL:aV K fdl alN []) (kL:W.keepIn K (.ref fl)=true) (mL:mg "_law_alike"=some (.ref fl))
  (mF:mg "Face"=some (.ref CF)) (mi:mg "isinstance"=none) (md:mg "dict"=none) (mt:mg "tuple"=none) (cF:Cls K CF) (nK:bt K CF "kinds") (nF:bt K CF "funs")
  (clF:W.findIn K (.ref CF) "__class__"=some (some (.builtin "object.__class__"))) (sp:W.specialIn K (.builtin "object.__class__") "__get__"=some (some (.builtin "getset_descriptor.__get__"))) (tk1:W.takesIn K (.builtin "object.__class__")=some true) (obF:W.mroIn K CF (.type "object")=some true) (j5:W.kitOne K (.ref CF) (.ref CF)=some true) :
  bq P w K mg base CX0 43 f fd smP (xV K CF):=by
 refine F.k0 As fun cdv A outer s H vs Q E hr h=>?_
 obtain⟨fa,l1,l2,m1,m2,rfl,hF,hR1,hR2,hal,q⟩:=h
 refine⟨_,@ag _ _ _ _ _ (cg (PW.pt (tS (jl (L2.pt_val (bu kz rfl mi dh (@aa _ _ _ _ _ (pv 0) (@aa _ _ _ _ _ (iS rfl mF (v:=.ref CF) rfl) ae rfl) rfl)))) (tS (jl (L2.pt_val (bu kz rfl mi dh (@aa _ _ _ _ _ (bY (pv 0) rfl) (@aa _ _ _ _ _ (gc rfl md d6 (v:=.ty "dict") rfl) ae rfl) rfl)))) (qU (jl (L2.pt_val (bu kz rfl mi dh (@aa _ _ _ _ _ (bY (pv 0) rfl) (@aa _ _ _ _ _ (gc rfl md d6 (v:=.ty "dict") rfl) ae rfl) rfl)))))))) (@ao _ _ _ (@aS _ _ _ _ oP)) aU)
  (@ag _ _ _ _ _ (cg (jl (L2.pt_val (aD GL hr rfl mL kL bL .nil bx (@aa _ _ _ _ _ (bE (fG rfl) rfl mt dm (@aa _ _ _ _ _ (qJ PySem.F.plainAttrs_dict PySem.F.slot_dict_items PySem.F.type_dict_items qO (bY (pv 0) rfl)) ae rfl)) (@aa _ _ _ _ _ (bE dj rfl mt dm (@aa _ _ _ _ _ (pv 1) ae rfl)) ae rfl) rfl)))) (@ao _ _ _ (@aS _ _ _ _ oP)) aU)
  (@ao _ _ _ (@aS _ _ _ _ (aD GL hr rfl mL kL bL .nil bx (@aa _ _ _ _ _ (bE (fG rfl) rfl mt dm (@aa _ _ _ _ _ (qJ PySem.F.plainAttrs_dict PySem.F.slot_dict_items PySem.F.type_dict_items qO (bY (pv 0) rfl)) ae rfl)) (@aa _ _ _ _ _ (bE dj rfl mt dm (@aa _ _ _ _ _ (pv 2) ae rfl)) ae rfl) rfl))))),?_⟩
 obtain⟨dx,d1,d2,fs,kv1,kv2,hfa,lk,lf,hd1,hd2,hk1,hk2,_,_⟩:=id hF
 obtain⟨a1,a2,a3,a4⟩:=hal
 refine⟨_,rfl,.ref fa,.ref CF,.ref CF,.ref CF,true,rfl,(fun _ z=>z),.ins hfa cF clF sp tk1 obF,j5,true,rfl,nV ?_⟩
 refine⟨_,rfl,fa,CF,dx,fs,_,rfl,hfa,cF,nK,lk,.ref d1,.ty "dict",.type "dict",.type "dict",true,rfl,(fun _ z=>by cases z;rfl),.dK hd1,yx K,true,rfl,nV ?_⟩
 refine⟨_,rfl,fa,CF,dx,fs,_,rfl,hfa,cF,nF,lf,.ref d2,.ty "dict",.type "dict",.type "dict",true,rfl,(fun _ z=>by cases z;rfl),.dK hd2,yx K,true,rfl,nV ?_⟩
 obtain⟨xs1,hl1,hx1⟩:=id hR1
 refine⟨_,rfl,fa,CF,dx,fs,_,rfl,hfa,cF,nK,lk,.inr (.inr (.inl ⟨rfl,.inl ⟨_,hd1⟩⟩)),d1,kv1,rfl,rfl,hd1,fun v hv=>?_⟩
 have s1:=ad hv (.ext (jR v d1))
 refine⟨v,d1,kv1,rfl,ac,s1 _ _ hd1,fun H2 as l s2 hl ha h2 hp=>?_⟩
 have s12:=aE.trans s1 s2
 refine⟨_,rfl,l1,xs1,rfl,.inl ⟨SqL.of (s12 _ _ hl1),fun l' hl'=>?_⟩⟩
 have s3:=ad hl' (.tup xs1)
 have s13:=s12.trans s3
 refine⟨.ref l,.ref l',.tuple (m1.map (AZ Kd.dat)),rfl,.tup (SqT.of (s3 _ _ h2)) (pQ (R:=cc K _) (fun _ _ h=>dq h) (hk1.imp fun _ _ h=>h.same s13) (Paired.mapP hp fun _ _ h=>s3 _ _ h)),.tup (SqT.of ac) (kg (R:=cc K _) (fun _ _ h=>dq h) (Paired.mapP hx1 fun _ _ h=>wq.same s13 h)),rL (n:=39) a1 a3,fun H4 s4=>⟨true,rfl,nV ?_⟩⟩
 have sA:=s13.trans s4
 obtain⟨xs2,hl2,hx2⟩:=id (hR2.same sA)
 refine⟨_,rfl,fa,CF,dx,fs,_,rfl,sA _ _ hfa,cF,nF,lf,.inr (.inr (.inl ⟨rfl,.inl ⟨_,sA _ _ hd2⟩⟩)),d2,kv2,rfl,rfl,sA _ _ hd2,fun v' hv'=>?_⟩
 have t1:=ad hv' (.ext (jR v' d2))
 refine⟨v',d2,kv2,rfl,ac,t1 _ _ (sA _ _ hd2),fun H5 as' l3 t2 hl3 ha' h5 hp'=>?_⟩
 have t12:=aE.trans t1 t2
 refine⟨_,rfl,l2,xs2,rfl,.inl ⟨SqL.of (t12 _ _ hl2),fun l4 hl4=>?_⟩⟩
 have t3:=ad hl4 (.tup xs2)
 have t13:=t12.trans t3
 exact⟨.ref l3,.ref l4,.tuple (m2.map (AZ Fn.dat)),rfl,.tup (SqT.of (t3 _ _ h5)) (pQ (R:=db K _) (fun _ _ h=>ji h) (hk2.imp fun _ _ h=>h.keep fun _ _ t=>(sA.trans t13).tup t) (Paired.mapP hp' fun _ _ h=>t3 _ _ h)),.tup (SqT.of ac) (kg (R:=db K _) (fun _ _ h=>ji h) (Paired.mapP hx2 fun _ _ h=>BT.same t13 h)),rL (n:=39) a2 a4,fun H6 s6=>q _ (sA.trans (t13.trans s6))⟩
inductive It where
 |kind (w:Str) (k:Kd)
 |fn (w:Str) (ps:List (Str × Kd)) (k:Kd)
 |opn (p:Str)
abbrev aq:=List (Str × Kd)
abbrev bi:=List (Str × (List Kd × Kd))
abbrev bp:=List (Str × (aq × bi))
inductive FR where
 |ok (m1:aq) (m2:bi)
 |ref (c:Nat)
inductive Nr where
 |ok (k:Kd)
 |no (c:Nat)
inductive Nrs where
 |ok (ks:List Kd)
 |no (c:Nat)
def PGo(parts:bp):Str->Option (Str->Option Kd):=fun q=>(look parts q).map fun r=>look r.1
def tl(m1:aq)(parts:bp):Str × Str->Option Kd:=iB (look m1) (PGo parts)
def fY(T:Str × Str->Option Kd)(M:Int)(k:Kd):Nr:=if (∃n∈Kd.names k,T n=none) then .no 2 else if ((Kd.put T k).words:Int) > M then .no 3 else .ok (Kd.put T k)
def dG(T:Str × Str->Option Kd)(M:Int):List Kd->Nrs
 |[]=>.ok []
 |k::ks=>match fY T M k with
  |.no c=>.no c
  |.ok k'=>match dG T M ks with
   |.no c=>.no c
   |.ok l=>.ok (k'::l)
def ck{α:Type}:List (Str × α)->List (Str × α)->Option (List (Str × α))
 |m,[]=>some m
 |m,q::qs=>if q.1∈m.map (·.1) then none else ck (m++[q]) qs
def bZ(parts:bp)(M:Int)(m1:aq)(m2:bi):It->FR
 |.kind w k=>match fY (tl m1 parts) M k with
  |.no c=>.ref c
  |.ok k'=>if w∈m1.map (·.1) then .ref 0 else .ok (m1++[(w,k')]) m2
 |.fn w ps k=>match dG (tl m1 parts) M (ps.map (·.2)) with
  |.no c=>.ref c
  |.ok ks=>match fY (tl m1 parts) M k with
   |.no c=>.ref c
   |.ok k'=>if w∈m2.map (·.1) then .ref 0 else .ok m1 (m2++[(w,(ks,k'))])
 |.opn p=>match look parts p with
  |none=>.ref 1
  |some r=>match ck m1 r.1 with
   |none=>.ref 0
   |some n1=>match ck m2 r.2 with
    |none=>.ref 0
    |some n2=>.ok n1 n2
def eN(parts:bp)(M:Int):FR->It->FR
 |.ref c,_=>.ref c
 |.ok m1 m2,it=>bZ parts M m1 m2 it
def iR(parts:bp)(M:Int)(its:List It):FR:=its.foldl (eN parts M) (.ok [] [])
theorem nw(parts:bp)(M:Int)(a b:List It):iR parts M (a++b)=b.foldl (eN parts M) (iR parts M a):=by
 unfold iR
 rw [List.foldl_append]
theorem qY(parts:bp)(M:Int)(c:Nat):∀b:List It,b.foldl (eN parts M) (.ref c)=.ref c
 |[]=>rfl
 |_::b=>qY parts M c b
def KB(k:Kd):Prop:=Kd.ok k/\k.words<=60
def ItK(k:Kd):Prop:=Kd.ok k/\k.leaves.length<=21/\(k.leaves.length<=3\/Kd.names k=[])
def Ok1(m1:aq):Prop:=∀q∈m1,okW q.1/\KB q.2
def Ok2(m2:bi):Prop:=∀q∈m2,okW q.1/\q.2.1.length<=4/\∀k∈q.2.2::q.2.1,KB k
def yN(parts:bp):Prop:=∀r∈parts,Ok1 r.2.1/\Ok2 r.2.2/\r.2.1.length<=5/\r.2.2.length<=5/\(r.2.1.map (·.1)).Nodup/\(r.2.2.map (·.1)).Nodup/\okW r.1
def qz:It->Prop
 |.kind w k=>okW w/\ItK k
 |.fn w ps k=>okW w/\ps.length<=4/\(∀q∈ps,ItK q.2)/\ItK k
 |.opn p=>okW p
theorem cO:∀k:Kd,k.words+1=2*k.leaves.length
 |.num n=>rfl
 |.name q t=>rfl
 |.pair a b=>by
  have h1:=cO a
  have h2:=cO b
  show(1+a.words+b.words)+1=2*(a.leaves++b.leaves).length
  rw [la0]
  omega
theorem nA{G:Str × Str->Option Kd}:∀{k:Kd},Kd.names k=[]->Kd.put G k=k
 |.num n,_=>rfl
 |.name q t,h=>by cases h
 |.pair a b,h=>by
  have h':Kd.names a++Kd.names b=[]:=h
  have ha:Kd.names a=[]:=(List.append_eq_nil_iff.mp h').1
  have hb:Kd.names b=[]:=(List.append_eq_nil_iff.mp h').2
  show Kd.pair (Kd.put G a) (Kd.put G b)=Kd.pair a b
  rw [nA ha,nA hb]
theorem my{G:Str × Str->Option Kd}(hG:∀n g,G n=some g->KB g){k:Kd}(h:ItK k):(Kd.put G k).words<=900/\Kd.ok (Kd.put G k):=by
 refine⟨?_,iP (fun n g e=>(hG n g e).1) h.1⟩
 rcases h.2.2 with h3|h3
 ·have e:=gy (G:=G) (c:=31) (by decide) (fun n g e=>by
   have:=cO g
   have:=(hG n g e).2
   omega) k
  have:=cO (Kd.put G k)
  omega
 ·rw [nA h3]
  have:=cO k
  have:=h.2.1
  omega
theorem dC{α:Type}{m:List (Str × α)}{z:Str}{x:α}(h:look m z=some x):(z,x)∈m:=qm h
theorem BP{m1:aq}{parts:bp}(h1:Ok1 m1)(hp:yN parts):∀n g,tl m1 parts n=some g->KB g:=fun n g e=>by
 unfold tl iB at e
 by_cases c:n.1=""
 ·rw [if_pos c] at e
  exact(h1 _ (dC e)).2
 ·rw [if_neg c] at e
  unfold PGo at e
  cases hq:look parts n.1 with
  |none=>rw [hq] at e;cases e
  |some r =>
   rw [hq] at e
   exact((hp _ (dC hq)).1 _ (dC (show look r.1 n.2=some g from e))).2
def nP(K:W.Frag)(H:Hp)(v:V):It->Prop
 |.kind w k=>∃(p:Addr) (y:V),v=.ref p/\SqT K H p [.str "kind",.str w,y]/\cc K H y k
 |.fn w ps k=>∃(p ta:Addr) (y z:V) (xs:List V),v=.ref p/\SqT K H p [.str "fun",.str w,.ref ta,y,z]/\SqT K H ta xs/\iQ K H xs ps/\cc K H y k
 |.opn q=>∃(p:Addr),v=.ref p/\SqT K H p [.str "open",.str q]
theorem fJ.keep{K:W.Frag}{H H':Hp}{v:V}{q:Str × Kd}(e:∀a xs,SqT K H a xs->SqT K H' a xs)(h:fJ K H v q):fJ K H' v q:=by
 obtain⟨p,y,h1,h2,h3⟩:=h
 exact⟨p,y,h1,e _ _ h2,aY e h3⟩
theorem nP.keep{K:W.Frag}{H H':Hp}{v:V}(e:∀a xs,SqT K H a xs->SqT K H' a xs):∀{it:It},nP K H v it->nP K H' v it
 |.kind w k,⟨p,y,h1,h2,h3⟩=>⟨p,y,h1,e _ _ h2,aY e h3⟩
 |.fn w ps k,⟨p,ta,y,z,xs,h1,h2,h3,h4,h5⟩=>⟨p,ta,y,z,xs,h1,e _ _ h2,e _ _ h3,Paired.mapP h4 fun _ _ t=>t.keep e,aY e h5⟩
 |.opn q,⟨p,h1,h2⟩=>⟨p,h1,e _ _ h2⟩
theorem nP.same{K:W.Frag}{H H':Hp}{v:V}{it:It}(e:aE H H')(h:nP K H v it):nP K H' v it:=h.keep fun _ _ t=>e.tup t
def iA(K:W.Frag)(H:Hp)(CF pa:Addr)(parts:bp):Prop:=∃pkv,H pa=some (.dK pkv)/\dM (fun v (r:aq × bi)=>∃fa,v=.ref fa/\dZ K H CF fa r.1 r.2) pkv parts
theorem iA.same{K:W.Frag}{H H':Hp}{CF pa:Addr}{parts:bp}(e:aE H H')(h:iA K H CF pa parts):iA K H' CF pa parts:=by
 obtain⟨pkv,h1,h2⟩:=h
 exact⟨pkv,e _ _ h1,h2.imp fun v r ⟨fa,e1,e2⟩=>⟨fa,e1,e2.same e⟩⟩
structure gY(K:W.Frag)(H:Hp)(CF fa d1 d2 dx:Addr)(fs:List (Str × V))(kv1 kv2:List (Key × V))(m1:aq)(m2:bi):Prop where
 obj:H fa=some (.ins CF dx fs)
 fk:fs.lookup ("kinds":Str)=some (.ref d1)
 ff:fs.lookup ("funs":Str)=some (.ref d2)
 h1:H d1=some (.dK kv1)
 h2:H d2=some (.dK kv2)
 p1:dM (cc K H) kv1 m1
 p2:dM (db K H) kv2 m2
 nh:fs.lookup ("hidden":Str)=none
 np:fs.lookup ("put":Str)=none
 ne:d1≠d2
def eB(K:W.Frag)(H:Hp)(CF fa d1 d2:Addr)(m1:aq)(m2:bi):Prop:=∃dx fs kv1 kv2,gY K H CF fa d1 d2 dx fs kv1 kv2 m1 m2
theorem eB.same{K:W.Frag}{H H':Hp}{CF fa d1 d2:Addr}{m1:aq}{m2:bi}(e:aE H H')(h:eB K H CF fa d1 d2 m1 m2):eB K H' CF fa d1 d2 m1 m2:=by
 obtain⟨dx,fs,kv1,kv2,F⟩:=h
 exact⟨dx,fs,kv1,kv2,e _ _ F.obj,F.fk,F.ff,e _ _ F.h1,e _ _ F.h2,F.p1.imp fun _ _ t=>t.same e,F.p2.imp fun _ _ t=>t.keep fun _ _ t=>e.tup t,F.nh,F.np,F.ne⟩
theorem eB.faceF{K:W.Frag}{H:Hp}{CF fa d1 d2:Addr}{m1:aq}{m2:bi}(h:eB K H CF fa d1 d2 m1 m2):dZ K H CF fa m1 m2:=by
 obtain⟨dx,fs,kv1,kv2,F⟩:=h
 exact⟨dx,d1,d2,fs,kv1,kv2,F.obj,F.fk,F.ff,F.h1,F.h2,F.p1,F.p2,F.nh,F.np⟩
theorem gY.put1{K:W.Frag}{H:Hp}{CF fa d1 d2 dx:Addr}{fs:List (Str × V)}{kv1 kv2:List (Key × V)}{m1:aq}{m2:bi}(F:gY K H CF fa d1 d2 dx fs kv1 kv2 m1 m2){z:Str}{v:V}{k:Kd}(hz:z∉m1.map (·.1))(hv:cc K H v k) :
  gY K (upd H d1 (.dK (bc kv1 (.inr z) v))) CF fa d1 d2 dx fs (bc kv1 (.inr z) v) kv2 (m1++[(z,k)]) m2:=by
 have kp:∀b xs,SqT K H b xs->SqT K (upd H d1 (.dK (bc kv1 (.inr z) v))) b xs:=fun b xs h=>eS F.h1 h
 refine⟨?_,F.fk,F.ff,ac,?_,?_,F.p2.imp fun _ _ t=>t.keep kp,F.nh,F.np,F.ne⟩
 ·rw [aj (fun e=>by have:=F.obj;rw [e,F.h1] at this;cases this)]
  exact F.obj
 ·rw [aj (Ne.symm F.ne)]
  exact F.h2
 ·exact dM.put (F.p1.imp fun _ _ t=>aY kp t) hz (aY kp hv)
theorem gY.put2{K:W.Frag}{H:Hp}{CF fa d1 d2 dx:Addr}{fs:List (Str × V)}{kv1 kv2:List (Key × V)}{m1:aq}{m2:bi}(F:gY K H CF fa d1 d2 dx fs kv1 kv2 m1 m2){z:Str}{v:V}{g:List Kd × Kd}(hz:z∉m2.map (·.1))(hv:db K H v g) :
  gY K (upd H d2 (.dK (bc kv2 (.inr z) v))) CF fa d1 d2 dx fs kv1 (bc kv2 (.inr z) v) m1 (m2++[(z,g)]):=by
 have kp:∀b xs,SqT K H b xs->SqT K (upd H d2 (.dK (bc kv2 (.inr z) v))) b xs:=fun b xs h=>eS F.h2 h
 refine⟨?_,F.fk,F.ff,?_,ac,F.p1.imp fun _ _ t=>aY kp t,?_,F.nh,F.np,F.ne⟩
 ·rw [aj (fun e=>by have:=F.obj;rw [e,F.h2] at this;cases this)]
  exact F.obj
 ·rw [aj F.ne]
  exact F.h1
 ·exact dM.put (F.p2.imp fun _ _ t=>t.keep kp) hz (hv.keep kp)
theorem xq{α:Type}{R:V->α->Prop}{kvs:List (Key × V)}{m:List (Str × α)}(h:dM R kvs m)(z:Str):(dg kvs (.inr z)).isSome=decide (z∈m.map (·.1)):=by
 rcases cJ h z with ⟨h1,h2⟩|⟨v,x,h1,h2,_⟩
 ·rw [h1]
  refine(df0 fun hm=>?_).symm
  obtain⟨q,hq,e⟩:=List.mem_map.mp hm
  unfold look at h2
  rw [Option.map_eq_none_iff,List.find?_eq_none] at h2
  exact h2 q hq (dt0 e)
 ·rw [h1]
  exact(dt0 (List.mem_map.mpr ⟨_,dC h2,rfl⟩)).symm
theorem xp{K:W.Frag}{H:Hp}{kvs:List (Key × V)}{m:aq}(h:dM (cc K H) kvs m):ya K H kvs (look m):=fun t=>by
 rcases cJ h t with ⟨h1,h2⟩|⟨v,x,h1,h2,h3⟩
 ·exact .inl ⟨h1,h2⟩
 ·exact .inr ⟨v,x,h1,h2,h3⟩
theorem um{K:W.Frag}{H:Hp}{CF:Addr}{pkv:List (Key × V)}{parts:bp}(h:dM (fun v (r:aq × bi)=>∃fa,v=.ref fa/\dZ K H CF fa r.1 r.2) pkv parts):gu K H CF pkv (PGo parts):=fun q=>by
 rcases cJ h q with ⟨h1,h2⟩|⟨v,r,h1,h2,fa,e,dx,d1,d2,fs,kv1,kv2,f1,f2,f3,f4,f5,f6,_⟩
 ·exact .inl ⟨h1,by unfold PGo;rw [h2];rfl⟩
 ·exact .inr ⟨v,look r.1,h1,by unfold PGo;rw [h2];rfl,fa,dx,fs,d1,kv1,e,f1,f2,f4,xp f6⟩
abbrev aoP:List Str:=["told","word","what"]
def pK(CW:Addr):Sp:=fun vs H Q E=>∃(d:Addr) (z:Str) (x:V) (kvs:List (Key × V)),vs=[.ref d,.str z,x]/\okW z/\H d=some (.dK kvs)/\kvs.length<=200 /\
 (((dg kvs (.inr z)).isSome=true/\E (.ref CW) none H)\/((dg kvs (.inr z)).isSome=false/\Q .non (upd H d (.dK (bc kvs (.inr z) x)))))
theorem CP:aO aoP aoP (ah gJ):=mkS
theorem Bo{f CW:Addr}{fd:FuncData} (F:Fun K "add_once" "add_once" gJ f fd) (mW:mg "Twice"=some (.ref CW)) (xW:W.excIn K CW kX "ValueError.__new__"=true) :
  bq P w K mg base (CX1 P w) 1 f fd aoP (pK CW):=by
 refine F.k1 CP fun cdv A outer s H vs Q E hr h=>?_
 obtain⟨d,z,x,kvs,rfl,hz,hd,hl,q⟩:=h
 have hu:=dY hr
 have lz:z.length<=100000:=Nat.le_trans hz.2 (by decide)
 have zz:z.length<=sizeLine:=Nat.le_trans lz (by decide)
 refine⟨_,ag (cg (lO (x9 hu (pv 1) (pv 0)) (by with_unfolding_all rfl))
   (ao (eF rfl mW xW (aa (gb (bh am (bh (mQ (pv 1)) (bh am jh))) (by decide)) ae))) aU)
  (ao (bw hu (pv 0) (pv 1) (pv 2) rfl)),?_⟩
 refine⟨_,rfl,_,rfl,d,_,rfl,cT.k (k:=.inr z) hd,_,rfl,?_⟩
 rcases q with ⟨h1,hE⟩|⟨h1,hQ⟩
 ·rw [h1]
  exact qT ⟨_,rfl,by decide +kernel,_,rfl,.inl ⟨z,rfl,zz,z,rfl,Nat.le_trans lz (by decide),_,rfl,by decide +kernel,fun z3 hz3=>⟨(sz 1),hE⟩⟩⟩
 ·rw [h1]
  exact nV ⟨_,rfl,_,rfl,_,rfl,d,_,rfl,gK.k (k:=.inr z) hd (Nat.lt_of_le_of_lt hl (by decide)),hQ⟩
theorem i5{α:Type}:∀(a b m:List (Str × α)),ck m (a++b)=(ck m a).bind fun n=>ck n b
 |[],b,m=>rfl
 |q::a,b,m=>by
  rw [List.cons_append]
  show(if q.1∈m.map (·.1) then none else ck (m++[q]) (a++b))=(if q.1∈m.map (·.1) then none else ck (m++[q]) a).bind fun n=>ck n b
  by_cases c:q.1∈m.map (·.1)
  ·rw [if_pos c,if_pos c]
   rfl
  ·rw [if_neg c,if_neg c]
   exact i5 a b _
theorem sk{α:Type}(m:List (Str × α))(q:Str × α):ck m [q]=if q.1∈m.map (·.1) then none else some (m++[q]):=rfl
theorem iZ{α:Type}:∀(b m n:List (Str × α)),ck m b=some n->n.length=m.length+b.length
 |[],m,n,h=>by
  cases h
  rfl
 |q::b,m,n,h=>by
  unfold ck at h
  by_cases c:q.1∈m.map (·.1)
  ·rw [if_pos c] at h
   cases h
  ·rw [if_neg c] at h
   have:=iZ b _ _ h
   rw [la0] at this
   have e1:([q]:List (Str × α)).length=1:=rfl
   have e2:(q::b).length=b.length+1:=rfl
   rw [e1] at this
   rw [this,e2]
   omega
theorem kq{α:Type}{m n r:List (Str × α)}{i:Nat}{q:Str × α}(h:ck m (r.take i)=some n)(hq:r[i]?=some q)(c:q.1∉n.map (·.1)):ck m (r.take (i+1))=some (n++[q]):=by
 rw [List.take_add_one,hq,i5,h]
 show ck n [q]=_
 rw [sk,if_neg c]
theorem jV{α:Type}{m n r:List (Str × α)}{i:Nat}{q:Str × α}(h:ck m (r.take i)=some n)(hq:r[i]?=some q)(c:q.1∈n.map (·.1)):ck m r=none:=by
 have hi:=(List.getElem?_eq_some_iff.mp hq)
 obtain⟨hi,e⟩:=hi
 have:r=r.take i++q::r.drop (i+1):=by
  rw [<-e,List.getElem_cons_drop,List.take_append_drop]
 rw [this,i5,h]
 show ck n (q::r.drop (i+1))=none
 unfold ck
 rw [if_pos c]
abbrev toN:List Str:=["full","part","parts","word","kind","fun"]
abbrev toP:List Str:=["full","part","parts"]
def C9(K:W.Frag)(CF:Addr)(cl:Nat->Addr)(H0:Hp)(fa d1 d2:Addr)(Q:VK)(E:XK):FR->Prop
 |.ok n1 n2=>∀H',aE H0 H'->eB K H' CF fa d1 d2 n1 n2->Q .non H'
 |.ref c=>∀H',aE H0 H'->E (.ref (cl c)) none H'
def qa(parts:bp)(m1:aq)(m2:bi)(p:Str):FR:=match look parts p with
  |none=>.ref 1
  |some r=>match ck m1 r.1 with
   |none=>.ref 0
   |some n1=>match ck m2 r.2 with
    |none=>.ref 0
    |some n2=>.ok n1 n2
theorem rK(parts:bp)(M:Int)(m1:aq)(m2:bi)(p:Str):bZ parts M m1 m2 (.opn p)=qa parts m1 m2 p:=rfl
def jd(K:W.Frag)(CF:Addr)(cl:Nat->Addr):Sp:=fun vs H Q E=>∃(H0:Hp) (fa d1 d2:Addr) (p:Str) (pa:Addr) (m1:aq) (m2:bi) (parts:bp),vs=[.ref fa,.str p,.ref pa]/\aE H0 H/\H0 d1=none/\H0 d2=none /\
 eB K H CF fa d1 d2 m1 m2/\okW p/\iA K H0 CF pa parts/\yN parts/\m1.length<=100/\m2.length<=100/\C9 K CF cl H0 fa d1 d2 Q E (qa parts m1 m2 p)
theorem rl{H0 H3:Hp}{d:Addr}{kv:List (Key × V)}(hd:H0 d=some (.dK kv))(old:∀b u,H0 b=some u->b≠d->H3 b=some u):aE H0 (upd H3 d (.dK kv)):=fun b u hb=>by
 by_cases e:b=d
 ·rw [e] at hb ⊢
  rw [hd] at hb
  cases hb
  exact ac
 ·rw [aj e]
  exact old b u hb e
theorem gY.frz{K:W.Frag}{H:Hp}{CF fa d1 d2 dx:Addr}{fs:List (Str × V)}{kv1 kv2:List (Key × V)}{m1:aq}{m2:bi}{d:Addr}{u:HO}(F:gY K H CF fa d1 d2 dx fs kv1 kv2 m1 m2)(n1:d≠d1)(n2:d≠d2)(n3:fa≠d)(kp:∀b xs,SqT K H b xs->SqT K (upd H d u) b xs) :
  gY K (upd H d u) CF fa d1 d2 dx fs kv1 kv2 m1 m2 :=
 ⟨by rw [aj n3];exact F.obj,F.fk,F.ff,by rw [aj (Ne.symm n1)];exact F.h1,by rw [aj (Ne.symm n2)];exact F.h2,F.p1.imp fun _ _ t=>aY kp t,F.p2.imp fun _ _ t=>t.keep kp,F.nh,F.np,F.ne⟩
theorem gY.same{K:W.Frag}{H H':Hp}{CF fa d1 d2 dx:Addr}{fs:List (Str × V)}{kv1 kv2:List (Key × V)}{m1:aq}{m2:bi}(F:gY K H CF fa d1 d2 dx fs kv1 kv2 m1 m2)(e:aE H H'):gY K H' CF fa d1 d2 dx fs kv1 kv2 m1 m2 :=
 ⟨e _ _ F.obj,F.fk,F.ff,e _ _ F.h1,e _ _ F.h2,F.p1.imp fun _ _ t=>t.same e,F.p2.imp fun _ _ t=>t.keep fun _ _ t=>e.tup t,F.nh,F.np,F.ne⟩
theorem dO:aO toN toP (ah bQ):=mkS
theorem to1{f fg CF CW:Addr}{fdg:FuncData}(GA:bq P w K mg base (CX1 P w) 1 fg fdg aoP (pK CW))(bA:aV K fdg aoP [])(kA:W.keepIn K (.ref fg)=true) (mA:mg "add_once"=some (.ref fg)) (cF:Cls K CF) (nK:bt K CF "kinds")
  {cdv:Value} {A:Around} {outer:List Env} {s:Shared} {H:Hp} {E:XK} (hr:cG 1 (A.deeper (PyProof.Rows.envOfC "take_opened" (ah bQ) s.heap.objs.size f cdv))) :
  ∃t,PS (ee (CX1 P w) P w K mg base toN "take_opened" (ah bQ) f cdv A outer s H E) ((ar bQ).getD 1 (.Pass ⟨0,0,0,0⟩)) t /\
   ∀(D:fZ) (H0 H1:Hp) (fa d1 d2 pa:Addr) (p:Str) (m1:aq) (m2:bi) (parts:bp) (r:aq × bi),aE H0 H->aE H0 H1->H0 d1=none->H0 d2=none->eB K H1 CF fa d1 d2 m1 m2->iA K H0 CF pa parts->look parts p=some r->m1.length<=100->r.1.length<=5->Ok1 r.1 ->
    (∀n1,ck m1 r.1=some n1->∀(H4:Hp) (y3 y4:Option V),aE H0 H4->eB K H4 CF fa d1 d2 n1 m2->D.nx [some (.ref fa),some (.str p),some (.ref pa),y3,y4,none] H4) ->
    (ck m1 r.1=none->∀H4:Hp,aE H0 H4->E (.ref CW) none H4) ->
    t D [some (.ref fa),some (.str p),some (.ref pa),none,none,none] H1:=by
 have hu:=dY hr
 have hr1:cG 1 _:=hr.mono (by decide)
 refine⟨_,fR (di PassesOwn.leaving rfl (eR (bY (aJ hu (pv 2) (pv 1) (fun _ _=>rfl)) rfl)) (dE rfl (aL (aP (i:=3) dO.nd rfl (Or.inl rfl)) (aL (aP (i:=4) dO.nd rfl (Or.inl rfl)) cC)))
   (@ao _ _ _ (cW (aD GA hr1 rfl mA kA bA .nil Ay (@aa _ _ _ _ _ (bY (pv 0) rfl) (@aa _ _ _ _ _ (pv 3) (@aa _ _ _ _ _ (pv 4) ae rfl) rfl) rfl))))),?_⟩
 intro D H0 H1 fa d1 d2 pa p m1 m2 parts r sH s1 hd1 hd2 hF hP hr' h100 hr2 hok qN qE
 obtain⟨pkv,hpa,hpk⟩:=hP
 obtain⟨dxf,fsf,kv1,kv2,F⟩:=hF
 rcases cJ hpk p with ⟨_,h2⟩|⟨v,r',h1,h2,pf,rfl,dx,d,e2,fs,kvp,kvq,f1,f2,f3,f4,f5,f6,_⟩
 ·rw [hr'] at h2
  cases h2
 rw [hr'] at h2
 cases h2
 have nd1:d≠d1:=fun e=>by rw [e,hd1] at f4;cases f4
 have nd2:d≠d2:=fun e=>by rw [e,hd2] at f4;cases f4
 have nfa:∀{H3:Hp} {o:Obj},H3 fa=some (.ins CF dxf fsf)->H3 d=some (.frz o (.dK kvp))->fa≠d:=fun h1 h2 e=>by rw [e,h2] at h1;cases h1
 have hlen:kvp.length=r.1.length:=Paired.length f6
 have hnf:∀o' u',H d≠some (.frz o' u'):=fun o' u' e=>by rw [sH _ _ f4] at e;cases e
 refine⟨_,rfl,_,rfl,pa,.ref pf,rfl,h1▸cT.k (k:=.inr p) (s1 _ _ hpa),pf,CF,dx,fs,_,rfl,s1 _ _ f1,cF,nK,f2,d,kvp,rfl,s1 _ _ f4,fun o=>?_⟩
 refine eE (fun i σ H3=>∃(y3 y4:Option V) (ni:aq) (kvi:List (Key × V)),σ=[some (.ref fa),some (.str p),some (.ref pa),y3,y4,none]/\(∀b u,H0 b=some u->b≠d->H3 b=some u)/\H3 d=some (.frz o (.dK kvp))/\gY K H3 CF fa d1 d2 dxf fsf kvi kv2 ni m2/\ck m1 (r.1.take i)=some ni/\(∀a xs,SqT K H0 a xs->SqT K H3 a xs)) ?_ ?_ ?_ ?_
 ·have kp:∀b xs,SqT K H1 b xs->SqT K (upd H1 d (.frz o (.dK kvp))) b xs:=fun b xs h=>eS (s1 _ _ f4) h
  have n3:fa≠d:=fun e=>by have:=F.obj;rw [e,s1 _ _ f4] at this;cases this
  exact⟨none,none,m1,kv1,rfl,fun b u hb nb=>by rw [aj nb];exact s1 _ _ hb,ac,F.frz nd1 nd2 n3 kp,rfl,fun a xs h=>kp a xs (s1.tup h)⟩
 ·rintro i σ H3 _ ⟨_,_,_,_,_,_,h,_⟩
  exact h
 ·rintro i pp a σ H3 hp ha ⟨y3,y4,ni,kvi,rfl,old,hd3,F3,hni,keep⟩
  obtain⟨⟨z,k⟩,hq,ez,hkz⟩:=bv f6 hp
  obtain⟨pk,pw⟩:=pp
  replace ez:pk=.inr z:=ez
  replace hkz:cc K H0 pw k:=hkz
  subst ez
  have hi:i < r.1.length:=(List.getElem?_eq_some_iff.mp hq).1
  have ea:=ad ha (.tup [kV (.inr z),pw])
  have F4:=F3.same ea
  have hkl:kvi.length=ni.length:=Paired.length F3.p1
  have hnl:=iZ _ _ _ hni
  rw [List.length_take] at hnl
  have hw:okW z:=(hok (z,k) (List.mem_of_getElem? hq)).1
  have hin:=xq F4.p1 z
  refine⟨a,_,rfl,SqT.of ac,rfl,_,_,rfl,_,_,rfl,rfl,?_⟩
  have hd4:=ea _ _ hd3
  refine⟨_,rfl,fa,CF,dxf,fsf,_,rfl,F4.obj,cF,nK,F4.fk,_,rfl,_,rfl,d1,z,pw,kvi,rfl,hw,F4.h1,by omega,?_⟩
  by_cases c:z∈ni.map (·.1)
  ·refine .inl ⟨by rw [hin];exact dt0 c,d,o,.dK kvp,hd4,hnf,qE (jV hni hq c) _ (rl f4 fun b u hb nb=>ea _ _ (old b u hb nb))⟩
  ·refine .inr ⟨by rw [hin];exact df0 c,?_⟩
   have kp5:∀b xs,SqT K (upd H3 a (.tup [kV (.inr z),pw])) b xs->SqT K (upd (upd H3 a (.tup [kV (.inr z),pw])) d1 (.dK (bc kvi (.inr z) pw))) b xs:=fun b xs h=>eS F4.h1 h
   refine⟨_,_,ni++[(z,k)],_,rfl,fun b u hb nb=>?_,?_,F4.put1 c (aY (fun b xs t=>ea.tup (keep b xs t)) hkz),kq hni hq c,fun b xs t=>kp5 b xs (ea.tup (keep b xs t))⟩
   ·rw [aj (fun e=>by rw [e,hd1] at hb;cases hb)]
    exact ea _ _ (old b u hb nb)
   ·rw [aj nd1]
    exact hd4
 ·rintro σ H3 ⟨y3,y4,ni,kvi,rfl,old,hd3,F3,hni,keep⟩
  rw [hlen,List.take_length] at hni
  exact⟨d,o,.dK kvp,hd3,hnf,qN ni hni _ y3 y4 (rl f4 old) ⟨_,_,_,_,F3.frz nd1 nd2 (nfa F3.obj hd3) fun b xs h=>rg hd3 h⟩⟩
theorem to2{f fg CF CW:Addr}{fdg:FuncData}(GA:bq P w K mg base (CX1 P w) 1 fg fdg aoP (pK CW))(bA:aV K fdg aoP [])(kA:W.keepIn K (.ref fg)=true) (mA:mg "add_once"=some (.ref fg)) (cF:Cls K CF) (nK:bt K CF "funs")
  {cdv:Value} {A:Around} {outer:List Env} {s:Shared} {H:Hp} {E:XK} (hr:cG 1 (A.deeper (PyProof.Rows.envOfC "take_opened" (ah bQ) s.heap.objs.size f cdv))) :
  ∃t,PS (ee (CX1 P w) P w K mg base toN "take_opened" (ah bQ) f cdv A outer s H E) ((ar bQ).getD 2 (.Pass ⟨0,0,0,0⟩)) t /\
   ∀(D:fZ) (H0 H1:Hp) (fa d1 d2 pa:Addr) (p:Str) (m1:aq) (m2:bi) (parts:bp) (r:aq × bi) (z3 z4:Option V),aE H0 H->aE H0 H1->H0 d1=none->H0 d2=none->eB K H1 CF fa d1 d2 m1 m2->iA K H0 CF pa parts->look parts p=some r->m2.length<=100->r.2.length<=5->Ok2 r.2 ->
    (∀n2,ck m2 r.2=some n2->∀(H4:Hp) (y3 y5:Option V),aE H0 H4->eB K H4 CF fa d1 d2 m1 n2->D.nx [some (.ref fa),some (.str p),some (.ref pa),y3,z4,y5] H4) ->
    (ck m2 r.2=none->∀H4:Hp,aE H0 H4->E (.ref CW) none H4) ->
    t D [some (.ref fa),some (.str p),some (.ref pa),z3,z4,none] H1:=by
 have hu:=dY hr
 have hr1:cG 1 _:=hr.mono (by decide)
 refine⟨_,fR (di PassesOwn.leaving rfl (eR (bY (aJ hu (pv 2) (pv 1) (fun _ _=>rfl)) rfl)) (dE rfl (aL (aP (i:=3) dO.nd rfl (Or.inl rfl)) (aL (aP (i:=5) dO.nd rfl (Or.inl rfl)) cC)))
   (@ao _ _ _ (cW (aD GA hr1 rfl mA kA bA .nil Ay (@aa _ _ _ _ _ (bY (pv 0) rfl) (@aa _ _ _ _ _ (pv 3) (@aa _ _ _ _ _ (pv 5) ae rfl) rfl) rfl))))),?_⟩
 intro D H0 H1 fa d1 d2 pa p m1 m2 parts r z3 z4 sH s1 hd1 hd2 hF hP hr' h100 hr2 hok qN qE
 obtain⟨pkv,hpa,hpk⟩:=hP
 obtain⟨dxf,fsf,kv1,kv2,F⟩:=hF
 rcases cJ hpk p with ⟨_,h2⟩|⟨v,r',h1,h2,pf,rfl,dx,e1,d,fs,kvq,kvp,f1,f3,f2,f5,f4,_,f6,_⟩
 ·rw [hr'] at h2
  cases h2
 rw [hr'] at h2
 cases h2
 have nd1:d≠d1:=fun e=>by rw [e,hd1] at f4;cases f4
 have nd2:d≠d2:=fun e=>by rw [e,hd2] at f4;cases f4
 have nfa:∀{H3:Hp} {o:Obj},H3 fa=some (.ins CF dxf fsf)->H3 d=some (.frz o (.dK kvp))->fa≠d:=fun h1 h2 e=>by rw [e,h2] at h1;cases h1
 have hlen:kvp.length=r.2.length:=Paired.length f6
 have hnf:∀o' u',H d≠some (.frz o' u'):=fun o' u' e=>by rw [sH _ _ f4] at e;cases e
 refine⟨_,rfl,_,rfl,pa,.ref pf,rfl,h1▸cT.k (k:=.inr p) (s1 _ _ hpa),pf,CF,dx,fs,_,rfl,s1 _ _ f1,cF,nK,f2,d,kvp,rfl,s1 _ _ f4,fun o=>?_⟩
 refine eE (fun i σ H3=>∃(y3 y5:Option V) (ni:bi) (kvi:List (Key × V)),σ=[some (.ref fa),some (.str p),some (.ref pa),y3,z4,y5]/\(∀b u,H0 b=some u->b≠d->H3 b=some u)/\H3 d=some (.frz o (.dK kvp))/\gY K H3 CF fa d1 d2 dxf fsf kv1 kvi m1 ni/\ck m2 (r.2.take i)=some ni/\(∀a xs,SqT K H0 a xs->SqT K H3 a xs)) ?_ ?_ ?_ ?_
 ·have kp:∀b xs,SqT K H1 b xs->SqT K (upd H1 d (.frz o (.dK kvp))) b xs:=fun b xs h=>eS (s1 _ _ f4) h
  have n3:fa≠d:=fun e=>by have:=F.obj;rw [e,s1 _ _ f4] at this;cases this
  exact⟨z3,none,m2,kv2,rfl,fun b u hb nb=>by rw [aj nb];exact s1 _ _ hb,ac,F.frz nd1 nd2 n3 kp,rfl,fun a xs h=>kp a xs (s1.tup h)⟩
 ·rintro i σ H3 _ ⟨_,_,_,_,_,_,h,_⟩
  exact h
 ·rintro i pp a σ H3 hp ha ⟨y3,y5,ni,kvi,rfl,old,hd3,F3,hni,keep⟩
  obtain⟨⟨z,k⟩,hq,ez,hkz⟩:=bv f6 hp
  obtain⟨pk,pw⟩:=pp
  replace ez:pk=.inr z:=ez
  replace hkz:db K H0 pw k:=hkz
  subst ez
  have hi:i < r.2.length:=(List.getElem?_eq_some_iff.mp hq).1
  have ea:=ad ha (.tup [kV (.inr z),pw])
  have F4:=F3.same ea
  have hkl:kvi.length=ni.length:=Paired.length F3.p2
  have hnl:=iZ _ _ _ hni
  rw [List.length_take] at hnl
  have hw:okW z:=(hok (z,k) (List.mem_of_getElem? hq)).1
  have hin:=xq F4.p2 z
  refine⟨a,_,rfl,SqT.of ac,rfl,_,_,rfl,_,_,rfl,rfl,?_⟩
  have hd4:=ea _ _ hd3
  refine⟨_,rfl,fa,CF,dxf,fsf,_,rfl,F4.obj,cF,nK,F4.ff,_,rfl,_,rfl,d2,z,pw,kvi,rfl,hw,F4.h2,by omega,?_⟩
  by_cases c:z∈ni.map (·.1)
  ·refine .inl ⟨by rw [hin];exact dt0 c,d,o,.dK kvp,hd4,hnf,qE (jV hni hq c) _ (rl f4 fun b u hb nb=>ea _ _ (old b u hb nb))⟩
  ·refine .inr ⟨by rw [hin];exact df0 c,?_⟩
   have kp5:∀b xs,SqT K (upd H3 a (.tup [kV (.inr z),pw])) b xs->SqT K (upd (upd H3 a (.tup [kV (.inr z),pw])) d2 (.dK (bc kvi (.inr z) pw))) b xs:=fun b xs h=>eS F4.h2 h
   refine⟨_,_,ni++[(z,k)],_,rfl,fun b u hb nb=>?_,?_,F4.put2 c (hkz.keep fun b xs t=>ea.tup (keep b xs t)),kq hni hq c,fun b xs t=>kp5 b xs (ea.tup (keep b xs t))⟩
   ·rw [aj (fun e=>by rw [e,hd2] at hb;cases hb)]
    exact ea _ _ (old b u hb nb)
   ·rw [aj nd2]
    exact hd4
 ·rintro σ H3 ⟨y3,y5,ni,kvi,rfl,old,hd3,F3,hni,keep⟩
  rw [hlen,List.take_length] at hni
  exact⟨d,o,.dK kvp,hd3,hnf,qN ni hni _ y3 y5 (rl f4 old) ⟨_,_,_,_,F3.frz nd1 nd2 (nfa F3.obj hd3) fun b xs h=>rg hd3 h⟩⟩
theorem nv{f fg CF:Addr}{cl:Nat->Addr}{fd fdg:FuncData} (F:Fun K "take_opened" "take_opened" bQ f fd) (GA:bq P w K mg base (CX1 P w) 1 fg fdg aoP (pK (cl 0))) (bA:aV K fdg aoP []) (kA:W.keepIn K (.ref fg)=true) (mA:mg "add_once"=some (.ref fg)) (cF:Cls K CF) (nK:bt K CF "kinds") (nF:bt K CF "funs")
  (mM:mg "NoName"=some (.ref (cl 1))) (xM:W.excIn K (cl 1) kX "ValueError.__new__"=true):bq P w K mg base (CX1 P w) 2 f fd toP (jd K CF cl):=by
 refine F.k1 dO fun cdv A outer s H vs Q E hr h=>?_
 obtain⟨H0,fa,d1,d2,p,pa,m1,m2,parts,rfl,s0,hd1,hd2,hF,hp,hP,hok,l1,l2,hR⟩:=h
 have hu:=dY hr
 have lz:p.length<=100000:=Nat.le_trans hp.2 (by decide)
 have zz:p.length<=sizeLine:=Nat.le_trans lz (by decide)
 obtain⟨t1,e1,k1⟩:=to1 (f:=f) (H:=H) (E:=E) GA bA kA mA cF nK hr
 obtain⟨t2,e2,k2⟩:=to2 (f:=f) (H:=H) (E:=E) GA bA kA mA cF nF hr
 refine⟨_,@ag _ _ _ _ _ (cg (lO (ik hu (pv 1) (pv 2)) (by with_unfolding_all rfl))
   (@ao _ _ _ (eF rfl mM xM (@aa _ _ _ _ _ (gb (bh am (bh (mQ (pv 1)) (bh am jh))) (by decide)) ae rfl))) aU)
  (@ag _ _ _ _ _ e1 (@ao _ _ _ e2)),?_⟩
 have hP':=hP
 obtain⟨pkv,hpa,hpk⟩:=hP'
 refine⟨_,rfl,_,rfl,pa,_,rfl,cT.k (k:=.inr p) (s0 _ _ hpa),_,rfl,?_⟩
 rcases cJ hpk p with ⟨h1,h2⟩|⟨v,r,h1,h2,_⟩
 ·rw [h1]
  have hE:E (.ref (cl 1)) none H:=by
   unfold qa at hR
   simp only [h2] at hR
   exact hR H s0
  exact qT ⟨_,rfl,by decide +kernel,_,rfl,.inl ⟨p,rfl,zz,p,rfl,Nat.le_trans lz (by decide),_,rfl,by decide +kernel,fun z3 hz3=>⟨(sz 1),hE⟩⟩⟩
 ·rw [h1]
  obtain⟨o1,o2,r1,r2,_⟩:=hok _ (dC h2)
  refine nV (k1 _ H0 H fa d1 d2 pa p m1 m2 parts r s0 s0 hd1 hd2 hF hP h2 l1 r1 o1 (fun n1 a1 H4 y3 y4 s4 F4=>?_) (fun a1 H4 s4=>?_))
  ·refine k2 _ H0 H4 fa d1 d2 pa p n1 m2 parts r y3 y4 s0 s4 hd1 hd2 F4 hP h2 l2 r2 o2 (fun n2 a2 H5 y3' y5 s5 F5=>?_) (fun a2 H5 s5=>?_)
   ·unfold qa at hR
    simp only [h2,a1,a2] at hR
    exact hR H5 s5 F5
   ·unfold qa at hR
    simp only [h2,a1,a2] at hR
    exact hR H5 s5
  ·unfold qa at hR
   simp only [h2,a1] at hR
   exact hR H4 s4
theorem Ah{X:Cx}{e:Expr}{f:Str}{pos:Pos}{ta:TE}{K:W.Frag}(hK:X.K=K)(he:PE X e ta)(hb:attributeBase e f X.env (eval e X.env)=eval e X.env):PE X (.Attribute e f pos) (CH K ta f):=by
 subst hK
 exact bY he hb
theorem At{T:Str × Str->Option Kd}{M:Int}{k:Kd}(h:∃n∈Kd.names k,T n=none):fY T M k=.no 2:=if_pos h
theorem A0{T:Str × Str->Option Kd}{M:Int}{k:Kd}(h:∀n∈Kd.names k,T n≠none)(c:((Kd.put T k).words:Int) > M):fY T M k=.no 3:=by
 unfold fY
 rw [if_neg (fun⟨n,hn,e⟩=>h n hn e),if_pos c]
theorem Bz{T:Str × Str->Option Kd}{M:Int}{k:Kd}(h:∀n∈Kd.names k,T n≠none)(c:¬((Kd.put T k).words:Int) > M):fY T M k=.ok (Kd.put T k):=by
 unfold fY
 rw [if_neg (fun⟨n,hn,e⟩=>h n hn e),if_neg c]
theorem sZ{T:Str × Str->Option Kd}{M:Int}{k k':Kd}(h:fY T M k=.ok k'):k'=Kd.put T k/\(k'.words:Int)<=M:=by
 unfold fY at h
 by_cases c1:∃n∈Kd.names k,T n=none
 ·rw [if_pos c1] at h
  cases h
 ·rw [if_neg c1] at h
  by_cases c2:((Kd.put T k).words:Int) > M
  ·rw [if_pos c2] at h
   cases h
  ·rw [if_neg c2] at h
   injection h with h
   subst h
   exact⟨rfl,by omega⟩
def NrR(cl:Nat->Addr)(K:W.Frag)(H:Hp)(Q:VK)(E:XK):Nr->Prop
 |.no c=>∀H',aE H H'->E (.ref (cl c)) none H'
 |.ok k'=>∀H',aE H H'->∀v,cc K H' v k'->Q v H'
theorem NrR.two{cl:Nat->Addr}{K:W.Frag}{H:Hp}{Q:VK}{E:XK}{T:Str × Str->Option Kd}{M:Int}{k:Kd}(h:NrR cl K H Q E (fY T M k))(H':Hp)(s:aE H H')(e:∃n∈Kd.names k,T n=none):E (.ref (cl 2)) none H':=by
 rw [At e] at h
 exact h H' s
theorem NrR.rest{cl:Nat->Addr}{K:W.Frag}{H:Hp}{Q:VK}{E:XK}{T:Str × Str->Option Kd}{M:Int}{k:Kd}(h:NrR cl K H Q E (fY T M k))(e:∀n∈Kd.names k,T n≠none)(H':Hp)(s:aE H H'):if ((Kd.put T k).words:Int) > M then E (.ref (cl 3)) none H' else ∀v,cc K H' v (Kd.put T k)->Q v H':=by
 by_cases c:((Kd.put T k).words:Int) > M
 ·rw [if_pos c]
  rw [A0 e c] at h
  exact h H' s
 ·rw [if_neg c]
  rw [Bz e c] at h
  exact h H' s
theorem zr{k:Kd}(h:ItK k):k.words<=900:=by
 have:=cO k
 have:=h.2.1
 omega
theorem Ai{k:Kd}(h:ItK k):Kd.depth k<=40:=by
 have:=dQ k
 have:=h.2.1
 omega
theorem ke(T:Str × Str->Option Kd)(M:Int)(b:List Kd):∀{a la:List Kd},dG T M a=.ok la->dG T M (a++b)=match dG T M b with
  |.no c=>.no c
  |.ok lb=>.ok (la++lb)
 |[],la,h=>by
  cases h
  show dG T M b=_
  cases dG T M b<;>rfl
 |k::a,la,h=>by
  unfold dG at h
  show(match fY T M k with
   |.no c=>Nrs.no c
   |.ok k'=>match dG T M (a++b) with
    |.no c=>.no c
    |.ok l=>.ok (k'::l))=_
  cases hk:fY T M k with
  |no c =>
   rw [hk] at h
   cases h
  |ok k' =>
   rw [hk] at h
   cases ha:dG T M a with
   |no c =>
    rw [ha] at h
    cases h
   |ok la' =>
    rw [ha] at h
    injection h with h
    subst h
    show(match dG T M (a++b) with
     |.no c=>Nrs.no c
     |.ok l=>.ok (k'::l))=_
    rw [ke T M b ha]
    cases dG T M b<;>rfl
theorem vt(T:Str × Str->Option Kd)(M:Int)(k:Kd):dG T M [k]=match fY T M k with
  |.no c=>.no c
  |.ok k'=>.ok [k']:=by
 unfold dG
 cases fY T M k<;>rfl
theorem uv{T:Str × Str->Option Kd}{M:Int}{ks ls:List Kd}{i c:Nat}{k:Kd}(h:dG T M (ks.take i)=.ok ls)(hk:ks[i]?=some k)(hn:fY T M k=.no c):dG T M ks=.no c:=by
 obtain⟨hi,e⟩:=(List.getElem?_eq_some_iff.mp hk)
 have:ks=ks.take i++k::ks.drop (i+1):=by
  rw [<-e,List.getElem_cons_drop,List.take_append_drop]
 rw [this,ke T M _ h]
 unfold dG
 rw [hn]
theorem tf{T:Str × Str->Option Kd}{M:Int}{ks ls:List Kd}{i:Nat}{k k':Kd}(h:dG T M (ks.take i)=.ok ls)(hk:ks[i]?=some k)(hn:fY T M k=.ok k'):dG T M (ks.take (i+1))=.ok (ls++[k']):=by
 rw [List.take_add_one,hk,ke T M _ h]
 show(match dG T M [k] with
  |.no c=>Nrs.no c
  |.ok lb=>.ok (ls++lb))=_
 rw [vt,hn]
abbrev tiN:List Str:=["full","item","parts","most","taken"]
abbrev tiP:List Str:=["full","item","parts","most"]
def mh(K:W.Frag)(CF:Addr)(cl:Nat->Addr):Sp:=fun vs H Q E=>∃(H0:Hp) (fa d1 d2:Addr) (v:V) (pa:Addr) (M:Int) (m1:aq) (m2:bi) (parts:bp) (it:It),vs=[.ref fa,v,.ref pa,.int M]/\aE H0 H/\H0 d1=none/\H0 d2=none /\
 eB K H CF fa d1 d2 m1 m2/\nP K H0 v it/\qz it/\iA K H0 CF pa parts/\yN parts/\Ok1 m1/\m1.length<=100/\m2.length<=100/\0<=M/\M<=60/\C9 K CF cl H0 fa d1 d2 Q E (bZ parts M m1 m2 it)
theorem lM:aO tiN tiP (ah cX):=mkS
theorem qu{f fg fn fo CF:Addr}{dV:Value}{cl:Nat->Addr}{fd fdg fdn fdo:FuncData} (F:jT K "take_item" "take_item" cX dV f fd) (GA:bq P w K mg base (CX1 P w) 1 fg fdg aoP (pK (cl 0))) (bA:aV K fdg aoP []) (kA:W.keepIn K (.ref fg)=true) (mA:mg "add_once"=some (.ref fg))
  (GN:bq P w K mg base (CX1 P w) 41 fn fdn ["kind","own","parts","most"] (mw K CF (cl 2) (cl 3))) (bN:aV K fdn ["kind","own","parts","most"] []) (kN:W.keepIn K (.ref fn)=true) (mN:mg "normal"=some (.ref fn))
  (GO:bq P w K mg base (CX1 P w) 2 fo fdo toP (jd K CF cl)) (bO:aV K fdo toP []) (kO:W.keepIn K (.ref fo)=true) (mO:mg "take_opened"=some (.ref fo))
  (cF:Cls K CF) (nK:bt K CF "kinds") (nF:bt K CF "funs") (mt:mg "tuple"=none):bq P w K mg base (CX1 P w) 42 f fd tiP (mh K CF cl):=by
 refine F.okX lM (fun vs H Q E h=>?_) (fun cdv A outer s H vs Q E hr h=>?_)
 ·obtain⟨H0,fa,d1,d2,v,pa,M,m1,m2,parts,it,rfl,_⟩:=h
  rfl
 obtain⟨H0,fa,d1,d2,v,pa,M,m1,m2,parts,it,rfl,s0,hd1,hd2,hF,hI,hIo,hP,hPo,ho1,l1,l2,M0,M6,hR⟩:=h
 have hu:=dY hr
 have hr1:cG 1 _:=hr.mono (by decide)
 have hr2:cG 2 _:=hr.mono (by decide)
 have hrN:cG 41 _:=hr.mono (by decide)
 refine⟨_,@ao _ _ _ (cg (aX dA (ix0 bj (pv 1) ai) am (aZ _))
   (@ao _ _ _ (cW (aD GA hr1 rfl mA kA bA .nil gN (@aa _ _ _ _ _ (bY (pv 0) rfl) (@aa _ _ _ _ _ (ix0 bj (pv 1) ai) (@aa _ _ _ _ _ (aD GN hrN rfl mN kN bN .nil gN (@aa _ _ _ _ _ (ix0 bj (pv 1) ai) (@aa _ _ _ _ _ (bY (pv 0) rfl) (@aa _ _ _ _ _ (pv 2) (@aa _ _ _ _ _ (pv 3) ae rfl) rfl) rfl) rfl)) ae rfl) rfl) rfl))))
   (@ao _ _ _ (cg (aX dA (ix0 bj (pv 1) ai) am (aZ _))
    (@ag _ _ _ _ _ (ba (i:=4) lM.nd (bE dj rfl mt dm (@aa _ _ _ _ _ (rj (own:=["word","kind"]) (caps:=["full","parts","most"]) (κ:=[0,2,3]) (g:=BY K 2 (qo (jq 0) (qo (jq 1) B1))) ⟨rfl,by decide +kernel,by decide +kernel,rfl,rfl,(fun y hy=>by simp only [List.mem_cons,List.not_mem_nil,or_false] at hy;rcases hy with rfl|rfl|rfl<;>rfl),(fun y hy=>by simp only [List.mem_cons,List.not_mem_nil,or_false] at hy;rcases hy with rfl|rfl|rfl<;>exact⟨.inl rfl,rfl,.inl rfl⟩)⟩ rfl
      (lW (ix0 bj (pv 1) ai)) (fun _ _ _ _ _=>dE rfl (aL (pg0 ["word","kind","full","parts","most"]) (aL (aP (i:=1) (show(["word","kind","full","parts","most"]:List Str).Nodup from by decide +kernel) rfl (Or.inl rfl)) cC)))
      (fun _ _ _ _ _ hps=>aD GN hrN rfl mN kN bN .nil hps (@aa _ _ _ _ _ (pv 1) (@aa _ _ _ _ _ (Ah (K:=K) rfl (pv 2) rfl) (@aa _ _ _ _ _ (pv 3) (@aa _ _ _ _ _ (pv 4) ae rfl) rfl) rfl) rfl))) ae rfl)))
    (@ao _ _ _ (cW (aD GA hr1 rfl mA kA bA .nil gN (@aa _ _ _ _ _ (bY (pv 0) rfl) (@aa _ _ _ _ _ (ix0 bj (pv 1) ai) (@aa _ _ _ _ _ (@ap _ _ _ _ _ (@aa _ _ _ _ _ (pv 4) (@aa _ _ _ _ _ (aD GN hrN rfl mN kN bN .nil gN (@aa _ _ _ _ _ (ix0 bj (pv 1) ai) (@aa _ _ _ _ _ (bY (pv 0) rfl) (@aa _ _ _ _ _ (pv 2) (@aa _ _ _ _ _ (pv 3) ae rfl) rfl) rfl) rfl)) ae rfl) rfl)) ae rfl) rfl) rfl)))))
    (@ao _ _ _ (cW (aD GO hr2 rfl mO kO bO .nil gN (@aa _ _ _ _ _ (pv 0) (@aa _ _ _ _ _ (ix0 bj (pv 1) ai) (@aa _ _ _ _ _ (pv 2) ae rfl) rfl) rfl))))))),?_⟩
 have hP':=hP
 obtain⟨pkv,hpa,hpk⟩:=hP'
 obtain⟨dx,fs,kv1,kv2,FA⟩:=hF
 have M1:M<=1000000:=by omega
 have hl1:kv1.length=m1.length:=Paired.length FA.p1
 have hl2:kv2.length=m2.length:=Paired.length FA.p2
 have hG:=BP ho1 hPo
 have PA:∀{H':Hp},aE H0 H'->gu K H' CF pkv (PGo parts):=fun e=>(um hpk).same e
 cases it with
 |kind z k =>
  obtain⟨p,y,rfl,hp,hy⟩:=hI
  obtain⟨hz,hk⟩:=hIo
  have hp1:=s0.tup hp
  refine⟨_,rfl,_,_,_,_,rfl,rfl,hp1,(show atI [V.str "kind",.str z,y] 0=some (.str "kind") from rfl),rfl,_,rfl,dL (fun _=>?_) (fun c=>absurd (by decide +kernel) c)⟩
  refine⟨_,rfl,fa,CF,dx,fs,_,rfl,FA.obj,cF,nK,FA.fk,_,rfl,_,_,_,_,rfl,rfl,hp1,(show atI [V.str "kind",.str z,y] 1=some (.str z) from rfl),_,rfl,_,_,_,_,rfl,rfl,hp1,(show atI [V.str "kind",.str z,y] 2=some y from rfl),_,rfl,fa,CF,dx,fs,_,rfl,FA.obj,cF,nK,FA.fk,_,rfl,_,rfl,?_⟩
  have hN:NrR cl K H (fun v H'=>pK (cl 0) [.ref d1,.str z,v] H' (fun _ H'=>Q .non H') E) E (fY (tl m1 parts) M k):=by
   unfold bZ at hR
   cases hn:fY (tl m1 parts) M k with
   |no c =>
    simp only [hn] at hR
    exact fun H' s'=>hR H' (s0.trans s')
   |ok k' =>
    simp only [hn] at hR
    intro H' s' v hv
    have FB:=FA.same s'
    refine⟨d1,z,v,kv1,rfl,hz,FB.h1,by omega,?_⟩
    have hin:=xq FB.p1 z
    by_cases c:z∈m1.map (·.1)
    ·refine .inl ⟨by rw [hin];exact dt0 c,?_⟩
     simp only [if_pos c] at hR
     exact hR H' (s0.trans s')
    ·refine .inr ⟨by rw [hin];exact df0 c,?_⟩
     simp only [if_neg c] at hR
     exact hR _ (tK (s0.trans s') hd1) ⟨_,_,_,_,FB.put1 c hv⟩
  exact⟨y,k,d1,pa,M,kv1,pkv,look m1,PGo parts,rfl,hy.same s0,zr hk,Ai hk,gw hk.1,M0,M1,FA.h1,xp FA.p1,s0 _ _ hpa,PA s0,fun H' s' e=>hN.two H' s' e,fun e=>⟨(my hG hk).1,fun H' s'=>hN.rest e H' s'⟩⟩
 |fn z ps k =>
  obtain⟨p,ta,y,zz,xs,rfl,hp,hta,hxs,hy⟩:=hI
  obtain⟨hz,hps,hpk',hk⟩:=hIo
  have hp1:=s0.tup hp
  have hta1:=s0.tup hta
  have hlen:xs.length=ps.length:=Paired.length hxs
  refine⟨_,rfl,_,_,_,_,rfl,rfl,hp1,(show atI [V.str "fun",.str z,.ref ta,y,zz] 0=some (.str "fun") from rfl),rfl,_,rfl,dL (fun c=>nK0 c) (fun _=>?_)⟩
  refine⟨_,rfl,_,_,_,_,rfl,rfl,hp1,(show atI [V.str "fun",.str z,.ref ta,y,zz] 0=some (.str "fun") from rfl),rfl,_,rfl,dL (fun _=>?_) (fun c=>absurd (by decide +kernel) c)⟩
  refine⟨_,rfl,_,_,_,_,rfl,rfl,hp1,(show atI [V.str "fun",.str z,.ref ta,y,zz] 2=some (.ref ta) from rfl),ta,rfl,⟨_,hta1⟩,?_⟩
  refine AB hta1 (by omega) (fun i ys H3=>ys.length<=i/\∃ls,dI K H3 ys ls/\dG (tl m1 parts) M ((ps.map (·.2)).take i)=.ok ls) ⟨Nat.le_refl _,[],.nil,rfl⟩ (fun i ys H2 h=>h.1) ?_ ?_
  ·rintro i x ys H2 N hN hx s2 ⟨hyl,ls,hls,hno⟩
   obtain⟨⟨t,g⟩,hq,p',yk,rfl,hp',hyk⟩:=bv hxs hx
   replace hp':SqT K H0 p' [.str t,yk]:=hp'
   replace hyk:cc K H0 yk g:=hyk
   have hm:=List.mem_of_getElem? hq
   have hg:ItK g:=hpk' (t,g) hm
   have hq2:(ps.map (·.2))[i]?=some g:=by rw [List.getElem?_map,hq];rfl
   have F2:=FA.same s2
   have s02:=s0.trans s2
   refine⟨p',_,rfl,s02.tup hp',rfl,_,_,rfl,_,_,rfl,rfl,rfl,gj ?_⟩
   have hNn:NrR cl K H2 (fun v H6=>N (ys++[v]) H6) E (fY (tl m1 parts) M g):=by
    cases hn:fY (tl m1 parts) M g with
    |no c =>
     have e:=uv hno hq2 hn
     unfold bZ at hR
     simp only [e] at hR
     exact fun H' s'=>hR H' (s02.trans s')
    |ok k' =>
     exact fun H' s' v hv=>hN _ _ (s2.trans s') ⟨by rw [la0];show ys.length+1<=i+1;omega,_,(hls.same s').append (.cons hv .nil),tf hno hq2 hn⟩
   refine⟨_,rfl,_,rfl,fa,CF,dx,fs,_,rfl,F2.obj,cF,nK,F2.fk,_,rfl,_,rfl,?_⟩
   exact⟨yk,g,d1,pa,M,kv1,pkv,look m1,PGo parts,rfl,hyk.same s02,zr hg,Ai hg,gw hg.1,M0,M1,F2.h1,xp F2.p1,s02 _ _ hpa,PA s02,fun H' s' e=>hNn.two H' s' e,fun e=>⟨(my hG hg).1,fun H' s'=>hNn.rest e H' s'⟩⟩
  ·rintro ys H2 D s2 ⟨hyl,ls,hls,hno⟩ hD
   rw [hlen,show ps.length=(ps.map (·.2)).length from(List.length_map ..).symm,List.take_length] at hno
   have sD:=ad hD (.lst ys)
   refine⟨D,ys,rfl,.inl ⟨SqL.of ac,fun l hl=>?_⟩⟩
   have sl:=ad hl (.tup ys)
   have s3:=s2.trans (sD.trans sl)
   have F3:=FA.same s3
   have s03:=s0.trans s3
   have hp3:=s03.tup hp
   refine⟨_,rfl,fa,CF,dx,fs,_,rfl,F3.obj,cF,nF,F3.ff,_,rfl,_,_,_,_,rfl,rfl,hp3,(show atI [V.str "fun",.str z,.ref ta,y,zz] 1=some (.str z) from rfl),_,rfl,_,rfl,_,_,_,_,rfl,rfl,hp3,(show atI [V.str "fun",.str z,.ref ta,y,zz] 3=some y from rfl),_,rfl,fa,CF,dx,fs,_,rfl,F3.obj,cF,nK,F3.fk,_,rfl,_,rfl,?_⟩
   have hls3:=(hls.same sD).same sl
   have hl3:upd (upd H2 D (.lst ys)) l (.tup ys) l=some (.tup ys):=ac
   revert F3 hls3 hl3
   generalize upd (upd H2 D (.lst ys)) l (.tup ys)=B at s3 s03 ⊢
   intro F3 hls3 hl3
   have hN:NrR cl K B (fun v H'=>Wf .tup [.ref l,v] H' fun y H'=>pK (cl 0) [.ref d2,.str z,y] H' (fun _ H'=>Q .non H') E) E (fY (tl m1 parts) M k):=by
    unfold bZ at hR
    simp only [hno] at hR
    cases hn:fY (tl m1 parts) M k with
    |no c =>
     simp only [hn] at hR
     exact fun H' s'=>hR H' (s03.trans s')
    |ok k' =>
     simp only [hn] at hR
     intro H' s' v hv
     refine⟨(sz 2),fun p2 hp2=>?_⟩
     have s5:=ad hp2 (.tup [.ref l,v])
     have FB:=(F3.same s').same s5
     refine⟨d2,z,.ref p2,kv2,rfl,hz,FB.h2,by omega,?_⟩
     have hin:=xq FB.p2 z
     by_cases c:z∈m2.map (·.1)
     ·refine .inl ⟨by rw [hin];exact dt0 c,?_⟩
      simp only [if_pos c] at hR
      exact hR _ (s03.trans (s'.trans s5))
     ·refine .inr ⟨by rw [hin];exact df0 c,?_⟩
      simp only [if_neg c] at hR
      exact hR _ (tK (s03.trans (s'.trans s5)) hd2) ⟨_,_,_,_,FB.put2 c ⟨p2,l,v,ys,rfl,SqT.of ac,SqT.of (s5 _ _ (s' _ _ hl3)),(hls3.same s').same s5,hv.same s5⟩⟩
   exact⟨y,k,d1,pa,M,kv1,pkv,look m1,PGo parts,rfl,hy.same s03,zr hk,Ai hk,gw hk.1,M0,M1,F3.h1,xp F3.p1,s03 _ _ hpa,PA s03,fun H' s' e=>hN.two H' s' e,fun e=>⟨(my hG hk).1,fun H' s'=>hN.rest e H' s'⟩⟩
 |opn q =>
  obtain⟨p,rfl,hp⟩:=hI
  have hp1:=s0.tup hp
  refine⟨_,rfl,_,_,_,_,rfl,rfl,hp1,(show atI [V.str "open",.str q] 0=some (.str "open") from rfl),rfl,_,rfl,dL (fun c=>nK0 c) (fun _=>?_)⟩
  refine⟨_,rfl,_,_,_,_,rfl,rfl,hp1,(show atI [V.str "open",.str q] 0=some (.str "open") from rfl),rfl,_,rfl,dL (fun c=>nK0 c) (fun _=>?_)⟩
  refine⟨_,rfl,_,rfl,_,_,_,_,rfl,rfl,hp1,(show atI [V.str "open",.str q] 1=some (.str q) from rfl),_,rfl,?_⟩
  rw [rK] at hR
  exact⟨H0,fa,d1,d2,q,pa,m1,m2,parts,rfl,s0,hd1,hd2,⟨_,_,_,_,FA⟩,hIo,hP,hPo,l1,l2,hR⟩
theorem ko{α:Type}:∀(b m n:List (Str × α)),ck m b=some n->n=m++b
 |[],m,n,h=>by
  cases h
  rw [List.append_nil]
 |q::b,m,n,h=>by
  unfold ck at h
  by_cases c:q.1∈m.map (·.1)
  ·rw [if_pos c] at h
   cases h
  ·rw [if_neg c] at h
   rw [ko b _ _ h,List.append_assoc]
   rfl
theorem zn{parts:bp}{M:Int}{m1 n1:aq}{m2 n2:bi}{it:It}(hP:yN parts)(hM:M<=60)(h1:Ok1 m1)(hi:qz it)(h:bZ parts M m1 m2 it=.ok n1 n2):Ok1 n1/\n1.length<=m1.length+5/\n2.length<=m2.length+5:=by
 have hG:=BP h1 hP
 cases it with
 |kind w k =>
  unfold bZ at h
  cases hn:fY (tl m1 parts) M k with
  |no c=>simp only [hn] at h;cases h
  |ok k' =>
   simp only [hn] at h
   by_cases c:w∈m1.map (·.1)
   ·simp only [if_pos c] at h;cases h
   ·simp only [if_neg c] at h
    injection h with e1 e2
    subst e1 e2
    obtain⟨e,hw⟩:=sZ hn
    refine⟨fun q hq=>?_,by rw [la0];show m1.length+1<=_;omega,by omega⟩
    rcases List.mem_append.mp hq with hq|hq
    ·exact h1 q hq
    ·rw [List.mem_singleton.mp hq]
     exact⟨hi.1,by rw [e];exact(my hG hi.2).2,by show k'.words<=60;omega⟩
 |fn w ps k =>
  unfold bZ at h
  cases hn:dG (tl m1 parts) M (ps.map (·.2)) with
  |no c=>simp only [hn] at h;cases h
  |ok ks =>
   simp only [hn] at h
   cases hn2:fY (tl m1 parts) M k with
   |no c=>simp only [hn2] at h;cases h
   |ok k' =>
    simp only [hn2] at h
    by_cases c:w∈m2.map (·.1)
    ·simp only [if_pos c] at h;cases h
    ·simp only [if_neg c] at h
     injection h with e1 e2
     subst e1 e2
     exact⟨h1,by omega,by rw [la0];show m2.length+1<=_;omega⟩
 |opn p =>
  rw [rK] at h
  unfold qa at h
  cases hl:look parts p with
  |none=>simp only [hl] at h;cases h
  |some r =>
   simp only [hl] at h
   obtain⟨o1,o2,r1,r2,_⟩:=hP _ (dC hl)
   cases ha:ck m1 r.1 with
   |none=>simp only [ha] at h;cases h
   |some a1 =>
    simp only [ha] at h
    cases hb:ck m2 r.2 with
    |none=>simp only [hb] at h;cases h
    |some a2 =>
     simp only [hb] at h
     injection h with e1 e2
     subst e1 e2
     have z1:=ko _ _ _ ha
     have z2:=ko _ _ _ hb
     replace r1:r.1.length<=5:=r1
     replace r2:r.2.length<=5:=r2
     refine⟨fun q hq=>?_,by rw [z1,la0];omega,by rw [z2,la0];omega⟩
     rw [z1] at hq
     rcases List.mem_append.mp hq with hq|hq
     ·exact h1 q hq
     ·exact o1 q hq
theorem ri{parts:bp}{M:Int}{its:List It}{i:Nat}{it:It}{m1:aq}{m2:bi}(h:iR parts M (its.take i)=.ok m1 m2)(hi:its[i]?=some it):iR parts M (its.take (i+1))=bZ parts M m1 m2 it:=by
 rw [List.take_add_one,hi,nw,h]
 rfl
theorem zH{parts:bp}{M:Int}{its:List It}{i c:Nat}{it:It}{m1:aq}{m2:bi}(h:iR parts M (its.take i)=.ok m1 m2)(hi:its[i]?=some it)(hs:bZ parts M m1 m2 it=.ref c):iR parts M its=.ref c:=by
 have e:=ri h hi
 rw [hs] at e
 have:its=its.take (i+1)++its.drop (i+1):=(List.take_append_drop ..).symm
 rw [this,nw,e,qY]
abbrev ffN:List Str:=["items","parts","most","full","item"]
abbrev ffP:List Str:=["items","parts","most"]
def DH(K:W.Frag)(CF:Addr)(cl:Nat->Addr)(H:Hp)(Q:VK)(E:XK):FR->Prop
 |.ok m1 m2=>∀(H':Hp) (fa d1 d2:Addr),aE H H'->H d1=none->H d2=none->H fa=none->eB K H' CF fa d1 d2 m1 m2->Q (.ref fa) H'
 |.ref c=>∀H',aE H H'->E (.ref (cl c)) none H'
def ye(K:W.Frag)(CF:Addr)(cl:Nat->Addr):Sp:=fun vs H Q E=>∃(ia:Addr) (xs:List V) (its:List It) (pa:Addr) (M:Int) (parts:bp),vs=[.ref ia,.ref pa,.int M]/\SqT K H ia xs/\Paired (nP K H) xs its/\its.length<=20/\(∀it∈its,qz it) /\
 iA K H CF pa parts/\yN parts/\0<=M/\M<=60/\DH K CF cl H Q E (iR parts M its)
theorem vU:aO ffN ffP (ah cQ):=mkS
theorem zh{f ft fi CF:Addr}{dV:Value}{cl:Nat->Addr}{fd fdt fdi:FuncData} (F:jT K "full_face" "full_face" cQ dV f fd)
  (GT:bq P w K mg base (CX1 P w) 42 ft fdt tiP (mh K CF cl)) (bT:aV K fdt tiP []) (kT:W.keepIn K (.ref ft)=true) (mT:mg "take_item"=some (.ref ft))
  (GI:bq P w K mg base CX0 1 fi fdi ["self","kinds","funs"] (iD CF)) (bI:aV K fdi ["self","kinds","funs"] []) (MF:Mk K CF fi) (mC:mg "Face"=some (.ref CF)) :
  bq P w K mg base (CX1 P w) 43 f fd ffP (ye K CF cl):=by
 refine F.okX vU (fun vs H Q E h=>?_) (fun cdv A outer s H vs Q E hr h=>?_)
 ·obtain⟨ia,xs,its,pa,M,parts,rfl,_⟩:=h
  rfl
 obtain⟨ia,xs,its,pa,M,parts,rfl,hia,hxs,h20,hio,hP,hPo,M0,M6,hR⟩:=h
 have hr2:cG (1+1) _:=hr.mono (by decide)
 refine⟨_,@ag _ _ _ _ _ (ba (i:=3) vU.nd (fU MF GI hr2 (by rfl) mC bI .nil bx (@aa _ _ _ _ _ gA (@aa _ _ _ _ _ gA ae rfl) rfl)))
  (@ag _ _ _ _ _ (di PassesOwn.leaving rfl (lW (pv 0)) (aP (i:=4) vU.nd rfl (Or.inl rfl)) (@ao _ _ _ (cW (aD GT hr rfl mT kT bT .nil gN (@aa _ _ _ _ _ (pv 3) (@aa _ _ _ _ _ (pv 4) (@aa _ _ _ _ _ (pv 1) (@aa _ _ _ _ _ (pv 2) ae rfl) rfl) rfl) rfl)))))
  (@ao _ _ _ (@aS _ _ _ _ (pv 3)))),?_⟩
 intro k1 hk1
 have t1:=ad hk1 (.dK [])
 intro k2 hk2
 have t2:=ad hk2 (.dK [])
 have t12:=t1.trans t2
 intro x dx' nx ndx nex
 have ea:=ad ndx (.own x)
 have nx':upd (upd (upd H k1 (.dK [])) k2 (.dK [])) dx' (.own x) x=none:=by rw [aj (Ne.symm nex)];exact nx
 have eab:=ea.trans (ad nx' (.ins CF dx' []))
 refine⟨x,dx',k1,k2,[],[],rfl,ac,eab _ _ (t2 _ _ ac),eab _ _ ac,fun d e fs' H7 hd he nde hx lk lf lh lp hd7 he7 keep=>⟨rfl,?_⟩⟩
 have s7:aE H H7:=fun b o hb=>keep b o (eab _ _ (t12 _ _ hb)) (fun z=>by rw [z,t12.free nx] at hb;cases hb)
 have hd0:H d=none:=(t12.trans eab).free hd
 have he0:H e=none:=(t12.trans eab).free he
 have hx0:H x=none:=t12.free nx
 have F7:eB K H7 CF x d e [] []:=⟨dx',fs',[],[],hx,lk,lf,hd7,he7,.nil,.nil,lh,lp,nde⟩
 have hlen:xs.length=its.length:=Paired.length hxs
 refine⟨_,rfl,ia,rfl,⟨_,s7.tup hia⟩,?_⟩
 refine pV (K:=K) (xs:=xs) (fun i σ H3=>∃(y4:Option V) (m1:aq) (m2:bi),σ=[some (.ref ia),some (.ref pa),some (.int M),some (.ref x),y4]/\aE H H3/\eB K H3 CF x d e m1 m2/\iR parts M (its.take i)=.ok m1 m2/\Ok1 m1/\m1.length<=5*i/\m2.length<=5*i)
  ⟨none,[],[],rfl,s7,F7,rfl,(fun q hq=>nomatch hq),Nat.le_refl _,Nat.le_refl _⟩ ?_ ?_ ?_
 ·rintro i σ H3 _ ⟨_,_,_,_,s3,_⟩
  exact s3.tup hia
 ·rintro i y σ H3 hy ⟨y4,m1,m2,rfl,s3,F3,hrun,ho1,l1,l2⟩
  obtain⟨it,hit,hI⟩:=bv hxs hy
  have hil:i < its.length:=(List.getElem?_eq_some_iff.mp hit).1
  have hio':=hio it (List.mem_of_getElem? hit)
  refine⟨_,rfl,_,rfl,_,rfl,_,rfl,H,x,d,e,y,pa,M,m1,m2,parts,it,rfl,s3,hd0,he0,F3,hI,hio',hP,hPo,ho1,by omega,by omega,M0,M6,?_⟩
  cases hs:bZ parts M m1 m2 it with
  |ref c =>
   rw [zH hrun hit hs] at hR
   exact hR
  |ok n1 n2 =>
   obtain⟨o1,o2,o3⟩:=zn hPo M6 ho1 hio' hs
   exact fun H' s' F'=>⟨_,n1,n2,rfl,s',F',by rw [ri hrun hit];exact hs,o1,by omega,by omega⟩
 ·rintro σ H3 ⟨y4,m1,m2,rfl,s3,F3,hrun,_⟩
  rw [hlen,List.take_length] at hrun
  rw [hrun] at hR
  exact⟨_,rfl,hR H3 x d e s3 hd0 he0 hx0 F3⟩
theorem Au{f T:Addr}{fd:FuncData}{oT:Value}{dT:Option Addr}{nT:Nat}{sT:Array (Option Value)}{tk:Tok} (F:jT K "full_face" "full_face" cQ (.ref T) f fd) (lT:K.lookup T=some ⟨oT,dT,.seq #[.int 40 tk] nT,sT⟩):aV K fd ffP [.int 40 tk] :=
 F.binds lT fun _ _ _ _ _ _ us hl=>by
  have hl':us.length=2:=by simpa using hl
  match us,hl' with
  |[_,_],_=>exact⟨_,rfl,rfl⟩
end
theorem uy{z:Str}(h:smW z):Kd.sm (fM z):=⟨⟨by decide +kernel,by decide +kernel⟩,h.1,h.2⟩
def Bk(n:Nat)(k:Kd):Prop:=Kd.sm k/\k.leaves.length<=n
def BK(n:Nat)(m:List (Str × Kd)):Prop:=∀q∈m,smW q.1/\Bk n q.2
def BF(n:Nat)(m:List (Str × (List Kd × Kd))):Prop:=∀q∈m,smW q.1/\q.2.1.length<=4/\∀k∈q.2.2::q.2.1,Bk n k
section
variable{c c2 sh:Int}{ks:List Kd}{m1:List (Str × Kd)}{m2:List (Str × (List Kd × Kd))}
end
theorem BG{z:Str}(h:smW z):okW z:=⟨h.1,by have:=h.2;omega⟩
theorem jB{n:Nat}{k:Kd}(h:Bk n k):k.words+1<=2*n:=by
 have h1:=cP k
 have h2:=h.2
 omega
theorem cS{n:Nat}{k:Kd}(h:Bk n k):Kd.depth k<=n:=Nat.le_trans (dQ k) h.2
theorem zd{ks:List Kd}{n:Nat}(h:∀k∈ks,k.words<=n):sV ks<=ks.length*n:=by
 induction ks with
 |nil=>exact Nat.zero_le _
 |cons k ks ih =>
  have h1:=h k (List.mem_cons_self ..)
  have h2:=ih fun k' hk'=>h k' (List.mem_cons_of_mem _ hk')
  have e:sV (k::ks)=k.words+sV ks:=rfl
  rw [e,lc0,Nat.succ_mul]
  omega
theorem lE:∀k:Kd,AlD (Kd.depth k+1) (Kd.dat k)
 |.num n=>⟨by show 2<=100;decide,fun d hd=>by
   rcases mc0 hd with rfl|hd
   ·trivial
   ·rw [List.mem_singleton.mp hd];trivial⟩
 |.name q t=>⟨by show 3<=100;decide,fun d hd=>by
   rcases mc0 hd with rfl|hd
   ·trivial
   ·rcases mc0 hd with rfl|hd
    ·trivial
    ·rw [List.mem_singleton.mp hd];trivial⟩
 |.pair a b=>⟨by show 3<=100;decide,fun d hd=>by
   rcases mc0 hd with rfl|hd
   ·exact(show AlD (Kd.depth (.pair a b)) (.str "pair") from(show AlD (0+1) (.str "pair") from trivial).le (nY _))
   ·rcases mc0 hd with rfl|hd
    ·exact(lE a).le (by show _<=1+max _ _;omega)
    ·rw [List.mem_singleton.mp hd]
     exact(lE b).le (by show _<=1+max _ _;omega)⟩
theorem A8{n:Nat}{k:Kd}(hn:n<=30)(h:Bk n k):AlD 40 (Kd.dat k):=(lE k).le (by have:=cS h;omega)
theorem Ax{f:List Kd × Kd}(hl:f.1.length<=5)(h:∀k∈f.2::f.1,Bk 18 k):AlD 40 (Fn.dat f):=by
 refine⟨by show 2<=100;decide,fun d hd=>?_⟩
 rcases mc0 hd with rfl|hd
 ·refine⟨by rw [lm0];omega,fun d hd=>?_⟩
  obtain⟨k,hk,rfl⟩:=List.mem_map.mp hd
  exact(lE k).le (by have:=cS (h k (List.mem_cons_of_mem _ hk));show Kd.depth k+1<=38;omega)
 ·rw [List.mem_singleton.mp hd]
  exact(lE _).le (by have:=cS (h _ (List.mem_cons_self ..));show Kd.depth f.2+1<=39;omega)
theorem yE{m1:List (Str × Kd)}{m2:List (Str × (List Kd × Kd))}(l1:m1.length<=100)(l2:m2.length<=100)(h1:BK 18 m1)(h2:BF 18 m2):AlM m1 m2:=⟨l1,l2,fun q hq=>A8 (by decide) (h1 q hq).2,fun q hq=>Ax (Nat.le_trans (h2 q hq).2.1 (by decide)) (h2 q hq).2.2⟩
def Gl(ws:List (Str × Kd)):Str × Str->Option Kd:=fun n=>if n.1="" then look ws n.2 else none
theorem wy{a1 f1:List (Str × Kd)}{a2 f2:List (Str × (List Kd × Kd))}(nd:(a1.map (·.1)).Nodup)(l1:a1.length<=100)(l2:a2.length<=100)(b1:BK 18 f1)(b2:BF 18 f2)(g1:BK 18 a1)(g2:BF 18 a2)(p1:BK 18 (a1.map (i9 (Gf f1 a1))))(p2:BF 18 (a2.map (jg (Gf f1 a1)))):Two f1 a1 f2 a2 40:=by
 have smk:∀{q:Str × Kd},smW q.1/\Bk 18 q.2->SmK q:=fun h=>⟨h.1,h.2.1,by have:=jB h.2;omega,by have:=cS h.2;omega⟩
 have smf:∀{q:Str × (List Kd × Kd)},(smW q.1/\q.2.1.length<=4/\∀k∈q.2.2::q.2.1,Bk 18 k)->SmF q:=fun h=>⟨h.1,h.2.1,fun k hk=>⟨(h.2.2 k hk).1,by have:=jB (h.2.2 k hk);omega,by have:=cS (h.2.2 k hk);omega⟩⟩
 refine⟨l1,l2,fun q hq=>smk (b1 q hq),fun q hq=>smk (g1 q hq),fun q hq=>smf (b2 q hq),fun q hq=>smf (g2 q hq),nd,fun q hq=>?_,fun q hq k hk=>?_,fun q hq=>?_,fun q hq=>?_⟩
 ·have:=cS (g1 q hq).2
  omega
 ·have:=cS ((g2 q hq).2.2 k hk)
  omega
 ·have h:=(p1 _ (List.mem_map.mpr ⟨q,hq,rfl⟩)).2
  have w1:=jB h
  have w2:=cS h
  replace w1:(Kd.put (Gf f1 a1) q.2).words+1<=2*18:=w1
  replace w2:Kd.depth (Kd.put (Gf f1 a1) q.2)<=18:=w2
  omega
 ·obtain⟨_,h4,hk⟩:=p2 _ (List.mem_map.mpr ⟨q,hq,rfl⟩)
  replace h4:(cV (Gf f1 a1) q.2).1.length<=4:=h4
  replace hk:∀k∈(cV (Gf f1 a1) q.2).2::(cV (Gf f1 a1) q.2).1,Bk 18 k:=hk
  refine⟨Nat.le_trans (zd (n:=35) fun k h=>(by have:=jB (hk k h);omega)) ?_,fun k h=>(by have:=cS (hk k h);omega)⟩
  rw [lc0]
  have:((cV (Gf f1 a1) q.2).1.length+1)*35<=5*35:=Nat.mul_le_mul_right _ (by omega)
  omega
def cq(r:Str × (aq × bi)):Str × (aq × bi):=(r.1,(r.2.1.map (i9 (tD r.2.1 r.1)),r.2.2.map (jg (tD r.2.1 r.1))))
structure RB(r:aq × bi):Prop where
 nd1:(r.1.map (·.1)).Nodup
 nd2:(r.2.map (·.1)).Nodup
 l1:r.1.length<=100
 l2:r.2.length<=100
 b1:BK 18 r.1
 b2:BF 18 r.2
theorem RB.t1{r:aq × bi}(h:RB r):∀q∈r.1,okW q.1/\Kd.ok q.2/\Kd.depth q.2<=60:=fun q hq=>⟨BG (h.b1 q hq).1,nq (h.b1 q hq).2.1,by have:=cS (h.b1 q hq).2;omega⟩
theorem RB.t2{r:aq × bi}(h:RB r):∀q∈r.1,Kd.depth q.2<=40:=fun q hq=>by have:=cS (h.b1 q hq).2;omega
theorem RB.t3{r:aq × bi}(h:RB r):∀q∈r.2,(∀k∈q.2.1,Kd.depth k<=40)/\Kd.depth q.2.2<=40/\q.2.1.length<=100:=fun q hq=>by
 obtain⟨_,b,c⟩:=h.b2 q hq
 exact⟨fun k hk=>(by have:=cS (c k (List.mem_cons_of_mem _ hk));omega),by have:=cS (c q.2.2 (List.mem_cons_self ..));omega,by omega⟩
def zL(K:W.Frag)(H:Hp)(CF:Addr)(v:V)(r:Str × (aq × bi)):Prop:=∃(p fa:Addr),v=.ref p/\SqT K H p [.str r.1,.ref fa]/\dZ K H CF fa r.2.1 r.2.2
theorem zL.same{K:W.Frag}{H H':Hp}{CF:Addr}{v:V}{r:Str × (aq × bi)}(e:aE H H')(h:zL K H CF v r):zL K H' CF v r:=by
 obtain⟨p,fa,a,b,c⟩:=h
 exact⟨p,fa,a,e.tup b,c.same e⟩
def wo(H:Hp)(d:Addr):Hp:=fun b=>if b=d then none else H b
theorem fA{H:Hp}{d b:Addr}(h:b≠d):wo H d b=H b:=if_neg h
theorem pZ{H:Hp}{d:Addr}:wo H d d=none:=if_pos rfl
theorem ak{H:Hp}{d:Addr}:aE (wo H d) H:=fun b u q=>by
 by_cases e:b=d
 ·rw [e,pZ] at q;cases q
 ·rw [fA e] at q;exact q
theorem dF{H:Hp}{d:Addr}{o:HO}:wo (upd H d o) d=wo H d:=by
 funext b
 by_cases e:b=d
 ·rw [e,pZ,pZ]
 ·rw [fA e,fA e,aj e]
theorem jP{H:Hp}{d:Addr}(h:H d=none):wo H d=H:=by
 funext b
 by_cases e:b=d
 ·rw [e,pZ,h]
 ·rw [fA e]
theorem az{H H':Hp}{d:Addr}(s:aE H H'):aE (wo H d) (wo H' d):=fun b u q=>by
 by_cases e:b=d
 ·rw [e,pZ] at q;cases q
 ·rw [fA e] at q ⊢;exact s _ _ q
theorem oZ{K:W.Frag}{H:Hp}{d a:Addr}{o:HO}{xs:List V}(hd:H d=some o)(hn:∀ys,o≠.tup ys/\∀ob,o≠.frz ob (.tup ys))(h:SqT K H a xs):SqT K (wo H d) a xs:=by
 rcases h with (h|⟨ob,h⟩)|h
 ·refine .inl (.inl ?_)
  rw [fA (fun e=>by rw [e,hd] at h;exact(hn xs).1 (Option.some.inj h))]
  exact h
 ·refine .inl (.inr ⟨ob,?_⟩)
  rw [fA (fun e=>by rw [e,hd] at h;exact(hn xs).2 ob (Option.some.inj h))]
  exact h
 ·exact .inr h
theorem eO.wo{K:W.Frag}{H0 H:Hp}{CF x d:Addr}{kv:List (Key × V)}{m1:aq}{m2:bi}(hd0:H0 d≠none)(hx:H0 x=none)(hd:H d=some (.dK kv))(h:eO K H0 H CF x m1 m2):dZ K (wo H d) CF x m1 m2:=by
 obtain⟨dx,d1,d2,fs,kv1,kv2,n1,n2,_,hx',f1,f2,h1,h2,p1,p2,f3,f4⟩:=h
 have ne:∀b,H0 b=none->b≠d:=fun b hb e=>hd0 (e▸hb)
 have kp:∀a xs,SqT K H a xs->SqT K (K48.wo H d) a xs:=fun a xs t=>oZ hd (fun ys=>⟨fun z=>(nomatch z),fun ob z=>(nomatch z)⟩) t
 exact⟨dx,d1,d2,fs,kv1,kv2,by rw [fA (ne x hx)];exact hx',f1,f2,by rw [fA (ne d1 n1)];exact h1,by rw [fA (ne d2 n2)];exact h2,p1.imp fun _ _ t=>aY kp t,p2.imp fun _ _ t=>t.keep kp,f3,f4⟩
def CY(K:W.Frag)(H:Hp)(CF d:Addr)(L:bp):Prop:=∃pkv,H d=some (.dK pkv)/\dM (fun v (r:aq × bi)=>∃fa,v=.ref fa/\dZ K (wo H d) CF fa r.1 r.2) pkv L
theorem CY.at{K:W.Frag}{H:Hp}{CF d:Addr}{L:bp}(h:CY K H CF d L):iA K H CF d L:=by
 obtain⟨pkv,h1,h2⟩:=h
 exact⟨pkv,h1,h2.imp fun v r ⟨fa,e,t⟩=>⟨fa,e,t.same ak⟩⟩
abbrev kwN:List Str:=["formals","parts","known","word","want"]
abbrev kwP:List Str:=["formals","parts"]
def rQ(K:W.Frag)(CF:Addr):Sp:=fun vs H Q _=>∃(l pa:Addr) (xs:List V) (rs PL:bp),vs=[.ref l,.ref pa]/\H l=some (.lst xs)/\Paired (zL K H CF) xs rs/\iA K H CF pa PL/\((PL++rs).map (·.1)).Nodup/\PL.length<=100/\rs.length<=100/\(∀r∈rs,RB r.2) /\
 ∀H' (d:Addr),aE H H'->H d=none->iA K H' CF d (PL++rs.map cq)->Q (.ref d) H'
section
variable{P:Program}{w:World}{K:W.Frag}{mg:Str->Option Value}{base:Heap}
theorem jz:aO kwN kwP (ah iG):=mkS
theorem uD{f ft CF:Addr}{fd fdt:FuncData} (F:Fun K "known_within" "known_within" iG f fd)
  (GT:bq P w K mg base CX0 44 ft fdt ["want","part"] (lD K CF 40)) (bT:aV K fdt ["want","part"] []) (kT:W.keepIn K (.ref ft)=true) (mT:mg "told_with"=some (.ref ft)) (md:mg "dict"=none) :
  bq P w K mg base CX0 45 f fd kwP (rQ K CF):=by
 refine F.k0 jz fun cdv A outer s H vs Q E hr h=>?_
 obtain⟨l,pa,xs,rs,PL,rfl,hl,hxs,⟨pkv,hpa,hpk⟩,nd,lp,lr,hB,q⟩:=h
 have hu:=dY hr
 refine⟨_,@ag _ _ _ _ _ (ba (i:=2) jz.nd (bE eW rfl md d6 (@aa _ _ _ _ _ (pv 1) ae rfl)))
  (@ag _ _ _ _ _ (di PassesOwn.never rfl (iY (pv 0)) (dE rfl (aL (aP (i:=3) jz.nd rfl (Or.inl rfl)) (aL (aP (i:=4) jz.nd rfl (Or.inl rfl)) cC)))
   (@ao _ _ _ (bw hu (pv 2) (pv 3) (aD GT hr rfl mT kT bT .nil bx (@aa _ _ _ _ _ (pv 4) (@aa _ _ _ _ _ (pv 3) ae rfl) rfl)) rfl)))
  (@ao _ _ _ (@aS _ _ _ _ (pv 2)))),?_⟩
 have hlen:xs.length=rs.length:=Paired.length hxs
 refine⟨_,rfl,pa,pkv,rfl,hpa,fun d hd=>?_⟩
 have s1:=ad hd (.dK pkv)
 have w0:wo (upd H d (.dK pkv)) d=H:=by rw [dF,jP hd]
 refine⟨_,rfl,l,rfl,⟨_,SqL.of (s1 _ _ hl)⟩,?_⟩
 refine iz (K:=K) (xs:=xs) (fun i σ H3=>∃y3 y4:Option V,σ=[some (.ref l),some (.ref pa),some (.ref d),y3,y4]/\aE H (wo H3 d)/\CY K H3 CF d (PL++(rs.take i).map cq))
  ⟨none,none,rfl,by rw [w0];exact sr0,pkv,ac,by rw [w0,List.take_zero,List.map_nil,List.append_nil];exact hpk⟩ ?_ ?_ ?_
 ·rintro i σ H3 _ ⟨_,_,_,s3,_⟩
  exact SqL.of (ak _ _ (s3 _ _ hl))
 ·rintro i v σ H3 hv ⟨y3,y4,rfl,s3,pkv3,hd3,hp3⟩
  obtain⟨r,hr',p,fa,rfl,hp,hF⟩:=bv hxs hv
  have hB':=hB r (List.mem_of_getElem? hr')
  have s3':aE H H3:=s3.trans ak
  refine⟨p,_,rfl,s3'.tup hp,rfl,_,_,rfl,_,_,rfl,rfl,?_⟩
  refine⟨_,rfl,_,rfl,fa,r.1,r.2.1,r.2.2,rfl,hF.same s3',hB'.nd1,hB'.nd2,hB'.l1,hB'.l2,hB'.t1,hB'.t2,hB'.t3,fun H4 x s4 hx hN=>?_⟩
  have hd4:H4 d=some (.dK pkv3):=s4 _ _ hd3
  have il:i < rs.length:=(List.getElem?_eq_some_iff.mp hr').1
  have plen:pkv3.length=PL.length+i:=by
   have:=Paired.length hp3
   rw [la0,lm0,List.length_take] at this
   omega
  refine⟨_,rfl,_,rfl,d,_,rfl,gK.k (k:=.inr r.1) hd4 (Nat.lt_of_lt_of_le (Nat.lt_succ_self _) (dX (by omega))),?_⟩
  refine⟨_,_,rfl,?_,_,ac,?_⟩
  ·rw [dF]
   exact s3.trans (az s4)
  ·rw [List.take_add_one,hr',dF,Option.toList_some,ma0,List.map_cons,List.map_nil,<-List.append_assoc]
   refine dM.put (hp3.imp fun v r ⟨fa,e,t⟩=>⟨fa,e,t.same (az s4)⟩) ?_ ⟨x,rfl,hN.wo (by rw [hd3];intro z;cases z) hx hd4⟩
   rw [ma0,List.map_map]
   intro hm
   rw [ma0] at nd
   have nd':=List.nodup_append.mp nd
   rcases List.mem_append.mp hm with hm|hm
   ·exact nd'.2.2 _ hm _ (List.mem_map.mpr ⟨r,List.mem_of_getElem? hr',rfl⟩) rfl
   ·have e:(rs.take i).map ((fun x:Str × (aq × bi)=>x.1)∘cq)=(rs.map (·.1)).take i:=by rw [<-List.map_take];rfl
    rw [e] at hm
    exact ij nd'.2.1 (by rw [List.getElem?_map,hr'];rfl) hm
 ·rintro σ H3 ⟨y3,y4,rfl,s3,hp⟩
  rw [hlen,List.take_length] at hp
  exact⟨_,rfl,q H3 d (s3.trans ak) hd hp.at⟩
abbrev lX:Stmt:=kc (top 30) 0
abbrev imP:List Str:=["self","formals","result"]
def FmN(K:W.Frag)(H0 H:Hp)(CF:Addr)(v:V)(r:Str × (aq × bi)):Prop:=∃(p fa:Addr),v=.ref p/\H p=some (.tup [.str r.1,.ref fa])/\H0 fa=none/\eO K H0 H CF fa r.2.1 r.2.2
theorem FmN.same{K:W.Frag}{H0 H H':Hp}{CF:Addr}{v:V}{r:Str × (aq × bi)}(e:aE H H')(h:FmN K H0 H CF v r):FmN K H0 H' CF v r:=by
 obtain⟨p,fa,a,b,c,d⟩:=h
 exact⟨p,fa,a,e _ _ b,c,d.same e⟩
theorem FmN.anti{K:W.Frag}{H0 H1 H:Hp}{CF:Addr}{v:V}{r:Str × (aq × bi)}(e:aE H0 H1)(h:FmN K H1 H CF v r):FmN K H0 H CF v r:=by
 obtain⟨p,fa,a,b,c,d⟩:=h
 exact⟨p,fa,a,b,e.free c,d.anti e⟩
def tN(K:W.Frag)(CF CM:Addr):Sp:=fun vs H Q _=>∃(p dx fl ra:Addr) (xs:List V) (rs:bp) (r1:aq) (r2:bi),vs=[.ref p,.ref fl,.ref ra]/\H p=some (.ins CM dx [])/\wo H p fl=some (.lst xs)/\Paired (zL K (wo H p) CF) xs rs/\dZ K (wo H p) CF ra r1 r2/\rs.length<=100 /\
 ∀(l rf:Addr) (fs:List (Str × V)) (ys:List V) (H':Hp),H l=none->H rf=none->l≠rf->H' p=some (.ins CM dx fs)->fs.lookup ("formals":Str)=some (.ref l)->fs.lookup ("result":Str)=some (.ref rf)->H' l=some (.lst ys)->Paired (FmN K H (wo H' p) CF) ys rs->eO K H (wo H' p) CF rf r1 r2->(∀c o,H c=some o->c≠p->H' c=some o)->Q .non H'
theorem Dh{X:Cx}{K:W.Frag}{e:Expr}{f:Str}{pos:Pos}{ta:TE}(h:X.K=K)(he:PE X e ta)(hb:attributeBase e f X.env (eval e X.env)=eval e X.env):PE X (.Attribute e f pos) (CH K ta f):=by subst h;exact bY he hb
theorem qA{K:W.Frag}{H1 H7:Hp}{CF p x dx' d e:Addr}{fs':List (Str × V)}{kv1 kv2:List (Key × V)}{m1:aq}{m2:bi}(np:∀b,H1 b=none->b≠p)(nx:H1 x=none)(ndx:H1 dx'=none)(nex:dx'≠x)
  (hk1:dM (cc K (wo H1 p)) kv1 m1) (hk2:dM (db K (wo H1 p)) kv2 m2)
  (hd:upd (upd H1 dx' (.own x)) x (.ins CF dx' []) d=none) (he:upd (upd H1 dx' (.own x)) x (.ins CF dx' []) e=none) (nde:d≠e) (hx:H7 x=some (.ins CF dx' fs')) (lk:fs'.lookup ("kinds":Str)=some (.ref d)) (lf:fs'.lookup ("funs":Str)=some (.ref e))
  (lh:fs'.lookup ("hidden":Str)=none) (lp:fs'.lookup ("put":Str)=none) (hd7:H7 d=some (.dK kv1)) (he7:H7 e=some (.dK kv2)) (keep:∀c o,upd (upd H1 dx' (.own x)) x (.ins CF dx' []) c=some o->c≠x->H7 c=some o) :
  aE H1 H7/\eO K H1 (wo H7 p) CF x m1 m2:=by
 have ea:=ad ndx (.own x)
 have nx':upd H1 dx' (.own x) x=none:=by rw [aj (Ne.symm nex)];exact nx
 have eab:=ea.trans (ad nx' (.ins CF dx' []))
 have s7:aE H1 H7:=fun b o hb=>keep b o (eab _ _ hb) (fun z=>by rw [z,nx] at hb;cases hb)
 have w7:=az (d:=p) s7
 exact⟨s7,dx',d,e,fs',_,_,eab.free hd,eab.free he,nde,by rw [fA (np x nx)];exact hx,lk,lf,by rw [fA (np d (eab.free hd))];exact hd7,by rw [fA (np e (eab.free he))];exact he7,hk1.imp fun v y h=>h.same w7,hk2.imp fun v y h=>h.keep fun a xs t=>w7.tup t,lh,lp⟩
theorem zS:aO imP imP (ah lX):=mkS
theorem xR{f fi CF CM:Addr}{fd fdi:FuncData} (F:Fun K "__init__" "Maker.__init__" lX f fd)
  (GI:bq P w K mg base CX0 1 fi fdi ["self","kinds","funs"] (iD CF)) (bI:aV K fdi ["self","kinds","funs"] []) (MF:Mk K CF fi) (mC:mg "Face"=some (.ref CF)) (cF:Cls K CF) (nK:bt K CF "kinds") (nF:bt K CF "funs")
  (cM:Cls K CM) (n1:bt K CM "formals") (n2:bt K CM "result") :
  bq P w K mg base CX0 3 f fd imP (tN K CF CM):=by
 refine F.k0 zS fun cdv A outer s H vs Q E hr h=>?_
 obtain⟨p,dx,fl,ra,xs,rs,r1,r2,rfl,hp,hfl,hxs,hra,hl,q⟩:=h
 have hr2:cG (1+1) _:=hr.mono (by decide)
 refine⟨_,@ag _ _ _ _ _ (qX (pv 0) (nM (own:=["word","want"]) (caps:=[]) (κ:=[]) rfl ⟨rfl,by decide +kernel,by decide +kernel,rfl,rfl,(fun y hy=>nomatch hy),(fun y hy=>nomatch hy)⟩ rfl
   (iY (pv 1)) (fun _ _ _ _=>yw (K:=K) (i:=0) (j:=1) rfl rfl (show(["word","want"]:List Str).Nodup from by decide +kernel) rfl (Or.inl rfl) (Or.inr rfl) rfl (Or.inl rfl) (Or.inr rfl))
   (fun _ _ _ _=>ap (@aa _ _ _ _ _ (pv 0) (@aa _ _ _ _ _ (fU MF GI hr2 (by rfl) mC bI .nil bx (@aa _ _ _ _ _ (Dh (K:=K) rfl (pv 1) rfl) (@aa _ _ _ _ _ (Dh (K:=K) rfl (pv 1) rfl) ae rfl) rfl)) ae rfl) rfl))) rfl)
  (@ao _ _ _ (qX (pv 0) (fU MF GI hr2 (by rfl) mC bI .nil bx (@aa _ _ _ _ _ (bY (pv 2) rfl) (@aa _ _ _ _ _ (bY (pv 2) rfl) ae rfl) rfl)) rfl)),?_⟩
 have hlen:xs.length=rs.length:=Paired.length hxs
 have hw:aE (wo H p) H:=ak
 refine⟨_,rfl,fl,rfl,⟨_,SqL.of (hw _ _ hfl)⟩,?_⟩
 refine BC (SqL.of (hw _ _ hfl)) (by omega) (fun i zs H3=>zs.length=i/\Paired (FmN K H (wo H3 p) CF) zs (rs.take i)) ⟨rfl,.nil⟩ (fun _ _ _ h=>Nat.le_of_eq h.1) ?_ ?_
 ·rintro i x zs H3 N hN hx s3 ⟨hz,hpz⟩
  obtain⟨r,hq,pa,fa,rfl,hpa,hF⟩:=bv hxs hx
  have w3:=az (d:=p) s3
  have hp3:H3 p=some (.ins CM dx []):=s3 _ _ hp
  refine⟨pa,_,rfl,s3.tup (hw.tup hpa),rfl,_,_,rfl,_,_,rfl,rfl,rfl,gj ⟨_,rfl,?_⟩⟩
  obtain⟨dx0,d1,d2,fs,kv1,kv2,hfa,lk0,lf0,hd1,hd2,hk1,hk2,_,_⟩:=hF.same w3
  refine⟨_,rfl,fa,CF,dx0,fs,_,rfl,ak _ _ hfa,cF,nK,lk0,_,rfl,fa,CF,dx0,fs,_,rfl,ak _ _ hfa,cF,nF,lf0,?_⟩
  intro x dx' nx ndx nex
  have nx':upd H3 dx' (.own x) x=none:=by rw [aj (Ne.symm nex)];exact nx
  have eab:=(ad ndx (.own x)).trans (ad nx' (.ins CF dx' []))
  refine⟨x,dx',d1,d2,_,_,rfl,ac,eab _ _ (ak _ _ hd1),eab _ _ (ak _ _ hd2),fun d e fs' H7 hd he nde hx lk lf lh lp hd7 he7 keep=>⟨rfl,?_⟩⟩
  obtain⟨s7,hN7⟩:=qA (fun b hb e=>(by rw [<-e,hb] at hp3;cases hp3)) nx ndx nex hk1 hk2 hd he nde hx lk lf lh lp hd7 he7 keep
  refine⟨(sz 2),fun t ht=>?_⟩
  have s8:=ad ht (.tup [.str r.1,.ref x])
  have w8:=az (d:=p) s8
  have ntp:t≠p:=fun e=>by rw [e,s7 _ _ hp3] at ht;cases ht
  refine hN _ _ (s3.trans (s7.trans s8)) ⟨by rw [la0,hz];rfl,?_⟩
  rw [List.take_add_one,hq]
  exact xP (Paired.mapP hpz fun _ _ h=>h.same ((az s7).trans w8)) (.cons ⟨t,x,rfl,by rw [fA ntp];exact ac,s3.free nx,(hN7.anti s3).same w8⟩ .nil)
 rintro zs H3 D s3 ⟨hz,hpz⟩ hD
 have hp3:H3 p=some (.ins CM dx []):=s3 _ _ hp
 have sD:=ad hD (.lst zs)
 have nDp:D≠p:=fun e=>by rw [e,hp3] at hD;cases hD
 refine⟨_,rfl,p,CM,dx,[],rfl,sD _ _ hp3,cM,n1,(by show 0 < 1000;decide),?_⟩
 rw [hlen,List.take_length] at hpz
 generalize hH4:upd (upd H3 D (.lst zs)) p (.ins CM dx (jn "formals" (.ref D) []))=H4
 have w4:wo H4 p=wo (upd H3 D (.lst zs)) p:=by rw [<-hH4,dF]
 have s34:aE (wo H p) (wo H4 p):=by
  rw [w4]
  exact(az s3).trans (az sD)
 have hp4:H4 p=some (.ins CM dx (jn "formals" (.ref D) [])):=by rw [<-hH4];exact ac
 obtain⟨dx0,d1,d2,fs,kv1,kv2,hfa,lk0,lf0,hd1,hd2,hk1,hk2,_,_⟩:=hra.same s34
 refine⟨_,rfl,ra,CF,dx0,fs,_,rfl,ak _ _ hfa,cF,nK,lk0,_,rfl,ra,CF,dx0,fs,_,rfl,ak _ _ hfa,cF,nF,lf0,?_⟩
 intro x dx' nx ndx nex
 have nx':upd H4 dx' (.own x) x=none:=by rw [aj (Ne.symm nex)];exact nx
 have eab:=(ad ndx (.own x)).trans (ad nx' (.ins CF dx' []))
 refine⟨x,dx',d1,d2,_,_,rfl,ac,eab _ _ (ak _ _ hd1),eab _ _ (ak _ _ hd2),fun d e fs' H7 hd he nde hx lk lf lh lp hd7 he7 keep=>⟨rfl,?_⟩⟩
 obtain⟨s7,hN7⟩:=qA (fun b hb e=>(by rw [<-e,hb] at hp4;cases hp4)) nx ndx nex hk1 hk2 hd he nde hx lk lf lh lp hd7 he7 keep
 have hD4:H4 D=some (.lst zs):=by rw [<-hH4,aj nDp];exact ac
 have hDx:D≠x:=fun e=>by rw [e,nx] at hD4;cases hD4
 refine⟨_,rfl,p,CM,dx,_,rfl,s7 _ _ hp4,cM,n2,(by show 1 < 1000;decide),?_⟩
 have old:∀c o,H c=some o->c≠p->H4 c=some o:=fun c o hc ne=>by
  rw [<-hH4,aj ne]
  exact sD _ _ (s3 _ _ hc)
 have fr:∀b,H4 b=none->H b=none:=fun b hb=>by
  cases h:H b with
  |none=>rfl
  |some o =>
   have ne:b≠p:=fun e=>by rw [e,hp4] at hb;cases hb
   rw [old b o h ne] at hb
   cases hb
 refine q D x _ zs _ (s3.free hD) (fr x nx) hDx ac (by rw [aQ,if_neg (by decide +kernel),aQ,if_pos rfl]) (by rw [aQ,if_pos rfl]) (by rw [aj nDp];exact s7 _ _ hD4) ?_ ?_ fun c o hc ne=>?_
 ·rw [dF]
  have e:=az (d:=p) s7
  rw [w4] at e
  exact Paired.mapP hpz fun _ _ h=>h.same ((az sD).trans e)
 ·rw [dF]
  obtain⟨a1,a2,a3,a4,a5,a6,a7,a8,a9⟩:=hN7
  exact⟨a1,a2,a3,a4,a5,a6,fr _ a7,fr _ a8,a9⟩
 ·rw [aj ne]
  exact s7 _ _ (old c o hc ne)
def cD(fl PL:bp)(s:Str × aq):FR:=match look fl s.1 with
 |none=>.ref 1
 |some r=>if (∀q∈s.2,iW (PGo PL) q) then (match lc r.1 r.2 (s.2.map (mv (PGo PL))) with
  |.ok a b=>.ok a b
  |.no=>.ref 2
  |.big=>.ref 3) else .ref 2
inductive LR where
 |ok (l:bp)
 |ref (c:Nat)
def pG(fl PL:bp):LR->Str × (Str × aq)->LR
 |.ref c,_=>.ref c
 |.ok l,f=>match cD fl (PL++l.map cq) f.2 with
  |.ok a b=>.ok (l++[(f.1,(a,b))])
  |.ref c=>.ref c
def jb(fl PL:bp)(fs:List (Str × (Str × aq))):LR:=fs.foldl (pG fl PL) (.ok [])
inductive MR where
 |ok (l:bp) (r:aq × bi)
 |ref (c:Nat)
 |unfit (r:Str × PyData × PyData)
structure Dcl where
 w:Str
 fs:List (Str × (Str × aq))
 sl:Option (Str × aq)
 its:List It
def mn(fl PL l:bp)(f1:aq)(f2:bi):Option (Str × aq)->MR
 |none=>.ok l (f1,f2)
 |some s=>match cD fl PL s with
  |.ref c=>.ref c
  |.ok a1 a2=>match sM f1 a1 f2 a2 with
   |some r=>.unfit r
   |none=>.ok l (a1,a2)
def cR(fl PL:bp)(D:Dcl):MR:=match jb fl PL D.fs with
 |.ref c=>.ref c
 |.ok l=>match iR (PL++l.map cq) 40 D.its with
  |.ref c=>.ref c
  |.ok f1 f2=>mn fl (PL++l.map cq) l f1 f2 D.sl
theorem oW(fl PL:bp)(c:Nat):∀b:List (Str × (Str × aq)),b.foldl (pG fl PL) (LR.ref c)=LR.ref c
 |[]=>rfl
 |_::b=>oW fl PL c b
theorem ip{fl PL l:bp}{f:Str × (Str × aq)}{a:aq}{b:bi}(h:cD fl (PL++l.map cq) f.2=.ok a b):pG fl PL (.ok l) f=.ok (l++[(f.1,(a,b))]):=by
 show(match cD fl (PL++l.map cq) f.2 with
  |.ok a b=>LR.ok (l++[(f.1,(a,b))])
  |.ref c=>.ref c)=_
 rw [h]
theorem ur{fl PL l:bp}{f:Str × (Str × aq)}{c:Nat}(h:cD fl (PL++l.map cq) f.2=.ref c):pG fl PL (.ok l) f=.ref c:=by
 show(match cD fl (PL++l.map cq) f.2 with
  |.ok a b=>LR.ok (l++[(f.1,(a,b))])
  |.ref c=>.ref c)=_
 rw [h]
theorem oF{fl PL l:bp}{fs:List (Str × (Str × aq))}{i:Nat}{f:Str × (Str × aq)}(h:jb fl PL (fs.take i)=.ok l)(hi:fs[i]?=some f):jb fl PL (fs.take (i+1))=pG fl PL (.ok l) f:=by
 unfold jb at h ⊢
 rw [List.take_add_one,hi,List.foldl_append,h]
 rfl
theorem eQ{fl PL l:bp}{fs:List (Str × (Str × aq))}{i c:Nat}{f:Str × (Str × aq)}(h:jb fl PL (fs.take i)=.ok l)(hi:fs[i]?=some f)(hs:cD fl (PL++l.map cq) f.2=.ref c):jb fl PL fs=.ref c:=by
 have e:=oF h hi
 rw [ur hs] at e
 have:fs=fs.take (i+1)++fs.drop (i+1):=(List.take_append_drop ..).symm
 rw [this]
 unfold jb at e ⊢
 rw [List.foldl_append,e,oW]
def jk(K:W.Frag)(H:Hp)(v:V)(s:Str × aq):Prop:=∃(p tw:Addr) (xs:List V),v=.ref p/\SqT K H p [.str s.1,.ref tw]/\SqT K H tw xs/\iQ K H xs s.2
theorem jk.same{K:W.Frag}{H H':Hp}{v:V}{s:Str × aq}(e:aE H H')(h:jk K H v s):jk K H' v s:=by
 obtain⟨p,tw,xs,a,b,c,d⟩:=h
 exact⟨p,tw,xs,a,e.tup b,e.tup c,Paired.mapP d fun _ _ t=>fJ.same e t⟩
def qM(K:W.Frag)(H:Hp)(v:V)(f:Str × (Str × aq)):Prop:=∃(p:Addr) (y:V),v=.ref p/\SqT K H p [.str f.1,y]/\jk K H y f.2
def rX(K:W.Frag)(H:Hp)(v:V):Option (Str × aq)->Prop
 |none=>v=.non
 |some s=>jk K H v s
def sY(K:W.Frag)(H:Hp)(a:Addr)(D:Dcl):Prop:=∃(ta ia:Addr) (sv:V) (xs ys:List V),SqT K H a [.str "maker",.str D.w,.ref ta,sv,.ref ia]/\SqT K H ta xs/\Paired (qM K H) xs D.fs/\rX K H sv D.sl/\SqT K H ia ys/\Paired (nP K H) ys D.its
def SOk(PL:bp)(s:Str × aq):Prop:=okW s.1/\s.2.length<=100/\xU (PGo PL) s.2
structure DOk(fl PL:bp)(D:Dcl):Prop where
 good:∀r∈fl,xF r.2.1 r.2.2
 sl:∀i f l,D.fs[i]?=some f->jb fl PL (D.fs.take i)=.ok l->SOk (PL++l.map cq) f.2
 rb:∀i l,jb fl PL (D.fs.take i)=.ok l->∀r∈l,RB r.2
 nd:(PL.map (·.1)++D.fs.map (·.1)).Nodup
 lp:PL.length<=100
 lf:D.fs.length<=100
 li:D.its.length<=20
 it:∀it∈D.its,qz it
 pa:∀l,jb fl PL D.fs=.ok l->yN (PL++l.map cq)
 sl2:∀l s,jb fl PL D.fs=.ok l->D.sl=some s->SOk (PL++l.map cq) s
 two:∀l s f1 f2 a1 a2,jb fl PL D.fs=.ok l->iR (PL++l.map cq) 40 D.its=.ok f1 f2->D.sl=some s->cD fl (PL++l.map cq) s=.ok a1 a2->Two f1 a1 f2 a2 40
 w:PyData.strOk D.w=true/\D.w.length<=14
def xS(K:W.Frag)(H0 H:Hp)(CM CF x:Addr)(rs:bp)(r1:aq)(r2:bi):Prop :=
 ∃(dx l rf:Addr) (fs:List (Str × V)) (ys:List V),H0 l=none/\H0 rf=none/\l≠rf/\H x=some (.ins CM dx fs)/\fs.lookup ("formals":Str)=some (.ref l)/\fs.lookup ("result":Str)=some (.ref rf)/\H l=some (.lst ys)/\Paired (FmN K H0 H CF) ys rs/\eO K H0 H CF rf r1 r2
def zg(K:W.Frag)(CF CM CN:Addr)(cl:Nat->Addr)(pz:Str)(H:Hp)(Q:VK)(E:XK):MR->Prop
 |.ok l r=>∀H' (x:Addr),aE H H'->H x=none->xS K H H' CM CF x l r.1 r.2->Q (.ref x) H'
 |.ref c=>∀H',aE H H'->E (.ref (cl c)) none H'
 |.unfit r=>∀d H',aE H H'->XOk K H' d (.str pz) r->E (.ref CN) d H'
abbrev mkN:List Str:=["declaration","faces","parts","wants","word","seal","known","full","want"]
abbrev mkP:List Str:=["declaration","faces","parts"]
def oE(K:W.Frag)(CF CM CN:Addr)(cl:Nat->Addr):Sp:=fun vs H Q E=>∃(a fa pa:Addr) (D:Dcl) (fl PL:bp),vs=[.ref a,.ref fa,.ref pa]/\sY K H a D/\iA K H CF fa fl/\iA K H CF pa PL/\DOk fl PL D/\zg K CF CM CN cl D.w H Q E (cR fl PL D)
theorem dZ.at{K:W.Frag}{H:Hp}{CF fa:Addr}{m1:aq}{m2:bi}(h:dZ K H CF fa m1 m2):uB K H CF fa m1 m2:=by
 obtain⟨dx,d1,d2,fs,kv1,kv2,a,b,c,d,e,f,g,i,j⟩:=h
 exact⟨dx,d1,d2,fs,kv1,kv2,a,b,c,d,e,f,g,i,j⟩
theorem pe{K:W.Frag}{H H6 H7:Hp}{CM CF x dx l rf:Addr}{fs:List (Str × V)}{ys:List V}{rs:bp}{r1:aq}{r2:bi}(s6:aE H H6)(nx:H6 x=none)(ndx:H6 dx=none)(nex:dx≠x)
  (hl:upd (upd H6 dx (.own x)) x (.ins CM dx []) l=none) (hrf:upd (upd H6 dx (.own x)) x (.ins CM dx []) rf=none) (ne:l≠rf) (hx:H7 x=some (.ins CM dx fs)) (lf:fs.lookup ("formals":Str)=some (.ref l)) (lr:fs.lookup ("result":Str)=some (.ref rf))
  (hl7:H7 l=some (.lst ys)) (hp:Paired (FmN K (upd (upd H6 dx (.own x)) x (.ins CM dx [])) (wo H7 x) CF) ys rs) (hN:eO K (upd (upd H6 dx (.own x)) x (.ins CM dx [])) (wo H7 x) CF rf r1 r2) (keep:∀c o,upd (upd H6 dx (.own x)) x (.ins CM dx []) c=some o->c≠x->H7 c=some o) :
  aE H H7/\H x=none/\xS K H H7 CM CF x rs r1 r2:=by
 have nx':upd H6 dx (.own x) x=none:=by rw [aj (Ne.symm nex)];exact nx
 have eab:=(ad ndx (.own x)).trans (ad nx' (.ins CM dx []))
 have sA:=s6.trans eab
 have s7:aE H6 H7:=fun b o hb=>keep b o (eab _ _ hb) (fun z=>by rw [z,nx] at hb;cases hb)
 exact⟨s6.trans s7,s6.free nx,dx,l,rf,fs,ys,sA.free hl,sA.free hrf,ne,hx,lf,lr,hl7,Paired.mapP hp fun _ _ t=>(t.anti sA).same ak,(hN.anti sA).same ak⟩
theorem qV{K:W.Frag}{H6:Hp}{CM x dx:Addr}(nx:H6 x=none)(ndx:H6 dx=none)(nex:dx≠x):aE H6 (wo (upd (upd H6 dx (.own x)) x (.ins CM dx [])) x):=by
 have nx':upd H6 dx (.own x) x=none:=by rw [aj (Ne.symm nex)];exact nx
 rw [dF,jP nx']
 exact ad ndx _
theorem ej:aO mkN mkP (ah gz):=mkS
theorem sI{f fw fk ff fm ft CF CM CN T T2:Addr}{cl:Nat->Addr}{fd fdw fdk fdf fdm fdt:FuncData}{oT oT2:Value}{dT dT2:Option Addr}{nT nT2:Nat}{sT sT2:Array (Option Value)}{tk tk2:Tok} (F:Fun K "maker_of" "maker_of" gz f fd)
  (GW:bq P w K mg base (CX1 P w) 46 fw fdw wnP (rq K CF (cl 1) (cl 2) (cl 3))) (bW:aV K fdw wnP []) (kW:W.keepIn K (.ref fw)=true) (mW:mg "wanted"=some (.ref fw))
  (GK:bq P w K mg base CX0 45 fk fdk kwP (rQ K CF)) (bK:aV K fdk kwP []) (kK:W.keepIn K (.ref fk)=true) (mK:mg "known_within"=some (.ref fk))
  (FF:jT K "full_face" "full_face" cQ (.ref T) ff fdf) (lT:K.lookup T=some ⟨oT,dT,.seq #[.int 40 tk] nT,sT⟩) (GF:bq P w K mg base (CX1 P w) 43 ff fdf ffP (ye K CF cl)) (kF:W.keepIn K (.ref ff)=true) (mF:mg "full_face"=some (.ref ff))
  (GT:bq P w K mg base (CX1 P w) 43 ft fdt ftP (qB K CF CN 40)) (bT:aV K fdt ftP []) (kT:W.keepIn K (.ref ft)=true) (mT:mg "fitted"=some (.ref ft))
  (GM:bq P w K mg base CX0 3 fm fdm imP (tN K CF CM)) (bM:aV K fdm imP []) (MM:Mk K CM fm) (mM:mg "Maker"=some (.ref CM)) :
  bq P w K mg base (CX1 P w) 47 f fd mkP (oE K CF CM CN cl):=by
 refine F.okX ej (fun vs H Q E h=>?_) (fun cdv A outer s H vs Q E hr h=>?_)
 ·obtain⟨a,fa,pa,D,fl,PL,rfl,_⟩:=h
  rfl
 obtain⟨a,fa,pa,D,fl,PL,rfl,⟨ta,ia,sv,xs,ys,ha,hta,hxs,hsv,hia,hys⟩,hfl,hPL,hD,hR⟩:=h
 have hr46:cG 46 _:=hr.mono (by decide)
 have hr45:cG 45 _:=hr.mono (by decide)
 have hr43:cG 43 _:=hr.mono (by decide)
 have hr4:cG (3+1) _:=hr.mono (by decide)
 have b40:=Au FF lT
 have d40:cw [V.int 40] [Value.int 40 tk]:=.cons ⟨tk,rfl⟩ .nil
 refine⟨_,@ag _ _ _ _ _ (ba (i:=3) ej.nd (cU ae))
  (@ag _ _ _ _ _ (di PassesOwn.leaving rfl (lW (ix0 bj (pv 0) ai)) (dE rfl (aL (aP (i:=4) ej.nd rfl (Or.inl rfl)) (aL (aP (i:=5) ej.nd rfl (Or.inl rfl)) cC)))
   (@ao _ _ _ (cW (sQ PySem.F.plainAttrs_list PySem.F.slot_list_append PySem.F.type_list_append fL (pv 3) (@aa _ _ _ _ _ (@ap _ _ _ _ _ (@aa _ _ _ _ _ (pv 4) (@aa _ _ _ _ _ (aD GW hr46 rfl mW kW bW .nil gN (@aa _ _ _ _ _ (pv 5) (@aa _ _ _ _ _ (pv 1) (@aa _ _ _ _ _ (aD GK hr45 rfl mK kK bK .nil bx (@aa _ _ _ _ _ (pv 3) (@aa _ _ _ _ _ (pv 2) ae rfl) rfl)) ae rfl) rfl) rfl)) ae rfl) rfl)) ae rfl)))))
  (@ag _ _ _ _ _ (ba (i:=6) ej.nd (aD GK hr45 rfl mK kK bK .nil bx (@aa _ _ _ _ _ (pv 3) (@aa _ _ _ _ _ (pv 2) ae rfl) rfl)))
  (@ag _ _ _ _ _ (ba (i:=7) ej.nd (aD GF hr43 rfl mF kF b40 d40 gN (@aa _ _ _ _ _ (ix0 bj (pv 0) ai) (@aa _ _ _ _ _ (pv 6) ae rfl) rfl)))
  (@ag _ _ _ _ _ (ba (i:=8) ej.nd (aD GW hr46 rfl mW kW bW .nil gN (@aa _ _ _ _ _ (ix0 bj (pv 0) ai) (@aa _ _ _ _ _ (pv 1) (@aa _ _ _ _ _ (pv 6) ae rfl) rfl) rfl)))
  (@ag _ _ _ _ _ (cg (aX oS (pv 8) cL (aZ _)) (@ao _ _ _ (@aS _ _ _ _ (fU MM GM hr4 (by rfl) mM bM .nil bx (@aa _ _ _ _ _ (pv 3) (@aa _ _ _ _ _ (pv 7) ae rfl) rfl)))) aU)
  (@ag _ _ _ _ _ (cW (aD GT hr43 rfl mT kT bT .nil gN (@aa _ _ _ _ _ (pv 7) (@aa _ _ _ _ _ (pv 8) (@aa _ _ _ _ _ (ix0 bj (pv 0) ai) ae rfl) rfl) rfl)))
  (@ao _ _ _ (@aS _ _ _ _ (fU MM GM hr4 (by rfl) mM bM .nil bx (@aa _ _ _ _ _ (pv 3) (@aa _ _ _ _ _ (pv 8) ae rfl) rfl)))))))))),?_⟩
 have hlen:xs.length=D.fs.length:=Paired.length hxs
 refine⟨(sz 0),fun lw hlw=>?_⟩
 have s1:=ad hlw (.lst [])
 have w0:wo (upd H lw (.lst [])) lw=H:=by rw [dF,jP hlw]
 refine⟨_,rfl,a,_,_,_,rfl,rfl,s1.tup ha,(show atI [V.str "maker",.str D.w,.ref ta,sv,.ref ia] 2=some (.ref ta) from rfl),ta,rfl,⟨_,s1.tup hta⟩,?_⟩
 refine pV (K:=K) (xs:=xs) (fun i σ H3=>∃(y4 y5:Option V) (ws:List V) (l:bp),σ=[some (.ref a),some (.ref fa),some (.ref pa),some (.ref lw),y4,y5,none,none,none]/\aE H (wo H3 lw)/\H3 lw=some (.lst ws)/\Paired (zL K (wo H3 lw) CF) ws l/\jb fl PL (D.fs.take i)=.ok l/\l.map (·.1)=(D.fs.take i).map (·.1))
  ⟨none,none,[],[],rfl,by rw [w0];exact sr0,ac,.nil,rfl,rfl⟩ ?_ ?_ ?_
 ·rintro i σ H3 _ ⟨_,_,_,_,_,s3,_⟩
  exact(s3.trans ak).tup hta
 ·rintro i v σ H3 hv ⟨y4,y5,ws,l,rfl,s3,h3,hp3,hrun,hkeys⟩
  obtain⟨⟨wd,z,wz⟩,hf,p,y,rfl,hp,p2,tw,xw,rfl,hp2,htw,hxw⟩:=bv hxs hv
  replace hp:SqT K H p [.str wd,.ref p2]:=hp
  replace hp2:SqT K H p2 [.str z,.ref tw]:=hp2
  replace hxw:iQ K H xw wz:=hxw
  have s3':aE H H3:=s3.trans ak
  have il:i < D.fs.length:=(List.getElem?_eq_some_iff.mp hf).1
  have llen:l.length=i:=by
   have:=congrArg List.length hkeys
   rw [lm0,lm0,List.length_take] at this
   omega
  have hlf:=hD.lf
  obtain⟨hz,hwl,hSl⟩:=hD.sl i _ l hf hrun
  have hEi:∀c,cD fl (PL++l.map cq) (z,wz)=.ref c->∀H',aE H H'->E (.ref (cl c)) none H':=fun c e=>by
   have:=eQ hrun hf e
   unfold cR at hR
   rw [this] at hR
   exact hR
  refine⟨p,_,rfl,s3'.tup hp,rfl,_,_,rfl,_,_,rfl,rfl,?_⟩
  refine⟨_,rfl,.inl ⟨rfl,_,SqL.of h3⟩,_,rfl,_,rfl,_,rfl,_,rfl,_,rfl,lw,pa,ws,l,PL,rfl,h3,Paired.mapP hp3 fun _ _ t=>t.same ak,hPL.same s3',?_,hD.lp,by omega,hD.rb i l hrun,fun H4 d s4 hd hP4=>?_⟩
  ·have:=hD.nd
   rw [ma0,hkeys,List.map_take]
   refine List.nodup_append.mpr ⟨(List.nodup_append.mp this).1,(List.nodup_append.mp this).2.1.sublist (List.take_sublist ..),fun x hx y hy=>(List.nodup_append.mp this).2.2 x hx y (List.mem_of_mem_take hy)⟩
  have s4':=s3'.trans s4
  obtain⟨fkv,hfk,hfp⟩:=hfl.same s4'
  obtain⟨pkv,hpk,hpp⟩:=hP4
  refine⟨.ref p2,fa,d,fkv,pkv,PGo (PL++l.map cq),rfl,hfk,hpk,um hpp,.inr ⟨p2,tw,z,xw,wz,rfl,s4'.tup hp2,hz,s4'.tup htw,Paired.mapP hxw fun _ _ t=>fJ.same s4' t,hwl,hSl,?_⟩⟩
  rcases cJ hfp z with ⟨hv1,hv2⟩|⟨v,r,hv1,hv2,xa,rfl,hxF⟩
  ·exact .inl ⟨hv1,fun H5 s5=>hEi 1 (by unfold cD;rw [hv2]) _ (s4'.trans s5)⟩
  refine .inr ⟨xa,r.1,r.2,hv1,hxF,hD.good _ (dC hv2),fun⟨q,hq,hn⟩ H5 s5=>hEi 2 (by unfold cD;rw [hv2];exact if_neg fun h=>hn (h q hq)) _ (s4'.trans s5),fun hall=>⟨fun a1 a2 hrr H5 y s5 hy hN=>?_,fun hrr H5 s5=>hEi 2 ?_ _ (s4'.trans s5),fun hrr H5 s5=>hEi 3 ?_ _ (s4'.trans s5)⟩⟩
  ·refine⟨(sz 2),fun t ht=>?_⟩
   have s6:=ad ht (.tup [.str wd,.ref y])
   have s56:=s4.trans (s5.trans s6)
   have h6:=s56 _ _ h3
   refine⟨lw,ws,.ref t,rfl,rfl,h6,Nat.lt_of_lt_of_le (Nat.lt_succ_self _) (dX (by have:=Paired.length hp3;omega)),?_⟩
   have hok:cD fl (PL++l.map cq) (z,wz)=.ok a1 a2:=by
    unfold cD
    rw [hv2]
    refine(if_pos hall).trans ?_
    rw [hrr]
   refine⟨_,_,ws++[.ref t],l++[(wd,(a1,a2))],rfl,?_,ac,?_,?_,?_⟩
   ·rw [dF]
    exact s3.trans (az s56)
   ·rw [dF]
    have ne:∀b,H4 b=none->b≠lw:=fun b hb e=>by rw [e,s4 _ _ h3] at hb;cases hb
    have kp:∀b zs,SqT K (upd H5 t (.tup [.str wd,.ref y])) b zs->SqT K (wo (upd H5 t (.tup [.str wd,.ref y])) lw) b zs:=fun b zs h=>oZ h6 (fun ys=>⟨fun z=>(nomatch z),fun ob z=>(nomatch z)⟩) h
    obtain⟨dx',d1,d2,fs',kv1,kv2,n1,n2,_,hx',f1,f2,g1,g2,k1,k2,f3,f4⟩:=hN
    refine xP (Paired.mapP hp3 fun _ _ h=>h.same (az s56)) (.cons ⟨t,y,rfl,kp _ _ (SqT.of ac),dx',d1,d2,fs',kv1,kv2,?_,f1,f2,?_,?_,k1.imp fun _ _ t=>aY kp (t.same s6),k2.imp fun _ _ t=>(t.keep fun _ _ h=>s6.tup h).keep kp,f3,f4⟩ .nil)
    ·rw [fA (ne y hy)]
     exact s6 _ _ hx'
    ·rw [fA (ne d1 n1)]
     exact s6 _ _ g1
    ·rw [fA (ne d2 n2)]
     exact s6 _ _ g2
   ·rw [oF hrun hf,ip hok]
   ·rw [ma0,hkeys,List.take_add_one,hf,ma0]
    rfl
  ·unfold cD
   rw [hv2]
   refine(if_pos hall).trans ?_
   rw [hrr]
  ·unfold cD
   rw [hv2]
   refine(if_pos hall).trans ?_
   rw [hrr]
 rintro σ H3 ⟨y4,y5,ws,l,rfl,s3,h3,hp3,hrun,hkeys⟩
 rw [hlen,List.take_length] at hrun hkeys
 have s3':aE H H3:=s3.trans ak
 have llen:l.length=D.fs.length:=by
  have:=congrArg List.length hkeys
  rw [lm0,lm0] at this
  exact this
 have hlf:=hD.lf
 have hrb:=hD.rb D.fs.length l (by rw [List.take_length];exact hrun)
 unfold cR at hR
 rw [hrun] at hR
 replace hR:zg K CF CM CN cl D.w H Q E (match iR (PL++l.map cq) 40 D.its with
  |.ref c=>.ref c
  |.ok f1 f2=>mn fl (PL++l.map cq) l f1 f2 D.sl):=hR
 refine⟨_,rfl,_,rfl,lw,pa,ws,l,PL,rfl,h3,Paired.mapP hp3 fun _ _ t=>t.same ak,hPL.same s3',?_,hD.lp,by omega,hrb,fun H4 d s4 hd hP4=>?_⟩
 ·rw [ma0,hkeys]
  exact hD.nd
 have s4':=s3'.trans s4
 have w4:aE H (wo H4 lw):=s3.trans (az s4)
 refine⟨_,rfl,a,_,_,_,rfl,rfl,s4'.tup ha,(show atI [V.str "maker",.str D.w,.ref ta,sv,.ref ia] 4=some (.ref ia) from rfl),_,rfl,ia,ys,D.its,d,40,PL++l.map cq,rfl,s4'.tup hia,Paired.mapP hys fun _ _ t=>t.same s4',hD.li,hD.it,hP4,hD.pa l hrun,by decide,by decide,?_⟩
 cases hrf:iR (PL++l.map cq) 40 D.its with
 |ref c =>
  rw [hrf] at hR
  exact fun H' s'=>hR H' (s4'.trans s')
 |ok f1 f2 =>
 rw [hrf] at hR
 replace hR:zg K CF CM CN cl D.w H Q E (mn fl (PL++l.map cq) l f1 f2 D.sl):=hR
 intro H5 fu d1 d2 s5 nd1 nd2 nfu hFu
 have s5':=s4'.trans s5
 obtain⟨fkv,hfk,hfp⟩:=hfl.same s5'
 obtain⟨pkv,hpk,hpp⟩:=hP4.same s5
 have h5:H5 lw=some (.lst ws):=(s4.trans s5) _ _ h3
 have w5:aE H (wo H5 lw):=w4.trans (az s5)
 have hp5:Paired (zL K (wo H5 lw) CF) ws l:=Paired.mapP hp3 fun _ _ t=>t.same (az (s4.trans s5))
 refine⟨_,rfl,a,_,_,_,rfl,rfl,s5'.tup ha,(show atI [V.str "maker",.str D.w,.ref ta,sv,.ref ia] 3=some sv from rfl),_,rfl,_,rfl,sv,fa,d,fkv,pkv,PGo (PL++l.map cq),rfl,hfk,hpk,um hpp,?_⟩
 cases hsl:D.sl with
 |none =>
  rw [hsl] at hsv hR
  obtain rfl:sv=.non:=hsv
  refine .inl ⟨rfl,fun H6 s6=>?_⟩
  refine⟨_,rfl,rfl,_,rfl,qT ⟨_,rfl,_,rfl,?_⟩⟩
  intro x dx nx ndx nex
  have pm:=qV (K:=K) (CM:=CM) nx ndx nex
  refine⟨x,dx,lw,fu,ws,l,f1,f2,rfl,ac,pm _ _ (s6 _ _ h5),Paired.mapP hp5 fun _ _ t=>t.same (ak.trans (s6.trans pm)),(hFu.same (s6.trans pm)).faceF,by omega,fun l' rf fs zs H7 hl hrf' ne hx lf lr hl7 hp7 hN7 keep=>⟨rfl,?_⟩⟩
  obtain⟨q1,q2,q3⟩:=pe (s5'.trans s6) nx ndx nex hl hrf' ne hx lf lr hl7 hp7 hN7 keep
  exact hR _ x q1 q2 q3
 |some sl =>
  rw [hsl] at hsv hR
  obtain⟨z,wz⟩:=sl
  obtain⟨p2,tw,xw,rfl,hp2,htw,hxw⟩:=hsv
  replace hp2:SqT K H p2 [.str z,.ref tw]:=hp2
  replace hxw:iQ K H xw wz:=hxw
  obtain⟨hz,hwl,hSl⟩:=hD.sl2 l _ hrun hsl
  have hEi:∀c,cD fl (PL++l.map cq) (z,wz)=.ref c->∀H',aE H H'->E (.ref (cl c)) none H':=fun c e=>by
   unfold mn at hR
   simp only [e] at hR
   exact hR
  refine .inr ⟨p2,tw,z,xw,wz,rfl,s5'.tup hp2,hz,s5'.tup htw,Paired.mapP hxw fun _ _ t=>fJ.same s5' t,hwl,hSl,?_⟩
  rcases cJ hfp z with ⟨hv1,hv2⟩|⟨v,r,hv1,hv2,xa,rfl,hxF⟩
  ·exact .inl ⟨hv1,fun H6 s6=>hEi 1 (by unfold cD;rw [hv2]) _ (s5'.trans s6)⟩
  refine .inr ⟨xa,r.1,r.2,hv1,hxF,hD.good _ (dC hv2),fun⟨q,hq,hn⟩ H6 s6=>hEi 2 (by unfold cD;rw [hv2];exact if_neg fun h=>hn (h q hq)) _ (s5'.trans s6),fun hall=>⟨fun a1 a2 hrr H6 y s6 hy hN=>?_,fun hrr H6 s6=>hEi 2 ?_ _ (s5'.trans s6),fun hrr H6 s6=>hEi 3 ?_ _ (s5'.trans s6)⟩⟩
  ·have hok:cD fl (PL++l.map cq) (z,wz)=.ok a1 a2:=by
    unfold cD
    rw [hv2]
    refine(if_pos hall).trans ?_
    rw [hrr]
   have s6':=s5'.trans s6
   refine⟨_,rfl,rfl,_,rfl,dL (fun c=>absurd (od0 c) (by intro h;cases h)) (fun _=>?_)⟩
   refine⟨_,rfl,_,rfl,_,rfl,a,_,_,_,rfl,rfl,s6'.tup ha,(show atI [V.str "maker",.str D.w,.ref ta,.ref p2,.ref ia] 1=some (.str D.w) from rfl),fu,y,D.w,f1,a1,f2,a2,rfl,(hFu.faceF.same s6).at,hN.face.at,hD.two l _ f1 f2 a1 a2 hrun hrf hsl hok,hD.w,fun r hr d H7 s7 hx=>?_,fun hn H7 g kvs gl s7 _ _ _ _ _=>?_⟩
   ·unfold mn at hR
    simp only [hok,hr] at hR
    exact hR d H7 (s6'.trans s7) hx
   ·unfold mn at hR
    simp only [hok,hn] at hR
    refine⟨_,rfl,_,rfl,?_⟩
    intro x dx nx ndx nex
    have pm:=qV (K:=K) (CM:=CM) nx ndx nex
    refine⟨x,dx,lw,y,ws,l,a1,a2,rfl,ac,pm _ _ ((s6.trans s7) _ _ h5),Paired.mapP hp5 fun _ _ t=>t.same (ak.trans ((s6.trans s7).trans pm)),hN.face.same (s7.trans pm),by omega,fun l' rf fs zs H8 hl hrf' ne hx lf lr hl7 hp7 hN7 keep=>⟨rfl,?_⟩⟩
    obtain⟨q1,q2,q3⟩:=pe (s6'.trans s7) nx ndx nex hl hrf' ne hx lf lr hl7 hp7 hN7 keep
    exact hR _ x q1 q2 q3
  ·unfold cD
   rw [hv2]
   refine(if_pos hall).trans ?_
   rw [hrr]
  ·unfold cD
   rw [hv2]
   refine(if_pos hall).trans ?_
   rw [hrr]
end
structure SC where
 W:Nat->Str
 T:Nat->Str
 F:Nat->Str
 n:Int
 b:Bool
abbrev szK(S:SC):Kd:=.num S.n
def k1K(S:SC):Kd:=if S.b then .pair (fM (S.T 0)) (szK S) else fM (S.T 0)
abbrev txs(f:Nat->Str)(n:Nat):List V:=(List.range n).map fun j=>V.str (f j)
structure GB(K:W.Frag)(H:Hp)(S:SC)(gkv:List (Key × V))(wa ka fa sa fc kl ia y0 y1:Addr)(z1 x1 x2 x3:V)(ys:List V)(f1 f2:Str × (Str × aq))(sl:Option (Str × aq))(its:List It):Prop where
 vw:dg gkv (.inr "words")=some (.ref wa)
 vk:dg gkv (.inr "kinds")=some (.ref ka)
 vf:dg gkv (.inr "funs")=some (.ref fa)
 vs:dg gkv (.inr "size")=some (.ref sa)
 vc:dg gkv (.inr "face")=some (.ref fc)
 v1:dg gkv (.inr "first")=some x1
 v2:dg gkv (.inr "second")=some x2
 v3:dg gkv (.inr "seal")=some x3
 vi:dg gkv (.inr "items")=some (.ref ia)
 hw:H wa=some (.lst (txs S.W 7))
 hk:H ka=some (.lst (txs S.T 6))
 hf:H fa=some (.lst (txs S.F 4))
 hs:H sa=some (.tup [.str "num",.int S.n])
 hc:H fc=some (.tup [.ref kl,.str (S.F 0)])
 hl:H kl=some (.lst [.ref y0,.ref y1])
 p0:wq K H (.ref y0) (S.T 0,fM (S.T 0))
 p1:H y1=some (.tup [.str (S.T 1),z1])
 p2:cc K H z1 (k1K S)
 h1:qM K H x1 f1
 h2:qM K H x2 f2
 h3:rX K H x3 sl
 hi:H ia=some (.lst ys)
 py:Paired (nP K H) ys its
def wg(K:W.Frag)(H:Hp)(S:SC)(gkv:List (Key × V))(f1 f2:Str × (Str × aq))(sl:Option (Str × aq))(its:List It):Prop:=∃wa ka fa sa fc kl ia y0 y1 z1 x1 x2 x3 ys,GB K H S gkv wa ka fa sa fc kl ia y0 y1 z1 x1 x2 x3 ys f1 f2 sl its
def jr(K:W.Frag)(H:Hp)(g:Addr)(S:SC)(f1 f2:Str × (Str × aq))(sl:Option (Str × aq))(its:List It):Prop:=∃gkv,H g=some (.dK gkv)/\wg K H S gkv f1 f2 sl its
section
variable{K:W.Frag}{H H':Hp}{S:SC}{f1 f2:Str × (Str × aq)}{sl:Option (Str × aq)}{its:List It}
theorem qM.same{v:V}(e:aE H H')(h:qM K H v f1):qM K H' v f1:=by
 obtain⟨p,y,a,b,c⟩:=h
 exact⟨p,y,a,e.tup b,c.same e⟩
theorem rX.same{v:V}(e:aE H H')(h:rX K H v sl):rX K H' v sl:=by
 cases sl with
 |none=>exact h
 |some s=>exact jk.same e h
theorem wq.same'{v:V}{q:Str × Kd}(e:aE H H')(h:wq K H v q):wq K H' v q:=by
 obtain⟨p,y,a,b,c⟩:=h
 exact⟨p,y,a,e _ _ b,c.same e⟩
theorem GB.same{gkv:List (Key × V)}{wa ka fa sa fc kl ia y0 y1:Addr}{z1 x1 x2 x3:V}{ys:List V}(e:aE H H')(h:GB K H S gkv wa ka fa sa fc kl ia y0 y1 z1 x1 x2 x3 ys f1 f2 sl its):GB K H' S gkv wa ka fa sa fc kl ia y0 y1 z1 x1 x2 x3 ys f1 f2 sl its :=
 ⟨h.vw,h.vk,h.vf,h.vs,h.vc,h.v1,h.v2,h.v3,h.vi,e _ _ h.hw,e _ _ h.hk,e _ _ h.hf,e _ _ h.hs,e _ _ h.hc,e _ _ h.hl,h.p0.same' e,e _ _ h.p1,h.p2.same e,h.h1.same e,h.h2.same e,h.h3.same e,e _ _ h.hi,Paired.mapP h.py fun _ _ t=>t.same e⟩
theorem wg.same{gkv:List (Key × V)}(e:aE H H')(h:wg K H S gkv f1 f2 sl its):wg K H' S gkv f1 f2 sl its:=by
 obtain⟨wa,ka,fa,sa,fc,kl,ia,y0,y1,z1,x1,x2,x3,ys,h⟩:=h
 exact⟨wa,ka,fa,sa,fc,kl,ia,y0,y1,z1,x1,x2,x3,ys,h.same e⟩
theorem jr.same{g:Addr}(e:aE H H')(h:jr K H g S f1 f2 sl its):jr K H' g S f1 f2 sl its:=by
 obtain⟨gkv,a,b⟩:=h
 exact⟨gkv,e _ _ a,b.same e⟩
end
def gg:Nat->Kd
 |0=>.num 2
 |n+1=>.pair (gg n) (.num (3+(n:Int)))
def uS(K:W.Frag):Sp:=fun vs H Q _=>∃n:Nat,vs=[.int (n:Int)]/\n<=30/\∀H' v,aE H H'->cc K H' v (gg n)->Q v H'
abbrev grN:List Str:=["_law_count","_law_kind","_law_k"]
def sr1(S:SC):aq:=[(S.T 2,fM (S.T 2)),(S.T 3,szK S)]
def sr2(S:SC):bi:=[(S.F 1,([fM (S.T 2)],szK S)),(S.F 2,([],szK S))]
abbrev slN:List Str:=["_law_got","_law_own","_law_rows"]
def kr(K:W.Frag):Sp:=fun vs H Q _=>∃(g:Addr) (S:SC) (f1 f2:Str × (Str × aq)) (sl:Option (Str × aq)) (its:List It),vs=[.ref g]/\jr K H g S f1 f2 sl its/\∀H' p,aE H H'->An K H' p (sr1 S) (sr2 S)->Q (.ref p) H'
def hdK(S:SC):Kd:=.name (S.W 1) (S.T 0)
def otK(S:SC):Kd:=if S.b then .pair (hdK S) (szK S) else hdK S
def fr1(S:SC):aq:=[(S.T 2,.pair (hdK S) (otK S)),(S.T 3,szK S)]
def fr2(S:SC):bi:=[(S.F 1,([.pair (hdK S) (otK S)],szK S)),(S.F 2,([],szK S))]
abbrev fuN:List Str:=["_law_got","_law_words","_law_kinds","_law_hidden","_law_other","_law_rows"]
def vo(K:W.Frag):Sp:=fun vs H Q _=>∃(g:Addr) (S:SC) (f1 f2:Str × (Str × aq)) (sl:Option (Str × aq)) (its:List It),vs=[.ref g]/\jr K H g S f1 f2 sl its/\okW (S.T 0)/\0<=S.n/\S.n<=10 ^ 18/\∀H' p,aE H H'->An K H' p (fr1 S) (fr2 S)->Q (.ref p) H'
section
variable{P:Program}{w:World}{K:W.Frag}{mg:Str->Option Value}{base:Heap}
theorem nL:aO grN ["_law_count"] (ah lP):=mkS
theorem wB{f:Addr}{fd:FuncData} (F:Fun K "_law_great" "_law_great" lP f fd) (mr:mg "range"=none):bq P w K mg base CX0 1 f fd ["_law_count"] (uS K):=by
 refine F.k0 nL fun cdv A outer s H vs Q E hr h=>?_
 obtain⟨n,rfl,h30,q⟩:=h
 refine⟨_,@ag _ _ _ _ _ (ba (i:=1) nL.nd (@ap _ _ _ _ _ (@aa _ _ _ _ _ am (@aa _ _ _ _ _ ai ae rfl) rfl)))
  (@ag _ _ _ _ _ (di PassesOwn.never rfl (eK rfl mr (@aa _ _ _ _ _ (pv 0) ae rfl)) (aP (i:=2) nL.nd rfl (Or.inl rfl))
   (@ao _ _ _ (ba (i:=1) nL.nd (@ap _ _ _ _ _ (@aa _ _ _ _ _ am (@aa _ _ _ _ _ (pv 1) (@aa _ _ _ _ _ (@ap _ _ _ _ _ (@aa _ _ _ _ _ am (@aa _ _ _ _ _ (bz fV ai (pv 2)) ae rfl) rfl)) ae rfl) rfl) rfl)))))
  (@ao _ _ _ (@aS _ _ _ _ (pv 1)))),?_⟩
 refine⟨(sz 2),fun p hp=>?_⟩
 have s1:=ad hp (.tup [.str "num",.int 2])
 refine⟨_,rfl,_,rfl,by omega,by omega,?_⟩
 refine jU (fun i σ H2=>∃(y2:Option V) (v:V),σ=[some (.int (n:Int)),some v,y2]/\aE H H2/\cc K H2 v (gg i))
  ⟨none,_,rfl,s1,.num (SqT.of ac)⟩ ?_ ?_
 ·rintro i σ H2 hi ⟨y2,v,rfl,s2,hv⟩
  rw [Int.zero_add]
  refine⟨_,rfl,_,rfl,_,_,rfl,rfl,(sz 2),fun p2 hp2=>?_⟩
  have s3:=ad hp2 (.tup [.str "num",.int (3+(i:Int))])
  refine⟨(sz 3),fun p3 hp3=>?_⟩
  have s4:=ad hp3 (.tup [.str "pair",v,.ref p2])
  exact⟨_,_,rfl,s2.trans (s3.trans s4),.pair (SqT.of ac) (hv.same (s3.trans s4)) (.num (SqT.of (s4 _ _ ac)))⟩
 ·rintro σ H2 ⟨y2,v,rfl,s2,hv⟩
  exact⟨_,rfl,q _ v s2 (by simpa using hv)⟩
theorem jW:aO slN ["_law_got"] (ah gx):=mkS
theorem sJ{f:Addr}{fd:FuncData} (F:Fun K "_law_sealing" "_law_sealing" gx f fd):bq P w K mg base CX0 1 f fd ["_law_got"] (kr K):=by
 refine F.k0 jW fun cdv A outer s H vs Q E hr h=>?_
 obtain⟨g,S,f1,f2,sl,its,rfl,⟨gkv,hg,wa,ka,fa,sa,fc,kl,ia,y0,y1,z1,x1,x2,x3,ys,FG⟩,q⟩:=h
 have hu:=dY hr
 refine⟨_,@ag _ _ _ _ _ (ba (i:=1) jW.nd (@ap _ _ _ _ _ (@aa _ _ _ _ _ am (@aa _ _ _ _ _ am (@aa _ _ _ _ _ (ix0 aw (aJ hu (pv 0) am (fun _ _=>rfl)) ai) ae rfl) rfl) rfl)))
  (@ag _ _ _ _ _ (ba (i:=2) jW.nd (cU (@aa _ _ _ _ _ (@ap _ _ _ _ _ (@aa _ _ _ _ _ (ix0 aw (aJ hu (pv 0) am (fun _ _=>rfl)) ai) (@aa _ _ _ _ _ (pv 1) ae rfl) rfl)) (@aa _ _ _ _ _ (@ap _ _ _ _ _ (@aa _ _ _ _ _ (ix0 aw (aJ hu (pv 0) am (fun _ _=>rfl)) ai) (@aa _ _ _ _ _ (aJ hu (pv 0) am (fun _ _=>rfl)) ae rfl) rfl)) ae rfl) rfl)))
  (@ao _ _ _ (@aS _ _ _ _ (@ap _ _ _ _ _ (@aa _ _ _ _ _ (pv 2) (@aa _ _ _ _ _ (cU (@aa _ _ _ _ _ (@ap _ _ _ _ _ (@aa _ _ _ _ _ (ix0 aw (aJ hu (pv 0) am (fun _ _=>rfl)) ai) (@aa _ _ _ _ _ (@ap _ _ _ _ _ (@aa _ _ _ _ _ (@ap _ _ _ _ _ (@aa _ _ _ _ _ (pv 1) ae rfl)) (@aa _ _ _ _ _ (aJ hu (pv 0) am (fun _ _=>rfl)) ae rfl) rfl)) ae rfl) rfl)) (@aa _ _ _ _ _ (@ap _ _ _ _ _ (@aa _ _ _ _ _ (ix0 aw (aJ hu (pv 0) am (fun _ _=>rfl)) ai) (@aa _ _ _ _ _ (@ap _ _ _ _ _ (@aa _ _ _ _ _ (@ap _ _ _ _ _ ae) (@aa _ _ _ _ _ (aJ hu (pv 0) am (fun _ _=>rfl)) ae rfl) rfl)) ae rfl) rfl)) ae rfl) rfl)) ae rfl) rfl))))),?_⟩
 refine⟨_,rfl,g,.ref ka,rfl,FG.vk▸cT.k (k:=.inr "kinds") hg,ka,_,_,_,rfl,rfl,SqL.of FG.hk,(show atI (txs S.T 6) 2=some (.str (S.T 2)) from rfl),(sz 3),fun p1 h1=>?_⟩
 have e1:=ad h1 (.tup [.str "name",.str "",.str (S.T 2)])
 have s1:=e1
 refine⟨_,rfl,g,.ref ka,rfl,FG.vk▸cT.k (k:=.inr "kinds") (s1 _ _ hg),ka,_,_,_,rfl,rfl,SqL.of (s1 _ _ FG.hk),(show atI (txs S.T 6) 2=some (.str (S.T 2)) from rfl),_,rfl,(sz 2),fun p2 h2=>?_⟩
 have e2:=ad h2 (.tup [.str (S.T 2),.ref p1])
 have s2:=s1.trans e2
 refine⟨_,rfl,g,.ref ka,rfl,FG.vk▸cT.k (k:=.inr "kinds") (s2 _ _ hg),ka,_,_,_,rfl,rfl,SqL.of (s2 _ _ FG.hk),(show atI (txs S.T 6) 3=some (.str (S.T 3)) from rfl),_,rfl,g,.ref sa,rfl,FG.vs▸cT.k (k:=.inr "size") (s2 _ _ hg),(sz 2),fun p3 h3=>?_⟩
 have e3:=ad h3 (.tup [.str (S.T 3),.ref sa])
 have s3:=s2.trans e3
 refine⟨(sz 2),fun p4 h4=>?_⟩
 have e4:=ad h4 (.lst [.ref p2,.ref p3])
 have s4:=s3.trans e4
 refine⟨_,rfl,_,rfl,g,.ref fa,rfl,FG.vf▸cT.k (k:=.inr "funs") (s4 _ _ hg),fa,_,_,_,rfl,rfl,SqL.of (s4 _ _ FG.hf),(show atI (txs S.F 4) 1=some (.str (S.F 1)) from rfl),_,rfl,(sz 1),fun p5 h5=>?_⟩
 have e5:=ad h5 (.tup [.ref p1])
 have s5:=s4.trans e5
 refine⟨_,rfl,g,.ref sa,rfl,FG.vs▸cT.k (k:=.inr "size") (s5 _ _ hg),(sz 2),fun p6 h6=>?_⟩
 have e6:=ad h6 (.tup [.ref p5,.ref sa])
 have s6:=s5.trans e6
 refine⟨(sz 2),fun p7 h7=>?_⟩
 have e7:=ad h7 (.tup [.str (S.F 1),.ref p6])
 have s7:=s6.trans e7
 refine⟨_,rfl,g,.ref fa,rfl,FG.vf▸cT.k (k:=.inr "funs") (s7 _ _ hg),fa,_,_,_,rfl,rfl,SqL.of (s7 _ _ FG.hf),(show atI (txs S.F 4) 2=some (.str (S.F 2)) from rfl),(sz 0),fun p8 h8=>?_⟩
 have e8:=ad h8 (.tup [])
 have s8:=s7.trans e8
 refine⟨_,rfl,g,.ref sa,rfl,FG.vs▸cT.k (k:=.inr "size") (s8 _ _ hg),(sz 2),fun p9 h9=>?_⟩
 have e9:=ad h9 (.tup [.ref p8,.ref sa])
 have s9:=s8.trans e9
 refine⟨(sz 2),fun p10 h10=>?_⟩
 have e10:=ad h10 (.tup [.str (S.F 2),.ref p9])
 have s10:=s9.trans e10
 refine⟨(sz 2),fun p11 h11=>?_⟩
 have e11:=ad h11 (.lst [.ref p7,.ref p10])
 have s11:=s10.trans e11
 refine⟨(sz 2),fun p12 h12=>?_⟩
 have e12:=ad h12 (.tup [.ref p4,.ref p11])
 have s12:=s11.trans e12
 have t11:=e12
 have t10:=e11.trans t11
 have t9:=e10.trans t10
 have t8:=e9.trans t9
 have t7:=e8.trans t8
 have t6:=e7.trans t7
 have t5:=e6.trans t6
 have t4:=e5.trans t5
 have t3:=e4.trans t4
 have t2:=e3.trans t3
 have t1:=e2.trans t2
 exact q _ _ s12 ⟨_,_,ac,⟨_,(t4 _ _ ac),.cons ⟨_,_,rfl,(t2 _ _ ac),(cc.name (SqT.of (t1 _ _ ac)))⟩ (.cons ⟨_,_,rfl,(t3 _ _ ac),(cc.num (SqT.of (s12 _ _ FG.hs)))⟩ .nil)⟩,⟨_,(t11 _ _ ac),.cons ⟨_,_,rfl,(t7 _ _ ac),_,_,_,_,rfl,SqT.of (t6 _ _ ac),SqT.of (t5 _ _ ac),.cons (cc.name (SqT.of (t1 _ _ ac))) .nil,(cc.num (SqT.of (s12 _ _ FG.hs)))⟩ (.cons ⟨_,_,rfl,(t10 _ _ ac),_,_,_,_,rfl,SqT.of (t9 _ _ ac),SqT.of (t8 _ _ ac),.nil,(cc.num (SqT.of (s12 _ _ FG.hs)))⟩ .nil)⟩⟩
theorem gR:aO fuN ["_law_got"] (ah jo):=mkS
theorem wK{f:Addr}{fd:FuncData} (F:Fun K "_law_full" "_law_full" jo f fd):bq P w K mg base CX0 1 f fd ["_law_got"] (vo K):=by
 refine F.k0 gR fun cdv A outer s H vs Q E hr h=>?_
 obtain⟨g,S,f1,f2,sl,its,rfl,⟨gkv,hg,wa,ka,fa,sa,fc,kl,ia,y0,y1,z1,x1,x2,x3,ys,FG⟩,hT0,hn0,hn1,q⟩:=h
 have hu:=dY hr
 have hu64:=hr.units
 obtain⟨t5,d5,k5⟩:∃t,PSs (ee CX0 P w K mg base fuN "_law_full" (ah jo) f cdv A outer s H E).nox (List.drop 5 (ar jo)) t/\∀(H0:Hp) (xh xo:V),aE H H0->cc K H0 xh (hdK S)->cc K H0 xo (otK S)->t { nx:=fun _ H'=>Q .non H',rt:=Q } [some (.ref g),some (.ref wa),some (.ref ka),some xh,some xo,none] H0:=by
  refine⟨_,(@ag _ _ _ _ _ (ba (i:=5) gR.nd (cU (@aa _ _ _ _ _ (@ap _ _ _ _ _ (@aa _ _ _ _ _ (ix0 aw (pv 2) ai) (@aa _ _ _ _ _ (@ap _ _ _ _ _ (@aa _ _ _ _ _ am (@aa _ _ _ _ _ (pv 3) (@aa _ _ _ _ _ (pv 4) ae rfl) rfl) rfl)) ae rfl) rfl)) (@aa _ _ _ _ _ (@ap _ _ _ _ _ (@aa _ _ _ _ _ (ix0 aw (pv 2) ai) (@aa _ _ _ _ _ (aJ hu (pv 0) am (fun _ _=>rfl)) ae rfl) rfl)) ae rfl) rfl))) (@ao _ _ _ (@aS _ _ _ _ (@ap _ _ _ _ _ (@aa _ _ _ _ _ (pv 5) (@aa _ _ _ _ _ (cU (@aa _ _ _ _ _ (@ap _ _ _ _ _ (@aa _ _ _ _ _ (ix0 aw (aJ hu (pv 0) am (fun _ _=>rfl)) ai) (@aa _ _ _ _ _ (@ap _ _ _ _ _ (@aa _ _ _ _ _ (@ap _ _ _ _ _ (@aa _ _ _ _ _ (ix0 bj (ix0 aw (pv 5) ai) ai) ae rfl)) (@aa _ _ _ _ _ (aJ hu (pv 0) am (fun _ _=>rfl)) ae rfl) rfl)) ae rfl) rfl)) (@aa _ _ _ _ _ (@ap _ _ _ _ _ (@aa _ _ _ _ _ (ix0 aw (aJ hu (pv 0) am (fun _ _=>rfl)) ai) (@aa _ _ _ _ _ (@ap _ _ _ _ _ (@aa _ _ _ _ _ (@ap _ _ _ _ _ ae) (@aa _ _ _ _ _ (aJ hu (pv 0) am (fun _ _=>rfl)) ae rfl) rfl)) ae rfl) rfl)) ae rfl) rfl)) ae rfl) rfl))))),?_⟩
  intro H0 xh xo s0 hxh hxo
  refine⟨_,rfl,ka,_,_,_,rfl,rfl,SqL.of (s0 _ _ FG.hk),(show atI (txs S.T 6) 2=some (.str (S.T 2)) from rfl),_,rfl,_,rfl,(sz 3),fun p1 h1=>?_⟩
  have e1:=ad h1 (.tup [.str "pair",xh,xo])
  have s1:=s0.trans e1
  refine⟨(sz 2),fun p2 h2=>?_⟩
  have e2:=ad h2 (.tup [.str (S.T 2),.ref p1])
  have s2:=s1.trans e2
  refine⟨_,rfl,ka,_,_,_,rfl,rfl,SqL.of (s2 _ _ FG.hk),(show atI (txs S.T 6) 3=some (.str (S.T 3)) from rfl),_,rfl,g,.ref sa,rfl,FG.vs▸cT.k (k:=.inr "size") (s2 _ _ hg),(sz 2),fun p3 h3=>?_⟩
  have e3:=ad h3 (.tup [.str (S.T 3),.ref sa])
  have s3:=s2.trans e3
  refine⟨(sz 2),fun p4 h4=>?_⟩
  have e4:=ad h4 (.lst [.ref p2,.ref p3])
  have s4:=s3.trans e4
  refine⟨_,rfl,_,rfl,g,.ref fa,rfl,FG.vf▸cT.k (k:=.inr "funs") (s4 _ _ hg),fa,_,_,_,rfl,rfl,SqL.of (s4 _ _ FG.hf),(show atI (txs S.F 4) 1=some (.str (S.F 1)) from rfl),_,rfl,p4,_,_,_,rfl,rfl,SqL.of ac,(show atI [V.ref p2,.ref p3] 0=some (.ref p2) from rfl),p2,_,_,_,rfl,rfl,SqT.of ((e3.trans e4) _ _ ac),(show atI [V.str (S.T 2),.ref p1] 1=some (.ref p1) from rfl),(sz 1),fun p5 h5=>?_⟩
  have e5:=ad h5 (.tup [.ref p1])
  have s5:=s4.trans e5
  refine⟨_,rfl,g,.ref sa,rfl,FG.vs▸cT.k (k:=.inr "size") (s5 _ _ hg),(sz 2),fun p6 h6=>?_⟩
  have e6:=ad h6 (.tup [.ref p5,.ref sa])
  have s6:=s5.trans e6
  refine⟨(sz 2),fun p7 h7=>?_⟩
  have e7:=ad h7 (.tup [.str (S.F 1),.ref p6])
  have s7:=s6.trans e7
  refine⟨_,rfl,g,.ref fa,rfl,FG.vf▸cT.k (k:=.inr "funs") (s7 _ _ hg),fa,_,_,_,rfl,rfl,SqL.of (s7 _ _ FG.hf),(show atI (txs S.F 4) 2=some (.str (S.F 2)) from rfl),(sz 0),fun p8 h8=>?_⟩
  have e8:=ad h8 (.tup [])
  have s8:=s7.trans e8
  refine⟨_,rfl,g,.ref sa,rfl,FG.vs▸cT.k (k:=.inr "size") (s8 _ _ hg),(sz 2),fun p9 h9=>?_⟩
  have e9:=ad h9 (.tup [.ref p8,.ref sa])
  have s9:=s8.trans e9
  refine⟨(sz 2),fun p10 h10=>?_⟩
  have e10:=ad h10 (.tup [.str (S.F 2),.ref p9])
  have s10:=s9.trans e10
  refine⟨(sz 2),fun p11 h11=>?_⟩
  have e11:=ad h11 (.lst [.ref p7,.ref p10])
  have s11:=s10.trans e11
  refine⟨(sz 2),fun p12 h12=>?_⟩
  have e12:=ad h12 (.tup [.ref p4,.ref p11])
  have s12:=s11.trans e12
  have t11:=e12
  have t10:=e11.trans t11
  have t9:=e10.trans t10
  have t8:=e9.trans t9
  have t7:=e8.trans t8
  have t6:=e7.trans t7
  have t5:=e6.trans t6
  have t4:=e5.trans t5
  have t3:=e4.trans t4
  have t2:=e3.trans t3
  have t1:=e2.trans t2
  have u:=e1.trans t1
  exact q _ _ s12 ⟨_,_,ac,⟨_,(t4 _ _ ac),.cons ⟨_,_,rfl,(t2 _ _ ac),(cc.pair (SqT.of (t1 _ _ ac)) (hxh.same u) (hxo.same u))⟩ (.cons ⟨_,_,rfl,(t3 _ _ ac),(cc.num (SqT.of (s12 _ _ FG.hs)))⟩ .nil)⟩,⟨_,(t11 _ _ ac),.cons ⟨_,_,rfl,(t7 _ _ ac),_,_,_,_,rfl,SqT.of (t6 _ _ ac),SqT.of (t5 _ _ ac),.cons (cc.pair (SqT.of (t1 _ _ ac)) (hxh.same u) (hxo.same u)) .nil,(cc.num (SqT.of (s12 _ _ FG.hs)))⟩ (.cons ⟨_,_,rfl,(t10 _ _ ac),_,_,_,_,rfl,SqT.of (t9 _ _ ac),SqT.of (t8 _ _ ac),.nil,(cc.num (SqT.of (s12 _ _ FG.hs)))⟩ .nil)⟩⟩
 refine⟨_,@ag _ _ _ _ _ (ba (i:=1) gR.nd (aJ hu (pv 0) am (fun _ _=>rfl)))
  (@ag _ _ _ _ _ (ba (i:=2) gR.nd (aJ hu (pv 0) am (fun _ _=>rfl)))
  (@ag _ _ _ _ _ (ba (i:=3) gR.nd (@ap _ _ _ _ _ (@aa _ _ _ _ _ am (@aa _ _ _ _ _ (ix0 aw (pv 1) ai) (@aa _ _ _ _ _ (ix0 aw (pv 2) ai) ae rfl) rfl) rfl)))
  (@ag _ _ _ _ _ (ba (i:=4) gR.nd (pv 3))
  (@ag _ _ _ _ _ (cg (aX (yn hu64) (ix0 bj (ix0 aw (ix0 bj (aJ hu (pv 0) am (fun _ _=>rfl)) ai) ai) ai) (@ap _ _ _ _ _ (@aa _ _ _ _ _ am (@aa _ _ _ _ _ am (@aa _ _ _ _ _ (ix0 aw (pv 2) ai) ae rfl) rfl) rfl)) (aZ _)) (@ao _ _ _ (ba (i:=4) gR.nd (@ap _ _ _ _ _ (@aa _ _ _ _ _ am (@aa _ _ _ _ _ (pv 3) (@aa _ _ _ _ _ (aJ hu (pv 0) am (fun _ _=>rfl)) ae rfl) rfl) rfl)))) aU) d5)))),?_⟩
 refine⟨_,rfl,g,.ref wa,rfl,FG.vw▸cT.k (k:=.inr "words") hg,_,rfl,g,.ref ka,rfl,FG.vk▸cT.k (k:=.inr "kinds") hg,_,rfl,wa,_,_,_,rfl,rfl,SqL.of FG.hw,(show atI (txs S.W 7) 1=some (.str (S.W 1)) from rfl),_,rfl,ka,_,_,_,rfl,rfl,SqL.of FG.hk,(show atI (txs S.T 6) 0=some (.str (S.T 0)) from rfl),(sz 3),fun p1 h1=>?_⟩
 have e1:=ad h1 (.tup [.str "name",.str (S.W 1),.str (S.T 0)])
 have s1:=e1
 refine⟨_,rfl,_,rfl,g,.ref fc,rfl,FG.vc▸cT.k (k:=.inr "face") (s1 _ _ hg),fc,_,_,_,rfl,rfl,SqT.of (s1 _ _ FG.hc),(show atI [V.ref kl,.str (S.F 0)] 0=some (.ref kl) from rfl),kl,_,_,_,rfl,rfl,SqL.of (s1 _ _ FG.hl),(show atI [V.ref y0,.ref y1] 1=some (.ref y1) from rfl),y1,_,_,_,rfl,rfl,SqT.of (s1 _ _ FG.p1),(show atI [V.str (S.T 1),z1] 1=some (z1) from rfl),_,rfl,ka,_,_,_,rfl,rfl,SqL.of (s1 _ _ FG.hk),(show atI (txs S.T 6) 0=some (.str (S.T 0)) from rfl),(sz 3),fun p2 h2=>?_⟩
 have e2:=ad h2 (.tup [.str "name",.str "",.str (S.T 0)])
 have s2:=s1.trans e2
 have hh:=cc.name (K:=K) (SqT.of (e2 _ _ (ac (H:=H) (a:=p1) (o:=.tup [.str "name",.str (S.W 1),.str (S.T 0)]))))
 have ho':=cc.name (K:=K) (SqT.of (ac (H:=upd H p1 (.tup [.str "name",.str (S.W 1),.str (S.T 0)])) (a:=p2) (o:=.tup [.str "name",.str "",.str (S.T 0)])))
 have hz:=FG.p2.same s2
 have ok0:Kd.ok (fM (S.T 0)):=⟨⟨by decide +kernel,by decide +kernel⟩,hT0⟩
 refine⟨_,_,dq hz,dq ho',fH ?_ ?_,fH ok0 (Nat.le_of_ble_eq_true rfl),?_⟩
 ·unfold k1K
  cases S.b
  ·exact ok0
  ·exact⟨ok0,trivial⟩
 ·unfold k1K
  cases S.b<;>exact Nat.le_of_ble_eq_true rfl
 refine⟨_,rfl,dL (fun c=>?_) (fun c=>?_)⟩
 ·have c':(!PyData.eqv (Kd.dat (k1K S)) (Kd.dat (.name "" (S.T 0))))=true:=c
  rw [gZ] at c'
  have hb:S.b=true:=by
   cases hb:S.b with
   |true=>rfl
   |false =>
    unfold k1K at c'
    rw [hb] at c'
    simp [fM] at c'
  refine⟨_,rfl,_,rfl,g,.ref sa,rfl,FG.vs▸cT.k (k:=.inr "size") (s2 _ _ hg),(sz 3),fun p3 h3=>?_⟩
  have e3:=ad h3 (.tup [.str "pair",.ref p1,.ref sa])
  have eo:otK S=.pair (hdK S) (szK S):=by unfold otK;rw [hb];rfl
  exact k5 _ _ _ (s2.trans e3) (hh.same e3) (eo▸.pair (SqT.of ac) (hh.same e3) (.num (SqT.of ((s2.trans e3) _ _ FG.hs))))
 ·have c':¬(!PyData.eqv (Kd.dat (k1K S)) (Kd.dat (.name "" (S.T 0))))=true:=c
  rw [gZ] at c'
  have hb:S.b=false:=by
   cases hb:S.b with
   |false=>rfl
   |true =>
    unfold k1K at c'
    rw [hb] at c'
    simp [fM] at c'
  have eo:otK S=hdK S:=by unfold otK;rw [hb];rfl
  exact k5 _ _ _ s2 hh (eo▸hh)
end
theorem aB{gkv:List (Key × V)}{k z:Str}{v:V}:dg (bc gkv (.inr k) v) (.inr z)=if k=z then some v else dg gkv (.inr z):=by
 rw [gE]
 by_cases h:k=z
 ·rw [if_pos h,if_pos (by rw [h])]
 ·rw [if_neg h,if_neg (fun e=>h (by injection e with e;exact e.symm))]
theorem qM.keep{K:W.Frag}{H H':Hp}{v:V}{f:Str × (Str × aq)}(e:∀a xs,SqT K H a xs->SqT K H' a xs)(h:qM K H v f):qM K H' v f:=by
 obtain⟨p,y,a,b,p2,tw,xs,c,d,g,i⟩:=h
 exact⟨p,y,a,e _ _ b,p2,tw,xs,c,e _ _ d,e _ _ g,Paired.mapP i fun _ _ t=>fJ.keep e t⟩
theorem rX.keep{K:W.Frag}{H H':Hp}{v:V}{s:Option (Str × aq)}(e:∀a xs,SqT K H a xs->SqT K H' a xs)(h:rX K H v s):rX K H' v s:=by
 cases s with
 |none=>exact h
 |some s =>
  obtain⟨p2,tw,xs,c,d,g,i⟩:=h
  exact⟨p2,tw,xs,c,e _ _ d,e _ _ g,Paired.mapP i fun _ _ t=>fJ.keep e t⟩
section
variable{K:W.Frag}{H Hk:Hp}{b:Addr}{o:HO}{S:SC}{gkv:List (Key × V)}{wa ka fa sa fc kl ia y0 y1:Addr}{z1 x1 x2 x3:V}{ys:List V}{f1 f2:Str × (Str × aq)}{sl:Option (Str × aq)}{its:List It}
theorem eP(s:aE H Hk):aE (wo H b) (wo (upd Hk b o) b):=by
 rw [dF]
 exact az s
theorem ie(_:aE H Hk):upd Hk b o b=some o:=ac
theorem xm(hb:H b=some (.dK gkv))(s:aE H Hk):∀a xs,SqT K Hk a xs->SqT K (wo Hk b) a xs:=fun _ _ h=>oZ (s _ _ hb) (fun ys=>⟨fun z=>(nomatch z),fun ob z=>(nomatch z)⟩) h
theorem GB.fst(hb:H b=some (.dK gkv))(s:aE H Hk)(F:GB K (wo H b) S gkv wa ka fa sa fc kl ia y0 y1 z1 x1 x2 x3 ys f1 f2 sl its){v:V}{g:Str × (Str × aq)}(h:qM K Hk v g):GB K (wo (upd Hk b o) b) S (bc gkv (.inr "first") v) wa ka fa sa fc kl ia y0 y1 z1 v x2 x3 ys g f2 sl its:=by
 rw [dF]
 have kp:=xm (K:=K) hb s
 have F2:=F.same (az (d:=b) s)
 exact⟨(by rw [aB,if_neg (by decide +kernel)];exact F.vw),(by rw [aB,if_neg (by decide +kernel)];exact F.vk),(by rw [aB,if_neg (by decide +kernel)];exact F.vf),(by rw [aB,if_neg (by decide +kernel)];exact F.vs),(by rw [aB,if_neg (by decide +kernel)];exact F.vc),(by rw [aB,if_pos rfl]),(by rw [aB,if_neg (by decide +kernel)];exact F.v2),(by rw [aB,if_neg (by decide +kernel)];exact F.v3),(by rw [aB,if_neg (by decide +kernel)];exact F.vi),F2.hw,F2.hk,F2.hf,F2.hs,F2.hc,F2.hl,F2.p0,F2.p1,F2.p2,h.keep kp,F2.h2,F2.h3,F2.hi,F2.py⟩
theorem GB.snd(hb:H b=some (.dK gkv))(s:aE H Hk)(F:GB K (wo H b) S gkv wa ka fa sa fc kl ia y0 y1 z1 x1 x2 x3 ys f1 f2 sl its){v:V}{g:Str × (Str × aq)}(h:qM K Hk v g):GB K (wo (upd Hk b o) b) S (bc gkv (.inr "second") v) wa ka fa sa fc kl ia y0 y1 z1 x1 v x3 ys f1 g sl its:=by
 rw [dF]
 have kp:=xm (K:=K) hb s
 have F2:=F.same (az (d:=b) s)
 exact⟨(by rw [aB,if_neg (by decide +kernel)];exact F.vw),(by rw [aB,if_neg (by decide +kernel)];exact F.vk),(by rw [aB,if_neg (by decide +kernel)];exact F.vf),(by rw [aB,if_neg (by decide +kernel)];exact F.vs),(by rw [aB,if_neg (by decide +kernel)];exact F.vc),(by rw [aB,if_neg (by decide +kernel)];exact F.v1),(by rw [aB,if_pos rfl]),(by rw [aB,if_neg (by decide +kernel)];exact F.v3),(by rw [aB,if_neg (by decide +kernel)];exact F.vi),F2.hw,F2.hk,F2.hf,F2.hs,F2.hc,F2.hl,F2.p0,F2.p1,F2.p2,F2.h1,h.keep kp,F2.h3,F2.hi,F2.py⟩
theorem GB.sea(hb:H b=some (.dK gkv))(s:aE H Hk)(F:GB K (wo H b) S gkv wa ka fa sa fc kl ia y0 y1 z1 x1 x2 x3 ys f1 f2 sl its){v:V}{g:Option (Str × aq)}(h:rX K Hk v g):GB K (wo (upd Hk b o) b) S (bc gkv (.inr "seal") v) wa ka fa sa fc kl ia y0 y1 z1 x1 x2 v ys f1 f2 g its:=by
 rw [dF]
 have kp:=xm (K:=K) hb s
 have F2:=F.same (az (d:=b) s)
 exact⟨(by rw [aB,if_neg (by decide +kernel)];exact F.vw),(by rw [aB,if_neg (by decide +kernel)];exact F.vk),(by rw [aB,if_neg (by decide +kernel)];exact F.vf),(by rw [aB,if_neg (by decide +kernel)];exact F.vs),(by rw [aB,if_neg (by decide +kernel)];exact F.vc),(by rw [aB,if_neg (by decide +kernel)];exact F.v1),(by rw [aB,if_neg (by decide +kernel)];exact F.v2),(by rw [aB,if_pos rfl]),(by rw [aB,if_neg (by decide +kernel)];exact F.vi),F2.hw,F2.hk,F2.hf,F2.hs,F2.hc,F2.hl,F2.p0,F2.p1,F2.p2,F2.h1,F2.h2,h.keep kp,F2.hi,F2.py⟩
theorem GB.itm(hb:H b=some (.dK gkv))(s:aE H Hk)(F:GB K (wo H b) S gkv wa ka fa sa fc kl ia y0 y1 z1 x1 x2 x3 ys f1 f2 sl its){a:Addr}{us:List V}{g:List It}(h:Hk a=some (.lst us))(hp:Paired (nP K Hk) us g):GB K (wo (upd Hk b o) b) S (bc gkv (.inr "items") (.ref a)) wa ka fa sa fc kl a y0 y1 z1 x1 x2 x3 us f1 f2 sl g:=by
 rw [dF]
 have kp:=xm (K:=K) hb s
 have F2:=F.same (az (d:=b) s)
 exact⟨(by rw [aB,if_neg (by decide +kernel)];exact F.vw),(by rw [aB,if_neg (by decide +kernel)];exact F.vk),(by rw [aB,if_neg (by decide +kernel)];exact F.vf),(by rw [aB,if_neg (by decide +kernel)];exact F.vs),(by rw [aB,if_neg (by decide +kernel)];exact F.vc),(by rw [aB,if_neg (by decide +kernel)];exact F.v1),(by rw [aB,if_neg (by decide +kernel)];exact F.v2),(by rw [aB,if_neg (by decide +kernel)];exact F.v3),(by rw [aB,if_pos rfl]),F2.hw,F2.hk,F2.hf,F2.hs,F2.hc,F2.hl,F2.p0,F2.p1,F2.p2,F2.h1,F2.h2,F2.h3,(by rw [fA (fun e=>by rw [e,s _ _ hb] at h;cases h)];exact h),Paired.mapP hp fun _ _ t=>t.keep kp⟩
end
def g1(S:SC):Str × (Str × aq):=(S.W 1,(S.W 4,[]))
def g2(S:SC):Str × (Str × aq):=(S.W 2,(S.W 4,[(S.T 0,hdK S)]))
def mdK(S:SC):Kd:=.pair (hdK S) (.name (S.W 2) (S.T 1))
def i0(S:SC):It:=.kind (S.T 2) (mdK S)
def i1(S:SC):It:=.kind (S.T 3) (szK S)
def i2(S:SC):It:=.fn (S.F 1) [("a",fM (S.T 2))] (szK S)
def i3(S:SC):It:=.fn (S.F 2) [] (fM (S.T 3))
def gi(S:SC):List It:=[i0 S,i1 S,i2 S,i3 S]
inductive Way (S:SC):Str × (Str × aq)->Str × (Str × aq)->Option (Str × aq)->List It->Str->Option (Str × PyData × PyData)->Prop
 |w12:Way S (g1 S) (g2 S) (some (S.W 5,[])) [i0 S,i1 S,i2 S,i3 S,.kind (S.T 4) (gg 20)] "big" none
 |w0:Way S (S.W 1,(S.W 6,[])) (g2 S) (some (S.W 5,[])) (gi S) "name" none
 |w1:Way S (g1 S) (g2 S) (some (S.W 6,[])) (gi S) "name" none
 |w2 {i:Nat}:i=1\/i=5->Way S (g1 S) (S.W 2,(S.W 4,[(S.T i,szK S)])) (some (S.W 5,[])) (gi S) "kind" none
 |w3 {i:Nat}:i=3\/i=5->Way S (g1 S) (g2 S) (some (S.W 5,[(S.T i,szK S)])) (gi S) "kind" none
 |w4 {i:Nat}:i=2\/i=3->Way S (g1 S) (g2 S) (some (S.W 5,[])) [i0 S,i1 S,i2 S,i3 S,.kind (S.T i) (szK S)] "twice" none
 |w5 {i:Nat}:i=1\/i=2->Way S (g1 S) (g2 S) (some (S.W 5,[])) [i0 S,i1 S,i2 S,i3 S,.fn (S.F i) [] (szK S)] "twice" none
 |w6:Way S (g1 S) (g2 S) (some (S.W 5,[])) [i0 S,i1 S,i2 S,i3 S,.opn (S.W 6)] "name" none
 |w7:Way S (g1 S) (g2 S) (some (S.W 5,[])) [i0 S,i1 S,i2 S,i3 S,.kind (S.T 4) (.pair (szK S) (.name (S.W 1) (S.T 5)))] "kind" none
 |w8:Way S (S.W 1,(S.W 4,[(S.T 0,.name (S.W 2) (S.T 0))])) (g2 S) (some (S.W 5,[])) (gi S) "kind" none
 |w9:Way S (g1 S) (g2 S) (some (S.W 5,[])) [i1 S,i3 S] "fit" (some (S.T 2,Kd.dat (fM (S.T 2)),.none))
 |w10:Way S (g1 S) (g2 S) (some (S.W 5,[])) [i0 S,.kind (S.T 3) (.pair (szK S) (szK S)),i2 S,i3 S] "fit" (some (S.T 3,Kd.dat (szK S),Kd.dat (.pair (szK S) (szK S))))
 |w11:Way S (g1 S) (g2 S) (some (S.W 5,[])) [i0 S,i1 S,i2 S,.fn (S.F 2) [("a",szK S)] (fM (S.T 3))] "fit" (some (S.F 2,Fn.dat ([],szK S),Fn.dat ([szK S],szK S)))
def kI(K:W.Frag)(H:Hp)(v:V):Option (Str × PyData × PyData)->Prop
 |none=>v=.non
 |some r=>∃a u f,v=.ref a/\SqT K H a [.str r.1,u,f]/\Dat K H u r.2.1/\Dat K H f r.2.2
def Dd(K:W.Frag)(S:SC)(H:Hp)(b:Addr)(Q:VK):Prop:=∀(H':Hp) (t:Addr) (gkv:List (Key × V)) (rv:V) (f1 f2:Str × (Str × aq)) (sl:Option (Str × aq)) (its:List It) (so:Str) (re:Option (Str × PyData × PyData)),aE (wo H b) (wo H' b)->H' b=some (.dK gkv)->gkv.length<=100->Way S f1 f2 sl its so re->wg K (wo H' b) S gkv f1 f2 sl its->H' t=some (.tup [.ref b,.str so,rv])->kI K H' rv re->Q (.ref t) H'
def uQ(K:W.Frag):Sp:=fun vs H Q _=>∃(i:Int) (b:Addr) (gkv:List (Key × V)) (S:SC),vs=[.int i,.ref b]/\H b=some (.dK gkv)/\gkv.length<=50/\wg K (wo H b) S gkv (g1 S) (g2 S) (some (S.W 5,[])) (gi S)/\Dd K S H b Q
abbrev ufN:List Str:=["_law_way_of","_law_bad","_law_kinds","_law_funs","_law_size","_law_items","_law_words"]
abbrev ufP:List Str:=["_law_way_of","_law_bad"]
section
variable{P:Program}{w:World}{K:W.Frag}{mg:Str->Option Value}{base:Heap}
theorem iO:aO ufN ufP (ah mf):=mkS
theorem wI{f:Addr}{fd:FuncData} (F:Fun K "_law_unfit" "_law_unfit" mf f fd):bq P w K mg base CX0 1 f fd ufP (uQ K):=by
 refine F.k0 iO fun cdv A outer s H vs Q E hr h=>?_
 obtain⟨i,b,gkv,S,rfl,hb,l50,⟨wa,ka,fa,sa,fc,kl,ia,y0,y1,z1,x1,x2,x3,ys,FG⟩,q⟩:=h
 have hu:=dY hr
 have big:∀{n:Nat},n<=999->n < sizeLine:=fun h=>Nat.lt_of_lt_of_le (Nat.lt_succ_self _) (dX (by omega))
 refine⟨_,(@ag _ _ _ _ _ (ba (i:=2) iO.nd (aJ hu (pv 1) am (fun _ _=>rfl))) (@ag _ _ _ _ _ (ba (i:=3) iO.nd (aJ hu (pv 1) am (fun _ _=>rfl))) (@ag _ _ _ _ _ (ba (i:=4) iO.nd (aJ hu (pv 1) am (fun _ _=>rfl))) (@ag _ _ _ _ _ (ba (i:=5) iO.nd (aJ hu (pv 1) am (fun _ _=>rfl)))
  (@ag _ _ _ _ _ (cg (aX dA (pv 0) ai (aZ _)) (@ag _ _ _ _ _ (ba (i:=6) iO.nd (aJ hu (pv 1) am (fun _ _=>rfl))) (@ag _ _ _ _ _ (bw hu (pv 1) am (@ap _ _ _ _ _ (@aa _ _ _ _ _ (ix0 aw (pv 6) ai) (@aa _ _ _ _ _ (@ap _ _ _ _ _ (@aa _ _ _ _ _ (ix0 aw (pv 6) ai) (@aa _ _ _ _ _ (@ap _ _ _ _ _ (@aa _ _ _ _ _ (@ap _ _ _ _ _ (@aa _ _ _ _ _ (ix0 aw (pv 2) ai) (@aa _ _ _ _ _ (@ap _ _ _ _ _ (@aa _ _ _ _ _ am (@aa _ _ _ _ _ (ix0 aw (pv 6) ai) (@aa _ _ _ _ _ (ix0 aw (pv 2) ai) ae rfl) rfl) rfl)) ae rfl) rfl)) ae rfl)) ae rfl) rfl)) ae rfl) rfl)) rfl) (@ao _ _ _ (@aS _ _ _ _ (@ap _ _ _ _ _ (@aa _ _ _ _ _ (pv 1) (@aa _ _ _ _ _ am (@aa _ _ _ _ _ cL ae rfl) rfl) rfl)))))) aU)
  (@ag _ _ _ _ _ (cg (aX dA (pv 0) ai (aZ _)) (@ag _ _ _ _ _ (bw hu (pv 1) am (bz je (cU (@aa _ _ _ _ _ (ix0 aw (pv 5) ai) ae rfl)) (nH pY (pv 5) (qb ai) pN)) rfl) (@ao _ _ _ (@aS _ _ _ _ (@ap _ _ _ _ _ (@aa _ _ _ _ _ (pv 1) (@aa _ _ _ _ _ am (@aa _ _ _ _ _ (@ap _ _ _ _ _ (@aa _ _ _ _ _ (ix0 aw (pv 2) ai) (@aa _ _ _ _ _ (@ap _ _ _ _ _ (@aa _ _ _ _ _ am (@aa _ _ _ _ _ am (@aa _ _ _ _ _ (ix0 aw (pv 2) ai) ae rfl) rfl) rfl)) (@aa _ _ _ _ _ cL ae rfl) rfl) rfl)) ae rfl) rfl) rfl))))) aU)
  (@ag _ _ _ _ _ (cg (aX dA (pv 0) ai (aZ _)) (@ag _ _ _ _ _ (bw hu (pv 1) am (bz je (cU (@aa _ _ _ _ _ (ix0 aw (pv 5) ai) (@aa _ _ _ _ _ (@ap _ _ _ _ _ (@aa _ _ _ _ _ am (@aa _ _ _ _ _ (ix0 aw (pv 2) ai) (@aa _ _ _ _ _ (@ap _ _ _ _ _ (@aa _ _ _ _ _ am (@aa _ _ _ _ _ (pv 4) (@aa _ _ _ _ _ (pv 4) ae rfl) rfl) rfl)) ae rfl) rfl) rfl)) ae rfl) rfl)) (nH pY (pv 5) (qb ai) pN)) rfl) (@ao _ _ _ (@aS _ _ _ _ (@ap _ _ _ _ _ (@aa _ _ _ _ _ (pv 1) (@aa _ _ _ _ _ am (@aa _ _ _ _ _ (@ap _ _ _ _ _ (@aa _ _ _ _ _ (ix0 aw (pv 2) ai) (@aa _ _ _ _ _ (pv 4) (@aa _ _ _ _ _ (@ap _ _ _ _ _ (@aa _ _ _ _ _ am (@aa _ _ _ _ _ (pv 4) (@aa _ _ _ _ _ (pv 4) ae rfl) rfl) rfl)) ae rfl) rfl) rfl)) ae rfl) rfl) rfl))))) aU)
  (@ag _ _ _ _ _ (bw hu (pv 1) am (bz je (nH pY (pv 5) pN (qb ai)) (cU (@aa _ _ _ _ _ (@ap _ _ _ _ _ (@aa _ _ _ _ _ am (@aa _ _ _ _ _ (ix0 aw (pv 3) ai) (@aa _ _ _ _ _ (@ap _ _ _ _ _ (@aa _ _ _ _ _ (@ap _ _ _ _ _ (@aa _ _ _ _ _ am (@aa _ _ _ _ _ (pv 4) ae rfl) rfl)) ae rfl)) (@aa _ _ _ _ _ (@ap _ _ _ _ _ (@aa _ _ _ _ _ am (@aa _ _ _ _ _ am (@aa _ _ _ _ _ (ix0 aw (pv 2) ai) ae rfl) rfl) rfl)) (@aa _ _ _ _ _ (@ap _ _ _ _ _ (@aa _ _ _ _ _ am (@aa _ _ _ _ _ ai (@aa _ _ _ _ _ (ix0 bj (pv 4) ai) ae rfl) rfl) rfl)) ae rfl) rfl) rfl) rfl) rfl)) ae rfl))) rfl) (@ao _ _ _ (@aS _ _ _ _ (@ap _ _ _ _ _ (@aa _ _ _ _ _ (pv 1) (@aa _ _ _ _ _ am (@aa _ _ _ _ _ (@ap _ _ _ _ _ (@aa _ _ _ _ _ (ix0 aw (pv 3) ai) (@aa _ _ _ _ _ (@ap _ _ _ _ _ (@aa _ _ _ _ _ (@ap _ _ _ _ _ ae) (@aa _ _ _ _ _ (pv 4) ae rfl) rfl)) (@aa _ _ _ _ _ (@ap _ _ _ _ _ (@aa _ _ _ _ _ (@ap _ _ _ _ _ (@aa _ _ _ _ _ (pv 4) ae rfl)) (@aa _ _ _ _ _ (pv 4) ae rfl) rfl)) ae rfl) rfl) rfl)) ae rfl) rfl) rfl)))))))))))),?_⟩
 obtain⟨u0,u1,u2,u3,rfl,c0,c1,c2,c3⟩:∃u0 u1 u2 u3,ys=[u0,u1,u2,u3]/\nP K (wo H b) u0 (i0 S)/\nP K (wo H b) u1 (i1 S)/\nP K (wo H b) u2 (i2 S)/\nP K (wo H b) u3 (i3 S):=by
  have:=FG.py
  cases this with
  |cons a this=>cases this with
   |cons b this=>cases this with
    |cons c this=>cases this with
     |cons d this=>cases this with
      |nil=>exact⟨_,_,_,_,rfl,a,b,c,d⟩
 refine⟨_,rfl,b,.ref ka,rfl,FG.vk▸cT.k (k:=.inr "kinds") hb,_,rfl,b,.ref fa,rfl,FG.vf▸cT.k (k:=.inr "funs") hb,_,rfl,b,.ref sa,rfl,FG.vs▸cT.k (k:=.inr "size") hb,_,rfl,b,.ref ia,rfl,FG.vi▸cT.k (k:=.inr "items") hb,?_⟩
 refine⟨_,rfl,rfl,_,rfl,dL (fun _=>?_) (fun _=>?_)⟩
 ·skip
  refine⟨_,rfl,b,.ref wa,rfl,FG.vw▸cT.k (k:=.inr "words") hb,_,rfl,wa,_,_,_,rfl,rfl,SqL.of (ak _ _ FG.hw),(show atI (txs S.W 7) 1=some (.str (S.W 1)) from rfl),_,rfl,wa,_,_,_,rfl,rfl,SqL.of (ak _ _ FG.hw),(show atI (txs S.W 7) 4=some (.str (S.W 4)) from rfl),_,rfl,ka,_,_,_,rfl,rfl,SqL.of (ak _ _ FG.hk),(show atI (txs S.T 6) 0=some (.str (S.T 0)) from rfl),_,rfl,wa,_,_,_,rfl,rfl,SqL.of (ak _ _ FG.hw),(show atI (txs S.W 7) 2=some (.str (S.W 2)) from rfl),_,rfl,ka,_,_,_,rfl,rfl,SqL.of (ak _ _ FG.hk),(show atI (txs S.T 6) 0=some (.str (S.T 0)) from rfl),(sz 3),fun p1 h1=>?_⟩
  have e1:=ad h1 (.tup [.str "name",.str (S.W 2),.str (S.T 0)])
  have s1:=e1
  refine⟨(sz 2),fun p2 h2=>?_⟩
  have e2:=ad h2 (.tup [.str (S.T 0),.ref p1])
  have s2:=s1.trans e2
  refine⟨(sz 1),fun p3 h3=>?_⟩
  have e3:=ad h3 (.tup [.ref p2])
  have s3:=s2.trans e3
  refine⟨(sz 2),fun p4 h4=>?_⟩
  have e4:=ad h4 (.tup [.str (S.W 4),.ref p3])
  have s4:=s3.trans e4
  refine⟨(sz 2),fun p5 h5=>?_⟩
  have e5:=ad h5 (.tup [.str (S.W 1),.ref p4])
  have s5:=s4.trans e5
  refine⟨_,rfl,b,_,rfl,gK.k (k:=.inr "first") (s5 _ _ hb) (big (by omega)),?_⟩
  have t4:=e5
  have t3:=e4.trans t4
  have t2:=e3.trans t3
  have t1:=e2.trans t2
  have F2:=GB.fst (o:=.dK (bc gkv (.inr "first") (.ref p5))) hb s5 FG (show qM K _ _ (S.W 1,(S.W 4,[(S.T 0,.name (S.W 2) (S.T 0))])) from⟨_,_,rfl,SqT.of ac,_,_,_,rfl,SqT.of (t4 _ _ ac),SqT.of (t3 _ _ ac),.cons ⟨_,_,rfl,SqT.of (t2 _ _ ac),.name (SqT.of (t1 _ _ ac))⟩ .nil⟩)
  have sw:=eP (b:=b) (o:=.dK (bc gkv (.inr "first") (.ref p5))) s5
  have hb2:=ie (b:=b) (o:=.dK (bc gkv (.inr "first") (.ref p5))) s5
  have l2:=aG gkv (.inr "first") (V.ref p5)
  refine⟨_,rfl,(sz 3),fun p6 h6=>?_⟩
  have e6:=ad h6 (.tup [.ref b,.str "kind",.non])
  have s6:=e6
  exact q _ _ _ _ _ _ _ _ _ _ (sw.trans (az s6)) (s6 _ _ hb2) (by omega) .w8 ⟨_,_,_,_,_,_,_,_,_,_,_,_,_,_,F2.same (az s6)⟩ ac rfl
 refine⟨_,rfl,rfl,_,rfl,dL (fun _=>?_) (fun _=>?_)⟩
 ·skip
  refine⟨_,rfl,ia,_,_,_,rfl,rfl,SqL.of (ak _ _ FG.hi),(show atI [u0,u1,u2,u3] 1=some (u1) from rfl),(sz 1),fun p1 h1=>?_⟩
  have e1:=ad h1 (.lst [u1])
  have s1:=e1
  refine⟨_,rfl,_,rfl,ia,_,rfl,SqL.of (s1 _ _ (ak _ _ FG.hi)),fun p2 h2=>?_⟩
  have e2:=ad h2 (.lst [u3])
  have s2:=s1.trans e2
  refine⟨p1,p2,_,_,rfl,rfl,(e2 _ _ ac),ac,(by show 1+1<=sizeLine;decide),fun p3 h3=>?_⟩
  have e3:=ad h3 (.lst [u1,u3])
  have s3:=s2.trans e3
  refine⟨_,rfl,b,_,rfl,gK.k (k:=.inr "items") (s3 _ _ hb) (big (by omega)),?_⟩
  have t2:=e3
  have t1:=e2.trans t2
  have F2:=GB.itm (o:=.dK (bc gkv (.inr "items") (.ref p3))) hb s3 FG (g:=[i1 S,i3 S]) ac (.cons (c1.same (ak.trans s3)) (.cons (c3.same (ak.trans s3)) .nil))
  have sw:=eP (b:=b) (o:=.dK (bc gkv (.inr "items") (.ref p3))) s3
  have hb2:=ie (b:=b) (o:=.dK (bc gkv (.inr "items") (.ref p3))) s3
  have l2:=aG gkv (.inr "items") (V.ref p3)
  refine⟨_,rfl,_,rfl,ka,_,_,_,rfl,rfl,SqL.of (ak _ _ F2.hk),(show atI (txs S.T 6) 2=some (.str (S.T 2)) from rfl),_,rfl,ka,_,_,_,rfl,rfl,SqL.of (ak _ _ F2.hk),(show atI (txs S.T 6) 2=some (.str (S.T 2)) from rfl),(sz 3),fun p4 h4=>?_⟩
  have e4:=ad h4 (.tup [.str "name",.str "",.str (S.T 2)])
  have s4:=e4
  refine⟨(sz 3),fun p5 h5=>?_⟩
  have e5:=ad h5 (.tup [.str (S.T 2),.ref p4,.non])
  have s5:=s4.trans e5
  refine⟨(sz 3),fun p6 h6=>?_⟩
  have e6:=ad h6 (.tup [.ref b,.str "fit",.ref p5])
  have s6:=s5.trans e6
  have t5:=e6
  have t4:=e5.trans t5
  exact q _ _ _ _ _ _ _ _ _ _ (sw.trans (az s6)) (s6 _ _ hb2) (by omega) .w9 ⟨_,_,_,_,_,_,_,_,_,_,_,_,_,_,F2.same (az s6)⟩ ac ⟨_,_,_,rfl,SqT.of (t5 _ _ ac),dq (.name (SqT.of (t4 _ _ ac))),.non⟩
 refine⟨_,rfl,rfl,_,rfl,dL (fun _=>?_) (fun _=>?_)⟩
 ·skip
  refine⟨_,rfl,ia,_,_,_,rfl,rfl,SqL.of (ak _ _ FG.hi),(show atI [u0,u1,u2,u3] 0=some (u0) from rfl),_,rfl,ka,_,_,_,rfl,rfl,SqL.of (ak _ _ FG.hk),(show atI (txs S.T 6) 3=some (.str (S.T 3)) from rfl),_,rfl,_,rfl,(sz 3),fun p1 h1=>?_⟩
  have e1:=ad h1 (.tup [.str "pair",.ref sa,.ref sa])
  have s1:=e1
  refine⟨(sz 3),fun p2 h2=>?_⟩
  have e2:=ad h2 (.tup [.str "kind",.str (S.T 3),.ref p1])
  have s2:=s1.trans e2
  refine⟨(sz 2),fun p3 h3=>?_⟩
  have e3:=ad h3 (.lst [u0,.ref p2])
  have s3:=s2.trans e3
  refine⟨_,rfl,_,rfl,ia,_,rfl,SqL.of (s3 _ _ (ak _ _ FG.hi)),fun p4 h4=>?_⟩
  have e4:=ad h4 (.lst [u2,u3])
  have s4:=s3.trans e4
  refine⟨p3,p4,_,_,rfl,rfl,(e4 _ _ ac),ac,(by show 2+2<=sizeLine;decide),fun p5 h5=>?_⟩
  have e5:=ad h5 (.lst [u0,.ref p2,u2,u3])
  have s5:=s4.trans e5
  refine⟨_,rfl,b,_,rfl,gK.k (k:=.inr "items") (s5 _ _ hb) (big (by omega)),?_⟩
  have t4:=e5
  have t3:=e4.trans t4
  have t2:=e3.trans t3
  have t1:=e2.trans t2
  have F2:=GB.itm (o:=.dK (bc gkv (.inr "items") (.ref p5))) hb s5 FG (g:=[i0 S,.kind (S.T 3) (.pair (szK S) (szK S)),i2 S,i3 S]) ac (.cons (c0.same (ak.trans s5)) (.cons ⟨_,_,rfl,SqT.of (t2 _ _ ac),.pair (SqT.of (t1 _ _ ac)) (.num (SqT.of ((ak.trans s5) _ _ FG.hs))) (.num (SqT.of ((ak.trans s5) _ _ FG.hs)))⟩ (.cons (c2.same (ak.trans s5)) (.cons (c3.same (ak.trans s5)) .nil))))
  have sw:=eP (b:=b) (o:=.dK (bc gkv (.inr "items") (.ref p5))) s5
  have hb2:=ie (b:=b) (o:=.dK (bc gkv (.inr "items") (.ref p5))) s5
  have l2:=aG gkv (.inr "items") (V.ref p5)
  refine⟨_,rfl,_,rfl,ka,_,_,_,rfl,rfl,SqL.of (ak _ _ F2.hk),(show atI (txs S.T 6) 3=some (.str (S.T 3)) from rfl),_,rfl,_,rfl,_,rfl,(sz 3),fun p6 h6=>?_⟩
  have e6:=ad h6 (.tup [.str "pair",.ref sa,.ref sa])
  have s6:=e6
  refine⟨(sz 3),fun p7 h7=>?_⟩
  have e7:=ad h7 (.tup [.str (S.T 3),.ref sa,.ref p6])
  have s7:=s6.trans e7
  refine⟨(sz 3),fun p8 h8=>?_⟩
  have e8:=ad h8 (.tup [.ref b,.str "fit",.ref p7])
  have s8:=s7.trans e8
  have t7:=e8
  have t6:=e7.trans t7
  exact q _ _ _ _ _ _ _ _ _ _ (sw.trans (az s8)) (s8 _ _ hb2) (by omega) .w10 ⟨_,_,_,_,_,_,_,_,_,_,_,_,_,_,F2.same (az s8)⟩ ac ⟨_,_,_,rfl,SqT.of (t7 _ _ ac),dq (.num (SqT.of ((ak.trans s8) _ _ F2.hs))),dq (.pair (SqT.of (t6 _ _ ac)) (.num (SqT.of ((ak.trans s8) _ _ F2.hs))) (.num (SqT.of ((ak.trans s8) _ _ F2.hs))))⟩
 refine⟨_,rfl,_,rfl,ia,_,rfl,SqL.of (ak _ _ FG.hi),fun p1 h1=>?_⟩
 have e1:=ad h1 (.lst [u0,u1,u2])
 have s1:=e1
 refine⟨_,rfl,fa,_,_,_,rfl,rfl,SqL.of (s1 _ _ (ak _ _ FG.hf)),(show atI (txs S.F 4) 2=some (.str (S.F 2)) from rfl),_,rfl,(sz 2),fun p2 h2=>?_⟩
 have e2:=ad h2 (.tup [.str "a",.ref sa])
 have s2:=s1.trans e2
 refine⟨(sz 1),fun p3 h3=>?_⟩
 have e3:=ad h3 (.tup [.ref p2])
 have s3:=s2.trans e3
 refine⟨_,rfl,ka,_,_,_,rfl,rfl,SqL.of (s3 _ _ (ak _ _ FG.hk)),(show atI (txs S.T 6) 3=some (.str (S.T 3)) from rfl),(sz 3),fun p4 h4=>?_⟩
 have e4:=ad h4 (.tup [.str "name",.str "",.str (S.T 3)])
 have s4:=s3.trans e4
 refine⟨_,rfl,sa,_,_,_,rfl,rfl,SqT.of (s4 _ _ (ak _ _ FG.hs)),(show atI [V.str "num",.int S.n] 1=some (.int S.n) from rfl),(sz 3),fun p5 h5=>?_⟩
 have e5:=ad h5 (.tup [.str "lit",.int 0,.int S.n])
 have s5:=s4.trans e5
 refine⟨(sz 5),fun p6 h6=>?_⟩
 have e6:=ad h6 (.tup [.str "fun",.str (S.F 2),.ref p3,.ref p4,.ref p5])
 have s6:=s5.trans e6
 refine⟨(sz 1),fun p7 h7=>?_⟩
 have e7:=ad h7 (.lst [.ref p6])
 have s7:=s6.trans e7
 refine⟨p1,p7,_,_,rfl,rfl,((e2.trans (e3.trans (e4.trans (e5.trans (e6.trans e7))))) _ _ ac),ac,(by show 3+1<=sizeLine;decide),fun p8 h8=>?_⟩
 have e8:=ad h8 (.lst [u0,u1,u2,.ref p6])
 have s8:=s7.trans e8
 refine⟨_,rfl,b,_,rfl,gK.k (k:=.inr "items") (s8 _ _ hb) (big (by omega)),?_⟩
 have t7:=e8
 have t6:=e7.trans t7
 have t5:=e6.trans t6
 have t4:=e5.trans t5
 have t3:=e4.trans t4
 have t2:=e3.trans t3
 have t1:=e2.trans t2
 have F2:=GB.itm (o:=.dK (bc gkv (.inr "items") (.ref p8))) hb s8 FG (g:=[i0 S,i1 S,i2 S,.fn (S.F 2) [("a",szK S)] (fM (S.T 3))]) ac (.cons (c0.same (ak.trans s8)) (.cons (c1.same (ak.trans s8)) (.cons (c2.same (ak.trans s8)) (.cons ⟨_,_,_,_,_,rfl,SqT.of (t6 _ _ ac),SqT.of (t3 _ _ ac),.cons ⟨_,_,rfl,SqT.of (t2 _ _ ac),.num (SqT.of ((ak.trans s8) _ _ FG.hs))⟩ .nil,.name (SqT.of (t4 _ _ ac))⟩ .nil))))
 have sw:=eP (b:=b) (o:=.dK (bc gkv (.inr "items") (.ref p8))) s8
 have hb2:=ie (b:=b) (o:=.dK (bc gkv (.inr "items") (.ref p8))) s8
 have l2:=aG gkv (.inr "items") (V.ref p8)
 refine⟨_,rfl,_,rfl,fa,_,_,_,rfl,rfl,SqL.of (ak _ _ F2.hf),(show atI (txs S.F 4) 2=some (.str (S.F 2)) from rfl),(sz 0),fun p9 h9=>?_⟩
 have e9:=ad h9 (.tup [])
 have s9:=e9
 refine⟨_,rfl,(sz 2),fun p10 h10=>?_⟩
 have e10:=ad h10 (.tup [.ref p9,.ref sa])
 have s10:=s9.trans e10
 refine⟨_,rfl,(sz 1),fun p11 h11=>?_⟩
 have e11:=ad h11 (.tup [.ref sa])
 have s11:=s10.trans e11
 refine⟨_,rfl,(sz 2),fun p12 h12=>?_⟩
 have e12:=ad h12 (.tup [.ref p11,.ref sa])
 have s12:=s11.trans e12
 refine⟨(sz 3),fun p13 h13=>?_⟩
 have e13:=ad h13 (.tup [.str (S.F 2),.ref p10,.ref p12])
 have s13:=s12.trans e13
 refine⟨(sz 3),fun p14 h14=>?_⟩
 have e14:=ad h14 (.tup [.ref b,.str "fit",.ref p13])
 have s14:=s13.trans e14
 have t13:=e14
 have t12:=e13.trans t13
 have t11:=e12.trans t12
 have t10:=e11.trans t11
 have t9:=e10.trans t10
 exact q _ _ _ _ _ _ _ _ _ _ (sw.trans (az s14)) (s14 _ _ hb2) (by omega) .w11 ⟨_,_,_,_,_,_,_,_,_,_,_,_,_,_,F2.same (az s14)⟩ ac ⟨_,_,_,rfl,SqT.of (t13 _ _ ac),ji (f:=([],szK S)) ⟨_,_,_,_,rfl,SqT.of (t10 _ _ ac),SqT.of (t9 _ _ ac),.nil,(cc.num (SqT.of ((ak.trans s14) _ _ F2.hs)))⟩,ji (f:=([szK S],szK S)) ⟨_,_,_,_,rfl,SqT.of (t12 _ _ ac),SqT.of (t11 _ _ ac),.cons (cc.num (SqT.of ((ak.trans s14) _ _ F2.hs))) .nil,(cc.num (SqT.of ((ak.trans s14) _ _ F2.hs)))⟩⟩
def vK(K:W.Frag):Sp:=fun vs H Q _=>∃(c:Int) (g:Addr) (gkv:List (Key × V)) (S:SC) (sl:Option (Str × aq)),vs=[.int c,.ref g]/\H g=some (.dK gkv)/\gkv.length<=20/\wg K H S gkv (g1 S) (g2 S) sl (gi S) /\
 ∀(H':Hp) (t b:Addr) (rv:V) (f1 f2:Str × (Str × aq)) (sl:Option (Str × aq)) (its:List It) (so:Str) (re:Option (Str × PyData × PyData)),aE H H'->Way S f1 f2 sl its so re->jr K H' b S f1 f2 sl its->H' t=some (.tup [.ref b,.str so,rv])->kI K H' rv re->Q (.ref t) H'
abbrev wgN:List Str:=["_law_cell_here","_law_got","_law_bad","_law_words","_law_kinds","_law_items","_law_lost","_law_way_of"]
abbrev wgP:List Str:=["_law_cell_here","_law_got"]
theorem gQ:aO wgN wgP (ah jf):=mkS
theorem wN{f fg fu:Addr}{fd fdg fdu:FuncData} (F:Fun K "_law_wrong" "_law_wrong" jf f fd)
  (GG:bq P w K mg base CX0 1 fg fdg ["_law_count"] (uS K)) (bG:aV K fdg ["_law_count"] []) (kG:W.keepIn K (.ref fg)=true) (mG:mg "_law_great"=some (.ref fg))
  (GU:bq P w K mg base CX0 1 fu fdu ufP (uQ K)) (bU:aV K fdu ufP []) (kU:W.keepIn K (.ref fu)=true) (mU:mg "_law_unfit"=some (.ref fu)) (md:mg "dict"=none) :
  bq P w K mg base CX0 2 f fd wgP (vK K):=by
 refine F.k0 gQ fun cdv A outer s H vs Q E hr h=>?_
 obtain⟨c,g,gkv,S,sl,rfl,hg0,l20,⟨wa,ka,fa,sa,fc,kl,ia,y0,y1,z1,x1,x2,x3,ys,F0⟩,q⟩:=h
 have hu:=dY hr
 have hr1:cG 1 _:=hr.mono (by decide)
 have big:∀{n:Nat},n<=999->n < sizeLine:=fun h=>Nat.lt_of_lt_of_le (Nat.lt_succ_self _) (dX (by omega))
 obtain⟨u0,u1,u2,u3,rfl,d0,d1,d2,d3⟩:∃u0 u1 u2 u3,ys=[u0,u1,u2,u3]/\nP K H u0 (i0 S)/\nP K H u1 (i1 S)/\nP K H u2 (i2 S)/\nP K H u3 (i3 S):=by
  have:=F0.py
  cases this with
  |cons a this=>cases this with
   |cons b this=>cases this with
    |cons c this=>cases this with
     |cons d this=>cases this with
      |nil=>exact⟨_,_,_,_,rfl,a,b,c,d⟩
 have two:c / 12%2=0\/c / 12%2=1:=by omega
 obtain⟨j2,hj2,ha2⟩:∃j,(j=1\/j=5)/\atI (txs S.T 6) (c / 12%2*4+1)=some (.str (S.T j)):=by
  rcases two with e|e<;>rw [e]
  ·exact⟨1,.inl rfl,rfl⟩
  ·exact⟨5,.inr rfl,rfl⟩
 obtain⟨j3,hj3,ha3⟩:∃j,(j=3\/j=5)/\atI (txs S.T 6) (c / 12%2*2+3)=some (.str (S.T j)):=by
  rcases two with e|e<;>rw [e]
  ·exact⟨3,.inl rfl,rfl⟩
  ·exact⟨5,.inr rfl,rfl⟩
 obtain⟨j4,hj4,ha4⟩:∃j,(j=2\/j=3)/\atI (txs S.T 6) (2+c / 12%2)=some (.str (S.T j)):=by
  rcases two with e|e<;>rw [e]
  ·exact⟨2,.inl rfl,rfl⟩
  ·exact⟨3,.inr rfl,rfl⟩
 obtain⟨j5,hj5,ha5⟩:∃j,(j=1\/j=2)/\atI (txs S.F 4) (1+c / 12%2)=some (.str (S.F j)):=by
  rcases two with e|e<;>rw [e]
  ·exact⟨1,.inl rfl,rfl⟩
  ·exact⟨2,.inr rfl,rfl⟩
 obtain⟨t7,d7,k7⟩:∃t,PSs (ee CX0 P w K mg base wgN "_law_wrong" (ah jf) f cdv A outer s H E).nox (List.drop 7 (ar jf)) t/\∀(H1:Hp) (b lo:Addr) (gkv1:List (Key × V)) (x3:V),aE H (wo H1 b)->H1 b=some (.dK gkv1)->gkv1.length<=50->H1 lo=some (.tup [.str "name",.str (S.W 1),.str (S.T 5)])->GB K (wo H1 b) S gkv1 wa ka fa sa fc kl ia y0 y1 z1 x1 x2 x3 [u0,u1,u2,u3] (g1 S) (g2 S) (some (S.W 5,[])) (gi S) ->
   t { nx:=fun _ H'=>Q .non H',rt:=Q } [some (.int c),some (.ref g),some (.ref b),some (.ref wa),some (.ref ka),some (.ref ia),some (.ref lo),some (.int (c%13))] H1:=by
  refine⟨_,(@ag _ _ _ _ _ (cg (aX dA (pv 7) ai (aZ _)) (@ag _ _ _ _ _ (bw hu (pv 2) am (bz je (pv 5) (cU (@aa _ _ _ _ _ (@ap _ _ _ _ _ (@aa _ _ _ _ _ am (@aa _ _ _ _ _ (ix0 aw (pv 4) ai) (@aa _ _ _ _ _ (aD GG hr1 rfl mG kG bG .nil bx (@aa _ _ _ _ _ ai ae rfl)) ae rfl) rfl) rfl)) ae rfl))) rfl) (@ao _ _ _ (@aS _ _ _ _ (@ap _ _ _ _ _ (@aa _ _ _ _ _ (pv 2) (@aa _ _ _ _ _ am (@aa _ _ _ _ _ cL ae rfl) rfl) rfl))))) aU)
   (@ag _ _ _ _ _ (cg (aX dA (pv 7) ai (aZ _)) (@ag _ _ _ _ _ (bw hu (pv 2) am (@ap _ _ _ _ _ (@aa _ _ _ _ _ (ix0 aw (pv 3) ai) (@aa _ _ _ _ _ (@ap _ _ _ _ _ (@aa _ _ _ _ _ (ix0 aw (pv 3) ai) (@aa _ _ _ _ _ (@ap _ _ _ _ _ ae) ae rfl) rfl)) ae rfl) rfl)) rfl) (@ao _ _ _ (@aS _ _ _ _ (@ap _ _ _ _ _ (@aa _ _ _ _ _ (pv 2) (@aa _ _ _ _ _ am (@aa _ _ _ _ _ cL ae rfl) rfl) rfl))))) aU)
   (@ag _ _ _ _ _ (cg (aX dA (pv 7) ai (aZ _)) (@ag _ _ _ _ _ (bw hu (pv 2) am (@ap _ _ _ _ _ (@aa _ _ _ _ _ (ix0 aw (pv 3) ai) (@aa _ _ _ _ _ (@ap _ _ _ _ _ ae) ae rfl) rfl)) rfl) (@ao _ _ _ (@aS _ _ _ _ (@ap _ _ _ _ _ (@aa _ _ _ _ _ (pv 2) (@aa _ _ _ _ _ am (@aa _ _ _ _ _ cL ae rfl) rfl) rfl))))) aU)
   (@ag _ _ _ _ _ (cg (aX dA (pv 7) ai (aZ _)) (@ag _ _ _ _ _ (bw hu (pv 2) am (@ap _ _ _ _ _ (@aa _ _ _ _ _ (ix0 aw (pv 3) ai) (@aa _ _ _ _ _ (@ap _ _ _ _ _ (@aa _ _ _ _ _ (ix0 aw (pv 3) ai) (@aa _ _ _ _ _ (@ap _ _ _ _ _ (@aa _ _ _ _ _ (@ap _ _ _ _ _ (@aa _ _ _ _ _ (ix0 aw (pv 4) (bz fV (bz jp (bz d9 (bz gt (pv 0) ai) ai) ai) ai)) (@aa _ _ _ _ _ (aJ hu (pv 1) am (fun _ _=>rfl)) ae rfl) rfl)) ae rfl)) ae rfl) rfl)) ae rfl) rfl)) rfl) (@ao _ _ _ (@aS _ _ _ _ (@ap _ _ _ _ _ (@aa _ _ _ _ _ (pv 2) (@aa _ _ _ _ _ am (@aa _ _ _ _ _ cL ae rfl) rfl) rfl))))) aU)
   (@ag _ _ _ _ _ (cg (aX dA (pv 7) ai (aZ _)) (@ag _ _ _ _ _ (bw hu (pv 2) am (@ap _ _ _ _ _ (@aa _ _ _ _ _ (ix0 aw (pv 3) ai) (@aa _ _ _ _ _ (@ap _ _ _ _ _ (@aa _ _ _ _ _ (@ap _ _ _ _ _ (@aa _ _ _ _ _ (ix0 aw (pv 4) (bz fV (bz jp (bz d9 (bz gt (pv 0) ai) ai) ai) ai)) (@aa _ _ _ _ _ (aJ hu (pv 1) am (fun _ _=>rfl)) ae rfl) rfl)) ae rfl)) ae rfl) rfl)) rfl) (@ao _ _ _ (@aS _ _ _ _ (@ap _ _ _ _ _ (@aa _ _ _ _ _ (pv 2) (@aa _ _ _ _ _ am (@aa _ _ _ _ _ cL ae rfl) rfl) rfl))))) aU)
   (@ag _ _ _ _ _ (cg (aX dA (pv 7) ai (aZ _)) (@ag _ _ _ _ _ (bw hu (pv 2) am (bz je (pv 5) (cU (@aa _ _ _ _ _ (@ap _ _ _ _ _ (@aa _ _ _ _ _ am (@aa _ _ _ _ _ (ix0 aw (pv 4) (bz fV ai (bz d9 (bz gt (pv 0) ai) ai))) (@aa _ _ _ _ _ (aJ hu (pv 1) am (fun _ _=>rfl)) ae rfl) rfl) rfl)) ae rfl))) rfl) (@ao _ _ _ (@aS _ _ _ _ (@ap _ _ _ _ _ (@aa _ _ _ _ _ (pv 2) (@aa _ _ _ _ _ am (@aa _ _ _ _ _ cL ae rfl) rfl) rfl))))) aU)
   (@ag _ _ _ _ _ (cg (aX dA (pv 7) ai (aZ _)) (@ag _ _ _ _ _ (bw hu (pv 2) am (bz je (pv 5) (cU (@aa _ _ _ _ _ (@ap _ _ _ _ _ (@aa _ _ _ _ _ am (@aa _ _ _ _ _ (ix0 aw (aJ hu (pv 1) am (fun _ _=>rfl)) (bz fV ai (bz d9 (bz gt (pv 0) ai) ai))) (@aa _ _ _ _ _ (@ap _ _ _ _ _ ae) (@aa _ _ _ _ _ (aJ hu (pv 1) am (fun _ _=>rfl)) (@aa _ _ _ _ _ (@ap _ _ _ _ _ (@aa _ _ _ _ _ am (@aa _ _ _ _ _ ai (@aa _ _ _ _ _ ai ae rfl) rfl) rfl)) ae rfl) rfl) rfl) rfl) rfl)) ae rfl))) rfl) (@ao _ _ _ (@aS _ _ _ _ (@ap _ _ _ _ _ (@aa _ _ _ _ _ (pv 2) (@aa _ _ _ _ _ am (@aa _ _ _ _ _ cL ae rfl) rfl) rfl))))) aU)
   (@ag _ _ _ _ _ (cg (aX dA (pv 7) ai (aZ _)) (@ag _ _ _ _ _ (bw hu (pv 2) am (bz je (pv 5) (cU (@aa _ _ _ _ _ (@ap _ _ _ _ _ (@aa _ _ _ _ _ am (@aa _ _ _ _ _ (ix0 aw (pv 3) ai) ae rfl) rfl)) ae rfl))) rfl) (@ao _ _ _ (@aS _ _ _ _ (@ap _ _ _ _ _ (@aa _ _ _ _ _ (pv 2) (@aa _ _ _ _ _ am (@aa _ _ _ _ _ cL ae rfl) rfl) rfl))))) aU)
   (@ag _ _ _ _ _ (cg (aX dA (pv 7) ai (aZ _)) (@ag _ _ _ _ _ (bw hu (pv 2) am (bz je (pv 5) (cU (@aa _ _ _ _ _ (@ap _ _ _ _ _ (@aa _ _ _ _ _ am (@aa _ _ _ _ _ (ix0 aw (pv 4) ai) (@aa _ _ _ _ _ (@ap _ _ _ _ _ (@aa _ _ _ _ _ am (@aa _ _ _ _ _ (aJ hu (pv 1) am (fun _ _=>rfl)) (@aa _ _ _ _ _ (pv 6) ae rfl) rfl) rfl)) ae rfl) rfl) rfl)) ae rfl))) rfl) (@ao _ _ _ (@aS _ _ _ _ (@ap _ _ _ _ _ (@aa _ _ _ _ _ (pv 2) (@aa _ _ _ _ _ am (@aa _ _ _ _ _ cL ae rfl) rfl) rfl))))) aU)
   (@ao _ _ _ (@aS _ _ _ _ (aD GU hr1 rfl mU kU bU .nil bx (@aa _ _ _ _ _ (pv 7) (@aa _ _ _ _ _ (pv 2) ae rfl) rfl))))))))))))),?_⟩
  intro H1 b lo gkv1 x3 s1 hb l50 hlo FG
  have q':Dd K S H1 b Q:=fun H' t gkv' rv f1 f2 sl its so re sw hb' _ way got ht hre=>q _ _ _ _ _ _ _ _ _ _ (s1.trans (sw.trans ak)) way ⟨_,hb',got.same ak⟩ ht hre
  have hg:=ak _ _ (s1 _ _ hg0)
  have c0:=d0.same s1
  have c1:=d1.same s1
  have c2:=d2.same s1
  have c3:=d3.same s1
  refine⟨_,rfl,rfl,_,rfl,dL (fun _=>?_) (fun _=>?_)⟩
  ·skip
   refine⟨_,rfl,_,rfl,ka,_,_,_,rfl,rfl,SqL.of (ak _ _ FG.hk),(show atI (txs S.T 6) 4=some (.str (S.T 4)) from rfl),20,rfl,by decide,fun G1 vg e1 hvg=>?_⟩
   have s1:=e1
   refine⟨(sz 3),fun p2 h2=>?_⟩
   have e2:=ad h2 (.tup [.str "kind",.str (S.T 4),vg])
   have s2:=s1.trans e2
   refine⟨(sz 1),fun p3 h3=>?_⟩
   have e3:=ad h3 (.lst [.ref p2])
   have s3:=s2.trans e3
   refine⟨ia,p3,_,_,rfl,rfl,(s3 _ _ (ak _ _ FG.hi)),ac,(by show 4+1<=sizeLine;decide),fun p4 h4=>?_⟩
   have e4:=ad h4 (.lst [u0,u1,u2,u3,.ref p2])
   have s4:=s3.trans e4
   refine⟨_,rfl,b,_,rfl,gK.k (k:=.inr "items") (s4 _ _ hb) (big (by omega)),?_⟩
   have t3:=e4
   have t2:=e3.trans t3
   have t1:=e2.trans t2
   have F2:=GB.itm (o:=.dK (bc gkv1 (.inr "items") (.ref p4))) hb s4 FG (g:=[i0 S,i1 S,i2 S,i3 S,.kind (S.T 4) (gg 20)]) ac (.cons (c0.same (ak.trans s4)) (.cons (c1.same (ak.trans s4)) (.cons (c2.same (ak.trans s4)) (.cons (c3.same (ak.trans s4)) (.cons ⟨_,_,rfl,SqT.of (t2 _ _ ac),hvg.same t1⟩ .nil)))))
   have sw:=eP (b:=b) (o:=.dK (bc gkv1 (.inr "items") (.ref p4))) s4
   have hb2:=ie (b:=b) (o:=.dK (bc gkv1 (.inr "items") (.ref p4))) s4
   have l2:=aG gkv1 (.inr "items") (V.ref p4)
   refine⟨_,rfl,(sz 3),fun p5 h5=>?_⟩
   have e5:=ad h5 (.tup [.ref b,.str "big",.non])
   have s5:=e5
   exact q' _ _ _ _ _ _ _ _ _ _ (sw.trans (az s5)) (s5 _ _ hb2) (by omega) .w12 ⟨_,_,_,_,_,_,_,_,_,_,_,_,_,_,F2.same (az s5)⟩ ac rfl
  refine⟨_,rfl,rfl,_,rfl,dL (fun _=>?_) (fun _=>?_)⟩
  ·skip
   refine⟨_,rfl,wa,_,_,_,rfl,rfl,SqL.of (ak _ _ FG.hw),(show atI (txs S.W 7) 1=some (.str (S.W 1)) from rfl),_,rfl,wa,_,_,_,rfl,rfl,SqL.of (ak _ _ FG.hw),(show atI (txs S.W 7) 6=some (.str (S.W 6)) from rfl),(sz 0),fun p1 h1=>?_⟩
   have e1:=ad h1 (.tup [])
   have s1:=e1
   refine⟨(sz 2),fun p2 h2=>?_⟩
   have e2:=ad h2 (.tup [.str (S.W 6),.ref p1])
   have s2:=s1.trans e2
   refine⟨(sz 2),fun p3 h3=>?_⟩
   have e3:=ad h3 (.tup [.str (S.W 1),.ref p2])
   have s3:=s2.trans e3
   refine⟨_,rfl,b,_,rfl,gK.k (k:=.inr "first") (s3 _ _ hb) (big (by omega)),?_⟩
   have t2:=e3
   have t1:=e2.trans t2
   have F2:=GB.fst (o:=.dK (bc gkv1 (.inr "first") (.ref p3))) hb s3 FG (show qM K _ _ (S.W 1,(S.W 6,[])) from⟨_,_,rfl,SqT.of ac,_,_,_,rfl,SqT.of (t2 _ _ ac),SqT.of (t1 _ _ ac),.nil⟩)
   have sw:=eP (b:=b) (o:=.dK (bc gkv1 (.inr "first") (.ref p3))) s3
   have hb2:=ie (b:=b) (o:=.dK (bc gkv1 (.inr "first") (.ref p3))) s3
   have l2:=aG gkv1 (.inr "first") (V.ref p3)
   refine⟨_,rfl,(sz 3),fun p4 h4=>?_⟩
   have e4:=ad h4 (.tup [.ref b,.str "name",.non])
   have s4:=e4
   exact q' _ _ _ _ _ _ _ _ _ _ (sw.trans (az s4)) (s4 _ _ hb2) (by omega) .w0 ⟨_,_,_,_,_,_,_,_,_,_,_,_,_,_,F2.same (az s4)⟩ ac rfl
  refine⟨_,rfl,rfl,_,rfl,dL (fun _=>?_) (fun _=>?_)⟩
  ·skip
   refine⟨_,rfl,wa,_,_,_,rfl,rfl,SqL.of (ak _ _ FG.hw),(show atI (txs S.W 7) 6=some (.str (S.W 6)) from rfl),(sz 0),fun p1 h1=>?_⟩
   have e1:=ad h1 (.tup [])
   have s1:=e1
   refine⟨(sz 2),fun p2 h2=>?_⟩
   have e2:=ad h2 (.tup [.str (S.W 6),.ref p1])
   have s2:=s1.trans e2
   refine⟨_,rfl,b,_,rfl,gK.k (k:=.inr "seal") (s2 _ _ hb) (big (by omega)),?_⟩
   have t1:=e2
   have F2:=GB.sea (o:=.dK (bc gkv1 (.inr "seal") (.ref p2))) hb s2 FG (show rX K _ _ (some (S.W 6,[])) from⟨_,_,_,rfl,SqT.of ac,SqT.of (t1 _ _ ac),.nil⟩)
   have sw:=eP (b:=b) (o:=.dK (bc gkv1 (.inr "seal") (.ref p2))) s2
   have hb2:=ie (b:=b) (o:=.dK (bc gkv1 (.inr "seal") (.ref p2))) s2
   have l2:=aG gkv1 (.inr "seal") (V.ref p2)
   refine⟨_,rfl,(sz 3),fun p3 h3=>?_⟩
   have e3:=ad h3 (.tup [.ref b,.str "name",.non])
   have s3:=e3
   exact q' _ _ _ _ _ _ _ _ _ _ (sw.trans (az s3)) (s3 _ _ hb2) (by omega) .w1 ⟨_,_,_,_,_,_,_,_,_,_,_,_,_,_,F2.same (az s3)⟩ ac rfl
  refine⟨_,rfl,rfl,_,rfl,dL (fun _=>?_) (fun _=>?_)⟩
  ·skip
   refine⟨_,rfl,wa,_,_,_,rfl,rfl,SqL.of (ak _ _ FG.hw),(show atI (txs S.W 7) 2=some (.str (S.W 2)) from rfl),_,rfl,wa,_,_,_,rfl,rfl,SqL.of (ak _ _ FG.hw),(show atI (txs S.W 7) 4=some (.str (S.W 4)) from rfl),_,rfl,_,rfl,_,_,rfl,rfl,⟨by decide,by decide⟩,_,_,rfl,rfl,(by show(0:Int) < 2;decide),_,_,rfl,rfl,.inr ⟨by decide,by decide⟩,_,_,rfl,rfl,ka,_,_,_,rfl,rfl,SqL.of (ak _ _ FG.hk),ha2,_,rfl,g,.ref sa,rfl,F0.vs▸cT.k (k:=.inr "size") hg,(sz 2),fun p1 h1=>?_⟩
   have e1:=ad h1 (.tup [.str (S.T j2),.ref sa])
   have s1:=e1
   refine⟨(sz 1),fun p2 h2=>?_⟩
   have e2:=ad h2 (.tup [.ref p1])
   have s2:=s1.trans e2
   refine⟨(sz 2),fun p3 h3=>?_⟩
   have e3:=ad h3 (.tup [.str (S.W 4),.ref p2])
   have s3:=s2.trans e3
   refine⟨(sz 2),fun p4 h4=>?_⟩
   have e4:=ad h4 (.tup [.str (S.W 2),.ref p3])
   have s4:=s3.trans e4
   refine⟨_,rfl,b,_,rfl,gK.k (k:=.inr "second") (s4 _ _ hb) (big (by omega)),?_⟩
   have t3:=e4
   have t2:=e3.trans t3
   have t1:=e2.trans t2
   have F2:=GB.snd (o:=.dK (bc gkv1 (.inr "second") (.ref p4))) hb s4 FG (show qM K _ _ (S.W 2,(S.W 4,[(S.T j2,szK S)])) from⟨_,_,rfl,SqT.of ac,_,_,_,rfl,SqT.of (t3 _ _ ac),SqT.of (t2 _ _ ac),.cons ⟨_,_,rfl,SqT.of (t1 _ _ ac),(.num (SqT.of ((ak.trans s4) _ _ FG.hs)))⟩ .nil⟩)
   have sw:=eP (b:=b) (o:=.dK (bc gkv1 (.inr "second") (.ref p4))) s4
   have hb2:=ie (b:=b) (o:=.dK (bc gkv1 (.inr "second") (.ref p4))) s4
   have l2:=aG gkv1 (.inr "second") (V.ref p4)
   refine⟨_,rfl,(sz 3),fun p5 h5=>?_⟩
   have e5:=ad h5 (.tup [.ref b,.str "kind",.non])
   have s5:=e5
   exact q' _ _ _ _ _ _ _ _ _ _ (sw.trans (az s5)) (s5 _ _ hb2) (by omega) (.w2 hj2) ⟨_,_,_,_,_,_,_,_,_,_,_,_,_,_,F2.same (az s5)⟩ ac rfl
  refine⟨_,rfl,rfl,_,rfl,dL (fun _=>?_) (fun _=>?_)⟩
  ·skip
   refine⟨_,rfl,wa,_,_,_,rfl,rfl,SqL.of (ak _ _ FG.hw),(show atI (txs S.W 7) 5=some (.str (S.W 5)) from rfl),_,rfl,_,rfl,_,_,rfl,rfl,⟨by decide,by decide⟩,_,_,rfl,rfl,(by show(0:Int) < 2;decide),_,_,rfl,rfl,.inr ⟨by decide,by decide⟩,_,_,rfl,rfl,ka,_,_,_,rfl,rfl,SqL.of (ak _ _ FG.hk),ha3,_,rfl,g,.ref sa,rfl,F0.vs▸cT.k (k:=.inr "size") hg,(sz 2),fun p1 h1=>?_⟩
   have e1:=ad h1 (.tup [.str (S.T j3),.ref sa])
   have s1:=e1
   refine⟨(sz 1),fun p2 h2=>?_⟩
   have e2:=ad h2 (.tup [.ref p1])
   have s2:=s1.trans e2
   refine⟨(sz 2),fun p3 h3=>?_⟩
   have e3:=ad h3 (.tup [.str (S.W 5),.ref p2])
   have s3:=s2.trans e3
   refine⟨_,rfl,b,_,rfl,gK.k (k:=.inr "seal") (s3 _ _ hb) (big (by omega)),?_⟩
   have t2:=e3
   have t1:=e2.trans t2
   have F2:=GB.sea (o:=.dK (bc gkv1 (.inr "seal") (.ref p3))) hb s3 FG (show rX K _ _ (some (S.W 5,[(S.T j3,szK S)])) from⟨_,_,_,rfl,SqT.of ac,SqT.of (t2 _ _ ac),.cons ⟨_,_,rfl,SqT.of (t1 _ _ ac),(.num (SqT.of ((ak.trans s3) _ _ FG.hs)))⟩ .nil⟩)
   have sw:=eP (b:=b) (o:=.dK (bc gkv1 (.inr "seal") (.ref p3))) s3
   have hb2:=ie (b:=b) (o:=.dK (bc gkv1 (.inr "seal") (.ref p3))) s3
   have l2:=aG gkv1 (.inr "seal") (V.ref p3)
   refine⟨_,rfl,(sz 3),fun p4 h4=>?_⟩
   have e4:=ad h4 (.tup [.ref b,.str "kind",.non])
   have s4:=e4
   exact q' _ _ _ _ _ _ _ _ _ _ (sw.trans (az s4)) (s4 _ _ hb2) (by omega) (.w3 hj3) ⟨_,_,_,_,_,_,_,_,_,_,_,_,_,_,F2.same (az s4)⟩ ac rfl
  refine⟨_,rfl,rfl,_,rfl,dL (fun _=>?_) (fun _=>?_)⟩
  ·skip
   refine⟨_,rfl,_,rfl,_,rfl,_,_,rfl,rfl,⟨by decide,by decide⟩,_,_,rfl,rfl,(by show(0:Int) < 2;decide),_,_,rfl,rfl,ka,_,_,_,rfl,rfl,SqL.of (ak _ _ FG.hk),ha4,_,rfl,g,.ref sa,rfl,F0.vs▸cT.k (k:=.inr "size") hg,(sz 3),fun p1 h1=>?_⟩
   have e1:=ad h1 (.tup [.str "kind",.str (S.T j4),.ref sa])
   have s1:=e1
   refine⟨(sz 1),fun p2 h2=>?_⟩
   have e2:=ad h2 (.lst [.ref p1])
   have s2:=s1.trans e2
   refine⟨ia,p2,_,_,rfl,rfl,(s2 _ _ (ak _ _ FG.hi)),ac,(by show 4+1<=sizeLine;decide),fun p3 h3=>?_⟩
   have e3:=ad h3 (.lst [u0,u1,u2,u3,.ref p1])
   have s3:=s2.trans e3
   refine⟨_,rfl,b,_,rfl,gK.k (k:=.inr "items") (s3 _ _ hb) (big (by omega)),?_⟩
   have t2:=e3
   have t1:=e2.trans t2
   have F2:=GB.itm (o:=.dK (bc gkv1 (.inr "items") (.ref p3))) hb s3 FG (g:=[i0 S,i1 S,i2 S,i3 S,.kind (S.T j4) (szK S)]) ac (.cons (c0.same (ak.trans s3)) (.cons (c1.same (ak.trans s3)) (.cons (c2.same (ak.trans s3)) (.cons (c3.same (ak.trans s3)) (.cons ⟨_,_,rfl,SqT.of (t1 _ _ ac),(.num (SqT.of ((ak.trans s3) _ _ FG.hs)))⟩ .nil)))))
   have sw:=eP (b:=b) (o:=.dK (bc gkv1 (.inr "items") (.ref p3))) s3
   have hb2:=ie (b:=b) (o:=.dK (bc gkv1 (.inr "items") (.ref p3))) s3
   have l2:=aG gkv1 (.inr "items") (V.ref p3)
   refine⟨_,rfl,(sz 3),fun p4 h4=>?_⟩
   have e4:=ad h4 (.tup [.ref b,.str "twice",.non])
   have s4:=e4
   exact q' _ _ _ _ _ _ _ _ _ _ (sw.trans (az s4)) (s4 _ _ hb2) (by omega) (.w4 hj4) ⟨_,_,_,_,_,_,_,_,_,_,_,_,_,_,F2.same (az s4)⟩ ac rfl
  refine⟨_,rfl,rfl,_,rfl,dL (fun _=>?_) (fun _=>?_)⟩
  ·skip
   refine⟨_,rfl,_,rfl,g,.ref fa,rfl,F0.vf▸cT.k (k:=.inr "funs") hg,_,rfl,_,_,rfl,rfl,⟨by decide,by decide⟩,_,_,rfl,rfl,(by show(0:Int) < 2;decide),_,_,rfl,rfl,fa,_,_,_,rfl,rfl,SqL.of (ak _ _ FG.hf),ha5,(sz 0),fun p1 h1=>?_⟩
   have e1:=ad h1 (.tup [])
   have s1:=e1
   refine⟨_,rfl,g,.ref sa,rfl,F0.vs▸cT.k (k:=.inr "size") (s1 _ _ hg),(sz 3),fun p2 h2=>?_⟩
   have e2:=ad h2 (.tup [.str "lit",.int 0,.int 1])
   have s2:=s1.trans e2
   refine⟨(sz 5),fun p3 h3=>?_⟩
   have e3:=ad h3 (.tup [.str "fun",.str (S.F j5),.ref p1,.ref sa,.ref p2])
   have s3:=s2.trans e3
   refine⟨(sz 1),fun p4 h4=>?_⟩
   have e4:=ad h4 (.lst [.ref p3])
   have s4:=s3.trans e4
   refine⟨ia,p4,_,_,rfl,rfl,(s4 _ _ (ak _ _ FG.hi)),ac,(by show 4+1<=sizeLine;decide),fun p5 h5=>?_⟩
   have e5:=ad h5 (.lst [u0,u1,u2,u3,.ref p3])
   have s5:=s4.trans e5
   refine⟨_,rfl,b,_,rfl,gK.k (k:=.inr "items") (s5 _ _ hb) (big (by omega)),?_⟩
   have t4:=e5
   have t3:=e4.trans t4
   have t2:=e3.trans t3
   have t1:=e2.trans t2
   have F2:=GB.itm (o:=.dK (bc gkv1 (.inr "items") (.ref p5))) hb s5 FG (g:=[i0 S,i1 S,i2 S,i3 S,.fn (S.F j5) [] (szK S)]) ac (.cons (c0.same (ak.trans s5)) (.cons (c1.same (ak.trans s5)) (.cons (c2.same (ak.trans s5)) (.cons (c3.same (ak.trans s5)) (.cons ⟨_,_,_,_,_,rfl,SqT.of (t3 _ _ ac),SqT.of (t1 _ _ ac),.nil,(.num (SqT.of ((ak.trans s5) _ _ FG.hs)))⟩ .nil)))))
   have sw:=eP (b:=b) (o:=.dK (bc gkv1 (.inr "items") (.ref p5))) s5
   have hb2:=ie (b:=b) (o:=.dK (bc gkv1 (.inr "items") (.ref p5))) s5
   have l2:=aG gkv1 (.inr "items") (V.ref p5)
   refine⟨_,rfl,(sz 3),fun p6 h6=>?_⟩
   have e6:=ad h6 (.tup [.ref b,.str "twice",.non])
   have s6:=e6
   exact q' _ _ _ _ _ _ _ _ _ _ (sw.trans (az s6)) (s6 _ _ hb2) (by omega) (.w5 hj5) ⟨_,_,_,_,_,_,_,_,_,_,_,_,_,_,F2.same (az s6)⟩ ac rfl
  refine⟨_,rfl,rfl,_,rfl,dL (fun _=>?_) (fun _=>?_)⟩
  ·skip
   refine⟨_,rfl,_,rfl,wa,_,_,_,rfl,rfl,SqL.of (ak _ _ FG.hw),(show atI (txs S.W 7) 6=some (.str (S.W 6)) from rfl),(sz 2),fun p1 h1=>?_⟩
   have e1:=ad h1 (.tup [.str "open",.str (S.W 6)])
   have s1:=e1
   refine⟨(sz 1),fun p2 h2=>?_⟩
   have e2:=ad h2 (.lst [.ref p1])
   have s2:=s1.trans e2
   refine⟨ia,p2,_,_,rfl,rfl,(s2 _ _ (ak _ _ FG.hi)),ac,(by show 4+1<=sizeLine;decide),fun p3 h3=>?_⟩
   have e3:=ad h3 (.lst [u0,u1,u2,u3,.ref p1])
   have s3:=s2.trans e3
   refine⟨_,rfl,b,_,rfl,gK.k (k:=.inr "items") (s3 _ _ hb) (big (by omega)),?_⟩
   have t2:=e3
   have t1:=e2.trans t2
   have F2:=GB.itm (o:=.dK (bc gkv1 (.inr "items") (.ref p3))) hb s3 FG (g:=[i0 S,i1 S,i2 S,i3 S,.opn (S.W 6)]) ac (.cons (c0.same (ak.trans s3)) (.cons (c1.same (ak.trans s3)) (.cons (c2.same (ak.trans s3)) (.cons (c3.same (ak.trans s3)) (.cons ⟨_,rfl,SqT.of (t1 _ _ ac)⟩ .nil)))))
   have sw:=eP (b:=b) (o:=.dK (bc gkv1 (.inr "items") (.ref p3))) s3
   have hb2:=ie (b:=b) (o:=.dK (bc gkv1 (.inr "items") (.ref p3))) s3
   have l2:=aG gkv1 (.inr "items") (V.ref p3)
   refine⟨_,rfl,(sz 3),fun p4 h4=>?_⟩
   have e4:=ad h4 (.tup [.ref b,.str "name",.non])
   have s4:=e4
   exact q' _ _ _ _ _ _ _ _ _ _ (sw.trans (az s4)) (s4 _ _ hb2) (by omega) .w6 ⟨_,_,_,_,_,_,_,_,_,_,_,_,_,_,F2.same (az s4)⟩ ac rfl
  refine⟨_,rfl,rfl,_,rfl,dL (fun _=>?_) (fun _=>?_)⟩
  ·skip
   refine⟨_,rfl,_,rfl,ka,_,_,_,rfl,rfl,SqL.of (ak _ _ FG.hk),(show atI (txs S.T 6) 4=some (.str (S.T 4)) from rfl),_,rfl,g,.ref sa,rfl,F0.vs▸cT.k (k:=.inr "size") hg,_,rfl,(sz 3),fun p1 h1=>?_⟩
   have e1:=ad h1 (.tup [.str "pair",.ref sa,.ref lo])
   have s1:=e1
   refine⟨(sz 3),fun p2 h2=>?_⟩
   have e2:=ad h2 (.tup [.str "kind",.str (S.T 4),.ref p1])
   have s2:=s1.trans e2
   refine⟨(sz 1),fun p3 h3=>?_⟩
   have e3:=ad h3 (.lst [.ref p2])
   have s3:=s2.trans e3
   refine⟨ia,p3,_,_,rfl,rfl,(s3 _ _ (ak _ _ FG.hi)),ac,(by show 4+1<=sizeLine;decide),fun p4 h4=>?_⟩
   have e4:=ad h4 (.lst [u0,u1,u2,u3,.ref p2])
   have s4:=s3.trans e4
   refine⟨_,rfl,b,_,rfl,gK.k (k:=.inr "items") (s4 _ _ hb) (big (by omega)),?_⟩
   have t3:=e4
   have t2:=e3.trans t3
   have t1:=e2.trans t2
   have F2:=GB.itm (o:=.dK (bc gkv1 (.inr "items") (.ref p4))) hb s4 FG (g:=[i0 S,i1 S,i2 S,i3 S,.kind (S.T 4) (.pair (szK S) (.name (S.W 1) (S.T 5)))]) ac (.cons (c0.same (ak.trans s4)) (.cons (c1.same (ak.trans s4)) (.cons (c2.same (ak.trans s4)) (.cons (c3.same (ak.trans s4)) (.cons ⟨_,_,rfl,SqT.of (t2 _ _ ac),.pair (SqT.of (t1 _ _ ac)) (.num (SqT.of ((ak.trans s4) _ _ FG.hs))) (.name (SqT.of (s4 _ _ hlo)))⟩ .nil)))))
   have sw:=eP (b:=b) (o:=.dK (bc gkv1 (.inr "items") (.ref p4))) s4
   have hb2:=ie (b:=b) (o:=.dK (bc gkv1 (.inr "items") (.ref p4))) s4
   have l2:=aG gkv1 (.inr "items") (V.ref p4)
   refine⟨_,rfl,(sz 3),fun p5 h5=>?_⟩
   have e5:=ad h5 (.tup [.ref b,.str "kind",.non])
   have s5:=e5
   exact q' _ _ _ _ _ _ _ _ _ _ (sw.trans (az s5)) (s5 _ _ hb2) (by omega) .w7 ⟨_,_,_,_,_,_,_,_,_,_,_,_,_,_,F2.same (az s5)⟩ ac rfl
  exact⟨_,rfl,_,rfl,_,b,gkv1,S,rfl,hb,l50,⟨_,_,_,_,_,_,_,_,_,_,_,_,_,_,FG⟩,q'⟩
 refine⟨_,(@ag _ _ _ _ _ (ba (i:=2) gQ.nd (bE eW rfl md d6 (@aa _ _ _ _ _ (pv 1) ae rfl)))
  (@ag _ _ _ _ _ (ba (i:=3) gQ.nd (aJ hu (pv 1) am (fun _ _=>rfl)))
  (@ag _ _ _ _ _ (ba (i:=4) gQ.nd (aJ hu (pv 1) am (fun _ _=>rfl)))
  (@ag _ _ _ _ _ (ba (i:=5) gQ.nd (aJ hu (pv 1) am (fun _ _=>rfl)))
  (@ag _ _ _ _ _ (ba (i:=6) gQ.nd (@ap _ _ _ _ _ (@aa _ _ _ _ _ am (@aa _ _ _ _ _ (ix0 aw (pv 3) ai) (@aa _ _ _ _ _ (ix0 aw (pv 4) ai) ae rfl) rfl) rfl)))
  (@ag _ _ _ _ _ (bw hu (pv 2) am (@ap _ _ _ _ _ (@aa _ _ _ _ _ (ix0 aw (pv 3) ai) (@aa _ _ _ _ _ (@ap _ _ _ _ _ ae) ae rfl) rfl)) rfl)
  (@ag _ _ _ _ _ (ba (i:=7) gQ.nd (bz d9 (pv 0) ai))
  d7))))))),?_⟩
 refine⟨_,rfl,g,gkv,rfl,hg0,fun b hbn=>?_⟩
 have e0:=ad hbn (.dK gkv)
 have hg1:=e0 _ _ hg0
 refine⟨_,rfl,g,.ref wa,rfl,F0.vw▸cT.k (k:=.inr "words") hg1,_,rfl,g,.ref ka,rfl,F0.vk▸cT.k (k:=.inr "kinds") hg1,_,rfl,g,.ref ia,rfl,F0.vi▸cT.k (k:=.inr "items") hg1,_,rfl,wa,_,_,_,rfl,rfl,SqL.of (e0 _ _ F0.hw),(show atI (txs S.W 7) 1=some (.str (S.W 1)) from rfl),_,rfl,ka,_,_,_,rfl,rfl,SqL.of (e0 _ _ F0.hk),(show atI (txs S.T 6) 5=some (.str (S.T 5)) from rfl),(sz 3),fun p1 h1=>?_⟩
 have e1:=ad h1 (.tup [.str "name",.str (S.W 1),.str (S.T 5)])
 have s1:=e1
 refine⟨_,rfl,wa,_,_,_,rfl,rfl,SqL.of (s1 _ _ (e0 _ _ F0.hw)),(show atI (txs S.W 7) 5=some (.str (S.W 5)) from rfl),(sz 0),fun p2 h2=>?_⟩
 have e2:=ad h2 (.tup [])
 have s2:=s1.trans e2
 refine⟨(sz 2),fun p3 h3=>?_⟩
 have e3:=ad h3 (.tup [.str (S.W 5),.ref p2])
 have s3:=s2.trans e3
 have hbn0:=ie (Hk:=H) (b:=b) (o:=.dK gkv) (aE.refl H)
 have t2:=e3
 have t1:=e2.trans t2
 refine⟨_,rfl,b,_,rfl,gK.k (k:=.inr "seal") (s3 _ _ hbn0) (big (by omega)),?_⟩
 have w0:wo (upd H b (.dK gkv)) b=H:=by rw [dF,jP hbn]
 have F2:=GB.sea (K:=K) (H:=upd H b (.dK gkv)) (o:=.dK (bc gkv (.inr "seal") (.ref p3))) hbn0 s3 (w0.symm▸F0) (show rX K _ _ (some (S.W 5,[])) from⟨_,_,_,rfl,SqT.of ac,SqT.of (t2 _ _ ac),.nil⟩)
 have sw:=eP (H:=upd H b (.dK gkv)) (b:=b) (o:=.dK (bc gkv (.inr "seal") (.ref p3))) s3
 rw [w0] at sw
 have l2:=aG gkv (.inr "seal") (V.ref p3)
 refine⟨_,rfl,_,_,rfl,rfl,(by show(0:Int) < 13;decide),?_⟩
 refine k7 _ b p1 _ _ sw ac (by omega) ?_ F2
 rw [aj (fun e=>by rw [e,hbn0] at h1;cases h1)]
 exact(t1 _ _ ac)
end
structure Am(S:SC):Prop where
 W:∃c,S.W=fun i:Nat=>dP c (i:Int)
 T:∃c,S.T=fun i:Nat=>dP c (i:Int)
 F:∃c,S.F=fun i:Nat=>dP c (i:Int)
 n0:0<=S.n
 n1:S.n<=10 ^ 18
def vA(K:W.Frag):Sp:=fun vs H Q _=>∃(a:Addr) (ns:List Int),vs=[.ref a]/\SqL K H a (ns.map V.int)/\ns.length<=63 /\
 ∀(H':Hp) (g:Addr) (gkv:List (Key × V)) (S:SC) (sl:Option (Str × aq)),aE H H'->Am S->(sl=none\/sl=some (S.W 5,[]))->H' g=some (.dK gkv)->gkv.length<=20->wg K H' S gkv (g1 S) (g2 S) sl (gi S)->Q (.ref g) H'
theorem pP(c:Int)(n:Nat):(wds c 0 n).map V.str=txs (fun i:Nat=>dP c (i:Int)) n:=by
 unfold wds
 rw [List.map_map]
 apply List.map_congr_left
 intro j _
 show V.str (dP c (0+(j:Int)))=_
 rw [Int.zero_add]
theorem at2(x y:V)(c:Int):atI [x,y] (c%2)=some (if decide (c%2=1)=true then y else x):=by
 have:c%2=0\/c%2=1:=by omega
 rcases this with e|e<;>rw [e]<;>rfl
section
variable{K:W.Frag}{H:Hp}{g p:Addr}{o o2 x:HO}
theorem dB(h:H p=none)(hg:H g=some o):wo (upd H p x) g p=some x:=by
 rw [fA (fun e=>by rw [e,hg] at h;cases h)]
 exact ac
theorem uU(_:H g=some o2):aE (wo H g) (wo (upd H g o) g):=by
 rw [dF]
 exact aE.refl _
theorem oa(_:H g=some o2):upd H g o g=some o:=ac
theorem Aw(h:H g=none):aE H (wo (upd (upd H g x) g o) g):=by
 rw [dF,dF,jP h]
 exact aE.refl _
theorem Cz{u v:V}{ku kv:Kd}(b:Bool)(hu:cc K H u ku)(hv:cc K H v kv):cc K H (if b=true then v else u) (if b=true then kv else ku):=by
 cases b
 ·exact hu
 ·exact hv
theorem Cu{v:V}{s:Str × aq}(b:Bool)(hv:jk K H v s):rX K H (if b=true then v else .non) (if b=true then some s else none):=by
 cases b
 ·exact rfl
 ·exact hv
end
theorem Cg{X:Cx}{s1 s2 s3 s4:Str}{a1 a2 a3 a4:Nat}{p1 p2 p3 p4 pos:Pos}{v1 v2 v3 v4:Expr}{t1 t2 t3 t4:TE}(h1:PE X v1 t1)(h2:PE X v2 t2)(h3:PE X v3 t3)(h4:PE X v4 t4):PE X (.Dict [some (.Constant (.str s1) a1 p1),some (.Constant (.str s2) a2 p2),some (.Constant (.str s3) a3 p3),some (.Constant (.str s4) a4 p4)] [v1,v2,v3,v4] pos) (wj [(tC (.str s1),t1),(tC (.str s2),t2),(tC (.str s3),t3),(tC (.str s4),t4)]) :=
 @pI _ _ _ _ _ (@fT _ _ _ _ _ _ _ _ _ (@am _ _ _ _) h1 (@fT _ _ _ _ _ _ _ _ _ (@am _ _ _ _) h2 (@fT _ _ _ _ _ _ _ _ _ (@am _ _ _ _) h3 (@fT _ _ _ _ _ _ _ _ _ (@am _ _ _ _) h4 (@qc _ _))))) rfl rfl (fun e=>nomatch e) (Nat.le_of_ble_eq_true rfl)
theorem swD{ks:List (Option Expr)}{vs:List Expr}{pos:Pos}{o:Option Expr}{n:Nat}{env:Env}:swapsWith (.Dict ks vs pos) o n env=pure false:=rfl
abbrev snN:List Str:=["_law_script","_law_words","_law_kinds","_law_funs","_law_size","_law_own","_law_made","_law_got","_law_fun","_law_other"]
section
variable{P:Program}{w:World}{K:W.Frag}{mg:Str->Option Value}{base:Heap}
theorem eX:aO snN ["_law_script"] (ah i8):=mkS
theorem wx{f fc fw:Addr}{fd fdc fdw:FuncData} (F:Fun K "_law_scene" "_law_scene" i8 f fd)
  (GC:bq P w K mg base CX0 1 fc fdc ["_law_script","_law_k"] (qt K)) (bC:aV K fdc ["_law_script","_law_k"] []) (kC:W.keepIn K (.ref fc)=true) (mC:mg "_law_cell"=some (.ref fc))
  (GW:bq P w K mg base CX0 1 fw fdw wlP vN) (bW:aV K fdw wlP []) (kW:W.keepIn K (.ref fw)=true) (mW:mg "_law_word"=some (.ref fw)) (mr:mg "range"=none) :
  bq P w K mg base CX0 2 f fd ["_law_script"] (vA K):=by
 refine F.k0 eX fun cdv A outer s H vs Q E hr h=>?_
 obtain⟨a,ns,rfl,hA,h63,q⟩:=h
 have hu:=dY hr
 have hr1:cG 1 _:=hr.mono (by decide)
 have big:∀{n:Nat},n<=999->n < sizeLine:=fun h=>Nat.lt_of_lt_of_le (Nat.lt_succ_self _) (dX (by omega))
 have clA:∀{H':Hp},aE H H'->SqL K H' a (ns.map V.int):=fun e=>jw e hA
 have e18:(0:Int) < (10:Int) ^ (18:Int).toNat:=by decide
 obtain⟨t7,d7,k7⟩:∃t,PSs (ee CX0 P w K mg base snN "_law_scene" (ah i8) f cdv A outer s H E).nox (List.drop 7 (ar i8)) t/\∀(H1:Hp) (g wa ka fa sa ow ma:Addr) (n:Int) (gk0:List (Key × V)) (S:SC),S=⟨fun i:Nat=>dP (bn ns 1) (i:Int),fun i:Nat=>dP (bn ns 2) (i:Int),fun i:Nat=>dP (bn ns 3) (i:Int),n,decide (bn ns 5%2=1)⟩->aE H (wo H1 g)->H1 g=some (.dK gk0)->gk0.length<=4->(∀z:Str,dg gk0 (.inr z)=if "size"=z then some (.ref sa) else if "funs"=z then some (.ref fa) else if "kinds"=z then some (.ref ka) else if "words"=z then some (.ref wa) else none)->Am S ->
   wo H1 g wa=some (.lst (txs S.W 7))->wo H1 g ka=some (.lst (txs S.T 6))->wo H1 g fa=some (.lst (txs S.F 4))->wo H1 g sa=some (.tup [.str "num",.int S.n])->wo H1 g ow=some (.tup [.str "name",.str "",.str (S.T 0)])->cc K (wo H1 g) (.ref ma) (mdK S) ->
   t { nx:=fun _ H'=>Q .non H',rt:=Q } [some (.ref a),some (.ref wa),some (.ref ka),some (.ref fa),some (.ref sa),some (.ref ow),some (.ref ma),some (.ref g),none,none] H1:=by
  refine⟨_,(@ag _ _ _ _ _ (bw hu (pv 7) am (@ap _ _ _ _ _ (@aa _ _ _ _ _ (cU (@aa _ _ _ _ _ (@ap _ _ _ _ _ (@aa _ _ _ _ _ (ix0 aw (pv 2) ai) (@aa _ _ _ _ _ (pv 5) ae rfl) rfl)) (@aa _ _ _ _ _ (@ap _ _ _ _ _ (@aa _ _ _ _ _ (ix0 aw (pv 2) ai) (@aa _ _ _ _ _ (ix0 aw (cU (@aa _ _ _ _ _ (pv 5) (@aa _ _ _ _ _ (@ap _ _ _ _ _ (@aa _ _ _ _ _ am (@aa _ _ _ _ _ (pv 5) (@aa _ _ _ _ _ (pv 4) ae rfl) rfl) rfl)) ae rfl) rfl)) (bz d9 (aD GC hr1 rfl mC kC bC .nil bx (@aa _ _ _ _ _ (pv 0) (@aa _ _ _ _ _ ai ae rfl) rfl)) ai)) ae rfl) rfl)) ae rfl) rfl)) (@aa _ _ _ _ _ (ix0 aw (pv 3) ai) ae rfl) rfl)) rfl)
   (@ag _ _ _ _ _ (bw hu (pv 7) am (@ap _ _ _ _ _ (@aa _ _ _ _ _ (ix0 aw (pv 1) ai) (@aa _ _ _ _ _ (@ap _ _ _ _ _ (@aa _ _ _ _ _ (ix0 aw (pv 1) ai) (@aa _ _ _ _ _ (@ap _ _ _ _ _ ae) ae rfl) rfl)) ae rfl) rfl)) rfl)
   (@ag _ _ _ _ _ (bw hu (pv 7) am (@ap _ _ _ _ _ (@aa _ _ _ _ _ (ix0 aw (pv 1) ai) (@aa _ _ _ _ _ (@ap _ _ _ _ _ (@aa _ _ _ _ _ (ix0 aw (pv 1) ai) (@aa _ _ _ _ _ (@ap _ _ _ _ _ (@aa _ _ _ _ _ (@ap _ _ _ _ _ (@aa _ _ _ _ _ (ix0 aw (pv 2) ai) (@aa _ _ _ _ _ (@ap _ _ _ _ _ (@aa _ _ _ _ _ am (@aa _ _ _ _ _ (ix0 aw (pv 1) ai) (@aa _ _ _ _ _ (ix0 aw (pv 2) ai) ae rfl) rfl) rfl)) ae rfl) rfl)) ae rfl)) ae rfl) rfl)) ae rfl) rfl)) rfl)
   (@ag _ _ _ _ _ (bw hu (pv 7) am (ix0 aw (cU (@aa _ _ _ _ _ cL (@aa _ _ _ _ _ (@ap _ _ _ _ _ (@aa _ _ _ _ _ (ix0 aw (pv 1) ai) (@aa _ _ _ _ _ (@ap _ _ _ _ _ ae) ae rfl) rfl)) ae rfl) rfl)) (bz d9 (aD GC hr1 rfl mC kC bC .nil bx (@aa _ _ _ _ _ (pv 0) (@aa _ _ _ _ _ ai ae rfl) rfl)) ai)) rfl)
   (@ag _ _ _ _ _ (ba (i:=8) eX.nd (@ap _ _ _ _ _ (@aa _ _ _ _ _ am (@aa _ _ _ _ _ (ix0 aw (pv 3) ai) (@aa _ _ _ _ _ (@ap _ _ _ _ _ (@aa _ _ _ _ _ (@ap _ _ _ _ _ (@aa _ _ _ _ _ am (@aa _ _ _ _ _ (@ap _ _ _ _ _ (@aa _ _ _ _ _ am (@aa _ _ _ _ _ am (@aa _ _ _ _ _ (ix0 aw (pv 2) ai) ae rfl) rfl) rfl)) ae rfl) rfl)) ae rfl)) (@aa _ _ _ _ _ (pv 4) (@aa _ _ _ _ _ (@ap _ _ _ _ _ (@aa _ _ _ _ _ am (@aa _ _ _ _ _ ai (@aa _ _ _ _ _ (ix0 bj (pv 4) ai) ae rfl) rfl) rfl)) ae rfl) rfl) rfl) rfl) rfl)))
   (@ag _ _ _ _ _ (ba (i:=9) eX.nd (@ap _ _ _ _ _ (@aa _ _ _ _ _ am (@aa _ _ _ _ _ (ix0 aw (pv 3) ai) (@aa _ _ _ _ _ (@ap _ _ _ _ _ ae) (@aa _ _ _ _ _ (@ap _ _ _ _ _ (@aa _ _ _ _ _ am (@aa _ _ _ _ _ am (@aa _ _ _ _ _ (ix0 aw (pv 2) ai) ae rfl) rfl) rfl)) (@aa _ _ _ _ _ (@ap _ _ _ _ _ (@aa _ _ _ _ _ am (@aa _ _ _ _ _ ai (@aa _ _ _ _ _ (ix0 bj (pv 4) ai) ae rfl) rfl) rfl)) ae rfl) rfl) rfl) rfl) rfl)))
   (@ag _ _ _ _ _ (bw hu (pv 7) am (cU (@aa _ _ _ _ _ (@ap _ _ _ _ _ (@aa _ _ _ _ _ am (@aa _ _ _ _ _ (ix0 aw (pv 2) ai) (@aa _ _ _ _ _ (pv 6) ae rfl) rfl) rfl)) (@aa _ _ _ _ _ (@ap _ _ _ _ _ (@aa _ _ _ _ _ am (@aa _ _ _ _ _ (ix0 aw (pv 2) ai) (@aa _ _ _ _ _ (pv 4) ae rfl) rfl) rfl)) (@aa _ _ _ _ _ (pv 8) (@aa _ _ _ _ _ (pv 9) ae rfl) rfl) rfl) rfl)) rfl)
   (@ao _ _ _ (@aS _ _ _ _ (pv 7)))))))))),?_⟩
  intro H1 g wa ka fa sa ow ma n gk0 S hS s1 hg l4 hv sok hw hk hf hs ho hm
  have hSb:S.b=decide (bn ns 5%2=1):=by rw [hS]
  refine⟨_,rfl,ka,_,_,_,rfl,rfl,SqL.of (ak _ _ hk),(show atI (txs S.T 6) 0=some (.str (S.T 0)) from rfl),_,rfl,(sz 2),fun p1 h1=>?_⟩
  have e1:=az (d:=g) (ad h1 (.tup [.str (S.T 0),.ref ow]))
  have m1:=dB h1 hg (x:=(.tup [.str (S.T 0),.ref ow]))
  have q1:=(ad h1 (.tup [.str (S.T 0),.ref ow])) _ _ hg
  have r1:=e1
  refine⟨_,rfl,ka,_,_,_,rfl,rfl,SqL.of (ak _ _ (r1 _ _ hk)),(show atI (txs S.T 6) 1=some (.str (S.T 1)) from rfl),_,rfl,_,rfl,_,rfl,(sz 3),fun p2 h2=>?_⟩
  have e2:=az (d:=g) (ad h2 (.tup [.str "pair",.ref ow,.ref sa]))
  have m2:=dB h2 q1 (x:=(.tup [.str "pair",.ref ow,.ref sa]))
  have q2:=(ad h2 (.tup [.str "pair",.ref ow,.ref sa])) _ _ q1
  have r2:=r1.trans e2
  refine⟨(sz 2),fun p3 h3=>?_⟩
  have e3:=az (d:=g) (ad h3 (.lst [.ref ow,.ref p2]))
  have m3:=dB h3 q2 (x:=(.lst [.ref ow,.ref p2]))
  have q3:=(ad h3 (.lst [.ref ow,.ref p2])) _ _ q2
  have r3:=r2.trans e3
  refine⟨_,rfl,a,ns,5,rfl,clA (s1.trans (r3.trans ak)),h63,by decide,by decide,fun c5 g5=>?_⟩
  subst g5
  refine⟨_,_,rfl,rfl,(by show(0:Int) < 2;decide),p3,_,_,_,rfl,rfl,SqL.of (ak _ _ m3),(at2 (V.ref ow) (V.ref p2) _),(sz 2),fun p4 h4=>?_⟩
  have e4:=az (d:=g) (ad h4 (.tup [.str (S.T 1),if decide (bn ns 5%2=1)=true then V.ref p2 else V.ref ow]))
  have m4:=dB h4 q3 (x:=(.tup [.str (S.T 1),if decide (bn ns 5%2=1)=true then V.ref p2 else V.ref ow]))
  have q4:=(ad h4 (.tup [.str (S.T 1),if decide (bn ns 5%2=1)=true then V.ref p2 else V.ref ow])) _ _ q3
  have r4:=r3.trans e4
  refine⟨(sz 2),fun p5 h5=>?_⟩
  have e5:=az (d:=g) (ad h5 (.lst [.ref p1,.ref p4]))
  have m5:=dB h5 q4 (x:=(.lst [.ref p1,.ref p4]))
  have q5:=(ad h5 (.lst [.ref p1,.ref p4])) _ _ q4
  have r5:=r4.trans e5
  refine⟨_,rfl,fa,_,_,_,rfl,rfl,SqL.of (ak _ _ (r5 _ _ hf)),(show atI (txs S.F 4) 0=some (.str (S.F 0)) from rfl),(sz 2),fun p6 h6=>?_⟩
  have e6:=az (d:=g) (ad h6 (.tup [.ref p5,.str (S.F 0)]))
  have m6:=dB h6 q5 (x:=(.tup [.ref p5,.str (S.F 0)]))
  have q6:=(ad h6 (.tup [.ref p5,.str (S.F 0)])) _ _ q5
  have r6:=r5.trans e6
  refine⟨_,rfl,g,_,rfl,gK.k (k:=.inr "face") q6 (big (by omega)),?_⟩
  have e7:=uU (o:=.dK (bc gk0 (.inr "face") (.ref p6))) q6
  have q7:=oa (o:=.dK (bc gk0 (.inr "face") (.ref p6))) q6
  have l7:=aG (gk0) (.inr "face") (V.ref p6)
  have r7:=r6.trans e7
  refine⟨_,rfl,wa,_,_,_,rfl,rfl,SqL.of (ak _ _ (r7 _ _ hw)),(show atI (txs S.W 7) 1=some (.str (S.W 1)) from rfl),_,rfl,wa,_,_,_,rfl,rfl,SqL.of (ak _ _ (r7 _ _ hw)),(show atI (txs S.W 7) 4=some (.str (S.W 4)) from rfl),(sz 0),fun p8 h8=>?_⟩
  have e8:=az (d:=g) (ad h8 (.tup []))
  have m8:=dB h8 q7 (x:=(.tup []))
  have q8:=(ad h8 (.tup [])) _ _ q7
  have r8:=r7.trans e8
  refine⟨(sz 2),fun p9 h9=>?_⟩
  have e9:=az (d:=g) (ad h9 (.tup [.str (S.W 4),.ref p8]))
  have m9:=dB h9 q8 (x:=(.tup [.str (S.W 4),.ref p8]))
  have q9:=(ad h9 (.tup [.str (S.W 4),.ref p8])) _ _ q8
  have r9:=r8.trans e9
  refine⟨(sz 2),fun p10 h10=>?_⟩
  have e10:=az (d:=g) (ad h10 (.tup [.str (S.W 1),.ref p9]))
  have m10:=dB h10 q9 (x:=(.tup [.str (S.W 1),.ref p9]))
  have q10:=(ad h10 (.tup [.str (S.W 1),.ref p9])) _ _ q9
  have r10:=r9.trans e10
  refine⟨_,rfl,g,_,rfl,gK.k (k:=.inr "first") q10 (big (by omega)),?_⟩
  have e11:=uU (o:=.dK (bc (bc gk0 (.inr "face") (.ref p6)) (.inr "first") (.ref p10))) q10
  have q11:=oa (o:=.dK (bc (bc gk0 (.inr "face") (.ref p6)) (.inr "first") (.ref p10))) q10
  have l11:=aG ((bc gk0 (.inr "face") (.ref p6))) (.inr "first") (V.ref p10)
  have r11:=r10.trans e11
  refine⟨_,rfl,wa,_,_,_,rfl,rfl,SqL.of (ak _ _ (r11 _ _ hw)),(show atI (txs S.W 7) 2=some (.str (S.W 2)) from rfl),_,rfl,wa,_,_,_,rfl,rfl,SqL.of (ak _ _ (r11 _ _ hw)),(show atI (txs S.W 7) 4=some (.str (S.W 4)) from rfl),_,rfl,ka,_,_,_,rfl,rfl,SqL.of (ak _ _ (r11 _ _ hk)),(show atI (txs S.T 6) 0=some (.str (S.T 0)) from rfl),_,rfl,wa,_,_,_,rfl,rfl,SqL.of (ak _ _ (r11 _ _ hw)),(show atI (txs S.W 7) 1=some (.str (S.W 1)) from rfl),_,rfl,ka,_,_,_,rfl,rfl,SqL.of (ak _ _ (r11 _ _ hk)),(show atI (txs S.T 6) 0=some (.str (S.T 0)) from rfl),(sz 3),fun p12 h12=>?_⟩
  have e12:=az (d:=g) (ad h12 (.tup [.str "name",.str (S.W 1),.str (S.T 0)]))
  have m12:=dB h12 q11 (x:=(.tup [.str "name",.str (S.W 1),.str (S.T 0)]))
  have q12:=(ad h12 (.tup [.str "name",.str (S.W 1),.str (S.T 0)])) _ _ q11
  have r12:=r11.trans e12
  refine⟨(sz 2),fun p13 h13=>?_⟩
  have e13:=az (d:=g) (ad h13 (.tup [.str (S.T 0),.ref p12]))
  have m13:=dB h13 q12 (x:=(.tup [.str (S.T 0),.ref p12]))
  have q13:=(ad h13 (.tup [.str (S.T 0),.ref p12])) _ _ q12
  have r13:=r12.trans e13
  refine⟨(sz 1),fun p14 h14=>?_⟩
  have e14:=az (d:=g) (ad h14 (.tup [.ref p13]))
  have m14:=dB h14 q13 (x:=(.tup [.ref p13]))
  have q14:=(ad h14 (.tup [.ref p13])) _ _ q13
  have r14:=r13.trans e14
  refine⟨(sz 2),fun p15 h15=>?_⟩
  have e15:=az (d:=g) (ad h15 (.tup [.str (S.W 4),.ref p14]))
  have m15:=dB h15 q14 (x:=(.tup [.str (S.W 4),.ref p14]))
  have q15:=(ad h15 (.tup [.str (S.W 4),.ref p14])) _ _ q14
  have r15:=r14.trans e15
  refine⟨(sz 2),fun p16 h16=>?_⟩
  have e16:=az (d:=g) (ad h16 (.tup [.str (S.W 2),.ref p15]))
  have m16:=dB h16 q15 (x:=(.tup [.str (S.W 2),.ref p15]))
  have q16:=(ad h16 (.tup [.str (S.W 2),.ref p15])) _ _ q15
  have r16:=r15.trans e16
  refine⟨_,rfl,g,_,rfl,gK.k (k:=.inr "second") q16 (big (by omega)),?_⟩
  have e17:=uU (o:=.dK (bc (bc (bc gk0 (.inr "face") (.ref p6)) (.inr "first") (.ref p10)) (.inr "second") (.ref p16))) q16
  have q17:=oa (o:=.dK (bc (bc (bc gk0 (.inr "face") (.ref p6)) (.inr "first") (.ref p10)) (.inr "second") (.ref p16))) q16
  have l17:=aG ((bc (bc gk0 (.inr "face") (.ref p6)) (.inr "first") (.ref p10))) (.inr "second") (V.ref p16)
  have r17:=r16.trans e17
  refine⟨_,rfl,wa,_,_,_,rfl,rfl,SqL.of (ak _ _ (r17 _ _ hw)),(show atI (txs S.W 7) 5=some (.str (S.W 5)) from rfl),(sz 0),fun p18 h18=>?_⟩
  have e18:=az (d:=g) (ad h18 (.tup []))
  have m18:=dB h18 q17 (x:=(.tup []))
  have q18:=(ad h18 (.tup [])) _ _ q17
  have r18:=r17.trans e18
  refine⟨(sz 2),fun p19 h19=>?_⟩
  have e19:=az (d:=g) (ad h19 (.tup [.str (S.W 5),.ref p18]))
  have m19:=dB h19 q18 (x:=(.tup [.str (S.W 5),.ref p18]))
  have q19:=(ad h19 (.tup [.str (S.W 5),.ref p18])) _ _ q18
  have r19:=r18.trans e19
  refine⟨(sz 2),fun p20 h20=>?_⟩
  have e20:=az (d:=g) (ad h20 (.lst [.non,.ref p19]))
  have m20:=dB h20 q19 (x:=(.lst [.non,.ref p19]))
  have q20:=(ad h20 (.lst [.non,.ref p19])) _ _ q19
  have r20:=r19.trans e20
  refine⟨_,rfl,a,ns,6,rfl,clA (s1.trans (r20.trans ak)),h63,by decide,by decide,fun c6 g6=>?_⟩
  subst g6
  refine⟨_,_,rfl,rfl,(by show(0:Int) < 2;decide),p20,_,_,_,rfl,rfl,SqL.of (ak _ _ m20),(at2 (V.non) (V.ref p19) _),_,rfl,g,_,rfl,gK.k (k:=.inr "seal") q20 (big (by omega)),?_⟩
  have e21:=uU (o:=.dK (bc (bc (bc (bc gk0 (.inr "face") (.ref p6)) (.inr "first") (.ref p10)) (.inr "second") (.ref p16)) (.inr "seal") (if decide (bn ns 6%2=1)=true then V.ref p19 else V.non))) q20
  have q21:=oa (o:=.dK (bc (bc (bc (bc gk0 (.inr "face") (.ref p6)) (.inr "first") (.ref p10)) (.inr "second") (.ref p16)) (.inr "seal") (if decide (bn ns 6%2=1)=true then V.ref p19 else V.non))) q20
  have l21:=aG ((bc (bc (bc gk0 (.inr "face") (.ref p6)) (.inr "first") (.ref p10)) (.inr "second") (.ref p16))) (.inr "seal") (if decide (bn ns 6%2=1)=true then V.ref p19 else V.non)
  have r21:=r20.trans e21
  refine⟨_,rfl,fa,_,_,_,rfl,rfl,SqL.of (ak _ _ (r21 _ _ hf)),(show atI (txs S.F 4) 1=some (.str (S.F 1)) from rfl),_,rfl,ka,_,_,_,rfl,rfl,SqL.of (ak _ _ (r21 _ _ hk)),(show atI (txs S.T 6) 2=some (.str (S.T 2)) from rfl),(sz 3),fun p22 h22=>?_⟩
  have e22:=az (d:=g) (ad h22 (.tup [.str "name",.str "",.str (S.T 2)]))
  have m22:=dB h22 q21 (x:=(.tup [.str "name",.str "",.str (S.T 2)]))
  have q22:=(ad h22 (.tup [.str "name",.str "",.str (S.T 2)])) _ _ q21
  have r22:=r21.trans e22
  refine⟨(sz 2),fun p23 h23=>?_⟩
  have e23:=az (d:=g) (ad h23 (.tup [.str "a",.ref p22]))
  have m23:=dB h23 q22 (x:=(.tup [.str "a",.ref p22]))
  have q23:=(ad h23 (.tup [.str "a",.ref p22])) _ _ q22
  have r23:=r22.trans e23
  refine⟨(sz 1),fun p24 h24=>?_⟩
  have e24:=az (d:=g) (ad h24 (.tup [.ref p23]))
  have m24:=dB h24 q23 (x:=(.tup [.ref p23]))
  have q24:=(ad h24 (.tup [.ref p23])) _ _ q23
  have r24:=r23.trans e24
  refine⟨_,rfl,_,rfl,sa,_,_,_,rfl,rfl,SqT.of (ak _ _ (r24 _ _ hs)),(show atI [V.str "num",.int S.n] 1=some (.int S.n) from rfl),(sz 3),fun p25 h25=>?_⟩
  have e25:=az (d:=g) (ad h25 (.tup [.str "lit",.int 0,.int S.n]))
  have m25:=dB h25 q24 (x:=(.tup [.str "lit",.int 0,.int S.n]))
  have q25:=(ad h25 (.tup [.str "lit",.int 0,.int S.n])) _ _ q24
  have r25:=r24.trans e25
  refine⟨(sz 5),fun p26 h26=>?_⟩
  have e26:=az (d:=g) (ad h26 (.tup [.str "fun",.str (S.F 1),.ref p24,.ref sa,.ref p25]))
  have m26:=dB h26 q25 (x:=(.tup [.str "fun",.str (S.F 1),.ref p24,.ref sa,.ref p25]))
  have q26:=(ad h26 (.tup [.str "fun",.str (S.F 1),.ref p24,.ref sa,.ref p25])) _ _ q25
  have r26:=r25.trans e26
  refine⟨_,rfl,fa,_,_,_,rfl,rfl,SqL.of (ak _ _ (r26 _ _ hf)),(show atI (txs S.F 4) 2=some (.str (S.F 2)) from rfl),(sz 0),fun p27 h27=>?_⟩
  have e27:=az (d:=g) (ad h27 (.tup []))
  have m27:=dB h27 q26 (x:=(.tup []))
  have q27:=(ad h27 (.tup [])) _ _ q26
  have r27:=r26.trans e27
  refine⟨_,rfl,ka,_,_,_,rfl,rfl,SqL.of (ak _ _ (r27 _ _ hk)),(show atI (txs S.T 6) 3=some (.str (S.T 3)) from rfl),(sz 3),fun p28 h28=>?_⟩
  have e28:=az (d:=g) (ad h28 (.tup [.str "name",.str "",.str (S.T 3)]))
  have m28:=dB h28 q27 (x:=(.tup [.str "name",.str "",.str (S.T 3)]))
  have q28:=(ad h28 (.tup [.str "name",.str "",.str (S.T 3)])) _ _ q27
  have r28:=r27.trans e28
  refine⟨_,rfl,sa,_,_,_,rfl,rfl,SqT.of (ak _ _ (r28 _ _ hs)),(show atI [V.str "num",.int S.n] 1=some (.int S.n) from rfl),(sz 3),fun p29 h29=>?_⟩
  have e29:=az (d:=g) (ad h29 (.tup [.str "lit",.int 0,.int S.n]))
  have m29:=dB h29 q28 (x:=(.tup [.str "lit",.int 0,.int S.n]))
  have q29:=(ad h29 (.tup [.str "lit",.int 0,.int S.n])) _ _ q28
  have r29:=r28.trans e29
  refine⟨(sz 5),fun p30 h30=>?_⟩
  have e30:=az (d:=g) (ad h30 (.tup [.str "fun",.str (S.F 2),.ref p27,.ref p28,.ref p29]))
  have m30:=dB h30 q29 (x:=(.tup [.str "fun",.str (S.F 2),.ref p27,.ref p28,.ref p29]))
  have q30:=(ad h30 (.tup [.str "fun",.str (S.F 2),.ref p27,.ref p28,.ref p29])) _ _ q29
  have r30:=r29.trans e30
  refine⟨_,rfl,ka,_,_,_,rfl,rfl,SqL.of (ak _ _ (r30 _ _ hk)),(show atI (txs S.T 6) 2=some (.str (S.T 2)) from rfl),_,rfl,(sz 3),fun p31 h31=>?_⟩
  have e31:=az (d:=g) (ad h31 (.tup [.str "kind",.str (S.T 2),.ref ma]))
  have m31:=dB h31 q30 (x:=(.tup [.str "kind",.str (S.T 2),.ref ma]))
  have q31:=(ad h31 (.tup [.str "kind",.str (S.T 2),.ref ma])) _ _ q30
  have r31:=r30.trans e31
  refine⟨_,rfl,ka,_,_,_,rfl,rfl,SqL.of (ak _ _ (r31 _ _ hk)),(show atI (txs S.T 6) 3=some (.str (S.T 3)) from rfl),_,rfl,(sz 3),fun p32 h32=>?_⟩
  have e32:=az (d:=g) (ad h32 (.tup [.str "kind",.str (S.T 3),.ref sa]))
  have m32:=dB h32 q31 (x:=(.tup [.str "kind",.str (S.T 3),.ref sa]))
  have q32:=(ad h32 (.tup [.str "kind",.str (S.T 3),.ref sa])) _ _ q31
  have r32:=r31.trans e32
  refine⟨_,rfl,_,rfl,(sz 4),fun p33 h33=>?_⟩
  have e33:=az (d:=g) (ad h33 (.lst [.ref p31,.ref p32,.ref p26,.ref p30]))
  have m33:=dB h33 q32 (x:=(.lst [.ref p31,.ref p32,.ref p26,.ref p30]))
  have q33:=(ad h33 (.lst [.ref p31,.ref p32,.ref p26,.ref p30])) _ _ q32
  have r33:=r32.trans e33
  refine⟨_,rfl,g,_,rfl,gK.k (k:=.inr "items") q33 (big (by omega)),?_⟩
  have e34:=uU (o:=.dK (bc (bc (bc (bc (bc gk0 (.inr "face") (.ref p6)) (.inr "first") (.ref p10)) (.inr "second") (.ref p16)) (.inr "seal") (if decide (bn ns 6%2=1)=true then V.ref p19 else V.non)) (.inr "items") (.ref p33))) q33
  have q34:=oa (o:=.dK (bc (bc (bc (bc (bc gk0 (.inr "face") (.ref p6)) (.inr "first") (.ref p10)) (.inr "second") (.ref p16)) (.inr "seal") (if decide (bn ns 6%2=1)=true then V.ref p19 else V.non)) (.inr "items") (.ref p33))) q33
  have l34:=aG ((bc (bc (bc (bc gk0 (.inr "face") (.ref p6)) (.inr "first") (.ref p10)) (.inr "second") (.ref p16)) (.inr "seal") (if decide (bn ns 6%2=1)=true then V.ref p19 else V.non))) (.inr "items") (V.ref p33)
  have r34:=r33.trans e34
  refine⟨_,rfl,?_⟩
  have t33:=e34
  have t32:=e33.trans t33
  have t31:=e32.trans t32
  have t30:=e31.trans t31
  have t29:=e30.trans t30
  have t28:=e29.trans t29
  have t27:=e28.trans t28
  have t26:=e27.trans t27
  have t25:=e26.trans t26
  have t24:=e25.trans t25
  have t23:=e24.trans t24
  have t22:=e23.trans t23
  have t21:=e22.trans t22
  have t20:=e21.trans t21
  have t19:=e20.trans t20
  have t18:=e19.trans t19
  have t17:=e18.trans t18
  have t16:=e17.trans t17
  have t15:=e16.trans t16
  have t14:=e15.trans t15
  have t13:=e14.trans t14
  have t12:=e13.trans t13
  have t11:=e12.trans t12
  have t10:=e11.trans t11
  have t9:=e10.trans t10
  have t8:=e9.trans t9
  have t7:=e8.trans t8
  have t6:=e7.trans t7
  have t5:=e6.trans t6
  have t4:=e5.trans t5
  have t3:=e4.trans t4
  have t2:=e3.trans t3
  have t1:=e2.trans t2
  refine q _ g _ S (if decide (bn ns 6%2=1)=true then some (S.W 5,[]) else none) ((s1.trans r34).trans ak) sok ?_ q34 (by omega) (wg.same (ak (d:=g)) ⟨wa,ka,fa,sa,p6,p5,p33,p1,p4,if decide (bn ns 5%2=1)=true then V.ref p2 else V.ref ow,.ref p10,.ref p16,if decide (bn ns 6%2=1)=true then V.ref p19 else V.non,[.ref p31,.ref p32,.ref p26,.ref p30],?_⟩)
  ·cases decide (bn ns 6%2=1)
   ·exact .inl rfl
   ·exact .inr rfl
  have k1e:k1K S=if decide (bn ns 5%2=1)=true then .pair (fM (S.T 0)) (szK S) else fM (S.T 0):=by unfold k1K;rw [hSb]
  exact⟨(by rw [aB,if_neg (by decide +kernel),aB,if_neg (by decide +kernel),aB,if_neg (by decide +kernel),aB,if_neg (by decide +kernel),aB,if_neg (by decide +kernel),hv,if_neg (by decide +kernel),if_neg (by decide +kernel),if_neg (by decide +kernel),if_pos rfl]),(by rw [aB,if_neg (by decide +kernel),aB,if_neg (by decide +kernel),aB,if_neg (by decide +kernel),aB,if_neg (by decide +kernel),aB,if_neg (by decide +kernel),hv,if_neg (by decide +kernel),if_neg (by decide +kernel),if_pos rfl]),(by rw [aB,if_neg (by decide +kernel),aB,if_neg (by decide +kernel),aB,if_neg (by decide +kernel),aB,if_neg (by decide +kernel),aB,if_neg (by decide +kernel),hv,if_neg (by decide +kernel),if_pos rfl]),(by rw [aB,if_neg (by decide +kernel),aB,if_neg (by decide +kernel),aB,if_neg (by decide +kernel),aB,if_neg (by decide +kernel),aB,if_neg (by decide +kernel),hv,if_pos rfl]),(by rw [aB,if_neg (by decide +kernel),aB,if_neg (by decide +kernel),aB,if_neg (by decide +kernel),aB,if_neg (by decide +kernel),aB,if_pos rfl]),(by rw [aB,if_neg (by decide +kernel),aB,if_neg (by decide +kernel),aB,if_neg (by decide +kernel),aB,if_pos rfl]),(by rw [aB,if_neg (by decide +kernel),aB,if_neg (by decide +kernel),aB,if_pos rfl]),(by rw [aB,if_neg (by decide +kernel),aB,if_pos rfl]),(by rw [aB,if_pos rfl]),r34 _ _ hw,r34 _ _ hk,r34 _ _ hf,r34 _ _ hs,(t6 _ _ m6),(t5 _ _ m5),⟨_,_,rfl,(t1 _ _ m1),(cc.name (SqT.of (r34 _ _ ho)))⟩,(t4 _ _ m4),(k1e▸Cz _ (cc.name (SqT.of (r34 _ _ ho))) (.pair (SqT.of (t2 _ _ m2)) (cc.name (SqT.of (r34 _ _ ho))) (.num (SqT.of (r34 _ _ hs))))),⟨_,_,rfl,SqT.of (t10 _ _ m10),_,_,_,rfl,SqT.of (t9 _ _ m9),SqT.of (t8 _ _ m8),.nil⟩,⟨_,_,rfl,SqT.of (t16 _ _ m16),_,_,_,rfl,SqT.of (t15 _ _ m15),SqT.of (t14 _ _ m14),.cons ⟨_,_,rfl,SqT.of (t13 _ _ m13),.name (SqT.of (t12 _ _ m12))⟩ .nil⟩,Cu (s:=(S.W 5,[])) _ ⟨_,_,_,rfl,SqT.of (t19 _ _ m19),SqT.of (t18 _ _ m18),.nil⟩,(t33 _ _ m33),.cons ⟨_,_,rfl,SqT.of (t31 _ _ m31),hm.same r34⟩ (.cons ⟨_,_,rfl,SqT.of (t32 _ _ m32),(.num (SqT.of (r34 _ _ hs)))⟩ (.cons ⟨_,_,_,_,_,rfl,SqT.of (t26 _ _ m26),SqT.of (t24 _ _ m24),.cons ⟨_,_,rfl,SqT.of (t23 _ _ m23),.name (SqT.of (t22 _ _ m22))⟩ .nil,(.num (SqT.of (r34 _ _ hs)))⟩ (.cons ⟨_,_,_,_,_,rfl,SqT.of (t30 _ _ m30),SqT.of (t27 _ _ m27),.nil,.name (SqT.of (t28 _ _ m28))⟩ .nil)))⟩
 refine⟨_,(@ag _ _ _ _ _ (pU (i0:=1) (own:=["_law_k"]) (caps:=["_law_script"]) (κ:=[0]) eX.nd rfl (Or.inl rfl) rfl ⟨rfl,by decide +kernel,by decide +kernel,rfl,rfl,lS rfl,lS ⟨.inl rfl,rfl,.inl rfl⟩⟩ rfl
   (eK rfl mr (@aa _ _ _ _ _ ai ae rfl)) (fun _ _ _ _=>pg0 ["_law_k","_law_script"])
   (fun _ _ _ _=>aD GW hr1 rfl mW kW bW .nil bx (@aa _ _ _ _ _ (aD GC hr1 rfl mC kC bC .nil bx (@aa _ _ _ _ _ (pv 1) (@aa _ _ _ _ _ ai ae rfl) rfl)) (@aa _ _ _ _ _ (pv 0) ae rfl) rfl)))
  (@ag _ _ _ _ _ (pU (i0:=2) (own:=["_law_k"]) (caps:=["_law_script"]) (κ:=[0]) eX.nd rfl (Or.inl rfl) rfl ⟨rfl,by decide +kernel,by decide +kernel,rfl,rfl,lS rfl,lS ⟨.inl rfl,rfl,.inl rfl⟩⟩ rfl
   (eK rfl mr (@aa _ _ _ _ _ ai ae rfl)) (fun _ _ _ _=>pg0 ["_law_k","_law_script"])
   (fun _ _ _ _=>aD GW hr1 rfl mW kW bW .nil bx (@aa _ _ _ _ _ (aD GC hr1 rfl mC kC bC .nil bx (@aa _ _ _ _ _ (pv 1) (@aa _ _ _ _ _ ai ae rfl) rfl)) (@aa _ _ _ _ _ (pv 0) ae rfl) rfl)))
  (@ag _ _ _ _ _ (pU (i0:=3) (own:=["_law_k"]) (caps:=["_law_script"]) (κ:=[0]) eX.nd rfl (Or.inl rfl) rfl ⟨rfl,by decide +kernel,by decide +kernel,rfl,rfl,lS rfl,lS ⟨.inl rfl,rfl,.inl rfl⟩⟩ rfl
   (eK rfl mr (@aa _ _ _ _ _ ai ae rfl)) (fun _ _ _ _=>pg0 ["_law_k","_law_script"])
   (fun _ _ _ _=>aD GW hr1 rfl mW kW bW .nil bx (@aa _ _ _ _ _ (aD GC hr1 rfl mC kC bC .nil bx (@aa _ _ _ _ _ (pv 1) (@aa _ _ _ _ _ ai ae rfl) rfl)) (@aa _ _ _ _ _ (pv 0) ae rfl) rfl)))
  (@ag _ _ _ _ _ (ba (i:=4) eX.nd (@ap _ _ _ _ _ (@aa _ _ _ _ _ am (@aa _ _ _ _ _ (bz fV ai (bz d9 (aD GC hr1 rfl mC kC bC .nil bx (@aa _ _ _ _ _ (pv 0) (@aa _ _ _ _ _ ai ae rfl) rfl)) (bz AO ai ai))) ae rfl) rfl)))
  (@ag _ _ _ _ _ (ba (i:=5) eX.nd (@ap _ _ _ _ _ (@aa _ _ _ _ _ am (@aa _ _ _ _ _ am (@aa _ _ _ _ _ (ix0 aw (pv 2) ai) ae rfl) rfl) rfl)))
  (@ag _ _ _ _ _ (ba (i:=6) eX.nd (@ap _ _ _ _ _ (@aa _ _ _ _ _ am (@aa _ _ _ _ _ (@ap _ _ _ _ _ (@aa _ _ _ _ _ am (@aa _ _ _ _ _ (ix0 aw (pv 1) ai) (@aa _ _ _ _ _ (ix0 aw (pv 2) ai) ae rfl) rfl) rfl)) (@aa _ _ _ _ _ (@ap _ _ _ _ _ (@aa _ _ _ _ _ am (@aa _ _ _ _ _ (ix0 aw (pv 1) ai) (@aa _ _ _ _ _ (ix0 aw (pv 2) ai) ae rfl) rfl) rfl)) ae rfl) rfl) rfl)))
  (@ag _ _ _ _ _ (@lK _ _ 7 _ _ _ _ eX.nd rfl (Or.inl rfl) (Cg (pv 1) (pv 2) (pv 3) (pv 4)) swD (Or.inl rfl))
  d7))))))),?_⟩
 refine⟨_,rfl,by decide,by decide,?_⟩
 refine uV (m:=7) (by decide) (fun i ys H2=>ys=(wds (bn ns 1) 0 i).map V.str) rfl (fun i ys _ h=>by rw [h,lm0,pX];exact Nat.le_refl _) ?_ ?_
 ·rintro i ys H2 N hN hi s2 rfl
  refine⟨rfl,gj ⟨_,rfl,a,ns,1,rfl,clA (s2),h63,by decide,by decide,fun c hc=>⟨_,rfl,c,(i:Int),rfl,fun H3 s3=>hN _ _ (s2.trans s3) ?_⟩⟩⟩
  rw [nN,ma0,hc,Int.zero_add]
  rfl
 rintro ys G1 wa z1 rfl n1
 have v1:=ad n1 (.lst ((wds (bn ns 1) 0 7).map V.str))
 have sa1:=z1.trans v1
 have f1:upd G1 wa (.lst ((wds (bn ns 1) 0 7).map V.str)) wa=some (.lst ((wds (bn ns 1) 0 7).map V.str)):=ac
 revert sa1 f1 v1
 generalize upd G1 wa (.lst ((wds (bn ns 1) 0 7).map V.str))=Ha
 intro v1 sa1 f1
 rw [pP] at f1
 refine⟨_,rfl,by decide,by decide,?_⟩
 refine uV (m:=6) (by decide) (fun i ys H2=>ys=(wds (bn ns 2) 0 i).map V.str) rfl (fun i ys _ h=>by rw [h,lm0,pX];exact Nat.le_refl _) ?_ ?_
 ·rintro i ys H2 N hN hi s2 rfl
  refine⟨rfl,gj ⟨_,rfl,a,ns,2,rfl,clA (sa1.trans s2),h63,by decide,by decide,fun c hc=>⟨_,rfl,c,(i:Int),rfl,fun H3 s3=>hN _ _ (s2.trans s3) ?_⟩⟩⟩
  rw [nN,ma0,hc,Int.zero_add]
  rfl
 rintro ys G2 ka z2 rfl n2
 have v2:=ad n2 (.lst ((wds (bn ns 2) 0 6).map V.str))
 have sa2:=sa1.trans (z2.trans v2)
 have f2:upd G2 ka (.lst ((wds (bn ns 2) 0 6).map V.str)) ka=some (.lst ((wds (bn ns 2) 0 6).map V.str)):=ac
 revert sa2 f2 v2
 generalize upd G2 ka (.lst ((wds (bn ns 2) 0 6).map V.str))=Hb
 intro v2 sa2 f2
 rw [pP] at f2
 refine⟨_,rfl,by decide,by decide,?_⟩
 refine uV (m:=4) (by decide) (fun i ys H2=>ys=(wds (bn ns 3) 0 i).map V.str) rfl (fun i ys _ h=>by rw [h,lm0,pX];exact Nat.le_refl _) ?_ ?_
 ·rintro i ys H2 N hN hi s2 rfl
  refine⟨rfl,gj ⟨_,rfl,a,ns,3,rfl,clA (sa2.trans s2),h63,by decide,by decide,fun c hc=>⟨_,rfl,c,(i:Int),rfl,fun H3 s3=>hN _ _ (s2.trans s3) ?_⟩⟩⟩
  rw [nN,ma0,hc,Int.zero_add]
  rfl
 rintro ys G3 fa z3 rfl n3
 have v3:=ad n3 (.lst ((wds (bn ns 3) 0 4).map V.str))
 have sa3:=sa2.trans (z3.trans v3)
 have f3:upd G3 fa (.lst ((wds (bn ns 3) 0 4).map V.str)) fa=some (.lst ((wds (bn ns 3) 0 4).map V.str)):=ac
 revert sa3 f3 v3
 generalize upd G3 fa (.lst ((wds (bn ns 3) 0 4).map V.str))=Hc
 intro v3 sa3 f3
 rw [pP] at f3
 refine⟨_,rfl,a,ns,4,rfl,clA sa3,h63,by decide,by decide,fun c4 _=>?_⟩
 refine⟨_,_,rfl,rfl,⟨by decide,by decide,by decide⟩,_,_,rfl,rfl,e18,_,_,rfl,rfl,(sz 2),fun sa hsn=>?_⟩
 have nb:0<=1+c4%(10:Int) ^ (18:Int).toNat/\1+c4%(10:Int) ^ (18:Int).toNat<=10 ^ 18:=by
  have b0:=Int.emod_nonneg c4 (Int.ne_of_gt e18)
  have b1:=Int.emod_lt_of_pos c4 e18
  have e:(10:Int) ^ (18:Int).toNat=1000000000000000000:=by decide
  have e':(10:Int) ^ 18=1000000000000000000:=by decide
  rw [e] at b0 b1 ⊢
  omega
 have v4:=ad hsn (.tup [.str "num",.int (1+c4%(10:Int) ^ (18:Int).toNat)])
 have sH:=sa3.trans v4
 obtain⟨S,hS⟩:∃S:SC,S=⟨fun i:Nat=>dP (bn ns 1) (i:Int),fun i:Nat=>dP (bn ns 2) (i:Int),fun i:Nat=>dP (bn ns 3) (i:Int),(1+c4%(10:Int) ^ (18:Int).toNat),decide (bn ns 5%2=1)⟩:=⟨_,rfl⟩
 have hw:upd Hc sa (.tup [.str "num",.int (1+c4%(10:Int) ^ (18:Int).toNat)]) wa=some (.lst (txs S.W 7)):=by rw [hS];exact(v4 _ _ (v3 _ _ (z3 _ _ (v2 _ _ (z2 _ _ f1)))))
 have hk:upd Hc sa (.tup [.str "num",.int (1+c4%(10:Int) ^ (18:Int).toNat)]) ka=some (.lst (txs S.T 6)):=by rw [hS];exact v4 _ _ (v3 _ _ (z3 _ _ f2))
 have hf:upd Hc sa (.tup [.str "num",.int (1+c4%(10:Int) ^ (18:Int).toNat)]) fa=some (.lst (txs S.F 4)):=by rw [hS];exact v4 _ _ f3
 have hs:upd Hc sa (.tup [.str "num",.int (1+c4%(10:Int) ^ (18:Int).toNat)]) sa=some (.tup [.str "num",.int S.n]):=by rw [hS];exact ac
 have sok:Am S:=by rw [hS];exact⟨⟨_,rfl⟩,⟨_,rfl⟩,⟨_,rfl⟩,nb.1,nb.2⟩
 refine⟨_,rfl,ka,_,_,_,rfl,rfl,SqL.of hk,(show atI (txs S.T 6) 0=some (.str (S.T 0)) from rfl),(sz 3),fun p1 h1=>?_⟩
 have e1:=ad h1 (.tup [.str "name",.str "",.str (S.T 0)])
 have s1:=e1
 refine⟨_,rfl,wa,_,_,_,rfl,rfl,SqL.of (s1 _ _ hw),(show atI (txs S.W 7) 1=some (.str (S.W 1)) from rfl),_,rfl,ka,_,_,_,rfl,rfl,SqL.of (s1 _ _ hk),(show atI (txs S.T 6) 0=some (.str (S.T 0)) from rfl),(sz 3),fun p2 h2=>?_⟩
 have e2:=ad h2 (.tup [.str "name",.str (S.W 1),.str (S.T 0)])
 have s2:=s1.trans e2
 refine⟨_,rfl,wa,_,_,_,rfl,rfl,SqL.of (s2 _ _ hw),(show atI (txs S.W 7) 2=some (.str (S.W 2)) from rfl),_,rfl,ka,_,_,_,rfl,rfl,SqL.of (s2 _ _ hk),(show atI (txs S.T 6) 1=some (.str (S.T 1)) from rfl),(sz 3),fun p3 h3=>?_⟩
 have e3:=ad h3 (.tup [.str "name",.str (S.W 2),.str (S.T 1)])
 have s3:=s2.trans e3
 refine⟨(sz 3),fun p4 h4=>?_⟩
 have e4:=ad h4 (.tup [.str "pair",.ref p2,.ref p3])
 have s4:=s3.trans e4
 have t3:=e4
 have t2:=e3.trans t3
 have t1:=e2.trans t2
 intro g hgn
 have dw:=Aw (x:=.dK []) (o:=.dK (ed [] [(.inr "words",V.ref wa),(.inr "kinds",.ref ka),(.inr "funs",.ref fa),(.inr "size",.ref sa)])) hgn
 refine⟨_,rfl,_,rfl,_,rfl,_,rfl,ac,[(.inr "words",.ref wa),(.inr "kinds",.ref ka),(.inr "funs",.ref fa),(.inr "size",.ref sa)],rfl,(by show 4<=15;decide),?_⟩
 refine k7 _ g wa ka fa sa _ _ _ _ S hS ((sH.trans s4).trans dw) ac (fQ [(.inr "words",V.ref wa),(.inr "kinds",.ref ka),(.inr "funs",.ref fa),(.inr "size",.ref sa)] []) (fun z=>?_) sok (dw _ _ (s4 _ _ hw)) (dw _ _ (s4 _ _ hk)) (dw _ _ (s4 _ _ hf)) (dw _ _ (s4 _ _ hs)) (dw _ _ (t1 _ _ ac)) (cc.same dw (.pair (SqT.of ac) (.name (SqT.of (t2 _ _ ac))) (.name (SqT.of (t3 _ _ ac)))))
 unfold ed
 simp only [List.foldl_cons,List.foldl_nil,aB]
 rfl
def tL:Nat->Str
 |0=>"twice"
 |1=>"name"
 |2=>"kind"
 |_=>"big"
def lN(K:W.Frag)(CN:Addr)(cl:Nat->Addr):Sp:=fun vs H Q _=>∃(e:Addr) (so:Str) (rv:V) (pz:Str),vs=[.ref e,.str so,rv,.str pz] /\
  ((∃(c:Nat) (d:Option Addr),c<=3/\so=tL c/\H e=some (.ext (gT e (.ref (cl c)) d))) \/
   ∃(dx:Addr) (r:Str × PyData × PyData),so="fit"/\H e=some (.ext (gT e (.ref CN) (some dx)))/\XOk K H (some dx) (.str pz) r/\kI K H rv (some r)/\AlD 40 (.tuple [.str pz,.str r.1,r.2.1,r.2.2]))/\∀H',aE H H'->Q (.bl true) H'
abbrev reN:List Str:=["_law_caught","_law_sort","_law_rest","_law_part","_law_kinds"]
abbrev reP:List Str:=["_law_caught","_law_sort","_law_rest","_law_part"]
theorem Az{X:Cx}{D:Addr}(c:fW K D)(h:X.K=K):gM X (.builtin "isinstance") (fun xs H Q=>∃e d y u b,xs=[.ref e,y]/\cy y u/\(∀u',cy y u'->u'=u)/\H e=some (.ext (gT e (.ref D) d))/\W.kitOne K (.ref D) u=some b/\Q (.bl b) H):=by
 subst h
 exact vH c
theorem wA{X:Cx}{e:Expr}{f:Str}{pos:Pos}{ta:TE}(h:X.K=K)(he:PE X e ta)(hb:attributeBase e f X.env (eval e X.env)=eval e X.env):PE X (.Attribute e f pos)
  (fun σ H Q=>ta σ H fun x H1=>∃a D dx fs v,x=.ref a/\fW K D/\W.hasDictIn K D=true/\W.findIn K (.ref D) f=some none/\H1 a=some (.ext (gT a (.ref D) (some dx)))/\H1 dx=some (.ext (rZ dx fs))/\fs.lookup f=some v/\Q v H1):=by
 subst h
 exact yO he hb
theorem lA:aO reN reP (ah fF):=mkS
theorem pq{f fa CN:Addr}{cl:Nat->Addr}{fd fda:FuncData} (F:Fun K "_law_refused" "_law_refused" fF f fd)
  (GA:bq P w K mg base CX0 40 fa fda alN (pC K 40)) (bA:aV K fda alN []) (kA:W.keepIn K (.ref fa)=true) (mA:mg "_law_alike"=some (.ref fa)) (mi:mg "isinstance"=none)
  (m0:mg "Twice"=some (.ref (cl 0))) (m1:mg "NoName"=some (.ref (cl 1))) (m2:mg "NoKind"=some (.ref (cl 2))) (m3:mg "TooBig"=some (.ref (cl 3))) (mN:mg "NoFit"=some (.ref CN))
  (cN:fW K CN) (hdN:W.hasDictIn K CN=true) (f1:W.findIn K (.ref CN) "part"=some none) (f2:W.findIn K (.ref CN) "name"=some none) (f3:W.findIn K (.ref CN) "due"=some none) (f4:W.findIn K (.ref CN) "found"=some none)
  (jN:W.kitOne K (.ref CN) (.ref CN)=some true) (cE':∀c,c<=3->fW K (cl c)) (jE:∀c,c<=3->W.kitOne K (.ref (cl c)) (.ref (cl 0))=some (decide (c=0))/\W.kitOne K (.ref (cl c)) (.ref (cl 1))=some (decide (c=1))/\W.kitOne K (.ref (cl c)) (.ref (cl 2))=some (decide (c=2))/\W.kitOne K (.ref (cl c)) (.ref (cl 3))=some (decide (c=3))) :
  bq P w K mg base CX0 41 f fd reP (lN K CN cl):=by
 refine F.k0 lA fun cdv A outer s H vs Q E hr h=>?_
 obtain⟨e,so,rv,pz,rfl,h,q⟩:=h
 have hu64:=hr.units
 have hr40:cG 40 _:=hr.mono (by decide)
 rcases h with ⟨c,d,hc,rfl,he⟩|⟨dx,r,rfl,he,⟨dx',u,v,e1,hdx,du,dv⟩,⟨ra,ru,rf,rfl,hra,dru,drf⟩,hal⟩
 ·have cE:=cE' c hc
  obtain⟨j0,j1,j2,j3⟩:=jE c hc
  refine⟨_,@ag _ _ _ _ _ (cg (aX dA (pv 1) am (aZ _)) yo aU)
   (@ag _ _ _ _ _ (ba (i:=4) lA.nd (cU (@aa _ _ _ _ _ (bu (Az cE rfl) rfl mi dh (@aa _ _ _ _ _ (pv 0) (@aa _ _ _ _ _ (iS rfl m1 (v:=.ref (cl 1)) rfl) ae rfl) rfl)) (@aa _ _ _ _ _ (bu (Az cE rfl) rfl mi dh (@aa _ _ _ _ _ (pv 0) (@aa _ _ _ _ _ (iS rfl m2 (v:=.ref (cl 2)) rfl) ae rfl) rfl)) (@aa _ _ _ _ _ (bu (Az cE rfl) rfl mi dh (@aa _ _ _ _ _ (pv 0) (@aa _ _ _ _ _ (iS rfl m0 (v:=.ref (cl 0)) rfl) ae rfl) rfl)) ae rfl) rfl) rfl)))
   (@ag _ _ _ _ _ (cW (sQ PySem.F.plainAttrs_list PySem.F.slot_list_append PySem.F.type_list_append fL (pv 4) (@aa _ _ _ _ _ (bu (Az cE rfl) rfl mi dh (@aa _ _ _ _ _ (pv 0) (@aa _ _ _ _ _ (iS rfl m3 (v:=.ref (cl 3)) rfl) ae rfl) rfl)) ae rfl)))
   (@ao _ _ _ (@aS _ _ _ _ (eZ (yj hu64) (pv 4) (cU (@aa _ _ _ _ _ (eZ dA (pv 1) am (aZ _)) (@aa _ _ _ _ _ (eZ dA (pv 1) am (aZ _)) (@aa _ _ _ _ _ (eZ dA (pv 1) am (aZ _)) (@aa _ _ _ _ _ (eZ dA (pv 1) am (aZ _)) ae rfl) rfl) rfl) rfl)) (aZ _)))))),?_⟩
  refine⟨_,rfl,rfl,_,rfl,dL (fun z=>?_) (fun _=>?_)⟩
  ·exfalso
   have z':decide ((V.str (tL c))=.str "fit")=true:=z
   have:V.str (tL c)=.str "fit":=od0 z'
   injection this with this
   revert this
   match c,hc with
   |0,_=>decide +kernel
   |1,_=>decide +kernel
   |2,_=>decide +kernel
   |3,_=>decide +kernel
  refine⟨_,rfl,e,_,_,_,_,rfl,rfl,(fun _ z=>z),he,j1,_,rfl,e,_,_,_,_,rfl,rfl,(fun _ z=>z),he,j2,_,rfl,e,_,_,_,_,rfl,rfl,(fun _ z=>z),he,j0,(sz 3),fun l hl=>?_⟩
  have s1:=ad hl (.lst [.bl (decide (c=1)),.bl (decide (c=2)),.bl (decide (c=0))])
  refine⟨_,rfl,.inl ⟨rfl,_,SqL.of ac⟩,_,rfl,e,_,_,_,_,rfl,rfl,(fun _ z=>z),s1 _ _ he,j3,l,_,_,rfl,rfl,ac,Nat.lt_of_lt_of_le (Nat.lt_succ_self _) (dX (by show 3+1<=1000;decide)),?_⟩
  have s2:aE H (upd (upd H l (.lst [.bl (decide (c=1)),.bl (decide (c=2)),.bl (decide (c=0))])) l (.lst [.bl (decide (c=1)),.bl (decide (c=2)),.bl (decide (c=0)),.bl (decide (c=3))])):=fun b o hb=>by
   have:b≠l:=fun z=>by rw [z,hl] at hb;cases hb
   rw [aj this,aj this]
   exact hb
  refine⟨_,rfl,_,rfl,rfl,_,rfl,rfl,_,rfl,rfl,_,rfl,rfl,(sz 4),fun l2 hl2=>?_⟩
  have s3:=ad hl2 (.lst [.bl (decide (V.str (tL c)=.str "name")),.bl (decide (V.str (tL c)=.str "kind")),.bl (decide (V.str (tL c)=.str "twice")),.bl (decide (V.str (tL c)=.str "big"))])
  refine⟨_,_,.lst (SqL.of (s3 _ _ ac)) (.cons (.bl _) (.cons (.bl _) (.cons (.bl _) (.cons (.bl _) .nil)))),.lst (SqL.of ac) (.cons (.bl _) (.cons (.bl _) (.cons (.bl _) (.cons (.bl _) .nil)))),rfl,rfl,?_⟩
  have ev:PyData.eqv (.list [.bool (decide (c=1)),.bool (decide (c=2)),.bool (decide (c=0)),.bool (decide (c=3))]) (.list [.bool (decide (V.str (tL c)=.str "name")),.bool (decide (V.str (tL c)=.str "kind")),.bool (decide (V.str (tL c)=.str "twice")),.bool (decide (V.str (tL c)=.str "big"))])=true:=by
   match c,hc with
   |0,_=>decide +kernel
   |1,_=>decide +kernel
   |2,_=>decide +kernel
   |3,_=>decide +kernel
  have:=q _ (s2.trans s3)
  rw [<-ev] at this
  exact this
 ·obtain rfl:dx=dx':=Option.some.inj e1
  refine⟨_,@ag _ _ _ _ _ (cg (aX dA (pv 1) am (aZ _)) (@ag _ _ _ _ _ (cg (jl (L2.pt_val (bu (Az cN rfl) rfl mi dh (@aa _ _ _ _ _ (pv 0) (@aa _ _ _ _ _ (iS rfl mN (v:=.ref CN) rfl) ae rfl) rfl)))) (@ao _ _ _ (@aS _ _ _ _ oP)) aU)
   (@ao _ _ _ (@aS _ _ _ _ (aD GA hr40 rfl mA kA bA .nil bx (@aa _ _ _ _ _ (@ap _ _ _ _ _ (@aa _ _ _ _ _ (wA (K:=K) rfl (pv 0) rfl) (@aa _ _ _ _ _ (wA (K:=K) rfl (pv 0) rfl) (@aa _ _ _ _ _ (wA (K:=K) rfl (pv 0) rfl) (@aa _ _ _ _ _ (wA (K:=K) rfl (pv 0) rfl) ae rfl) rfl) rfl) rfl)) (@aa _ _ _ _ _ (bz vQ (@ap _ _ _ _ _ (@aa _ _ _ _ _ (pv 3) ae rfl)) (pv 2)) ae rfl) rfl))))) aU) yo,?_⟩
  refine⟨_,rfl,rfl,_,rfl,dL (fun _=>?_) (fun z=>absurd rfl z)⟩
  refine⟨_,rfl,e,_,_,_,true,rfl,rfl,(fun _ z=>z),he,jN,true,rfl,nV ?_⟩
  refine⟨_,rfl,e,CN,dx,_,_,rfl,cN,hdN,f1,he,hdx,xO _ _ _ _,_,rfl,e,CN,dx,_,_,rfl,cN,hdN,f2,he,hdx,wC _ _ _ _,_,rfl,e,CN,dx,_,_,rfl,cN,hdN,f3,he,hdx,yF _ _ _ _,_,rfl,e,CN,dx,_,_,rfl,cN,hdN,f4,he,hdx,vW _ _ _ _,(sz 4),fun t1 h1=>?_⟩
  have s1:=ad h1 (.tup [.str pz,.str r.1,u,v])
  refine⟨_,rfl,(sz 1),fun t2 h2=>?_⟩
  have s2:=ad h2 (.tup [.str pz])
  have s12:=s1.trans s2
  refine⟨_,rfl,t2,ra,_,_,rfl,rfl,SqT.of ac,s12.tup hra,(fun z=>nomatch z),(by show 1+3<=sizeLine;decide),(fun z=>nomatch z),fun _ t3 h3=>?_⟩
  have s3:=ad h3 (.tup [.str pz,.str r.1,ru,rf])
  have s13:=s12.trans s3
  exact⟨.ref t1,.ref t3,_,rfl,.tup (SqT.of ((s2.trans s3) _ _ ac)) (.cons (.str _) (.cons (.str _) (.cons (du.same s13) (.cons (dv.same s13) .nil)))),.tup (SqT.of ac) (.cons (.str _) (.cons (.str _) (.cons (dru.same s13) (.cons (drf.same s13) .nil)))),hal,fun H' s'=>q _ (s13.trans s')⟩
def fc1(S:SC):aq:=[(S.T 0,fM (S.T 0)),(S.T 1,k1K S)]
def fc2(S:SC):bi:=[(S.F 0,([fM (S.T 0)],.num 2))]
def flS(S:SC):bp:=[(S.W 4,(fc1 S,fc2 S)),(S.W 5,(sr1 S,sr2 S))]
def DK(K:W.Frag)(CF CM CN:Addr)(cl:Nat->Addr)(pz:Str)(H:Hp)(Q:VK):MR->Prop
 |.ok _ r=>∀(H':Hp) (t x dx rf:Addr) (fs:List (Str × V)),aE H H'->H' t=some (.tup [.ref x,.non])->H' x=some (.ins CM dx fs)->fs.lookup ("result":Str)=some (.ref rf)->dZ K H' CF rf r.1 r.2->Q (.ref t) H'
 |.ref c=>∀(H':Hp) (t e:Addr) (d:Option Addr),aE H H'->H' t=some (.tup [.non,.ref e])->H' e=some (.ext (gT e (.ref (cl c)) d))->Q (.ref t) H'
 |.unfit r=>∀(H':Hp) (t e dx:Addr),aE H H'->H' t=some (.tup [.non,.ref e])->H' e=some (.ext (gT e (.ref CN) (some dx)))->XOk K H' (some dx) (.str pz) r->Q (.ref t) H'
def uH(K:W.Frag)(CF CM CN:Addr)(cl:Nat->Addr):Sp:=fun vs H Q _=>∃(g g0:Addr) (S:SC) (f1 f2:Str × (Str × aq)) (sl:Option (Str × aq)) (its:List It) (f1' f2':Str × (Str × aq)) (sl':Option (Str × aq)) (its':List It),vs=[.ref g,.ref g0]/\jr K H g S f1 f2 sl its/\jr K H g0 S f1' f2' sl' its' /\
 ((flS S).map (·.1)).Nodup/\((fc1 S).map (·.1)).Nodup/\((sr1 S).map (·.1)).Nodup/\((sr2 S).map (·.1)).Nodup/\DOk (flS S) [] ⟨S.W 3,[f1,f2],sl,its⟩/\DK K CF CM CN cl (S.W 3) H Q (cR (flS S) [] ⟨S.W 3,[f1,f2],sl,its⟩)
theorem XOk.same{K:W.Frag}{H H':Hp}{d:Option Addr}{part:V}{r:Str × PyData × PyData}(s:aE H H')(h:XOk K H d part r):XOk K H' d part r:=by
 obtain⟨dx,u,f,h1,h2,h3,h4⟩:=h
 exact⟨dx,u,f,h1,s _ _ h2,h3.same s,h4.same s⟩
theorem sY.same{K:W.Frag}{H H':Hp}{a:Addr}{D:Dcl}(e:aE H H')(h:sY K H a D):sY K H' a D:=by
 obtain⟨ta,ia,sv,xs,ys,h1,h2,h3,h4,h5,h6⟩:=h
 exact⟨ta,ia,sv,xs,ys,e.tup h1,e.tup h2,Paired.mapP h3 fun _ _ t=>t.same e,h4.same e,e.tup h5,Paired.mapP h6 fun _ _ t=>t.same e⟩
theorem vV{K:W.Frag}{H1 H7:Hp}{CF x dx' d e:Addr}{fs':List (Str × V)}{kv1 kv2:List (Key × V)}{m1:aq}{m2:bi}(nx:H1 x=none)(ndx:H1 dx'=none)(nex:dx'≠x)
  (hk1:dM (cc K H1) kv1 m1) (hk2:dM (db K H1) kv2 m2) (hx:H7 x=some (.ins CF dx' fs')) (lk:fs'.lookup ("kinds":Str)=some (.ref d)) (lf:fs'.lookup ("funs":Str)=some (.ref e))
  (lh:fs'.lookup ("hidden":Str)=none) (lp:fs'.lookup ("put":Str)=none) (hd7:H7 d=some (.dK kv1)) (he7:H7 e=some (.dK kv2)) (keep:∀c o,upd (upd H1 dx' (.own x)) x (.ins CF dx' []) c=some o->c≠x->H7 c=some o) :
  aE H1 H7/\dZ K H7 CF x m1 m2:=by
 have nx':upd H1 dx' (.own x) x=none:=by rw [aj (Ne.symm nex)];exact nx
 have eab:=(ad ndx (.own x)).trans (ad nx' (.ins CF dx' []))
 have s7:aE H1 H7:=fun b o hb=>keep b o (eab _ _ hb) (fun z=>by rw [z,nx] at hb;cases hb)
 exact⟨s7,dx',d,e,fs',_,_,hx,lk,lf,hd7,he7,hk1.imp fun v y h=>h.same s7,hk2.imp fun v y h=>h.keep fun a xs t=>s7.tup t,lh,lp⟩
theorem vL{H1:Hp}{CF x dx':Addr}(nx:H1 x=none)(ndx:H1 dx'=none)(nex:dx'≠x):aE H1 (upd (upd H1 dx' (.own x)) x (.ins CF dx' [])):=by
 have nx':upd H1 dx' (.own x) x=none:=by rw [aj (Ne.symm nex)];exact nx
 exact(ad ndx (.own x)).trans (ad nx' (.ins CF dx' []))
theorem Cr{X:Cx}{pos:Pos}{k1 v1:Expr}{a1 t1:TE}(h1:PE X k1 a1)(h2:PE X v1 t1):PE X (.Dict [some k1] [v1] pos) (wj [(a1,t1)]):=pI (fT h1 h2 qc) rfl rfl (fun e=>nomatch e) (Nat.le_of_ble_eq_true rfl)
theorem Ce{X:Cx}{pos:Pos}{k1 v1 k2 v2:Expr}{a1 t1 a2 t2:TE}(h1:PE X k1 a1)(h2:PE X v1 t1)(h3:PE X k2 a2)(h4:PE X v2 t2):PE X (.Dict [some k1,some k2] [v1,v2] pos) (wj [(a1,t1),(a2,t2)]):=pI (fT h1 h2 (fT h3 h4 qc)) rfl rfl (fun e=>nomatch e) (Nat.le_of_ble_eq_true rfl)
abbrev asN:List Str:=["_law_got","_law_base","_law_found","_law_caught","_law_words","_law_declaration","_law_formal","_law_sealing_here","_law_faces","e"]
abbrev asP:List Str:=["_law_got","_law_base"]
theorem eC:aO asN asP (ah gP):=mkS
theorem wE{f fk fs fi CF CM CN CR:Addr}{cl:Nat->Addr}{fd fdk fds fdi:FuncData} (F:Fun K "_law_asked" "_law_asked" gP f fd)
  (GK:bq P w K mg base (CX1 P w) 47 fk fdk mkP (oE K CF CM CN cl)) (bK:aV K fdk mkP []) (kK:W.keepIn K (.ref fk)=true) (mK:mg "maker_of"=some (.ref fk))
  (GS:bq P w K mg base CX0 1 fs fds ["_law_got"] (kr K)) (bS:aV K fds ["_law_got"] []) (kS:W.keepIn K (.ref fs)=true) (mS:mg "_law_sealing"=some (.ref fs))
  (GI:bq P w K mg base CX0 1 fi fdi ["self","kinds","funs"] (iD CF)) (bI:aV K fdi ["self","kinds","funs"] []) (MF:Mk K CF fi) (mC:mg "Face"=some (.ref CF)) (md:mg "dict"=none) (mt:mg "tuple"=none)
  (mR:mg "Refused"=some (.ref CR)) (xN:W.exmOne K (.ref CN) (.ref CR)=some true) (xE:∀c,W.exmOne K (.ref (cl c)) (.ref CR)=some true) :
  bq P w K mg base CX0 48 f fd asP (uH K CF CM CN cl):=by
 refine F.k0 eC fun cdv A outer s H vs Q E hr h=>?_
 obtain⟨g,g0,S,f1,f2,sl,its,f1',f2',sl',its',rfl,⟨gkv,hg,wa,ka,fa',sa,fc,kl,ia,y0,y1,z1,x1,x2,x3,ys,FG⟩,hG0,ndF,nd1,nd2,nd3,hD,hR⟩:=h
 have hu:=dY hr
 have hu8:=Nat.lt_of_le_of_lt (Nat.add_le_add_left (show 8<=64 by decide) _) hr.units
 have hr1:cG 1 _:=hr.mono (by decide)
 have hr2:cG (1+1) _:=hr.mono (by decide)
 obtain⟨th,hh,hN⟩:∃th,PH (ee CX0 P w K mg base asN "_law_asked" (ah gP) f cdv A outer s H E).nox (Cf (List.drop 7 (ar gP))) th /\
   (∀D C d e H' wa da fo sh fa,W.exmOne K (.ref C) (.ref CR)=some true->H' e=none->(∀H2 x,aE H' H2->H2 e=some (.ext (gT e (.ref C) d))->D.nx [some (.ref g),some (.ref g0),some .non,some (.ref e),some (.ref wa),some (.ref da),some (.ref fo),some (.ref sh),some (.ref fa),x] H2)->th D (.ref C) d e [some (.ref g),some (.ref g0),some .non,some .non,some (.ref wa),some (.ref da),some (.ref fo),some (.ref sh),some (.ref fa),none] H'):=by
  refine⟨_,Ct (i:=9) rfl eC.nd rfl rfl rfl mR (fun e=>ao (ba (i:=3) eC.nd (pv 9))) AH,?_⟩
  intro D C d e H' wa da fo sh fa x1 he q
  exact⟨true,x1,qT ⟨_,rfl,q _ _ (ad he _) ac⟩⟩
 obtain⟨t7,d7,k7⟩:∃t,PSs (ee CX0 P w K mg base asN "_law_asked" (ah gP) f cdv A outer s H E).nox (List.drop 7 (ar gP)) t/\∀(H1:Hp) (wa da fo sh fa:Addr),aE H H1->sY K H1 da ⟨S.W 3,[f1,f2],sl,its⟩->iA K H1 CF fa (flS S) ->
   t { nx:=fun _ H'=>Q .non H',rt:=Q } [some (.ref g),some (.ref g0),some .non,some .non,some (.ref wa),some (.ref da),some (.ref fo),some (.ref sh),some (.ref fa),none] H1:=by
  refine⟨_,(ag (BS fun pins D=>ao (ba (i:=2) eC.nd (xC GK hr rfl mK kK bK .nil (Ca rfl rfl hh) (aa (pv 5) (aa (pv 8) (aa gA ae))))))
   (ao (aS (ap (aa (pv 2) (aa (pv 3) ae)))))),?_⟩
  intro H1 wa da fo sh fa s1 hda hfa
  refine⟨_,rfl,_,rfl,fun pa hpa=>?_⟩
  have s2:=ad hpa (.dK [])
  have s12:=s1.trans s2
  refine⟨da,fa,pa,_,flS S,[],rfl,hda.same s2,hfa.same s2,⟨[],ac,.nil⟩,hD,?_⟩
  revert hR
  cases cR (flS S) [] ⟨S.W 3,[f1,f2],sl,its⟩ with
  |ok l r =>
   intro hR H3 x s3 hx hM
   obtain⟨dx,l',rf,fs',ys',n1,n2,n3,hx3,lf,lr,hl',hp,hF⟩:=hM
   refine⟨_,rfl,_,rfl,(sz 2),fun t ht=>?_⟩
   have st:=ad ht (.tup [.ref x,.non])
   obtain⟨dx',d1,d2,fs2,kv1,kv2,_,_,_,hx',f1',f2',g1,g2,k1,k2,f3,f4⟩:=hF
   exact hR _ t x dx rf fs' (s12.trans (s3.trans st)) ac (st _ _ hx3) lr ⟨dx',d1,d2,fs2,kv1,kv2,st _ _ hx',f1',f2',st _ _ g1,st _ _ g2,k1.imp fun _ _ t=>t.same st,k2.imp fun _ _ t=>t.keep fun _ _ h=>st.tup h,f3,f4⟩
  |ref c =>
   intro hR H3 s3 e he
   refine hN _ _ _ _ _ _ _ _ _ _ (xE c) he fun H4 x s4 h4=>?_
   refine⟨_,rfl,_,rfl,(sz 2),fun t ht=>?_⟩
   have st:=ad ht (.tup [.non,.ref e])
   exact hR _ t e _ (s12.trans (s3.trans (s4.trans st))) ac (st _ _ h4)
  |unfit r =>
   intro hR d H3 s3 hX e he
   refine hN _ _ _ _ _ _ _ _ _ _ xN he fun H4 x s4 h4=>?_
   obtain⟨dx,u,v,rfl,hdx,du,dv⟩:=hX
   refine⟨_,rfl,_,rfl,(sz 2),fun t ht=>?_⟩
   have st:=ad ht (.tup [.non,.ref e])
   exact hR _ t e dx (s12.trans (s3.trans (s4.trans st))) ac (st _ _ h4) (XOk.same (s4.trans st) ⟨dx,u,v,rfl,hdx,du,dv⟩)
 refine⟨_,(@ag _ _ _ _ _ (ba (i:=2) eC.nd cL)
  (@ag _ _ _ _ _ (ba (i:=3) eC.nd cL)
  (@ag _ _ _ _ _ (ba (i:=4) eC.nd (aJ hu (pv 0) am (fun _ _=>rfl)))
  (@ag _ _ _ _ _ (ba (i:=5) eC.nd (@ap _ _ _ _ _ (@aa _ _ _ _ _ am (@aa _ _ _ _ _ (ix0 aw (pv 4) ai) (@aa _ _ _ _ _ (@ap _ _ _ _ _ (@aa _ _ _ _ _ (aJ hu (pv 0) am (fun _ _=>rfl)) (@aa _ _ _ _ _ (aJ hu (pv 0) am (fun _ _=>rfl)) ae rfl) rfl)) (@aa _ _ _ _ _ (aJ hu (pv 0) am (fun _ _=>rfl)) (@aa _ _ _ _ _ (bE dj rfl mt dm (@aa _ _ _ _ _ (aJ hu (pv 0) am (fun _ _=>rfl)) ae rfl)) ae rfl) rfl) rfl) rfl) rfl)))
  (@ag _ _ _ _ _ (ba (i:=6) eC.nd (fU MF GI hr2 (by rfl) mC bI .nil bx (@aa _ _ _ _ _ (bE (dW rfl hu8) rfl md d6 (@aa _ _ _ _ _ (ix0 (r:=yH K) bj (aJ hu (pv 0) am (fun _ _=>rfl)) ai) ae rfl)) (@aa _ _ _ _ _ (Cr (ix0 (r:=yH K) bj (aJ hu (pv 0) am (fun _ _=>rfl)) ai) (@ap _ _ _ _ _ (@aa _ _ _ _ _ (@ap _ _ _ _ _ (@aa _ _ _ _ _ (@ap _ _ _ _ _ (@aa _ _ _ _ _ am (@aa _ _ _ _ _ am (@aa _ _ _ _ _ (ix0 aw (aJ hu (pv 0) am (fun _ _=>rfl)) ai) ae rfl) rfl) rfl)) ae rfl)) (@aa _ _ _ _ _ (@ap _ _ _ _ _ (@aa _ _ _ _ _ am (@aa _ _ _ _ _ ai ae rfl) rfl)) ae rfl) rfl))) ae rfl) rfl)))
  (@ag _ _ _ _ _ (ba (i:=7) eC.nd (aD GS hr1 rfl mS kS bS .nil bx (@aa _ _ _ _ _ (pv 1) ae rfl)))
  (@ag _ _ _ _ _ (@lK _ _ 8 _ _ _ _ eC.nd rfl (Or.inl rfl) (Ce (ix0 aw (pv 4) ai) (pv 6) (ix0 aw (pv 4) ai) (fU MF GI hr2 (by rfl) mC bI .nil bx (@aa _ _ _ _ _ (bE (dW rfl hu8) rfl md d6 (@aa _ _ _ _ _ (ix0 (r:=yH K) bj (pv 7) ai) ae rfl)) (@aa _ _ _ _ _ (bE (dW rfl hu8) rfl md d6 (@aa _ _ _ _ _ (ix0 (r:=yH K) bj (pv 7) ai) ae rfl)) ae rfl) rfl))) swD (Or.inl rfl))
  d7))))))),?_⟩
 refine⟨_,rfl,g,.ref wa,rfl,FG.vw▸cT.k (k:=.inr "words") hg,_,rfl,wa,_,_,_,rfl,rfl,SqL.of FG.hw,(show atI (txs S.W 7) 3=some (.str (S.W 3)) from rfl),_,rfl,g,x1,rfl,FG.v1▸cT.k (k:=.inr "first") hg,_,rfl,g,x2,rfl,FG.v2▸cT.k (k:=.inr "second") hg,(sz 2),fun p1 h1=>?_⟩
 have e1:=ad h1 (.tup [x1,x2])
 have s1:=e1
 refine⟨_,rfl,g,x3,rfl,FG.v3▸cT.k (k:=.inr "seal") (s1 _ _ hg),_,rfl,g,.ref ia,rfl,FG.vi▸cT.k (k:=.inr "items") (s1 _ _ hg),ia,_,rfl,.inl ⟨SqL.of (s1 _ _ FG.hi),fun p2 h2=>?_⟩⟩
 have e2:=ad h2 (.tup ys)
 have s2:=s1.trans e2
 refine⟨(sz 5),fun p3 h3=>?_⟩
 have e3:=ad h3 (.tup [.str "maker",.str (S.W 3),.ref p1,x3,.ref p2])
 have s3:=s2.trans e3
 have t2:=e3
 have t1:=e2.trans t2
 have hda:sY K _ p3 ⟨S.W 3,[f1,f2],sl,its⟩:=⟨_,_,_,_,_,SqT.of ac,SqT.of (t1 _ _ ac),.cons (FG.h1.same s3) (.cons (FG.h2.same s3) .nil),FG.h3.same s3,SqT.of (t2 _ _ ac),Paired.mapP FG.py fun _ _ t=>t.same s3⟩
 have F3:=FG.same s3
 have hg3:=s3 _ _ hg
 revert hda F3 hg3
 have sA:=s3
 clear t1 t2
 revert sA
 generalize upd (upd (upd H p1 (.tup [x1,x2])) p2 (.tup ys)) p3 (.tup [.str "maker",.str (S.W 3),.ref p1,x3,.ref p2])=HA
 intro sA hda F3 hg3
 have hR1:Ac K HA kl (fc1 S):=⟨_,F3.hl,.cons F3.p0 (.cons ⟨_,_,rfl,F3.p1,F3.p2⟩ .nil)⟩
 obtain⟨as1,ps1,hl1,hp1,hn1,hk1⟩:=vz hR1 nd1
 refine⟨_,rfl,g,.ref fc,rfl,F3.vc▸cT.k (k:=.inr "face") hg3,fc,_,_,_,rfl,rfl,SqT.of F3.hc,(show atI [V.ref kl,.str (S.F 0)] 0=some (.ref kl) from rfl),kl,as1,ps1,rfl,hl1,hp1,Nat.lt_of_lt_of_le (Nat.lt_succ_self _) (dX (by rw [hn1];show 2+1<=1000;decide)),fun d1 hd1=>?_⟩
 have a1:=ad hd1 (.dK (gq [] ps1))
 intro d2 hd2
 have a2:=ad hd2 (.dK [])
 have a12:=a1.trans a2
 refine⟨_,rfl,g,.ref fc,rfl,F3.vc▸cT.k (k:=.inr "face") (a12 _ _ hg3),fc,_,_,_,rfl,rfl,SqT.of (a12 _ _ F3.hc),(show atI [V.ref kl,.str (S.F 0)] 1=some (.str (S.F 0)) from rfl),?_⟩
 refine⟨_,rfl,g,.ref ka,rfl,F3.vk▸cT.k (k:=.inr "kinds") (a12 _ _ hg3),ka,_,_,_,rfl,rfl,SqL.of (a12 _ _ F3.hk),(show atI (txs S.T 6) 0=some (.str (S.T 0)) from rfl),(sz 3),fun b1 hb1=>?_⟩
 have i1:=ad hb1 (.tup [.str "name",.str "",.str (S.T 0)])
 refine⟨(sz 1),fun b2 hb2=>?_⟩
 have i2:=ad hb2 (.tup [.ref b1])
 refine⟨(sz 2),fun b3 hb3=>?_⟩
 have i3:=ad hb3 (.tup [.str "num",.int 2])
 refine⟨(sz 2),fun b4 hb4=>?_⟩
 have i4:=ad hb4 (.tup [.ref b2,.ref b3])
 have i34:=i3.trans i4
 have i24:=i2.trans i34
 have i14:=i1.trans i24
 have hd24:=i14 _ _ (ac (H:=upd HA d1 (.dK (gq [] ps1))) (a:=d2) (o:=.dK []))
 refine⟨hd24,[(.inr (S.F 0),.ref b4)],rfl,(by show 1<=15;decide),?_⟩
 have sB:aE (upd HA d1 (.dK (gq [] ps1))) (upd (upd (upd (upd (upd (upd (upd HA d1 (.dK (gq [] ps1))) d2 (.dK [])) b1 (.tup [.str "name",.str "",.str (S.T 0)])) b2 (.tup [.ref b1])) b3 (.tup [.str "num",.int 2])) b4 (.tup [.ref b2,.ref b3])) d2 (.dK (ed [] [(.inr (S.F 0),.ref b4)]))):=fun b o hb=>by
  rw [aj (fun z=>by rw [z,hd2] at hb;cases hb)]
  exact(a2.trans i14) _ _ hb
 have kpB:∀{a:Addr} {xs:List V},SqT K (upd (upd (upd (upd (upd (upd HA d1 (.dK (gq [] ps1))) d2 (.dK [])) b1 (.tup [.str "name",.str "",.str (S.T 0)])) b2 (.tup [.ref b1])) b3 (.tup [.str "num",.int 2])) b4 (.tup [.ref b2,.ref b3])) a xs->SqT K (upd (upd (upd (upd (upd (upd (upd HA d1 (.dK (gq [] ps1))) d2 (.dK [])) b1 (.tup [.str "name",.str "",.str (S.T 0)])) b2 (.tup [.ref b1])) b3 (.tup [.str "num",.int 2])) b4 (.tup [.ref b2,.ref b3])) d2 (.dK (ed [] [(.inr (S.F 0),.ref b4)]))) a xs:=fun {a xs} h=>by
  have h1:=oZ hd24 (fun ys=>⟨fun z=>(nomatch z),fun ob z=>(nomatch z)⟩) h
  exact aE.tup (fun b o hb=>by
   have ne:b≠d2:=fun z=>by rw [z,pZ] at hb;cases hb
   rw [fA ne] at hb
   rw [aj ne]
   exact hb) h1
 have hk2:dM (db K (upd (upd (upd (upd (upd (upd (upd HA d1 (.dK (gq [] ps1))) d2 (.dK [])) b1 (.tup [.str "name",.str "",.str (S.T 0)])) b2 (.tup [.ref b1])) b3 (.tup [.str "num",.int 2])) b4 (.tup [.ref b2,.ref b3])) d2 (.dK (ed [] [(.inr (S.F 0),.ref b4)])))) (ed [] [(.inr (S.F 0),.ref b4)]) (fc2 S) :=
  .cons ⟨rfl,b4,b2,.ref b3,[.ref b1],rfl,kpB (SqT.of ac),kpB (SqT.of (i34 _ _ ac)),.cons (.name (kpB (SqT.of (i24 _ _ ac)))) .nil,.num (kpB (SqT.of (i4 _ _ ac)))⟩ .nil
 have hd1B:=sB _ _ (ac (H:=HA) (a:=d1) (o:=.dK (gq [] ps1)))
 have hd2B:upd (upd (upd (upd (upd (upd (upd HA d1 (.dK (gq [] ps1))) d2 (.dK [])) b1 (.tup [.str "name",.str "",.str (S.T 0)])) b2 (.tup [.ref b1])) b3 (.tup [.str "num",.int 2])) b4 (.tup [.ref b2,.ref b3])) d2 (.dK (ed [] [(.inr (S.F 0),.ref b4)])) d2=some (.dK (ed [] [(.inr (S.F 0),.ref b4)])):=ac
 have sAB:=a1.trans sB
 clear kpB i14 i24 i34 i4 i3 i2 i1 hd24 a12 a2 sB
 revert hk2 hd1B hd2B sAB
 generalize upd (upd (upd (upd (upd (upd (upd HA d1 (.dK (gq [] ps1))) d2 (.dK [])) b1 (.tup [.str "name",.str "",.str (S.T 0)])) b2 (.tup [.ref b1])) b3 (.tup [.str "num",.int 2])) b4 (.tup [.ref b2,.ref b3])) d2 (.dK (ed [] [(.inr (S.F 0),.ref b4)]))=HB
 intro hk2 hd1B hd2B sAB
 intro x dx' nx ndx nex
 have eab:=vL (CF:=CF) nx ndx nex
 refine⟨x,dx',d1,d2,_,_,rfl,ac,eab _ _ hd1B,eab _ _ hd2B,fun d e fs' H7 hd he nde hx lk lf lh lp hd7 he7 keep=>⟨rfl,?_⟩⟩
 obtain⟨s7,hF7⟩:=vV (K:=K) nx ndx nex (hk1.imp fun _ _ t=>t.same sAB) hk2 hx lk lf lh lp hd7 he7 keep
 have sA7:=sAB.trans s7
 refine⟨_,rfl,g0,S,f1',f2',sl',its',rfl,hG0.same (sA.trans sA7),fun H8 sh s8 ⟨l1,l2,hsh,hS1,hS2⟩=>?_⟩
 have sA8:=sA7.trans s8
 intro fa hfa
 have c1:=ad hfa (.dK [])
 have sA9:=sA8.trans c1
 refine⟨_,rfl,wa,_,_,_,rfl,rfl,SqL.of (sA9 _ _ F3.hw),(show atI (txs S.W 7) 4=some (.str (S.W 4)) from rfl),_,rfl,?_⟩
 refine⟨_,rfl,wa,_,_,_,rfl,rfl,SqL.of (sA9 _ _ F3.hw),(show atI (txs S.W 7) 5=some (.str (S.W 5)) from rfl),?_⟩
 obtain⟨as2,ps2,hl2,hp2,hn2,hk3⟩:=vz (hS1.same c1) nd2
 refine⟨_,rfl,sh,_,_,_,rfl,rfl,SqT.of (c1 _ _ hsh),(show atI [V.ref l1,.ref l2] 0=some (.ref l1) from rfl),l1,as2,ps2,rfl,hl2,hp2,Nat.lt_of_lt_of_le (Nat.lt_succ_self _) (dX (by rw [hn2];show 2+1<=1000;decide)),fun d3 hd3=>?_⟩
 have c2:=ad hd3 (.dK (gq [] ps2))
 have c12:=c1.trans c2
 obtain⟨as3,ps3,hl3,hp3,hn3,hk4⟩:=zV (hS2.same c12) nd3
 refine⟨_,rfl,sh,_,_,_,rfl,rfl,SqT.of (c12 _ _ hsh),(show atI [V.ref l1,.ref l2] 1=some (.ref l2) from rfl),l2,as3,ps3,rfl,hl3,hp3,Nat.lt_of_lt_of_le (Nat.lt_succ_self _) (dX (by rw [hn3];show 2+1<=1000;decide)),fun d4 hd4=>?_⟩
 have c3:=ad hd4 (.dK (gq [] ps3))
 intro z dz nz ndz nez
 have fab:=vL (CF:=CF) nz ndz nez
 refine⟨z,dz,d3,d4,_,_,rfl,ac,fab _ _ (c3 _ _ ac),fab _ _ ac,fun d' e' fs2 H9 hd' he' nde' hx' lk' lf' lh' lp' hd9 he9 keep'=>⟨rfl,?_⟩⟩
 obtain⟨s9,hF9⟩:=vV (K:=K) nz ndz nez (hk3.imp fun _ _ t=>t.same (c2.trans c3)) (hk4.imp fun _ _ t=>t.keep fun _ _ h=>c3.tup h) hx' lk' lf' lh' lp' hd9 he9 keep'
 have c9:=(c2.trans c3).trans s9
 have hfa9:=c9 _ _ (ac (H:=H8) (a:=fa) (o:=.dK []))
 refine⟨hfa9,[(.inr (S.W 4),.ref x),(.inr (S.W 5),.ref z)],rfl,(by show 2<=15;decide),?_⟩
 have ne45:S.W 4≠S.W 5:=fun e=>by
  have:=(List.nodup_cons.mp ndF).1
  exact this (List.mem_cons.mpr (.inl e))
 have em:ed [] [((.inr (S.W 4):Key),V.ref x),(.inr (S.W 5),.ref z)]=[(.inr (S.W 4),.ref x),(.inr (S.W 5),.ref z)]:=by
  show bc (bc [] (.inr (S.W 4):Key) (V.ref x)) (.inr (S.W 5)) (.ref z)=_
  rw [jJ (kvs:=[]) (k:=(.inr (S.W 4):Key)) (V.ref x) rfl,jJ (kvs:=[]++[((.inr (S.W 4):Key),V.ref x)]) (k:=(.inr (S.W 5):Key)) (V.ref z) ?_]
  ·rfl
  ·rw [<-jJ (kvs:=[]) (k:=(.inr (S.W 4):Key)) (V.ref x) rfl,aB,if_neg ne45]
   rfl
 rw [em]
 have sF:aE H8 (upd H9 fa (.dK [(.inr (S.W 4),.ref x),(.inr (S.W 5),.ref z)])):=fun b o hb=>by
  rw [aj (fun z=>by rw [z,hfa] at hb;cases hb)]
  exact(c1.trans c9) _ _ hb
 have sW:aE (wo H9 fa) (upd H9 fa (.dK [(.inr (S.W 4),.ref x),(.inr (S.W 5),.ref z)])):=fun b o hb=>by
  have ne:b≠fa:=fun z=>by rw [z,pZ] at hb;cases hb
  rw [fA ne] at hb
  rw [aj ne]
  exact hb
 have kpF:∀a xs,SqT K H9 a xs->SqT K (upd H9 fa (.dK [(.inr (S.W 4),.ref x),(.inr (S.W 5),.ref z)])) a xs:=fun a xs h=>sW.tup (oZ hfa9 (fun ys=>⟨fun z=>(nomatch z),fun ob z=>(nomatch z)⟩) h)
 have nf:∀{b:Addr} {o:HO},H9 b=some o->o≠.dK []->upd H9 fa (.dK [(.inr (S.W 4),.ref x),(.inr (S.W 5),.ref z)]) b=some o:=fun {b o} hb hn=>by
  rw [aj (fun z=>by rw [z,hfa9] at hb;exact hn (Option.some.inj hb).symm)]
  exact hb
 have hFz:dZ K (upd H9 fa (.dK [(.inr (S.W 4),.ref x),(.inr (S.W 5),.ref z)])) CF z (sr1 S) (sr2 S):=by
  obtain⟨q1,q2,q3,q4,q5,q6,u1,u2,u3,u4,u5,u6,u7,u8,u9⟩:=hF9
  refine⟨q1,q2,q3,q4,q5,q6,nf u1 (fun z=>nomatch z),u2,u3,nf u4 (fun z=>?_),nf u5 (fun z=>?_),u6.imp fun _ _ t=>aY kpF t,u7.imp fun _ _ t=>t.keep kpF,u8,u9⟩
  ·injection z with z
   rw [z] at u6
   exact nomatch u6
  ·injection z with z
   rw [z] at u7
   exact nomatch u7
 exact k7 _ wa p3 x sh fa ((sA.trans sA8).trans sF) (hda.same (sA8.trans sF)) ⟨_,ac,.cons ⟨rfl,x,rfl,hF7.same (s8.trans sF)⟩ (.cons ⟨rfl,z,rfl,hFz⟩ .nil)⟩
end
theorem rH(c k:Int):dP c k≠"":=fun e=>by
 have h1:=qK c
 have h2:(dP c k).length=(wsz c).toNat:=by unfold dP;rw [jG]
 rw [e] at h2
 have h3:(("":Str)).length=0:=by decide +kernel
 omega
theorem yY{c:Int}{i j:Nat}(hi:i < 26)(hj:j < 26)(h:i≠j):dP c (i:Int)≠dP c (j:Int):=fun e=>by
 have:=uZ e
 omega
structure Df(S:SC):Prop where
 W:∀i j:Nat,i < 26->j < 26->(S.W i=S.W j↔i=j)
 T:∀i j:Nat,i < 26->j < 26->(S.T i=S.T j↔i=j)
 F:∀i j:Nat,i < 26->j < 26->(S.F i=S.F j↔i=j)
 W0:∀i,S.W i≠""
 W0':∀i,""≠S.W i
theorem B9{S:SC}(h:Am S):Df S:=by
 obtain⟨⟨a,ha⟩,⟨b,hb⟩,⟨c,hc⟩,_,_⟩:=h
 refine⟨fun i j hi hj=>?_,fun i j hi hj=>?_,fun i j hi hj=>?_,fun i=>?_,fun i=>?_⟩
 ·rw [ha];exact⟨fun e=>Classical.byContradiction fun n=>yY hi hj n e,fun e=>by rw [e]⟩
 ·rw [hb];exact⟨fun e=>Classical.byContradiction fun n=>yY hi hj n e,fun e=>by rw [e]⟩
 ·rw [hc];exact⟨fun e=>Classical.byContradiction fun n=>yY hi hj n e,fun e=>by rw [e]⟩
 ·rw [ha];exact rH _ _
 ·rw [ha];exact(rH _ _).symm
def fd1(S:SC):aq:=[(S.T 0,hdK S),(S.T 1,otK S)]
def fd2(S:SC):bi:=[(S.F 0,([hdK S],.num 2))]
def gl(S:SC):bp:=[(S.W 1,(fc1 S,fc2 S)),(S.W 2,(fd1 S,fd2 S))]
def gp(S:SC):bp:=[(S.W 1,(fd1 S,fd2 S)),(S.W 2,(fd1 S,fd2 S))]
section
variable{S:SC}(h:Df S)
include h
theorem gD:look (flS S) (S.W 4)=some (fc1 S,fc2 S):=by simp [look,flS,h.W]
theorem mJ:look (flS S) (S.W 5)=some (sr1 S,sr2 S):=by simp [look,flS,h.W]
theorem wT:look (flS S) (S.W 6)=none:=by simp [look,flS,h.W]
theorem qZ:eM (fc1 S)=[S.T 0]:=by
 cases hb:S.b<;>simp [eM,uR,fc1,k1K,hb,fM,h.T]
theorem BJ:eM (fd1 S)=[]:=by
 cases hb:S.b<;>simp [eM,uR,fd1,hdK,otK,hb,fM,h.W0]
theorem zJ:cq (S.W 1,(fc1 S,fc2 S))=(S.W 1,(fd1 S,fd2 S)):=by
 have eg:tD (fc1 S) (S.W 1)=fun(n:Str × Str)=>if n.1=("":Str)/\n.2=S.T 0 then some (.name (S.W 1) n.2) else none:=by
  funext n
  unfold tD
  rw [qZ h]
  simp only [List.mem_singleton]
 show(S.W 1,((fc1 S).map (i9 (tD (fc1 S) (S.W 1))),(fc2 S).map (jg (tD (fc1 S) (S.W 1)))))=_
 rw [eg]
 cases hb:S.b<;>simp [fc1,fc2,fd1,fd2,k1K,otK,hdK,hb,fM,i9,jg,Kd.put]
theorem Cj:cq (S.W 2,(fd1 S,fd2 S))=(S.W 2,(fd1 S,fd2 S)):=by
 have eg:tD (fd1 S) (S.W 2)=fun _=>none:=by
  funext n
  unfold tD
  rw [BJ h]
  simp
 show(S.W 2,((fd1 S).map (i9 (tD (fd1 S) (S.W 2))),(fd2 S).map (jg (tD (fd1 S) (S.W 2)))))=_
 rw [eg]
 cases hb:S.b<;>simp [fd1,fd2,otK,hdK,hb,i9,jg,Kd.put]
theorem gX:(gl S).map cq=gp S:=by
 unfold gl gp
 rw [List.map_cons,List.map_cons,List.map_nil,zJ h,Cj h]
theorem AD:lc (fc1 S) (fc2 S) [(S.T 0,hdK S)]=.ok (fd1 S) (fd2 S):=by
 unfold lc
 show js (.ok (fc1 S) (fc2 S)) (S.T 0,hdK S)=_
 unfold js
 simp only [qZ h,List.mem_singleton,if_true]
 have e1:(fc1 S).map (i9 (eY (S.T 0) (hdK S)))=fd1 S:=by
  cases hb:S.b<;>simp [fc1,fd1,k1K,otK,hb,i9,eY,fM,Kd.put]
 have e2:(fc2 S).map (jg (eY (S.T 0) (hdK S)))=fd2 S:=by
  simp [fc2,fd2,jg,eY,fM,Kd.put]
 rw [e1,e2,if_pos]
 cases hb:S.b<;>simp [B0,fd1,fd2,otK,hdK,hb,Kd.words]
theorem zm{PL:bp}:cD (flS S) PL (S.W 4,[])=.ok (fc1 S) (fc2 S):=by
 unfold cD
 rw [gD h]
 simp [lc]
theorem tG{PL:bp}:cD (flS S) PL (S.W 5,[])=.ok (sr1 S) (sr2 S):=by
 unfold cD
 rw [mJ h]
 simp [lc]
theorem vT{PL:bp}{ws:aq}:cD (flS S) PL (S.W 6,ws)=.ref 1:=by
 unfold cD
 rw [wT h]
theorem zQ:cD (flS S) [(S.W 1,(fd1 S,fd2 S))] (S.W 4,[(S.T 0,hdK S)])=.ok (fd1 S) (fd2 S):=by
 have t0:nX (PGo [(S.W 1,(fd1 S,fd2 S))]) (S.W 1,S.T 0)=some (hdK S):=by
  simp [nX,iB,PGo,look,fd1,h.W0]
 unfold cD
 rw [gD h]
 simp only []
 rw [if_pos ?_]
 ·have e:([(S.T 0,hdK S)]:aq).map (mv (PGo [(S.W 1,(fd1 S,fd2 S))]))=[(S.T 0,hdK S)]:=by
   simp only [List.map_cons,List.map_nil,mv]
   have:Kd.put (nX (PGo [(S.W 1,(fd1 S,fd2 S))])) (hdK S)=hdK S:=by
    show(nX (PGo [(S.W 1,(fd1 S,fd2 S))]) (S.W 1,S.T 0)).getD _=_
    rw [t0]
    rfl
   rw [this]
  rw [e,AD h]
 ·intro q hq
  rw [List.mem_singleton.mp hq]
  intro n hn
  have:n=(S.W 1,S.T 0):=List.mem_singleton.mp hn
  rw [this,t0]
  exact fun e=>nomatch e
theorem fK:jb (flS S) [] [g1 S,g2 S]=.ok (gl S):=by
 show pG (flS S) [] (pG (flS S) [] (.ok []) (g1 S)) (g2 S)=_
 rw [ip (f:=g1 S) (zm h)]
 rw [ip (f:=g2 S) (a:=fd1 S) (b:=fd2 S) ?_]
 ·rfl
 ·show cD (flS S) ([]++[cq (S.W 1,(fc1 S,fc2 S))]) _=_
  rw [zJ h]
  exact zQ h
theorem Bc{m:aq}:tl m (gp S) (S.W 1,S.T 0)=some (hdK S):=by
 simp [tl,iB,PGo,look,gp,fd1,h.W0]
theorem Br{m:aq}:tl m (gp S) (S.W 2,S.T 1)=some (otK S):=by
 simp [tl,iB,PGo,look,gp,fd1,h.W0,h.W,h.T]
omit h in
theorem yh{m:aq}{t:Str}:tl m (gp S) ("",t)=look m t:=by
 simp [tl,iB]
omit h in
theorem wF{T:Str × Str->Option Kd}{M:Int}{k k':Kd}(hn:∀n∈Kd.names k,T n≠none)(e:Kd.put T k=k')(hw:(k'.words:Int)<=M):fY T M k=.ok k':=by
 unfold fY
 rw [if_neg (fun⟨n,a,b⟩=>hn n a b),e,if_neg (by omega)]
omit h in
theorem yZ{T:Str × Str->Option Kd}{M:Int}{k:Kd}{n:Str × Str}(hn:n∈Kd.names k)(e:T n=none):fY T M k=.no 2:=by
 unfold fY
 rw [if_pos ⟨n,hn,e⟩]
omit h in
theorem hJ{T:Str × Str->Option Kd}{n:Int}:fY T 40 (.num n)=.ok (.num n):=wF (fun _ hn=>nomatch hn) rfl (by show((1:Nat):Int)<=40;decide)
theorem wD:Kd.names (mdK S)=[(S.W 1,S.T 0),(S.W 2,S.T 1)]:=by
 simp [mdK,hdK,Kd.names,Kd.leaves,h.W]
theorem zR{m:aq}:fY (tl m (gp S)) 40 (mdK S)=.ok (.pair (hdK S) (otK S)):=by
 refine wF (fun n hn=>?_) ?_ ?_
 ·rw [wD h] at hn
  simp only [List.mem_cons,List.not_mem_nil,or_false] at hn
  rcases hn with rfl|rfl
  ·rw [Bc h];exact fun e=>nomatch e
  ·rw [Br h];exact fun e=>nomatch e
 ·show Kd.pair ((tl m (gp S) (S.W 1,S.T 0)).getD _) ((tl m (gp S) (S.W 2,S.T 1)).getD _)=_
  rw [Bc h,Br h]
  rfl
 ·cases hb:S.b<;>simp [otK,hdK,hb,Kd.words]
omit h in
theorem ir{m:aq}{t:Str}{k:Kd}(e:look m t=some k)(hw:(k.words:Int)<=40):fY (tl m (gp S)) 40 (fM t)=.ok k:=by
 refine wF (fun n hn=>?_) ?_ hw
 ·have:n=(("":Str),t):=List.mem_singleton.mp hn
  rw [this,yh,e]
  exact fun e=>nomatch e
 ·show(tl m (gp S) ("",t)).getD _=_
  rw [yh,e]
  rfl
theorem Be:((Kd.pair (hdK S) (otK S)).words:Int)<=40:=by
 cases hb:S.b<;>simp [otK,hdK,hb,Kd.words]
theorem yU:bZ (gp S) 40 [] [] (i0 S)=.ok [(S.T 2,.pair (hdK S) (otK S))] []:=by
 unfold bZ i0
 simp [zR h]
theorem Ba{k:Kd}{m2:bi}:bZ (gp S) 40 [(S.T 2,k)] m2 (i1 S)=.ok [(S.T 2,k),(S.T 3,szK S)] m2:=by
 unfold bZ i1
 simp [hJ,h.T]
theorem Bg:bZ (gp S) 40 (fr1 S) [] (i2 S)=.ok (fr1 S) [(S.F 1,([.pair (hdK S) (otK S)],szK S))]:=by
 have e:=ir (S:=S) (m:=fr1 S) (t:=S.T 2) (k:=.pair (hdK S) (otK S)) (by simp [look,fr1]) (Be h)
 unfold bZ i2
 simp [dG,hJ,e]
theorem AE{m1:aq}{z:Str}{f:List Kd × Kd}{k:Kd}(hk:look m1 (S.T 3)=some k)(hw:(k.words:Int)<=40)(hz:z≠S.F 2):bZ (gp S) 40 m1 [(z,f)] (i3 S)=.ok m1 [(z,f),(S.F 2,([],k))]:=by
 have e:=ir (S:=S) hk hw
 unfold bZ i3
 simp [dG,e,hz.symm]
theorem ky:iR (gp S) 40 (gi S)=.ok (fr1 S) (fr2 S):=by
 show eN (gp S) 40 (eN (gp S) 40 (eN (gp S) 40 (bZ (gp S) 40 [] [] (i0 S)) (i1 S)) (i2 S)) (i3 S)=_
 rw [yU h]
 show eN (gp S) 40 (eN (gp S) 40 (bZ (gp S) 40 _ [] (i1 S)) (i2 S)) (i3 S)=_
 rw [Ba h]
 show eN (gp S) 40 (bZ (gp S) 40 (fr1 S) [] (i2 S)) (i3 S)=_
 rw [Bg h]
 show bZ (gp S) 40 (fr1 S) _ (i3 S)=_
 rw [AE h (k:=szK S) (by simp [look,fr1,h.T]) (by show((1:Nat):Int)<=40;decide) (by simp [h.F])]
 rfl
theorem wl:sM (fr1 S) (sr1 S) (fr2 S) (sr2 S)=none:=by
 have eh:eM (sr1 S)=[S.T 2]:=by simp [eM,uR,sr1,fM]
 have eG:Gf (fr1 S) (sr1 S)=fun(n:Str × Str)=>if n.1=("":Str)/\n.2=S.T 2 then some (.pair (hdK S) (otK S)) else none:=by
  funext n
  unfold Gf ig
  rw [eh]
  by_cases c:n.1=("":Str)/\n.2=S.T 2
  ·rw [if_pos c,if_pos ⟨c.1,List.mem_singleton.mpr c.2⟩,c.2]
   simp [look,fr1]
  ·rw [if_neg c,if_neg fun z=>c ⟨z.1,List.mem_singleton.mp z.2⟩]
 unfold sM
 rw [eG]
 simp [no1,no3,no4,sr1,sr2,fr1,fr2,look,cV,Kd.put,fM,h.T,h.F]
theorem vv{w:Str}{sl:Option (Str × aq)}(hs:sl=none\/sl=some (S.W 5,[])):cR (flS S) [] ⟨w,[g1 S,g2 S],sl,gi S⟩=.ok (gl S) (match sl with|none=>(fr1 S,fr2 S)|some _=>(sr1 S,sr2 S)):=by
 unfold cR
 simp only [fK h,List.nil_append,gX h,ky h]
 rcases hs with rfl|rfl
 ·rfl
 ·unfold mn
  simp only [tG h,wl h]
include h
omit h in
theorem AG{PL:bp}{its:List It}{c:Nat}{f1:aq}{f2:bi}{it:It}(hr:iR PL 40 its=.ok f1 f2)(hs:bZ PL 40 f1 f2 it=.ref c):iR PL 40 (its++[it])=.ref c:=by
 rw [nw,hr]
 exact hs
omit h in
theorem wJ{fl PL l:bp}{D:Dcl}{c:Nat}(hw:jb fl PL D.fs=.ok l)(hf:iR (PL++l.map cq) 40 D.its=.ref c):cR fl PL D=.ref c:=by
 unfold cR
 rw [hw]
 simp only []
 rw [hf]
theorem j8{w:Str}{sl:Option (Str × aq)}{it:It}{c:Nat}(hs:bZ (gp S) 40 (fr1 S) (fr2 S) it=.ref c):cR (flS S) [] ⟨w,[g1 S,g2 S],sl,[i0 S,i1 S,i2 S,i3 S,it]⟩=.ref c :=
 wJ (l:=gl S) (fK h) (by rw [List.nil_append,gX h];exact AG (its:=gi S) (ky h) hs)
theorem uF{w:Str}{sl:Option (Str × aq)}:cR (flS S) [] ⟨w,[g1 S,g2 S],sl,[i0 S,i1 S,i2 S,i3 S,.kind (S.T 4) (gg 20)]⟩=.ref 3:=by
 refine j8 h ?_
 have:fY (tl (fr1 S) (gp S)) 40 (gg 20)=.no 3:=by
  unfold fY
  rw [if_neg (fun⟨n,hn,_⟩=>by rw [show Kd.names (gg 20)=[] by decide +kernel] at hn;exact nomatch hn),if_pos]
  have e:Kd.put (tl (fr1 S) (gp S)) (gg 20)=gg 20:=rfl
  rw [e]
  decide +kernel
 unfold bZ
 simp [this]
theorem yD{w:Str}{sl:Option (Str × aq)}{i:Nat}(hi:i=2\/i=3):cR (flS S) [] ⟨w,[g1 S,g2 S],sl,[i0 S,i1 S,i2 S,i3 S,.kind (S.T i) (szK S)]⟩=.ref 0:=by
 refine j8 h ?_
 unfold bZ
 rcases hi with rfl|rfl<;>simp [hJ,fr1]
theorem yB{w:Str}{sl:Option (Str × aq)}{i:Nat}(hi:i=1\/i=2):cR (flS S) [] ⟨w,[g1 S,g2 S],sl,[i0 S,i1 S,i2 S,i3 S,.fn (S.F i) [] (szK S)]⟩=.ref 0:=by
 refine j8 h ?_
 unfold bZ
 rcases hi with rfl|rfl<;>simp [dG,hJ,fr2]
theorem yz{w:Str}{sl:Option (Str × aq)}:cR (flS S) [] ⟨w,[g1 S,g2 S],sl,[i0 S,i1 S,i2 S,i3 S,.opn (S.W 6)]⟩=.ref 1:=by
 refine j8 h ?_
 unfold bZ
 simp [look,gp,h.W]
theorem xZ{w:Str}{sl:Option (Str × aq)}:cR (flS S) [] ⟨w,[g1 S,g2 S],sl,[i0 S,i1 S,i2 S,i3 S,.kind (S.T 4) (.pair (szK S) (.name (S.W 1) (S.T 5)))]⟩=.ref 2:=by
 refine j8 h ?_
 have:fY (tl (fr1 S) (gp S)) 40 (.pair (szK S) (.name (S.W 1) (S.T 5)))=.no 2:=by
  refine yZ (n:=(S.W 1,S.T 5)) ?_ ?_
  ·simp [Kd.names,Kd.leaves]
  ·simp [tl,iB,PGo,look,gp,fd1,h.W0,h.T]
 unfold bZ
 simp [this]
theorem AJ{w:Str}{sl:Option (Str × aq)}{its:List It}:cR (flS S) [] ⟨w,[(S.W 1,(S.W 6,[])),g2 S],sl,its⟩=.ref 1:=by
 have:jb (flS S) [] [(S.W 1,(S.W 6,[])),g2 S]=.ref 1:=eQ (i:=0) (l:=[]) rfl rfl (vT h)
 unfold cR
 simp only [this]
theorem x0{t q:Str} (hq:q≠""):nX (PGo []) (q,t)=none:=by
 simp [nX,iB,PGo,look,hq]
theorem AC{w:Str}{sl:Option (Str × aq)}{its:List It}:cR (flS S) [] ⟨w,[(S.W 1,(S.W 4,[(S.T 0,.name (S.W 2) (S.T 0))])),g2 S],sl,its⟩=.ref 2:=by
 have:jb (flS S) [] [(S.W 1,(S.W 4,[(S.T 0,.name (S.W 2) (S.T 0))])),g2 S]=.ref 2:=eQ (i:=0) (l:=[]) rfl rfl (by
  unfold cD
  rw [gD h]
  refine if_neg fun c=>?_
  exact c _ (List.mem_singleton.mpr rfl) (S.W 2,S.T 0) (List.mem_singleton.mpr rfl) (x0 h (h.W0 2)))
 unfold cR
 simp only [this]
theorem AI{PL:bp}{t:Str}:∀q∈[(t,szK S)],iW (PGo PL) q:=fun q hq=>by
 rw [List.mem_singleton.mp hq]
 exact fun n hn=>nomatch hn
theorem nj{PL:bp}{z t:Str}{r:aq × bi}(hz:look (flS S) z=some r)(ht:t∉eM r.1):cD (flS S) PL (z,[(t,szK S)])=.ref 2:=by
 unfold cD
 rw [hz]
 refine(if_pos (AI h)).trans ?_
 have:lc r.1 r.2 (([(t,szK S)]:aq).map (mv (PGo PL)))=.no:=by
  show js (.ok r.1 r.2) (t,_)=_
  unfold js
  exact if_neg ht
 rw [this]
theorem Bt{w:Str}{sl:Option (Str × aq)}{its:List It}{i:Nat}(hi:i=1\/i=5):cR (flS S) [] ⟨w,[g1 S,(S.W 2,(S.W 4,[(S.T i,szK S)]))],sl,its⟩=.ref 2:=by
 have:jb (flS S) [] [g1 S,(S.W 2,(S.W 4,[(S.T i,szK S)]))]=.ref 2:=eQ (i:=1) (l:=[(S.W 1,(fc1 S,fc2 S))]) (ip (f:=g1 S) (zm h)) rfl (nj h (gD h) (by rw [qZ h];rcases hi with rfl|rfl<;>simp [h.T]))
 unfold cR
 simp only [this]
theorem ve:eM (sr1 S)=[S.T 2]:=by simp [eM,uR,sr1,fM]
theorem uI{w:Str}{s:Str × aq}{c:Nat}(hs:cD (flS S) (gp S) s=.ref c):cR (flS S) [] ⟨w,[g1 S,g2 S],some s,gi S⟩=.ref c:=by
 unfold cR
 simp only [fK h,List.nil_append,gX h,ky h]
 unfold mn
 simp only [hs]
theorem AK{w:Str}:cR (flS S) [] ⟨w,[g1 S,g2 S],some (S.W 6,[]),gi S⟩=.ref 1:=uI h (vT h)
theorem Av{w:Str}{i:Nat}(hi:i=3\/i=5):cR (flS S) [] ⟨w,[g1 S,g2 S],some (S.W 5,[(S.T i,szK S)]),gi S⟩=.ref 2 :=
 uI h (nj h (mJ h) (by rw [ve h];rcases hi with rfl|rfl<;>simp [h.T]))
theorem qr{w:Str}{its:List It}{f1:aq}{f2:bi}{r:Str × PyData × PyData}(hf:iR (gp S) 40 its=.ok f1 f2)(hr:sM f1 (sr1 S) f2 (sr2 S)=some r):cR (flS S) [] ⟨w,[g1 S,g2 S],some (S.W 5,[]),its⟩=.unfit r:=by
 unfold cR
 simp only [fK h,List.nil_append,gX h,hf]
 unfold mn
 simp only [tG h,hr]
theorem BU:iR (gp S) 40 [i1 S,i3 S]=.ok [(S.T 3,szK S)] [(S.F 2,([],szK S))]:=by
 have e1:bZ (gp S) 40 [] [] (i1 S)=.ok [(S.T 3,szK S)] []:=by unfold bZ i1;simp [hJ]
 have e3:=ir (S:=S) (m:=[(S.T 3,szK S)]) (t:=S.T 3) (k:=szK S) (by simp [look]) (by show((1:Nat):Int)<=40;decide)
 show eN (gp S) 40 (bZ (gp S) 40 [] [] (i1 S)) (i3 S)=_
 rw [e1]
 show bZ (gp S) 40 _ [] (i3 S)=_
 unfold bZ i3
 simp [dG,e3]
theorem Bd{w:Str}:cR (flS S) [] ⟨w,[g1 S,g2 S],some (S.W 5,[]),[i1 S,i3 S]⟩=.unfit (S.T 2,Kd.dat (fM (S.T 2)),.none):=by
 refine qr h (BU h) ?_
 unfold sM
 have:no1 [(S.T 3,szK S)] (sr1 S)=some (S.T 2,Kd.dat (fM (S.T 2)),.none):=by simp [no1,sr1,look,h.T]
 rw [this]
 rfl
include h
abbrev PK(S:SC):Kd:=.pair (hdK S) (otK S)
omit h in
theorem wS{T:Str × Str->Option Kd}:fY T 40 (.pair (szK S) (szK S))=.ok (.pair (szK S) (szK S)):=wF (fun _ hn=>by exact nomatch (show _∈([]:List (Str × Str)) from hn)) rfl (by show((3:Nat):Int)<=40;decide)
theorem Bf{m1:aq}(e:look m1 (S.T 2)=some (PK S)):Gf m1 (sr1 S)=fun(n:Str × Str)=>if n.1=("":Str)/\n.2=S.T 2 then some (PK S) else none:=by
 funext n
 unfold Gf ig
 rw [ve h]
 by_cases c:n.1=("":Str)/\n.2=S.T 2
 ·rw [if_pos c,if_pos ⟨c.1,List.mem_singleton.mpr c.2⟩,c.2]
  exact e
 ·rw [if_neg c,if_neg fun z=>c ⟨z.1,List.mem_singleton.mp z.2⟩]
def rW(S:SC):aq:=[(S.T 2,PK S),(S.T 3,.pair (szK S) (szK S))]
def Dc(S:SC):bi:=[(S.F 1,([PK S],szK S)),(S.F 2,([],.pair (szK S) (szK S)))]
theorem yl:iR (gp S) 40 [i0 S,.kind (S.T 3) (.pair (szK S) (szK S)),i2 S,i3 S]=.ok (rW S) (Dc S):=by
 have e1:bZ (gp S) 40 [(S.T 2,PK S)] [] (.kind (S.T 3) (.pair (szK S) (szK S)))=.ok (rW S) []:=by
  unfold bZ
  simp [wS,h.T,rW]
 have e2:bZ (gp S) 40 (rW S) [] (i2 S)=.ok (rW S) [(S.F 1,([PK S],szK S))]:=by
  have e:=ir (S:=S) (m:=rW S) (t:=S.T 2) (k:=PK S) (by simp [look,rW]) (Be h)
  unfold bZ i2
  simp [dG,hJ,e]
 show eN (gp S) 40 (eN (gp S) 40 (eN (gp S) 40 (bZ (gp S) 40 [] [] (i0 S)) _) (i2 S)) (i3 S)=_
 rw [yU h]
 show eN (gp S) 40 (eN (gp S) 40 (bZ (gp S) 40 [(S.T 2,PK S)] [] (.kind (S.T 3) (.pair (szK S) (szK S)))) (i2 S)) (i3 S)=_
 rw [e1]
 show eN (gp S) 40 (bZ (gp S) 40 (rW S) [] (i2 S)) (i3 S)=_
 rw [e2]
 show bZ (gp S) 40 (rW S) _ (i3 S)=_
 rw [AE h (k:=.pair (szK S) (szK S)) (by simp [look,rW,h.T]) (by show((3:Nat):Int)<=40;decide) (by simp [h.F])]
 rfl
theorem zo{w:Str}:cR (flS S) [] ⟨w,[g1 S,g2 S],some (S.W 5,[]),[i0 S,.kind (S.T 3) (.pair (szK S) (szK S)),i2 S,i3 S]⟩=.unfit (S.T 3,Kd.dat (szK S),Kd.dat (.pair (szK S) (szK S))):=by
 refine qr h (yl h) ?_
 unfold sM
 rw [Bf h (by simp [look,rW])]
 simp [no1,no3,sr1,rW,look,Kd.put,fM,h.T]
def B2(S:SC):bi:=[(S.F 1,([PK S],szK S)),(S.F 2,([szK S],szK S))]
theorem yb:iR (gp S) 40 [i0 S,i1 S,i2 S,.fn (S.F 2) [("a",szK S)] (fM (S.T 3))]=.ok (fr1 S) (B2 S):=by
 have e3:=ir (S:=S) (m:=fr1 S) (t:=S.T 3) (k:=szK S) (by simp [look,fr1,h.T]) (by show((1:Nat):Int)<=40;decide)
 show eN (gp S) 40 (eN (gp S) 40 (eN (gp S) 40 (bZ (gp S) 40 [] [] (i0 S)) (i1 S)) (i2 S)) _=_
 rw [yU h]
 show eN (gp S) 40 (eN (gp S) 40 (bZ (gp S) 40 _ [] (i1 S)) (i2 S)) _=_
 rw [Ba h]
 show eN (gp S) 40 (bZ (gp S) 40 (fr1 S) [] (i2 S)) _=_
 rw [Bg h]
 show bZ (gp S) 40 (fr1 S) [(S.F 1,([PK S],szK S))] (.fn (S.F 2) [("a",szK S)] (fM (S.T 3)))=_
 unfold bZ
 simp [dG,hJ,e3,h.F,B2]
theorem zK{w:Str}:cR (flS S) [] ⟨w,[g1 S,g2 S],some (S.W 5,[]),[i0 S,i1 S,i2 S,.fn (S.F 2) [("a",szK S)] (fM (S.T 3))]⟩=.unfit (S.F 2,Fn.dat ([],szK S),Fn.dat ([szK S],szK S)):=by
 refine qr h (yb h) ?_
 unfold sM
 rw [Bf h (by simp [look,fr1])]
 simp [no1,no3,no4,sr1,sr2,fr1,B2,look,cV,Kd.put,fM,h.T,h.F]
end
def Due(m:MR)(so:Str):Option (Str × PyData × PyData)->Prop
 |none=>∃c,c<=3/\so=tL c/\m=.ref c
 |some r=>so="fit"/\m=.unfit r
theorem xl{S:SC}(h:Df S){f1 f2:Str × (Str × aq)}{sl:Option (Str × aq)}{its:List It}{so:Str}{re:Option (Str × PyData × PyData)}(hw:Way S f1 f2 sl its so re):Due (cR (flS S) [] ⟨S.W 3,[f1,f2],sl,its⟩) so re:=by
 cases hw with
 |w12=>exact⟨3,by decide,rfl,uF h⟩
 |w0=>exact⟨1,by decide,rfl,AJ h⟩
 |w1=>exact⟨1,by decide,rfl,AK h⟩
 |w2 hi=>exact⟨2,by decide,rfl,Bt h hi⟩
 |w3 hi=>exact⟨2,by decide,rfl,Av h hi⟩
 |w4 hi=>exact⟨0,by decide,rfl,yD h hi⟩
 |w5 hi=>exact⟨0,by decide,rfl,yB h hi⟩
 |w6=>exact⟨1,by decide,rfl,yz h⟩
 |w7=>exact⟨2,by decide,rfl,xZ h⟩
 |w8=>exact⟨2,by decide,rfl,AC h⟩
 |w9=>exact⟨rfl,Bd h⟩
 |w10=>exact⟨rfl,zo h⟩
 |w11=>exact⟨rfl,zK h⟩
structure Sm(S:SC):Prop where
 W:∀i,smW (S.W i)
 T:∀i,smW (S.T i)
 F:∀i,smW (S.F i)
 n:0<=S.n/\S.n<=10 ^ 18
theorem AM{S:SC}(h:Am S):Sm S:=by
 obtain⟨⟨a,ha⟩,⟨b,hb⟩,⟨c,hc⟩,n0,n1⟩:=h
 exact⟨fun i=>by rw [ha];exact zG _ _,fun i=>by rw [hb];exact zG _ _,fun i=>by rw [hc];exact zG _ _,n0,n1⟩
theorem cz{z:Str}(h:smW z):okW z:=⟨h.1,by have:=h.2;omega⟩
section
variable{S:SC}(m:Sm S)
include m
theorem vn:Bk 4 (hdK S):=⟨⟨m.W 1,m.T 0⟩,by show 1<=4;decide⟩
theorem fS:Bk 4 (szK S):=⟨m.n,by show 1<=4;decide⟩
omit m in
theorem De:Bk 4 (.num 2):=⟨⟨by decide,by decide⟩,by show 1<=4;decide⟩
theorem iq(i:Nat):Bk 4 (fM (S.T i)):=⟨uy (m.T i),by show 1<=4;decide⟩
theorem BM:Bk 4 (otK S):=by
 unfold otK
 cases S.b
 ·exact vn m
 ·exact⟨⟨(vn m).1,m.n⟩,by show 2<=4;decide⟩
theorem CZ:Bk 4 (k1K S):=by
 unfold k1K
 cases S.b
 ·exact iq m 0
 ·exact⟨⟨(iq m 0).1,m.n⟩,by show 2<=4;decide⟩
theorem vb:Bk 4 (PK S):=by
 refine⟨⟨(vn m).1,(BM m).1⟩,?_⟩
 cases hb:S.b<;>simp [PK,Kd.leaves,hdK,otK,hb]
theorem uG:Bk 4 (.pair (szK S) (szK S)):=⟨⟨m.n,m.n⟩,by show 2<=4;decide⟩
omit m in
theorem bK2{a b:Str}{x y:Kd}(ha:smW a)(hx:Bk 4 x)(hb:smW b)(hy:Bk 4 y):BK 4 [(a,x),(b,y)]:=fun q hq=>by
 simp only [List.mem_cons,List.not_mem_nil,or_false] at hq
 rcases hq with rfl|rfl
 ·exact⟨ha,hx⟩
 ·exact⟨hb,hy⟩
omit m in
theorem bF1{a:Str}{ks:List Kd}{k:Kd}(ha:smW a)(hl:ks.length<=1)(hk:∀x∈k::ks,Bk 4 x):BF 4 [(a,(ks,k))]:=fun q hq=>by
 rw [List.mem_singleton.mp hq]
 exact⟨ha,by show ks.length<=4;omega,hk⟩
omit m in
theorem bF2{a b:Str}{f g:List Kd × Kd}(ha:BF 4 [(a,f)])(hb:BF 4 [(b,g)]):BF 4 [(a,f),(b,g)]:=fun q hq=>by
 simp only [List.mem_cons,List.not_mem_nil,or_false] at hq
 rcases hq with rfl|rfl
 ·exact ha _ (List.mem_singleton.mpr rfl)
 ·exact hb _ (List.mem_singleton.mpr rfl)
omit m in
theorem Ap{k:Kd}(h:Bk 4 k):∀x∈[k],Bk 4 x:=fun x hx=>by rw [List.mem_singleton.mp hx];exact h
omit m in
theorem wv{k l:Kd}(h:Bk 4 k)(h2:Bk 4 l):∀x∈[k,l],Bk 4 x:=fun x hx=>by
 simp only [List.mem_cons,List.not_mem_nil,or_false] at hx
 rcases hx with rfl|rfl
 ·exact h
 ·exact h2
theorem Bu:BK 4 (fc1 S):=bK2 (m.T 0) (iq m 0) (m.T 1) (CZ m)
theorem Ar:BF 4 (fc2 S):=bF1 (m.F 0) nr0 (wv De (iq m 0))
theorem yP:BK 4 (fd1 S):=bK2 (m.T 0) (vn m) (m.T 1) (BM m)
theorem BD:BF 4 (fd2 S):=bF1 (m.F 0) nr0 (wv De (vn m))
theorem zC:BK 4 (sr1 S):=bK2 (m.T 2) (iq m 2) (m.T 3) (fS m)
theorem zY:BF 4 (sr2 S):=bF2 (bF1 (m.F 1) nr0 (wv (fS m) (iq m 2))) (bF1 (m.F 2) (Nat.zero_le _) (Ap (fS m)))
theorem sR:BK 4 (fr1 S):=bK2 (m.T 2) (vb m) (m.T 3) (fS m)
theorem ue:BF 4 (fr2 S):=bF2 (bF1 (m.F 1) nr0 (wv (fS m) (vb m))) (bF1 (m.F 2) (Nat.zero_le _) (Ap (fS m)))
theorem CB:BK 4 (rW S):=bK2 (m.T 2) (vb m) (m.T 3) (uG m)
theorem CU:BF 4 (Dc S):=bF2 (bF1 (m.F 1) nr0 (wv (fS m) (vb m))) (bF1 (m.F 2) (Nat.zero_le _) (Ap (uG m)))
theorem CL:BF 4 (B2 S):=bF2 (bF1 (m.F 1) nr0 (wv (fS m) (vb m))) (bF1 (m.F 2) nr0 (wv (fS m) (fS m)))
omit m in
theorem sN{n k:Nat}{x:Kd}(h:Bk n x)(e:n<=k):Bk k x:=⟨h.1,Nat.le_trans h.2 e⟩
omit m in
theorem tJ{x:Kd}(h:Bk 4 x):Kd.ok x/\x.words<=7:=⟨nq h.1,by have:=cO x;have:=h.2;omega⟩
omit m in
theorem yr{r1:aq}{r2:bi}(n1:(r1.map (·.1)).Nodup)(n2:(r2.map (·.1)).Nodup)(l1:r1.length<=100)(l2:r2.length<=100)(b1:BK 4 r1)(b2:BF 4 r2):xF r1 r2 :=
 ⟨n1,n2,l1,l2,fun q hq=>⟨cz (b1 q hq).1,(tJ (b1 q hq).2).1,by have:=(tJ (b1 q hq).2).2;omega⟩,fun q hq=>⟨cz (b2 q hq).1,fun k hk=>⟨(tJ ((b2 q hq).2.2 k (.tail _ hk))).1,by have:=(tJ ((b2 q hq).2.2 k (.tail _ hk))).2;omega⟩,⟨(tJ ((b2 q hq).2.2 _ (.head _))).1,by have:=(tJ ((b2 q hq).2.2 _ (.head _))).2;omega⟩,by have:=(b2 q hq).2.1;omega⟩⟩
omit m in
theorem Dg{r1:aq}{r2:bi}(n1:(r1.map (·.1)).Nodup)(n2:(r2.map (·.1)).Nodup)(l1:r1.length<=100)(l2:r2.length<=100)(b1:BK 4 r1)(b2:BF 4 r2):RB (r1,r2) :=
 ⟨n1,n2,l1,l2,fun q hq=>⟨(b1 q hq).1,sN (b1 q hq).2 (by decide)⟩,fun q hq=>⟨(b2 q hq).1,(b2 q hq).2.1,fun k hk=>sN ((b2 q hq).2.2 k hk) (by decide)⟩⟩
omit m in
omit m in
end
section
variable{S:SC}(h:Df S)(m:Sm S)
include h m
omit m in
theorem yt{i j:Nat}(hi:i < 26)(hj:j < 26)(n:i≠j){α:Type}{x y:α}:(([(S.T i,x),(S.T j,y)]:List (Str × α)).map (·.1)).Nodup:=by
 simp [h.T i j hi hj,n]
omit m in
theorem Da{i j:Nat}(hi:i < 26)(hj:j < 26)(n:i≠j){α:Type}{x y:α}:(([(S.F i,x),(S.F j,y)]:List (Str × α)).map (·.1)).Nodup:=by
 simp [h.F i j hi hj,n]
theorem yV:∀r∈flS S,xF r.2.1 r.2.2:=fun r hr=>by
 unfold flS at hr
 simp only [List.mem_cons,List.not_mem_nil,or_false] at hr
 rcases hr with rfl|rfl
 ·exact yr (yt h (by decide) (by decide) (by decide)) (by simp [fc2]) (by show 2<=100;decide) (by show 1<=100;decide) (Bu m) (Ar m)
 ·exact yr (yt h (by decide) (by decide) (by decide)) (Da h (by decide) (by decide) (by decide)) (by show 2<=100;decide) (by show 2<=100;decide) (zC m) (zY m)
def Ls(S:SC)(l:bp):Prop:=l=[]\/l=[(S.W 1,(fc1 S,fc2 S))]\/l=gl S
theorem Dn{l:bp}(hl:Ls S l):∀r∈l,RB r.2:=fun r hr=>by
 have r1:RB (fc1 S,fc2 S):=Dg (yt h (by decide) (by decide) (by decide)) (by simp [fc2]) (by show 2<=100;decide) (by show 1<=100;decide) (Bu m) (Ar m)
 have r2:RB (fd1 S,fd2 S):=Dg (yt h (by decide) (by decide) (by decide)) (by simp [fd2]) (by show 2<=100;decide) (by show 1<=100;decide) (yP m) (BD m)
 rcases hl with rfl|rfl|rfl
 ·exact nomatch hr
 ·rw [List.mem_singleton.mp hr]
  exact r1
 ·unfold gl at hr
  simp only [List.mem_cons,List.not_mem_nil,or_false] at hr
  rcases hr with rfl|rfl
  ·exact r1
  ·exact r2
omit m in
theorem yc{l:bp}(hl:Ls S l):∀r∈l.map cq,r.2=(fd1 S,fd2 S)/\∃i,r.1=S.W i:=fun r hr=>by
 rcases hl with rfl|rfl|rfl
 ·exact nomatch hr
 ·rw [List.map_cons,List.map_nil,zJ h] at hr
  rw [List.mem_singleton.mp hr]
  exact⟨rfl,1,rfl⟩
 ·rw [gX h] at hr
  unfold gp at hr
  simp only [List.mem_cons,List.not_mem_nil,or_false] at hr
  rcases hr with rfl|rfl
  ·exact⟨rfl,1,rfl⟩
  ·exact⟨rfl,2,rfl⟩
theorem Cm{l:bp}(hl:Ls S l){n:Str × Str}{g:Kd}(e:nX (PGo (l.map cq)) n=some g):Bk 4 g:=by
 unfold nX iB at e
 by_cases c:n.1=""
 ·rw [if_pos c] at e
  exact nomatch e
 ·rw [if_neg c] at e
  unfold PGo at e
  cases hq:look (l.map cq) n.1 with
  |none =>
   rw [hq] at e
   exact nomatch e
  |some r =>
   rw [hq] at e
   obtain⟨er,_⟩:=yc h hl _ (dC hq)
   have er':r=(fd1 S,fd2 S):=er
   have e':look r.1 n.2=some g:=e
   rw [er'] at e'
   exact(yP m _ (dC e')).2
theorem Ds{l:bp}(hl:Ls S l):yN (l.map cq):=fun r hr=>by
 obtain⟨er,i,ei⟩:=yc h hl r hr
 obtain⟨z,r1,r2⟩:=r
 obtain⟨rfl,rfl⟩:=Prod.mk.inj (show(r1,r2)=(fd1 S,fd2 S) from er)
 refine⟨fun q hq=>?_,fun q hq=>?_,by show 2<=5;decide,by show 1<=5;decide,yt h (by decide) (by decide) (by decide),by simp [fd2],by rw [ei];exact cz (m.W i)⟩
 ·have b:=yP m q hq
  exact⟨cz b.1,(tJ b.2).1,by have:=(tJ b.2).2;omega⟩
 ·have b:=BD m q hq
  exact⟨cz b.1,b.2.1,fun k hk=>⟨(tJ (b.2.2 k hk)).1,by have:=(tJ (b.2.2 k hk)).2;omega⟩⟩
theorem jc{l:bp}{i:Nat}:SOk (l.map cq) (S.W i,[]):=⟨cz (m.W i),by show 0<=100;decide,fun q hq=>nomatch hq⟩
theorem rG{l:bp}(hl:Ls S l){i j:Nat}{k:Kd}(hk:k=szK S\/∃a b,k=.name (S.W a) (S.T b)):SOk (l.map cq) (S.W i,[(S.T j,k)]):=by
 refine⟨cz (m.W i),by show 1<=100;decide,fun q hq=>?_⟩
 rw [List.mem_singleton.mp hq]
 rcases hk with rfl|⟨a,b,rfl⟩
 ·exact⟨cz (m.T j),trivial,by show 1<=40;decide,fun _=>⟨trivial,by show 1<=27;decide⟩⟩
 ·refine⟨cz (m.T j),⟨cz (m.W a),cz (m.T b)⟩,by show 1<=40;decide,fun ha=>?_⟩
  show Kd.ok ((nX (PGo (l.map cq)) (S.W a,S.T b)).getD _)/\((nX (PGo (l.map cq)) (S.W a,S.T b)).getD _).words<=27
  cases e:nX (PGo (l.map cq)) (S.W a,S.T b) with
  |none=>exact⟨⟨cz (m.W a),cz (m.T b)⟩,by show 1<=27;decide⟩
  |some g =>
   have:=tJ (Cm h m hl e)
   exact⟨this.1,by show g.words<=27;omega⟩
omit h in
theorem tO{G:Str × Str->Option Kd}(hG:∀n g,G n=some g->Bk 4 g)(i:Nat):Bk 4 (Kd.put G (fM (S.T i))):=by
 show Bk 4 ((G ("",S.T i)).getD _)
 cases e:G ("",S.T i) with
 |none=>exact iq m i
 |some g=>exact hG _ _ e
theorem wZ{f1:aq}{f2:bi}(b1:BK 4 f1)(b2:BF 4 f2):Two f1 (sr1 S) f2 (sr2 S) 40:=by
 have l1:∀{r:aq},BK 4 r->BK 18 r:=fun b q hq=>⟨(b q hq).1,sN (b q hq).2 (by decide)⟩
 have l2:∀{r:bi},BF 4 r->BF 18 r:=fun b q hq=>⟨(b q hq).1,(b q hq).2.1,fun k hk=>sN ((b q hq).2.2 k hk) (by decide)⟩
 have hG:∀n g,Gf f1 (sr1 S) n=some g->Bk 4 g:=fun n g e=>by
  unfold Gf ig at e
  by_cases c:n.1=""/\n.2∈eM (sr1 S)
  ·rw [if_pos c] at e
   exact(b1 _ (dC e)).2
  ·rw [if_neg c] at e
   exact nomatch e
 refine wy ?_ (by show 2<=100;decide) (by show 2<=100;decide) (l1 b1) (l2 b2) (l1 (zC m)) (l2 (zY m)) (l1 ?_) (l2 ?_)
 ·exact yt h (i:=2) (j:=3) (by decide) (by decide) (by decide)
 ·exact bK2 (m.T 2) (tO m hG 2) (m.T 3) (fS m)
 ·exact bF2 (bF1 (m.F 1) nr0 (wv (fS m) (tO m hG 2))) (bF1 (m.F 2) (Nat.zero_le _) (Ap (fS m)))
theorem rA{f1 f2:Str × (Str × aq)}{sl:Option (Str × aq)}{its:List It}(e1:f1.1=S.W 1)(e2:f2.1=S.W 2)
  (hA:jb (flS S) [] [f1]=.ok [(S.W 1,(fc1 S,fc2 S))]\/∃c,jb (flS S) [] [f1]=.ref c) (hB:jb (flS S) [] [f1,f2]=.ok (gl S)\/∃c,jb (flS S) [] [f1,f2]=.ref c)
  (s1:∀l,Ls S l->SOk (l.map cq) f1.2) (s2:∀l,Ls S l->SOk (l.map cq) f2.2) (s3:∀l s,Ls S l->sl=some s->SOk (l.map cq) s)
  (li:its.length<=20) (hit:∀it∈its,qz it) (htwo:∀s g1 g2 a1 a2,iR (gp S) 40 its=.ok g1 g2->sl=some s->cD (flS S) (gp S) s=.ok a1 a2->Two g1 a1 g2 a2 40):DOk (flS S) [] ⟨S.W 3,[f1,f2],sl,its⟩:=by
 have hl:∀i l,jb (flS S) [] ([f1,f2].take i)=.ok l->Ls S l:=fun i l e=>by
  match i,e with
  |0,e=>injection e with e;exact .inl e.symm
  |1,e =>
   rcases hA with a|⟨c,a⟩
   ·rw [show [f1,f2].take 1=[f1] from rfl,a] at e
    injection e with e
    exact .inr (.inl e.symm)
   ·rw [show [f1,f2].take 1=[f1] from rfl,a] at e
    exact nomatch e
  |i+2,e =>
   rw [show [f1,f2].take (i+2)=[f1,f2] from by simp] at e
   rcases hB with a|⟨c,a⟩
   ·rw [a] at e
    injection e with e
    exact .inr (.inr e.symm)
   ·rw [a] at e
    exact nomatch e
 have hl2:∀l,jb (flS S) [] [f1,f2]=.ok l->l=gl S:=fun l e=>by
  rcases hB with a|⟨c,a⟩
  ·rw [a] at e
   injection e with e
   exact e.symm
  ·rw [a] at e
   exact nomatch e
 exact {
  good:=yV h m
  sl:=fun i f l hf hr=>by
   have:=hl i l hr
   match i,hf with
   |0,hf=>injection hf with hf;subst hf;exact s1 l this
   |1,hf=>injection hf with hf;subst hf;exact s2 l this
   |i+2,hf=>exact nomatch hf
  rb:=fun i l hr=>Dn h m (hl i l hr)
  nd:=by
   show([]++[f1.1,f2.1]).Nodup
   rw [e1,e2]
   simp [h.W]
  lp:=by show 0<=100;decide
  lf:=by show 2<=100;decide
  li:=li
  it:=hit
  pa:=fun l hr=>Ds h m (.inr (.inr (hl2 l hr)))
  sl2:=fun l s hr hs=>s3 l s (.inr (.inr (hl2 l hr))) hs
  two:=fun l s g1 g2 a1 a2 hr hf hs hw=>by
   rw [hl2 l hr,List.nil_append,gX h] at hf hw
   exact htwo s g1 g2 a1 a2 hf hs hw
  w:=m.W 3 }
include h m
omit h in
theorem yI(i j:Nat):Kd.ok (.name (S.W i) (S.T j)):=⟨cz (m.W i),cz (m.T j)⟩
omit h in
theorem BX:qz (i0 S):=⟨cz (m.T 2),⟨yI m 1 0,yI m 2 1⟩,by show 2<=21;decide,.inl (by show 2<=3;decide)⟩
omit h in
theorem xb(i:Nat):qz (.kind (S.T i) (szK S)):=⟨cz (m.T i),trivial,by show 1<=21;decide,.inl (by show 1<=3;decide)⟩
omit h in
theorem uk(i:Nat):ItK (fM (S.T i)):=⟨(tJ (iq m i)).1,by show 1<=21;decide,.inl (by show 1<=3;decide)⟩
omit h m in
theorem yJ:ItK (szK S):=⟨trivial,by show 1<=21;decide,.inl (by show 1<=3;decide)⟩
omit h in
theorem B3:qz (i2 S):=⟨cz (m.F 1),by show 1<=4;decide,fun q hq=>by rw [List.mem_singleton.mp hq];exact uk m 2,yJ⟩
omit h in
theorem Cp:qz (i3 S):=⟨cz (m.F 2),by show 0<=4;decide,fun q hq=>(nomatch hq),uk m 3⟩
omit h in
theorem oq:∀it∈gi S,qz it:=fun it hi=>by
 unfold gi at hi
 simp only [List.mem_cons,List.not_mem_nil,or_false] at hi
 rcases hi with rfl|rfl|rfl|rfl
 ·exact BX m
 ·exact xb m 3
 ·exact B3 m
 ·exact Cp m
omit h in
theorem AA{x:It}(hx:qz x):∀it∈[i0 S,i1 S,i2 S,i3 S,x],qz it:=fun it hi=>by
 simp only [List.mem_cons,List.not_mem_nil,or_false] at hi
 rcases hi with rfl|rfl|rfl|rfl|rfl
 ·exact BX m
 ·exact xb m 3
 ·exact B3 m
 ·exact Cp m
 ·exact hx
omit m in
theorem zc:jb (flS S) [] [g1 S]=.ok [(S.W 1,(fc1 S,fc2 S))]:=ip (f:=g1 S) (zm h)
theorem Ad{l:bp}(hl:Ls S l):SOk (l.map cq) (g2 S).2:=rG h m hl (.inr ⟨1,0,rfl⟩)
theorem qW{sl:Option (Str × aq)}{its:List It}(s3:∀l s,Ls S l->sl=some s->SOk (l.map cq) s)(li:its.length<=20)(hit:∀it∈its,qz it)
  (htwo:∀s g1 g2 a1 a2,iR (gp S) 40 its=.ok g1 g2->sl=some s->cD (flS S) (gp S) s=.ok a1 a2->Two g1 a1 g2 a2 40):DOk (flS S) [] ⟨S.W 3,[g1 S,g2 S],sl,its⟩ :=
 rA h m rfl rfl (.inl (zc h)) (.inl (fK h)) (fun _ _=>jc h m) (fun _ hl=>Ad h m hl) s3 li hit htwo
theorem nk{its:List It}(li:its.length<=20)(hit:∀it∈its,qz it)(hf:(∃c,iR (gp S) 40 its=.ref c)\/∃f1 f2,iR (gp S) 40 its=.ok f1 f2/\BK 4 f1/\BF 4 f2):DOk (flS S) [] ⟨S.W 3,[g1 S,g2 S],some (S.W 5,[]),its⟩ :=
 qW h m (fun _ s _ e=>by injection e with e;subst e;exact jc h m) li hit fun s x1 x2 a1 a2 hr hs hw=>by
  injection hs with hs
  subst hs
  rw [tG h] at hw
  injection hw with ha hb
  subst ha hb
  rcases hf with ⟨c,hf⟩|⟨f1,f2,hf,b1,b2⟩
  ·rw [hf] at hr
   exact nomatch hr
  ·rw [hf] at hr
   injection hr with ha hb
   subst ha hb
   exact wZ h m b1 b2
theorem rO{sl:Option (Str × aq)}(hs:sl=none\/sl=some (S.W 5,[])):DOk (flS S) [] ⟨S.W 3,[g1 S,g2 S],sl,gi S⟩:=by
 rcases hs with rfl|rfl
 ·exact qW h m (fun _ _ _ e=>nomatch e) (by show 4<=20;decide) (oq m) fun _ _ _ _ _ _ e=>nomatch e
 ·exact nk h m (by show 4<=20;decide) (oq m) (.inr ⟨_,_,ky h,sR m,ue m⟩)
omit m in
theorem oK{w:Str}{its:List It}{c:Nat}(hm:cR (flS S) [] ⟨w,[g1 S,g2 S],none,its⟩=.ref c):∃c,iR (gp S) 40 its=.ref c:=by
 unfold cR at hm
 simp only [fK h,List.nil_append,gX h] at hm
 cases e:iR (gp S) 40 its with
 |ref c=>exact⟨c,rfl⟩
 |ok f1 f2 =>
  rw [e] at hm
  exact nomatch hm
omit h in
theorem rp:∀n,Kd.ok (gg n)
 |0=>trivial
 |n+1=>⟨rp n,trivial⟩
theorem zw{f1 f2:Str × (Str × aq)}{sl:Option (Str × aq)}{its:List It}{so:Str}{re:Option (Str × PyData × PyData)}(hw:Way S f1 f2 sl its so re):DOk (flS S) [] ⟨S.W 3,[f1,f2],sl,its⟩:=by
 cases hw with
 |w12=>exact nk h m (by show 5<=20;decide) (AA m ⟨cz (m.T 4),rp m 20,by decide +kernel,.inr (by decide +kernel)⟩) (.inl (oK h (w:=S.W 3) (uF h)))
 |w0=>exact rA h m rfl rfl (.inr ⟨1,eQ (i:=0) (l:=[]) rfl rfl (vT h)⟩) (.inr ⟨1,eQ (i:=0) (l:=[]) rfl rfl (vT h)⟩) (fun _ _=>jc h m) (fun _ hl=>Ad h m hl) (fun _ s _ e=>by injection e with e;subst e;exact jc h m) (by show 4<=20;decide) (oq m) (fun s x1 x2 a1 a2 hr hs hw=>by
   injection hs with hs
   subst hs
   rw [tG h] at hw
   injection hw with ha hb
   subst ha hb
   rw [ky h] at hr
   injection hr with ha hb
   subst ha hb
   exact wZ h m (sR m) (ue m))
 |w1=>exact qW h m (fun _ s _ e=>by injection e with e;subst e;exact jc h m) (by show 4<=20;decide) (oq m) (fun s x1 x2 a1 a2 _ hs hw=>by
   injection hs with hs
   subst hs
   rw [vT h] at hw
   exact nomatch hw)
 |@w2 i hi=>exact rA h m rfl rfl (.inl (zc h)) (.inr ⟨2,eQ (i:=1) (l:=[(S.W 1,(fc1 S,fc2 S))]) (zc h) rfl (nj h (gD h) (by rw [qZ h];rcases hi with rfl|rfl<;>simp [h.T]))⟩) (fun _ _=>jc h m) (fun _ hl=>rG h m hl (.inl rfl)) (fun _ s _ e=>by injection e with e;subst e;exact jc h m) (by show 4<=20;decide) (oq m) (fun s x1 x2 a1 a2 hr hs hw=>by
   injection hs with hs
   subst hs
   rw [tG h] at hw
   injection hw with ha hb
   subst ha hb
   rw [ky h] at hr
   injection hr with ha hb
   subst ha hb
   exact wZ h m (sR m) (ue m))
 |@w3 i hi=>exact qW h m (fun _ s hl e=>by injection e with e;subst e;exact rG h m hl (.inl rfl)) (by show 4<=20;decide) (oq m) (fun s x1 x2 a1 a2 _ hs hw=>by
   injection hs with hs
   subst hs
   rw [nj h (mJ h) (by rw [ve h];rcases hi with rfl|rfl<;>simp [h.T])] at hw
   exact nomatch hw)
 |@w4 i hi=>exact nk h m (by show 5<=20;decide) (AA m (xb m i)) (.inl (oK h (w:=S.W 3) (yD h hi)))
 |@w5 i hi=>exact nk h m (by show 5<=20;decide) (AA m ⟨cz (m.F i),by show 0<=4;decide,fun q hq=>(nomatch hq),yJ⟩) (.inl (oK h (w:=S.W 3) (yB h hi)))
 |w6=>exact nk h m (by show 5<=20;decide) (AA m (cz (m.W 6))) (.inl (oK h (w:=S.W 3) (yz h)))
 |w7=>exact nk h m (by show 5<=20;decide) (AA m ⟨cz (m.T 4),⟨trivial,yI m 1 5⟩,by show 2<=21;decide,.inl (by show 2<=3;decide)⟩) (.inl (oK h (w:=S.W 3) (xZ h)))
 |w8 =>
  have hb:∀{fs:List (Str × (Str × aq))},fs[0]?=some (S.W 1,(S.W 4,[(S.T 0,.name (S.W 2) (S.T 0))]))->jb (flS S) [] fs=.ref 2:=fun e=>eQ (i:=0) (l:=[]) (by rw [List.take_zero];rfl) e (by
   unfold cD
   rw [gD h]
   refine if_neg fun c=>?_
   exact c _ (List.mem_singleton.mpr rfl) (S.W 2,S.T 0) (List.mem_singleton.mpr rfl) (x0 h (h.W0 2)))
  exact rA h m rfl rfl (.inr ⟨2,hb rfl⟩) (.inr ⟨2,hb rfl⟩) (fun _ hl=>rG h m hl (.inr ⟨2,0,rfl⟩)) (fun _ hl=>Ad h m hl) (fun _ s _ e=>by injection e with e;subst e;exact jc h m) (by show 4<=20;decide) (oq m) (fun s x1 x2 a1 a2 hr hs hw=>by
   injection hs with hs
   subst hs
   rw [tG h] at hw
   injection hw with ha hb
   subst ha hb
   rw [ky h] at hr
   injection hr with ha hb
   subst ha hb
   exact wZ h m (sR m) (ue m))
 |w9=>exact nk h m (by show 2<=20;decide) (fun it hi=>oq m it (by
   simp only [List.mem_cons,List.not_mem_nil,or_false] at hi
   unfold gi
   rcases hi with rfl|rfl<;>simp)) (.inr ⟨_,_,BU h,fun q hq=>by rw [List.mem_singleton.mp hq];exact⟨m.T 3,fS m⟩,bF1 (m.F 2) (Nat.zero_le _) (Ap (fS m))⟩)
 |w10=>exact nk h m (by show 4<=20;decide) (fun it hi=>by
   simp only [List.mem_cons,List.not_mem_nil,or_false] at hi
   rcases hi with rfl|rfl|rfl|rfl
   ·exact BX m
   ·exact⟨cz (m.T 3),⟨trivial,trivial⟩,by show 2<=21;decide,.inl (by show 2<=3;decide)⟩
   ·exact B3 m
   ·exact Cp m) (.inr ⟨_,_,yl h,CB m,CU m⟩)
 |w11=>exact nk h m (by show 4<=20;decide) (fun it hi=>by
   simp only [List.mem_cons,List.not_mem_nil,or_false] at hi
   rcases hi with rfl|rfl|rfl|rfl
   ·exact BX m
   ·exact xb m 3
   ·exact B3 m
   ·exact⟨cz (m.F 2),by show 1<=4;decide,fun q hq=>by rw [List.mem_singleton.mp hq];exact yJ,uk m 3⟩) (.inr ⟨_,_,yb h,sR m,CL m⟩)
end
abbrev lwN:List Str:=["_law_script","_law_got","_law_bad","_law_sort","_law_rest","_law_due","_law_k","_law_found","_law_caught"]
def wL(K:W.Frag):Sp:=fun vs H Q _=>∃(a:Addr) (ns:List Int),vs=[.ref a]/\SqL K H a (ns.map V.int)/\ns.length<=63/\∀H',aE H H'->Q (.bl true) H'
theorem kI.same{K:W.Frag}{H H':Hp}{v:V}{re:Option (Str × PyData × PyData)}(s:aE H H')(h:kI K H v re):kI K H' v re:=by
 cases re with
 |none=>exact h
 |some r =>
  obtain⟨a,u,f,e,h1,h2,h3⟩:=h
  exact⟨a,u,f,e,s.tup h1,h2.same s,h3.same s⟩
theorem Db{r:aq}(b:BK 4 r):BK 18 r:=fun q hq=>⟨(b q hq).1,sN (b q hq).2 (by decide)⟩
theorem Dj{r:bi}(b:BF 4 r):BF 18 r:=fun q hq=>⟨(b q hq).1,(b q hq).2.1,fun k hk=>sN ((b q hq).2.2 k hk) (by decide)⟩
theorem kQ{x:Kd}(b:Bk 4 x):AlD 30 (Kd.dat x):=AlD.le (lE x) (by have:=dQ x;have:=b.2;omega)
theorem zj{S:SC}(m:Sm S){f1 f2:Str × (Str × aq)}{sl:Option (Str × aq)}{its:List It}{so:Str}{r:Str × PyData × PyData}(hw:Way S f1 f2 sl its so (some r)):AlD 40 (.tuple [.str (S.W 3),.str r.1,r.2.1,r.2.2]):=by
 have four:∀{n:Nat} {a b c d:PyData},AlD n a->AlD n b->AlD n c->AlD n d->AlD (n+1) (.tuple [a,b,c,d]):=fun ha hb hc hd=>⟨by show 4<=100;decide,fun x hx=>by
  simp only [List.mem_cons,List.not_mem_nil,or_false] at hx
  rcases hx with rfl|rfl|rfl|rfl
  ·exact ha
  ·exact hb
  ·exact hc
  ·exact hd⟩
 have fn:∀{f:List Kd × Kd},f.1.length<=5->(∀k∈f.2::f.1,Bk 4 k)->AlD 39 (Fn.dat f):=fun {f} hl hk=>by
  refine⟨by show 2<=100;decide,fun x hx=>?_⟩
  simp only [List.mem_cons,List.not_mem_nil,or_false] at hx
  rcases hx with rfl|rfl
  ·refine⟨by rw [lm0];omega,fun y hy=>?_⟩
   obtain⟨k,hk',rfl⟩:=List.mem_map.mp hy
   exact AlD.le (kQ (hk k (.tail _ hk'))) (by decide)
  ·exact AlD.le (kQ (hk _ (.head _))) (by decide)
 cases hw with
 |w9=>exact four trivial trivial (AlD.le (kQ (iq m 2)) (by decide)) trivial
 |w10=>exact four trivial trivial (AlD.le (kQ (fS m)) (by decide)) (AlD.le (kQ (uG m)) (by decide))
 |w11=>exact four trivial trivial (fn (by show 0<=5;decide) (Ap (fS m))) (fn (by show 1<=5;decide) (wv (fS m) (fS m)))
section
variable{P:Program}{w:World}{K:W.Frag}{mg:Str->Option Value}{base:Heap}
theorem ju:aO lwN ["_law_script"] (ah uY):=mkS
theorem Bq{f fC fSc fWr fFu fSe fAs fRe fSa CF CM CN:Addr}{cl:Nat->Addr}{fd fdC fdSc fdWr fdFu fdSe fdAs fdRe fdSa:FuncData} (F:Fun K "law" "law" uY f fd)
  (GC:bq P w K mg base CX0 1 fC fdC ["_law_script","_law_k"] (qt K)) (bC:aV K fdC ["_law_script","_law_k"] []) (kC:W.keepIn K (.ref fC)=true) (mC:mg "_law_cell"=some (.ref fC))
  (GSc:bq P w K mg base CX0 2 fSc fdSc ["_law_script"] (vA K)) (bSc:aV K fdSc ["_law_script"] []) (kSc:W.keepIn K (.ref fSc)=true) (mSc:mg "_law_scene"=some (.ref fSc))
  (GWr:bq P w K mg base CX0 2 fWr fdWr wgP (vK K)) (bWr:aV K fdWr wgP []) (kWr:W.keepIn K (.ref fWr)=true) (mWr:mg "_law_wrong"=some (.ref fWr))
  (GFu:bq P w K mg base CX0 1 fFu fdFu ["_law_got"] (vo K)) (bFu:aV K fdFu ["_law_got"] []) (kFu:W.keepIn K (.ref fFu)=true) (mFu:mg "_law_full"=some (.ref fFu))
  (GSe:bq P w K mg base CX0 1 fSe fdSe ["_law_got"] (kr K)) (bSe:aV K fdSe ["_law_got"] []) (kSe:W.keepIn K (.ref fSe)=true) (mSe:mg "_law_sealing"=some (.ref fSe))
  (GAs:bq P w K mg base CX0 48 fAs fdAs asP (uH K CF CM CN cl)) (bAs:aV K fdAs asP []) (kAs:W.keepIn K (.ref fAs)=true) (mAs:mg "_law_asked"=some (.ref fAs))
  (GRe:bq P w K mg base CX0 41 fRe fdRe reP (lN K CN cl)) (bRe:aV K fdRe reP []) (kRe:W.keepIn K (.ref fRe)=true) (mRe:mg "_law_refused"=some (.ref fRe))
  (GSa:bq P w K mg base CX0 43 fSa fdSa smP (xV K CF)) (bSa:aV K fdSa smP []) (kSa:W.keepIn K (.ref fSa)=true) (mSa:mg "_law_same"=some (.ref fSa))
  (cM:Cls K CM) (n2:bt K CM "result") (mr:mg "range"=none) :
  bq P w K mg base CX0 49 f fd ["_law_script"] (wL K):=by
 refine F.k0 ju fun cdv A outer s H vs Q E hr h=>?_
 obtain⟨a,ns,rfl,hA,h63,q⟩:=h
 have hu:=dY hr
 have hr1:cG 1 _:=hr.mono (by decide)
 have hr2:cG 2 _:=hr.mono (by decide)
 have hr41:cG 41 _:=hr.mono (by decide)
 have hr43:cG 43 _:=hr.mono (by decide)
 have hr48:cG 48 _:=hr.mono (by decide)
 have clA:∀{H':Hp},aE H H'->SqL K H' a (ns.map V.int):=fun e=>jw e hA
 obtain⟨t4,d4,k4⟩:∃t,PSs (ee CX0 P w K mg base lwN "law" (ah uY) f cdv A outer s H E).nox (List.drop 4 (ar uY)) t/\∀(H1:Hp) (g b dp:Addr) (so:Str) (rv:V) (S:SC) (f1 f2:Str × (Str × aq)) (sl sl':Option (Str × aq)) (its:List It) (re:Option (Str × PyData × PyData)) (r1:aq) (r2:bi),aE H H1->Am S->(sl=none\/sl=some (S.W 5,[]))->jr K H1 g S (g1 S) (g2 S) sl (gi S)->Way S f1 f2 sl' its so re->jr K H1 b S f1 f2 sl' its->kI K H1 rv re->An K H1 dp r1 r2->(match sl with|none=>(fr1 S,fr2 S)|some _=>(sr1 S,sr2 S))=(r1,r2) ->
   t { nx:=fun _ H'=>Q .non H',rt:=Q } [some (.ref a),some (.ref g),some (.ref b),some (.str so),some rv,some (.ref dp),none,none,none] H1:=by
  refine⟨_,(@ag _ _ _ _ _ (di PassesOwn.never rfl (eK rfl mr (@aa _ _ _ _ _ ai ae rfl)) (aP (i:=6) ju.nd rfl (Or.inl rfl)) (@ag _ _ _ _ _ (qD (aD GAs hr48 rfl mAs kAs bAs .nil bx (@aa _ _ _ _ _ (pv 2) (@aa _ _ _ _ _ (pv 1) ae rfl) rfl)) (dE rfl (aL (aP (i:=7) ju.nd rfl (Or.inl rfl)) (aL (aP (i:=8) ju.nd rfl (Or.inl rfl)) cC))))
   (@ag _ _ _ _ _ (cg (PW.pt (tS (aX oS (pv 8) cL (aZ _)) (qU (jl (L2.pt_val (aD GRe hr41 rfl mRe kRe bRe .nil bx (@aa _ _ _ _ _ (pv 8) (@aa _ _ _ _ _ (pv 3) (@aa _ _ _ _ _ (pv 4) (@aa _ _ _ _ _ (ix0 aw (aJ hu (pv 1) am (fun _ _=>rfl)) ai) ae rfl) rfl) rfl) rfl))))))) (@ao _ _ _ (@aS _ _ _ _ oP)) aU)
   (@ag _ _ _ _ _ (qD (aD GAs hr48 rfl mAs kAs bAs .nil bx (@aa _ _ _ _ _ (pv 1) (@aa _ _ _ _ _ (pv 1) ae rfl) rfl)) (dE rfl (aL (aP (i:=7) ju.nd rfl (Or.inl rfl)) (aL (aP (i:=8) ju.nd rfl (Or.inl rfl)) cC))))
   (@ao _ _ _ (cg (PW.pt (tS (aX uP (pv 8) cL (aZ _)) (qU (jl (L2.pt_val (aD GSa hr43 rfl mSa kSa bSa .nil bx (@aa _ _ _ _ _ (bY (pv 7) rfl) (@aa _ _ _ _ _ (ix0 bj (pv 5) ai) (@aa _ _ _ _ _ (ix0 bj (pv 5) ai) ae rfl) rfl) rfl))))))) (@ao _ _ _ (@aS _ _ _ _ oP)) aU)))))) (@ao _ _ _ (@aS _ _ _ _ oP))),?_⟩
  intro H1 g b dp so rv S f1 f2 sl sl' its re r1 r2 s1 sok hsl hg way hb hre hdp hr12
  have h:=B9 sok
  have m:=AM sok
  have ndF:((flS S).map (·.1)).Nodup:=by simp [flS,h.W]
  have nd1:((fc1 S).map (·.1)).Nodup:=yt h (by decide) (by decide) (by decide)
  have nd2:((sr1 S).map (·.1)).Nodup:=yt h (by decide) (by decide) (by decide)
  have nd3:((sr2 S).map (·.1)).Nodup:=Da h (by decide) (by decide) (by decide)
  have al:AlM r1 r2:=by
   cases sl with
   |none=>obtain⟨rfl,rfl⟩:=Prod.mk.inj hr12;exact yE (by show 2<=100;decide) (by show 2<=100;decide) (Db (sR m)) (Dj (ue m))
   |some _=>obtain⟨rfl,rfl⟩:=Prod.mk.inj hr12;exact yE (by show 2<=100;decide) (by show 2<=100;decide) (Db (zC m)) (Dj (zY m))
  have wm:=xl h way
  have gm:cR (flS S) [] ⟨S.W 3,[g1 S,g2 S],sl,gi S⟩=.ok (gl S) (r1,r2):=by
   rw [vv h hsl]
   rcases hsl with rfl|rfl<;>exact congrArg _ hr12
  refine⟨_,rfl,by decide,by decide,?_⟩
  refine jU (n:=2) (fun i σ H2=>∃y6 y7 y8:Option V,σ=[some (.ref a),some (.ref g),some (.ref b),some (.str so),some rv,some (.ref dp),y6,y7,y8]/\aE H1 H2) ⟨none,none,none,rfl,sr0⟩ ?_ ?_
  ·rintro i σ H2 hi ⟨y6,y7,y8,rfl,s2⟩
   obtain⟨gkv,hgd,wa,ka,fa,sa,fc,kl,ia,y0,y1,z1,x1,x2,x3,ys,FG⟩:=hg
   have hg:jr K H1 g S (g1 S) (g2 S) sl (gi S):=⟨gkv,hgd,wa,ka,fa,sa,fc,kl,ia,y0,y1,z1,x1,x2,x3,ys,FG⟩
   refine⟨_,rfl,_,rfl,b,g,S,f1,f2,sl',its,g1 S,g2 S,sl,gi S,rfl,hb.same s2,hg.same s2,ndF,nd1,nd2,nd3,zw h m way,?_⟩
   cases re with
   |none =>
    obtain⟨c,hc,hso,hm⟩:=wm
    rw [hm]
    intro H3 t e d s3 ht he
    refine⟨t,_,rfl,SqT.of ht,rfl,_,_,rfl,_,_,rfl,rfl,?_⟩
    have s13:=s2.trans s3
    refine⟨_,rfl,rfl,_,rfl,dL (fun z=>nomatch z) (fun _=>?_)⟩
    refine⟨_,rfl,_,rfl,_,rfl,_,rfl,g,.ref wa,rfl,FG.vw▸cT.k (k:=.inr "words") (s13 _ _ hgd),wa,_,_,_,rfl,rfl,SqL.of (s13 _ _ FG.hw),(show atI (txs S.W 7) 3=some (.str (S.W 3)) from rfl),?_⟩
    refine⟨e,so,rv,S.W 3,rfl,.inl ⟨c,d,hc,hso,he⟩,fun H4 s4=>?_⟩
    have s14:=s13.trans s4
    refine⟨true,rfl,nV ?_⟩
    refine⟨_,rfl,_,rfl,g,g,S,g1 S,g2 S,sl,gi S,g1 S,g2 S,sl,gi S,rfl,hg.same s14,hg.same s14,ndF,nd1,nd2,nd3,rO h m hsl,?_⟩
    rw [gm]
    intro H5 t5 x dx5 rf fs s5 ht5 hx lr hF
    refine⟨t5,_,rfl,SqT.of ht5,rfl,_,_,rfl,_,_,rfl,rfl,?_⟩
    refine⟨_,rfl,rfl,_,rfl,dL (fun z=>nomatch z) (fun _=>?_)⟩
    obtain⟨l1,l2,hdp',hk1,hk2⟩:=hdp.same (s14.trans s5)
    refine⟨_,rfl,x,CM,dx5,fs,_,rfl,hx,cM,n2,lr,_,rfl,dp,_,_,_,rfl,rfl,SqT.of hdp',(show atI [V.ref l1,.ref l2] 0=some (.ref l1) from rfl),_,rfl,dp,_,_,_,rfl,rfl,SqT.of hdp',(show atI [V.ref l1,.ref l2] 1=some (.ref l2) from rfl),?_⟩
    refine⟨rf,l1,l2,r1,r2,rfl,hF,hk1,hk2,al,fun H6 s6=>?_⟩
    exact⟨true,rfl,nV ⟨_,_,_,rfl,(s14.trans s5).trans s6⟩⟩
   |some r =>
    obtain⟨hso,hm⟩:=wm
    rw [hm]
    intro H3 t e dx s3 ht he hX
    refine⟨t,_,rfl,SqT.of ht,rfl,_,_,rfl,_,_,rfl,rfl,?_⟩
    have s13:=s2.trans s3
    refine⟨_,rfl,rfl,_,rfl,dL (fun z=>nomatch z) (fun _=>?_)⟩
    refine⟨_,rfl,_,rfl,_,rfl,_,rfl,g,.ref wa,rfl,FG.vw▸cT.k (k:=.inr "words") (s13 _ _ hgd),wa,_,_,_,rfl,rfl,SqL.of (s13 _ _ FG.hw),(show atI (txs S.W 7) 3=some (.str (S.W 3)) from rfl),?_⟩
    refine⟨e,so,rv,S.W 3,rfl,.inr ⟨dx,r,hso,he,hX,hre.same s13,zj m way⟩,fun H4 s4=>?_⟩
    have s14:=s13.trans s4
    refine⟨true,rfl,nV ?_⟩
    refine⟨_,rfl,_,rfl,g,g,S,g1 S,g2 S,sl,gi S,g1 S,g2 S,sl,gi S,rfl,hg.same s14,hg.same s14,ndF,nd1,nd2,nd3,rO h m hsl,?_⟩
    rw [gm]
    intro H5 t5 x dx5 rf fs s5 ht5 hx lr hF
    refine⟨t5,_,rfl,SqT.of ht5,rfl,_,_,rfl,_,_,rfl,rfl,?_⟩
    refine⟨_,rfl,rfl,_,rfl,dL (fun z=>nomatch z) (fun _=>?_)⟩
    obtain⟨l1,l2,hdp',hk1,hk2⟩:=hdp.same (s14.trans s5)
    refine⟨_,rfl,x,CM,dx5,fs,_,rfl,hx,cM,n2,lr,_,rfl,dp,_,_,_,rfl,rfl,SqT.of hdp',(show atI [V.ref l1,.ref l2] 0=some (.ref l1) from rfl),_,rfl,dp,_,_,_,rfl,rfl,SqT.of hdp',(show atI [V.ref l1,.ref l2] 1=some (.ref l2) from rfl),?_⟩
    refine⟨rf,l1,l2,r1,r2,rfl,hF,hk1,hk2,al,fun H6 s6=>?_⟩
    exact⟨true,rfl,nV ⟨_,_,_,rfl,(s14.trans s5).trans s6⟩⟩
  ·rintro σ H2 ⟨y6,y7,y8,rfl,s2⟩
   exact q _ (s1.trans s2)
 refine⟨_,(@ag _ _ _ _ _ (ba (i:=1) ju.nd (aD GSc hr2 rfl mSc kSc bSc .nil bx (@aa _ _ _ _ _ (pv 0) ae rfl))) (@ag _ _ _ _ _ (qD (aD GWr hr2 rfl mWr kWr bWr .nil bx (@aa _ _ _ _ _ (aD GC hr1 rfl mC kC bC .nil bx (@aa _ _ _ _ _ (pv 0) (@aa _ _ _ _ _ ai ae rfl) rfl)) (@aa _ _ _ _ _ (pv 1) ae rfl) rfl)) (dE rfl (aL (aP (i:=2) ju.nd rfl (Or.inl rfl)) (aL (aP (i:=3) ju.nd rfl (Or.inl rfl)) (aL (aP (i:=4) ju.nd rfl (Or.inl rfl)) cC))))) (@ag _ _ _ _ _ (ba (i:=5) ju.nd (aD GFu hr1 rfl mFu kFu bFu .nil bx (@aa _ _ _ _ _ (pv 1) ae rfl))) (@ag _ _ _ _ _ (cg (aX uP (aJ hu (pv 1) am (fun _ _=>rfl)) cL (aZ _)) (@ao _ _ _ (ba (i:=5) ju.nd (aD GSe hr1 rfl mSe kSe bSe .nil bx (@aa _ _ _ _ _ (pv 1) ae rfl)))) aU) d4)))),?_⟩
 refine⟨_,rfl,a,ns,rfl,hA,h63,fun H1 g gkv S sl s1 sok hsl hg l20 hB=>?_⟩
 have hgA:jr K H1 g S (g1 S) (g2 S) sl (gi S):=⟨gkv,hg,hB⟩
 have hB':=hB
 obtain⟨wa,ka,fa,sa,fc,kl,ia,y0,y1,z1,x1,x2,x3,ys,FG⟩:=hB'
 refine⟨_,rfl,a,ns,0,rfl,clA s1,h63,by decide,by decide,fun c _=>⟨_,rfl,c,g,gkv,S,sl,rfl,hg,l20,hB,fun H2 t b rv f1 f2 sl' its so re s2 way hb ht hre=>?_⟩⟩
 refine⟨t,_,rfl,SqT.of ht,rfl,_,_,rfl,_,_,rfl,_,_,rfl,rfl,?_⟩
 have s12:=s1.trans s2
 refine⟨_,rfl,g,S,g1 S,g2 S,sl,gi S,rfl,hgA.same s2,cz ((AM sok).T 0),sok.n0,sok.n1,fun H3 dp s3 hL=>?_⟩
 refine⟨_,rfl,g,x3,rfl,FG.v3▸cT.k (k:=.inr "seal") ((s2.trans s3) _ _ hg),rfl,_,rfl,?_⟩
 cases sl with
 |none =>
  obtain rfl:x3=.non:=FG.h3
  exact Cc rfl (k4 _ g b dp so rv S f1 f2 none sl' its re _ _ (s12.trans s3) sok hsl (hgA.same (s2.trans s3)) way (hb.same s3) (hre.same s3) hL rfl)
 |some sv =>
  obtain⟨p,tw,xs,rfl,_⟩:jk K H1 x3 sv:=FG.h3
  refine dL (fun _=>?_) (fun z=>(z (by simp)).elim)
  refine⟨_,rfl,g,S,g1 S,g2 S,some sv,gi S,rfl,hgA.same (s2.trans s3),fun H4 dp' s4 hL'=>?_⟩
  have s34:=s3.trans s4
  exact k4 _ g b dp' so rv S f1 f2 (some sv) sl' its re _ _ (s12.trans s34) sok hsl (hgA.same (s2.trans s34)) way (hb.same s34) (hre.same s34) hL' rfl
end
section
variable{K:W.Frag}{f T:Addr}{fd:FuncData}{oT:Value}{dT:Option Addr}{nT:Nat}{sT:Array (Option Value)}{tk:Tok}
theorem A2 (F:jT K "normal" "normal" dU (.ref T) f fd) (lT:K.lookup T=some ⟨oT,dT,.seq #[.int 40 tk] nT,sT⟩):aV K fd ["kind","own","parts","most"] [] :=
 F.binds lT fun _ _ _ _ _ _ us hl=>by
  have hl':us.length=4:=by simpa using hl
  match us,hl' with
  |[_,_,_,_],_=>exact⟨_,rfl,rfl⟩
theorem A9 (F:jT K "take_item" "take_item" cX (.ref T) f fd) (lT:K.lookup T=some ⟨oT,dT,.seq #[.int 40 tk] nT,sT⟩):aV K fd tiP [] :=
 F.binds lT fun _ _ _ _ _ _ us hl=>by
  have hl':us.length=4:=by simpa using hl
  match us,hl' with
  |[_,_,_,_],_=>exact⟨_,rfl,rfl⟩
def Ak(a b c d:Addr):Nat->Addr
 |0=>a
 |1=>b
 |2=>c
 |_=>d
end
end K48
namespace L2
open PySem PyProof.Rows
theorem Fun.bb{K:W.Frag}{x qual:Str}{st:Stmt}{f:Addr}{fd:FuncData}{ps:List Str}(F:Fun K x qual st f fd)
  (h:∀kV doc pm an cdv ct (us:List Value),us.length=ps.length->bindArgs (W.fnOf x qual (aI st) (ar st) (ah st) .none kV doc pm an cdv ct) ⟨us,[]⟩=pure (ps.zip us):=by first|exact(fun _ _ _ _ _ _ us hl=>match us,hl with|[_],_=>rfl)|exact(fun _ _ _ _ _ _ us hl=>match us,hl with|[_,_],_=>rfl)|exact(fun _ _ _ _ _ _ us hl=>match us,hl with|[_,_,_],_=>rfl)|exact(fun _ _ _ _ _ _ us hl=>match us,hl with|[_,_,_,_],_=>rfl)):aV K fd ps []:=F.binds h
end L2
namespace PySem.W.Fast
def tw2639941006757813778:=()
def tw14609627141911843375:=()
def tw16447060070593280209:=()
def tw10840315819216322413:=()
def tw1009947780563228045:=()
def tw2066827852541648345:=()
def tw15173424059025310560:=()
def tw5516745051111835238:=()
def tw15106927421413061907:=()
def tw1608789584950079753:=()
def tw7549579033130513204:=()
def tw5105032271158899181:=()
def tw14714867426266643582:=()
def tw14203415016384469687:=()
def tw12396538164678535859:=()
def tw594526000426950437:=()
def tw419813905927851584:=()
def tw18246753802431535988:=()
def tw9837997636734407733:=()
def tw7351042165839540690:=()
def tw5406720480650961417:=()
def tw17189276674790789633:=()
def tw12551301123649780279:=()
def tw2824142896767335638:=()
def tw8305127165496655777:=()
def tw10796065908505107734:=()
def tw1542091803727015691:=()
def tw9641297527000191150:=()
def tw346481676882874548:=()
def tw2636954391054345003:=()
def tw11475580272474694900:=()
def tw6894240504170042453:=()
def tw13322543221769825149:=()
def tw3918769052804447990:=()
def tw12983197348128421006:=()
def tw504360507610562536:=()
def tw8331138915944975530:=()
def tw16219093844985799548:=()
def tw2448705267403530548:=()
def tw2290426949604999131:=()
def tw8407738895167063540:=()
def tw1734533969271168536:=()
def tw8553045462068689046:=()
def tw11635630138604242243:=()
def tw12153038552061192738:=()
def tw178343165316505677:=()
def tw5528478178332626953:=()
def tw13208939915797174707:=()
def tw10900459017769181442:=()
def tw14564742184588834564:=()
def tw18090637267844721766:=()
def tw5831001954842853121:=()
def tw8298960542371078192:=()
def tw13153034334991987543:=()
def tw15256621511315537246:=()
def tw15323884862635115491:=()
def tw5547042730119413784:=()
def tw1683935885135189068:=()
def tw15598330915409306091:=()
def tw2664732498567171770:=()
def tw11624686783006622646:=()
def tw12875569688912210136:=()
def tw573774912877469292:=()
def tw17806776867609145852:=()
def tw6874865887647246644:=()
def tw14362842108729550952:=()
def tw15669981678963348369:=()
def tw12757101582391498274:=()
def tw7792004348914349096:=()
def tw9702120767766082649:=()
def tw10611898635586858036:=()
def tw7416472701930892599:=()
def tw13056728503006015150:=()
def tw8321822961928918596:=()
def tw11795824217641422187:=()
def tw15483475431433341068:=()
def tw7789573414417216513:=()
def tw14837229665105287083:=()
def tw2465130830340082989:=()
def tw18273977638385973298:=()
def tw10037210323269058820:=()
def tw1061603672937123332:=()
def tw16268520200671383916:=()
def tw539510434975949249:=()
def tw14745137294132459053:=()
def tw16634054831405107396:=()
def tw18442861559858891010:=()
def tw2811653973476415957:=()
def tw1943358922709599139:=()
def tw12999126805842106418:=()
def tw18413636442603814648:=()
def tw5376411648815139383:=()
def tw7768745878016796226:=()
def tw1349420415958285163:=()
def tw13931340752325050827:=()
def tw18063559875357189197:=()
def tw2662298653822067798:=()
def tw13651529975902990946:=()
def tw10242654310953329259:=()
def tw7313157324665530883:=()
def tw1302379101804685373:=()
def tw10397547604123415212:=()
def tw15400136520332610886:=()
def tw4362822723704368128:=()
def tw5017654100682354519:=()
def tw15885213426760278817:=()
def tw16655668377598129129:=()
def tw9978972443267199969:=()
def tw10950173248130576430:=()
def tw14376439550481649382:=()
def tw15001928561248118340:=()
def tw9316465334679129044:=()
def tw11200497492296499194:=()
def tw5832832027150728281:=()
def tw10654348143218939079:=()
def tw5597990528089898379:=()
def tw12961812101459882901:=()
def tw1433738471086093979:=()
def tw5546155311834879899:=()
def tw2409321358698876389:=()
def tw440581534632131053:=()
def tw10252012094566849493:=()
def tw6166358279562028596:=()
def tw4241252673287422578:=()
def tw15025820684419237802:=()
def tw93093828812145333:=()
def tw382145464808281886:=()
def tw4042482047900820790:=()
def tw5238435712819745727:=()
def tw3921374636685475072:=()
def tw910346651496354902:=()
def tw7465681232778399369:=()
def tw1908611670541757893:=()
def tw6009714174541187250:=()
def tw6165356209885380713:=()
def tw7518120215438424110:=()
def tw1473179707570896841:=()
def tw11926268445449404288:=()
def tw3114487578085391972:=()
def tw13640903032985898187:=()
def tw13065712759599821574:=()
def tw4458125446073829229:=()
def tw11824369846714554073:=()
def tw15444284164638576367:=()
def tw9492137607127393866:=()
def tw5828981252619461234:=()
def tw16907824786929654293:=()
def tw2529995280224165003:=()
def tw11453006344452310224:=()
def tw828688771942411223:=()
def tw7375840819812300857:=()
def tw18286931063243316982:=()
def tw1664952639374089599:=()
def tw11674274378045545965:=()
def tw10412019043813711621:=()
def tw16028150694117412279:=()
def tw15271781319542815299:=()
def tw5783540649394922220:=()
def tw14555720110160744892:=()
def tw9503520888604437579:=()
def tw15323090961249027333:=()
def tw4293016642163340361:=()
def tw17381082514537922822:=()
def tw8870332018117857896:=()
def tw1590934482946363987:=()
def tw11627067143806309060:=()
def tw5925534805432917205:=()
def tw10337205691834908317:=()
def tw13963681652727343940:=()
def tw12168986372468284201:=()
def tw2830412274674318626:=()
def tw4892297276006005797:=()
def tw16146757063443848143:=()
def tw15133862544986822467:=()
def tw4091924832989513142:=()
def tw18404757185301087467:=()
def tw5966123380150155419:=()
def tw16667608124097540822:=()
def tw6185686567360550914:=()
def tw1150868706019704597:=()
def tw11945547024880839284:=()
def tw3463684585207006679:=()
def tw8401091979412798970:=()
def tw4598734997732033568:=()
def tw15703715078402639049:=()
def tw15446440059318656007:=()
def tw15247363056390278264:=()
def tw1572998923594317430:=()
def tw15133324040958450049:=()
def tw3107740875132311744:=()
def tw15349315226185898978:=()
def tw15176265028688504540:=()
def tw17556805512167759500:=()
def tw1691387425780283626:=()
def tw7870310103546303598:=()
def tw9692490866367127564:=()
def tw8838969829565768553:=()
def tw11915988178773445197:=()
def tw12877829519207589448:=()
def tw461031433184116274:=()
def tw1424590735546228222:=()
def tw2750952721691258619:=()
def tw1582905797382939250:=()
def tw6232455704705073888:=()
def tw1275610491761708937:=()
def tw17695183173629816297:=()
def tw13252447748680743631:=()
def tw6294907994942466893:=()
def tw2698494562312228279:=()
def tw10885460884401619112:=()
def tw2468410403389347680:=()
def tw14580544660226520976:=()
def tw13897108869595056429:=()
def tw17337363738210523332:=()
def tw1166837163188221768:=()
def tw8905131324175724732:=()
def tw17189673934186414386:=()
def tw8355149529596636123:=()
def tw265068105806872124:=()
def tw13466968874565787994:=()
def tw8719443823005045853:=()
def tw13769306252323750411:=()
def tw11664856867796346285:=()
def tw9299590919189159065:=()
def tw7092550311008136532:=()
def tw766845988120705734:=()
def tw16558508692385125187:=()
def tw13395607025247695863:=()
def tw14611769014757091862:=()
def tw8247051813225072831:=()
def tw10379319047454476257:=()
def tw10206589687307289138:=()
def tw8033210156941076392:=()
def tw4617903884438036001:=()
def tw12322434120615890528:=()
def tw500090088711824787:=()
def tw9228413500971079213:=()
def tw16267957616363791036:=()
def tw9934145123243511968:=()
def tw75271872592241271:=()
def tw4547815495257361246:=()
def tw11679829434044937093:=()
def tw6447547080441959227:=()
def tw9008474720505523678:=()
def tw14162341309063462336:=()
def tw3886885810999904736:=()
def tw8864616785964794677:=()
def tw6097797464707363203:=()
def tw16015394877124022005:=()
def tw6836192719547072712:=()
def tw2567088544727702776:=()
def tw6272256139257936728:=()
def tw13656493999183562698:=()
def tw10299621705251910371:=()
def tw19638386899971335:=()
def tw9647453305620446278:=()
def tw2062049690624835339:=()
def tw14003168711207133978:=()
def tw9024043977781358802:=()
def tw8809245236253800032:=()
def tw13042412658376790823:=()
def tw17591667947424311163:=()
def tw17702065837523131374:=()
def tw1863039540876800194:=()
def tw7641114726936417909:=()
def tw16547432363533275866:=()
def tw9270780862907931434:=()
def tw16899820282852867786:=()
def tw9993033349522909374:=()
def tw12157088888289601643:=()
def tw7074068069882360756:=()
def tw6405788032449913282:=()
def tw1454806551569327517:=()
def tw16874070308053364773:=()
def tw4356265432078489737:=()
def tw17213386641256841669:=()
def tw17062278419971405760:=()
def tw11781703821389307484:=()
def tw7310873080194375297:=()
def tw15410754341116878972:=()
def tw14760084827507750113:=()
def tw8312013033634892719:=()
def tw6209652134896617786:=()
def tw5876595861015316152:=()
def tw6462951797040556177:=()
def tw8839679710451511289:=()
def tw15917606658904122634:=()
def tw11975859072872925723:=()
def tw1871734075840793354:=()
def tw4135103250076442609:=()
def tw10666483076819285910:=()
def tw15861191300611563233:=()
def tw18151269835281418748:=()
def tw10963531555749214530:=()
def tw17676376150931226178:=()
def tw11129735942898385926:=()
def tw4548181574515403001:=()
def tw6981798447193199740:=()
def tw3108340351769442736:=()
def tw13241525896446766620:=()
def tw13079513153864563154:=()
def tw4459644103228591974:=()
def tw10146691242995373986:=()
def tw13531441786597467112:=()
def tw8302670476682768705:=()
def tw9882847441322829340:=()
def tw16841182205515752005:=()
def tw15781340308942161128:=()
def tw11088274385557215995:=()
def tw10090684870909873221:=()
def tw263253355054154017:=()
def tw4555959842576428517:=()
def tw13265068831464862729:=()
def tw186423907273584061:=()
def tw16324489958384156756:=()
def tw12726153771925834916:=()
def tw5193589142696304619:=()
def tw7250904217462234836:=()
def tw12559001234948242420:=()
def tw10848649339677165900:=()
def tw17365541664136980333:=()
def tw17697544495023685558:=()
def tw14112236475407983530:=()
def tw15636465598311626765:=()
def tw11618742176438747321:=()
def tw229841937832059595:=()
def tw2293250943923635967:=()
def tw6270498095867899852:=()
def tw6541373677530983521:=()
def tw13143070560991384430:=()
def tw15729561240608664771:=()
def tw7977502710945034923:=()
def tw15913898143543157868:=()
def tw14130401154125770041:=()
def tw1612279164087942052:=()
def tw14119925894551121497:=()
def tw9874464875243197724:=()
def tw12098394391363592336:=()
def tw10942081967152337567:=()
def tw14932849340667968577:=()
def tw4343009361094566655:=()
def tw13176462575227789727:=()
def tw6352290227974246631:=()
def tw7839584037125750147:=()
def tw1170846575348298317:=()
def tw985082598317140843:=()
def tw16551231787758715960:=()
def tw2264784454597865254:=()
def tw4990966101419426153:=()
def tw7735255520682481930:=()
def tw6663828504512484991:=()
def tw10302394168638763830:=()
def tw5755069699428956705:=()
def tw13256582928758619379:=()
def tw13923536816516458821:=()
def tw16412348876208170359:=()
def tw16951717321832804383:=()
end PySem.W.Fast
namespace L2
open PySem
theorem q0{α β:Type}[BEq α][LawfulBEq α]{a:α}{b:β}:∀{l:List (α × β)},l.lookup a=some b->(a,b)∈l
 |[],h=>by cases h
 |p::r,h=>by
  obtain⟨c,d⟩:=p
  rw [List.lookup_cons] at h
  by_cases e:(a==c)=true
  ·rw [e] at h
   have h':d=b:=Option.some.inj h
   rw [eq_of_beq e,h']
   exact .head _
  ·rw [Bool.not_eq_true] at e
   rw [e] at h
   exact .tail _ (q0 h)
theorem walk_z{q:Program}{loose:List Str}{XP:(Str->Option Value)->Heap->Prop}{r:W.RowW}{d:DefRec}{kwd:List (Str × Expr)}{run:Value->List Value->Sem Value}{K:Params->W.Frag}{as:List Addr}{n t:Nat}
  (hl:∀p:Params,as=(K p).map (·.1)) (h:W.WalkO q loose XP (fun w h=>(K w.params).In h) r d kwd run):W.WalkX q loose XP (W.X.obsZ as) (W.X.valZ K n t) r d kwd run:=by
 intro w s₀ s₁ mg mb G y a o pm cd doc dV kV ho hd hcd hD hmg hg args vals as' L hpre hlay hrd hwl hlo
 refine h w s₀ s₁ mg mb G (fun b ob hb=>?_) a o pm cd doc dV kV ho hd hcd hD hmg hg args vals as' hpre hlay hrd hwl hlo
 have e1:as.map s₀.heap.get?=(K w.params).map fun p=>some p.2:=congrArg Prod.fst y
 rw [hl w.params,List.map_map] at e1
 have e2:s₀.heap.get? b=some ob:=List.map_inj_left.mp e1 (b,ob) (q0 hb)
 exact L.keeps b ob e2
end L2
namespace K48
open PySem L2 Kk
set_option autoImplicit true in
set_option relaxedAutoImplicit true in
theorem all_mk{l:W.OpenLaw}{w:World}{K:W.Frag}{h:Heap}{mg:Str->Option Value}{fa f1 f2 f3 f4 f5 f6 f7 f8 f9 f10 f11 f12 f13 f14 f15 f16 f17 f18 f19 f20 f21 f22 f23 f24 f25 f26 f27 f28 f29:Addr}(X:K.In h)(G:h.Ns mainGlobals mg) (hfa:mg "law"=some (.ref fa))
  {CF CN CK CA CT CR CW CM T T1 T3 T4 T5 ff fn fm fi fj fh fu fv fx:Addr} {odf anf odn ann odm anm odi ani odj anj odh anh dT dT1 dT3 odu anu odv anv odx anx dT4 dT5:Option Addr} {slf sln slm sli slj slh sT sT1 sT3 slu slv slx sT4 sT5:Array (Option Value)} {ocf kVf dcf pmf cdf ctf ocn kVn dcn pmn cdn ctn ocm kVm dcm pmm cdm ctm oci kVi dci pmi cdi cti ocj kVj dcj pmj cdj ctj och kVh dch pmh cdh cth oT oT1 oT3 ocu kVu dcu pmu cdu ctu ocv kVv dcv pmv cdv' ctv ocx kVx dcx pmx cdx ctx oT4 oT5:Value} {nT nT1 nT3 nT4 nT5:Nat} {tk tk1' tk3 tk4 tk5:Tok}
  (a1:W.nsIn K mainGlobals "words_in"=some (some (.ref f1))) (l1:K.lookup f1=some ⟨oc1,od1,.func (W.fnOf "words_in" "words_in" (aI lV) (ar lV) (ah lV) .none kV1 dc1 pm1 an1 cd1 ct1),sl1⟩) (c1:W.codeIn K cd1 "words_in"=true) (k1:W.keepIn K (.ref f1)=true)
  (a2:W.nsIn K mainGlobals "names_in"=some (some (.ref f2))) (l2:K.lookup f2=some ⟨oc2,od2,.func (W.fnOf "names_in" "names_in" (aI lU) (ar lU) (ah lU) .none kV2 dc2 pm2 an2 cd2 ct2),sl2⟩) (c2:W.codeIn K cd2 "names_in"=true) (k2:W.keepIn K (.ref f2)=true)
  (a3:W.nsIn K mainGlobals "put"=some (some (.ref f3))) (l3:K.lookup f3=some ⟨oc3,od3,.func (W.fnOf "put" "put" (aI Aj) (ar Aj) (ah Aj) .none kV3 dc3 pm3 an3 cd3 ct3),sl3⟩) (c3:W.codeIn K cd3 "put"=true) (k3:W.keepIn K (.ref f3)=true)
  (a4:W.nsIn K mainGlobals "bounded"=some (some (.ref f4))) (l4:K.lookup f4=some ⟨oc4,od4,.func (W.fnOf "bounded" "bounded" (aI gH) (ar gH) (ah gH) .none kV4 dc4 pm4 an4 cd4 ct4),sl4⟩) (c4:W.codeIn K cd4 "bounded"=true) (k4:W.keepIn K (.ref f4)=true)
  (a5:W.nsIn K mainGlobals "told_kind"=some (some (.ref f5))) (l5:K.lookup f5=some ⟨oc5,od5,.func (W.fnOf "told_kind" "told_kind" (aI dR) (ar dR) (ah dR) .none kV5 dc5 pm5 an5 cd5 ct5),sl5⟩) (c5:W.codeIn K cd5 "told_kind"=true) (k5:W.keepIn K (.ref f5)=true)
  (a6:W.nsIn K mainGlobals "own_name"=some (some (.ref f6))) (l6:K.lookup f6=some ⟨oc6,od6,.func (W.fnOf "own_name" "own_name" (aI Al) (ar Al) (ah Al) .none kV6 dc6 pm6 an6 cd6 ct6),sl6⟩) (c6:W.codeIn K cd6 "own_name"=true) (k6:W.keepIn K (.ref f6)=true)
  (a7:W.nsIn K mainGlobals "put_in_face"=some (some (.ref f7))) (l7:K.lookup f7=some ⟨oc7,od7,.func (W.fnOf "put_in_face" "put_in_face" (aI cI) (ar cI) (ah cI) .none kV7 dc7 pm7 an7 cd7 ct7),sl7⟩) (c7:W.codeIn K cd7 "put_in_face"=true) (k7:W.keepIn K (.ref f7)=true)
  (a8:W.nsIn K mainGlobals "put_in_fun"=some (some (.ref f8))) (l8:K.lookup f8=some ⟨oc8,od8,.func (W.fnOf "put_in_fun" "put_in_fun" (aI iN) (ar iN) (ah iN) .none kV8 dc8 pm8 an8 cd8 ct8),sl8⟩) (c8:W.codeIn K cd8 "put_in_fun"=true) (k8:W.keepIn K (.ref f8)=true)
  (a9:W.nsIn K mainGlobals "refined"=some (some (.ref f9))) (l9:K.lookup f9=some ⟨oc9,od9,.func (W.fnOf "refined" "refined" (aI gB) (ar gB) (ah gB) .none kV9 dc9 pm9 an9 cd9 ct9),sl9⟩) (c9:W.codeIn K cd9 "refined"=true) (k9:W.keepIn K (.ref f9)=true)
  (a10:W.nsIn K mainGlobals "take_opened"=some (some (.ref f10))) (l10:K.lookup f10=some ⟨oc10,od10,.func (W.fnOf "take_opened" "take_opened" (aI bQ) (ar bQ) (ah bQ) .none kV10 dc10 pm10 an10 cd10 ct10),sl10⟩) (c10:W.codeIn K cd10 "take_opened"=true) (k10:W.keepIn K (.ref f10)=true)
  (a11:W.nsIn K mainGlobals "add_once"=some (some (.ref f11))) (l11:K.lookup f11=some ⟨oc11,od11,.func (W.fnOf "add_once" "add_once" (aI gJ) (ar gJ) (ah gJ) .none kV11 dc11 pm11 an11 cd11 ct11),sl11⟩) (c11:W.codeIn K cd11 "add_once"=true) (k11:W.keepIn K (.ref f11)=true)
  (a12:W.nsIn K mainGlobals "wanted"=some (some (.ref f12))) (l12:K.lookup f12=some ⟨oc12,od12,.func (W.fnOf "wanted" "wanted" (aI iC) (ar iC) (ah iC) .none kV12 dc12 pm12 an12 cd12 ct12),sl12⟩) (c12:W.codeIn K cd12 "wanted"=true) (k12:W.keepIn K (.ref f12)=true)
  (a13:W.nsIn K mainGlobals "told_with"=some (some (.ref f13))) (l13:K.lookup f13=some ⟨oc13,od13,.func (W.fnOf "told_with" "told_with" (aI fD) (ar fD) (ah fD) .none kV13 dc13 pm13 an13 cd13 ct13),sl13⟩) (c13:W.codeIn K cd13 "told_with"=true) (k13:W.keepIn K (.ref f13)=true)
  (a14:W.nsIn K mainGlobals "hidden_by"=some (some (.ref f14))) (l14:K.lookup f14=some ⟨oc14,od14,.func (W.fnOf "hidden_by" "hidden_by" (aI fB) (ar fB) (ah fB) .none kV14 dc14 pm14 an14 cd14 ct14),sl14⟩) (c14:W.codeIn K cd14 "hidden_by"=true) (k14:W.keepIn K (.ref f14)=true)
  (a15:W.nsIn K mainGlobals "maker_of"=some (some (.ref f15))) (l15:K.lookup f15=some ⟨oc15,od15,.func (W.fnOf "maker_of" "maker_of" (aI gz) (ar gz) (ah gz) .none kV15 dc15 pm15 an15 cd15 ct15),sl15⟩) (c15:W.codeIn K cd15 "maker_of"=true) (k15:W.keepIn K (.ref f15)=true)
  (a16:W.nsIn K mainGlobals "known_within"=some (some (.ref f16))) (l16:K.lookup f16=some ⟨oc16,od16,.func (W.fnOf "known_within" "known_within" (aI iG) (ar iG) (ah iG) .none kV16 dc16 pm16 an16 cd16 ct16),sl16⟩) (c16:W.codeIn K cd16 "known_within"=true) (k16:W.keepIn K (.ref f16)=true)
  (a17:W.nsIn K mainGlobals "_law_cell"=some (some (.ref f17))) (l17:K.lookup f17=some ⟨oc17,od17,.func (W.fnOf "_law_cell" "_law_cell" (aI sO) (ar sO) (ah sO) .none kV17 dc17 pm17 an17 cd17 ct17),sl17⟩) (c17:W.codeIn K cd17 "_law_cell"=true) (k17:W.keepIn K (.ref f17)=true)
  (a18:W.nsIn K mainGlobals "_law_word"=some (some (.ref f18))) (l18:K.lookup f18=some ⟨oc18,od18,.func (W.fnOf "_law_word" "_law_word" (aI lG) (ar lG) (ah lG) .none kV18 dc18 pm18 an18 cd18 ct18),sl18⟩) (c18:W.codeIn K cd18 "_law_word"=true) (k18:W.keepIn K (.ref f18)=true)
  (a19:W.nsIn K mainGlobals "_law_alike"=some (some (.ref f19))) (l19:K.lookup f19=some ⟨oc19,od19,.func (W.fnOf "_law_alike" "_law_alike" (aI lY) (ar lY) (ah lY) .none kV19 dc19 pm19 an19 cd19 ct19),sl19⟩) (c19:W.codeIn K cd19 "_law_alike"=true) (k19:W.keepIn K (.ref f19)=true)
  (a20:W.nsIn K mainGlobals "_law_same"=some (some (.ref f20))) (l20:K.lookup f20=some ⟨oc20,od20,.func (W.fnOf "_law_same" "_law_same" (aI sr) (ar sr) (ah sr) .none kV20 dc20 pm20 an20 cd20 ct20),sl20⟩) (c20:W.codeIn K cd20 "_law_same"=true) (k20:W.keepIn K (.ref f20)=true)
  (a21:W.nsIn K mainGlobals "_law_great"=some (some (.ref f21))) (l21:K.lookup f21=some ⟨oc21,od21,.func (W.fnOf "_law_great" "_law_great" (aI lP) (ar lP) (ah lP) .none kV21 dc21 pm21 an21 cd21 ct21),sl21⟩) (c21:W.codeIn K cd21 "_law_great"=true) (k21:W.keepIn K (.ref f21)=true)
  (a22:W.nsIn K mainGlobals "_law_unfit"=some (some (.ref f22))) (l22:K.lookup f22=some ⟨oc22,od22,.func (W.fnOf "_law_unfit" "_law_unfit" (aI mf) (ar mf) (ah mf) .none kV22 dc22 pm22 an22 cd22 ct22),sl22⟩) (c22:W.codeIn K cd22 "_law_unfit"=true) (k22:W.keepIn K (.ref f22)=true)
  (a23:W.nsIn K mainGlobals "_law_wrong"=some (some (.ref f23))) (l23:K.lookup f23=some ⟨oc23,od23,.func (W.fnOf "_law_wrong" "_law_wrong" (aI jf) (ar jf) (ah jf) .none kV23 dc23 pm23 an23 cd23 ct23),sl23⟩) (c23:W.codeIn K cd23 "_law_wrong"=true) (k23:W.keepIn K (.ref f23)=true)
  (a24:W.nsIn K mainGlobals "_law_full"=some (some (.ref f24))) (l24:K.lookup f24=some ⟨oc24,od24,.func (W.fnOf "_law_full" "_law_full" (aI jo) (ar jo) (ah jo) .none kV24 dc24 pm24 an24 cd24 ct24),sl24⟩) (c24:W.codeIn K cd24 "_law_full"=true) (k24:W.keepIn K (.ref f24)=true)
  (a25:W.nsIn K mainGlobals "_law_sealing"=some (some (.ref f25))) (l25:K.lookup f25=some ⟨oc25,od25,.func (W.fnOf "_law_sealing" "_law_sealing" (aI gx) (ar gx) (ah gx) .none kV25 dc25 pm25 an25 cd25 ct25),sl25⟩) (c25:W.codeIn K cd25 "_law_sealing"=true) (k25:W.keepIn K (.ref f25)=true)
  (a26:W.nsIn K mainGlobals "_law_scene"=some (some (.ref f26))) (l26:K.lookup f26=some ⟨oc26,od26,.func (W.fnOf "_law_scene" "_law_scene" (aI i8) (ar i8) (ah i8) .none kV26 dc26 pm26 an26 cd26 ct26),sl26⟩) (c26:W.codeIn K cd26 "_law_scene"=true) (k26:W.keepIn K (.ref f26)=true)
  (a27:W.nsIn K mainGlobals "_law_asked"=some (some (.ref f27))) (l27:K.lookup f27=some ⟨oc27,od27,.func (W.fnOf "_law_asked" "_law_asked" (aI gP) (ar gP) (ah gP) .none kV27 dc27 pm27 an27 cd27 ct27),sl27⟩) (c27:W.codeIn K cd27 "_law_asked"=true) (k27:W.keepIn K (.ref f27)=true)
  (a28:W.nsIn K mainGlobals "_law_refused"=some (some (.ref f28))) (l28:K.lookup f28=some ⟨oc28,od28,.func (W.fnOf "_law_refused" "_law_refused" (aI fF) (ar fF) (ah fF) .none kV28 dc28 pm28 an28 cd28 ct28),sl28⟩) (c28:W.codeIn K cd28 "_law_refused"=true) (k28:W.keepIn K (.ref f28)=true)
  (a29:W.nsIn K mainGlobals "law"=some (some (.ref f29))) (l29:K.lookup f29=some ⟨oc29,od29,.func (W.fnOf "law" "law" (aI uY) (ar uY) (ah uY) .none kV29 dc29 pm29 an29 cd29 ct29),sl29⟩) (c29:W.codeIn K cd29 "law"=true) (k29:W.keepIn K (.ref f29)=true)
  (aF:W.nsIn K mainGlobals "Face"=some (some (.ref CF)))
  (aN:W.nsIn K mainGlobals "NoFit"=some (some (.ref CN)))
  (aK:W.nsIn K mainGlobals "NoKind"=some (some (.ref CK)))
  (aA:W.nsIn K mainGlobals "NoName"=some (some (.ref CA)))
  (aT:W.nsIn K mainGlobals "TooBig"=some (some (.ref CT)))
  (aR:W.nsIn K mainGlobals "Refused"=some (some (.ref CR)))
  (af:W.nsIn K mainGlobals "fitted"=some (some (.ref ff)))
  (lf:K.lookup ff=some ⟨ocf,odf,.func (W.fnOf "fitted" "fitted" (aI cb) (ar cb) (ah cb) (.ref T) kVf dcf pmf anf cdf ctf),slf⟩)
  (cf:W.codeIn K cdf "fitted"=true)
  (kf:W.keepIn K (.ref ff)=true)
  (lT:K.lookup T=some ⟨oT,dT,.seq #[.str "" tk] nT,sT⟩)
  (an:W.nsIn K mainGlobals "normal"=some (some (.ref fn)))
  (ln:K.lookup fn=some ⟨ocn,odn,.func (W.fnOf "normal" "normal" (aI dU) (ar dU) (ah dU) (.ref T1) kVn dcn pmn ann cdn ctn),sln⟩)
  (cn:W.codeIn K cdn "normal"=true)
  (kn:W.keepIn K (.ref fn)=true)
  (lT1:K.lookup T1=some ⟨oT1,dT1,.seq #[.int 40 tk1'] nT1,sT1⟩)
  (im:W.findIn K (.ref CF) "put"=some (some (.ref fm)))
  (lm:K.lookup fm=some ⟨ocm,odm,.func (W.fnOf "put" "Face.put" (aI fN) (ar fN) (ah fN) (.ref T3) kVm dcm pmm anm cdm ctm),slm⟩)
  (cm:W.codeIn K cdm "Face.put"=true)
  (km:W.keepIn K (.ref fm)=true)
  (tm:W.isFn K (.ref fm)=true)
  (lT3:K.lookup T3=some ⟨oT3,dT3,.seq #[.int 40 tk3] nT3,sT3⟩)
  (ih:W.findIn K (.ref CF) "hidden"=some (some (.ref fh)))
  (lh:K.lookup fh=some ⟨och,odh,.func (W.fnOf "hidden" "Face.hidden" (aI iJ) (ar iJ) (ah iJ) .none kVh dch pmh anh cdh cth),slh⟩)
  (ch:W.codeIn K cdh "Face.hidden"=true)
  (kh:W.keepIn K (.ref fh)=true)
  (th:W.isFn K (.ref fh)=true)
  (iF:W.findIn K (.ref CF) "__init__"=some (some (.ref fi)))
  (li:K.lookup fi=some ⟨oci,odi,.func (W.fnOf "__init__" "Face.__init__" (aI rT) (ar rT) (ah rT) .none kVi dci pmi ani cdi cti),sli⟩)
  (ci:W.codeIn K cdi "Face.__init__"=true)
  (ki:W.keepIn K (.ref fi)=true)
  (tF:W.isFn K (.ref fi)=true)
  (mk:W.makesIn K CF=true)
  (kF:W.keepIn K (.ref CF)=true)
  (pg:W.plainGet K CF Str.empty=true)
  (hd:W.hasDictIn K CF=true)
  (po:W.plainOver K CF=true)
  (sa:W.findIn K (.ref CF) "__setattr__"=some (some (.builtin "object.__setattr__")))
  (nK:W.findIn K (.ref CF) "kinds"=some none)
  (nF:W.findIn K (.ref CF) "funs"=some none)
  (jF:W.findIn K (.ref CN) "__init__"=some (some (.ref fj)))
  (lj:K.lookup fj=some ⟨ocj,odj,.func (W.fnOf "__init__" "NoFit.__init__" (aI lL) (ar lL) (ah lL) .none kVj dcj pmj anj cdj ctj),slj⟩)
  (cj:W.codeIn K cdj "NoFit.__init__"=true)
  (kj:W.keepIn K (.ref fj)=true)
  (tj:W.typeIn K (.ref fj)=some (.type "function"))
  (xI:gn K CN kX "ValueError.__new__"=true)
  (xK:W.excIn K CK kX "ValueError.__new__"=true)
  (xA:W.excIn K CA kX "ValueError.__new__"=true)
  (xT:W.excIn K CT kX "ValueError.__new__"=true)
  (bg:W.specialIn K (.ref CR) "__getattribute__"=some (some (.builtin "type.__getattribute__")))
  (br:W.readsIn K CR (.type "type")=true)
  (bf:W.findCls K (.ref CR) (.type "type") "__init__"=some (.val (.builtin "ValueError.__init__")))
  (saN:W.findIn K (.ref CN) "__setattr__"=some (some (.builtin "object.__setattr__")))
  (poN:(W.clsIn K CN).any (fun cd=>qd cd.mro)=true)
  (hdN:W.hasDictIn K CN=true)
  (obN:W.mroIn K CN (.type "object")=some true)
  (sp:W.specialIn K (.builtin "object.__class__") "__get__"=some (some (.builtin "getset_descriptor.__get__")))
  (clF:W.findIn K (.ref CF) "__class__"=some (some (.builtin "object.__class__")))
  (obF:W.mroIn K CF (.type "object")=some true)
  (j5:W.kitOne K (.ref CF) (.ref CF)=some true)
  (tk1:W.takesIn K (.builtin "object.__class__")=some true)
  (t_part:W.takerIn K CN "part"=some none)
  (t_name:W.takerIn K CN "name"=some none)
  (t_due:W.takerIn K CN "due"=some none)
  (t_found:W.takerIn K CN "found"=some none)
  (aW:W.nsIn K mainGlobals "Twice"=some (some (.ref CW)))
  (aM:W.nsIn K mainGlobals "Maker"=some (some (.ref CM)))
  (au:W.nsIn K mainGlobals "full_face"=some (some (.ref fu)))
  (lu:K.lookup fu=some ⟨ocu,odu,.func (W.fnOf "full_face" "full_face" (aI cQ) (ar cQ) (ah cQ) (.ref T4) kVu dcu pmu anu cdu ctu),slu⟩)
  (cu:W.codeIn K cdu "full_face"=true)
  (ku:W.keepIn K (.ref fu)=true)
  (lT4:K.lookup T4=some ⟨oT4,dT4,.seq #[.int 40 tk4] nT4,sT4⟩)
  (av:W.nsIn K mainGlobals "take_item"=some (some (.ref fv)))
  (lv:K.lookup fv=some ⟨ocv,odv,.func (W.fnOf "take_item" "take_item" (aI cX) (ar cX) (ah cX) (.ref T5) kVv dcv pmv anv cdv' ctv),slv⟩)
  (cv:W.codeIn K cdv' "take_item"=true)
  (kv:W.keepIn K (.ref fv)=true)
  (lT5:K.lookup T5=some ⟨oT5,dT5,.seq #[.int 40 tk5] nT5,sT5⟩)
  (xW:W.excIn K CW kX "ValueError.__new__"=true)
  (iX:W.findIn K (.ref CM) "__init__"=some (some (.ref fx)))
  (lx:K.lookup fx=some ⟨ocx,odx,.func (W.fnOf "__init__" "Maker.__init__" (aI lX) (ar lX) (ah lX) .none kVx dcx pmx anx cdx ctx),slx⟩)
  (cx:W.codeIn K cdx "Maker.__init__"=true)
  (kx:W.keepIn K (.ref fx)=true)
  (tX:W.isFn K (.ref fx)=true)
  (mkX:W.makesIn K CM=true)
  (kM:W.keepIn K (.ref CM)=true)
  (pgM:W.plainGet K CM Str.empty=true)
  (hdM':W.hasDictIn K CM=true)
  (poM:W.plainOver K CM=true)
  (saM:W.findIn K (.ref CM) "__setattr__"=some (some (.builtin "object.__setattr__")))
  (nfM:W.findIn K (.ref CM) "formals"=some none)
  (nrM:W.findIn K (.ref CM) "result"=some none)
  (isN:(match K.lookup CN with|some ⟨_,_,.cls _,_⟩=>true|_=>false)=true)
  (gaN:W.findIn K (.ref CN) "__getattribute__"=some (some (.builtin "BaseException.__getattribute__")))
  (ghN:W.findIn K (.ref CN) "__getattr__"=some none)
  (clN:W.findIn K (.ref CN) "__class__"=some (some (.builtin "object.__class__")))
  (beN:W.mroIn K CN (.type "BaseException")=some true)
  (exN:W.exmOne K (.ref CN) (.ref CR)=some true)
  (isW:(match K.lookup CW with|some ⟨_,_,.cls _,_⟩=>true|_=>false)=true)
  (gaW:W.findIn K (.ref CW) "__getattribute__"=some (some (.builtin "BaseException.__getattribute__")))
  (ghW:W.findIn K (.ref CW) "__getattr__"=some none)
  (clW:W.findIn K (.ref CW) "__class__"=some (some (.builtin "object.__class__")))
  (beW:W.mroIn K CW (.type "BaseException")=some true)
  (exW:W.exmOne K (.ref CW) (.ref CR)=some true)
  (obW:W.mroIn K CW (.type "object")=some true)
  (isA:(match K.lookup CA with|some ⟨_,_,.cls _,_⟩=>true|_=>false)=true)
  (gaA:W.findIn K (.ref CA) "__getattribute__"=some (some (.builtin "BaseException.__getattribute__")))
  (ghA:W.findIn K (.ref CA) "__getattr__"=some none)
  (clA:W.findIn K (.ref CA) "__class__"=some (some (.builtin "object.__class__")))
  (beA:W.mroIn K CA (.type "BaseException")=some true)
  (exA:W.exmOne K (.ref CA) (.ref CR)=some true)
  (obA:W.mroIn K CA (.type "object")=some true)
  (isK:(match K.lookup CK with|some ⟨_,_,.cls _,_⟩=>true|_=>false)=true)
  (gaK:W.findIn K (.ref CK) "__getattribute__"=some (some (.builtin "BaseException.__getattribute__")))
  (ghK:W.findIn K (.ref CK) "__getattr__"=some none)
  (clK:W.findIn K (.ref CK) "__class__"=some (some (.builtin "object.__class__")))
  (beK:W.mroIn K CK (.type "BaseException")=some true)
  (exK:W.exmOne K (.ref CK) (.ref CR)=some true)
  (obK:W.mroIn K CK (.type "object")=some true)
  (isT:(match K.lookup CT with|some ⟨_,_,.cls _,_⟩=>true|_=>false)=true)
  (gaT:W.findIn K (.ref CT) "__getattribute__"=some (some (.builtin "BaseException.__getattribute__")))
  (ghT:W.findIn K (.ref CT) "__getattr__"=some none)
  (clT:W.findIn K (.ref CT) "__class__"=some (some (.builtin "object.__class__")))
  (beT:W.mroIn K CT (.type "BaseException")=some true)
  (exT:W.exmOne K (.ref CT) (.ref CR)=some true)
  (obT:W.mroIn K CT (.type "object")=some true)
  (jNN:W.kitOne K (.ref CN) (.ref CN)=some true)
  (jWW:W.kitOne K (.ref CW) (.ref CW)=some true)
  (jWA:W.kitOne K (.ref CW) (.ref CA)=some false)
  (jWK:W.kitOne K (.ref CW) (.ref CK)=some false)
  (jWT:W.kitOne K (.ref CW) (.ref CT)=some false)
  (jAW:W.kitOne K (.ref CA) (.ref CW)=some false)
  (jAA:W.kitOne K (.ref CA) (.ref CA)=some true)
  (jAK:W.kitOne K (.ref CA) (.ref CK)=some false)
  (jAT:W.kitOne K (.ref CA) (.ref CT)=some false)
  (jKW:W.kitOne K (.ref CK) (.ref CW)=some false)
  (jKA:W.kitOne K (.ref CK) (.ref CA)=some false)
  (jKK:W.kitOne K (.ref CK) (.ref CK)=some true)
  (jKT:W.kitOne K (.ref CK) (.ref CT)=some false)
  (jTW:W.kitOne K (.ref CT) (.ref CW)=some false)
  (jTA:W.kitOne K (.ref CT) (.ref CA)=some false)
  (jTK:W.kitOne K (.ref CT) (.ref CK)=some false)
  (jTT:W.kitOne K (.ref CT) (.ref CT)=some true)
  (f_part:W.findIn K (.ref CN) "part"=some none)
  (f_name:W.findIn K (.ref CN) "name"=some none)
  (f_due:W.findIn K (.ref CN) "due"=some none)
  (f_found:W.findIn K (.ref CN) "found"=some none)
  (z1:W.nsIn K mainGlobals "len"=some none)
  (z2:W.nsIn K mainGlobals "list"=some none)
  (z3:W.nsIn K mainGlobals "range"=some none)
  (z4:W.nsIn K mainGlobals "dict"=some none)
  (z5:W.nsIn K mainGlobals "tuple"=some none)
  (z6:W.nsIn K mainGlobals "int"=some none)
  (z7:W.nsIn K mainGlobals "isinstance"=some none)
  (z8:W.nsIn K mainGlobals "str"=some none)
  (z9:W.nsIn K mainGlobals "bool"=some none)
  (z10:W.nsIn K mainGlobals "all"=some none) :
  ∃fd:FuncData,(∀(s:Shared) (v:Value),BindsTo s fd ⟨[v],[]⟩ [("_law_script",v)])/\∀base:Heap,K.In base->base.Ns mainGlobals mg->bq l.prog w K mg base CX0 49 fa fd ["_law_script"] (wL K):=by
 have e:=hfa.symm.trans (W.mg_of X G a29)
 cases e
 have n1:=W.mg_none_of X G z1
 have n2:=W.mg_none_of X G z2
 have n3:=W.mg_none_of X G z3
 have n4:=W.mg_none_of X G z4
 have n5:=W.mg_none_of X G z5
 have n6:=W.mg_none_of X G z6
 have n7:=W.mg_none_of X G z7
 have n8:=W.mg_none_of X G z8
 have n9:=W.mg_none_of X G z9
 have n10:=W.mg_none_of X G z10
 have m1:=W.mg_of X G a1
 have m2:=W.mg_of X G a2
 have m3:=W.mg_of X G a3
 have m4:=W.mg_of X G a4
 have m5:=W.mg_of X G a5
 have m6:=W.mg_of X G a6
 have m7:=W.mg_of X G a7
 have m8:=W.mg_of X G a8
 have m9:=W.mg_of X G a9
 have m10:=W.mg_of X G a10
 have m11:=W.mg_of X G a11
 have m12:=W.mg_of X G a12
 have m13:=W.mg_of X G a13
 have m14:=W.mg_of X G a14
 have m15:=W.mg_of X G a15
 have m16:=W.mg_of X G a16
 have m17:=W.mg_of X G a17
 have m18:=W.mg_of X G a18
 have m19:=W.mg_of X G a19
 have m20:=W.mg_of X G a20
 have m21:=W.mg_of X G a21
 have m22:=W.mg_of X G a22
 have m23:=W.mg_of X G a23
 have m24:=W.mg_of X G a24
 have m25:=W.mg_of X G a25
 have m26:=W.mg_of X G a26
 have m27:=W.mg_of X G a27
 have m28:=W.mg_of X G a28
 have m29:=W.mg_of X G a29
 have F1:=bV (st:=lV) l1 c1 k1
 have F2:=bV (st:=lU) l2 c2 k2
 have F3:=bV (st:=Aj) l3 c3 k3
 have F4:=bV (st:=gH) l4 c4 k4
 have F5:=bV (st:=dR) l5 c5 k5
 have F6:=bV (st:=Al) l6 c6 k6
 have F7:=bV (st:=cI) l7 c7 k7
 have F8:=bV (st:=iN) l8 c8 k8
 have F9:=bV (st:=gB) l9 c9 k9
 have F10:=bV (st:=bQ) l10 c10 k10
 have F11:=bV (st:=gJ) l11 c11 k11
 have F12:=bV (st:=iC) l12 c12 k12
 have F13:=bV (st:=fD) l13 c13 k13
 have F14:=bV (st:=fB) l14 c14 k14
 have F15:=bV (st:=gz) l15 c15 k15
 have F16:=bV (st:=iG) l16 c16 k16
 have F17:=bV (st:=sO) l17 c17 k17
 have F18:=bV (st:=lG) l18 c18 k18
 have F19:=bV (st:=lY) l19 c19 k19
 have F20:=bV (st:=sr) l20 c20 k20
 have F21:=bV (st:=lP) l21 c21 k21
 have F22:=bV (st:=mf) l22 c22 k22
 have F23:=bV (st:=jf) l23 c23 k23
 have F24:=bV (st:=jo) l24 c24 k24
 have F25:=bV (st:=gx) l25 c25 k25
 have F26:=bV (st:=i8) l26 c26 k26
 have F27:=bV (st:=gP) l27 c27 k27
 have F28:=bV (st:=fF) l28 c28 k28
 have F29:=bV (st:=uY) l29 c29 k29
 have b1:=F1.bb (ps:=["kind"])
 have b2:=F2.bb (ps:=["kind"])
 have b3:=F3.bb (ps:=["kind","given"])
 have b4:=F4.bb (ps:=["kind","most"])
 have b5:=F5.bb (ps:=["part","word","own","parts"])
 have b6:=F6.bb (ps:=["word"])
 have b7:=F7.bb (ps:=["face","given"])
 have b8:=F8.bb (ps:=["fun","given"])
 have b9:=F9.bb (ps:=["face","withs"])
 have b10:=F10.bb (ps:=["full","part","parts"])
 have b11:=F11.bb (ps:=["told","word","what"])
 have b12:=F12.bb (ps:=["seal","faces","parts"])
 have b13:=F13.bb (ps:=["want","part"])
 have b14:=F14.bb (ps:=["want","part"])
 have b15:=F15.bb (ps:=["declaration","faces","parts"])
 have b16:=F16.bb (ps:=["formals","parts"])
 have b17:=F17.bb (ps:=["_law_script","_law_k"])
 have b18:=F18.bb (ps:=["_law_cell_here","_law_k"])
 have b19:=F19.bb (ps:=["_law_found","_law_due"])
 have b20:=F20.bb (ps:=["_law_face","_law_kinds","_law_funs"])
 have b21:=F21.bb (ps:=["_law_count"])
 have b22:=F22.bb (ps:=["_law_way_of","_law_bad"])
 have b23:=F23.bb (ps:=["_law_cell_here","_law_got"])
 have b24:=F24.bb (ps:=["_law_got"])
 have b25:=F25.bb (ps:=["_law_got"])
 have b26:=F26.bb (ps:=["_law_script"])
 have b27:=F27.bb (ps:=["_law_got","_law_base"])
 have b28:=F28.bb (ps:=["_law_caught","_law_sort","_law_rest","_law_part"])
 refine⟨W.fnOf "law" "law" (aI uY) (ar uY) (ah uY) .none kV29 dc29 pm29 an29 cd29 ct29,fun s v=>.of_eq rfl,fun base _ _=>?_⟩
 have FF:jT K "fitted" "fitted" cb (.ref T) ff (W.fnOf "fitted" "fitted" (aI cb) (ar cb) (ah cb) (.ref T) kVf dcf pmf anf cdf ctf):=⟨⟨ocf,odf,kVf,dcf,pmf,anf,cdf,ctf,slf,rfl,lf,cf⟩,kf⟩
 have FNo:jT K "normal" "normal" dU (.ref T1) fn (W.fnOf "normal" "normal" (aI dU) (ar dU) (ah dU) (.ref T1) kVn dcn pmn ann cdn ctn):=⟨⟨ocn,odn,kVn,dcn,pmn,ann,cdn,ctn,sln,rfl,ln,cn⟩,kn⟩
 have FM:jT K "put" "Face.put" fN (.ref T3) fm (W.fnOf "put" "Face.put" (aI fN) (ar fN) (ah fN) (.ref T3) kVm dcm pmm anm cdm ctm):=⟨⟨ocm,odm,kVm,dcm,pmm,anm,cdm,ctm,slm,rfl,lm,cm⟩,km⟩
 have Fi:=bV (st:=rT) li ci ki
 have bI:=Fi.binds (ps:=["self","kinds","funs"]) fun _ _ _ _ _ _ us hl=>match us,hl with|[_,_,_],_=>rfl
 have Fh:=bV (st:=iJ) lh ch kh
 have bH:=Fh.binds (ps:=["self"]) fun _ _ _ _ _ _ us hl=>match us,hl with|[_],_=>rfl
 have Fj:=bV (st:=lL) lj cj kj
 have bJ:=Fj.binds (ps:=["self","part","name","due","found"]) fun _ _ _ _ _ _ us hl=>match us,hl with|[_,_,_,_,_],_=>rfl
 have MF:Mk K CF fi:=⟨mk,iF,tF,kF⟩
 have MH:vZ K CF "hidden" fh:=⟨ih,th,kh⟩
 have MM:vZ K CF "put" fm:=⟨im,tm,km⟩
 have cF:Cls K CF:=⟨pg,hd,po,sa⟩
 have MX:MkX K CN fj:=⟨xI,jF,tj⟩
 have BR:zy K CR:=⟨bg,br,bf⟩
 have XS:jM K CN:=⟨saN,poN,hdN,obN⟩
 have FU:jT K "full_face" "full_face" cQ (.ref T4) fu (W.fnOf "full_face" "full_face" (aI cQ) (ar cQ) (ah cQ) (.ref T4) kVu dcu pmu anu cdu ctu):=⟨⟨ocu,odu,kVu,dcu,pmu,anu,cdu,ctu,slu,rfl,lu,cu⟩,ku⟩
 have FV:jT K "take_item" "take_item" cX (.ref T5) fv (W.fnOf "take_item" "take_item" (aI cX) (ar cX) (ah cX) (.ref T5) kVv dcv pmv anv cdv' ctv):=⟨⟨ocv,odv,kVv,dcv,pmv,anv,cdv',ctv,slv,rfl,lv,cv⟩,kv⟩
 have Fx:=bV (st:=lX) lx cx kx
 have bX:=Fx.binds (ps:=["self","formals","result"]) fun _ _ _ _ _ _ us hl=>match us,hl with|[_,_,_],_=>rfl
 have MMk:Mk K CM fx:=⟨mkX,iX,tX,kM⟩
 have cM':Cls K CM:=⟨pgM,hdM',poM,saM⟩
 have GWi:=wP (P:=l.prog) (w:=w) (base:=base) (mg:=mg) F1 n1
 have GNa:=wu (P:=l.prog) (w:=w) (base:=base) (mg:=mg) F2 n1 n2
 have GP:=xY (P:=l.prog) (w:=w) (base:=base) (mg:=mg) F3 b3 k3 m3 40
 have GB:=rR F4 GWi b1 k1 m1 (W.mg_of X G aT) xT
 have GTK:=pB (P:=l.prog) (w:=w) (base:=base) (mg:=mg) F5 cF nK (W.mg_of X G aK) xK
 have GNo:=uz FNo GNa b2 k2 m2 GP b3 k3 m3 GB b4 k4 m4 GTK b5 k5 m5
 have GO:=BO (P:=l.prog) (w:=w) (base:=base) (mg:=mg) F6
 have GPF:=uT F8 GP b3 k3 m3 n5
 have GI:=xj (P:=l.prog) (w:=w) (base:=base) (mg:=mg) Fi cF nK nF n4
 have GFa:=sP F7 GP b3 k3 m3 GPF b8 k8 m8 GI bI MF (W.mg_of X G aF) cF nK nF
 have GJ:=v9 (P:=l.prog) (w:=w) (base:=base) (mg:=mg) Fj (W.mg_of X G aR) BR xI XS t_part t_name t_due t_found
 have GH:=ua Fh GO b6 k6 m6 cF nK
 have GFi:=vj FF GP b3 k3 m3 GPF b8 k8 m8 MH GH bH MX GJ bJ (W.mg_of X G aN) cF nK nF
 have GM:=yK FM GFa b7 k7 m7 GB b4 k4 m4 cF nK nF
 have GR:=sU F9 GI bI MF (W.mg_of X G aF) cF nK nF GH bH MH FM lT3 GM MM (W.mg_of X G aK) xK
 have GWn:=uX F12 GR b9 k9 m9 FNo lT1 GNo kn (W.mg_of X G an) (W.mg_of X G aA) xA
 have GHB:=qk F14 MH GH bH cF
 have GTW:=pJ F13 GFa b7 k7 m7 GHB b14 k14 m14
 have GAo:=Bo (P:=l.prog) (w:=w) (base:=base) (mg:=mg) F11 (W.mg_of X G aW) xW
 have GTo:=nv (cl:=Ak CW CA CK CT) F10 GAo b11 k11 m11 cF nK nF (W.mg_of X G aA) xA
 have GTi:=qu (cl:=Ak CW CA CK CT) FV GAo b11 k11 m11 GNo (A2 FNo lT1) kn (W.mg_of X G an) GTo b10 k10 m10 cF nK nF n5
 have GFu:=zh FU GTi (A9 FV lT5) kv (W.mg_of X G av) GI bI MF (W.mg_of X G aF)
 have GKW:=uD F16 GTW b13 k13 m13 n4
 have GMi:=xR Fx GI bI MF (W.mg_of X G aF) cF nK nF cM' nfM nrM
 have GMo:=sI (T2:=T) (oT2:=oT) (dT2:=dT) (nT2:=nT) (sT2:=sT) (tk2:=tk) (cl:=Ak CW CA CK CT) F15 GWn b12 k12 m12 GKW b16 k16 m16 FU lT4 GFu ku (W.mg_of X G au) GFi (A7 FF lT) kf (W.mg_of X G af) GMi bX MMk (W.mg_of X G aM)
 have GC:=wf (P:=l.prog) (w:=w) (base:=base) (mg:=mg) F17 n1
 have GW:=xQ (P:=l.prog) (w:=w) (base:=base) (mg:=mg) F18 n6 n3
 have GAl:=mx (P:=l.prog) (w:=w) (base:=base) (mg:=mg) F19 b19 k19 m19 n7 n8 n5 n6 n9 n1 n3 n10 42
 have GA4:=mx (P:=l.prog) (w:=w) (base:=base) (mg:=mg) F19 b19 k19 m19 n7 n8 n5 n6 n9 n1 n3 n10 40
 have GSm:=zU F20 GAl b19 k19 m19 (W.mg_of X G aF) n7 n4 n5 cF nK nF clF sp tk1 obF j5
 have GGr:=wB (P:=l.prog) (w:=w) (base:=base) (mg:=mg) F21 n3
 have GUn:=wI (P:=l.prog) (w:=w) (base:=base) (mg:=mg) F22
 have GWr:=wN F23 GGr b21 k21 m21 GUn b22 k22 m22 n4
 have GFl:=wK (P:=l.prog) (w:=w) (base:=base) (mg:=mg) F24
 have GSe:=sJ (P:=l.prog) (w:=w) (base:=base) (mg:=mg) F25
 have GSc:=wx F26 GC b17 k17 m17 GW b18 k18 m18 n3
 have cN:fW K CN:=⟨isN,gaN,ghN,clN,sp,tk1,obN,beN⟩
 have cE:∀c,c<=3->fW K (Ak CW CA CK CT c):=fun c hc=>match c,hc with|0,_=>⟨isW,gaW,ghW,clW,sp,tk1,obW,beW⟩|1,_=>⟨isA,gaA,ghA,clA,sp,tk1,obA,beA⟩|2,_=>⟨isK,gaK,ghK,clK,sp,tk1,obK,beK⟩|3,_=>⟨isT,gaT,ghT,clT,sp,tk1,obT,beT⟩
 have xE:∀c,W.exmOne K (.ref (Ak CW CA CK CT c)) (.ref CR)=some true:=fun c=>match c with|0=>exW|1=>exA|2=>exK|_+3=>exT
 have GRe:=pq (cl:=Ak CW CA CK CT) F28 GA4 b19 k19 m19 n7 (W.mg_of X G aW) (W.mg_of X G aA) (W.mg_of X G aK) (W.mg_of X G aT) (W.mg_of X G aN) cN hdN f_part f_name f_due f_found jNN cE (fun c hc=>match c,hc with|0,_=>⟨jWW,jWA,jWK,jWT⟩|1,_=>⟨jAW,jAA,jAK,jAT⟩|2,_=>⟨jKW,jKA,jKK,jKT⟩|3,_=>⟨jTW,jTA,jTK,jTT⟩)
 have GAs:=wE F27 GMo b15 k15 m15 GSe b25 k25 m25 GI bI MF (W.mg_of X G aF) n4 n5 (W.mg_of X G aR) exN xE
 exact Bq F29 GC b17 k17 m17 GSc b26 k26 m26 GWr b23 k23 m23 GFl b24 k24 m24 GSe b25 k25 m25 GAs b27 k27 m27 GRe b28 k28 m28 GSm b20 k20 m20 cM' nrM n3
theorem walk{l:W.OpenLaw}{q:Program}{loose:List Str}{XP:(Str->Option Value)->Heap->Prop}{YP:World->Heap->Prop}{d:DefRec}{K:Params->W.Frag}(hn:l.most=some 63)(hdf:d.params.defaults=[])
  (hY:∀(w:World) (h:Heap),YP w h->(K w.params).In h)
  (F:∀(w:World) (mg:Str->Option Value) (fa:Addr) (h:Heap),(K w.params).In h->h.Ns mainGlobals mg->mg d.name=some (.ref fa) ->
   ∃fd:FuncData,(∀(s:Shared) (u:Value),BindsTo s fd ⟨[u],[]⟩ [("_law_script",u)])/\∀base:Heap,(K w.params).In base->base.Ns mainGlobals mg->bq l.prog w (K w.params) mg base CX0 49 fa fd ["_law_script"] (wL (K w.params))) :
  W.WalkO q loose XP YP l.row.toRowW d [] (fun f vs=>PySem.call f vs) :=
 L2.walk_of (n:=63) (k:=49) (x:="_law_script") (CX:=fun _=>CX0) (sp:=fun w=>wL (K w.params)) hn (by decide) hdf ⟨rfl,by decide,by decide,rfl⟩ hY F (fun _ _ a ns hl _ hS=>⟨a,ns,rfl,hS,hl,fun _ _=>rfl⟩) fun _ _ _ _ _ z=>z
end K48
open PySem PySem.W PyProof.Rows
set_option maxRecDepth 100000 in
theorem PySem.Challenge.cw_sealhouse_k48_makers_refused_holds : PySem.Challenge.rw_sealhouse_k48_makers_refused.Holds := by
 w_on;o_law;z_head;(case hw=>w_witness2)
 k_fill
 refine L2.walk_z (fun _=>rfl) ?_
 refine K48.walk (l:=PySem.Challenge.rw_sealhouse_k48_makers_refused) rfl rfl (fun w h Y=>Y) ?F
 case F =>
  intro w mg fa h KX G hmg
  refine' K48.all_mk KX G hmg ?a1 ?l1 ?c1 ?k1 ?a2 ?l2 ?c2 ?k2 ?a3 ?l3 ?c3 ?k3 ?a4 ?l4 ?c4 ?k4 ?a5 ?l5 ?c5 ?k5 ?a6 ?l6 ?c6 ?k6 ?a7 ?l7 ?c7 ?k7 ?a8 ?l8 ?c8 ?k8 ?a9 ?l9 ?c9 ?k9 ?a10 ?l10 ?c10 ?k10 ?a11 ?l11 ?c11 ?k11 ?a12 ?l12 ?c12 ?k12 ?a13 ?l13 ?c13 ?k13 ?a14 ?l14 ?c14 ?k14 ?a15 ?l15 ?c15 ?k15 ?a16 ?l16 ?c16 ?k16 ?a17 ?l17 ?c17 ?k17 ?a18 ?l18 ?c18 ?k18 ?a19 ?l19 ?c19 ?k19 ?a20 ?l20 ?c20 ?k20 ?a21 ?l21 ?c21 ?k21 ?a22 ?l22 ?c22 ?k22 ?a23 ?l23 ?c23 ?k23 ?a24 ?l24 ?c24 ?k24 ?a25 ?l25 ?c25 ?k25 ?a26 ?l26 ?c26 ?k26 ?a27 ?l27 ?c27 ?k27 ?a28 ?l28 ?c28 ?k28 ?a29 ?l29 ?c29 ?k29 ?aF ?aN ?aK ?aA ?aT ?aR ?af ?lf ?cf ?kf ?lT ?an ?ln ?cn ?kn ?lT1 ?im ?lm ?cm ?km ?tm ?lT3 ?ih ?lh ?ch ?kh ?th ?iF ?li ?ci ?ki ?tF ?mk ?kF ?pg ?hd ?po ?sa ?nK ?nF ?jF ?lj ?cj ?kj ?tj ?xI ?xK ?xA ?xT ?bg ?br ?bf ?saN ?poN ?hdN ?obN ?sp ?clF ?obF ?j5 ?tk1 ?t_part ?t_name ?t_due ?t_found ?aW ?aM ?au ?lu ?cu ?ku ?lT4 ?av ?lv ?cv ?kv ?lT5 ?xW ?iX ?lx ?cx ?kx ?tX ?mkX ?kM ?pgM ?hdM' ?poM ?saM ?nfM ?nrM ?isN ?gaN ?ghN ?clN ?beN ?exN ?isW ?gaW ?ghW ?clW ?beW ?exW ?obW ?isA ?gaA ?ghA ?clA ?beA ?exA ?obA ?isK ?gaK ?ghK ?clK ?beK ?exK ?obK ?isT ?gaT ?ghT ?clT ?beT ?exT ?obT ?jNN ?jWW ?jWA ?jWK ?jWT ?jAW ?jAA ?jAK ?jAT ?jKW ?jKA ?jKK ?jKT ?jTW ?jTA ?jTK ?jTT ?f_part ?f_name ?f_due ?f_found ?z1 ?z2 ?z3 ?z4 ?z5 ?z6 ?z7 ?z8 ?z9 ?z10
  (case a1|l1|c1|k1|a2|l2|c2|k2|a3|l3|c3|k3|a4|l4|c4|k4|a5|l5|c5|k5|a6|l6|c6|k6|a7|l7|c7|k7|a8|l8|c8|k8|a9|l9|c9|k9|a10|l10|c10|k10|a11|l11|c11|k11|a12|l12|c12|k12|a13|l13|c13|k13|a14|l14|c14|k14|a15|l15|c15|k15|a16|l16|c16|k16|a17|l17|c17|k17|a18|l18|c18|k18|a19|l19|c19|k19|a20|l20|c20|k20|a21|l21|c21|k21|a22|l22|c22|k22|a23|l23|c23|k23|a24|l24|c24|k24|a25|l25|c25|k25|a26|l26|c26|k26|a27|l27|c27|k27|a28|l28|c28|k28|a29|l29|c29|k29|aF|aN|aK|aA|aT|aR|af|lf|cf|kf|lT|an|ln|cn|kn|lT1|im|lm|cm|km|tm|lT3|ih|lh|ch|kh|th|iF|li|ci|ki|tF|mk|kF|pg|hd|po|sa|nK|nF|jF|lj|cj|kj|tj=>k_is)
  (case xI|xK|xA|xT=>with_unfolding_all exact rfl)
  (case bg|br|bf|saN=>k_is)
  (case poN=>exact rfl)
  (case hdN|obN|sp|clF|obF=>k_is)
  (case j5=>exact rfl)
  (case tk1|t_part|t_name|t_due|t_found|aW|aM|au|lu|cu|ku|lT4|av|lv|cv|kv|lT5=>k_is)
  (case xW=>with_unfolding_all exact rfl)
  (case iX|lx|cx|kx|tX|mkX|kM|pgM=>k_is)
  (case hdM'=>k_is)
  (case poM|saM|nfM|nrM=>k_is)
  (case isN=>exact rfl)
  (case gaN|ghN|clN|beN=>k_is)
  (case exN|isW=>exact rfl)
  (case gaW|ghW|clW|beW=>k_is)
  (case exW=>exact rfl)
  (case obW=>k_is)
  (case isA=>exact rfl)
  (case gaA|ghA|clA|beA=>k_is)
  (case exA=>exact rfl)
  (case obA=>k_is)
  (case isK=>exact rfl)
  (case gaK|ghK|clK|beK=>k_is)
  (case exK=>exact rfl)
  (case obK=>k_is)
  (case isT=>exact rfl)
  (case gaT|ghT|clT|beT=>k_is)
  (case exT=>exact rfl)
  (case obT=>k_is)
  (case jNN|jWW|jWA|jWK|jWT|jAW|jAA|jAK|jAT|jKW|jKA|jKK|jKT|jTW|jTA|jTK|jTT=>exact rfl)
  (case f_part|f_name|f_due|f_found|z1|z2|z3|z4|z5|z6|z7|z8|z9|z10=>k_is)
#print axioms PySem.Challenge.cw_sealhouse_k48_makers_refused_holds
