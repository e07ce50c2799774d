import PyProof.Rows.All
import Wide.All
import OpenK.AllK
import Wide.FinOn
import Lean
import PyProof.EqAt
import PyProof.EqKinds
import PyProof.TupleCall
import PySem.Challenge.RW_sealhouse_k19_no_declaration
set_option maxHeartbeats 0
set_option Elab.async false
set_option linter.all false
set_option maxRecDepth 100000
namespace L2
open PySem PySem.Spec PyProof.Rows
abbrev Key:=Sum Int Str
def sK:Key->Value->Bool
 |.inl k,v=>Value.isInt k v
 |.inr x,v=>Value.isStrOf x v
def D3(w:World):Key->Int
 |.inl k=>hashInt k
 |.inr x=>hashStr w x
theorem cn:∀{k:Key} {v:Value},sK k v=true->(∃i t,k=Sum.inl i/\v=Value.int i t)\/(∃x t,k=Sum.inr x/\v=Value.str x t)
 |.inl i,v,h=>by
  obtain⟨t,e⟩:=Value.isInt_shape (k:=i) (v:=v) h
  exact .inl ⟨i,t,rfl,e⟩
 |.inr x,v,h=>by
  obtain⟨t,e⟩:=Value.isStrOf_shape (x:=x) (v:=v) h
  exact .inr ⟨x,t,rfl,e⟩
theorem uM(i:Int)(t:Tok):sK (.inl i) (.int i t)=true:=by simp [sK,Value.isInt]
theorem uA(x:Str)(t:Tok):sK (.inr x) (.str x t)=true:=by simp [sK,Value.isStrOf]
theorem BT(a b:Int):decide ((Sum.inl a:Key)=Sum.inl b)=(a==b):=by
 by_cases e:a=b
 ·subst e;simp
 ·have h:¬(Sum.inl a:Key)=Sum.inl b:=fun q=>e (Sum.inl.inj q)
  rw [decide_eq_false h]
  exact(beq_eq_false_iff_ne.mpr e).symm
theorem B2(a b:Str):decide ((Sum.inr a:Key)=Sum.inr b)=decide (a=b):=by
 by_cases e:a=b
 ·subst e;simp
 ·have h:¬(Sum.inr a:Key)=Sum.inr b:=fun q=>e (Sum.inr.inj q)
  rw [decide_eq_false h,decide_eq_false e]
theorem BF(a:Int)(b:Str):decide ((Sum.inl a:Key)=Sum.inr b)=false:=decide_eq_false (fun q=>nomatch q)
theorem BC(a:Str)(b:Int):decide ((Sum.inr a:Key)=Sum.inl b)=false:=decide_eq_false (fun q=>nomatch q)
def fH(prog:Program)(w:World):PySem.KeyKind prog w Key where
 is:=sK
 hash:=D3 w
 inj:=fun v a b ha hb=>by
  rcases cn ha with ⟨i,t,rfl,rfl⟩|⟨x,t,rfl,rfl⟩
  ·rcases cn hb with ⟨j,u,rfl,e⟩|⟨y,u,rfl,e⟩
   ·injection e with e1 _;rw [e1]
   ·exact nomatch e
  ·rcases cn hb with ⟨j,u,rfl,e⟩|⟨y,u,rfl,e⟩
   ·exact nomatch e
   ·injection e with e1 _;rw [e1]
 byValue:=fun k v h=>by
  rcases cn h with ⟨i,t,rfl,rfl⟩|⟨x,t,rfl,rfl⟩<;>rfl
 pyHash:=fun hv h=>by
  rcases cn hv with ⟨i,t,rfl,rfl⟩|⟨x,t,rfl,rfl⟩
  ·exact wpAny_pyHash_int h
  ·exact wpAny_pyHash_str h
 eqBool:=fun hu hv h=>by
  rcases cn hu with ⟨i,t,rfl,rfl⟩|⟨x,t,rfl,rfl⟩
  ·rcases cn hv with ⟨j,u,rfl,rfl⟩|⟨y,u,rfl,rfl⟩
   ·rw [BT] at h;exact wpAny_eqBool_int h
   ·rw [BF] at h;exact SeqAt.EqAt.int_str i t y u _ _ _ _ h
  ·rcases cn hv with ⟨j,u,rfl,rfl⟩|⟨y,u,rfl,rfl⟩
   ·rw [BC] at h;exact SeqAt.EqAt.str_int x t j u _ _ _ _ h
   ·rw [B2] at h;exact wpAny_eqBool_str h
 «strs»:=fun k x t v h=>by
  rcases cn h with ⟨i,u,rfl,e⟩|⟨y,u,rfl,e⟩
  ·exact nomatch e
  ·injection e with e1 _
   subst e1
   cases v<;>rfl
theorem ph(prog:Program)(w:World)(i:Int)(t:Tok):(fH prog w).is (.inl i) (.int i t)=true:=uM i t
theorem gI(prog:Program)(w:World)(x:Str)(t:Tok):(fH prog w).is (.inr x) (.str x t)=true:=uA x t
inductive V where
 |non|bl (b:Bool)|int (i:Int)|str (x:Str)|byt (b:Array UInt8)|flt (b:UInt64)|ref (a:Addr)|ty (n:String)
 deriving DecidableEq
def dR:V->Value->Prop
 |.non,u=>u=Value.none
 |.bl b,u=>u=Value.bool b
 |.int i,u=>∃t,u=Value.int i t
 |.str x,u=>∃t,u=Value.str x t
 |.byt b,u=>∃t,u=Value.bytes b t
 |.flt b,u=>∃t,u=Value.float b t
 |.ref a,u=>u=Value.ref a
 |.ty n,u=>u=Value.type n
abbrev cy:List V->List Value->Prop:=Paired dR
theorem cy.length{xs:List V}{us:List Value}(r:cy xs us):xs.length=us.length:=Paired.length r
theorem cy.get:∀{xs:List V} {us:List Value} {i:Nat} {x:V},cy xs us->xs[i]?=some x->∃u,us[i]?=some u/\dR x u
 |_,_,_,_,.nil,e=>by simp at e
 |_,_,0,_,.cons r _,e=>by simp at e;subst e;exact⟨_,rfl,r⟩
 |_,_,i+1,x,.cons _ t,e=>by
  obtain⟨u,h1,h2⟩:=cy.get (i:=i) (x:=x) t (by simpa using e)
  exact⟨u,by simpa using h1,h2⟩
theorem cy.append:∀{xs ys:List V} {us ws:List Value},cy xs us->cy ys ws->cy (xs++ys) (us++ws)
 |_,_,_,_,.nil,s=>s
 |_,_,_,_,.cons r t,s=>.cons r (cy.append t s)
theorem cy.take:∀{xs:List V} {us:List Value} (n:Nat),cy xs us->cy (xs.take n) (us.take n)
 |_,_,0,_=>.nil
 |_,_,_+1,.nil=>.nil
 |_,_,n+1,.cons r t=>.cons r (cy.take n t)
theorem cy.drop:∀{xs:List V} {us:List Value} (n:Nat),cy xs us->cy (xs.drop n) (us.drop n)
 |_,_,0,r=>r
 |_,_,_+1,.nil=>.nil
 |_,_,n+1,.cons _ t=>cy.drop n t
def xL:Option V->Option Value->Prop
 |some v,some u=>dR v u
 |none,none=>True
 |_,_=>False
def KV{κ:Type}:List (κ × V)->List (κ × Value)->Prop:=Paired fun(p:κ × V) (q:κ × Value)=>p.1=q.1/\dR p.2 q.2
def kV:Key->V
 |.inl i=>.int i
 |.inr x=>.str x
inductive HO where
 |lst (xs:List V)
 |tup (xs:List V)
 |dK (kvs:List (Key × V))|dT (kvs:List (List Key × V))
 |set (S:Int->Bool) (n:Nat)
 |ins (C dx:Addr) (fs:List (Str × V))
 |own (x:Addr)
 |xd (fs:List (Str × V))
 |met (f x:Addr)
 |rng (lo hi:Int)
 |frz (o:Obj) (u:HO)
 |tbl (ps:Array Value)
 |ext (φ:Heap->Prop)
abbrev Hp:=Addr->Option HO
def upd(H:Hp)(a:Addr)(o:HO):Hp:=fun b=>if b=a then some o else H b
theorem ad{H:Hp}{a:Addr}{o:HO}:upd H a o a=some o:=by unfold upd;rw [if_pos rfl]
theorem aK{H:Hp}{a b:Addr}{o:HO}(h:b≠a):upd H a o b=H b:=by unfold upd;rw [if_neg h]
theorem aW{H:Hp}{a b:Addr}{o:HO}(h:H a=some o)(h':H b=none):a≠b:=by
 intro e;subst e;rw [h] at h';cases h'
section
variable(P:Program)(w:World)
def eI(H:Hp)(h:Heap)(a:Addr):HO->Prop
 |.lst xs=>xs.length<=sizeLine/\∃(its:List Value) (n:Nat),cy xs its/\h.get? a=some { cls:=.type "list",data:=.seq its.toArray n }
 |.tup xs=>xs.length<=sizeLine/\∃its:List Value,cy xs its/\IsTup h a its.toArray
 |.dK kvs=>kvs.length<=sizeLine/\(a==sysModules)=false/\∃vs,KV kvs vs/\h.DictOf (fH P w) a vs
 |.dT kvs=>kvs.length<=sizeLine/\(a==sysModules)=false/\∃xs:List (List Key × Addr × Value),
   Paired (fun(p:List Key × V) (q:List Key × Addr × Value)=>p.1=q.1/\H q.2.1=some (.tup (p.1.map kV))/\dR p.2 q.2.2) kvs xs /\
   ∃o es ep,h.get? a=some o/\o.ExactDict/\o.data=.dict es ep/\es.toList=xs.map (entryOfKey (tupleKind (fH P w)))/\(xs.map (·.1)).Nodup
 |.set S n=>h.SetOf (intKind P w) a S n
 |.ins C dx fs=>H dx=some (.own a)/\fs.length<=1000/\dx≠a/\h.get? a=some (W.instObj C dx) /\
   ∃mA,h.Ns1 dx mA/\(∀f,xL (fs.lookup f) (mA f))/\PySem.Within mA (fs.map (·.1))
 |.own _=>∃o,h.get? a=some o
 |.xd fs=>∃mA,h.Ns1 a mA/\∀f,xL (fs.lookup f) (mA f)
 |.rng lo hi=>∃t u v,h.get? a=some { cls:=.type "range",data:=.fields #[.int lo t,.int hi u,.int 1 v] }
 |.frz o u=>h.get? a=some o/\eI H h a u
 |.tbl ps=>h.get? a=some { cls:=.none,data:=.fields ps }
 |.met f x=>h.get? a=some (W.methodObj (.ref f) (.ref x))
 |.ext φ=>φ h/\(∃o,h.get? a=some o)/\∀h1 h2:Heap,φ h1->(∀o,h1.get? a=some o->h2.get? a=some o)->φ h2
def HOk(H:Hp)(h:Heap):Prop:=∀a o,H a=some o->eI P w H h a o
end
section
variable{P:Program}{w:World}{H H':Hp}{h h':Heap}{a:Addr}{o:HO}
theorem eI.lt(x:eI P w H h a o):a < h.objs.size:=by
 cases o with
 |lst xs=>obtain⟨_,_,_,_,e⟩:=x;exact Heap.lt_size e
 |tup xs=>obtain⟨_,_,_,p⟩:=x;exact p.lt
 |dK kvs=>obtain⟨_,_,_,_,o,_,_,e,_⟩:=x;exact Heap.lt_size e
 |dT kvs=>obtain⟨_,_,_,_,o,_,_,e,_⟩:=x;exact Heap.lt_size e
 |set S n=>obtain⟨o,_,_,_,e,_⟩:=x;exact Heap.lt_size e
 |ins C dx fs=>obtain⟨_,_,_,e,_⟩:=x;exact Heap.lt_size e
 |own y=>obtain⟨_,e⟩:=x;exact Heap.lt_size e
 |xd fs=>obtain⟨_,⟨_,_,_,e,_⟩,_⟩:=x;exact Heap.lt_size e
 |rng lo hi=>obtain⟨_,_,_,e⟩:=x;exact Heap.lt_size e
 |frz ob u=>obtain⟨e,_⟩:=x;exact Heap.lt_size e
 |tbl ps=>exact Heap.lt_size (show h.get? a=some _ from x)
 |met f y=>exact Heap.lt_size (show h.get? a=some _ from x)
 |ext φ=>obtain⟨_,⟨_,e⟩,_⟩:=x;exact Heap.lt_size e
theorem Paired.mapP{α β:Type}{F G:α->β->Prop}:∀{l₁:List α} {l₂:List β},Paired F l₁ l₂->(∀a b,F a b->G a b)->Paired G l₁ l₂
 |_,_,.nil,_=>.nil
 |_,_,.cons r t,f=>.cons (f _ _ r) (Paired.mapP t f)
theorem eI.stay(x:eI P w H h a o)(k:∀b u,(b=a\/H b=some (.own a))->h.get? b=some u->h'.get? b=some u)
  (ho:∀b,H b=some (.own a)->H' b=some (.own a)) (ht:∀b xs,H b=some (.tup xs)->H' b=some (.tup xs)):eI P w H' h' a o:=by
 induction o with
 |lst xs=>obtain⟨z,its,n,r,e⟩:=x;exact⟨z,its,n,r,k _ _ (.inl rfl) e⟩
 |tup xs=>obtain⟨z,its,r,ob,e,c⟩:=x;exact⟨z,its,r,ob,k _ _ (.inl rfl) e,c⟩
 |dK kvs=>obtain⟨z,y,vs,r,ob,es,ep,e,c⟩:=x;exact⟨z,y,vs,r,ob,es,ep,k _ _ (.inl rfl) e,c⟩
 |dT kvs =>
  obtain⟨z,y,xs,r,ob,es,ep,e,c⟩:=x
  exact⟨z,y,xs,Paired.mapP r fun p q z=>⟨z.1,ht _ _ z.2.1,z.2.2⟩,ob,es,ep,k _ _ (.inl rfl) e,c⟩
 |set S n=>obtain⟨ob,es,ep,t,e,c⟩:=x;exact⟨ob,es,ep,t,k _ _ (.inl rfl) e,c⟩
 |ins C dx fs =>
  obtain⟨d,z,ne,e,mA,⟨od,es,ep,e2,c⟩,r⟩:=x
  exact⟨ho _ d,z,ne,k _ _ (.inl rfl) e,mA,⟨od,es,ep,k _ _ (.inr d) e2,c⟩,r⟩
 |own y=>obtain⟨ob,e⟩:=x;exact⟨ob,k _ _ (.inl rfl) e⟩
 |xd fs=>obtain⟨mA,⟨od,es,ep,e,c⟩,r⟩:=x;exact⟨mA,⟨od,es,ep,k _ _ (.inl rfl) e,c⟩,r⟩
 |rng lo hi=>obtain⟨t,u,v,e⟩:=x;exact⟨t,u,v,k _ _ (.inl rfl) e⟩
 |frz ob u ih=>obtain⟨e,q⟩:=x;exact⟨k _ _ (.inl rfl) e,ih q⟩
 |tbl ps =>
  have e:h.get? a=some { cls:=.none,data:=.fields ps }:=x
  show h'.get? a=some { cls:=.none,data:=.fields ps }
  exact k a _ (.inl rfl) e
 |met f y =>
  have e:h.get? a=some (W.methodObj (.ref f) (.ref y)):=x
  show h'.get? a=some (W.methodObj (.ref f) (.ref y))
  exact k a _ (.inl rfl) e
 |ext φ=>obtain⟨p,⟨o,e⟩,st⟩:=x;exact⟨st _ _ p fun o q=>k _ _ (.inl rfl) q,⟨o,k _ _ (.inl rfl) e⟩,st⟩
theorem HOk.lt(x:HOk P w H h)(e:H a=some o):a < h.objs.size:=(x a o e).lt
theorem HOk.fresh(x:HOk P w H h)(e:h.objs.size<=a):H a=none:=by
 cases q:H a with
 |none=>rfl
 |some u=>exact absurd (Nat.lt_of_lt_of_le (x.lt q) e) (Nat.lt_irrefl _)
theorem HOk.kept(x:HOk P w H h)(k:∀b u,h.get? b=some u->h'.get? b=some u):HOk P w H h':=fun a o e =>
 (x a o e).stay (fun b u _ q=>k b u q) (fun _ q=>q) fun _ _ q=>q
theorem HOk.laid(x:HOk P w H h)(k:∀b u,h.get? b=some u->h'.get? b=some u)(hp:h.objs.size<=a)(new:eI P w (upd H a o) h' a o):HOk P w (upd H a o) h':=fun b u e=>by
 have hn:=x.fresh hp
 by_cases hb:b=a
 ·subst hb;rw [ad] at e;cases e;exact new
 ·rw [aK hb] at e
  exact(x b u e).stay (fun c v _ q=>k c v q) (fun c q=>by rw [aK (aW q hn)];exact q) fun c xs q=>by rw [aK (aW q hn)];exact q
end
def Rd(H:Hp)(a:Addr)(u:HO):Prop:=H a=some u\/∃o,H a=some (.frz o u)
theorem Rd.ok{P:Program}{w:World}{H:Hp}{h:Heap}{a:Addr}{u:HO}(r:Rd H a u)(x:HOk P w H h):eI P w H h a u:=by
 rcases r with r|⟨o,r⟩
 ·exact x a u r
 ·obtain⟨_,q⟩:=x a _ r
  exact q
def Mut:Option HO->Prop
 |some (.lst _)=>True
 |some (.dK _)=>True
 |some (.dT _)=>True
 |some (.set _ _)=>True
 |some (.ins _ _ _)=>True
 |some (.ext _)=>True
 |_=>False
section
variable{P:Program}{w:World}{H:Hp}{h h':Heap}{x e:Addr}{o':HO}
theorem HOk.write(ok:HOk P w H h)(mu:Mut (H x))(he:e=x\/H e=some (.own x))(k:∀b u,b≠e->h.get? b=some u->h'.get? b=some u)(heo:∃u,h'.get? e=some u)
  (new:eI P w (upd H x o') h' x o'):HOk P w (upd H x o') h':=fun b u q=>by
 have nown:∀c y,H c=some (.own y)->c≠x:=fun c y r z=>by subst z;rw [r] at mu;exact mu
 have ntup:∀c xs,H c=some (.tup xs)->c≠x:=fun c xs r z=>by subst z;rw [r] at mu;exact mu
 by_cases hb:b=x
 ·subst hb;rw [ad] at q;cases q;exact new
 ·rw [aK hb] at q
  by_cases hbe:b=e
  ·have q':H b=some (.own x):=by
    rcases he with z|z
    ·exact absurd (hbe.trans z) hb
    ·rw [hbe];exact z
   rw [q] at q';cases q'
   obtain⟨v,hv⟩:=heo
   exact⟨v,by rw [hbe];exact hv⟩
  ·refine(ok b u q).stay (fun c v hc r=>k c v ?_ r) (fun c r=>by rw [aK (nown c b r)];exact r) fun c xs r=>by rw [aK (ntup c xs r)];exact r
   rcases hc with rfl|hc
   ·exact hbe
   ·rintro rfl
    rcases he with z|z
    ·exact nown c b hc z
    ·rw [hc] at z;cases z;exact hb rfl
end
structure Un(fs ex:List Addr)(H H':Hp)(h h':Heap):Prop where
 keep:∀b o,h.get? b=some o->H b=none->b∉fs->b∉ex->h'.get? b=some o
 slot:∀b o,h.get? b=some o->H b=none->b∈fs->b∉ex->∃sl,h'.get? b=some { o with slots:=sl }
 free:∀b o,h.get? b=some o->H b=none->b∉ex->H' b=none
 there:∀b o,h.get? b=some o->b∉ex->∃o',h'.get? b=some o'
 tups:∀b xs,H b=some (.tup xs)->H' b=some (.tup xs)
 frzs:∀b o u,H b=some (.frz o u)->H' b=some (.frz o u)
 tbls:∀b ps,H b=some (.tbl ps)->∃more,H' b=some (.tbl (ps++more))
section
variable{fs fs' ex ex':List Addr}{H H1 H2:Hp}{h h1 h2 h':Heap}{a x e:Addr}{o:HO}
theorem Un.any(u:Un fs ex H H1 h h1){b:Addr}{ob:Obj}(q:h.get? b=some ob)(n:H b=none)(hx:b∉ex):∃sl,h1.get? b=some { ob with slots:=sl }:=by
 by_cases hb:b∈fs
 ·exact u.slot b ob q n hb hx
 ·exact⟨ob.slots,u.keep b ob q n hb hx⟩
theorem Un.kept(k:∀b u,h.get? b=some u->h'.get? b=some u):Un fs ex H H h h' :=
 ⟨fun b ob q _ _ _=>k b ob q,fun b ob q _ _ _=>⟨ob.slots,k b ob q⟩,fun _ _ _ n _=>n,fun b ob q _=>⟨ob,k b ob q⟩,fun _ _ q=>q,fun _ _ _ q=>q,fun _ ps q=>⟨#[],by rw [q];simp⟩⟩
theorem Un.refl:Un fs ex H H h h:=Un.kept fun _ _ q=>q
theorem Un.laid(k:∀b u,h.get? b=some u->h'.get? b=some u)(hp:h.objs.size<=a)(hn:H a=none):Un fs ex H (upd H a o) h h' where
 keep:=fun b u q _ _ _=>k b u q
 slot:=fun b u q _ _ _=>⟨u.slots,k b u q⟩
 free:=fun b u q n _=>by rw [aK (Nat.ne_of_lt (Nat.lt_of_lt_of_le (Heap.lt_size q) hp))];exact n
 there:=fun b u q _=>⟨u,k b u q⟩
 tups:=fun b xs q=>by rw [aK (aW q hn)];exact q
 frzs:=fun b u xs q=>by rw [aK (aW q hn)];exact q
 tbls:=fun b ps q=>⟨#[],by rw [aK (aW q hn),q];simp⟩
theorem Un.write(mu:Mut (H x))(he:e=x\/H e=some (.own x))(k:∀b u,b≠e->h.get? b=some u->h'.get? b=some u)(heo:∃u,h'.get? e=some u):Un fs ex H (upd H x o) h h':=by
 have hx:∀b,H b=none->b≠x:=fun b n z=>by subst z;rw [n] at mu;exact mu
 have hb:∀b,H b=none->b≠e:=fun b n z=>by
  subst z
  rcases he with r|r
  ·exact hx b n r
  ·rw [n] at r;cases r
 have hm:∀b u,H b=some u->¬Mut (some u)->b≠x:=fun b u q nm z=>by subst z;rw [q] at mu;exact nm mu
 refine⟨fun b u q n _ _=>k b u (hb b n) q,fun b u q n _ _=>⟨u.slots,k b u (hb b n) q⟩,fun b u q n _=>by rw [aK (hx b n)];exact n,fun b u q _=>?_,
  fun b xs q=>by rw [aK (hm b _ q fun z=>z)];exact q,fun b u xs q=>by rw [aK (hm b _ q fun z=>z)];exact q,fun b ps q=>⟨#[],by rw [aK (hm b _ q fun z=>z),q];simp⟩⟩
 by_cases hbe:b=e
 ·subst hbe;exact heo
 ·exact⟨u,k b u hbe q⟩
end
def trk(h:Heap)(H:Hp):List Addr:=(List.range h.objs.size).filter fun a=>(H a).isSome
def xa(h:Heap)(H:Hp):Heap:=W.hideAll h (trk h H)
theorem va(h:Heap)(H:Hp):(xa h H).objs.size=h.objs.size:=W.hideAll_size _ _
theorem xM{h:Heap}{H:Hp}{b:Addr}{o:Obj}(e:h.get? b=some o)(n:H b=none):(xa h H).get? b=some o :=
 W.hideAll_get _ e fun hm=>by
  have q:(H b).isSome=true:=(List.mem_filter.mp hm).2
  rw [n] at q;simp at q
theorem zQ{h:Heap}{H:Hp}{b:Addr}{o:Obj}(e:(xa h H).get? b=some o):h.get? b=some o/\H b=none:=by
 have e':h.get? b=some o:=W.of_hideAll (trk h H) e
 refine⟨e',?_⟩
 cases q:H b with
 |none=>rfl
 |some x =>
  have hm:b∈trk h H:=List.mem_filter.mpr ⟨List.mem_range.mpr (Heap.lt_size e'),by simp [q]⟩
  have z:(xa h H).get? b=none:=W.hideAll_none (trk h H) hm
  rw [z] at e;cases e
def zw(g h:Heap)(L:Addr):List (Addr × Obj):=(List.range h.objs.size).filterMap fun a=>if a=L\/(g.get? a).isSome=true then none else (h.get? a).map fun o=>(a,o)
def gN(g h:Heap)(L d:Addr):List (Addr × Obj):=(zw g h L).filter fun p=>decide (p.1≠d)
structure Mod(K:W.Frag)(mg:Str->Option Value)(base:Heap):Prop where
 kin:K.In base
 glob:base.Ns mainGlobals mg
 blt:∃mb,base.Ns builtinsNs mb/\∀x:Str,x≠"__name__"->mb x=bootBuiltins x
 nolimit:base.NoLimit
structure Cx where
 prog:Program
 w:World
 K:W.Frag
 mg:Str->Option Value
 base:Heap
 A:Around
 N:List Str
 s₀:Shared
 H₀:Hp
 env:Env
 q0:List Env
 stack:List Env
 ex:List Addr
 fn:Str->Bool
 calm:Bool
 pn:List (Addr × Obj)
 xe:Value->Shared->Prop
def frs(l:List Env):List Addr:=l.filterMap (·.frame)
abbrev Cx.fs(X:Cx):List Addr:=frs X.q0
def Vis(sc:Scope)(x:Str):Prop:=sc.names.lookup x=some .local\/sc.names.lookup x=some .cell\/sc.names.lookup x=some .free
def Loc(sc:Scope)(x:Str):Prop:=sc.names.lookup x=some .local\/sc.names.lookup x=some .cell
def D7(env:Env)(h:Heap)(m:Str->Option Value)(x:Str)(u:Value):Prop :=
 (env.kindOf x=some .local/\m x=some u)\/((env.kindOf x=some .cell\/env.kindOf x=some .free)/\∃c,env.cells.lookup x=some c/\h.IsCell c (some u))
structure Cx.Ok(X:Cx):Prop where
 mod:Mod X.K X.mg X.base
 kind:X.env.scope.kind=.function
 glob:X.env.globals=mainGlobals
 blt:X.env.builtins=builtinsNs
 above:X.s₀.heap.objs.size<=X.env.locals
 inj:∀x y c,X.env.cells.lookup x=some c->X.env.cells.lookup y=some c->x=y
 has:∀x,(X.env.kindOf x=some .cell\/X.env.kindOf x=some .free)->∃c,X.env.cells.lookup x=some c
 cab:∀x c,X.fn x=true->X.env.cells.lookup x=some c->X.s₀.heap.objs.size<=c
 hd:X.calm=true->X.A.handled=none
 frames:X.A.frames=some X.stack
 stk:X.stack=X.q0\/(X.stack=X.env::X.q0/\X.env.frame=some X.env.locals)
 exf:∀b∈X.ex,b≠X.env.locals/\∀x c,X.env.cells.lookup x=some c->c≠b
 bs:∀b o,X.base.get? b=some o->X.s₀.heap.get? b=some o/\X.H₀ b=none
 bsz:X.base.objs.size<=X.s₀.heap.objs.size
 noex:∀b o,X.base.get? b=some o->b∉X.ex
 exfs:∀b∈X.ex,b∉X.fs
 funs:X.s₀.heap.FunFrames X.base X.q0
 frf:∀b∈X.fs,X.H₀ b=none
structure Inv(X:Cx)(kb:List (Addr × Obj))(σ:List (Option V))(H:Hp)(s:Shared):Prop where
 ok:X.Ok
 os:s.os=X.s₀.os
 bare:AllBare s.gens
 base:Un X.fs X.ex X.H₀ H X.s₀.heap s.heap
 loc:∃m,s.heap.Ns X.env.locals m/\∀(i:Nat) (x:Str) (v:V),X.N[i]?=some x->σ[i]?=some (some v)->Vis X.env.scope x->∃u,dR v u/\D7 X.env s.heap m x u
 cell:∀x c,X.env.cells.lookup x=some c->∃v,s.heap.IsCell c v
 free:H X.env.locals=none
 freeC:∀x c,X.env.cells.lookup x=some c->H c=none
 pin:∀p∈X.pn++kb,s.heap.get? p.1=some p.2/\H p.1=none/\p.1≠X.env.locals/\p.1∉X.fs/\∀v,p.2.data≠.cell v
 hok:HOk X.prog X.w H s.heap
 len:σ.length=X.N.length
section
variable{X:Cx}{kb:List (Addr × Obj)}{σ:List (Option V)}{H H':Hp}{s:Shared}{h':Heap}
theorem Cx.Ok.nofr(ok:X.Ok){b:Addr}{o:Obj}(e:X.base.get? b=some o):b∉X.fs:=fun hb=>by
 have:=(ok.funs.mem hb).1
 rw [e] at this;cases this
theorem Inv.bs(I:Inv X kb σ H s):∀b o,X.base.get? b=some o->s.heap.get? b=some o/\H b=none:=fun b o e =>
 ⟨I.base.keep b o (I.ok.bs b o e).1 (I.ok.bs b o e).2 (I.ok.nofr e) (I.ok.noex b o e),I.base.free b o (I.ok.bs b o e).1 (I.ok.bs b o e).2 (I.ok.noex b o e)⟩
theorem Inv.bk(I:Inv X kb σ H s):∀b o,X.base.get? b=some o->s.heap.get? b=some o:=fun b o e=>(I.bs b o e).1
theorem Inv.mod(I:Inv X kb σ H s):Mod X.K X.mg X.base:=I.ok.mod
theorem Inv.kIn(I:Inv X kb σ H s):X.K.In s.heap:=I.ok.mod.kin.keeps I.bk
theorem Inv.lt(I:Inv X kb σ H s):X.env.locals < s.heap.objs.size:=let ⟨_,hn,_⟩:=I.loc;hn.lt
theorem Inv.sz(I:Inv X kb σ H s):X.s₀.heap.objs.size<=s.heap.objs.size:=Nat.le_trans I.ok.above (Nat.le_of_lt I.lt)
theorem Inv.nofs(I:Inv X kb σ H s){a:Addr}(h:s.heap.objs.size<=a):a∉X.fs:=fun hb=>by
 obtain⟨_,o,ho,_⟩:=I.ok.funs.mem hb
 exact absurd (Nat.lt_of_lt_of_le (Heap.lt_size ho) (Nat.le_trans I.sz h)) (Nat.lt_irrefl _)
theorem Inv.cne(I:Inv X kb σ H s):∀x c,X.env.cells.lookup x=some c->c≠X.env.locals:=fun x c e z=>by
 obtain⟨v,o,ho,hd⟩:=I.cell x c e
 obtain⟨m,⟨o',es,ep,ho',hd',_⟩,_⟩:=I.loc
 rw [z,ho'] at ho;cases ho;rw [hd'] at hd;cases hd
theorem Inv.funs(I:Inv X kb σ H s):s.heap.FunFrames X.base X.q0:=by
 have all:∀(l:List Env),(∀b∈frs l,b∈X.fs)->X.s₀.heap.FunFrames X.base l->s.heap.FunFrames X.base l:=by
  intro l
  induction l with
  |nil=>intro _ _;trivial
  |cons env r ih =>
   intro hs hl
   obtain⟨hk,⟨L,o,hf,hn,ho,hd⟩,hr⟩:=hl
   have hL:L∈X.fs:=hs L (by unfold frs;rw [List.filterMap_cons,hf];exact List.mem_cons_self)
   obtain⟨sl,e⟩:=I.base.slot L o ho (I.ok.frf L hL) hL fun z=>I.ok.exfs L z hL
   exact⟨hk,⟨L,_,hf,hn,e,hd⟩,ih (fun b hb=>hs b (by unfold frs;rw [List.filterMap_cons,hf];exact List.mem_cons_of_mem _ hb)) hr⟩
 exact all X.q0 (fun _ hb=>hb) I.ok.funs
theorem Inv.stack(I:Inv X kb σ H s):s.heap.FunFrames X.base X.stack:=by
 rcases I.ok.stk with e|⟨e,hf⟩
 ·rw [e];exact I.funs
 ·rw [e]
  obtain⟨m,hn,_⟩:=I.loc
  refine .cons (by rw [I.ok.kind];decide) hf hn ?_ I.funs
  exact Heap.get?_none_of_le (Nat.le_trans I.ok.bsz I.ok.above)
theorem Inv.stkSub(I:Inv X kb σ H s):∀b∈frs X.stack,b∈X.env.locals::X.fs:=fun b hb=>by
 rcases I.ok.stk with e|⟨e,hf⟩
 ·rw [e] at hb;exact List.mem_cons_of_mem _ hb
 ·rw [e] at hb
  unfold frs at hb
  rw [List.filterMap_cons,hf] at hb
  exact hb
theorem Inv.stkFree(I:Inv X kb σ H s):∀b∈frs X.stack,H b=none:=fun b hb=>by
 rcases List.mem_cons.mp (I.stkSub b hb) with e|hb
 ·rw [e];exact I.free
 ·obtain⟨_,o,ho,_⟩:=I.ok.funs.mem hb
  exact I.base.free b o ho (I.ok.frf b hb) fun z=>I.ok.exfs b z hb
theorem Inv.step{g':Array GenState}{t':Nat}{d':Drawn}{ch:List Addr}(I:Inv X kb σ H s)
  (hch:∀b∈ch,(b∈X.ex\/X.s₀.heap.objs.size<=b)/\b≠X.env.locals/\(∀x c,X.env.cells.lookup x=some c->c≠b)/\∀p∈X.pn++kb,p.1≠b)
  (keep:∀b o,b≠X.env.locals->b∉X.fs->b∉ch->s.heap.get? b=some o->H b=none->h'.get? b=some o)
  (slot:∀b o,b≠X.env.locals->b∈X.fs->b∉ch->s.heap.get? b=some o->H b=none->∃sl,h'.get? b=some { o with slots:=sl }) (free:∀b o,b∉ch->s.heap.get? b=some o->H b=none->H' b=none)
  (there:∀b o,b∉ch->s.heap.get? b=some o->∃o',h'.get? b=some o')
  (tups:∀b xs,H b=some (.tup xs)->H' b=some (.tup xs)) (frzs:∀b o u,H b=some (.frz o u)->H' b=some (.frz o u)) (tbls:∀b ps,H b=some (.tbl ps)->∃more,H' b=some (.tbl (ps++more)))
  (ns:∀m,s.heap.Ns X.env.locals m->h'.Ns X.env.locals m) (hok:HOk X.prog X.w H' h') (hg:AllBare g') :
  Inv X kb σ H' { s with heap:=h',gens:=g',drawn:=d',toks:=t' }:=by
 have neL:∀b o,X.s₀.heap.get? b=some o->b≠X.env.locals:=fun b o e=>Nat.ne_of_lt (Nat.lt_of_lt_of_le (Heap.lt_size e) I.ok.above)
 have neC:∀b o,X.s₀.heap.get? b=some o->b∉X.ex->b∉ch:=fun b o e hx hb=>by
  rcases (hch b hb).1 with z|z
  ·exact hx z
  ·exact absurd (Nat.lt_of_lt_of_le (Heap.lt_size e) z) (Nat.lt_irrefl _)
 have cellK:∀x c,X.env.cells.lookup x=some c->∀v,s.heap.IsCell c v->h'.IsCell c v:=fun x c e v ⟨o,ho,hd⟩=>by
  have nch:c∉ch:=fun z=>(hch c z).2.2.1 x c e rfl
  by_cases hc:c∈X.fs
  ·obtain⟨sl,q⟩:=slot c o (I.cne x c e) hc nch ho (I.freeC x c e)
   exact⟨_,q,hd⟩
  ·exact⟨o,keep c o (I.cne x c e) hc nch ho (I.freeC x c e),hd⟩
 refine⟨I.ok,I.os,hg,⟨fun b o e n hb hx=>?_,fun b o e n hb hx=>?_,fun b o e n hx=>?_,fun b o e hx=>?_,fun b xs e=>tups b xs (I.base.tups b xs e),fun b o xs e=>frzs b o xs (I.base.frzs b o xs e),fun b ps e=>?_⟩,?_,fun x c e=>?_,?_,fun x c e=>?_,fun p hp=>?_,hok,I.len⟩
 ·exact keep b o (neL b o e) hb (neC b o e hx) (I.base.keep b o e n hb hx) (I.base.free b o e n hx)
 ·obtain⟨sl,e1⟩:=I.base.slot b o e n hb hx
  obtain⟨sl',e2⟩:=slot b _ (neL b o e) hb (neC b o e hx) e1 (I.base.free b o e n hx)
  exact⟨sl',e2⟩
 ·obtain⟨o',e1⟩:=I.base.there b o e hx
  exact free b o' (neC b o e hx) e1 (I.base.free b o e n hx)
 ·obtain⟨o',e1⟩:=I.base.there b o e hx
  exact there b o' (neC b o e hx) e1
 ·obtain⟨m1,e1⟩:=I.base.tbls b ps e
  obtain⟨m2,e2⟩:=tbls b _ e1
  exact⟨m1++m2,by rw [e2,Array.append_assoc]⟩
 ·obtain⟨m,hn,hl⟩:=I.loc
  refine⟨m,ns m hn,fun i x v e1 e2 e3=>?_⟩
  obtain⟨u,r,l⟩:=hl i x v e1 e2 e3
  refine⟨u,r,?_⟩
  rcases l with l|⟨k,c,e,z⟩
  ·exact .inl l
  ·exact .inr ⟨k,c,e,cellK x c e _ z⟩
 ·obtain⟨v,z⟩:=I.cell x c e
  exact⟨v,cellK x c e v z⟩
 ·obtain⟨m,⟨o,_,_,ho,_⟩,_⟩:=I.loc
  exact free _ o (fun z=>(hch _ z).2.1 rfl) ho I.free
 ·obtain⟨v,o,ho,hd⟩:=I.cell x c e
  exact free c o (fun z=>(hch c z).2.2.1 x c e rfl) ho (I.freeC x c e)
 ·obtain⟨e,n,ne,nf,d⟩:=I.pin p hp
  have nch:p.1∉ch:=fun z=>(hch p.1 z).2.2.2 p hp rfl
  exact⟨keep p.1 p.2 ne nf nch e n,free p.1 p.2 nch e n,ne,nf,d⟩
theorem Inv.un{t':Nat}(I:Inv X kb σ H s)(u:Un X.fs [] H H' s.heap h')(hok:HOk X.prog X.w H' h'):Inv X kb σ H' { s with heap:=h',toks:=t' }:=by
 obtain⟨m,⟨o,es,ep,ho,r⟩,_⟩:=id I.loc
 obtain⟨sl,hL⟩:=u.any ho I.free (by simp)
 exact I.step (g':=s.gens) (d':=s.drawn) (ch:=[]) (fun _ z=>nomatch z) (fun b o _ hb _ e n=>u.keep b o e n hb (by simp)) (fun b o _ hb _ e n=>u.slot b o e n hb (by simp)) (fun b o _ e n=>u.free b o e n (by simp)) (fun b o _ e=>u.there b o e (by simp)) u.tups u.frzs u.tbls (fun m' hm=>by
  obtain⟨o',es',ep',ho',r'⟩:=hm
  rw [ho] at ho';cases ho'
  exact⟨_,es',ep',hL,r'⟩) hok I.bare
theorem Inv.call{g':Array GenState}{t':Nat}{d':Drawn}{ch:List Addr}(I:Inv X kb σ H s)(u:Un (frs X.stack) ch H H' s.heap h')(hok:HOk X.prog X.w H' h')(hg:AllBare g')
  (hch:∀b∈ch,(b∈X.ex\/X.s₀.heap.objs.size<=b)/\b≠X.env.locals/\(∀x c,X.env.cells.lookup x=some c->c≠b)/\∀p∈X.pn++kb,p.1≠b) :
  Inv X kb σ H' { s with heap:=h',gens:=g',drawn:=d',toks:=t' }:=by
 obtain⟨m,⟨o,es,ep,ho,r⟩,_⟩:=id I.loc
 obtain⟨sl,hL⟩:=u.any ho I.free fun z=>(hch _ z).2.1 rfl
 exact I.step (ch:=ch) hch (fun b o hL hb hc e n=>u.keep b o e n (fun z=>(List.mem_cons.mp (I.stkSub b z)).elim hL hb) hc) (fun b o _ _ hc e n=>u.any e n hc) (fun b o hc e n=>u.free b o e n hc) (fun b o hc e=>u.there b o e hc) u.tups u.frzs u.tbls (fun m' hm=>by
  obtain⟨o',es',ep',ho',r'⟩:=hm
  rw [ho] at ho';cases ho'
  exact⟨_,es',ep',hL,r'⟩) hok hg
theorem Inv.turned{t':Nat}{it:Addr}(I:Inv X kb σ H s)(k:∀b o,b≠it->s.heap.get? b=some o->h'.get? b=some o)(hn:H it=none)(hL:it≠X.env.locals)
  (h1:it∈X.ex\/X.s₀.heap.objs.size<=it) (h2:∀x c,X.env.cells.lookup x=some c->c≠it) (h3:∀p∈X.pn++kb,p.1≠it):Inv X kb σ H { s with heap:=h',toks:=t' }:=by
 have nit:∀b u,H b=some u->b≠it:=fun b u e z=>by rw [z,hn] at e;cases e
 refine I.step (g':=s.gens) (d':=s.drawn) (ch:=[it]) (fun b hb=>?_) (fun b o _ _ hc e _=>k b o (fun z=>hc (by simp [z])) e) (fun b o _ _ hc e _=>⟨o.slots,k b o (fun z=>hc (by simp [z])) e⟩) (fun _ _ _ _ n=>n)
  (fun b o hc e=>⟨o,k b o (fun z=>hc (by simp [z])) e⟩) (fun _ _ e=>e) (fun _ _ _ e=>e) (fun b ps e=>⟨#[],by rw [e];simp⟩) (fun m hm=>?_) (fun b u e=>?_) I.bare
 ·have e:b=it:=by simpa using hb
  subst e
  exact⟨h1,hL,h2,h3⟩
 ·obtain⟨o,es,ep,ho,r⟩:=hm
  exact⟨o,es,ep,k _ o (Ne.symm hL) ho,r⟩
 ·refine(I.hok b u e).stay (fun c v hc q=>k c v ?_ q) (fun _ q=>q) fun _ _ q=>q
  rcases hc with z|z
  ·rw [z];exact nit b u e
  ·exact nit c _ z
theorem Inv.tok(I:Inv X kb σ H s)(t:Nat):Inv X kb σ H { s with toks:=t }:=I.un (h':=s.heap) (t':=t) Un.refl I.hok
theorem Inv.kept{t':Nat}(I:Inv X kb σ H s)(k:∀b u,s.heap.get? b=some u->h'.get? b=some u):Inv X kb σ H { s with heap:=h',toks:=t' }:=I.un (Un.kept k) (I.hok.kept k)
theorem Inv.laid{a:Addr}{o:HO}{t':Nat}(I:Inv X kb σ H s)(k:∀b u,s.heap.get? b=some u->h'.get? b=some u)(hp:s.heap.objs.size<=a)(new:eI X.prog X.w (upd H a o) h' a o) :
  Inv X kb σ (upd H a o) { s with heap:=h',toks:=t' }:=I.un (Un.laid k hp (I.hok.fresh hp)) (I.hok.laid k hp new)
theorem Inv.write{x e:Addr}{o:HO}{t':Nat}(I:Inv X kb σ H s)(mu:Mut (H x))(he:e=x\/H e=some (.own x))(k:∀b u,b≠e->s.heap.get? b=some u->h'.get? b=some u)(heo:∃u,h'.get? e=some u)
  (new:eI X.prog X.w (upd H x o) h' x o):Inv X kb σ (upd H x o) { s with heap:=h',toks:=t' }:=I.un (Un.write mu he k heo) (I.hok.write mu he k heo new)
theorem Inv.weak{σ':List (Option V)}(I:Inv X kb σ H s)(hl:σ'.length=σ.length)(w:∀(i:Nat) v,σ'[i]?=some (some v)->σ[i]?=some (some v)):Inv X kb σ' H s :=
 ⟨I.ok,I.os,I.bare,I.base,let ⟨m,hn,hl'⟩:=I.loc;⟨m,hn,fun i x v e1 e2 e3=>hl' i x v e1 (w i v e2) e3⟩,I.cell,I.free,I.freeC,I.pin,I.hok,hl.trans I.len⟩
theorem Inv.pins_of{pins':List (Addr × Obj)}(I:Inv X kb σ H s)(h:∀p∈pins',s.heap.get? p.1=some p.2/\H p.1=none/\p.1≠X.env.locals/\p.1∉X.fs/\∀v,p.2.data≠.cell v):Inv X pins' σ H s :=
 ⟨I.ok,I.os,I.bare,I.base,I.loc,I.cell,I.free,I.freeC,fun p hp=>(List.mem_append.mp hp).elim (fun z=>I.pin p (List.mem_append_left _ z)) (h p),I.hok,I.len⟩
theorem rm{N:List Str}(hN:N.Nodup){i j:Nat}{x:Str}(a:N[i]?=some x)(b:N[j]?=some x):i=j:=by
 obtain⟨h1,e1⟩:=List.getElem?_eq_some_iff.mp a
 obtain⟨h2,e2⟩:=List.getElem?_eq_some_iff.mp b
 exact(List.getElem_inj hN).mp (e1.trans e2.symm)
theorem wz{M:Model}{A:Around}{E:Value->Shared->Prop}{i:Nat}{x:Str}{v:V}{u:Value}{Q:Unit->Shared->Prop}(I:Inv X kb σ H s)(hN:X.N.Nodup)(hi:X.N[i]?=some x)(hx:Loc X.env.scope x)(r:dR v u)
  (h:∀s',Inv X kb (σ.set i (some v)) H s'->(∃a,Heap.SameBut a s.heap s'.heap/\(a=X.env.locals\/X.env.cells.lookup x=some a))->Q () s') (hf:X.fn x=true\/X.env.scope.names.lookup x=some .local:=by first|exact .inl rfl|exact .inr rfl|assumption):wpAny M A (storeName X.env x u) Q E s:=by
 obtain⟨m,hn,hl⟩:=id I.loc
 have hcls:(X.env.scope.kind==.class||(X.env.scope.kind==.module&&X.env.locals != X.env.globals))=false:=by rw [I.ok.kind];rfl
 have hiσ:i < σ.length:=by rw [I.len];exact(List.getElem?_eq_some_iff.mp hi).1
 have cne:=I.cne
 have tracked:∀{a:Addr} {h':Heap},(∃o,s.heap.get? a=some o/\H a=none)->Heap.SameBut a s.heap h'->HOk X.prog X.w H h':=fun {a h'} ha hs b ob e=>by
  obtain⟨_,_,hfree⟩:=ha
  refine(I.hok b ob e).stay (fun c w' hc q=>(hs.2 c ?_).trans q) (fun _ q=>q) fun _ _ q=>q
  rintro rfl
  rcases hc with rfl|hc
  ·rw [hfree] at e;cases e
  ·rw [hfree] at hc;cases hc
 rcases hx with hk|hk
 ·refine wpAny_storeName_local hk hn (fun h' hn' hs=>?_) hcls
  obtain⟨oL,_,_,hoL,_⟩:=id hn
  refine h _ ⟨I.ok,I.os,I.bare,⟨fun b o e n hb hx=>?_,fun b o e n hb hx=>?_,I.base.free,fun b o e hx=>?_,I.base.tups,I.base.frzs,I.base.tbls⟩,⟨_,hn',fun j y v' e1 e2 e3=>?_⟩,fun y c e=>?_,I.free,I.freeC,fun p hp=>?_,tracked ⟨oL,hoL,I.free⟩ hs,by simpa using I.len⟩ ⟨_,hs,.inl rfl⟩
  ·exact(hs.2 b (Nat.ne_of_lt (Nat.lt_of_lt_of_le (Heap.lt_size e) I.ok.above))).trans (I.base.keep b o e n hb hx)
  ·obtain⟨sl,e1⟩:=I.base.slot b o e n hb hx
   exact⟨sl,(hs.2 b (Nat.ne_of_lt (Nat.lt_of_lt_of_le (Heap.lt_size e) I.ok.above))).trans e1⟩
  ·obtain⟨o',e1⟩:=I.base.there b o e hx
   exact⟨o',(hs.2 b (Nat.ne_of_lt (Nat.lt_of_lt_of_le (Heap.lt_size e) I.ok.above))).trans e1⟩
  ·by_cases hj:j=i
   ·subst hj
    rw [hi] at e1;cases e1
    rw [List.getElem?_set_self hiσ] at e2
    cases e2
    exact⟨u,r,.inl ⟨hk,by simp⟩⟩
   ·rw [List.getElem?_set_ne (Ne.symm hj)] at e2
    obtain⟨u',r',q⟩:=hl j y v' e1 e2 e3
    refine⟨u',r',?_⟩
    rcases q with ⟨k,e⟩|⟨k,c,e,z⟩
    ·refine .inl ⟨k,?_⟩
     have:y≠x:=fun e=>hj (rm hN e1 (e▸hi))
     simp [this,e]
    ·exact .inr ⟨k,c,e,z.sameBut hs (cne y c e)⟩
  ·obtain⟨w',z⟩:=I.cell y c e
   exact⟨w',z.sameBut hs (cne y c e)⟩
  ·obtain⟨e,n,ne,nf,d⟩:=I.pin p hp
   exact⟨(hs.2 p.1 ne).trans e,n,ne,nf,d⟩
 ·have hfn:X.fn x=true:=by
   rcases hf with z|z
   ·exact z
   ·rw [z] at hk;cases hk
  obtain⟨c,hc⟩:=I.ok.has x (.inl hk)
  obtain⟨w',z⟩:=I.cell x c hc
  refine wpAny_storeName_cell I.ok.kind hk hc z (fun h' hc' hs=>?_)
  obtain⟨oc,hoc,hocd⟩:=id z
  refine h { s with heap:=h' } ⟨I.ok,I.os,I.bare,⟨fun b o e n hb hx=>?_,fun b o e n hb hx=>?_,I.base.free,fun b o e hx=>?_,I.base.tups,I.base.frzs,I.base.tbls⟩,⟨m,hn.sameBut hs (Ne.symm (cne x c hc)),fun j y v' e1 e2 e3=>?_⟩,fun y c' e=>?_,I.free,I.freeC,fun p hp=>?_,tracked ⟨oc,hoc,I.freeC x c hc⟩ hs,by simpa using I.len⟩ ⟨c,hs,.inr hc⟩
  ·exact(hs.2 b (Nat.ne_of_lt (Nat.lt_of_lt_of_le (Heap.lt_size e) (I.ok.cab x c hfn hc)))).trans (I.base.keep b o e n hb hx)
  ·obtain⟨sl,e1⟩:=I.base.slot b o e n hb hx
   exact⟨sl,(hs.2 b (Nat.ne_of_lt (Nat.lt_of_lt_of_le (Heap.lt_size e) (I.ok.cab x c hfn hc)))).trans e1⟩
  ·obtain⟨o',e1⟩:=I.base.there b o e hx
   exact⟨o',(hs.2 b (Nat.ne_of_lt (Nat.lt_of_lt_of_le (Heap.lt_size e) (I.ok.cab x c hfn hc)))).trans e1⟩
  ·by_cases hj:j=i
   ·subst hj
    rw [hi] at e1;cases e1
    rw [List.getElem?_set_self hiσ] at e2
    cases e2
    exact⟨u,r,.inr ⟨.inl hk,c,hc,hc'⟩⟩
   ·rw [List.getElem?_set_ne (Ne.symm hj)] at e2
    obtain⟨u',r',q⟩:=hl j y v' e1 e2 e3
    refine⟨u',r',?_⟩
    rcases q with q|⟨k,c',e,z'⟩
    ·exact .inl q
    ·refine .inr ⟨k,c',e,z'.sameBut hs ?_⟩
     rintro rfl
     exact hj (rm hN e1 (I.ok.inj _ _ _ e hc▸hi))
  ·by_cases hcc:c'=c
   ·subst hcc;exact⟨_,hc'⟩
   ·obtain⟨w2,z2⟩:=I.cell y c' e
    exact⟨w2,z2.sameBut hs hcc⟩
  ·obtain⟨e,n,ne,nf,d⟩:=I.pin p hp
   refine⟨(hs.2 p.1 ?_).trans e,n,ne,nf,d⟩
   intro q
   rw [q,hoc] at e
   have q':oc=p.2:=Option.some.inj e
   exact d w' (by rw [<-q'];exact hocd)
theorem lF{M:Model}{A:Around}{E:Value->Shared->Prop}{i:Nat}{x:Str}{v:V}{u:Value}{Q:Unit->Shared->Prop}(I:Inv X kb σ H s)(hN:X.N.Nodup)(hi:X.N[i]?=some x)(hx:Loc X.env.scope x)(r:dR v u)
  (h:∀s',Inv X kb (σ.set i (some v)) H s'->Q () s') (hf:X.fn x=true\/X.env.scope.names.lookup x=some .local:=by first|exact .inl rfl|exact .inr rfl|assumption):wpAny M A (storeName X.env x u) Q E s :=
 wz I hN hi hx r (fun s' I' _=>h s' I') hf
theorem Inv.call'{s':Shared}{ch:List Addr}(I:Inv X kb σ H s)(ho:s'.os=s.os)(u:Un (frs X.stack) ch H H' s.heap s'.heap)(hok:HOk X.prog X.w H' s'.heap)(hg:AllBare s'.gens)
  (hch:∀b∈ch,(b∈X.ex\/X.s₀.heap.objs.size<=b)/\b≠X.env.locals/\(∀x c,X.env.cells.lookup x=some c->c≠b)/\∀p∈X.pn++kb,p.1≠b):Inv X kb σ H' s':=by
 obtain⟨h',g',d',t',o'⟩:=s'
 have e:o'=s.os:=ho
 subst e
 exact I.call (g':=g') (t':=t') (d':=d') u hok hg hch
end
abbrev XK:=Value->Option Addr->Hp->Prop
abbrev St:=List (Option V)
abbrev VK:=V->Hp->Prop
abbrev TE:=St->Hp->VK->Prop
abbrev TT:=St->Hp->(Bool->Hp->Prop)->Prop
abbrev TA:=St->Hp->(List V->Hp->Prop)->Prop
structure ja where
 nx:St->Hp->Prop
 rt:VK
 bk:St->Hp->Prop:=fun _ _=>False
 ct:St->Hp->Prop:=fun _ _=>False
abbrev TS:=ja->St->Hp->Prop
def EP(X:Cx)(kb:List (Addr × Obj))(σ:St)(Q:VK)(u:Value)(s':Shared):Prop:=∃v H',Inv X kb σ H' s'/\dR v u/\Q v H'
def TP(X:Cx)(kb:List (Addr × Obj))(σ:St)(Q:Bool->Hp->Prop)(b:Bool)(s':Shared):Prop:=∃H',Inv X kb σ H' s'/\Q b H'
def AP(X:Cx)(kb:List (Addr × Obj))(σ:St)(Q:List V->Hp->Prop)(us:List Value)(s':Shared):Prop:=∃vs H',Inv X kb σ H' s'/\cy vs us/\Q vs H'
def SP(X:Cx)(kb:List (Addr × Obj))(D:ja)(f:Flow)(s':Shared):Prop :=
 match f with
 |.next=>∃σ' H',Inv X kb σ' H' s'/\D.nx σ' H'
 |.brk=>∃σ' H',Inv X kb σ' H' s'/\D.bk σ' H'
 |.cont=>∃σ' H',Inv X kb σ' H' s'/\D.ct σ' H'
 |.ret u=>∃v σ' H',Inv X kb σ' H' s'/\dR v u/\D.rt v H'
def PE(X:Cx)(e:Expr)(t:TE):Prop :=
 ∀(kb:List (Addr × Obj)) (s:Shared) (σ:St) (H:Hp) (Q:VK),Inv X kb σ H s->t σ H Q->wpAny (model X.prog X.w) X.A (eval e X.env) (EP X kb σ Q) X.xe s
def PT(X:Cx)(e:Expr)(t:TT):Prop :=
 ∀(kb:List (Addr × Obj)) (s:Shared) (σ:St) (H:Hp) (Q:Bool->Hp->Prop),Inv X kb σ H s->t σ H Q->wpAny (model X.prog X.w) X.A (isTrue e X.env (eval e X.env)) (TP X kb σ Q) X.xe s
def PW(X:Cx)(e:Expr)(t:TT):Prop :=
 ∀(whole:Sem Value) (kb:List (Addr × Obj)) (s:Shared) (σ:St) (H:Hp) (Q:Bool->Hp->Prop),Inv X kb σ H s->t σ H Q->wpAny (model X.prog X.w) X.A (isTrue e X.env whole) (TP X kb σ Q) X.xe s
theorem PW.pt{X:Cx}{e:Expr}{t:TT}(h:PW X e t):PT X e t:=h _
def PA(X:Cx)(es:List Expr)(t:TA):Prop :=
 ∀(pos:Pos) (kb:List (Addr × Obj)) (s:Shared) (σ:St) (H:Hp) (Q:List V->Hp->Prop),Inv X kb σ H s->t σ H Q->wpAny (model X.prog X.w) X.A (spliced (backTo pos (starEach es X.env))) (AP X kb σ Q) X.xe s
def PS(X:Cx)(st:Stmt)(t:TS):Prop :=
 ∀(kb:List (Addr × Obj)) (s:Shared) (σ:St) (H:Hp) (D:ja),Inv X kb σ H s->t D σ H->wpAny (model X.prog X.w) X.A (exec st X.env) (SP X kb D) X.xe s
def PSs(X:Cx)(st:List Stmt)(t:TS):Prop :=
 ∀(kb:List (Addr × Obj)) (s:Shared) (σ:St) (H:Hp) (D:ja),Inv X kb σ H s->t D σ H->wpAny (model X.prog X.w) X.A (execs st X.env) (SP X kb D) X.xe s
theorem thn{α:Type}{t:Sem α}{Q Q':α->Shared->Prop}{M:Model}{A:Around}{E:Value->Shared->Prop}{s:Shared}(h:wpAny M A t Q E s)(hQ:∀a s,Q a s->Q' a s):wpAny M A t Q' E s:=wpAny_mono h hQ fun _ _ x=>x
section
variable{X:Cx}
inductive Wi(i:Nat)(σ:St)(H:Hp)(Q:VK):Prop|mk(v:V)(h:σ[i]?=some (some v))(q:Q v H)
def wM(i:Nat):TE:=fun σ H Q=>Wi i σ H Q
def tC(v:V):TE:=fun _ H Q=>Q v H
theorem Bi{i:Nat}{x:Str}{pos:Pos}(hN:X.N[i]?=some x)(hv:Vis X.env.scope x) (hd:(x==("__debug__":Str))=false:=by decide) (hcd:(x==("__classdict__":Str))=false:=by decide):PE X (.Name x pos) (wM i):=by
 intro kb s σ H Q I h
 obtain⟨v,e,h⟩:=h
 obtain⟨m,hn,hl⟩:=I.loc
 obtain⟨u,r,l⟩:=hl i x v hN e hv
 have fin:EP X kb σ Q u s:=⟨v,H,I,r,h⟩
 rcases l with ⟨hk,hm⟩|⟨hk,c,hc,hcell⟩
 ·exact wpAny_Name (wpAny_loadName_local I.ok.kind hk hn hm fin) hd
 ·rcases hk with hk|hk
  ·exact wpAny_Name (wpAny_loadName_cell I.ok.kind hk hc hcell fin) hd
  ·exact wpAny_Name (wpAny_loadName_free I.ok.kind hk hc hcell fin hcd) hd
theorem ag{i j pos}:PE X (.Constant (.int i) j pos) (tC (.int i)):=fun _ _ _ H _ I h=>wpAny_Constant_int ⟨.int i,H,I.tok _,⟨_,rfl⟩,h⟩
theorem fR{b j pos}:PE X (.Constant (.bool b) j pos) (tC (.bl b)):=fun _ _ _ H _ I h=>Constant_bool ⟨.bl b,H,I,rfl,h⟩
theorem dW{j pos}:PE X (.Constant .none j pos) (tC .non):=fun _ _ _ H _ I h=>Constant_none ⟨.non,H,I,rfl,h⟩
theorem ak{x j pos}:PE X (.Constant (.str x) j pos) (tC (.str x)):=fun _ _ _ H _ I h=>Calls.Constant_str ⟨.str x,H,I.tok _,⟨_,rfl⟩,h⟩
def Gl(X:Cx)(x:Str):Prop:=X.env.kindOf x=some .globalImplicit
theorem lR{E:Value->Shared->Prop}{kb:List (Addr × Obj)}{s:Shared}{σ:St}{H:Hp}{x:Str}{u:Value}{pos:Pos}{Q:Value->Shared->Prop}(I:Inv X kb σ H s)(hg:Gl X x)(hm:X.mg x=some u)(h:Q u s)
  (hd:(x==("__debug__":Str))=false:=by decide):wpAny (model X.prog X.w) X.A (eval (.Name x pos) X.env) Q E s :=
 Calls.Name_function_global I.ok.kind hg (Calls.loadGlobal_global (by rw [I.ok.glob];exact I.mod.glob.keeps I.bk) hm h) hd
theorem kn{E:Value->Shared->Prop}{kb:List (Addr × Obj)}{s:Shared}{σ:St}{H:Hp}{x:Str}{u:Value}{pos:Pos}{Q:Value->Shared->Prop}(I:Inv X kb σ H s)(hg:Gl X x)(hm:X.mg x=none)(hv:bootBuiltins x=some u)(h:Q u s)
  (hn:x≠"__name__":=by decide) (hd:(x==("__debug__":Str))=false:=by decide):wpAny (model X.prog X.w) X.A (eval (.Name x pos) X.env) Q E s:=by
 obtain⟨mb,h1,h2⟩:=I.mod.blt
 exact Calls.Name_function_global I.ok.kind hg (Calls.loadGlobal_builtin (by rw [I.ok.glob];exact I.mod.glob.keeps I.bk) hm (by rw [I.ok.blt];exact h1.keeps I.bk) ((h2 x hn).trans hv) h) hd
theorem cY{x:Str}{v:V}{u:Value}{pos:Pos}(hg:Gl X x)(hm:X.mg x=some u)(r:dR v u) (hd:(x==("__debug__":Str))=false:=by decide):PE X (.Name x pos) (tC v) :=
 fun _ _ _ H _ I h=>lR I hg hm ⟨v,H,I,r,h⟩ hd
theorem bJ{x:Str}{v:V}{u:Value}{pos:Pos}(hg:Gl X x)(hm:X.mg x=none)(hv:bootBuiltins x=some u)(r:dR v u) (hn:x≠"__name__":=by decide) (hd:(x==("__debug__":Str))=false:=by decide):PE X (.Name x pos) (tC v) :=
 fun _ _ _ H _ I h=>kn I hg hm hv ⟨v,H,I,r,h⟩ hn hd
variable{a b:Expr}{ta tb:TE}{pos:Pos}
def PC(X:Cx)(op:CmpOp)(a b:Expr)(t:TE):Prop :=
 ∀(kb:List (Addr × Obj)) (s:Shared) (σ:St) (H:Hp) (Q:VK),Inv X kb σ H s->t σ H Q ->
  wpAny (model X.prog X.w) X.A (eval a X.env) (fun v s₁=>wpAny (model X.prog X.w) X.A (eval b X.env) (fun u s₂=>wpAny (model X.prog X.w) X.A (compareOp op v u) (EP X kb σ Q) X.xe s₂) X.xe s₁) X.xe s
inductive Wb(x:V)(H:Hp)(Q:Bool->Hp->Prop):Prop|mk(c:Bool)(h:x=.bl c)(q:Q c H)
def tB(t:TE):TT:=fun σ H Q=>t σ H fun x H1=>Wb x H1 Q
theorem AV{op:CmpOp}{t:TE}(h:PC X op a b t)(h1:behindInMarks op b=false:=by first|exact nobehind _ (by decide) (by decide)|rfl):PT X (.Compare a [op] [b] pos) (tB t):=by
 intro kb s σ H Q I hw
 refine wpAny_isTrue_Compare1 (thn (h kb s σ H _ I hw) fun v s1 h1=>thn h1 fun u s2 h2=>thn h2 fun c s3 ⟨x,H1,I1,r1,q1⟩=>?_) h1
 obtain⟨d,rfl,q⟩:=q1
 cases r1
 exact wpAny_truthy_bool ⟨H1,I1,q⟩
theorem bt{e:Expr}{t:TE}(h:PE X e t)(he:∀whole,isTrue e X.env whole=(do let v <-whole;standAt e.pos;holding [v] (truthy v)):=by intro _;rfl):PT X e (tB t):=by
 intro kb s σ H Q I hw
 refine isTrue_plain (thn (h kb s σ H _ I hw) fun v s1 ⟨x,H1,I1,r1,q1⟩=>?_) (he _)
 obtain⟨d,rfl,q⟩:=q1
 cases r1
 exact wpAny_truthy_bool ⟨H1,I1,q⟩
variable{tA tB':TT}{gN:List Expr}
def D4(t u:TT):TT:=fun σ H Q=>t σ H fun c H1=>if c=true then u σ H1 Q else Q false H1
def tOr(t u:TT):TT:=fun σ H Q=>t σ H fun c H1=>if c=true then Q true H1 else u σ H1 Q
def D6(t:TT):TT:=fun σ H Q=>t σ H fun c H1=>Q (!c) H1
theorem cz(ha:PT X a tA):PW X (.BoolOp .And [a] pos) tA:=by
 intro wh kb s σ H Q I h
 refine isTrue_and (thn (ha kb s σ H Q I h) fun c s1 e=>?_)
 cases c with
 |true=>exact isTrue_and_nil e
 |false=>exact e
theorem eC(ha:PT X a tA):PW X (.BoolOp .Or [a] pos) tA:=by
 intro wh kb s σ H Q I h
 refine isTrue_or (thn (ha kb s σ H Q I h) fun c s1 e=>?_)
 cases c with
 |false=>exact isTrue_or_nil e
 |true=>exact e
theorem cr(ha:PT X a tA)(hb:PW X (.BoolOp .And (b::gN) pos) tB'):PW X (.BoolOp .And (a::b::gN) pos) (D4 tA tB'):=by
 intro wh kb s σ H Q I h
 refine isTrue_and (thn (ha kb s σ H _ I h) fun c s1 ⟨H1,I1,q1⟩=>?_)
 cases c with
 |true=>exact hb wh kb s1 σ H1 Q I1 q1
 |false=>exact⟨H1,I1,q1⟩
theorem dl(ha:PT X a tA)(hb:PW X (.BoolOp .Or (b::gN) pos) tB'):PW X (.BoolOp .Or (a::b::gN) pos) (tOr tA tB'):=by
 intro wh kb s σ H Q I h
 refine isTrue_or (thn (ha kb s σ H _ I h) fun c s1 ⟨H1,I1,q1⟩=>?_)
 cases c with
 |true=>exact⟨H1,I1,q1⟩
 |false=>exact hb wh kb s1 σ H1 Q I1 q1
theorem dk(ha:PT X a tA):PT X (.UnaryOp .Not a pos) (D6 tA):=by
 intro kb s σ H Q I h
 exact isTrue_not (ha kb s σ H (fun c H1=>Q (!c) H1) I h)
def CU(ta tb:TE):TE:=fun σ H Q=>ta σ H fun x H1=>∃c,x=.bl c/\if c=true then tb σ H1 Q else Q (.bl false) H1
def DB(ta tb:TE):TE:=fun σ H Q=>ta σ H fun x H1=>∃c,x=.bl c/\if c=true then Q (.bl true) H1 else tb σ H1 Q
def CQ(ta:TE):TE:=fun σ H Q=>ta σ H fun x H1=>∃c,x=.bl c/\Q (.bl (!c)) H1
theorem dw{op}{t:TE}(h:PE X a t):PE X (.BoolOp op [a] pos) t:=fun kb s σ H Q I hw=>BoolOp_one (h kb s σ H Q I hw)
theorem ci(ha:PE X a ta)(hb:PE X (.BoolOp .And (b::gN) pos) tb):PE X (.BoolOp .And (a::b::gN) pos) (CU ta tb):=by
 intro kb s σ H Q I h
 refine BoolOp_and (thn (ha kb s σ H _ I h) fun v s1 ⟨x,H1,I1,r1,q1⟩=>?_)
 obtain⟨c,rfl,q1⟩:=q1
 cases r1
 refine wpAny_truthy_bool ?_
 cases c with
 |true=>exact hb kb s1 σ H1 Q I1 q1
 |false=>exact⟨.bl false,H1,I1,rfl,q1⟩
theorem Cz(ha:PE X a ta)(hb:PE X (.BoolOp .Or (b::gN) pos) tb):PE X (.BoolOp .Or (a::b::gN) pos) (DB ta tb):=by
 intro kb s σ H Q I h
 refine BoolOp_or (thn (ha kb s σ H _ I h) fun v s1 ⟨x,H1,I1,r1,q1⟩=>?_)
 obtain⟨c,rfl,q1⟩:=q1
 cases r1
 refine wpAny_truthy_bool ?_
 cases c with
 |false=>exact hb kb s1 σ H1 Q I1 q1
 |true=>exact⟨.bl true,H1,I1,rfl,q1⟩
theorem AX(ha:PE X a ta):PE X (.UnaryOp .Not a pos) (CQ ta):=by
 intro kb s σ H Q I h
 refine UnaryOp_ (thn (ha kb s σ H _ I h) fun v s1 ⟨x,H1,I1,r1,q1⟩=>?_)
 obtain⟨c,rfl,q1⟩:=q1
 cases r1
 exact not_of (wpAny_truthy_bool ⟨.bl (!c),H1,I1,rfl,q1⟩)
end
def SqL(K:W.Frag)(H:Hp)(a:Addr)(xs:List V):Prop :=
 Rd H a (.lst xs) \/
  ∃(o:Obj) (its:Array Value) (n:Nat),K.lookup a=some o/\o.cls=.type "list"/\o.dict=none/\o.data=.seq its n/\its.size<=sizeLine/\cy xs its.toList
def SqT(K:W.Frag)(H:Hp)(a:Addr)(xs:List V):Prop :=
 Rd H a (.tup xs) \/
  ∃(o:Obj) (its:Array Value) (n:Nat),K.lookup a=some o/\o.cls=.type "tuple"/\o.data=.seq its n/\its.size<=sizeLine/\cy xs its.toList
def DU:Value->Option V
 |.none=>some .non
 |.bool b=>some (.bl b)
 |.int i _=>some (.int i)
 |.str x _=>some (.str x)
 |.bytes b _=>some (.byt b)
 |.float b _=>some (.flt b)
 |.ref a=>some (.ref a)
 |.type n=>some (.ty n)
 |_=>none
theorem dR.abs{x:V}{u:Value}(r:dR x u):DU u=some x:=by
 cases x with
 |non=>cases r;rfl
 |bl _=>cases r;rfl
 |int _=>obtain⟨t,rfl⟩:=r;rfl
 |str _=>obtain⟨t,rfl⟩:=r;rfl
 |byt _=>obtain⟨t,rfl⟩:=r;rfl
 |flt _=>obtain⟨t,rfl⟩:=r;rfl
 |ref _=>cases r;rfl
 |ty _=>cases r;rfl
theorem dR.inj{x y:V}{u:Value}(r:dR x u)(q:dR y u):x=y:=Option.some.inj (r.abs.symm.trans q.abs)
theorem cy.inj:∀{xs ys:List V} {us:List Value},cy xs us->cy ys us->xs=ys
 |_,_,_,.nil,.nil=>rfl
 |_,_,_,.cons r t,.cons r' t'=>by rw [r.inj r',cy.inj t t']
section
variable{X:Cx}{kb:List (Addr × Obj)}{σ:St}{H:Hp}{s:Shared}{a:Addr}{xs ys:List V}
theorem SqL.of{K:W.Frag}(h:H a=some (.lst xs)):SqL K H a xs:=.inl (.inl h)
theorem SqT.of{K:W.Frag}(h:H a=some (.tup xs)):SqT K H a xs:=.inl (.inl h)
theorem Inv.list(I:Inv X kb σ H s)(h:SqL X.K H a xs):∃its:List Value,cy xs its/\PlainL s.heap a its.toArray/\xs.length<=sizeLine:=by
 rcases h with h|⟨o,its,n,hk,hc,hd,hs,hz,r⟩
 ·obtain⟨z,its,n,r,e⟩:=h.ok I.hok
  exact⟨its,r,⟨_,n,e,rfl,rfl,rfl⟩,z⟩
 ·refine⟨its.toList,r,⟨o,n,I.kIn a o hk,hc,hd,by simpa using hs⟩,?_⟩
  have e:=r.length
  simp only [Array.length_toList] at e
  omega
theorem Inv.tuple(I:Inv X kb σ H s)(h:SqT X.K H a xs):∃its:List Value,cy xs its/\IsTup s.heap a its.toArray/\xs.length<=sizeLine:=by
 rcases h with h|⟨o,its,n,hk,hc,hs,hz,r⟩
 ·obtain⟨z,its,r,p⟩:=h.ok I.hok
  exact⟨its,r,p,z⟩
 ·refine⟨its.toList,r,⟨o,I.kIn a o hk,hc,n,by simpa using hs⟩,?_⟩
  have e:=r.length
  simp only [Array.length_toList] at e
  omega
theorem Inv.list_inj(I:Inv X kb σ H s)(h:SqL X.K H a xs)(h':SqL X.K H a ys):xs=ys:=by
 obtain⟨its,r,⟨o,n,e,_,_,d⟩,_⟩:=I.list h
 obtain⟨its',r',⟨o',n',e',_,_,d'⟩,_⟩:=I.list h'
 rw [e] at e';cases e'
 rw [d] at d'
 injection d' with d1 _
 have:its=its':=by simpa using congrArg Array.toList d1
 subst this
 exact r.inj r'
theorem Inv.tuple_inj(I:Inv X kb σ H s)(h:SqT X.K H a xs)(h':SqT X.K H a ys):xs=ys:=by
 obtain⟨its,r,⟨o,e,_,n,d⟩,_⟩:=I.tuple h
 obtain⟨its',r',⟨o',e',_,n',d'⟩,_⟩:=I.tuple h'
 rw [e] at e';cases e'
 rw [d] at d'
 injection d' with d1 _
 have:its=its':=by simpa using congrArg Array.toList d1
 subst this
 exact r.inj r'
end
abbrev Cx.wish(X:Cx)(E:Value->Shared->Prop):Cx:={ X with xe:=E }
abbrev Cx.nox(X:Cx):Cx:=X.wish fun _ _=>False
theorem Cx.Ok.wish{X:Cx}(ok:X.Ok)(E:Value->Shared->Prop):(X.wish E).Ok :=
 ⟨ok.mod,ok.kind,ok.glob,ok.blt,ok.above,ok.inj,ok.has,ok.cab,ok.hd,ok.frames,ok.stk,ok.exf,ok.bs,ok.bsz,ok.noex,ok.exfs,ok.funs,ok.frf⟩
theorem Cx.Ok.unwish{X:Cx}{E:Value->Shared->Prop}(ok:(X.wish E).Ok):X.Ok :=
 ⟨ok.mod,ok.kind,ok.glob,ok.blt,ok.above,ok.inj,ok.has,ok.cab,ok.hd,ok.frames,ok.stk,ok.exf,ok.bs,ok.bsz,ok.noex,ok.exfs,ok.funs,ok.frf⟩
section
variable{X:Cx}{kb:List (Addr × Obj)}{σ:St}{H:Hp}{s:Shared}{E:Value->Shared->Prop}
theorem Inv.wish(I:Inv X kb σ H s)(E:Value->Shared->Prop):Inv (X.wish E) kb σ H s:=⟨I.ok.wish E,I.os,I.bare,I.base,I.loc,I.cell,I.free,I.freeC,I.pin,I.hok,I.len⟩
theorem Inv.unwish(I:Inv (X.wish E) kb σ H s):Inv X kb σ H s:=⟨I.ok.unwish,I.os,I.bare,I.base,I.loc,I.cell,I.free,I.freeC,I.pin,I.hok,I.len⟩
theorem SP.unwish{D:ja}{f:Flow}{s':Shared}(h:SP (X.wish E) kb D f s'):SP X kb D f s':=by
 cases f with
 |next=>obtain⟨σ',H',I,q⟩:=h;exact⟨σ',H',I.unwish,q⟩
 |brk=>obtain⟨σ',H',I,q⟩:=h;exact⟨σ',H',I.unwish,q⟩
 |cont=>obtain⟨σ',H',I,q⟩:=h;exact⟨σ',H',I.unwish,q⟩
 |ret u=>obtain⟨v,σ',H',I,r,q⟩:=h;exact⟨v,σ',H',I.unwish,r,q⟩
theorem PSs.nox{st:List Stmt}{t:TS}(h:PSs X.nox st t):PSs X st t:=fun kb s σ H D I hw =>
 wpAny_mono (h kb s σ H D (I.wish _) hw) (fun _ _ q=>q.unwish) fun _ _ z=>False.elim z
end
section
variable{X:Cx}{st:Stmt}{gN:List Stmt}{t u:TS}{e:Expr}{te:TE}{pos:Pos}
def CZ:TS:=fun D σ H=>D.nx σ H
def Di(t u:TS):TS:=fun D σ H=>t { D with nx:=u D } σ H
theorem ar:PSs X [] CZ:=fun _ _ σ H _ I h=>wpAny_execs_nil ⟨σ,H,I,h⟩
theorem af(h1:PS X st t)(h2:PSs X gN u):PSs X (st::gN) (Di t u):=by
 intro kb s σ H D I h
 refine wpAny_execs_cons (thn (h1 kb s σ H { D with nx:=u D } I h) fun f s1 q=>?_)
 cases f with
 |next =>
  obtain⟨σ',H',I',q⟩:=q
  exact h2 kb s1 σ' H' D I' q
 |ret v=>exact q
 |brk=>exact q
 |cont=>exact q
theorem aj(h1:PS X st t):PSs X [st] t:=by
 intro kb s σ H D I h
 refine wpAny_execs_cons (thn (h1 kb s σ H D I h) fun f s1 q=>?_)
 cases f with
 |next=>exact wpAny_execs_nil q
 |ret v=>exact q
 |brk=>exact q
 |cont=>exact q
theorem Inv.quiet{kb:List (Addr × Obj)}{σ:St}{H:Hp}{s:Shared}(I:Inv X kb σ H s):interactive X.env=false:=by simp [interactive,I.ok.kind]
def Cj(te:TE):TS:=fun D σ H=>te σ H fun _ H1=>D.nx σ H1
theorem aU(he:PE X e te)(hs:swapsWith e none pos.line X.env=pure false:=by rfl):PS X (.Expr e pos) (Cj te):=by
 intro kb s σ H D I h
 exact wpAny_Expr_any (thn (he kb s σ H _ I h) fun v s1 ⟨x,H1,I1,r1,q1⟩=>⟨σ,H1,I1,q1⟩) I.quiet hs
def DL(te:TE):TS:=fun D σ H=>te σ H D.rt
theorem ao(he:PE X e te):PS X (.Return (some e) pos) (DL te):=by
 intro kb s σ H D I h
 exact wpAny_Return_some (thn (he kb s σ H _ I h) fun v s1 ⟨x,H1,I1,r1,q1⟩=>⟨x,σ,H1,I1,r1,q1⟩)
def DJ(c:TT)(t u:TS):TS:=fun D σ H=>c σ H fun b H1=>if b=true then t D σ H1 else u D σ H1
theorem aF{c:Expr}{a b:List Stmt}{tc:TT}(hc:PT X c tc)(ha:PSs X a t)(hb:PSs X b u):PS X (.If c a b pos) (DJ tc t u):=by
 intro kb s σ H D I h
 refine wpAny_If (thn (hc kb s σ H _ I h) fun d s1 ⟨H1,I1,q1⟩=>?_)
 cases d with
 |true=>exact ha kb s1 σ H1 D I1 q1
 |false=>exact hb kb s1 σ H1 D I1 q1
end
abbrev TG:=V->St->Hp->(St->Hp->Prop)->Prop
abbrev TGs:=List V->St->Hp->(St->Hp->Prop)->Prop
def PG(X:Cx)(target:Expr)(t:TG):Prop :=
 ∀(kb:List (Addr × Obj)) (s:Shared) (σ:St) (H:Hp) (v:V) (u:Value) (Q:St->Hp->Prop),Inv X kb σ H s->dR v u->t v σ H Q ->
  wpAny (model X.prog X.w) X.A (assign target X.env u) (fun _ s'=>∃σ' H',Inv X kb σ' H' s'/\Q σ' H') X.xe s
def PGs(X:Cx)(ts:List Expr)(t:TGs):Prop :=
 ∀(kb:List (Addr × Obj)) (s:Shared) (σ:St) (H:Hp) (vs:List V) (us:List Value) (Q:St->Hp->Prop),Inv X kb σ H s->cy vs us->t vs σ H Q ->
  wpAny (model X.prog X.w) X.A (assignInOrder ((assignEach ts X.env).map (·.2)) us) (fun _ s'=>∃σ' H',Inv X kb σ' H' s'/\Q σ' H') X.xe s
section
variable{X:Cx}{pos:Pos}
def nS(i:Nat):TG:=fun v σ H Q=>Q (σ.set i (some v)) H
theorem cU{i:Nat}{x:Str}(hN:X.N.Nodup)(hi:X.N[i]?=some x)(hx:Loc X.env.scope x)(hf:X.fn x=true\/X.env.scope.names.lookup x=some .local:=by first|exact .inl rfl|exact .inr rfl|assumption):PG X (.Name x pos) (nS i):=by
 intro kb s σ H v u Q I r h
 exact wpAny_assign_Name (lF I hN hi hx r (fun s' I'=>⟨_,H,I',h⟩) hf)
inductive Dm:TGs|mk{vs σ H Q}(_:vs=[])(_:Q σ H):Dm vs σ H Q
inductive Wc(t:TG)(u:TGs)(vs:List V)(σ:St)(H:Hp)(Q:St->Hp->Prop):Prop|mk(v:V)(r:List V)(h:vs=v::r)(q:t v σ H fun σ' H'=>u r σ' H' Q)
def AI(t:TG)(u:TGs):TGs:=fun vs σ H Q=>Wc t u vs σ H Q
theorem vN:PGs X [] Dm:=by
 intro kb s σ H vs us Q I r h
 obtain⟨e,h⟩:=h
 subst e
 cases r
 exact assignInOrder_nil ⟨σ,H,I,h⟩
theorem jr{e:Expr}{es:List Expr}{t:TG}{u:TGs}(h1:PG X e t)(h2:PGs X es u)
  (hs:(assignEach (e::es) X.env).map (·.2)=assign e X.env::(assignEach es X.env).map (·.2):=by rfl):PGs X (e::es) (AI t u):=by
 intro kb s σ H vs us Q I r h
 obtain⟨v,vr,e1,h⟩:=h
 subst e1
 cases r with
 |cons r rr =>
  rw [hs]
  refine assignInOrder_cons (thn (h1 kb s σ H _ _ _ I r h) fun _ s1 ⟨σ1,H1,I1,q1⟩=>?_)
  exact h2 kb s1 σ1 H1 _ _ Q I1 rr q1
inductive Do(K:W.Frag)(n:Nat)(t:TGs):TG|mk{v σ H Q}(a xs:_)(_:v=.ref a)(_:SqT K H a xs)(_:xs.length=n)(_:t xs σ H Q):Do K n t v σ H Q
theorem y9{es:List Expr}{k:Nat}{t:TGs}{n:Nat}(hc:X.calm=true)(h:PGs X es t)
  (hn:(assignEach es X.env).length=n:=by rfl) (hst:(assignEach es X.env).findIdx? (·.1)=none:=by rfl):PG X (.Tuple es k pos) (Do X.K n t):=by
 intro kb s σ H v u Q I r hw
 obtain⟨a,xs,e1,hq,hl,hw⟩:=hw
 subst e1
 cases r
 obtain⟨its,rv,ht,hz⟩:=I.tuple hq
 refine assign_Tuple_tuple (I.ok.hd hc) ht (by simp [hn,<-hl,rv.length]) hst fun h' hx=>?_
 have I1:Inv X kb σ H { s with heap:=h' }:=I.kept (t':=s.toks) fun b o e=>hx b o (Nat.ne_of_lt (Heap.lt_size e)) e
 exact h kb _ σ H xs _ Q I1 (by simpa using rv) hw
def Cn(te:TE)(g:TG):TS:=fun D σ H=>te σ H fun x H1=>g x σ H1 D.nx
theorem oa{i:Nat}{x:Str}{e:Expr}{te:TE}{pos':Pos}(hN:X.N.Nodup)(hi:X.N[i]?=some x)(hx:Loc X.env.scope x)(he:PE X e te)(hs:swapsWith e (some (.Name x pos')) pos.line X.env=pure false:=by rfl)(hf:X.fn x=true\/X.env.scope.names.lookup x=some .local:=by first|exact .inl rfl|exact .inr rfl|assumption) :
  PS X (.Assign [.Name x pos'] e pos) (Cn te (nS i)):=by
 intro kb s σ H D I h
 refine wpAny_Assign_Name (thn (he kb s σ H _ I h) fun v s1 ⟨y,H1,I1,r1,q1⟩=>?_) hs
 exact lF I1 hN hi hx r1 (fun s2 I2=>⟨_,H1,I2,q1⟩) hf
def za(c:TT)(tb:TS):TS:=fun D σ H=>∃W:Nat->St->Hp->Prop,(∃m,W m σ H)/\∀m σ H,W m σ H ->
 c σ H fun b H1=>if b=true then ∃N:St->Hp->Prop,(∀σ' H',N σ' H'->∃m',m' < m/\W m' σ' H')/\tb { D with nx:=N,ct:=N,bk:=D.nx } σ H1 else D.nx σ H1
theorem xg{c:Expr}{body:List Stmt}{tc:TT}{tb:TS}(hp:PassesOwn (model X.prog X.w) X.A X.env X.xe)(hc:PT X c tc)(hb:PSs X body tb):PS X (.While c body [] pos) (za tc tb):=by
 intro kb s σ H D I h
 obtain⟨W,⟨m0,w0⟩,turn⟩:=h
 refine wpAny_While (codeAny_whileLoop (fun n s'=>∃σ' H',Inv X kb σ' H' s'/\W n σ' H') ?_ m0 ⟨σ,H,I,w0⟩)
 rintro n s1 ⟨σ1,H1,I1,w1⟩
 refine wpAny_passesOwn hp (thn (hc kb s1 σ1 H1 _ I1 (turn n σ1 H1 w1)) fun b s2 ⟨H2,I2,q2⟩=>?_)
 cases b with
 |true =>
  obtain⟨N,hN,q2⟩:=q2
  rw [if_pos rfl]
  refine wpAny_passesOwn hp (thn (hb kb s2 σ1 H2 _ I2 q2) fun f s3 q3=>?_)
  cases f with
  |next =>
   obtain⟨σ3,H3,I3,n3⟩:=q3
   obtain⟨m',hm,w3⟩:=hN σ3 H3 n3
   exact⟨m',hm,σ3,H3,I3,w3⟩
  |cont =>
   obtain⟨σ3,H3,I3,n3⟩:=q3
   obtain⟨m',hm,w3⟩:=hN σ3 H3 n3
   exact⟨m',hm,σ3,H3,I3,w3⟩
  |brk=>exact q3
  |ret v=>exact q3
 |false =>
  rw [if_neg Bool.false_ne_true]
  exact wpAny_execs_nil ⟨σ1,H2,I2,q2⟩
end
structure It where
 go:Nat->Hp->Prop
 yld:Nat->Hp->V->Hp->Prop
 stop:Nat->Hp->Prop
def qK(X:Cx)(kb:List (Addr × Obj))(H:Hp)(b:Addr):Prop :=
 H b=none/\b≠X.env.locals/\b∉X.fs/\(b∈X.ex\/X.s₀.heap.objs.size<=b)/\(∀x c,X.env.cells.lookup x=some c->c≠b)/\∀p∈X.pn++kb,p.1≠b
theorem Inv.fpOk{X:Cx}{kb:List (Addr × Obj)}{σ:St}{H H':Hp}{s:Shared}{b:Addr}(I:Inv X kb σ H s)(hb:s.heap.objs.size<=b)(hn:H' b=none):qK X kb H' b:=by
 refine⟨hn,Nat.ne_of_gt (Nat.lt_of_lt_of_le I.lt hb),I.nofs hb,.inr (Nat.le_trans I.sz hb),fun x c e z=>?_,fun p hp z=>?_⟩
 ·obtain⟨v,q⟩:=I.cell x c e
  exact absurd (Nat.lt_of_lt_of_le q.lt (by rw [z];exact hb)) (Nat.lt_irrefl _)
 ·exact absurd (Nat.lt_of_lt_of_le (Heap.lt_size (I.pin p hp).1) (by rw [z];exact hb)) (Nat.lt_irrefl _)
structure zK(P:Program)(w:World)(K:W.Frag)(tg:Expr)(J:It)(fp:List Addr)(it:Addr)(tn:Nat->Heap->Prop):Prop where
 mem:it∈fp
 obj:∀i h,tn i h->∀b∈fp,∃o,h.get? b=some o/\∀v,o.data≠.cell v
 keep:∀i h h',tn i h->(∀b∈fp,∀o,h.get? b=some o->h'.get? b=some o)->tn i h'
 item:∀(X:Cx),X.prog=P->X.w=w->X.K=K->X.calm=true->∀(i:Nat) (kb:List (Addr × Obj)) (s:Shared) (σ:St) (H:Hp) (E:Value->Shared->Prop),Inv X kb σ H s->(∀b∈fp,qK X kb H b)->tn i s.heap->J.go i H ->
  wpAny (model P w) X.A (pyNext (.ref it)) (fun r s1=>∃u,r=some u /\
   wpAny (model P w) X.A (letOwnedTupleGo tg (.ref it) u) (fun _ s2=>∃x H',Inv X kb σ H' s2/\dR x u/\J.yld i H x H'/\tn (i+1) s2.heap/\∀b∈fp,H' b=none) E s1) E s
 done:∀(X:Cx),X.prog=P->X.w=w->X.K=K->X.calm=true->∀(i:Nat) (kb:List (Addr × Obj)) (s:Shared) (σ:St) (H:Hp) (E:Value->Shared->Prop),Inv X kb σ H s->(∀b∈fp,qK X kb H b)->tn i s.heap->J.stop i H ->
  wpAny (model P w) X.A (pyNext (.ref it)) (fun r s1=>r=none/\Inv X kb σ H s1) E s
 self:∀(A:Around) (i:Nat) (s:Shared) (Q:Value->Shared->Prop) (E:Value->Shared->Prop),tn i s.heap->Q (.ref it) s->wpAny (model P w) A (pyIter (.ref it)) Q E s
abbrev TI:=St->Hp->(It->Hp->Prop)->Prop
def PIE(X:Cx)(kb:List (Addr × Obj))(σ:St)(tg:Expr)(R:It->Hp->Prop)(itv:Value)(s2:Shared):Prop :=
 ∃(it:Addr) (fp:List Addr) (tn:Nat->Heap->Prop) (J:It) (H':Hp),itv=.ref it/\Inv X kb σ H' s2/\zK X.prog X.w X.K tg J fp it tn/\tn 0 s2.heap/\(∀b∈fp,qK X kb H' b)/\R J H'
def PI(X:Cx)(tg iter:Expr)(wi:TI):Prop :=
 ∀(kb:List (Addr × Obj)) (s:Shared) (σ:St) (H:Hp) (R:It->Hp->Prop),Inv X kb σ H s->wi σ H R ->
  wpAny (model X.prog X.w) X.A (eval iter X.env) (fun v s1=>wpAny (model X.prog X.w) X.A (pyIter v) (PIE X kb σ tg R) X.xe s1) X.xe s
theorem wJ{M:Model}{A:Around}{E:Value->Shared->Prop}{s:Shared}{tg:Expr}{it:Addr}{u:Value}{o:Obj}{n:String}{vs:Array Value}{Q:Unit->Shared->Prop}(ho:s.heap.get? it=some o)(hc:o.cls=.type n)(hd:o.data=.fields vs)
    (hn:["enumerate","zip","dict_itemiterator","dict_reverseitemiterator","odict_iterator","itertools.zip_longest","itertools.pairwise"].contains n=false) (hQ:Q () s):wpAny M A (letOwnedTupleGo tg (.ref it) u) Q E s:=by
  unfold letOwnedTupleGo
  cases tg<;>first
    | exact wpAny_pure hQ
    | (cases u<;>first
        | exact wpAny_pure hQ
        | (refine wpAny_bind (wpAny_load ho ?_)
           rw [hc,hd]
           show wpAny M A (if (["enumerate","zip","dict_itemiterator","dict_reverseitemiterator","odict_iterator","itertools.zip_longest","itertools.pairwise"].contains n&&vs[0]?==some (rawInt _))=true then _ else _) Q E s
           rw [if_neg (by intro h;rw [hn,Bool.false_and] at h;cases h)]
           exact wpAny_pure hQ))
def Itl(K:W.Frag)(a:Addr):It :=
 ⟨fun i H=>∃xs x,SqL K H a xs/\xs[i]?=some x,fun i H x H'=>H'=H/\∀xs,SqL K H a xs->xs[i]?=some x,fun i H=>∃xs,SqL K H a xs/\xs.length<=i⟩
def Itt(K:W.Frag)(a:Addr):It :=
 ⟨fun i H=>∃xs x,SqT K H a xs/\xs[i]?=some x,fun i H x H'=>H'=H/\∀xs,SqT K H a xs->xs[i]?=some x,fun i H=>∃xs,SqT K H a xs/\xs.length<=i⟩
def Itr(lo:Int)(n:Nat):It:=⟨fun i _=>i < n,fun i H x H'=>H'=H/\x=.int (lo+i),fun i _=>n<=i⟩
theorem nU{P:Program}{w:World}{K:W.Frag}{tg:Expr}(a it:Addr):zK P w K tg (Itl K a) [it] it (fun i h=>h.IsListIter it a i) where
 mem:=by simp
 obj:=fun i h st b hb=>by
  have e:b=it:=by simpa using hb
  subst e
  obtain⟨o,e,c,d⟩:=st
  exact⟨o,e,fun v z=>by rw [d] at z;cases z⟩
 keep:=fun i h h' st k=>st.at fun o e=>k it (by simp) o e
 item:=by
  intro X hP hw hK hc i kb s σ H E I hf st hg
  subst hP hw hK
  obtain⟨xs,x,hq,hx⟩:=hg
  obtain⟨its,rv,p,hz⟩:=I.list hq
  obtain⟨u,hu,ru⟩:=rv.get hx
  obtain⟨f0,f1,f2,f3,f4,f5⟩:=hf it (by simp)
  refine wpAny_pyNext_list_item st p.isList (x:=u) (by simpa using hu) fun h' st' sb=>?_
  have I1:Inv X kb σ H { s with heap:=h' }:=I.turned (t':=s.toks) (fun b o hb e=>(sb.2 b hb).trans e) f0 f1 f3 f4 f5
  obtain⟨o,e,c,d⟩:=id st'
  exact⟨u,rfl,wJ (s:={ s with heap:=h' }) e c d (by decide) ⟨x,H,I1,ru,⟨rfl,fun ys hy=>by rw [I.list_inj hy hq];exact hx⟩,st',fun b hb=>(hf b hb).1⟩⟩
 done:=by
  intro X hP hw hK hc i kb s σ H E I hf st hg
  subst hP hw hK
  obtain⟨xs,hq,hx⟩:=hg
  obtain⟨its,rv,p,hz⟩:=I.list hq
  obtain⟨f0,f1,f2,f3,f4,f5⟩:=hf it (by simp)
  have hl:=rv.length
  exact wpAny_pyNext_list_end (I.ok.hd hc) st p.isList (by simp;omega) fun h' eb=>⟨rfl,I.turned (t':=s.toks) (fun b o hb e=>eb b o hb e) f0 f1 f3 f4 f5⟩
 self:=fun _ _ _ _ _ st h=>wpAny_pyIter_listiter st h
theorem kt{P:Program}{w:World}{K:W.Frag}{tg:Expr}(a it:Addr):zK P w K tg (Itt K a) [it] it (fun i h=>h.IsTupleIter it a i) where
 mem:=by simp
 obj:=fun i h st b hb=>by
  have e:b=it:=by simpa using hb
  subst e
  obtain⟨o,e,c,d⟩:=st
  exact⟨o,e,fun v z=>by rw [d] at z;cases z⟩
 keep:=fun i h h' st k=>st.at fun o e=>k it (by simp) o e
 item:=by
  intro X hP hw hK hc i kb s σ H E I hf st hg
  subst hP hw hK
  obtain⟨xs,x,hq,hx⟩:=hg
  obtain⟨its,rv,p,hz⟩:=I.tuple hq
  obtain⟨u,hu,ru⟩:=rv.get hx
  obtain⟨f0,f1,f2,f3,f4,f5⟩:=hf it (by simp)
  refine wpAny_pyNext_tuple_item st (show s.heap.IsTuple a its.toArray from p) (x:=u) (by simpa using hu) fun h' st' sb=>?_
  have I1:Inv X kb σ H { s with heap:=h' }:=I.turned (t':=s.toks) (fun b o hb e=>(sb.2 b hb).trans e) f0 f1 f3 f4 f5
  obtain⟨o,e,c,d⟩:=id st'
  exact⟨u,rfl,wJ (s:={ s with heap:=h' }) e c d (by decide) ⟨x,H,I1,ru,⟨rfl,fun ys hy=>by rw [I.tuple_inj hy hq];exact hx⟩,st',fun b hb=>(hf b hb).1⟩⟩
 done:=by
  intro X hP hw hK hc i kb s σ H E I hf st hg
  subst hP hw hK
  obtain⟨xs,hq,hx⟩:=hg
  obtain⟨its,rv,p,hz⟩:=I.tuple hq
  obtain⟨f0,f1,f2,f3,f4,f5⟩:=hf it (by simp)
  have hl:=rv.length
  exact wpAny_pyNext_tuple_end (I.ok.hd hc) st (show s.heap.IsTuple a its.toArray from p) (by simp;omega) fun h' eb=>⟨rfl,I.turned (t':=s.toks) (fun b o hb e=>eb b o hb e) f0 f1 f3 f4 f5⟩
 self:=fun _ _ _ _ _ st h=>wpAny_pyIter_tupleiter st h
theorem rX{P:Program}{w:World}{K:PySem.W.Frag}{tg:Expr}(it:Addr)(lo:Int)(n:Nat):zK P w K tg (Itr lo n) [it] it (fun i h=>IsRangeIter h it (lo+(i:Nat)*1) ((n:Int) - (i:Nat)) 1) where
 mem:=by simp
 obj:=fun i h st b hb=>by
  have e:b=it:=by simpa using hb
  subst e
  exact⟨_,st,fun v z=>by
   have z':Data.fields _=Data.cell v:=z
   cases z'⟩
 keep:=fun i h h' st k=>k it (by simp) _ st
 item:=by
  intro X hP hw hK hc i kb s σ H E I hf st hg
  subst hP hw hK
  obtain⟨f0,f1,f2,f3,f4,f5⟩:=hf it (by simp)
  have W:=Walks.range (prog:=X.prog) (w:=X.w) (I.ok.hd hc) it lo 1 n
  refine W.item i s _ _ hg st fun v h' tk hv st' kk=>?_
  obtain⟨t,rfl⟩:=hv
  have I1:Inv X kb σ H { s with heap:=h',toks:=tk }:=I.turned (fun b o hb e=>kk b o (by simpa using hb) e) f0 f1 f3 f4 f5
  refine⟨_,rfl,wJ (s:={ s with heap:=h',toks:=tk }) (n:="range_iterator") st' rfl rfl (by decide) ⟨.int (lo+i),H,I1,⟨t,?_⟩,⟨rfl,rfl⟩,st',fun b hb=>(hf b hb).1⟩⟩
  rw [Int.mul_one]
 done:=by
  intro X hP hw hK hc i kb s σ H E I hf st hg
  subst hP hw hK
  obtain⟨f0,f1,f2,f3,f4,f5⟩:=hf it (by simp)
  exact wpAny_pyNext_range_end (I.ok.hd hc) st (by have:n<=i:=hg;omega) fun h' eb=>⟨rfl,I.turned (t':=s.toks) (fun b o hb e=>eb b o hb e) f0 f1 f3 f4 f5⟩
 self:=fun _ _ _ _ _ st h=>wpAny_pyIter_rangeiter st h
section
variable{X:Cx}{tg:Expr}
def Cd(K:W.Frag)(tl:TE):TI:=fun σ H R=>tl σ H fun x H1=>∃a,x=.ref a/\(∃xs,SqL K H1 a xs)/\R (Itl K a) H1
def DI(K:W.Frag)(tl:TE):TI:=fun σ H R=>tl σ H fun x H1=>∃a,x=.ref a/\(∃xs,SqT K H1 a xs)/\R (Itt K a) H1
theorem eV{l:Expr}{tl:TE}(hl:PE X l tl):PI X tg l (Cd X.K tl):=by
 intro kb s σ H R I h
 refine thn (hl kb s σ H _ I h) fun v s1 ⟨x,H1,I1,r1,q1⟩=>?_
 obtain⟨a,e,⟨xs,hq⟩,q⟩:=q1
 subst e
 cases r1
 obtain⟨its,rv,p,hz⟩:=I1.list hq
 refine wpAny_pyIter_list p.isList ?_
 refine⟨s1.heap.objs.size,[s1.heap.objs.size],_,_,H1,rfl,I1.kept (t':=s1.toks) fun b o e=>Heap.get?_push_of_some _ e,nU a _,⟨_,Heap.get?_push_size _ rfl,rfl,rfl⟩,fun b hb=>?_,q⟩
 have e:b=s1.heap.objs.size:=by simpa using hb
 subst e
 exact I1.fpOk (Nat.le_refl _) (I1.hok.fresh (Nat.le_refl _))
theorem cV{l:Expr}{tl:TE}(hl:PE X l tl):PI X tg l (DI X.K tl):=by
 intro kb s σ H R I h
 refine thn (hl kb s σ H _ I h) fun v s1 ⟨x,H1,I1,r1,q1⟩=>?_
 obtain⟨a,e,⟨xs,hq⟩,q⟩:=q1
 subst e
 cases r1
 obtain⟨its,rv,p,hz⟩:=I1.tuple hq
 refine wpAny_pyIter_tuple (show s1.heap.IsTuple a its.toArray from p) ?_
 refine⟨s1.heap.objs.size,[s1.heap.objs.size],_,_,H1,rfl,I1.kept (t':=s1.toks) fun b o e=>Heap.get?_push_of_some _ e,kt a _,⟨_,Heap.get?_push_size _ rfl,rfl,rfl⟩,fun b hb=>?_,q⟩
 have e:b=s1.heap.objs.size:=by simpa using hb
 subst e
 exact I1.fpOk (Nat.le_refl _) (I1.hok.fresh (Nat.le_refl _))
theorem wS{kb:List (Addr × Obj)}{σ:St}{H:Hp}{s:Shared}{R:It->Hp->Prop}{E:Value->Shared->Prop}{lo hi:Int}{t u v:Tok}{tk:Nat}(I:Inv X kb σ H s)(h1:-(2 ^ 62)<=lo)(h2:lo < 2 ^ 62)(h3:-(2 ^ 62)<=hi)(h4:hi < 2 ^ 62)
  (q:R (Itr lo (hi - lo).toNat) H):wpAny (model X.prog X.w) X.A (pyIter (.ref s.heap.objs.size)) (PIE X kb σ tg R) E { s with heap:=s.heap.push { cls:=.type "range",data:=.fields #[.int lo t,.int hi u,.int 1 v] },toks:=tk }:=by
 refine wpAny_pyIter_range (IsRange.new ..) (small_one h1 h2 h3 h4) ?_
 have I1:Inv X kb σ H { s with heap:=s.heap.push { cls:=.type "range",data:=.fields #[.int lo t,.int hi u,.int 1 v] },toks:=tk }:=I.kept fun b o e=>Heap.get?_push_of_some _ e
 refine⟨(s.heap.push { cls:=.type "range",data:=.fields #[.int lo t,.int hi u,.int 1 v] }).objs.size,[(s.heap.push { cls:=.type "range",data:=.fields #[.int lo t,.int hi u,.int 1 v] }).objs.size],_,_,H,rfl,
  I1.kept (t':=tk) fun b o e=>Heap.get?_push_of_some _ e,rX _ lo (hi - lo).toNat,?_,fun b hb=>?_,q⟩
 ·have e1:lo+((0:Nat):Int)*1=lo:=by simp
  have e2:(((hi - lo).toNat:Nat):Int) - ((0:Nat):Int)=Builtin.Range.rangeSize lo hi 1:=by rw [rangeSize_one];split<;>omega
  show IsRangeIter _ _ (lo+((0:Nat):Int)*1) ((((hi - lo).toNat:Nat):Int) - ((0:Nat):Int)) 1
  rw [e1,e2]
  exact Heap.get?_push_size _ rfl
 ·have e:b=(s.heap.push { cls:=.type "range",data:=.fields #[.int lo t,.int hi u,.int 1 v] }).objs.size:=by simpa using hb
  subst e
  exact I1.fpOk (Nat.le_refl _) (I1.hok.fresh (Nat.le_refl _))
def C6(ta:TA):TI:=fun σ H R=>ta σ H fun vs H1=>∃j:Int,vs=[.int j]/\-(2 ^ 62)<=j/\j < 2 ^ 62/\R (Itr 0 j.toNat) H1
theorem dN{a:Expr}{ta:TA}{p pos:Pos} (hg:Gl X "range") (hm:X.mg "range"=none) (ha:PA X [a] ta) (hs:starEach [a] X.env=[(false,eval a X.env)]:=by rfl):PI X tg (.Call (.Name "range" p) [a] [] pos) (C6 ta):=by
 intro kb s σ H R I h
 refine Call_ (kn I hg hm boot_range (PyProof.Rows.callWith_type1 (thn (ha pos kb s σ H _ I h) fun us s1 ⟨vs,H1,I1,r1,q1⟩=>?_) hs rfl))
 obtain⟨j,e,q1,q2,q⟩:=q1
 subst e
 cases r1 with
 |cons r rr =>
  cases rr
  obtain⟨t,rfl⟩:=r
  exact call_range_1 (wS I1 (by omega) (by omega) q1 q2 (by simpa using q))
def DT(wi:TI)(g:TG)(tb:TS):TS:=fun D σ H=>wi σ H fun J H1=>∃W:Nat->Nat->St->Hp->Prop,(∃m,W 0 m σ H1)/\∀i m σ H,W i m σ H ->
 (J.stop i H/\D.nx σ H)\/(J.go i H/\∃N:St->Hp->Prop,(∀σ' H',N σ' H'->∃m',m' < m/\W (i+1) m' σ' H')/\∀x H',J.yld i H x H'->g x σ H' fun σ2 H2=>tb { D with nx:=N,ct:=N,bk:=D.nx } σ2 H2)
def kw(fp:List Addr)(h:Heap):List (Addr × Obj):=fp.filterMap fun b=>(h.get? b).map fun o=>(b,o)
theorem gs{fp:List Addr}{h:Heap}{b:Addr}{o:Obj}(hb:b∈fp)(e:h.get? b=some o):(b,o)∈kw fp h:=List.mem_filterMap.mpr ⟨b,hb,by rw [e];rfl⟩
theorem ur{fp:List Addr}{h:Heap}{p:Addr × Obj}(hp:p∈kw fp h):p.1∈fp/\h.get? p.1=some p.2:=by
 obtain⟨b,hb,e⟩:=List.mem_filterMap.mp hp
 cases q:h.get? b with
 |none=>rw [q] at e;cases e
 |some o =>
  rw [q] at e
  have e':(b,o)=p:=Option.some.inj e
  subst e'
  exact⟨hb,q⟩
theorem Inv.pinned{kb:List (Addr × Obj)}{σ:St}{H:Hp}{s:Shared}{fp:List Addr}(I:Inv X kb σ H s)(hf:∀b∈fp,qK X kb H b)(ho:∀b∈fp,∃o,s.heap.get? b=some o/\∀v,o.data≠.cell v):Inv X (kb++kw fp s.heap) σ H s :=
 I.pins_of fun p hp=>(List.mem_append.mp hp).elim (fun z=>I.pin p (List.mem_append_right _ z)) fun z=>by
  obtain⟨hb,e⟩:=ur z
  obtain⟨f0,f1,f2,_⟩:=hf p.1 hb
  obtain⟨o,e',d⟩:=ho p.1 hb
  rw [e] at e';cases e'
  exact⟨e,f0,f1,f2,d⟩
theorem Inv.unpinned{kb pl:List (Addr × Obj)}{σ:St}{H:Hp}{s:Shared}(I:Inv X (kb++pl) σ H s):Inv X kb σ H s:=I.pins_of fun p hp=>I.pin p (List.mem_append_right _ (List.mem_append_left _ hp))
theorem fg{iter:Expr}{body:List Stmt}{wi:TI}{g:TG}{tb:TS}{pos:Pos}(hp:PassesOwn (model X.prog X.w) X.A X.env X.xe)(hc:X.calm=true)(hi:PI X tg iter wi)(hg:PG X tg g)(hb:PSs X body tb)
  (hs:∀x,foldedSetIterable iter X.env x=pure x:=by intro _;rfl):PS X (.For tg iter body [] pos) (DT wi g tb):=by
 intro kb s σ H D I h
 refine wpAny_For (thn (hi kb s σ H _ I h) fun v s1 h1=>thn h1 fun itv s2 h2=>?_) hs
 obtain⟨it,fp,tn,J,H2,e,I2,T,st2,f2,W,⟨m0,w0⟩,turn⟩:=h2
 subst e
 have stat:∀{H':Hp},(∀b∈fp,H' b=none)->∀b∈fp,qK X kb H' b:=fun hn b hb=>⟨hn b hb,(f2 b hb).2⟩
 refine codeAny_forLoop_any (fun n s'=>∃i σ' H',Inv X kb σ' H' s'/\tn i s'.heap/\(∀b∈fp,H' b=none)/\W i n σ' H') ?_ m0 ⟨0,σ,H2,I2,st2,fun b hb=>(f2 b hb).1,w0⟩
 rintro n s3 ⟨i,σ3,H3,I3,st3,fr3,w3⟩
 rcases turn i n σ3 H3 w3 with ⟨stop,qn⟩|⟨go,N,hN,step⟩
 ·refine wpAny_passesOwn hp (thn (T.done X rfl rfl rfl hc i kb s3 σ3 H3 X.xe I3 (stat fr3) st3 stop) fun r s4 ⟨hr,I4⟩=>?_)
  subst hr
  exact wpAny_execs_nil ⟨σ3,H3,I4,qn⟩
 ·refine wpAny_passesOwn hp (thn (T.item X rfl rfl rfl hc i kb s3 σ3 H3 X.xe I3 (stat fr3) st3 go) fun r s4 ⟨u,hr,h4⟩=>?_)
  subst hr
  refine wpAny_passesOwn hp (thn h4 fun _ s5 ⟨x,H5,I5,r5,y5,st5,fr5⟩=>?_)
  have I5':=I5.pinned (stat fr5) (T.obj _ _ st5)
  refine wpAny_passesOwn hp (thn (hg _ s5 σ3 H5 x u _ I5' r5 (step x H5 y5)) fun _ s6 ⟨σ6,H6,I6,q6⟩=>?_)
  refine wpAny_passesOwn hp (thn (hb _ s6 σ6 H6 _ I6 q6) fun f s7 q7=>?_)
  have again:∀{σ7:St} {H7:Hp},Inv X (kb++kw fp s5.heap) σ7 H7 s7->N σ7 H7->∃m,m < n/\∃i σ' H',Inv X kb σ' H' s7/\tn i s7.heap/\(∀b∈fp,H' b=none)/\W i m σ' H':=fun {σ7 H7} I7 n7=>by
   obtain⟨m',hm,w7⟩:=hN σ7 H7 n7
   refine⟨m',hm,i+1,σ7,H7,I7.unpinned,T.keep _ _ _ st5 fun b hb o e=>(I7.pin (b,o) (List.mem_append_right _ (List.mem_append_right _ (gs hb e)))).1,fun b hb=>?_,w7⟩
   obtain⟨o,e,d⟩:=T.obj _ _ st5 b hb
   exact(I7.pin (b,o) (List.mem_append_right _ (List.mem_append_right _ (gs hb e)))).2.1
  cases f with
  |next=>obtain⟨σ7,H7,I7,n7⟩:=q7;exact again I7 n7
  |cont=>obtain⟨σ7,H7,I7,n7⟩:=q7;exact again I7 n7
  |brk=>obtain⟨σ7,H7,I7,q7⟩:=q7;exact⟨σ7,H7,I7.unpinned,q7⟩
  |ret v=>obtain⟨x7,σ7,H7,I7,r7,q7⟩:=q7;exact⟨x7,σ7,H7,I7.unpinned,r7,q7⟩
end
theorem mQ{K:PySem.W.Frag}{a:Addr}{xs:List V}{g:TG}{tb:TS}{D:ja}{σ:St}{H:Hp}(Pv:Nat->St->Hp->Prop)(h0:Pv 0 σ H)(hl:∀i σ H,i<=xs.length->Pv i σ H->SqL K H a xs)
  (hs:∀i x σ H,xs[i]?=some x->Pv i σ H->g x σ H fun σ2 H2=>tb { D with nx:=Pv (i+1),ct:=Pv (i+1),bk:=D.nx } σ2 H2) (hd:∀σ H,Pv xs.length σ H->D.nx σ H) :
  ∃W:Nat->Nat->St->Hp->Prop,(∃m,W 0 m σ H)/\∀i m σ H,W i m σ H ->
   ((Itl K a).stop i H/\D.nx σ H)\/((Itl K a).go i H/\∃N:St->Hp->Prop,(∀σ' H',N σ' H'->∃m',m' < m/\W (i+1) m' σ' H')/\∀x H',(Itl K a).yld i H x H'->g x σ H' fun σ2 H2=>tb { D with nx:=N,ct:=N,bk:=D.nx } σ2 H2):=by
 refine⟨fun i m σ H=>m=xs.length - i/\i<=xs.length/\Pv i σ H,⟨xs.length,by simp,Nat.zero_le _,h0⟩,?_⟩
 rintro i m σ H ⟨rfl,hi,p⟩
 have q:=hl i σ H hi p
 by_cases hlt:i < xs.length
 ·refine .inr ⟨⟨xs,xs[i],q,by simp [hlt]⟩,Pv (i+1),fun σ' H' p'=>⟨xs.length - (i+1),by omega,rfl,hlt,p'⟩,fun x H' y=>?_⟩
  obtain⟨e,y⟩:=y
  subst e
  exact hs i x σ _ (y xs q) p
 ·have e:i=xs.length:=by omega
  subst e
  exact .inl ⟨⟨xs,q,Nat.le_refl _⟩,hd σ H p⟩
theorem o7{K:PySem.W.Frag}{a:Addr}{xs:List V}{g:TG}{tb:TS}{D:ja}{σ:St}{H:Hp}(Pv:Nat->St->Hp->Prop)(h0:Pv 0 σ H)(hl:∀i σ H,i<=xs.length->Pv i σ H->SqT K H a xs)
  (hs:∀i x σ H,xs[i]?=some x->Pv i σ H->g x σ H fun σ2 H2=>tb { D with nx:=Pv (i+1),ct:=Pv (i+1),bk:=D.nx } σ2 H2) (hd:∀σ H,Pv xs.length σ H->D.nx σ H) :
  ∃W:Nat->Nat->St->Hp->Prop,(∃m,W 0 m σ H)/\∀i m σ H,W i m σ H ->
   ((Itt K a).stop i H/\D.nx σ H)\/((Itt K a).go i H/\∃N:St->Hp->Prop,(∀σ' H',N σ' H'->∃m',m' < m/\W (i+1) m' σ' H')/\∀x H',(Itt K a).yld i H x H'->g x σ H' fun σ2 H2=>tb { D with nx:=N,ct:=N,bk:=D.nx } σ2 H2):=by
 refine⟨fun i m σ H=>m=xs.length - i/\i<=xs.length/\Pv i σ H,⟨xs.length,by simp,Nat.zero_le _,h0⟩,?_⟩
 rintro i m σ H ⟨rfl,hi,p⟩
 have q:=hl i σ H hi p
 by_cases hlt:i < xs.length
 ·refine .inr ⟨⟨xs,xs[i],q,by simp [hlt]⟩,Pv (i+1),fun σ' H' p'=>⟨xs.length - (i+1),by omega,rfl,hlt,p'⟩,fun x H' y=>?_⟩
  obtain⟨e,y⟩:=y
  subst e
  exact hs i x σ _ (y xs q) p
 ·have e:i=xs.length:=by omega
  subst e
  exact .inl ⟨⟨xs,q,Nat.le_refl _⟩,hd σ H p⟩
theorem gX{lo:Int}{n:Nat}{g:TG}{tb:TS}{D:ja}{σ:St}{H:Hp}(Pv:Nat->St->Hp->Prop)(h0:Pv 0 σ H)
  (hs:∀i σ H,i < n->Pv i σ H->g (.int (lo+i)) σ H fun σ2 H2=>tb { D with nx:=Pv (i+1),ct:=Pv (i+1),bk:=D.nx } σ2 H2) (hd:∀σ H,Pv n σ H->D.nx σ H) :
  ∃W:Nat->Nat->St->Hp->Prop,(∃m,W 0 m σ H)/\∀i m σ H,W i m σ H ->
   ((Itr lo n).stop i H/\D.nx σ H)\/((Itr lo n).go i H/\∃N:St->Hp->Prop,(∀σ' H',N σ' H'->∃m',m' < m/\W (i+1) m' σ' H')/\∀x H',(Itr lo n).yld i H x H'->g x σ H' fun σ2 H2=>tb { D with nx:=N,ct:=N,bk:=D.nx } σ2 H2):=by
 refine⟨fun i m σ H=>m=n - i/\i<=n/\Pv i σ H,⟨n,by simp,Nat.zero_le _,h0⟩,?_⟩
 rintro i m σ H ⟨rfl,hi,p⟩
 by_cases hlt:i < n
 ·refine .inr ⟨hlt,Pv (i+1),fun σ' H' p'=>⟨n - (i+1),by omega,rfl,hlt,p'⟩,fun x H' y=>?_⟩
  obtain⟨e,y⟩:=y
  subst e y
  exact hs i σ _ hlt p
 ·have e:i=n:=by omega
  subst e
  exact .inl ⟨Nat.le_refl _,hd σ H p⟩
abbrev R2:=V->V->Hp->VK->Prop
def OpR(X:Cx)(f:Value->Value->Sem Value)(r:R2):Prop :=
 ∀(kb:List (Addr × Obj)) (s:Shared) (σ:St) (H:Hp) (x y:V) (v u:Value) (Q:VK),Inv X kb σ H s->dR x v->dR y u->r x y H Q ->
  wpAny (model X.prog X.w) X.A (f v u) (EP X kb σ Q) X.xe s
def UnR(X:Cx)(f:Value->Sem Value)(r:V->Hp->VK->Prop):Prop :=
 ∀(kb:List (Addr × Obj)) (s:Shared) (σ:St) (H:Hp) (x:V) (v:Value) (Q:VK),Inv X kb σ H s->dR x v->r x H Q ->
  wpAny (model X.prog X.w) X.A (f v) (EP X kb σ Q) X.xe s
def jJ(X:Cx)(f:Value)(r:List V->Hp->VK->Prop):Prop :=
 ∀(kb:List (Addr × Obj)) (s:Shared) (σ:St) (H:Hp) (xs:List V) (us:List Value) (Q:VK),Inv X kb σ H s->cy xs us->r xs H Q ->
  wpAny (model X.prog X.w) X.A (call f us) (EP X kb σ Q) X.xe s
def tOp(r:R2)(ta tb:TE):TE:=fun σ H Q=>ta σ H fun x H1=>tb σ H1 fun y H2=>r x y H2 Q
def tUn(r:V->Hp->VK->Prop)(ta:TE):TE:=fun σ H Q=>ta σ H fun x H1=>r x H1 Q
inductive Wd(C:Int->Int->Prop)(g:Int->Int->V)(x y:V)(H:Hp)(Q:VK):Prop|mk(i j:Int)(a:x=.int i)(b:y=.int j)(c:C i j)(q:Q (g i j) H)
def rI(C:Int->Int->Prop)(g:Int->Int->V):R2:=fun x y H Q=>Wd C g x y H Q
inductive We(g:Int->Int->V)(x y:V)(H:Hp)(Q:VK):Prop|mk(i j:Int)(a:x=.int i)(b:y=.int j)(q:Q (g i j) H)
def rI0(g:Int->Int->V):R2:=fun x y H Q=>We g x y H Q
inductive rU(g:Int->V):V->Hp->VK->Prop|mk{x H Q}(i:_)(_:x=.int i)(_:Q (g i) H):rU g x H Q
section
variable{X:Cx}{a b c:Expr}{ta tb tc:TE}{pos:Pos}
theorem Dh(ha:PE X a ta)(hb:PE X b tb){kb:List (Addr × Obj)}{s:Shared}{σ:St}{H:Hp}{R:V->V->Hp->Prop}(I:Inv X kb σ H s)
  (h:ta σ H fun x H1=>tb σ H1 fun y H2=>R x y H2) {Q:Value->Shared->Prop} {f:Value->Value->Sem Value}
  (hf:∀v u s2 x y H2,Inv X kb σ H2 s2->dR x v->dR y u->R x y H2->wpAny (model X.prog X.w) X.A (f v u) Q X.xe s2) :
  wpAny (model X.prog X.w) X.A (eval a X.env) (fun v s₁=>wpAny (model X.prog X.w) X.A (eval b X.env) (fun u s₂=>wpAny (model X.prog X.w) X.A (f v u) Q X.xe s₂) X.xe s₁) X.xe s:=by
 refine thn (ha kb s σ H _ I h) fun v s1 ⟨x,H1,I1,r1,q1⟩=>?_
 refine thn (hb kb s1 σ H1 _ I1 q1) fun u s2 ⟨y,H2,I2,r2,q2⟩=>?_
 exact hf v u s2 x y H2 I2 r1 r2 q2
theorem aB{op:Operator}{r:R2}(ho:OpR X (binaryOp op) r)(ha:PE X a ta)(hb:PE X b tb):PE X (.BinOp a op b pos) (tOp r ta tb):=by
 intro kb s σ H Q I h
 exact wpAny_BinOp (Dh ha hb I h fun v u s2 x y H2 I2 rx ry q=>ho kb s2 σ H2 x y v u Q I2 rx ry q)
theorem yp{op:UnaryOp}{r:V->Hp->VK->Prop}(ho:UnR X (unaryOp op) r)(ha:PE X a ta):PE X (.UnaryOp op a pos) (tUn r ta):=by
 intro kb s σ H Q I h
 exact UnaryOp_ (thn (ha kb s σ H _ I h) fun v s1 ⟨x,H1,I1,r1,q1⟩=>ho kb s1 σ H1 x v Q I1 r1 q1)
theorem opI{f:Value->Value->Sem Value}{C:Int->Int->Prop}{g:Int->Int->Int}
  (rule:∀(i j:Int) (t u:Tok) (s:Shared) (Q:Value->Shared->Prop) (E:Value->Shared->Prop),C i j->Q (.int (g i j) s.toks) { s with toks:=s.toks+1 }->wpAny (model X.prog X.w) X.A (f (.int i t) (.int j u)) Q E s) :
  OpR X f (rI C fun i j=>.int (g i j)):=by
 intro kb s σ H x y v u Q I rx ry h
 obtain⟨i,j,rfl,rfl,hc,q⟩:=h
 obtain⟨t,rfl⟩:=rx
 obtain⟨t',rfl⟩:=ry
 exact rule i j t t' s _ _ hc ⟨.int (g i j),H,I.tok _,⟨_,rfl⟩,q⟩
theorem DA{f:Value->Value->Sem Value}{g:Int->Int->Int}
  (rule:∀(i j:Int) (t u:Tok) (s:Shared) (Q:Value->Shared->Prop) (E:Value->Shared->Prop),Q (.int (g i j) s.toks) { s with toks:=s.toks+1 }->wpAny (model X.prog X.w) X.A (f (.int i t) (.int j u)) Q E s) :
  OpR X f (rI0 fun i j=>.int (g i j)):=by
 intro kb s σ H x y v u Q I rx ry h
 obtain⟨i,j,rfl,rfl,q⟩:=h
 obtain⟨t,rfl⟩:=rx
 obtain⟨t',rfl⟩:=ry
 exact rule i j t t' s _ _ ⟨.int (g i j),H,I.tok _,⟨_,rfl⟩,q⟩
theorem Ch{f:Value->Value->Sem Value}{g:Int->Int->Bool}
  (rule:∀(i j:Int) (t u:Tok) (s:Shared) (Q:Value->Shared->Prop) (E:Value->Shared->Prop),Q (.bool (g i j)) s->wpAny (model X.prog X.w) X.A (f (.int i t) (.int j u)) Q E s) :
  OpR X f (rI0 fun i j=>.bl (g i j)):=by
 intro kb s σ H x y v u Q I rx ry h
 obtain⟨i,j,rfl,rfl,q⟩:=h
 obtain⟨t,rfl⟩:=rx
 obtain⟨t',rfl⟩:=ry
 exact rule i j t t' s _ _ ⟨.bl (g i j),H,I,rfl,q⟩
def DN(i j:Int):Prop:=0 < j/\j < 1073741824
def DX(i j:Int):Prop:=0<=j/\j<=1000000/\i.natAbs < 2 ^ 64
def CL(i j:Int):Prop:=(-(2 ^ 64) < i/\i < 2 ^ 64)\/(-(2 ^ 64) < j/\j < 2 ^ 64)
theorem CL.ok{i j:Int}(h:CL i j):IntMulOk i j:=by
 rcases h with ⟨h1,h2⟩|⟨h1,h2⟩
 ·exact .of_left (intBits_le_64 h1 h2)
 ·exact .of_right (intBits_le_64 h1 h2)
theorem ca:OpR X (binaryOp .Add) (rI0 fun i j=>.int (i+j)):=DA fun _ _ _ _ _ _ _ q=>add_int q
theorem rq:OpR X (binaryOp .Sub) (rI0 fun i j=>.int (i - j)):=DA fun _ _ _ _ _ _ _ q=>sub_int q
theorem gQ:OpR X (binaryOp .Mult) (rI CL fun i j=>.int (i*j)):=opI fun _ _ _ _ _ _ _ hc q=>mul_int q hc.ok
theorem bj:OpR X (binaryOp .FloorDiv) (rI DN fun i j=>.int (i / j)):=opI fun i j _ _ _ _ _ hc q=>by
 have h1:(0:Int) < j:=hc.1
 have h2:j < 1073741824:=hc.2
 exact floordiv_int (by omega) (by rw [Int.fdiv_eq_ediv_of_nonneg i (by omega)];exact q) (.inl (PyProof.noPylong_small (by omega)))
theorem cg:OpR X (binaryOp .Mod) (rI (fun _ j=>0 < j) fun i j=>.int (i%j)):=opI fun i j _ _ _ _ _ hc q=>by
 have h1:(0:Int) < j:=hc
 exact mod_int' (by omega) (by rw [Int.fmod_eq_emod_of_nonneg i (by omega)];exact q)
theorem tH:OpR X (binaryOp .Pow) (rI DX fun i j=>.int (i ^ j.toNat)):=opI fun _ _ _ _ _ _ _ hc q=>pow_int_small hc.1 hc.2.1 hc.2.2 q
theorem unI{f:Value->Sem Value}{g:Int->Int}
  (rule:∀(i:Int) (t:Tok) (s:Shared) (Q:Value->Shared->Prop) (E:Value->Shared->Prop),Q (.int (g i) s.toks) { s with toks:=s.toks+1 }->wpAny (model X.prog X.w) X.A (f (.int i t)) Q E s) :
  UnR X f (rU fun i=>.int (g i)):=by
 intro kb s σ H x v Q I rx h
 obtain⟨i,rfl,q⟩:=h
 obtain⟨t,rfl⟩:=rx
 exact rule i t s _ _ ⟨.int (g i),H,I.tok _,⟨_,rfl⟩,q⟩
theorem ro:UnR X (unaryOp .USub) (rU fun i=>.int (-i)):=unI fun _ _ _ _ _ q=>neg_int q
def Dt:V->V->Bool
 |.non,.non=>true|.non,.int _=>true|.int _,.non=>true|.non,.bl _=>true|.bl _,.non=>true|.non,.str _=>true|.str _,.non=>true
 |.int _,.int _=>true|.bl _,.bl _=>true|.str _,.str _=>true|.byt _,.byt _=>true
 |.int _,.str _=>true|.str _,.int _=>true|.bl _,.str _=>true|.str _,.bl _=>true
 |_,_=>false
inductive rEq:R2|mk{x y H Q}(_:Dt x y=true)(_:Q (.bl (decide (x=y))) H):rEq x y H Q
inductive rNe:R2|mk{x y H Q}(_:Dt x y=true)(_:Q (.bl (!decide (x=y))) H):rNe x y H Q
theorem vo{i j:Int}:decide (V.int i=V.int j)=(i==j):=by
 rw [Bool.eq_iff_iff]
 simp
theorem yD{i j:Bool}:decide (V.bl i=V.bl j)=(i==j):=by
 rw [Bool.eq_iff_iff]
 simp
theorem vw{i j:Str}:decide (V.str i=V.str j)=(i==j):=by
 rw [Bool.eq_iff_iff]
 simp
theorem wb{i j:Array UInt8}:decide (V.byt i=V.byt j)=(i.toList==j.toList):=by
 rw [Bool.eq_iff_iff]
 cases i
 cases j
 simp
theorem bp{kb:List (Addr × Obj)}{σ:St}{H:Hp}{s:Shared}{Q:VK}{k k':Bool}(I:Inv X kb σ H s)(q:Q (.bl k) H)(e:k=k'):EP X kb σ Q (.bool k') s:=by
 subst e
 exact⟨.bl k,H,I,rfl,q⟩
theorem aZ:OpR X (compareOp .Eq) rEq:=by
 intro kb s σ H x y v u Q I rx ry h
 obtain⟨hs,q⟩:=h
 cases x with
 |non =>
  cases rx
  cases y with
  |non=>cases ry;exact PySem.EqNone.eq_none_none (bp I q (by simp))
  |bl j=>cases ry;exact PySem.EqNone.eq_none_bool (bp I q (by simp))
  |int j=>obtain⟨t',rfl⟩:=ry;exact PySem.EqNone.eq_none_int (bp I q (by simp))
  |str j=>obtain⟨t',rfl⟩:=ry;exact PySem.EqNone.eq_none_str (bp I q (by simp))
  |_=>exact absurd (show false=true from hs) Bool.false_ne_true
 |bl i =>
  cases rx
  cases y with
  |non=>cases ry;exact PySem.EqNone.eq_bool_none (bp I q (by simp))
  |bl j=>cases ry;exact eq_bool (bp I q yD)
  |str j=>obtain⟨t',rfl⟩:=ry;exact PySem.EqMixed.eq_bool_str (bp I q (by simp))
  |_=>exact absurd (show false=true from hs) Bool.false_ne_true
 |int i =>
  obtain⟨t,rfl⟩:=rx
  cases y with
  |non=>cases ry;exact PySem.EqNone.eq_int_none (bp I q (by simp))
  |int j=>obtain⟨t',rfl⟩:=ry;exact eq_int (bp I q vo)
  |str j=>obtain⟨t',rfl⟩:=ry;exact PySem.EqMixed.eq_int_str (bp I q (by simp))
  |_=>exact absurd (show false=true from hs) Bool.false_ne_true
 |str i =>
  obtain⟨t,rfl⟩:=rx
  cases y with
  |non=>cases ry;exact PySem.EqNone.eq_str_none (bp I q (by simp))
  |bl j=>cases ry;exact PySem.EqMixed.eq_str_bool (bp I q (by simp))
  |int j=>obtain⟨t',rfl⟩:=ry;exact PySem.EqMixed.eq_str_int (bp I q (by simp))
  |str j=>obtain⟨t',rfl⟩:=ry;exact eq_str (bp I q vw)
  |_=>exact absurd (show false=true from hs) Bool.false_ne_true
 |byt i =>
  obtain⟨t,rfl⟩:=rx
  cases y with
  |byt j=>obtain⟨t',rfl⟩:=ry;exact W.eq_bytes (bp I q wb)
  |_=>exact absurd (show false=true from hs) Bool.false_ne_true
 |_=>cases y<;>exact absurd (show false=true from hs) Bool.false_ne_true
theorem lL:OpR X (compareOp .NotEq) rNe:=by
 intro kb s σ H x y v u Q I rx ry h
 obtain⟨hs,q⟩:=h
 cases x with
 |non =>
  cases rx
  cases y with
  |non=>cases ry;exact PySem.EqNone.ne_none_none (bp I q (by simp))
  |bl j=>cases ry;exact PySem.EqNone.ne_none_bool (bp I q (by simp))
  |int j=>obtain⟨t',rfl⟩:=ry;exact PySem.EqNone.ne_none_int (bp I q (by simp))
  |str j=>obtain⟨t',rfl⟩:=ry;exact PySem.EqNone.ne_none_str (bp I q (by simp))
  |_=>exact absurd (show false=true from hs) Bool.false_ne_true
 |bl i =>
  cases rx
  cases y with
  |non=>cases ry;exact PySem.EqNone.ne_bool_none (bp I q (by simp))
  |bl j=>cases ry;exact ne_bool (bp I q (congrArg not yD))
  |str j=>obtain⟨t',rfl⟩:=ry;exact PySem.EqMixed.ne_bool_str (bp I q (by simp))
  |_=>exact absurd (show false=true from hs) Bool.false_ne_true
 |int i =>
  obtain⟨t,rfl⟩:=rx
  cases y with
  |non=>cases ry;exact PySem.EqNone.ne_int_none (bp I q (by simp))
  |int j=>obtain⟨t',rfl⟩:=ry;exact ne_int (bp I q (congrArg not vo))
  |str j=>obtain⟨t',rfl⟩:=ry;exact PySem.EqMixed.ne_int_str (bp I q (by simp))
  |_=>exact absurd (show false=true from hs) Bool.false_ne_true
 |str i =>
  obtain⟨t,rfl⟩:=rx
  cases y with
  |non=>cases ry;exact PySem.EqNone.ne_str_none (bp I q (by simp))
  |bl j=>cases ry;exact PySem.EqMixed.ne_str_bool (bp I q (by simp))
  |int j=>obtain⟨t',rfl⟩:=ry;exact PySem.EqMixed.ne_str_int (bp I q (by simp))
  |str j=>obtain⟨t',rfl⟩:=ry;exact ne_str (bp I q (congrArg not vw))
  |_=>exact absurd (show false=true from hs) Bool.false_ne_true
 |byt i =>
  obtain⟨t,rfl⟩:=rx
  cases y with
  |byt j=>obtain⟨t',rfl⟩:=ry;exact W.ne_bytes (bp I q (congrArg not wb))
  |_=>exact absurd (show false=true from hs) Bool.false_ne_true
 |_=>cases y<;>exact absurd (show false=true from hs) Bool.false_ne_true
theorem ij:OpR X (compareOp .Lt) (rI0 fun i j=>.bl (decide (i < j))):=Ch fun _ _ _ _ _ _ _ q=>lt_int q
theorem my:OpR X (compareOp .LtE) (rI0 fun i j=>.bl (decide (i<=j))):=Ch fun _ _ _ _ _ _ _ q=>le_int q
theorem gi:OpR X (compareOp .Gt) (rI0 fun i j=>.bl (decide (j < i))):=Ch fun _ _ _ _ _ _ _ q=>gt_int q
theorem jz:OpR X (compareOp .In) (fun x y H Q=>∃i j,x=.str i/\y=.str j/\Q (.bl (!(Builtin.Str.occurrences j i 0 j.length 1).isEmpty)) H):=by
 intro kb s σ H x y v u Q I rx ry h
 obtain⟨i,j,rfl,rfl,q⟩:=h
 obtain⟨t,rfl⟩:=rx
 obtain⟨t',rfl⟩:=ry
 exact in_str (bp I q rfl)
theorem Bt:OpR X (compareOp .Is) (fun x y H Q=>y=.non/\Q (.bl (decide (x=.non))) H):=by
 intro kb s σ H x y v u Q I rx ry h
 obtain⟨rfl,q⟩:=h
 cases ry
 refine is_none_gen (bp I q ?_)
 cases x<;>first
  |(cases rx;rfl)
  |(obtain⟨t,rfl⟩:=rx;rfl)
theorem vf:OpR X (compareOp .IsNot) (fun x y H Q=>y=.non/\Q (.bl (!decide (x=.non))) H):=by
 intro kb s σ H x y v u Q I rx ry h
 obtain⟨rfl,q⟩:=h
 cases ry
 refine isnot_none_gen (bp I q ?_)
 cases x<;>first
  |(cases rx;rfl)
  |(obtain⟨t,rfl⟩:=rx;rfl)
theorem dJ:OpR X (compareOp .NotIn) (fun x y H Q=>∃i j,x=.str i/\y=.str j/\Q (.bl (!(!(Builtin.Str.occurrences j i 0 j.length 1).isEmpty))) H):=by
 intro kb s σ H x y v u Q I rx ry h
 obtain⟨i,j,rfl,rfl,q⟩:=h
 obtain⟨t,rfl⟩:=rx
 obtain⟨t',rfl⟩:=ry
 exact notIn_str (bp I q rfl)
theorem av(b:Expr){op:CmpOp}(h:op≠.In:=by decide)(h2:op≠.NotIn:=by decide):behindInMarks op b=false:=by
 have e1:(op==CmpOp.In)=false:=by cases op<;>first|rfl|exact absurd rfl h
 have e2:(op==CmpOp.NotIn)=false:=by cases op<;>first|rfl|exact absurd rfl h2
 cases b<;>simp [behindInMarks,e1,e2]
theorem cv{op:CmpOp}{r:R2}(ho:OpR X (compareOp op) r)(ha:PE X a ta)(hb:PE X b tb)(hm:behindInMarks op b=false):PE X (.Compare a [op] [b] pos) (tOp r ta tb):=by
 intro kb s σ H Q I h
 exact wpAny_Compare1 (Dh ha hb I h fun v u s2 x y H2 I2 rx ry q=>ho kb s2 σ H2 x y v u Q I2 rx ry q) hm
def BS(t:TE):TT:=fun σ H Q=>t σ H fun x H'=>Wb x H' Q
theorem am{op:CmpOp}{r:R2}(ho:OpR X (compareOp op) r)(ha:PE X a ta)(hb:PE X b tb)(hm:behindInMarks op b=false):PT X (.Compare a [op] [b] pos) (BS (tOp r ta tb)):=by
 intro kb s σ H Q I h
 refine wpAny_isTrue_Compare1 (thn (ha kb s σ H _ I h) fun v s1 ⟨x,H1,I1,r1,q1⟩=>thn (hb kb s1 σ H1 _ I1 q1) fun u s2 ⟨y,H2,I2,r2,q2⟩ =>
  thn (ho kb s2 σ H2 x y v u _ I2 r1 r2 q2) fun c s3 ⟨z,H3,I3,r3,k,e,q3⟩=>?_) hm
 subst e
 cases r3
 exact wpAny_truthy_bool ⟨H3,I3,q3⟩
def yM(r r':R2)(ta tb tc:TE):TE:=fun σ H Q=>ta σ H fun x H1=>tb σ H1 fun y H2=>r x y H2 fun z H3=>∃k,z=.bl k /\
 (if k=true then tc σ H3 fun w' H4=>r' y w' H4 Q else Q (.bl false) H3)
theorem mY{op op':CmpOp}{r r':R2}(ho:OpR X (compareOp op) r)(ho':OpR X (compareOp op') r')(ha:PE X a ta)(hb:PE X b tb)(hc:PE X c tc)
  (hm:lastMarks [op,op'] [b,c]=false:=by with_unfolding_all rfl):PE X (.Compare a [op,op'] [b,c] pos) (yM r r' ta tb tc):=by
 intro kb s σ H Q I h
 refine Compare_chain (thn (ha kb s σ H _ I h) fun v s1 ⟨x,H1,I1,r1,q1⟩=>chain_link (thn (hb kb s1 σ H1 _ I1 q1) fun u s2 ⟨y,H2,I2,r2,q2⟩ =>
  thn (ho kb s2 σ H2 x y v u _ I2 r1 r2 q2) fun d s3 ⟨z,H3,I3,r3,k,e,q3⟩=>?_)) hm
 subst e
 cases r3
 refine wpAny_truthy_bool ?_
 cases k with
 |false=>exact ite_ff ⟨.bl false,H3,I3,rfl,q3⟩
 |true=>exact ite_tt (chain_last (thn (hc kb s3 σ H3 _ I3 q3) fun w' s4 ⟨z',H4,I4,r4,q4⟩=>ho' kb s4 σ H4 y z' u w' Q I4 r2 r4 q4))
theorem qL{op op':CmpOp}{r r':R2}(ho:OpR X (compareOp op) r)(ho':OpR X (compareOp op') r')(ha:PE X a ta)(hb:PE X b tb)(hc:PE X c tc)
  (hm:lastMarks [op,op'] [b,c]=false:=by with_unfolding_all rfl):PT X (.Compare a [op,op'] [b,c] pos) (BS (yM r r' ta tb tc)):=by
 intro kb s σ H Q I h
 refine isTrue_chain (thn (ha kb s σ H _ I h) fun v s1 ⟨x,H1,I1,r1,q1⟩=>test_link (thn (hb kb s1 σ H1 _ I1 q1) fun u s2 ⟨y,H2,I2,r2,q2⟩ =>
  thn (ho kb s2 σ H2 x y v u _ I2 r1 r2 q2) fun d s3 ⟨z,H3,I3,r3,k,e,q3⟩=>?_)) hm
 subst e
 cases r3
 refine wpAny_truthy_bool ?_
 cases k with
 |false =>
  obtain⟨k',e',q'⟩:=q3
  cases e'
  exact ite_ff ⟨H3,I3,q'⟩
 |true =>
  refine ite_tt (test_last (thn (hc kb s3 σ H3 _ I3 q3) fun w' s4 ⟨z',H4,I4,r4,q4⟩=>thn (ho' kb s4 σ H4 y z' u w' _ I4 r2 r4 q4) fun d' s5 ⟨z2,H5,I5,r5,k2,e2,q5⟩=>?_))
  subst e2
  cases r5
  exact wpAny_truthy_bool ⟨H5,I5,q5⟩
theorem oB:(sizeLine:Nat) < 2 ^ 63:=by rw [sizeLine_eq];decide
theorem bu:OpR X (binaryOp .Add) (fun x y H Q=>∃i j,x=.str i/\y=.str j/\i.length+j.length<=sizeLine/\Q (.str (i++j)) H):=by
 intro kb s σ H x y v u Q I rx ry h
 obtain⟨i,j,rfl,rfl,hz,q⟩:=h
 obtain⟨t,rfl⟩:=rx
 obtain⟨t',rfl⟩:=ry
 exact add_str (fun t' tk=>⟨.str (i++j),H,I.tok _,⟨_,rfl⟩,q⟩) hz
theorem jd{x:V}{us:List Value}(r:cy [x] us):∃u,us=[u]/\dR x u:=by
 cases r with
 |cons r1 r2=>cases r2;exact⟨_,rfl,r1⟩
theorem tY:jJ X (.type "int") (fun xs H Q=>(∃i,xs=[.int i]/\Q (.int i) H)\/∃k,xs=[.bl k]/\Q (.int (if k then 1 else 0)) H):=by
 intro kb s σ H xs us Q I r h
 rcases h with ⟨i,rfl,q⟩|⟨k,rfl,q⟩
 ·obtain⟨u,rfl,t,rfl⟩:=jd r
  exact call_int_int ⟨.int i,H,I,⟨_,rfl⟩,q⟩
 ·obtain⟨u,rfl,r1⟩:=jd r
  cases r1
  exact call_int_bool ⟨.int (if k then 1 else 0),H,I.tok _,⟨_,rfl⟩,q⟩
theorem di:jJ X (.type "str") (fun xs H Q=>∃i,xs=[.int i]/\i.natAbs.log2 < 1920/\Q (.str (toString i)) H):=by
 intro kb s σ H xs us Q I r h
 obtain⟨i,rfl,hz,q⟩:=h
 obtain⟨u,rfl,t,rfl⟩:=jd r
 exact PySem.P.str_of_int hz ⟨.str _,H,I.tok _,⟨_,rfl⟩,q⟩
end
structure Cm(h:Heap)(x dx C:Addr)(mA:Str->Option Value):Prop where
 obj:h.get? x=some (W.instObj C dx)
 ns:h.Ns1 dx mA
 ne:dx≠x
theorem vB{h:Heap}{dx:Addr}{mA:Str->Option Value}(n:h.Ns1 dx mA):∃od,h.get? dx=some od/\∀name,W.lookIn name od=some (mA name):=by
 obtain⟨o,es,ep,ho,hd,hk,_,hm⟩:=n
 refine⟨o,ho,fun name=>?_⟩
 have e:=hm name
 unfold nsFind findBy at e
 rw [<-Array.find?_toList] at e
 unfold W.lookIn
 rw [hd]
 dsimp only
 split
 ·rename_i y q
  rw [q] at e
  exact congrArg some e
 ·rename_i q
  rw [q] at e
  have a:es.toList.any (·.refKey)=false:=by
   rw [List.any_eq_false]
   intro y hy
   obtain⟨z,t,hkey⟩:=hk y (Array.mem_toList_iff.mp hy)
   simp [DictEntry.refKey,hkey]
  have a':¬es.toList.any (·.refKey)=true:=by rw [a];exact Bool.false_ne_true
  rw [if_neg a']
  exact congrArg some e
theorem Cm.look{h:Heap}{x dx C:Addr}{mA:Str->Option Value}(I:Cm h x dx C mA):∃od,W.InstAt h x (W.instObj C dx) C (some od)/\∀name,W.lookIn name od=some (mA name) :=
 let ⟨od,ho,hl⟩:=vB I.ns
 ⟨od,⟨I.obj,rfl,rfl,ho⟩,hl⟩
section
variable{prog:Program}{w:World}{A:Around}{E:Value->Shared->Prop}{s:Shared}{K:W.Frag}{x dx C f:Addr}{mA:Str->Option Value}{name:Str}{v:Value}
end
theorem xL.some_of{v:V}{o:Option Value}(r:xL (some v) o):∃u,o=some u/\dR v u:=by
 cases o with
 |none=>exact(show False from r).elim
 |some u=>exact⟨u,rfl,r⟩
section
variable{P:Program}{w:World}{H H':Hp}{h h':Heap}{a C dx:Addr}{fs fs':List (Str × V)}
theorem zU(hok:HOk P w H h)(e:H a=some (.ins C dx fs)):∃mA,Cm h a dx C mA/\(∀f,xL (fs.lookup f) (mA f))/\PySem.Within mA (fs.map (·.1))/\fs.length<=1000/\H dx=some (.own a):=by
 obtain⟨d,z,ne,ob,mA,n,r,q⟩:=(show eI P w H h a (.ins C dx fs) from hok a _ e)
 exact⟨mA,⟨ob,n,ne⟩,r,q,z,d⟩
end
structure Cls(K:W.Frag)(C:Addr):Prop where
 pg:W.plainGet K C Str.empty=true
 hd:W.hasDictIn K C=true
 po:W.plainOver K C=true
 sa:W.findIn K (.ref C) "__setattr__"=some (some (.builtin "object.__setattr__"))
theorem Cls.get{K:W.Frag}{C:Addr}(c:Cls K C)(f:Str):W.plainGet K C f=true:=c.pg
structure Con(K:W.Frag)(C:Addr)(f:Str)(v:V)(u:Value):Prop where
 at_:W.findIn K (.ref C) f=some (some u)
 rel:dR v u
 get:W.specialIn K u "__get__"=some none
 cp:W.copiedNames.contains f=false
structure D9(K:W.Frag)(C:Addr)(m:Str)(f:Addr):Prop where
 at_:W.findIn K (.ref C) m=some (some (.ref f))
 fn:W.isFn K (.ref f)=true
 kp:W.keepIn K (.ref f)=true
section
variable{X:Cx}{kb:List (Addr × Obj)}{σ:St}{H:Hp}{s:Shared}{a C dx:Addr}{fs:List (Str × V)}{f:Str}{v:V}{A:Around}{E:Value->Shared->Prop}
end
section
variable{X:Cx}{o e value:Expr}{f:Str}{pos pos' tpos:Pos}{ta tv:TE}
end
section
variable{X:Cx}{kb:List (Addr × Obj)}{σ:St}{H:Hp}{s:Shared}{A:Around}{E:Value->Shared->Prop}{Q:Value->Shared->Prop}{c:Value}{b:Bool}
inductive se (K:W.Frag) (H:Hp):V->Value->Prop where
 |non:se K H .non (.type "NoneType")
 |bl (x:Bool):se K H (.bl x) (.type "bool")
 |int (i:Int):se K H (.int i) (.type "int")
 |str (x:Str):se K H (.str x) (.type "str")
 |flt (x:UInt64):se K H (.flt x) (.type "float")
 |lst {a:Addr} {xs:List V} (e:H a=some (.lst xs)):se K H (.ref a) (.type "list")
 |frz {a:Addr} {o:Obj} {xs:List V} (e:H a=some (.frz o (.lst xs))):se K H (.ref a) (.type "list")
 |tup {a:Addr} {xs:List V} (e:H a=some (.tup xs)):se K H (.ref a) (.type "tuple")
 |dK {a:Addr} {kvs:List (Key × V)} (e:H a=some (.dK kvs)):se K H (.ref a) (.type "dict")
 |dT {a:Addr} {kvs:List (List Key × V)} (e:H a=some (.dT kvs)):se K H (.ref a) (.type "dict")
 |ins {a C dx:Addr} {fs:List (Str × V)} (e:H a=some (.ins C dx fs)) (cl:Cls K C) (ha:W.findIn K (.ref C) "__class__"=some (some (.builtin "object.__class__")))
   (hn:W.specialIn K (.builtin "object.__class__") "__get__"=some (some (.builtin "getset_descriptor.__get__"))) (htk:W.takesIn K (.builtin "object.__class__")=some true)
   (hm:W.mroIn K C (.type "object")=some true):se K H (.ref a) (.ref C)
theorem wG{x:V}{u t:Value}(I:Inv X kb σ H s)(rx:dR x u)(ty:se X.K H x t)(e:W.kitOne X.K t c=some b)(h:∀tk,Q (.bool b) { s with toks:=tk }) :
  wpAny (model X.prog X.w) A (call (.builtin "isinstance") [u,c]) Q E s:=by
 cases ty with
 |non=>cases (show u=Value.none from rx);exact W.kia_one W.kitx_none I.kIn True.intro e (fun z=>nomatch z) h
 |bl y=>cases (show u=Value.bool y from rx);exact W.kia_one W.kitx_bool I.kIn True.intro e (fun z=>nomatch z) h
 |int i=>obtain⟨t,q⟩:=(show ∃t,u=Value.int i t from rx);cases q;exact W.kia_one W.kitx_int I.kIn True.intro e (fun z=>nomatch z) h
 |str y=>obtain⟨t,q⟩:=(show ∃t,u=Value.str y t from rx);cases q;exact W.kia_one W.kitx_str I.kIn True.intro e (fun z=>nomatch z) h
 |flt y=>obtain⟨t,q⟩:=(show ∃t,u=Value.float y t from rx);cases q;exact W.kia_one W.kitx_float I.kIn True.intro e (fun z=>nomatch z) h
 |@lst a xs ea =>
  cases (show u=Value.ref a from rx)
  obtain⟨_,_,n,_,h1⟩:=(show eI X.prog X.w H s.heap a (.lst xs) from I.hok a _ ea)
  exact W.kia_one W.kitx_list I.kIn ⟨_,h1,rfl⟩ e (fun z=>nomatch z) h
 |@frz a ob xs ea =>
  cases (show u=Value.ref a from rx)
  obtain⟨_,_,_,n,_,h1⟩:=(show eI X.prog X.w H s.heap a (.frz ob (.lst xs)) from I.hok a _ ea)
  exact W.kia_one W.kitx_list I.kIn ⟨_,h1,rfl⟩ e (fun z=>nomatch z) h
 |@tup a xs ea =>
  cases (show u=Value.ref a from rx)
  obtain⟨_,_,_,p⟩:=(show eI X.prog X.w H s.heap a (.tup xs) from I.hok a _ ea)
  obtain⟨o,h1,h2,_⟩:=p
  exact W.kia_one W.kitx_tuple I.kIn ⟨o,h1,h2⟩ e (fun z=>nomatch z) h
 |@dK a kvs ea =>
  cases (show u=Value.ref a from rx)
  obtain⟨_,_,vs,_,p⟩:=(show eI X.prog X.w H s.heap a (.dK kvs) from I.hok a _ ea)
  obtain⟨o,es,ep,h1,h2,_⟩:=p
  exact W.kia_one W.kitx_dict I.kIn ⟨o,h1,h2.1⟩ e (fun z=>nomatch z) h
 |@dT a kvs ea =>
  cases (show u=Value.ref a from rx)
  obtain⟨_,_,xs,_,o,es,ep,h1,h2,_⟩:=(show eI X.prog X.w H s.heap a (.dT kvs) from I.hok a _ ea)
  exact W.kia_one W.kitx_dict I.kIn ⟨o,h1,h2.1⟩ e (fun z=>nomatch z) h
 |@ins a C dx fs ea cl ha hn htk hm =>
  cases (show u=Value.ref a from rx)
  obtain⟨mA,O,_⟩:=zU I.hok ea
  obtain⟨od,J,_⟩:=O.look
  exact W.kia_one (W.kitx_own (cl.get _) cl.hd ha hn htk hm) I.kIn J e (fun z=>nomatch z) h
end
structure bq(k:Nat)(A:Around):Prop where
 hd:A.handled=none
 dp:A.depth+3*k+5 < recursionLimit
 un:A.units+16*k+200 < cLine
 gd:A.guards=some []
theorem bq.mono{j k:Nat}{A:Around}(r:bq k A)(h:j<=k):bq j A:=⟨r.hd,by have:=r.dp;omega,by have:=r.un;omega,r.gd⟩
theorem bq.deeper{k:Nat}{A:Around}(r:bq (k+1) A)(env:Env):bq k (A.deeper env) :=
 ⟨r.hd,by have:=r.dp;show A.depth+1+3*k+5 < _;omega,by have:=r.un;show A.units+3+16*k+200 < _;omega,r.gd⟩
theorem bq.depth{k:Nat}{A:Around}(r:bq k A):A.depth < recursionLimit:=by have:=r.dp;omega
theorem bq.units{k:Nat}{A:Around}(r:bq k A):A.units+64 < cLine:=by have:=r.un;omega
def DS:TA:=fun _ H Q=>Q [] H
def Cc(ta:TE)(tr:TA):TA:=fun σ H Q=>ta σ H fun x H1=>tr σ H1 fun xs H2=>Q (x::xs) H2
section
variable{X:Cx}{e:Expr}{es:List Expr}{te:TE}{t:TA}{pos:Pos}
theorem ac:PA X [] DS:=fun _ _ _ _ H Q I h=>Calls.spliced_nil ⟨[],H,I,.nil,h⟩
theorem aa(ha:PE X e te)(hr:PA X es t)(hs:starEach (e::es) X.env=(false,eval e X.env)::starEach es X.env:=by rfl):PA X (e::es) (Cc te t):=by
 intro pos kb s σ H Q I h
 rw [hs]
 show wpAny _ _ (spliced ((false,eval e X.env)::backTo pos (starEach es X.env))) _ _ s
 refine Calls.spliced_cons (thn (ha kb s σ H _ I h) fun u s1 ⟨x,H1,I1,r1,q1⟩=>?_)
 exact thn (hr pos kb s1 σ H1 _ I1 q1) fun us s2 ⟨xs,H2,I2,r2,q2⟩=>⟨x::xs,H2,I2,.cons r1 r2,q2⟩
structure Wf(o:List V->HO)(xs:List V)(H:Hp)(Q:VK):Prop where
 h:xs.length<=sizeLine
 q:∀p,H p=none->Q (.ref p) (upd H p (o xs))
def DK(t:TA):TE:=fun σ H Q=>t σ H fun xs H1=>Wf .tup xs H1 Q
def Ci(t:TA):TE:=fun σ H Q=>t σ H fun xs H1=>Wf .lst xs H1 Q
theorem aE{x1}(h:PA X es t):PE X (.Tuple es x1 pos) (DK t):=by
 intro kb s σ H Q I hq
 refine wpAny_Tuple_spliced (thn (h pos kb s σ H _ I hq) fun us s1 ⟨xs,H1,I1,r,z,q⟩=>⟨by rw [<-r.length];exact z,?_⟩)
 have hf:H1 s1.heap.objs.size=none:=I1.hok.fresh (Nat.le_refl _)
 refine⟨.ref s1.heap.objs.size,upd H1 s1.heap.objs.size (.tup xs),I1.laid (t':=s1.toks) (fun b u e=>Heap.get?_push_of_some _ e) (Nat.le_refl _) ?_,rfl,q _ hf⟩
 exact⟨z,us,r,⟨_,Heap.get?_push_size _ rfl,rfl,_,rfl⟩⟩
theorem cc(h:PA X es t):PE X (.List es pos) (Ci t):=by
 intro kb s σ H Q I hq
 refine wpAny_List_spliced (thn (h pos kb s σ H _ I hq) fun us s1 ⟨xs,H1,I1,r,z,q⟩=>⟨by rw [<-r.length];exact z,?_⟩)
 have hf:H1 s1.heap.objs.size=none:=I1.hok.fresh (Nat.le_refl _)
 refine⟨.ref s1.heap.objs.size,upd H1 s1.heap.objs.size (.lst xs),I1.laid (t':=s1.toks) (fun b u e=>Heap.get?_push_of_some _ e) (Nat.le_refl _) ?_,rfl,q _ hf⟩
 exact⟨z,us,0,r,Heap.get?_push_size _ rfl⟩
end
abbrev Sp:=List V->Hp->VK->XK->Prop
abbrev CXT:=List Env->Hp->Shared->XK->Value->Shared->Prop
structure B8(P:Program)(w:World)(K:W.Frag)(mg:Str->Option Value)(base:Heap)(A:Around)(q0:List Env)(s:Shared)(H:Hp):Prop where
 frames:A.frames=some q0
 mod:Mod K mg base
 bs:∀b o,base.get? b=some o->s.heap.get? b=some o/\H b=none
 bsz:base.objs.size<=s.heap.objs.size
 funs:s.heap.FunFrames base q0
 frf:∀b∈frs q0,H b=none
 hok:HOk P w H s.heap
 bare:AllBare s.gens
def CE(q0:List Env)(P:Program)(w:World)(H:Hp)(s:Shared)(Q:VK)(u:Value)(s':Shared):Prop :=
 ∃v H',s'.os=s.os/\AllBare s'.gens/\Un (frs q0) [] H H' s.heap s'.heap/\HOk P w H' s'.heap/\dR v u/\Q v H'
def CR(CX:CXT)(q0:List Env)(P:Program)(w:World)(H:Hp)(s:Shared)(Q:VK)(E:XK)(r:Result)(s':Shared):Prop :=
 match r with
 |.ok (.ret u)=>CE q0 P w H s Q u s'
 |.ok _=>False
 |.error e=>CX q0 H s E e s'
structure aV(P:Program)(w:World)(K:W.Frag)(mg:Str->Option Value)(base:Heap)(CX:CXT)(k:Nat)(f:Addr)(fd:FuncData)(ps:List Str)(sp:Sp):Prop where
 len:∀vs H Q E,sp vs H Q E->vs.length=ps.length
 run:∀(A:Around) (q0:List Env) (s:Shared) (H:Hp) (args:Args) (us:List Value) (vs:List V) (Q:VK) (E:XK),bq k A->B8 P w K mg base A q0 s H->BindsTo s fd args (ps.zip us)->cy vs us->sp vs H Q E ->
  codeAny (model P w) A (.call (.ref f) args) (CR CX q0 P w H s Q E) s
theorem aV.imp{P:Program}{w:World}{K:W.Frag}{mg:Str->Option Value}{base:Heap}{CX:CXT}{k:Nat}{f:Addr}{fd:FuncData}{ps:List Str}{sp sp':Sp}(F:aV P w K mg base CX k f fd ps sp)
  (h:∀vs H Q E,sp' vs H Q E->sp vs H Q E):aV P w K mg base CX k f fd ps sp' :=
 ⟨fun vs H Q E q=>F.len vs H Q E (h _ _ _ _ q),fun A q0 s H args us vs Q E hr he hb hv hs=>F.run A q0 s H args us vs Q E hr he hb hv (h _ _ _ _ hs)⟩
section
variable{X:Cx}{kb:List (Addr × Obj)}{σ:St}{H:Hp}{s s':Shared}
theorem Inv.env0(I:Inv X kb σ H s):B8 X.prog X.w X.K X.mg X.base X.A X.stack s H :=
 ⟨I.ok.frames,I.ok.mod,I.bs,Nat.le_trans I.ok.bsz I.sz,I.stack,I.stkFree,I.hok,I.bare⟩
theorem Inv.after{Q:VK}{u:Value}(I:Inv X kb σ H s)(h:CE X.stack X.prog X.w H s Q u s'):EP X kb σ Q u s':=by
 obtain⟨v,H',os,bare,un,hok,r,q⟩:=h
 obtain⟨hh,g,d,t,os'⟩:=s'
 obtain rfl:os'=s.os:=os
 exact⟨v,H',I.call (h':=hh) (g':=g) (d':=d) (t':=t) (ch:=[]) un hok bare (fun b z=>absurd z (by simp)),r,q⟩
end
def CA(sp:Sp)(dvs:List V)(E:XK)(t:TA):TE:=fun σ H Q=>t σ H fun vs H1=>sp (vs++dvs) H1 Q E
def aX(K:W.Frag)(fd:FuncData)(ps:List Str)(ds:List Value):Prop :=
 ∀(s:Shared) (us:List Value),K.In s.heap->(us++ds).length=ps.length->BindsTo s fd ⟨us,[]⟩ (ps.zip (us++ds))
theorem aX.all{K:W.Frag}{fd:FuncData}{ps:List Str}(h:∀us:List Value,us.length=ps.length->bindArgs fd ⟨us,[]⟩=pure (ps.zip us)):aX K fd ps []:=fun s us _ hl=>by
 rw [List.append_nil] at hl ⊢
 exact .of_eq (h us hl)
def jI(CX:CXT)(X:Cx)(E:XK):Prop:=∀(kb:List (Addr × Obj)) (σ:St) (H:Hp) (s:Shared) (e:Value) (s':Shared),Inv X kb σ H s->CX X.stack H s E e s'->X.xe e s'
section
variable{X:Cx}{CX:CXT}{k:Nat}{f C:Addr}{fd:FuncData}{ps:List Str}{sp:Sp}{dvs:List V}{ds:List Value}{E:XK}{x m:Str}{p pos apos:Pos}{e o:Expr}{es:List Expr}{ta:TE}{t:TA}
theorem BH{kb:List (Addr × Obj)}{σ:St}{H:Hp}{s:Shared}{Q:VK}{us:List Value}{vs:List V}(F:aV X.prog X.w X.K X.mg X.base CX k f fd ps sp)(hr:bq k X.A)(hb:aX X.K fd ps ds)(hd:cy dvs ds)(hx:jI CX X E)
  (I:Inv X kb σ H s) (r:cy vs us) (h:sp (vs++dvs) H Q E):wpAny (model X.prog X.w) X.A (call (.ref f) us) (EP X kb σ Q) X.xe s:=by
 have r2:cy (vs++dvs) (us++ds):=r.append hd
 have hl:(us++ds).length=ps.length:=by rw [<-r2.length];exact F.len _ _ _ _ h
 refine wpAny_call (codeAny_mono (F.run X.A X.stack s H ⟨us,[]⟩ (us++ds) (vs++dvs) Q E hr I.env0 (hb s us I.kIn hl) r2 h) fun r s' hq=>?_)
 cases r with
 |error e=>exact hx kb σ H s e s' I hq
 |ok fl =>
  cases fl with
  |ret u=>exact I.after hq
  |next=>exact False.elim hq
  |brk=>exact False.elim hq
  |cont=>exact False.elim hq
theorem ai(F:aV X.prog X.w X.K X.mg X.base CX k f fd ps sp)(hr:bq k X.A)(hg:Gl X x)(hm:X.mg x=some (.ref f))(hk:W.keepIn X.K (.ref f)=true)(hb:aX X.K fd ps ds)(hd:cy dvs ds)(hx:jI CX X E)
  (ha:PA X (e::es) t) (hdb:(x==("__debug__":Str))=false:=by decide) (he:starEach (e::es) X.env=(false,eval e X.env)::starEach es X.env:=by rfl) (hpl:(backTo pos (starEach es X.env)).any (·.1)=false:=by rfl) :
  PE X (.Call (.Name x p) (e::es) [] pos) (CA sp dvs E t):=by
 intro kb s σ H Q I h
 refine wpAny_Call_Name_kw (lR I hg hm ?_ hdb)
 refine W.callWith_K (h₀:=X.base) I.ok.mod.kin hk (thn (ha pos kb s σ H _ I h) fun us s1 ⟨vs,H1,I1,r,q⟩=>⟨I1.kIn,?_⟩) he hpl
 exact BH F hr hb hd hx I1 r q
structure Mk(K:W.Frag)(C f:Addr):Prop where
 makes:W.makesIn K C=true
 init:W.findIn K (.ref C) "__init__"=some (some (.ref f))
 fn:W.isFn K (.ref f)=true
 kp:W.keepIn K (.ref C)=true
end
section
variable{X:Cx}{CX:CXT}{k:Nat}{f C:Addr}{fd:FuncData}{ps ks:List Str}{sp:Sp}{E:XK}{x m:Str}{p pos apos kpos:Pos}{e o:Expr}{es:List Expr}{kws:List Keyword}{te ta:TE}{t tk:TA}{nm:Option Str}
structure Dl(K:W.Frag)(fd:FuncData)(ps ks:List Str)(g:List Value->List Value->List Value)(gV:List V->List V->List V):Prop where
 to:∀(s:Shared) (us ws:List Value),K.In s.heap->(g us ws).length=ps.length->BindsTo s fd ⟨us,ks.zip ws⟩ (ps.zip (g us ws))
 rel:∀{vs:List V} {us:List Value} {zs:List V} {ws:List Value},cy vs us->cy zs ws->cy (gV vs zs) (g us ws)
variable{g:List Value->List Value->List Value}{gV:List V->List V->List V}
end
structure ax(N P:List Str)(sc:Scope):Prop where
 kind:sc.kind=.function
 co:sc.isCoroutine=false
 gen:sc.isGenerator=false
 nd:N.Nodup
 pre:N.take P.length=P
 par:∀x∈P,sc.names.lookup x=some .local\/sc.names.lookup x=some .cell
 nofree:∀y∈sc.names,y.2≠.free
theorem oH{kindOf:Str->Option NameKind}{x:Str}:∀{binds:List (Str × Value)} {m:Str->Option Value},(∀v,(x,v)∉binds)->bindL kindOf binds m x=m x
 |[],_,_=>rfl
 |(n,v)::r,m,h=>by
  unfold bindL
  rw [oH fun w hw=>h w (List.mem_cons_of_mem _ hw)]
  split
  ·have:x≠n:=by rintro rfl;exact h v List.mem_cons_self
   simp [this]
  ·rfl
theorem oD{kindOf:Str->Option NameKind}{x:Str}:∀{binds:List (Str × Value)} {m:Str->Option Value},(∀v,(x,v)∉binds)->bindC kindOf binds m x=m x
 |[],_,_=>rfl
 |(n,v)::r,m,h=>by
  unfold bindC
  rw [oD fun w hw=>h w (List.mem_cons_of_mem _ hw)]
  split
  ·rfl
  ·have:x≠n:=by rintro rfl;exact h v List.mem_cons_self
   simp [this]
theorem oR{kindOf:Str->Option NameKind}{x:Str}{v:Value}:∀{P:List Str} {vs:List Value} {i:Nat} {m:Str->Option Value},P.Nodup->P[i]?=some x->vs[i]?=some v->kindOf x=some .local ->
  bindL kindOf (P.zip vs) m x=some v
 |[],_,_,_,_,h,_,_=>by simp at h
 |_::_,[],_,_,_,_,h,_=>by simp at h
 |p::P,w::vs,0,m,nd,h1,h2,hk=>by
  simp at h1 h2;subst h1;subst h2
  show bindL kindOf ((p,w)::P.zip vs) m p=_
  unfold bindL
  rw [oH fun v hv=>(List.nodup_cons.mp nd).1 (List.of_mem_zip hv).1,if_pos hk]
  simp
 |p::P,w::vs,i+1,m,nd,h1,h2,hk=>by
  show bindL kindOf ((p,w)::P.zip vs) m x=_
  unfold bindL
  exact oR (i:=i) (List.nodup_cons.mp nd).2 (by simpa using h1) (by simpa using h2) hk
theorem nV{kindOf:Str->Option NameKind}{x:Str}{v:Value}:∀{P:List Str} {vs:List Value} {i:Nat} {m:Str->Option Value},P.Nodup->P[i]?=some x->vs[i]?=some v->kindOf x≠some .local ->
  bindC kindOf (P.zip vs) m x=some v
 |[],_,_,_,_,h,_,_=>by simp at h
 |_::_,[],_,_,_,_,h,_=>by simp at h
 |p::P,w::vs,0,m,nd,h1,h2,hk=>by
  simp at h1 h2;subst h1;subst h2
  show bindC kindOf ((p,w)::P.zip vs) m p=_
  unfold bindC
  rw [oD fun v hv=>(List.nodup_cons.mp nd).1 (List.of_mem_zip hv).1,if_neg hk]
  simp
 |p::P,w::vs,i+1,m,nd,h1,h2,hk=>by
  show bindC kindOf ((p,w)::P.zip vs) m x=_
  unfold bindC
  exact nV (i:=i) (List.nodup_cons.mp nd).2 (by simpa using h1) (by simpa using h2) hk
def gH(N:List Str)(vs:List V):St:=vs.map some++List.replicate (N.length - vs.length) none
def dP(CX:CXT)(P:Program)(w:World)(K:W.Frag)(mg:Str->Option Value)(base:Heap)(N:List Str)(qual:Str)(scope:Scope)(f:Addr)(cd:Value)(A:Around)(q0:List Env)(s:Shared)(H:Hp)(E:XK):Cx where
 prog:=P
 w:=w
 K:=K
 mg:=mg
 base:=base
 A:=A.deeper (envOfC qual scope s.heap.objs.size f cd)
 N:=N
 s₀:=s
 H₀:=H
 env:=envOfC qual scope s.heap.objs.size f cd
 q0:=q0
 stack:=envOfC qual scope s.heap.objs.size f cd::q0
 ex:=[]
 calm:=true
 fn:=fun _=>true
 pn:=[]
 xe:=fun e s'=>wpAny (model P w) (A.deeper (envOfC qual scope s.heap.objs.size f cd)) (leaving (envOfC qual scope s.heap.objs.size f cd) e) (fun _ s''=>CX q0 H s E e s'') (fun e' s''=>CX q0 H s E e' s'') s'
theorem qI{sc:Scope}{n:Nat}{x:Str}(h:sc.names.lookup x=some .cell):∃c,(cellsFrom n sc.names []).lookup x=some c:=by
 have q:=W.cellsFrom_some sc.names n [] (.inl h)
 exact Option.isSome_iff_exists.mp q
theorem nR{CX:CXT}{P:Program}{w:World}{K:W.Frag}{mg:Str->Option Value}{base:Heap}{N ps:List Str}{qual:Str}{scope:Scope}{f:Addr}{cd:Value}{A:Around}{q0:List Env}{s s1:Shared}{H:Hp}{E:XK}{us:List Value}{vs:List V}
  (S:ax N ps scope) (hd:A.handled=none) (e0:B8 P w K mg base A q0 s H) (hl:vs.length=ps.length) (r:cy vs us)
  (x:InCallC s s.heap.objs.size (bindL (envOfC qual scope s.heap.objs.size f cd).kindOf (ps.zip us) fun _=>none) (cellsFrom (s.heap.objs.size+1) scope.names []) (bindC (envOfC qual scope s.heap.objs.size f cd).kindOf (ps.zip us) fun _=>none) s1) :
  Inv (dP CX P w K mg base N qual scope f cd A q0 s H E) [] (gH N vs) H s1:=by
 have hpl:ps.length<=N.length:=by have:=congrArg List.length S.pre;rw [List.length_take] at this;omega
 obtain⟨h1,tk,rfl,hk⟩:=x.done
 have noA:∀b:Addr,b∉(dP CX P w K mg base N qual scope f cd A q0 s H E).ex:=fun b z=>absurd (show b∈([]:List Addr) from z) (by simp)
 refine⟨⟨e0.mod,S.kind,rfl,rfl,Nat.le_refl _,fun y z c h1 h2=>?_,fun y hy=>?_,fun y c _ h=>?_,fun _=>hd,Around.frames_deeper e0.frames,.inr ⟨rfl,rfl⟩,fun b z=>absurd z (noA b),e0.bs,e0.bsz,fun b _ _=>noA b,fun b z=>absurd z (noA b),e0.funs,e0.frf⟩,
  rfl,e0.bare,Un.kept hk,⟨_,x.toInCall.ns,fun i y v h1 h2 h3=>?_⟩,fun y c h=>⟨_,x.cell y c h⟩,e0.hok.fresh (Nat.le_refl _),fun y c h=>?_,fun p hp=>absurd (show p∈([]:List (Addr × Obj)) from hp) (by simp),e0.hok.kept hk,?_⟩
 ·exact name_of_addr x.apart (PySem.mem_of_lookup h1) (PySem.mem_of_lookup h2)
 ·have hy:scope.names.lookup y=some .cell\/scope.names.lookup y=some .free:=hy
  rcases hy with hy|hy
  ·exact qI hy
  ·exact absurd rfl (S.nofree _ (PySem.mem_of_lookup hy))
 ·exact Nat.le_of_lt (x.above y c (PySem.mem_of_lookup h))
 ·have hi:i < vs.length:=by
   unfold gH at h2
   by_cases hi:i < vs.length
   ·exact hi
   ·rw [List.getElem?_append_right (by simpa using hi)] at h2
    rw [List.getElem?_replicate] at h2
    split at h2<;>cases h2
  have ha:vs[i]?=some v:=by
   unfold gH at h2
   rw [List.getElem?_append_left (by simpa using hi),List.getElem?_map] at h2
   cases e:vs[i]? with
   |none=>rw [e] at h2;cases h2
   |some a=>rw [e] at h2;cases h2;rfl
  obtain⟨u,hu,rv⟩:=r.get ha
  have hp:ps[i]?=some y:=by
   rw [<-S.pre,List.getElem?_take_of_lt (by omega)];exact h1
  have ndP:ps.Nodup:=by rw [<-S.pre];exact S.nd.sublist (List.take_sublist _ _)
  refine⟨u,rv,?_⟩
  rcases S.par y (List.mem_of_getElem? hp) with k|k
  ·exact .inl ⟨k,oR ndP hp hu k⟩
  ·obtain⟨c,e⟩:=qI (n:=s.heap.objs.size+1) k
   refine .inr ⟨.inl k,c,e,?_⟩
   have q:=x.cell y c e
   rw [nV ndP hp hu (by show scope.names.lookup y≠_;rw [k];decide)] at q
   exact q
 ·exact e0.hok.fresh (Nat.le_of_lt (x.above y c (PySem.mem_of_lookup h)))
 ·unfold gH
  show _=N.length
  rw [List.length_append,List.length_map,List.length_replicate]
  omega
theorem Bz{CX:CXT}{P:Program}{w:World}{K:W.Frag}{mg:Str->Option Value}{base:Heap}{k:Nat}{f:Addr}{name qual:Str}{params:Arguments}{body:List Stmt}{scope:Scope}{dV kV doc pm cdv ct oc:Value}{an od:Option Addr}
  {osl:Array (Option Value)} {N ps:List Str} {sp:Sp} (lk:K.lookup f=some ⟨oc,od,.func (W.fnOf name qual params body scope dV kV doc pm an cdv ct),osl⟩) (hcd:W.codeIn K cdv qual=true) (S:ax N ps scope)
  (len:∀vs H Q E,sp vs H Q E->vs.length=ps.length)
  (hbody:∀(A:Around) (q0:List Env) (s:Shared) (H:Hp) (vs:List V) (Q:VK) (E:XK),bq k (A.deeper (envOfC qual scope s.heap.objs.size f cdv))->sp vs H Q E ->
   ∃t,PSs (dP CX P w K mg base N qual scope f cdv A q0 s H E) body t/\t { nx:=fun _ H'=>Q .non H',rt:=Q } (gH N vs) H) :
  aV P w K mg base CX (k+1) f (W.fnOf name qual params body scope dV kV doc pm an cdv ct) ps sp:=by
 refine⟨len,fun A q0 s H args us vs Q E hr e0 hb r hsp=>?_⟩
 have hl:=len _ _ _ _ hsp
 have KX:K.In s.heap:=e0.mod.kin.keeps fun b o e=>(e0.bs b o e).1
 have lim:s.heap.NoLimit:=e0.mod.nolimit.keeps fun b o e=>(e0.bs b o e).1
 have hkind:∀y∈ps.zip us,scope.names.lookup y.1=some .local\/(scope.names.lookup y.1=some .cell/\((cellsFrom (s.heap.objs.size+1) scope.names []).lookup y.1).isSome=true):=fun⟨n,v⟩ hy=>by
  rcases S.par n (List.of_mem_zip hy).1 with q|q
  ·exact .inl q
  ·exact .inr ⟨q,W.cellsFrom_some _ _ _ (.inl q)⟩
 refine codeAny_call_function hr.depth (KX _ _ lk) rfl S.co S.gen rfl (W.codeRec_of KX hcd) (hb _ _ _ _ ?_)
 refine wpAny_newFunctionEnv_cells S.kind hkind fun env he s1 x=>?_
 subst he
 refine⟨lim.keeps x.toInCall.keep,codeAny_func ?_⟩
 obtain⟨t,ht,hq⟩:=hbody A q0 s H vs Q E (hr.deeper _) hsp
 have I:Inv (dP CX P w K mg base N qual scope f cdv A q0 s H E) [] (gH N vs) H s1:=nR S hr.hd e0 hl r x
 refine wpAny_mono (ht [] s1 (gH N vs) H _ I hq) (fun fl s' hs=>?_) fun e s' hs=>hs
 have fin:∀{σ':St} {H':Hp} {v:V} {u:Value},Inv (dP CX P w K mg base N qual scope f cdv A q0 s H E) [] σ' H' s'->dR v u->Q v H'->CE q0 P w H s Q u s' :=
  fun {σ' H' v u} J rv q=>⟨v,H',J.os,J.bare,J.base,J.hok,rv,q⟩
 cases fl with
 |ret u =>
  obtain⟨v,σ',H',J,rv,q⟩:=hs
  exact fin J rv q
 |next =>
  obtain⟨σ',H',J,q⟩:=hs
  exact fin (v:=V.non) (u:=Value.none) J rfl q
 |brk =>
  obtain⟨_,_,_,q⟩:=hs
  exact False.elim q
 |cont =>
  obtain⟨_,_,_,q⟩:=hs
  exact False.elim q
section
variable{X:Cx}{x:Str}{p pos:Pos}{e:Expr}{es:List Expr}{t:TA}{id T:String}{r:List V->Hp->VK->Prop}
def tCB(r:List V->Hp->VK->Prop)(t:TA):TE:=fun σ H Q=>t σ H fun vs H1=>r vs H1 Q
theorem aq(hc:jJ X (.builtin id) r)(hg:Gl X x)(hm:X.mg x=none)(hv:bootBuiltins x=some (.builtin id))(ha:PA X (e::es) t) (hn:x≠"__name__":=by decide) (hdb:(x==("__debug__":Str))=false:=by decide)
  (he:starEach (e::es) X.env=(false,eval e X.env)::starEach es X.env:=by rfl) (hpl:(backTo pos (starEach es X.env)).any (·.1)=false:=by rfl):PE X (.Call (.Name x p) (e::es) [] pos) (tCB r t):=by
 intro kb s σ H Q I h
 refine wpAny_Call_Name_kw (kn I hg hm hv ?_ hn hdb)
 exact PyProof.Rows.callWith_builtin1 (thn (ha pos kb s σ H _ I h) fun us s1 ⟨vs,H1,I1,r1,q1⟩=>hc kb s1 σ H1 vs us Q I1 r1 q1) he hpl
theorem aL(hc:jJ X (.type T) r)(hg:Gl X x)(hm:X.mg x=none)(hv:bootBuiltins x=some (.type T))(ha:PA X (e::es) t) (hn:x≠"__name__":=by decide) (hdb:(x==("__debug__":Str))=false:=by decide)
  (he:starEach (e::es) X.env=(false,eval e X.env)::starEach es X.env:=by rfl) (hpl:(backTo pos (starEach es X.env)).any (·.1)=false:=by rfl):PE X (.Call (.Name x p) (e::es) [] pos) (tCB r t):=by
 intro kb s σ H Q I h
 refine wpAny_Call_Name_kw (kn I hg hm hv ?_ hn hdb)
 exact PyProof.Rows.callWith_type1 (thn (ha pos kb s σ H _ I h) fun us s1 ⟨vs,H1,I1,r1,q1⟩=>hc kb s1 σ H1 vs us Q I1 r1 q1) he hpl
end
end L2
namespace HT
open PySem PyProof.Rows
section
open PySem.SeqAt
open PySem.AutoSeq1 (wpAny_loadPart')
open PySem.MeetsSeq PySem.MeetsSeq2 PySem.MeetsSeq3
end
section
variable{prog:Program}{w:World}{A:Around}{E:Value->Shared->Prop}{s:Shared}
theorem cat_tup{t b:Addr}{vs ws:List Value}{Q:Value->Shared->Prop}(ht:IsTup s.heap t vs.toArray)(hb:IsTup s.heap b ws.toArray)(hv:vs≠[])
  (h1:ws=[]->Q (.ref t) s) (h2:ws≠[]->Q (.ref s.heap.objs.size) { s with heap:=s.heap.push { cls:=.type "tuple",data:=.seq (vs++ws).toArray } })
  (hsz:vs.length+ws.length<=sizeLine):wpAny (model prog w) A (binaryOp .Add (.ref t) (.ref b)) Q E s:=by
 obtain⟨⟨cls,dd,data,sl⟩,ho,hc,n,hd⟩:=id ht
 obtain⟨⟨cls2,dd2,data2,sl2⟩,ho2,hc2,n2,hd2⟩:=id hb
 simp only at hc hd hc2 hd2
 subst hc hd hc2 hd2
 have e:vs.toArray++ws.toArray=(vs++ws).toArray:=by simp
 by_cases hw:ws=[]
 ·exact concat_meets ⟨_,ho,rfl⟩ ⟨_,ho2,rfl⟩ noFill_tuple_add seq_tuple_add PySem.F.slot_tuple_add PySem.F.entry_tuple_add (PySem.F.args_tuple_add_2 _ _)
   (tuple_addW1 t b vs.toArray ws.toArray n n2 dd dd2 sl sl2 (by simpa using hv) (by simp [hw])) ⟨ho,ho2,h1 hw⟩
 ·refine concat_meets ⟨_,ho,rfl⟩ ⟨_,ho2,rfl⟩ noFill_tuple_add seq_tuple_add PySem.F.slot_tuple_add PySem.F.entry_tuple_add (PySem.F.args_tuple_add_2 _ _)
   (tuple_addW2 t b vs.toArray ws.toArray n n2 dd dd2 sl sl2 (by simpa using hv) (by simpa using hw) (by rw [List.size_toArray,List.size_toArray];exact hsz)) ⟨ho,ho2,?_⟩
  rw [e]
  exact h2 hw
def sIx(n d:Nat):Option Int->Nat
 |none=>d
 |some v=>if v < 0 then (v+(n:Int)).toNat else min v.toNat n
theorem sIx_none(n d:Nat):sIx n d none=d:=rfl
theorem sIx_nat(n d k:Nat):sIx n d (some (k:Int))=min k n:=by
 show(if (k:Int) < 0 then ((k:Int)+(n:Int)).toNat else min (k:Int).toNat n)=min k n
 rw [if_neg (by omega),Int.toNat_natCast]
theorem B4(n d:Nat)(hd:d<=n)(o:Option Int):sIx n d o<=n:=by
 cases o with
 |none=>exact hd
 |some v =>
  show(if v < 0 then (v+(n:Int)).toNat else min v.toNat n)<=n
  by_cases hv:v < 0
  ·rw [if_pos hv];omega
  ·rw [if_neg hv];exact Nat.min_le_right _ _
theorem wq(v:Int)(n d:Nat):(if v < 0 then max (v+(n:Int)) 0 else min v (n:Int))=((sIx n d (some v):Nat):Int):=by
 show(if v < 0 then max (v+(n:Int)) 0 else min v (n:Int))=(((if v < 0 then (v+(n:Int)).toNat else min v.toNat n):Nat):Int)
 by_cases hv:v < 0
 ·simp only [if_pos hv];omega
 ·simp only [if_neg hv];omega
theorem sL(lo hi:Option Int)(n:Nat):Builtin.Slice.sliceAdjust lo hi 1 (n:Int)=(((sIx n 0 lo:Nat):Int),((sIx n n hi:Nat):Int)):=by
 have h1:¬((1:Int) < 0):=by omega
 unfold Builtin.Slice.sliceAdjust
 simp only [h1,if_false]
 refine Prod.ext ?_ ?_
 ·cases lo with
  |none=>rfl
  |some v=>exact wq v n 0
 ·cases hi with
  |none=>rfl
  |some v=>exact wq v n n
theorem su(i j:Nat):Builtin.Slice.slicePlaces (i:Int) (j:Int) 1=j - i:=by
 unfold Builtin.Slice.slicePlaces
 have h1:(1:Int) > 0:=by omega
 simp only [h1,if_true,Int.ediv_one]
 split<;>omega
theorem kH{v:Value}{o:Option Int}{Q:Option Int->Shared->Prop}(p:IsPart v o)(h:Q o s):wpAny (model prog w) A (Builtin.Slice.slicePartIndex v) Q E s:=by
 cases p with
 |none=>exact slicePart_none h
 |int i t=>exact slicePart_int h
theorem fM{sl:Addr}{vl vu:Value}{lo hi:Option Int}{n:Nat}{Q:Int × Int × Nat->Shared->Prop}(hs:s.heap.IsSliceOf sl vl vu .none)(pl:IsPart vl lo)(pu:IsPart vu hi)
  (h:Q (((sIx n 0 lo:Nat):Int),1,sIx n n hi - sIx n 0 lo) s):wpAny (model prog w) A (Builtin.Slice.sliceApplied (.ref sl) (pure (n:Int))) Q E s:=by
 obtain⟨os,hos,hcs,hds⟩:=id hs
 unfold Builtin.Slice.sliceApplied Builtin.Slice.sliceFields
 refine wpAny_bind (wpAny_bind (wpAny_field hos hds (x:=vl) rfl (wpAny_bind (wpAny_field hos hds (x:=vu) rfl (wpAny_bind (wpAny_field hos hds (x:=.none) rfl (wpAny_pure ?_)))))))
 refine wpAny_bind (slicePart_none ?_)
 show wpAny _ _ (if ((1:Int)==0)=true then _ else _) _ _ s
 rw [if_neg (by decide)]
 refine wpAny_bind (kH pl (wpAny_bind (kH pu (wpAny_bind (wpAny_pure ?_)))))
 show wpAny _ _ (match Builtin.Slice.sliceAdjust lo hi 1 (n:Int) with|(lo,hi)=>pure (lo,(1:Int),Builtin.Slice.slicePlaces lo hi 1)) _ _ s
 rw [sL lo hi n]
 show wpAny _ _ (pure (((sIx n 0 lo:Nat):Int),(1:Int),Builtin.Slice.slicePlaces ((sIx n 0 lo:Nat):Int) ((sIx n n hi:Nat):Int) 1)) _ _ s
 rw [su]
 exact wpAny_pure h
theorem ym(xs:Array Value)(i k:Nat):((List.range k).filterMap fun(m:Nat)=>xs[((i:Int)+(m:Int)*1).toNat]?).toArray=((xs.toList.drop i).take k).toArray:=by
 have e:(fun(m:Nat)=>xs[((i:Int)+(m:Int)*1).toNat]?)=fun m=>xs[i+m]?:=by
  funext m
  have:((i:Int)+(m:Int)*1).toNat=i+m:=by omega
  rw [this]
 rw [e]
 have:=pick_run xs i k
 rw [List.filterMap_map] at this
 have e2:((fun x=>xs[x]?)∘fun x=>i+x)=fun m=>xs[i+m]?:=rfl
 rw [e2] at this
 rw [this]
theorem getItem_tuple_cut{t sl:Addr}{items:Array Value}{vl vu:Value}{lo hi:Option Int}{Q:Value->Shared->Prop}(ht:IsTup s.heap t items)(hs:s.heap.IsSliceOf sl vl vu .none)(pl:IsPart vl lo)(pu:IsPart vu hi)
  (hw:¬(sIx items.size 0 lo=0/\sIx items.size items.size hi=items.size))
  (h:Q (.ref s.heap.objs.size) { s with heap:=s.heap.push { cls:=.type "tuple",data:=.seq ((items.toList.drop (sIx items.size 0 lo)).take (sIx items.size items.size hi - sIx items.size 0 lo)).toArray } })
  (hsz:items.size<=sizeLine):wpAny (model prog w) A (getItem (.ref t) (.ref sl)) Q E s:=by
 have htake:sizeOk (.seq ((items.toList.drop (sIx items.size 0 lo)).take (sIx items.size items.size hi - sIx items.size 0 lo)).toArray):=by
  show((items.toList.drop (sIx items.size 0 lo)).take (sIx items.size items.size hi - sIx items.size 0 lo)).toArray.size<=sizeLine
  rw [List.size_toArray,List.length_take,List.length_drop,Array.length_toList]
  omega
 have hj:sIx items.size items.size hi<=items.size:=B4 _ _ (Nat.le_refl _) hi
 obtain⟨os,hos,hcs,hds⟩:=id hs
 have hTs:s.TypeIs (.ref sl) "slice":=⟨os,hos,hcs⟩
 unfold getItem
 try with_reducible refine wpAny_holding ?_
 first|refine wpAny_bind (wpAny_pure ?_)|skip
 refine wpAny_bind (wpAny_sequenceKey ht.typeIs (by decide) ?_)
 refine wpAny_bind (wpAny_callSpecial?_slot (name:=Str.ofString "__getitem__") ht.typeIs PyProof.Rows.slot_tuple_getitem
  (wpAny_call_entry PyProof.Rows.slot_tuple_getitem ht.typeIs entry_tuple_getitem ?_ (args_tuple_getitem _ _)))
 show wpAny _ _ (Builtin.Tuple.tupleItemsOf (.ref t) >>= _) _ _ s
 refine wpAny_bind (tupleItemsOf_ ht ?_)
 refine wpAny_bind (wpAny_typeOf hTs ?_)
 rw [if_pos (by decide)]
 refine wpAny_bind (fM hs pl pu ?_)
 have hno:¬((((sIx items.size 0 lo:Nat):Int)==0&&(1:Int)==1&&(sIx items.size items.size hi - sIx items.size 0 lo)==items.size)=true):=by
  intro q
  rw [Bool.and_eq_true,Bool.and_eq_true] at q
  have q1:((sIx items.size 0 lo:Nat):Int)=0:=eq_of_beq q.1.1
  have q2:sIx items.size items.size hi - sIx items.size 0 lo=items.size:=eq_of_beq q.2
  exact hw ⟨by omega,by omega⟩
 show wpAny _ _ (if (((sIx items.size 0 lo:Nat):Int)==0&&(1:Int)==1&&(sIx items.size items.size hi - sIx items.size 0 lo)==items.size)=true then _ else _) _ _ s
 rw [if_neg hno,ym]
 first
  |exact wpAny_bind (m:=Builtin.Tuple.tupleExact _) (wpAny_newObj_type (wpAny_pure ⟨_,rfl,wpAny_pure h⟩) htake)
  |exact wpAny_bind (m:=Builtin.Tuple.tupleExact _) (wpAny_newObj_type (wpAny_bind (wpAny_pure (wpAny_pure ⟨_,rfl,wpAny_pure h⟩))) htake)
  |exact wpAny_bind (wpAny_bind (m:=Builtin.Tuple.tupleExact _) (wpAny_newObj_type (wpAny_pure (wpAny_pure ⟨_,rfl,wpAny_pure h⟩)) htake))
  |exact wpAny_bind (wpAny_bind (m:=Builtin.Tuple.tupleExact _) (wpAny_newObj_type (wpAny_pure ⟨_,rfl,wpAny_pure h⟩) htake))
end
end HT
namespace L2
open PySem PySem.Spec PyProof.Rows
abbrev TO:=St->Hp->(Option Int->Hp->Prop)->Prop
def PO(X:Cx)(e:Option Expr)(t:TO):Prop :=
 ∀(kb:List (Addr × Obj)) (s:Shared) (σ:St) (H:Hp) (Q:Option Int->Hp->Prop),Inv X kb σ H s->t σ H Q ->
  wpAny (model X.prog X.w) X.A (evalPart e X.env) (fun u s'=>∃o H',Inv X kb σ H' s'/\IsPart u o/\Q o H') X.xe s
def jD:TO:=fun _ H Q=>Q none H
def uF(t:TE):TO:=fun σ H Q=>t σ H fun x H1=>∃i,x=.int i/\Q (some i) H1
section
variable{X:Cx}{e:Expr}{te:TE}{lo hi:Option Expr}{tl th:TO}{pos p2:Pos}
theorem aT:PO X none jD:=by
 intro kb s σ H Q I h
 rw [evalPart_none]
 exact wpAny_pure ⟨none,H,I,.none,h⟩
theorem aP(h:PE X e te):PO X (some e) (uF te):=by
 intro kb s σ H Q I hw
 rw [evalPart_some]
 refine thn (h kb s σ H _ I hw) fun u s1 ⟨x,H1,I1,r1,q1⟩=>?_
 obtain⟨i,rfl,q⟩:=q1
 obtain⟨t,rfl⟩:=r1
 exact⟨some i,H1,I1,.int i t,q⟩
def SlR(X:Cx)(r:V->Option Int->Option Int->Hp->VK->Prop):Prop :=
 ∀(kb:List (Addr × Obj)) (s:Shared) (σ:St) (H:Hp) (x:V) (v vl vu:Value) (lo hi:Option Int) (sl:Addr) (Q:VK),Inv X kb σ H s->dR x v->s.heap.IsSliceOf sl vl vu .none->IsPart vl lo->IsPart vu hi->r x lo hi H Q ->
  ∃T id,typeLookup (.type T) "__getitem__"=pure (some (.builtin id))/\s.TypeIs v T/\wpAny (model X.prog X.w) X.A (getItem v (.ref sl)) (EP X kb σ Q) X.xe s
def tSl(r:V->Option Int->Option Int->Hp->VK->Prop)(te:TE)(tl th:TO):TE:=fun σ H Q=>te σ H fun x H1=>tl σ H1 fun l H2=>th σ H2 fun u H3=>r x l u H3 Q
theorem aH{r:V->Option Int->Option Int->Hp->VK->Prop}(hr:SlR X r)(he:PE X e te)(hl:PO X lo tl)(hu:PO X hi th):PE X (.Subscript e (.Slice lo hi none p2) pos) (tSl r te tl th):=by
 intro kb s σ H Q I h
 refine Subscript_ (thn (he kb s σ H _ I h) fun v s1 ⟨x,H1,I1,r1,q1⟩=>?_)
 refine wpAny_Slice (thn (hl kb s1 σ H1 _ I1 q1) fun vl s2 ⟨l,H2,I2,pl,q2⟩=>thn (hu kb s2 σ H2 _ I2 q2) fun vu s3 ⟨u,H3,I3,pu,q3⟩=>?_)
 rw [evalPart_none]
 refine wpAny_pure ?_
 have I4:Inv X kb σ H3 { s3 with heap:=s3.heap.push { cls:=.type "slice",data:=.fields #[vl,vu,.none] } }:=I3.kept (t':=s3.toks) fun b ob q=>Heap.get?_push_of_some _ q
 obtain⟨T,id,hT,ht,hg⟩:=hr kb { s3 with heap:=s3.heap.push { cls:=.type "slice",data:=.fields #[vl,vu,.none] } } σ H3 x v vl vu l u s3.heap.objs.size Q I4 r1 (Heap.IsSliceOf.new ..) pl pu q3
 show wpAny (model X.prog X.w) X.A (subscriptTail e (.Slice lo hi none p2) v (.ref s3.heap.objs.size)) (EP X kb σ Q) X.xe { s3 with heap:=s3.heap.push { cls:=.type "slice",data:=.fields #[vl,vu,.none] } }
 exact tail_any (ops:=[.ref s3.heap.objs.size,v]) ht hT hg (by with_unfolding_all rfl)
def dc(xs:List V)(lo hi:Option Int):List V:=(xs.drop (HT.sIx xs.length 0 lo)).take (HT.sIx xs.length xs.length hi - HT.sIx xs.length 0 lo)
theorem dA(xs:List V)(lo hi:Option Int):(dc xs lo hi).length<=xs.length:=by
 unfold dc
 rw [List.length_take,List.length_drop]
 omega
inductive Dn(K:W.Frag):V->Option Int->Option Int->Hp->VK->Prop|mk{x lo hi H Q}(a xs:_)(_:x=.ref a)(_:SqT K H a xs)(_:¬(HT.sIx xs.length 0 lo=0/\HT.sIx xs.length xs.length hi=xs.length))(_:∀p,H p=none->Q (.ref p) (upd H p (.tup (dc xs lo hi)))):Dn K x lo hi H Q
theorem cx:SlR X (Dn X.K):=by
 intro kb s σ H x v vl vu lo hi sl Q I rx hs pl pu h
 obtain⟨a,xs,rfl,hx,hw,q⟩:=h
 cases rx
 obtain⟨its,r,ht,hz⟩:=I.tuple hx
 have hlen:its.toArray.size=xs.length:=by rw [List.size_toArray];exact r.length.symm
 refine⟨"tuple",_,PyProof.Rows.slot_tuple_getitem.lookup,ht.typeIs,?_⟩
 refine HT.getItem_tuple_cut ht hs pl pu (by rw [hlen];exact hw) ?_ (by rw [hlen];exact hz)
 rw [hlen]
 refine⟨.ref s.heap.objs.size,_,I.laid (t':=s.toks) (o:=.tup (dc xs lo hi)) (fun b ob q=>Heap.get?_push_of_some _ q) (Nat.le_refl _) ?_,rfl,q _ (I.hok.fresh (Nat.le_refl _))⟩
 exact⟨Nat.le_trans (dA xs lo hi) hz,_,(r.drop (HT.sIx xs.length 0 lo)).take (HT.sIx xs.length xs.length hi - HT.sIx xs.length 0 lo),IsTup.new _ _⟩
inductive tT(K:W.Frag):R2|mk{x y H Q}(a b xs ys:_)(_:x=.ref a)(_:y=.ref b)(_:SqT K H a xs)(_:SqT K H b ys)(_:xs≠[])(_:xs.length+ys.length<=sizeLine)(_:(ys=[]->Q (.ref a) H))(_:(ys≠[]->∀p,H p=none->Q (.ref p) (upd H p (.tup (xs++ys))))):tT K x y H Q
theorem cy.nil_iff{xs:List V}{us:List Value}(r:cy xs us):us=[]↔xs=[]:=by
 cases r with
 |nil=>simp
 |cons _ _=>simp
theorem cH:OpR X (binaryOp .Add) (tT X.K):=by
 intro kb s σ H x y v u Q I rx ry h
 obtain⟨a,b,xs,ys,rfl,rfl,ha,hb,hx,hz,q1,q2⟩:=h
 cases rx
 cases ry
 obtain⟨its,r1,p1,_⟩:=I.tuple ha
 obtain⟨its2,r2,p2,_⟩:=I.tuple hb
 refine HT.cat_tup p1 p2 (fun z=>hx (r1.nil_iff.mp z)) (fun z=>⟨.ref a,H,I,rfl,q1 (r2.nil_iff.mp z)⟩) (fun z=>?_) (by rw [<-r1.length,<-r2.length];exact hz)
 refine⟨.ref s.heap.objs.size,_,I.laid (t':=s.toks) (o:=.tup (xs++ys)) (fun b ob q=>Heap.get?_push_of_some _ q) (Nat.le_refl _) ?_,rfl,q2 (fun w=>z (r2.nil_iff.mpr w)) _ (I.hok.fresh (Nat.le_refl _))⟩
 exact⟨by rw [List.length_append];exact hz,_,r1.append r2,IsTup.new _ _⟩
end
def ixN(n:Nat)(i:Int):Option Nat:=if 0<=i then (if i < n then some i.toNat else none) else if -(n:Int)<=i then some (i+n).toNat else none
def atI{α:Type}(xs:List α)(i:Int):Option α:=(ixN xs.length i).bind fun j=>xs[j]?
theorem Ar{n:Nat}{i:Int}{j:Nat}(h:ixN n i=some j):seqIndex? i n=some j/\j < n/\-(n:Int)<=i/\i < n:=by
 unfold ixN at h
 by_cases h0:0<=i
 ·rw [if_pos h0] at h
  by_cases h1:i < n
  ·rw [if_pos h1] at h
   have e:i.toNat=j:=Option.some.inj h
   exact⟨by rw [seqIndex_of h0 h1,e],by omega,by omega,h1⟩
  ·rw [if_neg h1] at h;cases h
 ·rw [if_neg h0] at h
  by_cases h1:-(n:Int)<=i
  ·rw [if_pos h1] at h
   have e:(i+n).toNat=j:=Option.some.inj h
   exact⟨by rw [seqIndex_neg (by omega) h1,e],by omega,h1,by omega⟩
  ·rw [if_neg h1] at h;cases h
theorem pY{α:Type}{xs:List α}{i:Int}{v:α}(h:atI xs i=some v):∃j,seqIndex? i xs.length=some j/\xs[j]?=some v/\j < xs.length/\-(xs.length:Int)<=i/\i < xs.length:=by
 unfold atI at h
 cases e:ixN xs.length i with
 |none=>rw [e] at h;cases h
 |some j =>
  rw [e] at h
  obtain⟨h1,h2,h3,h4⟩:=Ar e
  exact⟨j,h1,h,h2,h3,h4⟩
theorem cm{α:Type}{xs:List α}{j:Nat}{v:α}(h:xs[j]?=some v):atI xs (j:Int)=some v:=by
 have hj:j < xs.length:=(List.getElem?_eq_some_iff.mp h).1
 have e:ixN xs.length (j:Int)=some j:=by
  unfold ixN
  rw [if_pos (by omega),if_pos (by omega)];simp
 unfold atI;rw [e];exact h
theorem rO{α:Type}(xs:List α)(v:α):atI (xs++[v]) (-1)=some v:=by
 have hl:(xs++[v]).length=xs.length+1:=by simp
 have e:ixN (xs++[v]).length (-1)=some xs.length:=by
  unfold ixN
  rw [hl,if_neg (by decide),if_pos (by omega)]
  congr 1
  omega
 unfold atI
 rw [e]
 show(xs++[v])[xs.length]?=some v
 simp
def tU(b:Expr):Prop:=∀o i,subscripted b false o i=operate [o,i] (getItem o i)
def IxR(X:Cx)(r:R2):Prop :=
 ∀(value slice:Expr) (kb:List (Addr × Obj)) (s:Shared) (σ:St) (H:Hp) (x y:V) (v u:Value) (Q:VK),Inv X kb σ H s->dR x v->dR y u->r x y H Q ->
  subscripted slice false v u=operate [v,u] (getItem v u)->wpAny (model X.prog X.w) X.A (subscriptTail value slice v u) (EP X kb σ Q) X.xe s
def MtR(X:Cx)(id:String)(r:V->List V->Hp->VK->Prop):Prop :=
 ∀(kb:List (Addr × Obj)) (s:Shared) (σ:St) (H:Hp) (x:V) (xs:List V) (v:Value) (us:List Value) (Q:VK),Inv X kb σ H s->dR x v->cy xs us->r x xs H Q ->
  wpAny (model X.prog X.w) X.A (call (.builtin id) (v::us)) (EP X kb σ Q) X.xe s
section
variable{X:Cx}{a b:Expr}{ta tb:TE}{pos:Pos}
theorem CP{r:R2}(hr:IxR X r)(ha:PE X a ta)(hb:PE X b tb)(hs:tU b):PE X (.Subscript a b pos) (tOp r ta tb):=by
 intro kb s σ H Q I h
 exact Subscript_ (Dh ha hb I h fun v u s2 x y H2 I2 rx ry q=>hr a b kb s2 σ H2 x y v u Q I2 rx ry q (hs _ _))
inductive Wg(S:W.Frag->Hp->Addr->List V->Prop)(K:W.Frag)(x y:V)(H:Hp)(Q:VK):Prop|mk(p:Addr)(xs:List V)(i:Int)(v:V)(a:x=.ref p)(b:y=.int i)(c:S K H p xs)(d:atI xs i=some v)(q:Q v H)
def D5(K:W.Frag):R2:=fun x y H Q=>Wg SqL K x y H Q
def Cr(K:W.Frag):R2:=fun x y H Q=>Wg SqT K x y H Q
inductive DC:R2|mk{x y H Q}(z i c:_)(_:x=.str z)(_:y=.int i)(_:z.length<=sizeLine)(_:atI z.cps.toList i=some c)(_:Q (.str ⟨#[c]⟩) H):DC x y H Q
theorem bd:IxR X (D5 X.K):=by
 intro value slice kb s σ H x y v u Q I rx ry h hs
 obtain⟨p,xs,i,z,rfl,rfl,hq,he,q⟩:=h
 cases rx
 obtain⟨t,rfl⟩:=ry
 obtain⟨its,r,pl,hz⟩:=I.list hq
 obtain⟨j,h1,h2,h3,h4,h5⟩:=pY he
 obtain⟨w,ew,rw'⟩:=r.get h2
 have hl:=r.length
 have hn:=oB
 have fin:EP X kb σ Q w s:=⟨z,H,I,rw',q⟩
 by_cases h0:0<=i
 ·have hj:i.toNat=j:=by
   rw [seqIndex_of h0 h5] at h1
   exact Option.some.inj h1
  exact item_listR pl.isList h0 (by omega) (by rw [hj];simpa using ew) fin hs
 ·have hj:(i+(its.toArray.size:Int)).toNat=j:=by
   rw [seqIndex_neg (by omega) h4] at h1
   rw [List.size_toArray,<-hl]
   exact Option.some.inj h1
  exact subscriptTail_builtinR (x:=w) pl.isList.typeIs slot_list_getitem.lookup
   (wpAny_getItem_list_neg (Q:=fun r s'=>r=w/\EP X kb σ Q r s') pl.isList (by omega) (by rw [List.size_toArray]<;>omega) (by omega) (by rw [hj];simpa using ew) ⟨rfl,fin⟩) hs
theorem au:IxR X (Cr X.K):=by
 intro value slice kb s σ H x y v u Q I rx ry h hs
 obtain⟨p,xs,i,z,rfl,rfl,hq,he,q⟩:=h
 cases rx
 obtain⟨t,rfl⟩:=ry
 obtain⟨its,r,pl,hz⟩:=I.tuple hq
 obtain⟨j,h1,h2,h3,h4,h5⟩:=pY he
 obtain⟨w,ew,rw'⟩:=r.get h2
 have hl:=r.length
 have hn:=oB
 have fin:EP X kb σ Q w s:=⟨z,H,I,rw',q⟩
 exact subscriptTail_builtinR (x:=w) pl.typeIs slot_tuple_getitem.lookup
  (getItem_tuple (j:=j) (Q:=fun r s'=>r=w/\EP X kb σ Q r s') pl (by omega) (by omega) (by rw [List.size_toArray,<-hl];exact h1) (by simpa using ew) ⟨rfl,fin⟩) hs
theorem nP:IxR X DC:=by
 intro value slice kb s σ H x y v u Q I rx ry h hs
 obtain⟨z,i,c,rfl,rfl,hz,he,q⟩:=h
 obtain⟨t,rfl⟩:=rx
 obtain⟨t',rfl⟩:=ry
 obtain⟨j,h1,h2,h3,h4,h5⟩:=pY he
 have hl:z.cps.toList.length=z.length:=by simp [Str.length]
 rw [hl] at h1 h4 h5
 have hn:=oB
 exact tail_any (typeIs_str s z t) slot_str_getitem.lookup (getItem_str (c:=c) (by
  have e1:decide (i < -(2 ^ 63:Int))=false:=decide_eq_false (by omega)
  have e2:decide (i≥2 ^ 63)=false:=decide_eq_false (by omega)
  rw [e1,e2,Bool.or_false]) (by rw [h1];simpa using h2) ⟨.str ⟨#[c]⟩,H,I.tok _,⟨_,rfl⟩,q⟩) hs
theorem oP(lo hi:Option Int)(n:Nat):(sliceBounds lo hi none n).1=((HT.sIx n 0 lo:Nat):Int)/\(sliceBounds lo hi none n).2.1=((HT.sIx n n hi:Nat):Int)/\(sliceBounds lo hi none n).2.2=1:=by
 refine⟨?_,?_,rfl⟩
 ·cases lo with
  |none=>simp [sliceBounds,HT.sIx]
  |some i =>
   simp only [sliceBounds,HT.sIx,Option.getD_none,show(1:Int) > 0 by decide,if_true]
   by_cases h:i < 0
   ·simp only [h,if_true]<;>omega
   ·simp only [h,if_false]<;>omega
 ·cases hi with
  |none=>simp [sliceBounds,HT.sIx]
  |some i =>
   simp only [sliceBounds,HT.sIx,Option.getD_none,show(1:Int) > 0 by decide,if_true]
   by_cases h:i < 0
   ·simp only [h,if_true]<;>omega
   ·simp only [h,if_false]<;>omega
theorem nq(its:List Value)(lo hi:Option Int):slicePick its.toArray lo hi none=((its.drop (HT.sIx its.length 0 lo)).take (HT.sIx its.length its.length hi - HT.sIx its.length 0 lo)).toArray:=by
 obtain⟨h1,h2,h3⟩:=oP lo hi its.toArray.size
 unfold slicePick
 rw [h1,h2,h3]
 simp only [sliceRange_one,pick_run,List.size_toArray]<;>rfl
inductive Bo(K:W.Frag):V->Option Int->Option Int->Hp->VK->Prop|mk{x lo hi H Q}(a xs:_)(_:x=.ref a)(_:SqL K H a xs)(_:∀p,H p=none->Q (.ref p) (upd H p (.lst (dc xs lo hi)))):Bo K x lo hi H Q
theorem db:SlR X (Bo X.K):=by
 intro kb s σ H x v vl vu lo hi sl Q I rx hs pl pu h
 obtain⟨a,xs,rfl,hx,q⟩:=h
 cases rx
 obtain⟨its,r,ht,hz⟩:=I.list hx
 have hlen:=r.length
 refine⟨"list",_,slot_list_getitem.lookup,ht.isList.typeIs,?_⟩
 refine wpAny_getItem_list_slice ht.isList hs pl pu .none (by simp) ?_ (by rw [List.size_toArray]<;>omega)
 rw [nq,<-hlen]
 refine⟨.ref s.heap.objs.size,_,I.laid (t':=s.toks) (o:=.lst (dc xs lo hi)) (fun b ob q=>Heap.get?_push_of_some _ q) (Nat.le_refl _) ?_,rfl,q _ (I.hok.fresh (Nat.le_refl _))⟩
 exact⟨Nat.le_trans (dA xs lo hi) hz,_,0,(r.drop (HT.sIx xs.length 0 lo)).take (HT.sIx xs.length xs.length hi - HT.sIx xs.length 0 lo),Heap.get?_push_size _ rfl⟩
def jh:V->Bool
 |.non=>true
 |.bl _=>true
 |.int _=>true
 |.str _=>true
 |_=>false
def eqV:V->V->Bool
 |.non,.non=>true
 |.bl a,.bl b=>a==b
 |.bl a,.int b=>(if a then 1 else 0)==b
 |.int a,.bl b=>a==(if b then 1 else 0)
 |.int a,.int b=>a==b
 |.str a,.str b=>a==b
 |_,_=>false
theorem BP{A:Around}{s:Shared}{y x:V}{u v:Value}(ry:dR y u)(rx:dR x v)(fy:jh y=true)(fx:jh x=true):SeqAt.EqAt A s u v (eqV y x):=by
 cases y with
 |non =>
  cases ry
  cases x with
  |non=>cases rx;exact SeqAt.EqAt.same _
  |bl b=>cases rx;exact SeqAt.EqAt.none_bool b
  |int b=>obtain⟨t,rfl⟩:=rx;exact SeqAt.EqAt.none_int b t
  |str b=>obtain⟨t,rfl⟩:=rx;exact SeqAt.EqAt.none_str b t
  |_=>exact absurd (show false=true from fx) Bool.false_ne_true
 |bl a =>
  cases ry
  cases x with
  |non=>cases rx;exact SeqAt.EqAt.bool_none a
  |bl b=>cases rx;exact SeqAt.EqAt.bool_bool a b
  |int b=>obtain⟨t,rfl⟩:=rx;exact SeqAt.EqAt.bool_int a b t
  |str b=>obtain⟨t,rfl⟩:=rx;exact SeqAt.EqAt.bool_str a b t
  |_=>exact absurd (show false=true from fx) Bool.false_ne_true
 |int a =>
  obtain⟨t',rfl⟩:=ry
  cases x with
  |non=>cases rx;exact SeqAt.EqAt.int_none a t'
  |bl b=>cases rx;exact SeqAt.EqAt.int_bool a t' b
  |int b=>obtain⟨t,rfl⟩:=rx;exact SeqAt.EqAt.int_int a t' b t
  |str b=>obtain⟨t,rfl⟩:=rx;exact SeqAt.EqAt.int_str a t' b t
  |_=>exact absurd (show false=true from fx) Bool.false_ne_true
 |str a =>
  obtain⟨t',rfl⟩:=ry
  cases x with
  |non=>cases rx;exact SeqAt.EqAt.str_none a t'
  |bl b=>cases rx;exact SeqAt.EqAt.str_bool a t' b
  |int b=>obtain⟨t,rfl⟩:=rx;exact SeqAt.EqAt.str_int a t' b t
  |str b=>obtain⟨t,rfl⟩:=rx;exact SeqAt.EqAt.str_str a t' b t
  |_=>exact absurd (show false=true from fx) Bool.false_ne_true
 |_=>exact absurd (show false=true from fy) Bool.false_ne_true
def eqU(x:V)(u:Value):Bool:=match u with
 |.none=>eqV .non x
 |.bool b=>eqV (.bl b) x
 |.int i _=>eqV (.int i) x
 |.str z _=>eqV (.str z) x
 |_=>false
theorem zn{x y:V}{u:Value}(r:dR y u)(f:jh y=true):eqU x u=eqV y x:=by
 cases y with
 |non=>cases r;rfl
 |bl b=>cases r;rfl
 |int i=>obtain⟨t,rfl⟩:=r;rfl
 |str z=>obtain⟨t,rfl⟩:=r;rfl
 |_=>exact absurd (show false=true from f) Bool.false_ne_true
theorem jN{x:V}:∀{xs:List V} {us:List Value},cy xs us->xs.all jh=true->us.any (eqU x)=xs.any fun y=>eqV y x
 |_,_,.nil,_=>rfl
 |y::xs,u::us,.cons r t,f=>by
  rw [List.all_cons,Bool.and_eq_true] at f
  rw [List.any_cons,List.any_cons,zn r f.1,jN t f.2]
theorem ic{A:Around}{s:Shared}{x:V}{v:Value}(rx:dR x v)(fx:jh x=true):∀{xs:List V} {us:List Value},cy xs us->xs.all jh=true->∀u∈us,SeqAt.EqAt A s u v (eqU x u)
 |_,_,.nil,_=>fun u hu=>by cases hu
 |y::xs,u::us,.cons r t,f=>fun u' hu=>by
  rw [List.all_cons,Bool.and_eq_true] at f
  rcases List.mem_cons.mp hu with rfl|hu
  ·rw [zn r f.1];exact BP r rx f.1 fx
  ·exact ic rx fx t f.2 u' hu
def inV(x:V)(xs:List V):Bool:=xs.any fun y=>eqV y x
inductive rIn(K:W.Frag)(neg:Bool):R2|mk{x y H Q}(p xs:_)(_:y=.ref p)(_:(SqL K H p xs\/SqT K H p xs))(_:jh x=true)(_:xs.all jh=true)(_:Q (.bl (if neg then !inV x xs else inV x xs)) H):rIn K neg x y H Q
theorem gc:OpR X (compareOp .In) (rIn X.K false):=by
 intro kb s σ H x y v u Q I rx ry h
 obtain⟨p,xs,rfl,hq,fx,fs,q⟩:=h
 cases ry
 rcases hq with hq|hq
 ·obtain⟨its,r,pl,hz⟩:=I.list hq
  refine SeqAt.in_listAt (eqU x) pl.isList (fun w hw=>ic rx fx r fs w (by simpa using hw)) ⟨.bl _,H,I,rfl,?_⟩
  rw [show its.toArray.any (eqU x)=its.any (eqU x) by simp,jN r fs]
  exact q
 ·obtain⟨its,r,pl,hz⟩:=I.tuple hq
  refine SeqAt.in_tupleAt (eqU x) pl (fun w hw=>ic rx fx r fs w (by simpa using hw)) ⟨.bl _,H,I,rfl,?_⟩
  rw [show its.toArray.any (eqU x)=its.any (eqU x) by simp,jN r fs]
  exact q
theorem fT:OpR X (compareOp .NotIn) (rIn X.K true):=by
 intro kb s σ H x y v u Q I rx ry h
 obtain⟨p,xs,rfl,hq,fx,fs,q⟩:=h
 cases ry
 rcases hq with hq|hq
 ·obtain⟨its,r,pl,hz⟩:=I.list hq
  refine SeqAt.notIn_listAt (eqU x) pl.isList (fun w hw=>ic rx fx r fs w (by simpa using hw)) ⟨.bl _,H,I,rfl,?_⟩
  rw [show its.toArray.any (eqU x)=its.any (eqU x) by simp,jN r fs]
  exact q
 ·obtain⟨its,r,pl,hz⟩:=I.tuple hq
  refine SeqAt.notIn_tupleAt (eqU x) pl (fun w hw=>ic rx fx r fs w (by simpa using hw)) ⟨.bl _,H,I,rfl,?_⟩
  rw [show its.toArray.any (eqU x)=its.any (eqU x) by simp,jN r fs]
  exact q
theorem i6:OpR X (compareOp .NotIn) (fun x y H Q=>∃i j,x=.str i/\y=.str j/\Q (.bl (!(!(Builtin.Str.occurrences j i 0 j.length 1).isEmpty))) H):=by
 intro kb s σ H x y v u Q I rx ry h
 obtain⟨i,j,rfl,rfl,q⟩:=h
 obtain⟨t,rfl⟩:=rx
 obtain⟨t',rfl⟩:=ry
 exact notIn_str ⟨.bl _,H,I,rfl,q⟩
theorem aw:jJ X (.builtin "len") (fun xs H Q=>∃p ys,xs=[.ref p]/\(SqL X.K H p ys\/SqT X.K H p ys)/\Q (.int ys.length) H):=by
 intro kb s σ H xs us Q I r h
 obtain⟨p,ys,rfl,hq,q⟩:=h
 obtain⟨u,rfl,rx⟩:=jd r
 cases rx
 have hn:=oB
 rcases hq with hq|hq
 ·obtain⟨its,r',pl,hz⟩:=I.list hq
  have hlen:=r'.length
  exact Calls.call_len_list pl.isList (by simp only [List.size_toArray]<;>omega) ⟨.int ys.length,H,I.tok _,⟨s.toks+1,by rw [List.size_toArray,hlen]⟩,q⟩
 ·obtain⟨its,r',pl,hz⟩:=I.tuple hq
  have hlen:=r'.length
  exact len_tuple pl (by simp only [List.size_toArray]<;>omega) ⟨.int ys.length,H,I.tok _,⟨s.toks+1,by rw [List.size_toArray,hlen]⟩,q⟩
theorem cJ:jJ X (.builtin "len") (fun xs H Q=>∃z,xs=[.str z]/\z.length<=sizeLine/\Q (.int z.length) H):=by
 intro kb s σ H xs us Q I r h
 obtain⟨z,rfl,hz,q⟩:=h
 obtain⟨u,rfl,t,rfl⟩:=jd r
 have hn:=oB
 exact len_str (by omega) ⟨.int z.length,H,I.tok _,⟨_,rfl⟩,q⟩
theorem nF:jJ X (.type "list") (fun xs H Q=>∃p ys,xs=[.ref p]/\(SqL X.K H p ys\/SqT X.K H p ys)/\∀l,H l=none->Q (.ref l) (upd H l (.lst ys))):=by
 intro kb s σ H xs us Q I r h
 obtain⟨p,ys,rfl,hq,q⟩:=h
 obtain⟨u,rfl,rx⟩:=jd r
 cases rx
 have fin:∀(its:List Value),cy ys its->ys.length<=sizeLine->∀(h':Heap) (c':Nat),(∀b o',s.heap.get? b=some o'->h'.get? b=some o') ->
   h'.get? s.heap.objs.size=some { cls:=.type "list",dict:=none,data:=.seq its.toArray c',slots:=#[] }->EP X kb σ Q (.ref s.heap.objs.size) { s with heap:=h' }:=fun its r' hz h' c' kp e =>
  ⟨.ref s.heap.objs.size,_,I.laid (t':=s.toks) kp (Nat.le_refl _) (show eI X.prog X.w _ h' _ (.lst ys) from⟨hz,its,c',r',e⟩),rfl,q _ (I.hok.fresh (Nat.le_refl _))⟩
 rcases hq with hq|hq
 ·obtain⟨its,r',pl,hz⟩:=I.list hq
  have hlen:=r'.length
  obtain⟨o,ho,hc,n,hd⟩:=pl.isList
  exact call_list_seq p (.inl rfl) ho hc hd (fun h' c' kp e=>fin its r' hz h' c' kp e) (by simp only [List.size_toArray]<;>omega)
 ·obtain⟨its,r',pl,hz⟩:=I.tuple hq
  have hlen:=r'.length
  obtain⟨o,ho,hc,n,hd⟩:=pl
  exact call_list_seq p (.inr rfl) ho hc hd (fun h' c' kp e=>fin its r' hz h' c' kp e) (by simp only [List.size_toArray]<;>omega)
theorem aI:jJ X (.type "tuple") (fun xs H Q=>∃p ys,xs=[.ref p]/\((SqL X.K H p ys/\∀l,H l=none->Q (.ref l) (upd H l (.tup ys)))\/(SqT X.K H p ys/\Q (.ref p) H))):=by
 intro kb s σ H xs us Q I r h
 obtain⟨p,ys,rfl,h⟩:=h
 obtain⟨u,rfl,rx⟩:=jd r
 cases rx
 rcases h with ⟨hq,q⟩|⟨hq,q⟩
 ·obtain⟨its,r',pl,hz⟩:=I.list hq
  have hlen:=r'.length
  refine call_tuple_list pl.isList (fun h' kp=>?_) (by simp only [List.size_toArray]<;>omega)
  have I1:Inv X kb σ H { s with heap:=h' }:=I.kept (t':=s.toks) kp
  have I2:Inv X kb σ (upd H h'.objs.size (.tup ys)) { s with heap:=h'.push { cls:=.type "tuple",data:=.seq its.toArray } } :=
   I1.laid (t':=s.toks) (fun b o e=>Heap.get?_push_of_some _ e) (Nat.le_refl _) (show eI X.prog X.w _ _ _ (.tup ys) from⟨hz,its,r',IsTup.new _ _⟩)
  exact⟨.ref h'.objs.size,_,I2,rfl,q _ (I1.hok.fresh (Nat.le_refl _))⟩
 ·obtain⟨its,r',pl,hz⟩:=I.tuple hq
  exact call_tuple_same pl ⟨.ref p,H,I,rfl,q⟩
def tyV(K:W.Frag)(T:String)(x:V)(H:Hp):Prop:=match x with
 |.str _=>T="str"
 |.int _=>T="int"
 |.ref p=>(T="list"/\∃xs,SqL K H p xs)\/(T="tuple"/\∃o,K.lookup p=some o/\o.cls=.type "tuple"/\o.dict=none) \/
   (T="dict"/\((∃kvs,H p=some (.dK kvs))\/∃kvs,H p=some (.dT kvs)))\/(T="set"/\∃S n,H p=some (.set S n))
 |_=>False
theorem yA{kb:List (Addr × Obj)}{σ:St}{H:Hp}{s:Shared}{T:String}{x:V}{v:Value}(I:Inv X kb σ H s)(r:dR x v)(ty:tyV X.K T x H) :
  s.TypeIs v T/\∀a,v=.ref a->∃ob,s.heap.get? a=some ob/\ob.dict=none:=by
 cases x with
 |str z =>
  obtain⟨t,rfl⟩:=r
  cases (show T="str" from ty)
  exact⟨typeIs_str s z t,fun _ e=>nomatch e⟩
 |int i =>
  obtain⟨t,rfl⟩:=r
  cases (show T="int" from ty)
  exact⟨typeIs_int s i t,fun _ e=>nomatch e⟩
 |ref p =>
  cases r
  rcases ty with ⟨rfl,xs,hq⟩|⟨rfl,o,hk,hc,hd⟩|⟨rfl,hk⟩|⟨rfl,S,n,hk⟩
  ·obtain⟨its,_,pl,_⟩:=I.list hq
   refine⟨pl.isList.typeIs,fun a e=>?_⟩
   cases e
   obtain⟨o,n,e,c,hd,_⟩:=pl
   exact⟨o,e,hd⟩
  ·refine⟨⟨o,I.kIn p o hk,hc⟩,fun a e=>?_⟩
   cases e
   exact⟨o,I.kIn _ o hk,hd⟩
  ·have z:∃o,s.heap.get? p=some o/\o.ExactDict:=by
    rcases hk with ⟨kvs,hk⟩|⟨kvs,hk⟩
    ·obtain⟨_,_,_,_,o,_,_,e,ex,_⟩:=I.hok p _ hk
     exact⟨o,e,ex⟩
    ·obtain⟨_,_,_,_,o,_,_,e,ex,_⟩:=I.hok p _ hk
     exact⟨o,e,ex⟩
   obtain⟨o,e,ex⟩:=z
   refine⟨⟨o,e,ex.1⟩,fun a e2=>?_⟩
   cases e2
   exact⟨o,e,ex.2.1⟩
  ·obtain⟨o,_,_,_,e,ex,_⟩:=I.hok p _ hk
   refine⟨⟨o,e,ex.1⟩,fun a e2=>?_⟩
   cases e2
   exact⟨o,e,ex.2.1⟩
 |_=>exact False.elim ty
def DD(K:W.Frag)(T:String)(r:V->List V->Hp->VK->Prop)(to:TE):TE:=fun σ H Q=>to σ H fun x H1=>tyV K T x H1/\r x [] H1 Q
structure Wh(K:W.Frag)(T:String)(r:V->List V->Hp->VK->Prop)(t:TA)(x:V)(σ:St)(H:Hp)(Q:VK):Prop where
 h:tyV K T x H
 q:t σ H fun xs H2=>r x xs H2 Q
def tBM(K:W.Frag)(T:String)(r:V->List V->Hp->VK->Prop)(to:TE)(t:TA):TE:=fun σ H Q=>to σ H fun x H1=>Wh K T r t x σ H1 Q
variable{o e:Expr}{es:List Expr}{to:TE}{t:TA}{name:Str}{apos cpos:Pos}{T id:String}{r:V->List V->Hp->VK->Prop}
theorem vL(pa:PlainAttrs T)(slot:Slot T name id) (hty:typeOf (.builtin id)=pure (.type "method_descriptor")) (hm:MtR X id r) (ho:PE X o to)
  (hbase:attributeBase o name X.env (eval o X.env)=eval o X.env:=by rfl) (hline:(apos.endLine==cpos.line)=true:=by rfl):PE X (.Call (.Attribute o name apos) [] [] cpos) (DD X.K T r to):=by
 intro kb s σ H Q I h
 refine wpAny_Call_method0_late hbase hline (thn (ho kb s σ H _ I h) fun v s1 ⟨x,H1,I1,r1,ty,q1⟩=>?_)
 obtain⟨h1,h2⟩:=yA I1 r1 ty
 exact⟨T,id,pa,slot,hty,h1,h2,Calls.callWith_builtin rfl (PySem.evalArgs_none (hm kb s1 σ H1 x [] v [] Q I1 r1 .nil q1))⟩
theorem eU(pa:PlainAttrs T)(slot:Slot T name id) (hty:typeOf (.builtin id)=pure (.type "method_descriptor")) (hm:MtR X id r) (ho:PE X o to) (ha:PA X (e::es) t)
  (hbase:attributeBase o name X.env (eval o X.env)=eval o X.env:=by rfl)
  (hfew:((backTo cpos (starEach (e::es) X.env)).all (fun x=>!x.1)&&(backToKw cpos (keywordEach [] X.env)).all (fun x=>x.1.isSome)
   && decide ((e::es).length+([]:List Keyword).length+(if ([]:List Keyword).isEmpty then 0 else 1) < 30))=true:=by rfl)
  (hline:(apos.endLine==cpos.line)=true:=by rfl) (hs:starEach (e::es) X.env=(false,eval e X.env)::starEach es X.env:=by rfl) (hplain:(backTo cpos (starEach es X.env)).any (·.1)=false:=by rfl) :
  PE X (.Call (.Attribute o name apos) (e::es) [] cpos) (tBM X.K T r to t):=by
 intro kb s σ H Q I h
 refine wpAny_Call_method_late hbase hfew hline rfl (thn (ho kb s σ H _ I h) fun v s1 ⟨x,H1,I1,r1,ty,q1⟩=>?_)
 obtain⟨h1,h2⟩:=yA I1 r1 ty
 refine⟨T,id,pa,slot,hty,h1,h2,?_⟩
 have hA:=ha cpos kb s1 σ H1 _ I1 q1
 rw [hs] at hA ⊢
 refine Calls.callWith_builtin (by show(false||(backTo cpos (starEach es X.env)).any (·.1))=false;rw [hplain]<;>rfl) (Calls.evalArgs_plain ?_)
 exact thn hA fun us s2 ⟨vs,H2,I2,r2,q2⟩=>hm kb s2 σ H2 x vs v us Q I2 r1 r2 q2
end
def MtM(X:Cx)(id:String)(r:V->List V->Hp->VK->Prop):Prop :=
 ∀(kb:List (Addr × Obj)) (s:Shared) (σ:St) (H:Hp) (x:V) (xs:List V) (v:Value) (us:List Value) (Q:VK),Inv X kb σ H s->dR x v->cy xs us->r x xs H Q ->
  wpAny (model X.prog X.w) X.A (call (.builtin id) (v::us)) (EP X kb σ Q) X.xe s
theorem cy.one:∀{x:V} {us:List Value},cy [x] us->∃u,us=[u]/\dR x u
 |_,_,.cons r .nil=>⟨_,rfl,r⟩
theorem cy.two{x y:V}{us:List Value}(h:cy [x,y] us):∃u v,us=[u,v]/\dR x u/\dR y v:=by
 cases h with|cons r h=>cases h with|cons q h=>cases h;exact⟨_,_,rfl,r,q⟩
theorem cy.zero:∀{us:List Value},cy [] us->us=[]
 |_,.nil=>rfl
theorem cy.dropLast{xs:List V}{us:List Value}(h:cy xs us):cy xs.dropLast us.dropLast:=by
 induction h with
 |nil=>exact .nil
 |cons r t ih =>
  cases t with
  |nil=>exact .nil
  |cons q t'=>exact .cons r ih
theorem sC{α:Type}(l:List α):l.eraseIdx (l.length - 1)=l.dropLast:=by
 induction l with
 |nil=>rfl
 |cons a r ih =>
  cases r with
  |nil=>rfl
  |cons b r =>
   have e:(a::b::r).length - 1=((b::r).length - 1)+1:=by
    have h1:(a::b::r).length=r.length+2:=rfl
    have h2:(b::r).length=r.length+1:=rfl
    omega
   rw [e,List.eraseIdx_cons_succ,ih]
   all_goals rfl
section
variable{X:Cx}{kb:List (Addr × Obj)}{σ:St}{H:Hp}{s:Shared}{l b:Addr}{xs ys zs:List V}
theorem Inv.lset{its its':List Value}{n:Nat}{f:Array Value->Array Value}{t':Nat}(I:Inv X kb σ H s)(hH:H l=some (.lst xs))
  (e:s.heap.get? l=some { cls:=.type "list",data:=.seq its.toArray n }) (hf:f its.toArray=its'.toArray) (hv:cy ys its') (hz:ys.length<=sizeLine) :
  Inv X kb σ (upd H l (.lst ys)) { s with heap:=s.heap.update l (Obj.mapSeq f),toks:=t' }:=by
 have q:=PySem.IsL.update e f
 rw [hf] at q
 refine I.write (x:=l) (e:=l) (by rw [hH];exact trivial) (.inl rfl) (fun b' u hb hu=>(Heap.get?_update_other s.heap (Obj.mapSeq f) (Ne.symm hb)).trans hu) ⟨_,q⟩ ?_
 exact⟨hz,its',_,hv,q⟩
theorem Inv.lnew{its:List Value}{t':Nat}(I:Inv X kb σ H s)(hv:cy ys its)(hz:ys.length<=sizeLine) :
  Inv X kb σ (upd H s.heap.objs.size (.lst ys)) { s with heap:=s.heap.push { cls:=.type "list",data:=.seq its.toArray },toks:=t' } :=
 I.laid (fun _ _ q=>Heap.get?_push_of_some _ q) (Nat.le_refl _) ⟨hz,its,0,hv,Heap.get?_push_size _ rfl⟩
theorem Inv.fresh(I:Inv X kb σ H s):H s.heap.objs.size=none:=I.hok.fresh (Nat.le_refl _)
theorem Inv.lstM(I:Inv X kb σ H s)(hH:H l=some (.lst xs)):xs.length<=sizeLine/\∃(its:List Value) (n:Nat),cy xs its/\xs.length=its.length/\s.heap.get? l=some { cls:=.type "list",data:=.seq its.toArray n }:=by
 obtain⟨z,its,n,r,e⟩:=I.hok l _ hH
 exact⟨z,its,n,r,r.length,e⟩
theorem xj{n:Nat}(h:n<=sizeLine):Builtin.List.listTooLong n=false:=by
 unfold Builtin.List.listTooLong
 exact decide_eq_false (by omega)
end
section
variable{X:Cx}
inductive Ad:V->List V->Hp->VK->Prop|mk{x vs H Q}(l xs y:_)(_:x=.ref l)(_:vs=[y])(_:H l=some (.lst xs))(_:xs.length < sizeLine)(_:Q .non (upd H l (.lst (xs++[y])))):Ad x vs H Q
theorem bZ:MtM X "list.append" Ad:=by
 intro kb s σ H x vs v us Q I rx rv h
 obtain⟨l,xs,y,rfl,rfl,hH,hz,q⟩:=h
 cases rx
 obtain⟨u,rfl,ru⟩:=rv.one
 obtain⟨z,its,n,r,hl,e⟩:=I.lstM hH
 refine call_meets F.slot_list_append ⟨_,e,rfl⟩ F.entry_list_append (F.args_list_append_2 _ _) (PySem.list_append l its.toArray n u (by rw [List.size_toArray];omega)) ⟨e,?_⟩
 refine⟨.non,_,I.lset (its':=its++[u]) hH e (by simp) (r.append (.cons ru .nil)) ?_,rfl,q⟩
 rw [List.length_append,List.length_singleton]
 omega
inductive Ap:V->List V->Hp->VK->Prop|mk{x vs H Q}(l b xs zs:_)(_:x=.ref l)(_:vs=[.ref b])(_:H l=some (.lst xs))(_:H b=some (.lst zs))(_:xs.length+zs.length<=sizeLine)(_:Q .non (upd H l (.lst (xs++zs)))):Ap x vs H Q
theorem uH:MtM X "list.extend" Ap:=by
 intro kb s σ H x vs v us Q I rx rv h
 obtain⟨l,b,xs,zs,rfl,rfl,hH,hB,hz,q⟩:=h
 cases rx
 obtain⟨u,rfl,ru⟩:=rv.one
 cases ru
 obtain⟨z,its,n,r,hl,e⟩:=I.lstM hH
 obtain⟨z2,its2,n2,r2,hl2,e2⟩:=I.lstM hB
 have hsz:its.toArray.size+its2.toArray.size<=sizeLine:=by rw [List.size_toArray,List.size_toArray];omega
 have hlong:¬(!its.toArray.isEmpty&&Builtin.List.listTooLong (its.toArray.size+its2.toArray.size))=true:=by
  rw [xj hsz,Bool.and_false]
  exact Bool.false_ne_true
 refine call_meets F.slot_list_extend ⟨_,e,rfl⟩ F.entry_list_extend (F.args_list_extend_2 _ _)
  (AutoSeq1.list_extend_list_list_0 l its.toArray n b its2.toArray n2 hlong (by rw [List.size_toArray];omega) (by omega)) ⟨e,e2,?_⟩
 refine⟨.non,_,I.lset (its':=its++its2) hH e (by simp) (r.append r2) ?_,rfl,q⟩
 rw [List.length_append]
 omega
inductive DZ:V->List V->Hp->VK->Prop|mk{x vs H Q}(l xs y:_)(_:x=.ref l)(_:vs=[])(_:H l=some (.lst xs))(_:xs[xs.length - 1]?=some y)(_:Q y (upd H l (.lst xs.dropLast))):DZ x vs H Q
theorem wc:MtM X "list.pop" DZ:=by
 intro kb s σ H x vs v us Q I rx rv h
 obtain⟨l,xs,y,rfl,rfl,hH,hy,q⟩:=h
 cases rx
 have hus:=rv.zero
 subst hus
 obtain⟨z,its,n,r,hl,e⟩:=I.lstM hH
 obtain⟨u,hu,ru⟩:=r.get hy
 have hy':its.toArray[its.toArray.size - 1]?=some u:=by
  show its.toArray[its.length - 1]?=some u
  rw [<-Array.getElem?_toList,<-hl]
  exact hu
 refine call_meets F.slot_list_pop ⟨_,e,rfl⟩ F.entry_list_pop (F.args_list_pop_1 _) (MeetsSeq.list_pop_last l its.toArray n u hy' (by rw [List.size_toArray];omega)) ⟨e,?_⟩
 refine⟨y,_,I.lset (its':=its.dropLast) hH e ?_ r.dropLast ?_,ru,q⟩
 ·show its.toArray.eraseIdxIfInBounds (its.toArray.size - 1)=its.dropLast.toArray
  rw [List.size_toArray,List.eraseIdxIfInBounds_toArray,sC]
 ·rw [List.length_dropLast]
  omega
inductive Cb:R2|mk{x y H Q}(l b xs zs:_)(_:x=.ref l)(_:y=.ref b)(_:H l=some (.lst xs))(_:H b=some (.lst zs))(_:xs.length+zs.length<=sizeLine)(_:∀p,H p=none->Q (.ref p) (upd H p (.lst (xs++zs)))):Cb x y H Q
theorem du:OpR X (binaryOp .Add) Cb:=by
 intro kb s σ H x y v u Q I rx ry h
 obtain⟨l,b,xs,zs,rfl,rfl,hH,hB,hz,q⟩:=h
 cases rx
 cases ry
 obtain⟨z,its,n,r,hl,e⟩:=I.lstM hH
 obtain⟨z2,its2,n2,r2,hl2,e2⟩:=I.lstM hB
 refine PySem.P.add_list e e2 ?_ (by rw [List.size_toArray,List.size_toArray];omega)
 have ea:its.toArray++its2.toArray=(its++its2).toArray:=by simp
 rw [ea]
 exact⟨.ref _,_,I.lnew (t':=s.toks) (r.append r2) (by rw [List.length_append];omega),rfl,q _ I.fresh⟩
end
section
variable{prog:Program}{w:World}{A:Around}{E:Value->Shared->Prop}{s:Shared}
end
section
variable{X:Cx}
end
section
variable{κ:Type}[DecidableEq κ]
def yO(kvs:List (κ × V))(k:κ):Option V:=(kvs.find? fun kv=>decide (kv.1=k)).map (·.2)
theorem xv{p:κ × V}{r:List (κ × V)}{k:κ}(e:p.1=k):yO (p::r) k=some p.2:=by simp [yO,List.find?_cons,e]
theorem xY{p:κ × V}{r:List (κ × V)}{k:κ}(e:¬p.1=k):yO (p::r) k=yO r k:=by simp [yO,List.find?_cons,e]
theorem xL.isSome_eq{o:Option V}{u:Option Value}(r:xL o u):o.isSome=u.isSome:=by
 cases o with
 |none=>cases u with
  |none=>rfl
  |some _=>exact(show False from r).elim
 |some _=>cases u with
  |none=>exact(show False from r).elim
  |some _=>rfl
theorem KV.val{kvs:List (κ × V)}{vs:List (κ × Value)}(r:KV kvs vs)(k:κ):xL (yO kvs k) (valueAt vs k):=by
 unfold KV at r
 induction r with
 |nil=>exact True.intro
 |@cons p q ps qs h t ih =>
  obtain⟨h1,h2⟩:=h
  by_cases e:p.1=k
  ·have e':q.1=k:=h1.symm.trans e
   have b:valueAt (q::qs) k=some q.2:=by simp [valueAt,List.find?_cons,e']
   rw [xv e,b];exact h2
  ·have e':¬q.1=k:=fun z=>e (h1.trans z)
   have b:valueAt (q::qs) k=valueAt qs k:=by simp [valueAt,List.find?_cons,e']
   rw [xY e,b];exact ih
end
theorem BY{P:Program}{w:World}{k:Key}{u:Value}(r:dR (kV k) u):(fH P w).is k u=true:=by
 cases k with
 |inl i=>obtain⟨t,e⟩:=(show ∃t,u=Value.int i t from r);subst e;exact ph P w i t
 |inr x=>obtain⟨t,e⟩:=(show ∃t,u=Value.str x t from r);subst e;exact gI P w x t
section
variable{P:Program}{w:World}{H:Hp}{h:Heap}{a:Addr}
end
section
variable{X:Cx}{kb:List (Addr × Obj)}{σ:St}{H:Hp}{s:Shared}{a:Addr}{y v:V}{u r:Value}{o:Option V}{A:Around}{E:Value->Shared->Prop}
end
section
variable{X:Cx}{kb:List (Addr × Obj)}{σ:St}{H:Hp}{s:Shared}{a:Addr}{kvs:List (Key × V)}{k:Key}{u:Value}{A:Around}{E:Value->Shared->Prop}
end
def Dr(i:Expr):Prop:=∀ov iv,subscripted i false ov iv=operate [ov,iv] (getItem ov iv)
theorem zW{prog:Program}{w:World}{A:Around}{E:Value->Shared->Prop}{s:Shared}{env:Env}{value slice:Expr}{pos:Pos}{T id:String}{Q:Value->Shared->Prop}
  (hl:typeLookup (.type T) "__getitem__"=pure (some (.builtin id))) (hs:Dr slice)
  (h:wpAny (model prog w) A (eval value env) (fun o s₁=>wpAny (model prog w) A (eval slice env) (fun i s₂=>s₂.TypeIs o T/\wpAny (model prog w) A (getItem o i) Q E s₂) E s₁) E s) :
  wpAny (model prog w) A (eval (.Subscript value slice pos) env) Q E s:=by
 refine Subscript_ (wpAny_mono h (fun o s₁ h₁=>wpAny_mono h₁ (fun i s₂ h₂=>?_) fun _ _ x=>x) fun _ _ x=>x)
 obtain⟨hT,h₂⟩:=h₂
 unfold subscriptTail
 refine wpAny_bind ?_
 rw [getitemInPython_of_ne hT.not_modules]
 refine wpAny_bind (wpAny_specialOf hT hl ?_)
 have fin:wpAny (model prog w) A (subscripted slice false o i) (fun r s₃=>wpAny (model prog w) A (letTemporaryGo value o r >>= fun _=>pure r) Q E s₃) E s₂:=by
  rw [hs o i]
  exact wpAny_operating (wpAny_mono h₂ (fun r s₃ h₃=>wpAny_bind (wpAny_letTemporaryGo (wpAny_pure h₃))) fun _ _ x=>x)
 first
  |exact wpAny_pure (wpAny_bind fin)
  |exact wpAny_bind (wpAny_pure (wpAny_bind fin))
  |exact wpAny_bind fin
section
variable{X:Cx}{o i e value:Expr}{pos pos' tpos:Pos}{td ty tv:TE}
end
section
variable{X:Cx}{pos:Pos}
end
structure M1(X:Cx)(o:Expr)(m:Str)(apos:Pos)(e:Expr)(cpos:Pos):Prop where
 base:attributeBase o m X.env (eval o X.env)=eval o X.env
 few:((backTo cpos (starEach [e] X.env)).all (fun x=>!x.1)&&(backToKw cpos (keywordEach [] X.env)).all (fun x=>x.1.isSome)
  && decide (([e]:List Expr).length+([]:List Keyword).length+(if ([]:List Keyword).isEmpty then 0 else 1) < 30))=true
 line:(apos.endLine==cpos.line)=true
 trees:backTo cpos (starEach [e] X.env)=[(false,eval e X.env)]
structure M2(X:Cx)(o:Expr)(m:Str)(apos:Pos)(e f:Expr)(cpos:Pos):Prop where
 base:attributeBase o m X.env (eval o X.env)=eval o X.env
 few:((backTo cpos (starEach [e,f] X.env)).all (fun x=>!x.1)&&(backToKw cpos (keywordEach [] X.env)).all (fun x=>x.1.isSome)
  && decide (([e,f]:List Expr).length+([]:List Keyword).length+(if ([]:List Keyword).isEmpty then 0 else 1) < 30))=true
 line:(apos.endLine==cpos.line)=true
 trees:backTo cpos (starEach [e,f] X.env)=[(false,eval e X.env),(false,eval f X.env)]
section
variable{X:Cx}{kb:List (Addr × Obj)}{σ:St}{H:Hp}{s:Shared}{a:Addr}{y d:V}{u r:Value}{o:Option V}{A:Around}{E:Value->Shared->Prop}
end
section
variable{X:Cx}{o e f:Expr}{apos cpos:Pos}{td ty tx:TE}
end
section
variable{X:Cx}{kb:List (Addr × Obj)}{σ:St}{H:Hp}{s:Shared}{a:Addr}{kvs:List (Key × V)}{A:Around}{E:Value->Shared->Prop}
end
section
variable{X:Cx}{kb:List (Addr × Obj)}{σ:St}{H:Hp}{s:Shared}{a:Addr}{y:V}{u:Value}{A:Around}{E:Value->Shared->Prop}
end
end L2
namespace Att
open PySem PySem.W PySem.Calls PyProof.Rows
theorem jW{P:Params}{h:Heap}:∀(ns:List Int) (vs:List Value),WellAll P h vs (ns.map WData.int)->IntsAre vs ns:=by
 intro ns
 induction ns with
 |nil =>
  intro vs w
  rw [List.map_nil] at w
  cases w
  exact .nil
 |cons n ns ih =>
  intro vs w
  rw [List.map_cons] at w
  cases w with
  |cons a b =>
   cases a
   exact .cons _ _ (ih _ b)
theorem uB{l:OpenLaw}{n:Nat}(hn:l.most=some n){P:Params}{h:Heap}{args:List WData}{vals:List Value}
  (hpre:l.row.toRowW.claim.pre args=true) (hwl:WellAll P h vals args) :
  ∃a vs ns,vals=[Value.ref a]/\args=[WData.list (ns.map WData.int)]/\h.get? a=some { cls:=.type "list",data:=.seq vs.toArray }/\IntsAre vs ns/\ns.length<=n:=by
 have hsh:WShape.hasAll [] args [.list .int]=true:=(pre_splitW hpre).1
 have hc:l.pre.holds [] { args:=args }=true:=(pre_splitW hpre).2
 obtain⟨d,r,rfl,h1,h2⟩:=hasAllW_cons hsh
 obtain rfl:=hasAllW_nil h2
 obtain⟨xs,rfl,h3⟩:=hasW_list h1
 obtain⟨ns,rfl⟩:=items_int h3
 have hlen:ns.length<=n:=by
  unfold OpenLaw.pre at hc
  have h4:(WTm.not (.lt (.lit (.int (n:Int))) (.len (.arg 0)))).holds [] { args:=[.list (ns.map .int)] }=true:=by
   have h4:=(holds_andW hc).1
   rw [hn] at h4
   exact h4
  have h5:=condW_of h4 (w_not (w_lt w_lit (w_len_list (w_arg rfl))))
  rw [List.length_map] at h5
  refine Nat.le_of_not_lt fun q=>?_
  have q':(n:Int) < ((ns.length:Nat):Int):=by omega
  first
   |(rw [decide_eq_true q'] at h5;exact absurd h5 (by decide))
   |(simp at h5;omega)
 cases hwl with
 |cons w1 w2 =>
  cases w2
  cases w1 with
  |list ho hall=>exact⟨_,_,ns,rfl,rfl,ho,jW ns _ hall,hlen⟩
theorem vv(l:OpenLaw)(args:List WData):l.row.toRowW.claim.post args (.bool true) args=true :=
 postW_of (r:=l.row.toRowW) (X:=(true==true))
  (show WShape.has [] (.bool true) .bool=true by first|rfl|decide|simp [WShape.has,WShape.arms,WShape.armsAll])
  (show(WTm.eq .res (.lit (.bool true))).value [] { args:=args,res:=some (.bool true),after:=args }=some (.bool (true==true)) from w_eq_bool (w_res rfl) w_lit) rfl
theorem attach_call{l:OpenLaw}{n:Nat}{q:Program}{loose:List Str}{XP:(Str->Option Value)->Heap->Prop}{YP:World->Heap->Prop}{d:DefRec}
  (hn:l.most=some n) (hdf:d.params.defaults=[])
  (call:∀(w:World) (s₀ s₁:Shared) (mg mb:Str->Option Value) (fa:Addr) (o:Obj) (pm cd doc:Value) (a:Addr) (vs:List Value) (ns:List Int),
   Ground q loose [] XP w s₀ mg mb s₁.heap->YP w s₁.heap ->
   s₁.heap.get? fa=some o->o.data=.func (docDef d.name d.params d.body d.scope pm cd doc)->s₁.heap.CodeRec cd d.name->mg d.name=some (.ref fa) ->
   s₁.heap.get? a=some { cls:=.type "list",data:=.seq vs.toArray }->IntsAre vs ns->ns.length<=n->s₁.gens=#[] ->
   codeAny (model l.prog w) callerA (.call (.ref fa) ⟨[.ref a],[]⟩) (fun r s'=>r=.ok (.ret (.bool true))/\OldK s₁.heap s'.heap/\s'.os=s₁.os/\AllBare s'.gens) s₁) :
  WalkO q loose XP YP l.row.toRowW d [] (fun f vs=>PySem.call f vs):=by
 intro w s₀ s₁ mg mb G Y fa o pm cd doc dV kV ho hd hcd hD hmg hg args vals as hpre hlay hrd hwl hlo
 obtain rfl:dV=.none:=Dflts.none hD hdf
 obtain rfl:kV=.none:=Dflts.noKw hD
 obtain⟨a,vs,ns,rfl,rfl,hobj,hints,hlen⟩:=uB hn hpre hwl
 refine enter_call (codeAny_mono (call w s₀ s₁ mg mb fa o pm cd doc a vs ns G Y ho (fd_plain hd) hcd hmg hobj hints hlen hg) fun r s' hq=>?_)
 obtain⟨rfl,h2,h3,h4⟩:=hq
 exact⟨.inl ⟨.bool true,.bool true,[],rfl,fun _=>rfl,.bool true,vv l _,fun _=>⟨List.Pairwise.nil,fun _ hm=>(nomatch hm)⟩⟩,h2,h3,h4⟩
section
variable{prog:Program}{w:World}{A:Around}{E:Value->Shared->Prop}{s:Shared}{K:Frag}
def Dv(h:Heap)(L d:Addr):List (Addr × Obj):=(List.range h.objs.size).filterMap fun a=>if a=L\/a=d then none else (h.get? a).map fun o=>(a,o)
end
end Att
namespace L2
open PySem PySem.Spec PyProof.Rows
theorem nG:∀{vs:List Value} {ns:List Int},IntsAre vs ns->cy (ns.map V.int) vs
 |_,_,.nil=>.nil
 |_,_,.cons n t h=>.cons ⟨t,rfl⟩ (nG h)
def CK(H:Hp):Prop:=∀b,H b=none\/∃o xs,H b=some (.frz o (.lst xs))
theorem xV{P:Program}{w:World}{K:W.Frag}{mg mb:Str->Option Value}{CX:CXT}{k:Nat}{fa a:Addr}{fd:FuncData}{x:Str}{sp:Sp}{s₁:Shared}{vs:List Value}{ns:List Int}
  (KX:K.In s₁.heap) (hns:s₁.heap.Ns mainGlobals mg) (hb:s₁.heap.Ns builtinsNs mb) (hbb:∀x:Str,x≠"__name__"->mb x=bootBuiltins x) (hlim:s₁.heap.NoLimit) (hg:s₁.gens=#[])
  (ha:s₁.heap.get? a=some { cls:=.type "list",data:=.seq vs.toArray }) (hi:IntsAre vs ns) (hl:ns.length<=sizeLine) (hr:bq k callerA)
  (F:∀base:Heap,K.In base->base.Ns mainGlobals mg->aV P w K mg base CX k fa fd [x] sp) (hbind:∀(s:Shared) (u:Value),BindsTo s fd ⟨[u],[]⟩ [(x,u)])
  (hsp:∀H:Hp,CK H->SqL K H a (ns.map V.int)->sp [.ref a] H (fun v _=>v=.bl true) fun _ _ _=>False)
  (hCX:∀H e s',CX [] H s₁ (fun _ _ _=>False) e s'->False) :
  codeAny (model P w) callerA (.call (.ref fa) ⟨[.ref a],[]⟩) (fun r s'=>r=.ok (.ret (.bool true))/\OldK s₁.heap s'.heap/\s'.os=s₁.os/\AllBare s'.gens) s₁:=by
 have rv:=nG hi
 have lenV:=hi.length
 have core:∀H:Hp,CK H->SqL K H a (ns.map V.int)->HOk P w H s₁.heap->(∀b,H b≠none->b=a)->(H a≠none->K.lookup a=none) ->
   codeAny (model P w) callerA (.call (.ref fa) ⟨[.ref a],[]⟩) (fun r s'=>r=.ok (.ret (.bool true))/\OldK s₁.heap s'.heap/\s'.os=s₁.os/\AllBare s'.gens) s₁:=by
  intro H hO hS hok hA hK
  have base_of:∀{b:Addr} {o:Obj},s₁.heap.get? b=some o->H b=none->(xa s₁.heap H).get? b=some o:=fun e n=>xM e n
  have noA:∀{b:Addr} {o:Obj} {es:Array DictEntry} {ep:Nat},s₁.heap.get? b=some o->o.data=.dict es ep->H b=none:=fun {b o es ep} e d=>by
   cases q:H b with
   |none=>rfl
   |some u =>
    have e':b=a:=hA b (by rw [q];simp)
    subst e'
    rw [ha] at e;cases e
    have d':Data.seq vs.toArray _=Data.dict es ep:=d
    cases d'
  have nsK:∀{b:Addr} {m:Str->Option Value},s₁.heap.Ns b m->(xa s₁.heap H).Ns b m:=fun {b m} ⟨o,es,ep,e,d,r⟩=>⟨o,es,ep,base_of e (noA e d),d,r⟩
  have hKb:K.In (xa s₁.heap H):=fun b o e=>base_of (KX b o e) (by
   cases q:H b with
   |none=>rfl
   |some u =>
    have e':b=a:=hA b (by rw [q];simp)
    subst e'
    rw [hK (by rw [q];simp)] at e;cases e)
  have hM:Mod K mg (xa s₁.heap H):=⟨hKb,nsK hns,⟨mb,nsK hb,hbb⟩,let ⟨mc,h1,h2⟩:=hlim;⟨mc,nsK h1,h2⟩⟩
  have e0:B8 P w K mg (xa s₁.heap H) callerA [] s₁ H:=⟨rfl,hM,fun b o e=>zQ e,Nat.le_of_eq (va _ _),trivial,fun b hb=>absurd (show b∈([]:List Addr) from hb) (by simp),hok,.of_eq hg⟩
  refine codeAny_mono ((F _ hKb (nsK hns)).run callerA [] s₁ H ⟨[.ref a],[]⟩ [.ref a] [.ref a] _ _ hr e0 (hbind s₁ (.ref a)) (.cons rfl .nil) (hsp H hO hS)) fun r s' h=>?_
  cases r with
  |error e=>exact(hCX H e s' h).elim
  |ok fl =>
   cases fl with
   |next=>exact False.elim h
   |brk=>exact False.elim h
   |cont=>exact False.elim h
   |ret u =>
    obtain⟨v,H',os,bare,un,hok',r',q⟩:=h
    have q':v=.bl true:=q
    subst q'
    obtain rfl:u=Value.bool true:=r'
    refine⟨rfl,OldK.of_keep fun b o e=>?_,os,bare⟩
    cases q:H b with
    |none=>exact un.keep b o e q (by intro z;exact absurd (show b∈([]:List Addr) from z) (by simp)) (by simp)
    |some u =>
     rcases hO b with z|⟨ob,xs,z⟩
     ·rw [q] at z;cases z
     ·have z2:=un.frzs b ob _ z
      obtain⟨e1,_⟩:=hok b _ z
      obtain⟨e2,_⟩:=hok' b _ z2
      rw [e] at e1;cases e1
      exact e2
 cases hk:K.lookup a with
 |some o =>
  have e:=KX a o hk
  rw [ha] at e
  cases e
  refine core (fun _=>none) (fun _=>.inl rfl) (.inr ⟨_,vs.toArray,_,hk,rfl,rfl,rfl,by rw [List.size_toArray,lenV];exact hl,by simpa using rv⟩) (fun b u z=>by have z':(none:Option HO)=some u:=z;cases z') (fun b z=>absurd rfl z) fun z=>absurd rfl z
 |none =>
  refine core (fun b=>if b=a then some (.frz { cls:=.type "list",data:=.seq vs.toArray } (.lst (ns.map V.int))) else none) (fun b=>?_) (.inl (.inr ⟨{ cls:=.type "list",data:=.seq vs.toArray },if_pos rfl⟩)) (fun b u z=>?_) (fun b z=>?_) fun _=>hk
  ·by_cases hb:b=a
   ·exact .inr ⟨_,_,if_pos hb⟩
   ·exact .inl (if_neg hb)
  ·by_cases hb:b=a
   ·have z':=(if_pos hb).symm.trans z
    cases z'
    subst hb
    exact⟨ha,by rw [List.length_map];exact hl,vs,_,rv,ha⟩
   ·have z':=(if_neg hb).symm.trans z
    cases z'
  ·by_cases hb:b=a
   ·exact hb
   ·exact absurd (if_neg hb) z
abbrev KOf{K:W.Frag}{h:Heap}(_:K.In h):W.Frag:=K
theorem walk_of{l:W.OpenLaw}{n k:Nat}{q:Program}{loose:List Str}{XP:(Str->Option Value)->Heap->Prop}{YP:World->Heap->Prop}{d:DefRec}{K:Params->W.Frag}{CX:World->CXT}{sp:World->Sp}{x:Str}
  (hn:l.most=some n) (hn2:n<=sizeLine) (hdf:d.params.defaults=[]) (hr:bq k callerA)
  (hY:∀(w:World) (h:Heap),YP w h->(K w.params).In h)
  (F:∀(w:World) (mg:Str->Option Value) (fa:Addr) (h:Heap),(K w.params).In h->h.Ns mainGlobals mg->mg d.name=some (.ref fa) ->
   ∃fd:FuncData,(∀(s:Shared) (u:Value),BindsTo s fd ⟨[u],[]⟩ [(x,u)]) /\
    ∀base:Heap,(K w.params).In base->base.Ns mainGlobals mg->aV l.prog w (K w.params) mg base (CX w) k fa fd [x] (sp w))
  (hsp:∀(w:World) (H:Hp) (a:Addr) (ns:List Int),ns.length<=n->CK H->SqL (K w.params) H a (ns.map V.int)->sp w [.ref a] H (fun v _=>v=.bl true) fun _ _ _=>False)
  (hCX:∀(w:World) (H:Hp) (s:Shared) (e:Value) (s':Shared),CX w [] H s (fun _ _ _=>False) e s'->False) :
  W.WalkO q loose XP YP l.row.toRowW d [] (fun f vs=>PySem.call f vs):=by
 refine Att.attach_call hn hdf fun w s₀ s₁ mg mb fa o pm cd doc a vs ns G Y ho hd hcd hmg hobj hints hlen hg=>?_
 have KX:=hY w _ Y
 obtain⟨fd,hb,hF⟩:=F w mg fa _ KX G.T.g hmg
 exact xV KX G.T.g G.T.b G.T.builtins G.T.nolimit hg hobj hints (Nat.le_trans hlen hn2) hr hF hb (fun H hO hS=>hsp w H a ns hlen hO hS) fun H e s'=>hCX w H s₁ e s'
def ay(s:Stmt):Arguments:=match s with
 |.FunctionDef _ a _ _ _ _ _ _ _ _=>a
 |_=>{ posonlyargs:=[],args:=[],vararg:=none,kwonlyargs:=[],kw_defaults:=[],kwarg:=none,defaults:=[] }
def ap(s:Stmt):List Stmt:=match s with
 |.FunctionDef _ _ b _ _ _ _ _ _ _=>b
 |_=>[]
def ah(s:Stmt):Scope:=match s with
 |.FunctionDef _ _ _ _ _ _ sc _ _ _=>sc
 |_=>{ kind:=.function,names:=[],isGenerator:=false,isCoroutine:=false }
abbrev CX0:CXT:=fun _ _ _ _ _ _=>False
abbrev E0:XK:=fun _ _ _=>False
theorem aC{X:Cx}:jI CX0 X E0:=fun _ _ _ _ _ _ _ h=>h.elim
structure Fun(K:W.Frag)(x qual:Str)(st:Stmt)(f:Addr)(fd:FuncData):Prop where
 ex:∃(oc:Value) (od:Option Addr) (kV doc pm:Value) (an:Option Addr) (cdv ct:Value) (osl:Array (Option Value)),
  fd=W.fnOf x qual (ay st) (ap st) (ah st) .none kV doc pm an cdv ct/\K.lookup f=some ⟨oc,od,.func fd,osl⟩/\W.codeIn K cdv qual=true
 kp:W.keepIn K (.ref f)=true
section
variable{P:Program}{w:World}{K:W.Frag}{mg:Str->Option Value}{base:Heap}
theorem Fun.ok{x qual:Str}{st:Stmt}{f:Addr}{fd:FuncData}{N ps:List Str}{k:Nat}{sp:Sp}(F:Fun K x qual st f fd)(S:ax N ps (ah st))(len:∀vs H Q E,sp vs H Q E->vs.length=ps.length)
  (hbody:∀(cdv:Value) (A:Around) (q0:List Env) (s:Shared) (H:Hp) (vs:List V) (Q:VK) (E:XK),bq k (A.deeper (envOfC qual (ah st) s.heap.objs.size f cdv))->sp vs H Q E ->
   ∃t,PSs (dP CX0 P w K mg base N qual (ah st) f cdv A q0 s H E).nox (ap st) t/\t { nx:=fun _ H'=>Q .non H',rt:=Q } (gH N vs) H):aV P w K mg base CX0 (k+1) f fd ps sp:=by
 obtain⟨oc,od,kV,doc,pm,an,cdv,ct,osl,rfl,lk,hcd⟩:=F.ex
 refine Bz lk hcd S len fun A q0 s H vs Q E hr hsp=>?_
 obtain⟨t,h,q⟩:=hbody cdv A q0 s H vs Q E hr hsp
 exact⟨t,h.nox,q⟩
theorem Fun.binds{x qual:Str}{st:Stmt}{f:Addr}{fd:FuncData}{ps:List Str}(F:Fun K x qual st f fd)
  (h:∀(kV doc pm:Value) (an:Option Addr) (cdv ct:Value) (us:List Value),us.length=ps.length->bindArgs (W.fnOf x qual (ay st) (ap st) (ah st) .none kV doc pm an cdv ct) ⟨us,[]⟩=pure (ps.zip us)):aX K fd ps []:=by
 obtain⟨oc,od,kV,doc,pm,an,cdv,ct,osl,rfl,lk,hcd⟩:=F.ex
 exact .all (h kV doc pm an cdv ct)
theorem aG{x qual:Str}{st:Stmt}{f:Addr}{oc:Value}{od an:Option Addr}{osl:Array (Option Value)}{kV doc pm cdv ct:Value}(l:K.lookup f=some ⟨oc,od,.func (W.fnOf x qual (ay st) (ap st) (ah st) .none kV doc pm an cdv ct),osl⟩)
  (c:W.codeIn K cdv qual=true) (k:W.keepIn K (.ref f)=true):Fun K x qual st f (W.fnOf x qual (ay st) (ap st) (ah st) .none kV doc pm an cdv ct):=⟨⟨oc,od,kV,doc,pm,an,cdv,ct,osl,rfl,l,c⟩,k⟩
end
theorem oM{n:Nat}(h:n<=1000):n < sizeLine:=Nat.lt_of_le_of_lt h (by decide)
section
variable{X:Cx}
theorem pv(i:Nat){x:Str}{pos:Pos}(hN:X.N[i]?=some x:=by rfl)(hv:Vis X.env.scope x:=by first|exact Or.inl rfl|exact Or.inr (Or.inl rfl)|exact Or.inr (Or.inr rfl)) (hd:(x==("__debug__":Str))=false:=by decide)
  (hcd:(x==("__classdict__":Str))=false:=by decide):PE X (.Name x pos) (wM i):=Bi hN hv hd hcd
theorem bx{A B:Prop}(h:B):if false=true then A else B:=by
 rw [if_neg Bool.false_ne_true]
 exact h
theorem bU{A B:Prop}(h:A):if true=true then A else B:=by
 rw [if_pos rfl]
 exact h
theorem aO{c A B:Prop}[Decidable c](h1:c->A)(h2:¬c->B):if c then A else B:=by
 by_cases h:c
 ·rw [if_pos h]
  exact h1 h
 ·rw [if_neg h]
  exact h2 h
def aM(H H':Hp):Prop:=∀b o,H b=some o->H' b=some o
theorem aM.refl(H:Hp):aM H H:=fun _ _ h=>h
theorem aM.trans{H H1 H2:Hp}(a:aM H H1)(b:aM H1 H2):aM H H2:=fun c o h=>b c o (a c o h)
theorem aM.seq{K:W.Frag}{H H':Hp}{a:Addr}{xs:List V}(e:aM H H')(h:SqL K H a xs):SqL K H' a xs:=by
 rcases h with (h|⟨o,h⟩)|h
 ·exact .inl (.inl (e _ _ h))
 ·exact .inl (.inr ⟨o,e _ _ h⟩)
 ·exact .inr h
end
section
variable{κ:Type}[DecidableEq κ]
end
def Its(z:Str):It:=⟨fun i _=>i < z.cps.size,fun i H x H'=>H'=H/\∃c,z.cps[i]?=some c/\x=.str ⟨#[c]⟩,fun i _=>z.cps.size<=i⟩
theorem wj{P:Program}{w:World}{K:W.Frag}{tg:Expr}(it:Addr)(z:Str)(t:Tok)(wide:Bool) :
  zK P w K tg (Its z) [it] it (fun i h=>h.IsStrIter it (if wide then "str_iterator" else "str_ascii_iterator") z t i) where
 mem:=List.mem_singleton.mpr rfl
 obj:=fun i h st b hb=>by
  obtain rfl:b=it:=List.mem_singleton.mp hb
  obtain⟨o,e,_,d⟩:=st
  exact⟨o,e,fun v q=>by rw [d] at q;cases q⟩
 keep:=fun i h h' st k=>by
  obtain⟨o,e,r⟩:=st
  exact⟨o,k it (List.mem_singleton.mpr rfl) o e,r⟩
 item:=by
  intro X hP hw hK hc i kb s σ H E I hf st hg
  subst hP hw hK
  obtain⟨f0,f1,_,f3,f4,f5⟩:=hf it (List.mem_singleton.mpr rfl)
  have hi:i < z.cps.size:=hg
  have hz:z.cps[i]?=some z.cps[i]:=by simp [hi]
  have fin:∀h',h'.IsStrIter it (if wide then "str_iterator" else "str_ascii_iterator") z t (i+1)->Heap.SameBut it s.heap h' ->
    ∃u,(some (Value.str ⟨#[z.cps[i]]⟩ s.toks))=some u/\wpAny (model X.prog X.w) X.A (letOwnedTupleGo tg (.ref it) u)
     (fun _ s2=>∃x H',Inv X kb σ H' s2/\dR x u/\(Its z).yld i H x H'/\s2.heap.IsStrIter it (if wide then "str_iterator" else "str_ascii_iterator") z t (i+1)/\∀b∈[it],H' b=none) E { s with heap:=h',toks:=s.toks+1 }:=by
   intro h' st' sb
   have I1:Inv X kb σ H { s with heap:=h',toks:=s.toks+1 }:=I.turned (fun b o hb e=>(sb.2 b hb).trans e) f0 f1 f3 f4 f5
   obtain⟨o,e,c,d⟩:=id st'
   refine⟨_,rfl,wJ (s:={ s with heap:=h',toks:=s.toks+1 }) e c d (by cases wide<;>decide) ⟨.str ⟨#[z.cps[i]]⟩,H,I1,⟨_,rfl⟩,⟨rfl,_,hz,rfl⟩,st',fun b hb=>(hf b hb).1⟩⟩
  cases wide with
  |true=>exact wpAny_pyNext_wide_item st hz fun h' st' sb=>fin h' st' sb
  |false=>exact wpAny_pyNext_ascii_item st hz fun h' st' sb=>fin h' st' sb
 done:=by
  intro X hP hw hK hc i kb s σ H E I hf st hg
  subst hP hw hK
  obtain⟨f0,f1,_,f3,f4,f5⟩:=hf it (List.mem_singleton.mpr rfl)
  have hi:z.cps.size<=i:=hg
  have hz:z.cps[i]?=none:=by simp [hi]
  cases wide with
  |true=>exact wpAny_pyNext_wide_end (I.ok.hd hc) st hz fun h' eb=>⟨rfl,I.turned (t':=s.toks) (fun b o hb e=>eb b o hb e) f0 f1 f3 f4 f5⟩
  |false=>exact wpAny_pyNext_ascii_end (I.ok.hd hc) st hz fun h' eb=>⟨rfl,I.turned (t':=s.toks) (fun b o hb e=>eb b o hb e) f0 f1 f3 f4 f5⟩
 self:=fun _ _ _ _ _ st h=>by
  cases wide with
  |true=>exact wpAny_pyIter_striter_wide st h
  |false=>exact wpAny_pyIter_striter_ascii st h
section
variable{X:Cx}{tg:Expr}
def DP(tl:TE):TI:=fun σ H R=>tl σ H fun x H1=>∃z,x=.str z/\R (Its z) H1
theorem rR{l:Expr}{tl:TE}(hl:PE X l tl):PI X tg l (DP tl):=by
 intro kb s σ H R I h
 refine thn (hl kb s σ H _ I h) fun v s1 ⟨x,H1,I1,r1,q1⟩=>?_
 obtain⟨z,e,q⟩:=q1
 subst e
 obtain⟨t,rfl⟩:=r1
 have fin:∀(wide:Bool),PIE X kb σ tg R (.ref s1.heap.objs.size) { s1 with heap:=s1.heap.push { cls:=.type (if wide then "str_iterator" else "str_ascii_iterator"),data:=.fields #[.str z t,.int 0 0] } }:=by
  intro wide
  refine⟨s1.heap.objs.size,[s1.heap.objs.size],_,_,H1,rfl,I1.kept (t':=s1.toks) fun b o e=>Heap.get?_push_of_some _ e,wj _ z t wide,⟨_,Heap.get?_push_size _ rfl,rfl,rfl⟩,fun b hb=>?_,q⟩
  obtain rfl:b=s1.heap.objs.size:=List.mem_singleton.mp hb
  exact I1.fpOk (Nat.le_refl _) (I1.hok.fresh (Nat.le_refl _))
 cases ha:z.cps.all (· < 128) with
 |false=>exact wpAny_pyIter_wide ha (fin true)
 |true=>exact wpAny_pyIter_ascii ha (fin false)
end
theorem zF{z:Str}{g:TG}{tb:TS}{D:ja}{σ:St}{H:Hp}(Pv:Nat->St->Hp->Prop)(h0:Pv 0 σ H)
  (hs:∀i c σ H,z.cps[i]?=some c->Pv i σ H->g (.str ⟨#[c]⟩) σ H fun σ2 H2=>tb { D with nx:=Pv (i+1),ct:=Pv (i+1),bk:=D.nx } σ2 H2) (hd:∀σ H,Pv z.cps.size σ H->D.nx σ H) :
  ∃W:Nat->Nat->St->Hp->Prop,(∃m,W 0 m σ H)/\∀i m σ H,W i m σ H ->
   ((Its z).stop i H/\D.nx σ H)\/((Its z).go i H/\∃N:St->Hp->Prop,(∀σ' H',N σ' H'->∃m',m' < m/\W (i+1) m' σ' H')/\∀x H',(Its z).yld i H x H'->g x σ H' fun σ2 H2=>tb { D with nx:=N,ct:=N,bk:=D.nx } σ2 H2):=by
 refine⟨fun i m σ H=>m=z.cps.size - i/\i<=z.cps.size/\Pv i σ H,⟨z.cps.size,Nat.sub_zero _ |>.symm,Nat.zero_le _,h0⟩,?_⟩
 rintro i m σ H ⟨rfl,hi,p⟩
 by_cases hlt:i < z.cps.size
 ·refine .inr ⟨hlt,Pv (i+1),fun σ' H' p'=>⟨z.cps.size - (i+1),by omega,rfl,hlt,p'⟩,fun x H' y=>?_⟩
  obtain⟨e,c,hc,ex⟩:=y
  subst e ex
  exact hs i c σ _ hc p
 ·obtain rfl:i=z.cps.size:=by omega
  exact .inl ⟨Nat.le_refl _,hd σ H p⟩
abbrev blk(X:Cx)(N':List Str)(sc:Scope)(cl:List (Str × Addr))(s₀:Shared)(H₀:Hp)(C:Addr)(ex:List Addr):Cx :=
 { X with N:=N',s₀:=s₀,H₀:=H₀,env:=compEnvC sc cl C X.env,q0:=X.stack,ex:=ex,fn:=fun _=>false,xe:=fun _ _=>False }
structure jw(X:Cx)(caps:List Str)(sc:Scope)(cl:List (Str × Addr)):Prop where
 kind:sc.kind=.function
 nocell:∀y∈sc.names,y.2≠.cell
 names:∀y∈sc.names,y.2=.local->sc.names.lookup y.1=some .local
 clos:closureFor sc X.env=pure cl
 has:(sc.names.all fun y=>y.2 != .free||(cl.lookup y.1).isSome)=true
 sub:∀y∈cl,X.env.cells.lookup y.1=some y.2
 caps:∀x∈caps,(X.env.kindOf x=some .cell\/X.env.kindOf x=some .free)/\(cl.lookup x).isSome=true/\((relabel sc X.env).names.lookup x=some .cell\/(relabel sc X.env).names.lookup x=some .free)
theorem gE{env:Env}:∀{names:List (Str × NameKind)} {x:Str} {k:NameKind},(names.map fun(n,k)=>if (k==NameKind.free&&env.scope.kind==.function&&env.kindOf n==some .cell) then (n,NameKind.cell) else (n,k)).lookup x=some k ->
  ∃k',(x,k')∈names/\(k'=k\/k'=.free)
 |[],_,_,h=>by simp at h
 |(n,k0)::r,x,k,h=>by
  have h':List.lookup x ((if (k0==NameKind.free&&env.scope.kind==.function&&env.kindOf n==some .cell)=true then (n,NameKind.cell) else (n,k0))::(r.map fun(n,k)=>if (k==NameKind.free&&env.scope.kind==.function&&env.kindOf n==some .cell) then (n,NameKind.cell) else (n,k)))=some k:=h
  by_cases hx:x=n
  ·subst hx
   refine⟨k0,List.mem_cons_self,?_⟩
   by_cases hc:(k0==NameKind.free&&env.scope.kind==.function&&env.kindOf x==some .cell)=true
   ·have hf:(k0==NameKind.free)=true:=by
     rw [Bool.and_eq_true,Bool.and_eq_true] at hc
     exact hc.1.1
    exact .inr (by cases k0<;>first|rfl|exact absurd hf (by decide))
   ·rw [if_neg hc,List.lookup_cons_self] at h'
    exact .inl (Option.some.inj h')
  ·have hb:(x==n)=false:=beq_eq_false_iff_ne.mpr hx
   have h2:(r.map fun(n,k)=>if (k==NameKind.free&&env.scope.kind==.function&&env.kindOf n==some .cell) then (n,NameKind.cell) else (n,k)).lookup x=some k:=by
    split at h'<;>simpa [List.lookup_cons,hb] using h'
   obtain⟨k',hm,hk⟩:=gE h2
   exact⟨k',List.mem_cons_of_mem _ hm,hk⟩
theorem jw.hasc{X:Cx}{caps:List Str}{sc:Scope}{cl:List (Str × Addr)}(S:jw X caps sc cl){x:Str}(h:(relabel sc X.env).names.lookup x=some .cell\/(relabel sc X.env).names.lookup x=some .free):∃c,cl.lookup x=some c:=by
 have key:(x,NameKind.free)∈sc.names:=by
  rcases h with h|h
  ·obtain⟨k',hm,hk⟩:=gE h
   rcases hk with rfl|rfl
   ·exact absurd rfl (S.nocell _ hm)
   ·exact hm
  ·obtain⟨k',hm,hk⟩:=gE h
   rcases hk with rfl|rfl<;>exact hm
 have q:=List.all_eq_true.mp S.has _ key
 have q2:(cl.lookup x).isSome=true:=by simpa using q
 exact Option.isSome_iff_exists.mp q2
theorem jw.subc{X:Cx}{caps:List Str}{sc:Scope}{cl:List (Str × Addr)}(S:jw X caps sc cl){x:Str}{c:Addr}(h:cl.lookup x=some c):X.env.cells.lookup x=some c:=S.sub _ (PySem.mem_of_lookup h)
def da(n:Nat)(κ:List Nat)(σ:St):St:=List.replicate n none++κ.map fun k=>(σ[k]?).join
def dX(n:Nat)(κ:List Nat)(g:TG)(tc:TT)(te:TE)(σ:St)(J:It)(H1:Hp)(Q:VK):Prop :=
 ∃W:Nat->Nat->List V->Hp->Prop,(∃m,W 0 m [] H1)/\∀i m ys H2,W i m ys H2 ->
  (J.stop i H2/\∀D,H2 D=none->Q (.ref D) (upd H2 D (.lst ys))) \/
  (J.go i H2/\ys.length < sizeLine/\∀x H3,J.yld i H2 x H3->g x (da n κ σ) H3 fun σ4 H4=>σ4.drop n=(da n κ σ).drop n /\
   tc σ4 H4 fun b H5=>if b=true then te σ4 H5 fun v H6=>∃m',m' < m/\W (i+1) m' (ys++[v]) H6 else ∃m',m' < m/\W (i+1) m' ys H5)
def sR(n:Nat)(κ:List Nat)(wi:TI)(g:TG)(tc:TT)(te:TE):TE:=fun σ H Q=>wi σ H fun J H1=>dX n κ g tc te σ J H1 Q
def j0:TT:=fun _ H Q=>Q true H
theorem aY{σ:St}{H:Hp}{A B:Hp->Prop}(h:A H):j0 σ H fun b H5=>if b=true then A H5 else B H5:=by
 show(if true=true then A H else B H)
 rw [if_pos rfl]
 exact h
section
variable{X:Cx}{kb:List (Addr × Obj)}{σ:St}{H:Hp}{s:Shared}
theorem Inv.block{caps:List Str}{own:List Str}{κ:List Nat}{sc:Scope}{cl:List (Str × Addr)}{fp:List Addr}{h₁:Heap}{tk:Nat}(S:jw X caps sc cl)(hκ:κ.map (fun k=>X.N[k]?)=caps.map some)(I:Inv X kb σ H s)
  (f2:∀b∈fp,qK X kb H b) (hfp:∀b∈fp,b < s.heap.objs.size)
  {hp:Heap} {ol:Obj} (ehp:hp=s.heap.push ol) (hns:h₁.Ns hp.objs.size fun _=>none) (old:∀b o,hp.get? b=some o->h₁.get? b=some o) :
  Inv (blk X (own++caps) sc cl { s with heap:=hp } H hp.objs.size (s.heap.objs.size::fp)) kb (da own.length κ σ) H { s with heap:=h₁,toks:=tk }:=by
 have hsz:hp.objs.size=s.heap.objs.size+1:=by rw [ehp,Heap.size_push]
 have up:∀b o,s.heap.get? b=some o->hp.get? b=some o:=fun b o e=>by rw [ehp];exact Heap.get?_push_of_some _ e
 have I3:Inv X kb σ H { s with heap:=hp }:=I.kept (t':=s.toks) up
 have stk:∀b,b≠X.env.locals->b∉X.fs->b∉frs X.stack:=fun b h1 h2 z=>(List.mem_cons.mp (I.stkSub b z)).elim h1 h2
 have dD:s.heap.objs.size≠X.env.locals:=Nat.ne_of_gt I.lt
 have cellLt:∀x c,X.env.cells.lookup x=some c->c < s.heap.objs.size:=fun x c e=>by
  obtain⟨v,q⟩:=I.cell x c e
  exact q.lt
 have ltC:∀b,b < s.heap.objs.size->b≠hp.objs.size:=fun b hb=>by rw [hsz];exact Nat.ne_of_lt (Nat.lt_succ_of_lt hb)
 have cellK:∀c v,s.heap.IsCell c v->h₁.IsCell c v:=fun c v ⟨o,ho,hd⟩=>⟨o,old _ _ (up _ _ ho),hd⟩
 refine⟨⟨I.ok.mod,?_,I.ok.glob,I.ok.blt,Nat.le_refl _,fun x y c h1 h2=>I.ok.inj x y c (S.subc h1) (S.subc h2),fun x h=>S.hasc h,fun _ _ z=>absurd z Bool.false_ne_true,I.ok.hd,I.ok.frames,.inl rfl,fun b hb=>?_,fun b o e=>⟨up _ _ (I.bs b o e).1,(I.bs b o e).2⟩,
   Nat.le_trans (Nat.le_trans I.ok.bsz I.sz) (by show s.heap.objs.size<=hp.objs.size;rw [hsz];exact Nat.le_succ _),fun b o e hb=>?_,fun b hb=>?_,I3.stack,I.stkFree⟩,
  rfl,I.bare,Un.kept old,⟨_,hns,fun i x v e1 e2 e3=>?_⟩,fun x c h=>?_,I.hok.fresh (by rw [hsz];exact Nat.le_succ _),fun x c h=>I.freeC x c (S.subc h),fun p hp'=>?_,I.hok.kept fun b u e=>old _ _ (up _ _ e),?_⟩
 ·show(relabel sc X.env).kind=.function
  exact S.kind
 ·show b≠hp.objs.size/\∀x c,cl.lookup x=some c->c≠b
  rcases List.mem_cons.mp hb with rfl|hb
  ·exact⟨by rw [hsz];exact Nat.ne_of_lt (Nat.lt_succ_self _),fun x c h=>Nat.ne_of_lt (cellLt x c (S.subc h))⟩
  ·exact⟨ltC b (hfp b hb),fun x c h=>(f2 b hb).2.2.2.2.1 x c (S.subc h)⟩
 ·have hlt:b < X.s₀.heap.objs.size:=Nat.lt_of_lt_of_le (Heap.lt_size e) I.ok.bsz
  rcases List.mem_cons.mp hb with rfl|hb
  ·exact absurd (Nat.lt_of_lt_of_le hlt I.sz) (Nat.lt_irrefl _)
  ·rcases (f2 b hb).2.2.2.1 with z|z
   ·exact I.ok.noex b o e z
   ·exact absurd (Nat.lt_of_lt_of_le hlt z) (Nat.lt_irrefl _)
 ·rcases List.mem_cons.mp hb with rfl|hb
  ·exact stk _ dD (I.nofs (Nat.le_refl _))
  ·exact stk _ (f2 b hb).2.1 (f2 b hb).2.2.1
 ·have e1':(own++caps)[i]?=some x:=e1
  have hlen:(List.replicate own.length (none:Option V)).length=own.length:=List.length_replicate
  have hge:own.length<=i:=by
   refine Nat.le_of_not_lt fun hlt=>?_
   unfold da at e2
   rw [List.getElem?_append_left (by rw [hlen];exact hlt),List.getElem?_replicate,if_pos hlt] at e2
   cases e2
  unfold da at e2
  rw [List.getElem?_append_right (by rw [hlen];exact hge),hlen,List.getElem?_map] at e2
  rw [List.getElem?_append_right hge] at e1'
  cases ek:κ[i - own.length]? with
  |none=>rw [ek] at e2;cases e2
  |some k =>
   rw [ek] at e2
   have e2':(σ[k]?).join=some v:=Option.some.inj e2
   have e4:σ[k]?=some (some v):=by
    cases eσ:σ[k]? with
    |none=>rw [eσ] at e2';cases e2'
    |some w=>rw [eσ] at e2';exact congrArg some e2'
   have e5:X.N[k]?=some x:=by
    have z:=congrArg (fun l=>l[i - own.length]?) hκ
    simp only [List.getElem?_map,ek,e1',Option.map_some] at z
    exact Option.some.inj z
   obtain⟨c1,c2,c3⟩:=S.caps x (List.mem_of_getElem? e1')
   obtain⟨m,hn,hl⟩:=I.loc
   obtain⟨u,r,l⟩:=hl k x v e5 e4 (c1.elim (fun z=>.inr (.inl z)) fun z=>.inr (.inr z))
   refine⟨u,r,?_⟩
   rcases l with ⟨hk,_⟩|⟨_,c,hc,hcell⟩
   ·rcases c1 with z|z<;>(rw [hk] at z;cases z)
   ·obtain⟨c',hc'⟩:=Option.isSome_iff_exists.mp c2
    have ecc:c'=c:=Option.some.inj ((S.subc hc').symm.trans hc)
    subst ecc
    exact .inr ⟨c3,c',hc',cellK _ _ hcell⟩
 ·obtain⟨v,q⟩:=I.cell x c (S.subc h)
  exact⟨v,cellK c v q⟩
 ·obtain⟨e,n,ne,nf,d⟩:=I.pin p hp'
  exact⟨old _ _ (up _ _ e),n,ltC _ (Heap.lt_size e),stk _ ne nf,d⟩
 ·show(da own.length κ σ).length=(own++caps).length
  have z:=congrArg List.length hκ
  rw [List.length_map,List.length_map] at z
  unfold da
  rw [List.length_append,List.length_append,List.length_replicate,List.length_map,z]
theorem Inv.unblock{own caps:List Str}{sc:Scope}{cl:List (Str × Addr)}{fp:List Addr}{H':Hp}{s4:Shared}{σ':St}{pins':List (Addr × Obj)}{hp h':Heap}{ol:Obj}{ys:List V}{its:List Value}{cap:Nat}(I:Inv X kb σ H s)
  (f2:∀b∈fp,qK X kb H b) (ehp:hp=s.heap.push ol)
  (J:Inv (blk X (own++caps) sc cl { s with heap:=hp } H hp.objs.size (s.heap.objs.size::fp)) pins' σ' H' s4)
  (hD:s4.heap.get? s.heap.objs.size=some { cls:=.type "list",data:=.seq its.toArray cap }) (nD:H' s.heap.objs.size=none) (r:cy ys its) (hz:ys.length<=sizeLine) (sb:Heap.SameBut hp.objs.size s4.heap h') :
  Inv X kb σ (upd H' s.heap.objs.size (.lst ys)) { s4 with heap:=h' }:=by
 have hsz:hp.objs.size=s.heap.objs.size+1:=by rw [ehp,Heap.size_push]
 have up:∀b o,s.heap.get? b=some o->hp.get? b=some o:=fun b o e=>by rw [ehp];exact Heap.get?_push_of_some _ e
 have nDs:H s.heap.objs.size=none:=I.hok.fresh (Nat.le_refl _)
 have neD:∀b o,s.heap.get? b=some o->b≠s.heap.objs.size:=fun b o e=>Nat.ne_of_lt (Heap.lt_size e)
 have neC:∀b o,s.heap.get? b=some o->b≠hp.objs.size:=fun b o e=>by rw [hsz];exact Nat.ne_of_lt (Nat.lt_succ_of_lt (Heap.lt_size e))
 have nex:∀b o,s.heap.get? b=some o->b∉fp->b∉s.heap.objs.size::fp:=fun b o e hb z=>(List.mem_cons.mp z).elim (neD b o e) hb
 have u:=J.base
 have hDC:s.heap.objs.size≠hp.objs.size:=by rw [hsz];exact Nat.ne_of_lt (Nat.lt_succ_self _)
 have eD:h'.get? s.heap.objs.size=some { cls:=.type "list",data:=.seq its.toArray cap }:=(sb.2 _ hDC).trans hD
 refine I.call' (ch:=fp) J.os ⟨fun b o e n hb hx=>?_,fun b o e n hb hx=>?_,fun b o e n hx=>?_,fun b o e hx=>?_,fun b xs e=>?_,fun b o x e=>?_,fun b ps e=>?_⟩ (fun b o e=>?_) J.bare fun b hb=>?_
 ·exact(sb.2 b (neC b o e)).trans (u.keep b o (up _ _ e) n hb (nex b o e hx))
 ·obtain⟨sl,q⟩:=u.slot b o (up _ _ e) n hb (nex b o e hx)
  exact⟨sl,(sb.2 b (neC b o e)).trans q⟩
 ·rw [aK (neD b o e)]
  exact u.free b o (up _ _ e) n (nex b o e hx)
 ·obtain⟨o',q⟩:=u.there b o (up _ _ e) (nex b o e hx)
  exact⟨o',(sb.2 b (neC b o e)).trans q⟩
 ·rw [aK (aW e nDs)]
  exact u.tups b xs e
 ·rw [aK (aW e nDs)]
  exact u.frzs b o x e
 ·rw [aK (aW e nDs)]
  exact u.tbls b ps e
 ·by_cases hb:b=s.heap.objs.size
  ·subst hb
   rw [ad] at e
   cases e
   exact⟨hz,its,cap,r,eD⟩
  ·rw [aK hb] at e
   have nC:∀c w,H' c=some w->c≠hp.objs.size:=fun c w q=>aW q J.free
   refine(J.hok b o e).stay (fun c v hc q=>(sb.2 c ?_).trans q) (fun c q=>by rw [aK (aW q nD)];exact q) fun c xs q=>by rw [aK (aW q nD)];exact q
   rcases hc with rfl|hc
   ·exact nC c o e
   ·exact nC c _ hc
 ·obtain⟨_,f1,_,f3,f4,f5⟩:=f2 b hb
  exact⟨f3,f1,f4,f5⟩
end
section
variable{X:Cx}
theorem rg{tg elt iter:Expr}{ifs:List Expr}{own caps:List Str}{κ:List Nat}{sc:Scope}{cl:List (Str × Addr)}{pos:Pos}{wi:TI}{g:TG}{tc:TT}{te:TE}(hcalm:X.calm=true)(S:jw X caps sc cl)(hκ:κ.map (fun k=>X.N[k]?)=caps.map some)
  (hi:PI X tg iter wi) (hg:∀s₀ H₀ C ex,PG (blk X (own++caps) sc cl s₀ H₀ C ex) tg g)
  (hc:∀s₀ H₀ C ex (kb:List (Addr × Obj)) (s:Shared) (σ:St) (H:Hp) (Q:Bool->Hp->Prop),Inv (blk X (own++caps) sc cl s₀ H₀ C ex) kb σ H s->tc σ H Q ->
   wpAny (model X.prog X.w) X.A (forIn ifs true fun c r=>if r=true then do let ok <-isTrue c (compEnvC sc cl C X.env) (eval c (compEnvC sc cl C X.env));pure (ForInStep.yield ok) else pure (ForInStep.yield r)) (TP (blk X (own++caps) sc cl s₀ H₀ C ex) kb σ Q) (fun _ _=>False) s)
  (he:∀s₀ H₀ C ex,PE (blk X (own++caps) sc cl s₀ H₀ C ex) elt te)
  (hs:∀x,foldedSetIterable iter X.env x=pure x:=by intro _;rfl):PE X (.ListComp elt [⟨tg,iter,ifs,0⟩] sc pos) (sR own.length κ wi g tc te):=by
 intro kb s σ H Q I h
 rw [eval_ListComp]
 refine wpAny_comprehension_free (use:=none) rfl hs S.clos S.kind S.names (thn (hi kb s σ H _ I h) fun v s1 h1=>thn h1 fun itv s2 h2=>?_)
 obtain⟨it,fp,tn,J,H2,e,I2,T,st2,f2,W,⟨m0,w0⟩,turn⟩:=h2
 subst e
 have hfp:∀b∈fp,b < s2.heap.objs.size:=fun b hb=>by
  obtain⟨o,e,_⟩:=T.obj _ _ st2 b hb
  exact Heap.lt_size e
 refine wpAny_newObj_type (wpAny_newFunctionEnv S.nocell (fun y hy=>nomatch hy) (fun h₁ hns hsb=>?_) S.kind)
 generalize ehp:s2.heap.push { cls:=.type "list",dict:=none,data:=.seq ([]:List Value).toArray }=hp at hns hsb ⊢
 have hsz:hp.objs.size=s2.heap.objs.size+1:=by rw [<-ehp,Heap.size_push]
 have hDC:s2.heap.objs.size≠hp.objs.size:=by rw [hsz];exact Nat.ne_of_lt (Nat.lt_succ_self _)
 have old:∀b o,hp.get? b=some o->h₁.get? b=some o:=fun b o e=>(hsb.2 b (Nat.ne_of_lt (Heap.lt_size e))).trans (Heap.get?_push_of_some _ e)
 have eD:h₁.get? s2.heap.objs.size=some { cls:=.type "list",data:=.seq ([]:List Value).toArray }:=old _ _ (by rw [<-ehp];exact Heap.get?_push_size _ rfl)
 have I0:=Inv.block (own:=own) (h₁:=h₁) (tk:=s2.toks+([]:List (Str × Value)).length) S hκ I2 f2 hfp ehp.symm hns old
 have stkD:s2.heap.objs.size∉frs X.stack:=fun z=>(List.mem_cons.mp (I2.stkSub _ z)).elim (Nat.ne_of_gt I2.lt) (I2.nofs (Nat.le_refl _))
 have cellD:∀x c,cl.lookup x=some c->c≠s2.heap.objs.size:=fun x c q=>by
  obtain⟨v,z⟩:=I2.cell x c (S.subc q)
  exact Nat.ne_of_lt z.lt
 have pinD:∀p∈X.pn++kb,p.1≠s2.heap.objs.size:=fun p hp=>Nat.ne_of_lt (Heap.lt_size (I2.pin p hp).1)
 have stkF:∀b∈fp,b∉frs X.stack:=fun b hb z=>(List.mem_cons.mp (I2.stkSub _ z)).elim (f2 b hb).2.1 (f2 b hb).2.2.1
 have loop:codeAny (model X.prog X.w) X.A (.compLoop (.ListComp elt [⟨tg,iter,ifs,0⟩] sc pos) 0 (.ref it) (.ref s2.heap.objs.size) (compEnvC sc cl hp.objs.size X.env))
   (compPost (model X.prog X.w) X.A X.xe none (EP X kb σ Q) (.ref s2.heap.objs.size) hp.objs.size) { s2 with heap:=h₁,toks:=s2.toks+([]:List (Str × Value)).length }:=by
  refine codeAny_loop rfl (fun n s'=>∃(i:Nat) (ys:List V) (its:List Value) (cap:Nat) (H':Hp),Inv (blk X (own++caps) sc cl { s2 with heap:=hp } H2 hp.objs.size (s2.heap.objs.size::fp)) kb (da own.length κ σ) H' s'/\tn i s'.heap/\(∀b∈fp,H' b=none) /\
   s'.heap.get? s2.heap.objs.size=some { cls:=.type "list",data:=.seq its.toArray cap }/\H' s2.heap.objs.size=none/\cy ys its/\ys.length<=sizeLine/\W i n ys H') (fun n s3 hI=>?_) m0
   ⟨0,[],[],0,H2,I0,T.keep _ _ _ st2 fun b hb o e=>old _ _ (by rw [<-ehp];exact Heap.get?_push_of_some _ e),fun b hb=>(f2 b hb).1,eD,I2.hok.fresh (Nat.le_refl _),.nil,Nat.zero_le _,w0⟩
  obtain⟨i,ys,its,cap,H3,I3,st3,fr3,eD3,nD3,rv,hz,w3⟩:=hI
  show wpAny _ X.A ((compTurn (.ListComp elt [⟨tg,iter,ifs,0⟩] sc pos) 0 (.ref it) (.ref s2.heap.objs.size) (compEnvC sc cl hp.objs.size X.env)).onRaise fun x=>do noteFrame x (compEnvC sc cl hp.objs.size X.env);theTreesLotGoes x) _ _ s3
  refine wpAny_noted ?_
  rw [compTurn_list]
  have I3':Inv (blk X (own++caps) sc cl { s2 with heap:=hp } H2 hp.objs.size (s2.heap.objs.size::fp)) (kb++[(s2.heap.objs.size,{ cls:=.type "list",data:=.seq its.toArray cap })]) (da own.length κ σ) H3 s3:=by
   refine I3.pins_of fun p hp=>(List.mem_append.mp hp).elim (fun z=>I3.pin p (List.mem_append_right _ z)) fun z=>?_
   obtain rfl:=List.mem_singleton.mp z
   exact⟨eD3,nD3,hDC,stkD,fun v q=>by cases q⟩
  have fpk:∀{H':Hp},(∀b∈fp,H' b=none)->∀b∈fp,qK (blk X (own++caps) sc cl { s2 with heap:=hp } H2 hp.objs.size (s2.heap.objs.size::fp)) (kb++[(s2.heap.objs.size,{ cls:=.type "list",data:=.seq its.toArray cap })]) H' b:=fun {H'} hn b hb =>
   ⟨hn b hb,by show b≠hp.objs.size;rw [hsz];exact Nat.ne_of_lt (Nat.lt_succ_of_lt (hfp b hb)),stkF b hb,.inl (List.mem_cons_of_mem _ hb),fun x c q=>(f2 b hb).2.2.2.2.1 x c (S.subc q),fun p hp=>by
    rw [<-List.append_assoc] at hp
    rcases List.mem_append.mp hp with z|z
    ·exact(f2 b hb).2.2.2.2.2 p z
    ·obtain rfl:=List.mem_singleton.mp z
     exact Nat.ne_of_gt (hfp b hb)⟩
  rcases turn i n ys H3 w3 with ⟨stop,fin⟩|⟨go,hlt,step⟩
  ·refine wpAny_bind (wpAny_standAt (wpAny_bind (thn (T.done (blk X (own++caps) sc cl { s2 with heap:=hp } H2 hp.objs.size (s2.heap.objs.size::fp)) rfl rfl rfl hcalm i _ s3 _ H3 _ I3' (fpk fr3) st3 stop) fun r s4 ⟨hr,I4⟩=>?_)))
   subst hr
   refine wpAny_pure ?_
   obtain⟨m,hm,_⟩:=I4.loc
   refine⟨m,hm,fun h' sb=>?_⟩
   have eD4:=(I4.pin (s2.heap.objs.size,{ cls:=.type "list",data:=.seq its.toArray cap }) (List.mem_append_right _ (List.mem_append_right _ (List.mem_singleton.mpr rfl)))).1
   exact⟨.ref s2.heap.objs.size,_,Inv.unblock I2 f2 ehp.symm I4 eD4 nD3 rv hz sb,rfl,fin _ nD3⟩
  ·refine wpAny_bind (wpAny_standAt (wpAny_bind (thn (T.item (blk X (own++caps) sc cl { s2 with heap:=hp } H2 hp.objs.size (s2.heap.objs.size::fp)) rfl rfl rfl hcalm i _ s3 _ H3 _ I3' (fpk fr3) st3 go) fun r s4 ⟨u,hr,h4⟩=>?_)))
   subst hr
   refine wpAny_bind (thn h4 fun _ s5 ⟨x,H5,I5,r5,y5,st5,fr5⟩=>?_)
   have I5':=I5.pinned (fpk fr5) (T.obj _ _ st5)
   refine wpAny_bind (wpAny_mono (hg _ _ _ _ _ s5 _ H5 x u _ I5' r5 (step x H5 y5)) (fun _ s6 ⟨σ6,H6,I6,eσ,q6⟩=>?_) fun _ _ z=>z.elim)
   refine wpAny_bind (wpAny_mono (hc _ _ _ _ _ s6 σ6 H6 _ I6 q6) (fun ok s7 ⟨H7,I7,q7⟩=>?_) fun _ _ z=>z.elim)
   have back:∀{s8:Shared} {H8:Hp},Inv (blk X (own++caps) sc cl { s2 with heap:=hp } H2 hp.objs.size (s2.heap.objs.size::fp)) ((kb++[(s2.heap.objs.size,{ cls:=.type "list",data:=.seq its.toArray cap })])++kw fp s5.heap) σ6 H8 s8 ->
     Inv (blk X (own++caps) sc cl { s2 with heap:=hp } H2 hp.objs.size (s2.heap.objs.size::fp)) kb (da own.length κ σ) H8 s8/\tn (i+1) s8.heap/\(∀b∈fp,H8 b=none)/\s8.heap.get? s2.heap.objs.size=some { cls:=.type "list",data:=.seq its.toArray cap }/\H8 s2.heap.objs.size=none:=by
    intro s8 H8 I8
    have pk:∀b∈fp,∀o,s5.heap.get? b=some o->s8.heap.get? b=some o/\H8 b=none:=fun b hb o e=>by
     have z:=I8.pin (b,o) (List.mem_append_right _ (List.mem_append_right _ (gs hb e)))
     exact⟨z.1,z.2.1⟩
    have zD:=I8.pin (s2.heap.objs.size,{ cls:=.type "list",data:=.seq its.toArray cap }) (List.mem_append_right _ (List.mem_append_left _ (List.mem_append_right _ (List.mem_singleton.mpr rfl))))
    refine⟨(I8.pins_of fun p hp=>I8.pin p (List.mem_append_right _ (List.mem_append_left _ (List.mem_append_left _ hp)))).weak ?_ fun j v e=>?_,T.keep _ _ _ st5 fun b hb o e=>(pk b hb o e).1,fun b hb=>?_,zD.1,zD.2.1⟩
    ·exact I3.len.trans I8.len.symm
    ·have hge:own.length<=j:=by
      refine Nat.le_of_not_lt fun q=>?_
      unfold da at e
      rw [List.getElem?_append_left (by rw [List.length_replicate];exact q),List.getElem?_replicate,if_pos q] at e
      cases e
     have z:=congrArg (fun l=>l[j - own.length]?) eσ
     simp only [List.getElem?_drop] at z
     rw [show own.length+(j - own.length)=j by omega] at z
     rw [z]
     exact e
    ·obtain⟨o,e,_⟩:=T.obj _ _ st5 b hb
     exact(pk b hb o e).2
   cases ok with
   |false =>
    obtain⟨m',hm,w7⟩:=(if_neg Bool.false_ne_true)▸q7
    obtain⟨I8,st8,fr8,e8,n8⟩:=back I7
    exact wpAny_pure ⟨rfl,m',hm,i+1,ys,its,cap,H7,I8,st8,fr8,e8,n8,rv,hz,w7⟩
   |true =>
    have q7':=(if_pos rfl)▸q7
    refine wpAny_bind (wpAny_bind (wpAny_mono (he _ _ _ _ _ s7 σ6 H7 _ I7 q7') (fun y s8 ⟨v8,H8,I8,r8,m',hm,w8⟩=>?_) fun _ _ z=>z.elim))
    obtain⟨I9,st9,fr9,e9,n9⟩:=back I8
    have hl:=rv.length
    refine wpAny_bind (wpAny_list_append_plain (items:=its.toArray) ⟨cap,e9⟩ (fun h' hl' sb=>?_) (by rw [List.size_toArray,<-hl];exact hz))
    obtain⟨cap',e'⟩:=hl'
    refine wpAny_pure (wpAny_pure ⟨rfl,m',hm,i+1,ys++[v8],its++[y],cap',H8,?_,?_,fr9,?_,n9,cy.append rv (.cons r8 .nil),?_,w8⟩)
    ·exact I9.turned (t':=s8.toks) (fun b o hb e=>(sb.2 b hb).trans e) n9 hDC (.inl List.mem_cons_self) cellD pinD
    ·exact T.keep _ _ _ st9 fun b hb o e=>(sb.2 b (Nat.ne_of_lt (hfp b hb))).trans e
    ·rw [e']
     congr 3
     simp
    ·rw [List.length_append]
     exact hlt
 exact codeAny_compStart_list loop (T.self _ 0 _ _ _ (T.keep _ _ _ st2 fun b hb o e=>old _ _ (by rw [<-ehp];exact Heap.get?_push_of_some _ e)) loop)
theorem jX{tg elt iter:Expr}{own caps:List Str}{κ:List Nat}{sc:Scope}{cl:List (Str × Addr)}{pos:Pos}{wi:TI}{g:TG}{te:TE}(hcalm:X.calm=true)(S:jw X caps sc cl)(hκ:κ.map (fun k=>X.N[k]?)=caps.map some)
  (hi:PI X tg iter wi) (hg:∀s₀ H₀ C ex,PG (blk X (own++caps) sc cl s₀ H₀ C ex) tg g) (he:∀s₀ H₀ C ex,PE (blk X (own++caps) sc cl s₀ H₀ C ex) elt te)
  (hs:∀x,foldedSetIterable iter X.env x=pure x:=by intro _;rfl):PE X (.ListComp elt [⟨tg,iter,[],0⟩] sc pos) (sR own.length κ wi g j0 te) :=
 rg hcalm S hκ hi hg (fun s₀ H₀ C ex kb s σ H Q I h=>wpAny_tests_nil ⟨H,I,h⟩) he hs
theorem rV{tg elt iter c:Expr}{own caps:List Str}{κ:List Nat}{sc:Scope}{cl:List (Str × Addr)}{pos:Pos}{wi:TI}{g:TG}{tc:TT}{te:TE}(hcalm:X.calm=true)(S:jw X caps sc cl)(hκ:κ.map (fun k=>X.N[k]?)=caps.map some)
  (hi:PI X tg iter wi) (hg:∀s₀ H₀ C ex,PG (blk X (own++caps) sc cl s₀ H₀ C ex) tg g) (hc:∀s₀ H₀ C ex,PT (blk X (own++caps) sc cl s₀ H₀ C ex) c tc) (he:∀s₀ H₀ C ex,PE (blk X (own++caps) sc cl s₀ H₀ C ex) elt te)
  (hs:∀x,foldedSetIterable iter X.env x=pure x:=by intro _;rfl):PE X (.ListComp elt [⟨tg,iter,[c],0⟩] sc pos) (sR own.length κ wi g tc te) :=
 rg hcalm S hκ hi hg (fun s₀ H₀ C ex kb s σ H Q I h=>wpAny_tests_one (hc s₀ H₀ C ex kb s σ H Q I h)) he hs
theorem dq:bootBuiltins "all"=some (.builtin "all"):=by decide +kernel
theorem cb:bootBuiltins "str"=some (.type "str"):=by decide +kernel
theorem bH:bootBuiltins "isinstance"=some (.builtin "isinstance"):=by decide +kernel
theorem qD:∀{bs:List Bool} {us:List Value},cy (bs.map V.bl) us->LSm.BoolsAre us bs
 |[],_,r=>by cases r;exact .nil
 |b::bs,_,r=>by
  cases r with
  |cons r1 r2 =>
   cases r1
   exact .cons b (qD r2)
theorem bV(hc:X.calm=true):jJ X (.builtin "all") (fun xs H Q=>∃(p:Addr) (bs:List Bool),xs=[.ref p]/\SqL X.K H p (bs.map V.bl)/\Q (.bl (bs.all id)) H):=by
 intro kb s σ H xs us Q I r h
 obtain⟨p,bs,rfl,hq,q⟩:=h
 obtain⟨u,rfl,rx⟩:=jd r
 cases rx
 obtain⟨its,rv,pl,hz⟩:=I.list hq
 have hb:=qD rv
 have hlt:p < s.heap.objs.size:=by obtain⟨_,e,_⟩:=pl.isList;exact Heap.lt_size e
 refine call_all_walk (wpAny_pyIter_list pl.isList ?_)
 refine⟨s.heap.objs.size,[s.heap.objs.size,p],[s.heap.objs.size],its.toArray.size,_,_,fun i=>(bs[i]?).getD true,rfl,Walks.list (A:=X.A.in1) (I.ok.hd hc) _ p (Nat.ne_of_lt hlt) its.toArray,
  ⟨⟨_,Heap.get?_push_size _ rfl,rfl,rfl⟩,pl.isList.push _⟩,fun i v s' Q' E' hP hQ=>?_,fun h' tk hk=>?_⟩
 ·obtain⟨b,e,rfl⟩:=hb.get i v (by simpa using hP)
  have hQ':Q' ((bs[i]?).getD true) s':=hQ
  rw [e] at hQ'
  exact wpAny_truthy_bool hQ'
 ·have e:((List.range its.toArray.size).all fun i=>(bs[i]?).getD true)=bs.all id:=by
   rw [List.size_toArray,hb.length]
   exact LSm.range_all bs
  rw [e]
  exact⟨.bl (bs.all id),H,I.kept (LSm.kept_iter hk),rfl,q⟩
def fN(z:Str):List V:=z.cps.toList.map fun c=>V.str ⟨#[c]⟩
theorem ce(z:Str):(fN z).length=z.length:=by simp [fN,Str.length]
theorem gw{z:Str}{i:Nat}{x:V}:(fN z)[i]?=some x↔∃c,z.cps[i]?=some c/\x=.str ⟨#[c]⟩:=by
 unfold fN
 rw [List.getElem?_map]
 have e:z.cps.toList[i]?=z.cps[i]?:=by simp
 rw [e]
 cases z.cps[i]? with
 |none=>simp
 |some c=>simp [eq_comm]
theorem vZ{z:Str}{H:Hp}:∀i x,(fN z)[i]?=some x->(Its z).go i H:=fun i x h=>by
 have:=(List.getElem?_eq_some_iff.mp h).1
 rw [ce] at this
 exact this
theorem qb{z:Str}{H:Hp}:∀i x H',(Its z).yld i H x H'->H'=H/\(fN z)[i]?=some x:=fun i x H' h=>⟨h.1,gw.mpr h.2⟩
theorem lM{z:Str}{H:Hp}:(Its z).stop (fN z).length H:=by
 rw [ce]
 exact Nat.le_refl _
theorem cQ{J:It}{xs:List V}{n:Nat}{κ:List Nat}{g:TG}{tc:TT}{te:TE}{σ:St}{H:Hp}{Q:VK}(Pv:Nat->List V->Hp->Prop)(h0:Pv 0 [] H)(hz:xs.length<=sizeLine)(hlen:∀i ys H2,Pv i ys H2->ys.length<=i)
  (hgo:∀i x ys H2,xs[i]?=some x->Pv i ys H2->J.go i H2) (hyl:∀i ys x H2 H',i < xs.length->Pv i ys H2->J.yld i H2 x H'->H'=H2/\xs[i]?=some x) (hst:∀ys H2,Pv xs.length ys H2->J.stop xs.length H2)
  (hs:∀i x ys H2 (N:List V->Hp->Prop),(∀ys' H',Pv (i+1) ys' H'->N ys' H')->xs[i]?=some x->Pv i ys H2->g x (da n κ σ) H2 fun σ4 H4=>σ4.drop n=(da n κ σ).drop n/\tc σ4 H4 fun b H5=>if b=true then te σ4 H5 fun v H6=>N (ys++[v]) H6 else N ys H5)
  (hQ:∀ys H2 D,Pv xs.length ys H2->H2 D=none->Q (.ref D) (upd H2 D (.lst ys))) :
  dX n κ g tc te σ J H Q:=by
 refine⟨fun i m ys H2=>m=xs.length - i/\i<=xs.length/\Pv i ys H2,⟨xs.length,rfl,Nat.zero_le _,h0⟩,?_⟩
 rintro i m ys H2 ⟨rfl,hi,p⟩
 by_cases hlt:i < xs.length
 ·have e:xs[i]?=some xs[i]:=List.getElem?_eq_getElem hlt
  refine .inr ⟨hgo i _ ys H2 e p,Nat.lt_of_le_of_lt (hlen i ys H2 p) (Nat.lt_of_lt_of_le hlt hz),fun x H3 y=>?_⟩
  obtain⟨rfl,ex⟩:=hyl i ys x H2 H3 hlt p y
  exact hs i x ys _ (fun ys' H'=>∃m',m' < xs.length - i/\m'=xs.length - (i+1)/\i+1<=xs.length/\Pv (i+1) ys' H') (fun ys' H' p'=>⟨xs.length - (i+1),by omega,rfl,hlt,p'⟩) ex p
 ·obtain rfl:i=xs.length:=by omega
  exact .inl ⟨hst ys H2 p,fun D hD=>hQ ys H2 D p hD⟩
def jB(lo:Int)(n:Nat):List V:=(List.range n).map fun i=>V.int (lo+(i:Nat))
theorem gv(lo:Int)(n:Nat):(jB lo n).length=n:=by simp [jB]
theorem iS{lo:Int}{n i:Nat}{x:V}:(jB lo n)[i]?=some x↔i < n/\x=.int (lo+i):=by
 unfold jB
 rw [List.getElem?_map]
 by_cases h:i < n
 ·rw [List.getElem?_range h]
  simp [h,eq_comm]
 ·rw [List.getElem?_eq_none (by simp;omega)]
  simp [h]
theorem BA{lo:Int}{n:Nat}{H:Hp}{i:Nat}{x:V}(h:(jB lo n)[i]?=some x):(Itr lo n).go i H:=(iS.mp h).1
theorem xG{lo:Int}{n:Nat}{H H':Hp}{i:Nat}{x:V}(hi:i < n)(h:(Itr lo n).yld i H x H'):H'=H/\(jB lo n)[i]?=some x:=⟨h.1,iS.mpr ⟨hi,h.2⟩⟩
theorem vO:∀{ys:List Str} {us:List Value},cy (ys.map V.str) us->StrsAre us ys
 |[],_,r=>by cases r;exact .nil
 |y::ys,_,r=>by
  cases r with
  |cons r1 r2 =>
   obtain⟨t,rfl⟩:=r1
   exact .cons y t (vO r2)
theorem o6:MtR X "str.join" (fun x vs H Q=>∃sep p ys,x=.str sep/\vs=[.ref p]/\SqL X.K H p (ys.map V.str)/\(ys.map (·.length)).sum+ys.length*sep.length<=16777216/\Q (.str (Txt.join sep ys)) H):=by
 intro kb s σ H x xs v us Q I rx rv h
 obtain⟨sep,p,ys,rfl,rfl,hq,hz,q⟩:=h
 obtain⟨t,rfl⟩:=rx
 obtain⟨u,rfl,ru⟩:=rv.one
 cases ru
 obtain⟨its,r,pl,_⟩:=I.list hq
 exact join_list pl.isList (by simpa using vO r) hz fun t' k=>⟨.str _,H,I.tok _,⟨_,rfl⟩,q⟩
end
mutual
inductive Dat (K:W.Frag) (H:Hp):V->PyData->Prop
 |non:Dat K H .non .none
 |bl (b:Bool):Dat K H (.bl b) (.bool b)
 |int (i:Int):Dat K H (.int i) (.int i)
 |str (x:Str):Dat K H (.str x) (.str x)
 |tup {a:Addr} {xs:List V} {ds:List PyData}:SqT K H a xs->jZ K H xs ds->Dat K H (.ref a) (.tuple ds)
 |lst {a:Addr} {xs:List V} {ds:List PyData}:SqL K H a xs->jZ K H xs ds->Dat K H (.ref a) (.list ds)
inductive jZ (K:W.Frag) (H:Hp):List V->List PyData->Prop
 |nil:jZ K H [] []
 |cons {x:V} {d:PyData} {xs:List V} {ds:List PyData}:Dat K H x d->jZ K H xs ds->jZ K H (x::xs) (d::ds)
end
theorem aM.tup{K:W.Frag}{H H':Hp}{a:Addr}{xs:List V}(e:aM H H')(h:SqT K H a xs):SqT K H' a xs:=by
 rcases h with (h|⟨o,h⟩)|h
 ·exact .inl (.inl (e _ _ h))
 ·exact .inl (.inr ⟨o,e _ _ h⟩)
 ·exact .inr h
mutual
theorem Dat.same{K:W.Frag}{H H':Hp}(e:aM H H'):∀{x:V} {d:PyData},Dat K H x d->Dat K H' x d
 |_,_,.non=>.non
 |_,_,.bl b=>.bl b
 |_,_,.int i=>.int i
 |_,_,.str x=>.str x
 |_,_,.tup h r=>.tup (e.tup h) (jZ.same e r)
 |_,_,.lst h r=>.lst (e.seq h) (jZ.same e r)
theorem jZ.same{K:W.Frag}{H H':Hp}(e:aM H H'):∀{xs:List V} {ds:List PyData},jZ K H xs ds->jZ K H' xs ds
 |_,_,.nil=>.nil
 |_,_,.cons h r=>.cons (Dat.same e h) (jZ.same e r)
end
section
variable{X:Cx}{kb:List (Addr × Obj)}{σ:St}{H:Hp}{s:Shared}
mutual
theorem Dat.reads(I:Inv X kb σ H s):∀{x:V} {d:PyData} {v:Value},Dat X.K H x d->dR x v->∃as,Reads s.heap v d as
 |_,_,_,.non,r=>by cases r;exact⟨_,.none⟩
 |_,_,_,.bl b,r=>by cases r;exact⟨_,.bool b⟩
 |_,_,_,.int i,r=>by obtain⟨t,rfl⟩:=r;exact⟨_,.int i t⟩
 |_,_,_,.str x,r=>by obtain⟨t,rfl⟩:=r;exact⟨_,.str x t⟩
 |_,_,_,.tup hq ds,r=>by
  cases r
  obtain⟨its,rv,p,_⟩:=I.tuple hq
  obtain⟨as,q⟩:=jZ.reads I ds rv
  obtain⟨o,e,c,n,dt⟩:=p
  exact⟨as,.tuple e c dt (by simpa using q)⟩
 |_,_,_,.lst hq ds,r=>by
  cases r
  obtain⟨its,rv,p,_⟩:=I.list hq
  obtain⟨as,q⟩:=jZ.reads I ds rv
  obtain⟨o,n,e,c,_,dt⟩:=p
  exact⟨_,.list e c dt (by simpa using q)⟩
theorem jZ.reads(I:Inv X kb σ H s):∀{xs:List V} {ds:List PyData} {vs:List Value},jZ X.K H xs ds->cy xs vs->∃as,ReadsAll s.heap vs ds as
 |_,_,_,.nil,r=>by cases r;exact⟨_,.nil⟩
 |_,_,_,.cons h t,r=>by
  cases r with
  |cons r1 r2 =>
   obtain⟨as,q⟩:=Dat.reads I h r1
   obtain⟨bs,q2⟩:=jZ.reads I t r2
   exact⟨_,.cons q q2⟩
end
end
section
variable{X:Cx}
inductive Dp(K:W.Frag)(neg:Bool):R2|mk{x y H Q}(dx dy:_)(_:Dat K H x dx)(_:Dat K H y dy)(_:SeqAt.shaped dx=true)(_:SeqAt.shaped dy=true)(_:Q (.bl (if neg then !PyData.eqv dx dy else PyData.eqv dx dy)) H):Dp K neg x y H Q
theorem dY(hu:X.A.units+64 < cLine):OpR X (compareOp .Eq) (Dp X.K false):=by
 intro kb s σ H x y v u Q I rx ry h
 obtain⟨dx,dy,hx,hy,sx,sy,q⟩:=h
 obtain⟨as,ra⟩:=Dat.reads I hx rx
 obtain⟨bs,rb⟩:=Dat.reads I hy ry
 exact eq_dataH ra rb sx sy hu ⟨.bl _,H,I,rfl,q⟩
theorem kQ(hu:X.A.units+64 < cLine):OpR X (compareOp .NotEq) (Dp X.K true):=by
 intro kb s σ H x y v u Q I rx ry h
 obtain⟨dx,dy,hx,hy,sx,sy,q⟩:=h
 obtain⟨as,ra⟩:=Dat.reads I hx rx
 obtain⟨bs,rb⟩:=Dat.reads I hy ry
 exact ne_dataH ra rb sx sy hu ⟨.bl _,H,I,rfl,q⟩
theorem ig{ds:List PyData}(h:PyData.canLayAll0 ds=true){d:PyData}(hd:d∈ds):d.canLay0=true:=PyData.canLay0_of_mem ds d h hd
theorem fS{h:Heap}:∀{vs:List Value} {ds:List PyData} {as:List Addr},ReadsAll h vs ds as->∀v∈vs,∃d∈ds,∃bs,Reads h v d bs
 |_,_,_,.nil,v,hv=>nomatch hv
 |_,_,_,.cons r t,v,hv=>by
  rcases List.mem_cons.mp hv with rfl|hv
  ·exact⟨_,List.mem_cons_self,_,r⟩
  ·obtain⟨d,hd,bs,q⟩:=fS t v hv
   exact⟨d,List.mem_cons_of_mem _ hd,bs,q⟩
open Classical in
noncomputable def je(h:Heap)(d:PyData)(v:Value):Bool:=if q:∃e,∃bs,Reads h v e bs then PyData.eqv q.choose d else false
theorem lG{h:Heap}{d e:PyData}{v:Value}{as:List Addr}(hl:e.canLay0=true)(r:Reads h v e as):je h d v=PyData.eqv e d:=by
 unfold je
 have q:∃e,∃bs,Reads h v e bs:=⟨e,as,r⟩
 rw [dif_pos q]
 obtain⟨bs,r2⟩:=q.choose_spec
 rw [SeqAt.Reads.unique e _ v as bs hl r r2]
theorem jK{h:Heap}{d:PyData}:∀{vs:List Value} {ds:List PyData} {as:List Addr},ReadsAll h vs ds as->PyData.canLayAll0 ds=true->vs.any (je h d)=ds.any fun e=>PyData.eqv e d
 |_,_,_,.nil,_=>rfl
 |_,_,_,.cons (d:=e) (ds:=es) r t,hl=>by
  have hl':e.canLay0=true/\PyData.canLayAll0 es=true:=by simpa only [PyData.canLayAll0,Bool.and_eq_true] using hl
  rw [List.any_cons,List.any_cons,lG hl'.1 r,jK t hl'.2]
inductive DG(K:W.Frag)(neg:Bool):R2|mk{x y H Q}(p xs ds d:_)(_:y=.ref p)(_:SqL K H p xs)(_:jZ K H xs ds)(_:Dat K H x d)(_:PyData.canLayAll0 ds=true)(_:d.canLay0=true)(_:d.depth<=60)(_:Q (.bl (if neg then !(ds.any fun e=>PyData.eqv e d) else ds.any fun e=>PyData.eqv e d)) H):DG K neg x y H Q
theorem vH(hu:X.A.units+64 < cLine){kb:List (Addr × Obj)}{σ:St}{H:Hp}{s:Shared}{x:V}{v:Value}{p:Addr}{xs:List V}{ds:List PyData}{d:PyData}(I:Inv X kb σ H s)(rx:dR x v)
  (hq:SqL X.K H p xs) (hds:jZ X.K H xs ds) (hd:Dat X.K H x d) (hl:PyData.canLayAll0 ds=true) (hl2:d.canLay0=true) (hdp:d.depth<=60) :
  ∃its:List Value,PlainL s.heap p its.toArray/\(∀y,y∈its.toArray->SeqAt.EqAt X.A.in1 s y v (je s.heap d y))/\its.toArray.any (je s.heap d)=ds.any fun e=>PyData.eqv e d:=by
 obtain⟨its,rv,pl,_⟩:=I.list hq
 obtain⟨as,ra⟩:=jZ.reads I hds rv
 obtain⟨bs,rb⟩:=Dat.reads I hd rx
 refine⟨its,pl,fun y hy=>?_,?_⟩
 ·obtain⟨e,he,cs,re⟩:=fS ra y (by simpa using hy)
  have hle:=ig hl he
  rw [lG hle re]
  refine SeqAt.eqAt_reads e d X.A.in1 s y v cs bs re rb hle hl2 ?_
  have h1:min e.depth d.depth<=d.depth:=Nat.min_le_right _ _
  have h2:X.A.in1.units<=X.A.units+1:=by first|exact Nat.le_refl _|(show X.A.units+1<=X.A.units+1;exact Nat.le_refl _)|(show X.A.units<=X.A.units+1;exact Nat.le_succ _)
  omega
 ·rw [show its.toArray.any (je s.heap d)=its.any (je s.heap d) by simp]
  exact jK ra hl
theorem BR(hu:X.A.units+64 < cLine):OpR X (compareOp .In) (DG X.K false):=by
 intro kb s σ H x y v u Q I rx ry h
 obtain⟨p,xs,ds,d,rfl,hq,hds,hd,hl,hl2,hdp,q⟩:=h
 cases ry
 obtain⟨its,pl,he,ea⟩:=vH hu I rx hq hds hd hl hl2 hdp
 refine SeqAt.in_listAt (je s.heap d) pl.isList he ⟨.bl _,H,I,rfl,?_⟩
 rw [ea]
 exact q
end
section
variable{prog:Program}{w:World}{A:Around}{E:Value->Shared->Prop}{s:Shared}
end
section
variable{X:Cx}
end
end L2
namespace Kk
open PySem L2
inductive Kd where
 |num (n:Int)
 |name (q t:Str)
 |pair (a b:Kd)
 deriving DecidableEq
def Kd.words:Kd->Nat
 |.num _=>1
 |.name _ _=>1
 |.pair a b=>1+a.words+b.words
def Kd.leaves:Kd->List Kd
 |.num n=>[.num n]
 |.name q t=>[.name q t]
 |.pair a b=>a.leaves++b.leaves
def Kd.leaf:Kd->Bool
 |.pair _ _=>false
 |_=>true
inductive j9 (K:W.Frag) (H:Hp):V->Kd->Prop
 |num {a:Addr} {n:Int}:SqT K H a [.str "num",.int n]->j9 K H (.ref a) (.num n)
 |name {a:Addr} {q t:Str}:SqT K H a [.str "name",.str q,.str t]->j9 K H (.ref a) (.name q t)
 |pair {a:Addr} {x y:V} {k l:Kd}:SqT K H a [.str "pair",x,y]->j9 K H x k->j9 K H y l->j9 K H (.ref a) (.pair k l)
end Kk
namespace L2
open PySem PySem.Spec PyProof.Rows
section
variable{α β:Type}{P:Shared->Prop}
def az(P:Shared->Prop)(t:Sem α):Prop:=∀(M:Model) (Γ:PySem.Ctx) (Q:α->Pos->Shared->Prop) (E:Value->Pos->Shared->Prop) (p:Pos) (s:Shared),P s->Sem.wp M Γ t Q E p s ->
 Sem.wp M Γ t (fun a p' s'=>Q a p' s'/\P s') (fun e p' s'=>E e p' s'/\P s') p s
theorem az.ret(a:α):az P (Pure.pure a:Sem α):=fun _ _ _ _ _ _ h q=>⟨q,h⟩
theorem az.no(x:String):az P (unsupported x:Sem α):=fun _ _ _ _ _ _ _ q=>False.elim q
theorem az.then{m:Sem α}{f:α->Sem β}(hm:az P m)(hf:∀a,az P (f a)):az P (m >>= f):=fun M Γ Q E p s h q=>by
 rw [Sem.wp_bind'] at q ⊢
 exact Sem.wp_mono M Γ m (fun a p' s' z=>hf a M Γ Q E p' s' z.2 z.1) (fun _ _ _ z=>z) p s (hm M Γ _ E p s h q)
theorem az.ld(a:Addr):az P (load a):=fun _ _ _ _ _ _ h ⟨o,e,q⟩=>⟨o,e,q,h⟩
theorem az.stk:az P stack:=fun _ _ _ _ _ _ h q=>⟨q,h⟩
theorem az.ite{c:Prop}[Decidable c]{a b:Sem α}(ha:az P a)(hb:az P b):az P (if c then a else b):=by split<;>assumption
theorem az.wpAny{t:Sem α}(k:az P t){M:Model}{A:Around}{Q:α->Shared->Prop}{E:Value->Shared->Prop}{s:Shared}(hp:P s)(h:wpAny M A t Q E s):wpAny M A t (fun a s'=>Q a s'/\P s') (fun e s'=>E e s'/\P s') s :=
 fun Γ p hΓ=>k M Γ _ _ p s hp (h Γ p hΓ)
def cq(x:Addr)(d:Option Addr)(s:Shared):Prop:=∃ob,s.heap.get? x=some ob/\ob.dict=d
variable{x:Addr}{d:Option Addr}
theorem az.up{a:Addr}{f:Obj->Obj}(hf:∀o:Obj,o.isFreed=false->(f o).dict=o.dict/\(f o).isFreed=false):az (cq x d) (update a f):=fun _ _ _ _ _ s h q=>by
 refine⟨q.1,q.2,?_⟩
 obtain⟨ob,e,hd⟩:=h
 have hfr:=(Heap.get?_some_iff.mp e).2
 by_cases hx:a=x
 ·subst hx
  exact⟨_,Heap.get?_update_self f e (hf ob hfr).2,(hf ob hfr).1.trans hd⟩
 ·exact⟨ob,(Heap.get?_update_other _ f hx).trans e,hd⟩
theorem az.new{o:Obj}:az (cq x d) (alloc o):=fun _ _ _ _ _ s h q=>by
 obtain⟨ob,e,hd⟩:=h
 exact⟨q,ob,Heap.get?_push_of_some _ e,hd⟩
theorem az.flds{v:Value}:az P (fieldsOf v):=by
 unfold fieldsOf
 split
 ·refine az.then (az.ld _) fun o=>?_
  split
  ·exact az.ret _
  ·exact az.no _
 ·exact az.no _
theorem az.fld{v:Value}{i:Nat}:az P (field v i):=by
 unfold field
 refine az.then az.flds fun vs=>?_
 split
 ·exact az.ret _
 ·exact az.no _
theorem az.setF{v u:Value}{i:Nat}:az (cq x d) (setField v i u):=by
 unfold setField
 split
 ·unfold updateField
  refine az.then (az.ld _) fun o=>?_
  split
  ·refine az.ite (az.up fun o ho=>?_) (az.no _)
   obtain⟨c,dd,dt,sl⟩:=o
   cases dt<;>exact⟨rfl,ho⟩
  ·exact az.no _
 ·exact az.no _
theorem az.flight{e:Value}{f:Option Addr}:az (cq x d) (setFlight e f):=by
 unfold setFlight
 exact az.then az.fld fun tb=>az.ite az.setF (az.ret _)
theorem az.ready:∀l:List Env,az (cq x d) (readyFrames l)
 |[]=>az.ret _
 |env::q0=>by
  unfold readyFrames
  split
  ·refine az.then (az.ld _) fun o=>az.ite (az.ret _) (az.then ?_ fun im=>az.then ?_ fun bk=>az.then (az.up fun o ho=>⟨rfl,by obtain⟨c,dd,dt,sl⟩:=o;cases dt<;>first|rfl|exact ho⟩) fun _=>az.ready q0)
   ·unfold behindIsImport
    exact az.ite (az.ret _) (az.ite (az.ret _) (az.then az.fld fun _=>az.ret _))
   ·cases q0 with
    |nil =>
     unfold keptBack
     refine az.ite (az.ret _) (az.then ?_ fun _=>az.ret _)
     unfold underTheClaimsCaller
     exact az.then az.stk fun _=>az.ret _
    |cons c r=>exact az.ret _
  ·exact az.no _
theorem az.frame{env:Env}:az (cq x d) (PySem.frameOf env):=by
 unfold PySem.frameOf
 refine az.then (az.then az.stk fun _=>az.ret _) fun l=>az.then ?_ fun r=>?_
 ·generalize l.dropWhile (fun y=>y.frame != env.frame)=l2
  cases l2 with
  |nil=>exact az.ret _
  |cons e r=>exact az.then (az.ready (e::r)) fun _=>az.ret _
 ·split
  ·exact az.ret _
  ·exact az.no _
theorem az.entry{a b c e f:Value}{pl:List Value}:az (cq x d) (EntryCells.newEntry a b c e f pl):=by
 unfold EntryCells.newEntry newFields newObj
 have st:∀(dt:Data) (dd:Option Addr),az (cq x d) (newObjAsIs (.type "traceback") dt dd):=fun dt dd=>by
  unfold newObjAsIs
  exact az.then az.new fun a=>az.ret _
 exact az.ite (az.then (az.no _) fun _=>st _ _) (st _ _)
theorem az.note{e:Value}{env:Env}:az (cq x d) (noteFrame e env):=by
 unfold noteFrame
 split
 ·rename_i fr _
  refine az.then az.fld fun hd=>?_
  have go:az (cq x d) (do setField e 1 (<-EntryCells.newEntry hd (<-PySem.frameOf env) .none (rawInt fr) .none (<-entryPlaceOf fr (hd != .none)))) :=
   az.then az.frame fun _=>az.then (by
    unfold entryPlaceOf
    refine az.then az.stk fun _=>?_
    split
    ·exact az.ret _
    ·exact az.ret _) fun _=>az.then az.entry fun _=>az.setF
  exact az.ite (az.then az.fld fun _=>az.ite (az.ret _) (az.then az.setF fun _=>go)) go
 ·exact az.no _
theorem az.leave{e:Value}{env:Env}:az (cq x d) (leaving env e):=by
 unfold leaving
 exact az.then az.note fun _=>az.flight
end
section
variable{P:Program}{w:World}
theorem eI.there{H:Hp}{h:Heap}{a:Addr}{o:HO}(x:eI P w H h a o):∃u,h.get? a=some u:=by
 cases o with
 |lst xs=>obtain⟨_,_,_,_,e⟩:=x;exact⟨_,e⟩
 |tup xs=>obtain⟨_,_,_,ob,e,_⟩:=x;exact⟨_,e⟩
 |dK kvs=>obtain⟨_,_,_,_,o,_,_,e,_⟩:=x;exact⟨_,e⟩
 |dT kvs=>obtain⟨_,_,_,_,o,_,_,e,_⟩:=x;exact⟨_,e⟩
 |set S n=>obtain⟨o,_,_,_,e,_⟩:=x;exact⟨_,e⟩
 |ins C dx fs=>obtain⟨_,_,_,e,_⟩:=x;exact⟨_,e⟩
 |own y=>exact x
 |xd fs=>obtain⟨_,⟨_,_,_,e,_⟩,_⟩:=x;exact⟨_,e⟩
 |rng lo hi=>obtain⟨_,_,_,e⟩:=x;exact⟨_,e⟩
 |frz ob u=>obtain⟨e,_⟩:=x;exact⟨_,e⟩
 |tbl ps=>exact⟨_,(show h.get? a=some _ from x)⟩
 |met f y=>exact⟨_,(show h.get? a=some _ from x)⟩
 |ext φ=>obtain⟨_,e,_⟩:=x;exact e
structure Fly(P:Program)(w:World)(q0:List Env)(H:Hp)(s:Shared)(x:Addr)(cls:Value)(H':Hp)(s':Shared):Prop where
 os:s'.os=s.os
 bare:AllBare s'.gens
 un:Un (frs q0) [] H H' s.heap s'.heap
 hok:HOk P w H' s'.heap
 fl:∃B a0,Heap.FlyingW B q0 x cls a0 s'.heap/\(∀b o,H' b=some o->∃u,B.get? b=some u)/\∀b o,s.heap.get? b=some o->b∉frs q0->∃u,B.get? b=some u
 free:H' x=none
def CX1(P:Program)(w:World):CXT:=fun q0 H s E e s'=>∃x cls d H',e=.ref x/\Fly P w q0 H s x cls H' s'/\cq x d s'/\E cls d H'
end
section
variable{X:Cx}{kb:List (Addr × Obj)}{σ:St}{H H':Hp}{s s':Shared}{x:Addr}{cls:Value}{E:Value->Shared->Prop}{Q:Unit->Shared->Prop}
theorem Inv.notSt(I:Inv X kb σ H s){b:Addr}(h1:b≠X.env.locals)(h2:b∉X.fs):b∉frs X.stack:=fun z=>(List.mem_cons.mp (I.stkSub b z)).elim h1 h2
theorem Inv.oldL(I:Inv X kb σ H s){b:Addr}{o:Obj}(e:X.s₀.heap.get? b=some o):b≠X.env.locals:=Nat.ne_of_lt (Nat.lt_of_lt_of_le (Heap.lt_size e) I.ok.above)
theorem Fly.leave(I:Inv X kb σ H s)(hst:X.stack=X.env::X.q0)(hfr:X.env.frame=some X.env.locals)(hex:X.ex=[])(f:Fly X.prog X.w X.stack H s x cls H' s'){d:Option Addr}(hdi:cq x d s')
  (hQ:∀s'',Fly X.prog X.w X.q0 X.H₀ X.s₀ x cls H' s''->cq x d s''->Q () s''):wpAny (model X.prog X.w) X.A (leaving X.env (.ref x)) Q E s':=by
 refine wpAny_mono (az.leave.wpAny (E:=E) (Q:=fun _ s''=>Fly X.prog X.w X.q0 X.H₀ X.s₀ x cls H' s'') hdi ?_) (fun _ s'' z=>hQ s'' z.1 z.2) fun _ _ z=>z.1
 obtain⟨B,a0,fl,c1,c2⟩:=f.fl
 rw [hst] at fl
 have nx:∀b:Addr,b∉X.ex:=fun b=>by rw [hex];simp
 refine wpAny_leaves_onW (by rw [I.ok.frames,hst]) hfr fl fun h' fl' up=>?_
 have st:∀b o,B.get? b=some o->h'.get? b=some o:=fl'.1
 have same:∀b u v,B.get? b=some u->s'.heap.get? b=some v->u=v:=fun b u v h1 h2=>by
  have h3:=fl.1 b u h1
  rw [h2] at h3
  exact(Option.some.inj h3).symm
 have slot:∀b o,X.s₀.heap.get? b=some o->X.H₀ b=none->b∈X.fs->∃sl,h'.get? b=some { o with slots:=sl }:=fun b o e n hb=>by
  obtain⟨sl,e1⟩:=I.base.slot b o e n hb (nx b)
  obtain⟨sl2,e2⟩:=f.un.any e1 (I.base.free b o e n (nx b)) (by simp)
  obtain⟨_,of,ho,hnf⟩:=I.ok.funs.mem hb
  rw [e] at ho
  cases ho
  obtain⟨sl3,e3⟩:=up b _ e2 hnf
  exact⟨sl3,e3⟩
 refine⟨f.os.trans I.os,f.bare,⟨fun b o e n hb _=>?_,fun b o e n hb _=>slot b o e n hb,fun b o e n _=>?_,fun b o e _=>?_,fun b xs e=>f.un.tups b xs (I.base.tups b xs e),fun b o u e=>f.un.frzs b o u (I.base.frzs b o u e),fun b ps e=>?_⟩,fun a o e=>?_,⟨B,a0,fl',c1,fun b o e hb=>?_⟩,f.free⟩
 ·have e1:=I.base.keep b o e n hb (nx b)
  have n1:=I.base.free b o e n (nx b)
  have hb':=I.notSt (I.oldL e) hb
  have e2:=f.un.keep b o e1 n1 hb' (by simp)
  obtain⟨u,hu⟩:=c2 b o e1 hb'
  exact same b u o hu e2▸st b u hu
 ·obtain⟨o',e1⟩:=I.base.there b o e (nx b)
  exact f.un.free b o' e1 (I.base.free b o e n (nx b)) (by simp)
 ·by_cases hb:b∈X.fs
  ·obtain⟨sl,e1⟩:=slot b o e (I.ok.frf b hb) hb
   exact⟨_,e1⟩
  ·obtain⟨o',e1⟩:=I.base.there b o e (nx b)
   obtain⟨u,hu⟩:=c2 b o' e1 (I.notSt (I.oldL e) hb)
   exact⟨u,st b u hu⟩
 ·obtain⟨m1,e1⟩:=I.base.tbls b ps e
  obtain⟨m2,e2⟩:=f.un.tbls b _ e1
  exact⟨m1++m2,by rw [e2,Array.append_assoc]⟩
 ·refine(f.hok a o e).stay (fun b u hb q=>?_) (fun _ q=>q) fun _ _ q=>q
  have t:∃o',H' b=some o':=by
   rcases hb with z|z
   ·exact⟨o,by rw [z];exact e⟩
   ·exact⟨_,z⟩
  obtain⟨o',e'⟩:=t
  obtain⟨v,hv⟩:=c1 b o' e'
  exact same b v u hv q▸st b v hv
 ·obtain⟨o',e1⟩:=I.base.there b o e (nx b)
  exact c2 b o' e1 (I.notSt (I.oldL e) hb)
theorem Fly.first{oe:Obj}{vs:Array Value}{a0:Value}(I:Inv X kb σ H s)(hst:X.stack=X.env::X.q0)(hfr:X.env.frame=some X.env.locals)(hex:X.ex=[])(hx:s.heap.get? x=some oe)(hcl:oe.cls=cls)(hdt:oe.data=.fields vs)
  (h1:vs[1]?=some .none) (h0:vs[0]?=some a0) (hn:X.s₀.heap.get? x=none) (hH:H x=none)
  (hQ:∀s'',Fly X.prog X.w X.q0 X.H₀ X.s₀ x cls H s''->cq x oe.dict s''->Q () s''):wpAny (model X.prog X.w) X.A (leaving X.env (.ref x)) Q E s:=by
 have nx:∀b:Addr,b∉X.ex:=fun b=>by rw [hex];simp
 refine wpAny_mono (az.leave.wpAny (E:=E) (Q:=fun _ s''=>Fly X.prog X.w X.q0 X.H₀ X.s₀ x cls H s'') ⟨oe,hx,rfl⟩ ?_) (fun _ s'' z=>hQ s'' z.1 z.2) fun _ _ z=>z.1
 have hl:s.heap.FunFrames (W.hideAll s.heap (x::frs X.stack)) (X.env::X.q0) :=
  W.funFrames_hide (base:=X.base) (by rw [<-hst];exact I.stack) fun env he a hf=>by
   rw [hst]
   exact .tail _ (List.mem_filterMap.mpr ⟨env,he,hf⟩)
 have hen:(W.hideAll s.heap (x::frs X.stack)).get? x=none:=W.hideAll_none _ (.head _)
 refine wpAny_leaving_firstW (a0:=a0) (by rw [I.ok.frames,hst]) hl hfr hx (fun b o q=>W.of_hideAll _ q) hen hdt h1 h0 fun h' hL=>?_
 obtain⟨k1,⟨_,_,k2⟩,k3,up⟩:=hL
 rw [hcl] at k3
 have st:∀b o,s.heap.get? b=some o->b∉frs X.stack->b≠x->h'.get? b=some o:=fun b o e hb hbx=>k1 b o (W.hideAll_get _ e fun z=>(List.mem_cons.mp z).elim hbx hb)
 have old:∀b o,X.s₀.heap.get? b=some o->b≠x:=fun b o e z=>by rw [z,hn] at e;cases e
 have slot:∀b o,X.s₀.heap.get? b=some o->X.H₀ b=none->b∈X.fs->∃sl,h'.get? b=some { o with slots:=sl }:=fun b o e n hb=>by
  obtain⟨sl,e1⟩:=I.base.slot b o e n hb (nx b)
  obtain⟨_,of,ho,hnf⟩:=I.ok.funs.mem hb
  rw [e] at ho
  cases ho
  obtain⟨sl3,e3⟩:=up b _ e1 hnf
  exact⟨sl3,e3⟩
 have trk:∀b o,H b=some o->b∉frs X.stack/\b≠x:=fun b o e=>⟨fun z=>(by rw [I.stkFree b z] at e;cases e),fun z=>(by rw [z,hH] at e;cases e)⟩
 refine⟨I.os,I.bare,⟨fun b o e n hb _=>st b o (I.base.keep b o e n hb (nx b)) (I.notSt (I.oldL e) hb) (old b o e),fun b o e n hb _=>slot b o e n hb,fun b o e n _=>I.base.free b o e n (nx b),fun b o e _=>?_,I.base.tups,I.base.frzs,I.base.tbls⟩,fun a o e=>?_,⟨_,_,⟨k1,hen,k2,k3⟩,fun b o e=>?_,fun b o e hb=>?_⟩,hH⟩
 ·by_cases hb:b∈X.fs
  ·obtain⟨sl,e1⟩:=slot b o e (I.ok.frf b hb) hb
   exact⟨_,e1⟩
  ·obtain⟨o',e1⟩:=I.base.there b o e (nx b)
   exact⟨o',st b o' e1 (I.notSt (I.oldL e) hb) (old b o e)⟩
 ·refine(I.hok a o e).stay (fun b u hb q=>?_) (fun _ q=>q) fun _ _ q=>q
  have hb':∃o',H b=some o':=by
   rcases hb with z|z
   ·exact⟨o,by rw [z];exact e⟩
   ·exact⟨_,z⟩
  obtain⟨o',e'⟩:=hb'
  exact st b u q (trk b o' e').1 (trk b o' e').2
 ·obtain⟨u,hu⟩:=(I.hok b o e).there
  exact⟨u,W.hideAll_get _ hu fun z=>(List.mem_cons.mp z).elim (trk b o e).2 (trk b o e).1⟩
 ·obtain⟨o',e1⟩:=I.base.there b o e (nx b)
  exact⟨o',W.hideAll_get _ e1 fun z=>(List.mem_cons.mp z).elim (old b o e) (I.notSt (I.oldL e) hb)⟩
theorem Fly.made{h1:Heap}{vs:List Value}(I:Inv X kb σ H s)(hst:X.stack=X.env::X.q0)(hfr:X.env.frame=some X.env.locals)(hex:X.ex=[])(hx:Heap.MadeExcOf s.heap h1 x cls vs)
  (hQ:∀s'',Fly X.prog X.w X.q0 X.H₀ X.s₀ x cls H s''->cq x none s''->Q () s''):wpAny (model X.prog X.w) X.A (leaving X.env (.ref x)) Q E { s with heap:=h1 }:=by
 obtain⟨t,he,_,_⟩:=hx.there
 have I1:Inv X kb σ H { s with heap:=h1 }:=I.kept hx.keeps
 refine Fly.first I1 hst hfr hex he rfl rfl rfl rfl ?_ ?_ hQ
 ·cases q:X.s₀.heap.get? x with
  |none=>rfl
  |some o =>
   obtain⟨u,hu⟩:=I.base.there x o q (by rw [hex];simp)
   have:=hx.new
   rw [hu] at this
   cases this
 ·cases q:H x with
  |none=>rfl
  |some o =>
   obtain⟨u,hu⟩:=(I.hok x o q).there
   have:=hx.new
   rw [hu] at this
   cases this
end
section
variable{P:Program}{w:World}{K:W.Frag}{mg:Str->Option Value}{base:Heap}{N:List Str}{qual:Str}{scope:Scope}{f:Addr}{cd:Value}{A:Around}{q0:List Env}{s:Shared}{H:Hp}{E:XK}
theorem aQ:jI (CX1 P w) (dP (CX1 P w) P w K mg base N qual scope f cd A q0 s H E) E:=fun kb σ H1 s1 e s' I h=>by
 obtain⟨x,cls,d,H',rfl,fl,hd,hE⟩:=h
 exact Fly.leave I rfl rfl rfl fl hd fun s'' g gd=>⟨x,cls,d,H',rfl,g,gd,hE⟩
end
theorem tR{K:W.Frag}{h:Heap}{mg:Str->Option Value}{c:Str}{C:Addr}{bmB:List Value}{newId:String}(kin:K.In h)(hm:mg c=some (.ref C))(q:W.excIn K C bmB newId=true):OwnCls c C bmB newId mg h:=by
 refine⟨hm,?_⟩
 unfold W.excIn at q
 split at q
 next ddx cdx slx look =>
  split at q
  next C2 tl z0 z1 z2 z3 nn z5 hmro hsl =>
   simp only [Bool.not_eq_true',Bool.and_eq_true,beq_iff_eq] at q
   obtain⟨⟨⟨⟨⟨e1,e2⟩,hdel⟩,htl⟩,hok⟩,hni⟩:=q
   obtain⟨nm,bs,mro,ns,qn,hd,sn,sub,ab,col,del⟩:=cdx
   obtain⟨sll⟩:=slx
   dsimp only at hmro hdel hok hni hsl
   subst e1 e2 hmro hdel hsl
   exact⟨tl,ns,nm,qn,bs,hd,sn,sub,ab,col,ddx,z0,z1,z2,z3,z5,_,kin _ _ look,.of_isNs (W.isNs_of_in kin hok),W.nsMap_none_of_in kin hok hni,W.tail_of_in kin htl⟩
  next=>cases q
 next=>cases q
abbrev o5:List Value:=[.type "ValueError",.type "Exception",.type "BaseException",.type "object"]
theorem yg{X:Cx}{c:Str}{C:Addr}{e₀:Expr}{es:List Expr}{np cpos pos:Pos}{ta:TA}{W:St->Hp->Prop}(hc:X.calm=true)(hg:Gl X c)(hm:X.mg c=some (.ref C)) (q:PySem.W.excIn X.K C o5 "ValueError.__new__"=true)
  (ha:PA X (e₀::es) ta) (hW:∀(kb:List (Addr × Obj)) (σ:St) (H:Hp) (s:Shared) (e:Addr) (h1:Heap) (vs:List Value),Inv X kb σ H s->W σ H->Heap.MadeExcOf s.heap h1 e (.ref C) vs->X.xe (.ref e) { s with heap:=h1 })
  (hd:(c==("__debug__":Str))=false:=by decide) (he:starEach (e₀::es) X.env=(false,eval e₀ X.env)::starEach es X.env:=by rfl) (hpl:(backTo cpos (starEach es X.env)).any (·.1)=false:=by rfl) :
  PS X (.Raise (some (.Call (.Name c np) (e₀::es) [] cpos)) none pos) (fun _ σ H=>ta σ H fun vs H1=>vs.length<=sizeLine/\W σ H1):=by
 intro kb s σ H D I h
 obtain⟨tl,N,nm,qq,bs,hdct,sn,sub,ab,col,dd,k0,k1,k2,k3,k5,mN,hC,hN,hni,T⟩:=(tR I.mod.kin hm q).obj
 refine wpAny_Raise_call_subU (C:=C) (nm:=nm) (q:=qq) (N:=N) (bs:=bs) (bm:=tl) (hdct:=hdct) (sn:=sn) (sub:=sub) (ab:=ab) (col:=col) (dd:=dd) (k0:=k0) (k1:=k1) (k2:=k2) (k3:=k3) (k5:=k5)
  PySem.F.excBase_ValueError (by decide +kernel) PySem.F.excBase_ValueError (mN:=mN) (T.hasType PySem.F.excBase_ValueError.hasBase) (I.ok.hd hc) ?_ hni (lR I hg hm ⟨rfl,?_⟩ hd)
 ·rw [he]
  show(false||(backTo cpos (starEach es X.env)).any (·.1))=false
  rw [hpl]
  rfl
 ·have h2:=ha cpos kb s σ H _ I h
  rw [he] at h2 ⊢
  refine Calls.evalArgs_plain (wpAny_mono h2 (fun us s2 ⟨vs,H1,I1,rv,hl,hw⟩=>⟨rfl,?_,I1.bk _ _ hC,hN.keeps I1.bk,T.keeps I1.bk,fun h' e hx=>hW kb σ H1 s2 e h' us I1 hw hx⟩) fun _ _ z=>z)
  rw [<-rv.length]
  exact hl
section
variable{P:Program}{w:World}{K:W.Frag}{mg:Str->Option Value}{base:Heap}
theorem bY{N:List Str}{qual:Str}{scope:Scope}{f:Addr}{cd:Value}{A:Around}{q0:List Env}{s:Shared}{H:Hp}{E:XK}{c:Str}{C:Addr}{e₀:Expr}{es:List Expr}{np cpos pos:Pos}{ta:TA}
  (hg:Gl (dP (CX1 P w) P w K mg base N qual scope f cd A q0 s H E) c) (hm:mg c=some (.ref C)) (q:PySem.W.excIn K C o5 "ValueError.__new__"=true) (ha:PA (dP (CX1 P w) P w K mg base N qual scope f cd A q0 s H E) (e₀::es) ta)
  (hd:(c==("__debug__":Str))=false:=by decide) (he:starEach (e₀::es) (envOfC qual scope s.heap.objs.size f cd)=(false,eval e₀ (envOfC qual scope s.heap.objs.size f cd))::starEach es (envOfC qual scope s.heap.objs.size f cd):=by rfl)
  (hpl:(backTo cpos (starEach es (envOfC qual scope s.heap.objs.size f cd))).any (·.1)=false:=by rfl) :
  PS (dP (CX1 P w) P w K mg base N qual scope f cd A q0 s H E) (.Raise (some (.Call (.Name c np) (e₀::es) [] cpos)) none pos) (fun _ σ H=>ta σ H fun vs H1=>vs.length<=sizeLine/\E (.ref C) none H1) :=
 yg (X:=dP (CX1 P w) P w K mg base N qual scope f cd A q0 s H E) (W:=fun _ H1=>E (.ref C) none H1) rfl hg hm q ha (fun kb σ H s e h1 vs I hw hx=>Fly.made I rfl rfl rfl hx fun s'' g gd=>⟨e,.ref C,none,H,rfl,g,gd,hw⟩) hd he hpl
theorem Fun.okX{x qual:Str}{st:Stmt}{f:Addr}{fd:FuncData}{N ps:List Str}{k:Nat}{sp:Sp}(F:Fun K x qual st f fd)(S:ax N ps (ah st))(len:∀vs H Q E,sp vs H Q E->vs.length=ps.length)
  (hbody:∀(cdv:Value) (A:Around) (q0:List Env) (s:Shared) (H:Hp) (vs:List V) (Q:VK) (E:XK),bq k (A.deeper (envOfC qual (ah st) s.heap.objs.size f cdv))->sp vs H Q E ->
   ∃t,PSs (dP (CX1 P w) P w K mg base N qual (ah st) f cdv A q0 s H E) (ap st) t/\t { nx:=fun _ H'=>Q .non H',rt:=Q } (gH N vs) H):aV P w K mg base (CX1 P w) (k+1) f fd ps sp:=by
 obtain⟨oc,od,kV,doc,pm,an,cdv,ct,osl,rfl,lk,hcd⟩:=F.ex
 exact Bz lk hcd S len fun A q0 s H vs Q E hr hsp=>hbody cdv A q0 s H vs Q E hr hsp
end
section
variable{X:Cx}{kb:List (Addr × Obj)}{σ:St}{H H':Hp}{s s':Shared}{x:Addr}{cls:Value}
theorem Fly.on{h':Heap}(f:Fly X.prog X.w X.stack H s x cls H' s')(I:Inv X kb σ H s){B:Heap}{a0 a1:Value}(fl:Heap.FlyingW B X.stack x cls a0 s'.heap)(c1:∀b o,H' b=some o->∃u,B.get? b=some u)
  (c2:∀b o,s.heap.get? b=some o->b∉frs X.stack->∃u,B.get? b=some u) (fl':Heap.FlyingW B X.stack x cls a1 h') (up:s'.heap.UpToSlots h'):Fly X.prog X.w X.stack H s x cls H' { s' with heap:=h' }:=by
 have st:∀b o,B.get? b=some o->h'.get? b=some o:=fl'.1
 have same:∀b u v,B.get? b=some u->s'.heap.get? b=some v->u=v:=fun b u v h1 h2=>by
  have h3:=fl.1 b u h1
  rw [h2] at h3
  exact(Option.some.inj h3).symm
 have slot:∀b o,s.heap.get? b=some o->H b=none->b∈frs X.stack->∃sl,h'.get? b=some { o with slots:=sl }:=fun b o e n hb=>by
  obtain⟨sl2,e2⟩:=f.un.any e n (by simp)
  obtain⟨_,of,ho,hnf⟩:=I.stack.mem hb
  rw [e] at ho
  cases ho
  obtain⟨sl3,e3⟩:=up b _ e2 hnf
  exact⟨sl3,e3⟩
 refine⟨f.os,f.bare,⟨fun b o e n hb _=>?_,fun b o e n hb _=>slot b o e n hb,f.un.free,fun b o e _=>?_,f.un.tups,f.un.frzs,f.un.tbls⟩,fun a o e=>?_,⟨B,a1,fl',c1,c2⟩,f.free⟩
 ·have e2:=f.un.keep b o e n hb (by simp)
  obtain⟨u,hu⟩:=c2 b o e hb
  exact same b u o hu e2▸st b u hu
 ·by_cases hb:b∈frs X.stack
  ·obtain⟨sl,e1⟩:=slot b o e (I.stkFree b hb) hb
   exact⟨_,e1⟩
  ·obtain⟨u,hu⟩:=c2 b o e hb
   exact⟨u,st b u hu⟩
 ·refine(f.hok a o e).stay (fun b u hb q=>?_) (fun _ q=>q) fun _ _ q=>q
  have t:∃o',H' b=some o':=by
   rcases hb with z|z
   ·exact⟨o,by rw [z];exact e⟩
   ·exact⟨_,z⟩
  obtain⟨o',e'⟩:=t
  obtain⟨v,hv⟩:=c1 b o' e'
  exact same b v u hv q▸st b v hv
theorem Fly.inv(f:Fly X.prog X.w X.stack H s x cls H' s')(I:Inv X kb σ H s):Inv X kb σ H' s':=I.call' (ch:=[]) f.os f.un f.hok f.bare fun b z=>absurd z (by simp)
theorem Fly.there(f:Fly X.prog X.w X.stack H s x cls H' s'):∃ob,s'.heap.get? x=some ob/\ob.cls=cls:=by
 obtain⟨B,a0,fl,_⟩:=f.fl
 exact fl.there
theorem Fly.again{A:Around}{E:Value->Shared->Prop}{Q:Unit->Shared->Prop}(f:Fly X.prog X.w X.stack H s x cls H' s')(I:Inv X kb σ H s){d:Option Addr}(hdi:cq x d s')(hQ:∀s'',Fly X.prog X.w X.stack H s x cls H' s''->cq x d s''->Q () s'') :
  wpAny (model X.prog X.w) A (setFlight (.ref x) none) Q E s':=by
 refine wpAny_mono (az.flight.wpAny (E:=E) (Q:=fun _ s''=>Fly X.prog X.w X.stack H s x cls H' s'') hdi ?_) (fun _ s'' z=>hQ s'' z.1 z.2) fun _ _ z=>z.1
 obtain⟨B,a0,fl,c1,c2⟩:=f.fl
 exact lands_againW fl fun h' fl' up=>f.on I fl c1 c2 fl' up
theorem Fly.look{E E2:Value->Shared->Prop}{Q:Unit->Shared->Prop}(f:Fly X.prog X.w X.stack H s x cls H' s')(I:Inv X kb σ H s)(hst:X.stack=X.env::X.q0)(hfr:X.env.frame=some X.env.locals){d:Option Addr}(hdi:cq x d s')
  (hQ:∀s'',Fly X.prog X.w X.stack H s x cls H' s''->cq x d s''->Q () s''):wpAny (model X.prog X.w) X.A (noteFrame (.ref x) X.env) (fun _ s2=>wpAny (model X.prog X.w) X.A (setFlight (.ref x) none) Q E2 s2) E s':=by
 obtain⟨B,a0,fl,c1,c2⟩:=f.fl
 have fl0:=fl
 rw [hst] at fl
 refine wpAny_mono (az.note.wpAny (E:=E) (Q:=fun _ s2=>wpAny (model X.prog X.w) X.A (setFlight (.ref x) none) (fun _ s''=>Fly X.prog X.w X.stack H s x cls H' s'') E2 s2) hdi ?_) (fun _ s2 z=>?_) fun _ _ z=>z.1
 ·refine wpAny_looks_onW (by rw [I.ok.frames,hst]) hfr fl fun h' hd up=>?_
  refine wpAny_landsW hd fun h2 fl2 up2=>?_
  rw [<-hst] at fl2
  exact f.on I fl0 c1 c2 fl2 (up.trans up2)
 ·exact wpAny_mono (az.flight.wpAny z.2 z.1) (fun _ s'' y=>hQ s'' y.1 y.2) fun _ _ y=>y.1
end
abbrev Cx.inE(X:Cx)(e:Addr):Cx:={ X with A:=X.A.mark (some (.ref e)),calm:=false }
section
variable{X:Cx}{kb:List (Addr × Obj)}{σ:St}{H:Hp}{s:Shared}
theorem Cx.Ok.inE{e:Addr}(ok:X.Ok):(X.inE e).Ok:=⟨ok.mod,ok.kind,ok.glob,ok.blt,ok.above,ok.inj,ok.has,ok.cab,fun z=>absurd z (by simp),ok.frames,ok.stk,ok.exf,ok.bs,ok.bsz,ok.noex,ok.exfs,ok.funs,ok.frf⟩
theorem Inv.inE{e:Addr}(I:Inv X kb σ H s):Inv (X.inE e) kb σ H s:=⟨I.ok.inE,I.os,I.bare,I.base,I.loc,I.cell,I.free,I.freeC,I.pin,I.hok,I.len⟩
theorem Inv.outE{e:Addr}{E:Value->Shared->Prop}(ok:X.Ok)(I:Inv ((X.inE e).wish E) kb σ H s):Inv X kb σ H s:=⟨ok,I.os,I.bare,I.base,I.loc,I.cell,I.free,I.freeC,I.pin,I.hok,I.len⟩
theorem SP.outE{e:Addr}{E:Value->Shared->Prop}{D:ja}{f:Flow}{s':Shared}(ok:X.Ok)(h:SP ((X.inE e).wish E) kb D f s'):SP X kb D f s':=by
 cases f with
 |next=>obtain⟨σ',H',I,q⟩:=h;exact⟨σ',H',I.outE ok,q⟩
 |brk=>obtain⟨σ',H',I,q⟩:=h;exact⟨σ',H',I.outE ok,q⟩
 |cont=>obtain⟨σ',H',I,q⟩:=h;exact⟨σ',H',I.outE ok,q⟩
 |ret u=>obtain⟨v,σ',H',I,r,q⟩:=h;exact⟨v,σ',H',I.outE ok,r,q⟩
end
abbrev TH:=ja->Value->Option Addr->Addr->St->Hp->Prop
def PH(X:Cx)(hs:List ExceptHandler)(t:TH):Prop :=
 ∀(kb:List (Addr × Obj)) (σ:St) (H H':Hp) (s s':Shared) (D:ja) (cls:Value) (d:Option Addr) (e:Addr),Inv X kb σ H s->Fly X.prog X.w X.stack H s e cls H' s'->cq e d s'->t D cls d e σ H' ->
  wpAny (model X.prog X.w) X.A (handleBy (.ref e) X.env hs) (SP X kb D) X.xe s'
theorem yW{X:Cx}:PH X [] (fun _ _ _ _ _ _=>False):=fun _ _ _ _ _ _ _ _ _ _ _ _ _ h=>h.elim
theorem qj{X:Cx}{d:Str}{vd:Value}{np pos:Pos}{b₀:Stmt}{suite:List Stmt}{gN:List ExceptHandler}{th:TS}{tr:TH}(hg:Gl X d)(hm:X.mg d=some vd)(hb:∀e,PSs (X.inE e).nox (b₀::suite) th)(hr:PH X gN tr)
  (hd:(d==("__debug__":Str))=false:=by decide) :
  PH X (.ExceptHandler (some (.Name d np)) none (b₀::suite) pos::gN) (fun D cls dd e σ H=>∃b,W.exmOne X.K cls vd=some b/\if b=true then th D σ H else tr D cls dd e σ H):=by
 intro kb σ H H' s s' D cls dd e I f hdi h
 obtain⟨b,hx,h⟩:=h
 have I1:=f.inv I
 obtain⟨ob,hob,hcl⟩:=f.there
 have LT:W.Looks (model X.prog X.w) s'.heap (typeOf (.ref e)) cls:=by
  rw [<-hcl]
  exact(W.Looks.ld hob).andThen .now
 refine wpAny_handleBy_cons (codeAny_handlers_test (Calls.Name_function_global I1.ok.kind hg (Calls.loadGlobal_global (by rw [I1.ok.glob];exact I1.mod.glob.keeps I1.bk) hm ?_) hd)) (by intro q;cases q)
 refine(W.exm_one I1.kIn LT hx).here ?_
 cases b with
 |false=>exact hr kb σ H H' s s' D cls dd e I f hdi h
 |true =>
  refine codeAny_handlers_suite (f.again I hdi fun s2 f2 _=>?_)
  have I2:=(f2.inv I).inE (e:=e)
  exact wpAny_mono (hb e kb s2 σ H' D (I2.wish _) h) (fun fl s3 q=>SP.outE I1.ok q) fun _ _ z=>False.elim z
def DW(X:Cx)(hs:List ExceptHandler)(kb:List (Addr × Obj))(D:ja):Value->Shared->Prop:=fun e s1 =>
 wpAny (model X.prog X.w) X.A (noteFrame e X.env) (fun _ s2=>wpAny (model X.prog X.w) X.A (setFlight e none) (fun _ s3=>wpAny (model X.prog X.w) X.A (handleBy e X.env hs) (SP X kb D) X.xe s3) X.xe s2) X.xe s1
abbrev Cx.tryIn(X:Cx)(hs:List ExceptHandler)(kb:List (Addr × Obj))(D:ja):Cx:={ X with pn:=X.pn++kb,xe:=DW X hs kb D }
section
variable{X:Cx}{hs:List ExceptHandler}{kb pins':List (Addr × Obj)}{D D':ja}{σ:St}{H:Hp}{s:Shared}
theorem Cx.Ok.tryIn(ok:X.Ok):(X.tryIn hs kb D).Ok:=⟨ok.mod,ok.kind,ok.glob,ok.blt,ok.above,ok.inj,ok.has,ok.cab,ok.hd,ok.frames,ok.stk,ok.exf,ok.bs,ok.bsz,ok.noex,ok.exfs,ok.funs,ok.frf⟩
theorem Cx.Ok.tryOut(ok:(X.tryIn hs kb D).Ok):X.Ok:=⟨ok.mod,ok.kind,ok.glob,ok.blt,ok.above,ok.inj,ok.has,ok.cab,ok.hd,ok.frames,ok.stk,ok.exf,ok.bs,ok.bsz,ok.noex,ok.exfs,ok.funs,ok.frf⟩
theorem Inv.tryIn(I:Inv X kb σ H s):Inv (X.tryIn hs kb D) [] σ H s:=⟨I.ok.tryIn,I.os,I.bare,I.base,I.loc,I.cell,I.free,I.freeC,fun p hp=>I.pin p (by simpa using hp),I.hok,I.len⟩
theorem Inv.tryOut(I:Inv (X.tryIn hs kb D) pins' σ H s):Inv X kb σ H s:=⟨I.ok.tryOut,I.os,I.bare,I.base,I.loc,I.cell,I.free,I.freeC,fun p hp=>I.pin p (List.mem_append_left _ hp),I.hok,I.len⟩
theorem SP.tryOut{f:Flow}{s':Shared}(h:SP (X.tryIn hs kb D') [] D f s'):SP X kb D f s':=by
 cases f with
 |next=>obtain⟨σ',H',I,q⟩:=h;exact⟨σ',H',I.tryOut,q⟩
 |brk=>obtain⟨σ',H',I,q⟩:=h;exact⟨σ',H',I.tryOut,q⟩
 |cont=>obtain⟨σ',H',I,q⟩:=h;exact⟨σ',H',I.tryOut,q⟩
 |ret u=>obtain⟨v,σ',H',I,r,q⟩:=h;exact⟨v,σ',H',I.tryOut,r,q⟩
end
theorem yK{X:Cx}{body:List Stmt}{h₀:ExceptHandler}{hs:List ExceptHandler}{pos:Pos}{tb:ja->TS}(hb:∀kb D,PSs (X.tryIn (h₀::hs) kb D) body (tb D)):PS X (.Try body (h₀::hs) [] [] pos) (fun D σ H=>tb D D σ H):=by
 intro kb s σ H D I h
 refine wpAny_Try_except (wpAny_mono (hb kb D [] s σ H D I.tryIn h) (fun f s1 q=>?_) fun _ _ z=>z)
 have q':=SP.tryOut q
 cases f with
 |next=>exact wpAny_execs_nil q'
 |brk=>exact q'
 |cont=>exact q'
 |ret u=>exact q'
theorem BB{X:Cx}{hs:List ExceptHandler}{kb:List (Addr × Obj)}{D:ja}{th:TH}(hst:X.stack=X.env::X.q0)(hfr:X.env.frame=some X.env.locals)(hh:PH X hs th) :
  ∀(pins':List (Addr × Obj)) (σ:St) (H:Hp) (s:Shared) (e:Value) (s':Shared),Inv (X.tryIn hs kb D) pins' σ H s->CX1 X.prog X.w X.stack H s (fun cls d H'=>∀x,H' x=none->th D cls d x σ H') e s'->(X.tryIn hs kb D).xe e s':=by
 intro pins' σ H s e s' I h
 obtain⟨x,cls,d,H',rfl,f,hdi,hE⟩:=h
 have I0:Inv X kb σ H s:=I.tryOut
 exact Fly.look f I0 hst hfr hdi fun s'' f2 d2=>hh kb σ H H' s s'' D cls d x I0 f2 d2 (hE x f.free)
section
variable{X:Cx}{CX:CXT}{k:Nat}{f C:Addr}{fd:FuncData}{ps:List Str}{sp:Sp}{dvs:List V}{ds:List Value}{E:St->XK}{x m:Str}{p pos apos:Pos}{e o:Expr}{es:List Expr}{ta:TE}{t:TA}
theorem rE(F:aV X.prog X.w X.K X.mg X.base CX k f fd ps sp)(hr:bq k X.A)(hg:Gl X x)(hm:X.mg x=some (.ref f))(hk:W.keepIn X.K (.ref f)=true)(hb:aX X.K fd ps ds)(hd:cy dvs ds)
  (hx:∀(kb:List (Addr × Obj)) (σ:St) (H:Hp) (s:Shared) (e:Value) (s':Shared),Inv X kb σ H s->CX X.stack H s (E σ) e s'->X.xe e s') (ha:PA X (e::es) t)
  (hdb:(x==("__debug__":Str))=false:=by decide) (he:starEach (e::es) X.env=(false,eval e X.env)::starEach es X.env:=by rfl) (hpl:(backTo pos (starEach es X.env)).any (·.1)=false:=by rfl) :
  PE X (.Call (.Name x p) (e::es) [] pos) (fun σ H Q=>t σ H fun vs H1=>sp (vs++dvs) H1 Q (E σ)):=by
 intro kb s σ H Q I h
 refine wpAny_Call_Name_kw (lR I hg hm ?_ hdb)
 refine W.callWith_K (h₀:=X.base) I.ok.mod.kin hk (thn (ha pos kb s σ H _ I h) fun us s1 ⟨vs,H1,I1,r,q⟩=>⟨I1.kIn,?_⟩) he hpl
 have r2:cy (vs++dvs) (us++ds):=r.append hd
 have hl:(us++ds).length=ps.length:=by rw [<-r2.length];exact F.len _ _ _ _ q
 refine wpAny_call (codeAny_mono (F.run X.A X.stack s1 H1 ⟨us,[]⟩ (us++ds) (vs++dvs) Q (E σ) hr I1.env0 (hb s1 us I1.kIn hl) r2 q) fun r s' hq=>?_)
 cases r with
 |error e=>exact hx kb σ H1 s1 e s' I1 hq
 |ok fl =>
  cases fl with
  |ret u=>exact I1.after hq
  |next=>exact False.elim hq
  |brk=>exact False.elim hq
  |cont=>exact False.elim hq
end
section
variable{X:Cx}{pos:Pos}{e:Expr}{es:List Expr}{te:TE}
abbrev TJ:=St->Hp->(Hp->Prop)->Prop
def PJ(X:Cx)(es:List Expr)(t:TJ):Prop :=
 ∀(kb:List (Addr × Obj)) (s:Shared) (σ:St) (H:Hp) (acc:Str) (Z:Hp->Prop),acc.length+2000000*es.length<=sizeLine->Inv X kb σ H s->t σ H Z ->
  Joins (model X.prog X.w) X.A X.xe (evalEach es X.env) acc (fun out s1=>out.length<=sizeLine/\∃H1,Inv X kb σ H1 s1/\Z H1) s
theorem fL:PJ X [] (fun _ H Z=>Z H):=fun _ _ _ H _ _ hz I h=>⟨Nat.le_trans (Nat.le_add_right _ _) hz,H,I,h⟩
theorem bf{tj:TJ}(he:PE X e te)(hr:PJ X es tj):PJ X (e::es) (fun σ H Z=>te σ H fun v H1=>∃y:Str,v=.str y/\y.length<=2000000/\tj σ H1 Z):=by
 intro kb s σ H acc Z hz I h
 refine thn (he kb s σ H _ I h) fun u s1 ⟨v,H1,I1,r,y,hv,hy,q⟩=>?_
 subst hv
 obtain⟨t,rfl⟩:=r
 have e1:(acc++y).length=acc.length+y.length:=by
  show Array.size (acc.cps++y.cps)=_
  rw [Array.size_append]
  rfl
 have e2:(e::es).length=es.length+1:=rfl
 rw [e2] at hz
 refine⟨y,t,rfl,by omega,hr kb s1 σ H1 (acc++y) Z (by omega) I1 q⟩
theorem dC{v1 v2:Expr}{gN:List Expr}{tj:TJ}(hj:PJ X (v1::v2::gN) tj)(hl:(v1::v2::gN).length<=8) :
  PE X (.JoinedStr (v1::v2::gN) pos) (fun σ H Q=>tj σ H fun H1=>∀z:Str,z.length<=sizeLine->Q (.str z) H1):=by
 intro kb s σ H Q I h
 have hz:Str.empty.length+2000000*(v1::v2::gN).length<=sizeLine:=by
  have e0:Str.empty.length=0:=rfl
  rw [sizeLine_eq,e0]
  rw [Nat.zero_add]
  exact Nat.le_trans (Nat.mul_le_mul_left _ hl) (Nat.le_of_ble_eq_true rfl)
 refine wpAny_JoinedStr ?_
 have j:=hj kb s σ H Str.empty _ hz I h
 exact joins_mono _ _ (fun out s1 ⟨h1,H1,I1,q⟩=>⟨h1,.str out,H1,I1.tok _,⟨_,rfl⟩,q out h1⟩) _ j
where joins_mono {M:Model} {A:Around} {E:Value->Shared->Prop}:∀(parts:List (Sem Value)) (acc:Str) {Q Q':Str->Shared->Prop},(∀out s,Q out s->Q' out s)->∀s,Joins M A E parts acc Q s->Joins M A E parts acc Q' s
 |[],acc,_,_,hq,s,h=>hq _ _ h
 |x::gN,acc,_,_,hq,s,h=>thn (show wpAny _ _ _ _ _ _ from h) fun v s1 ⟨y,t,e1,e2,e3⟩=>⟨y,t,e1,e2,joins_mono gN (acc++y) hq s1 e3⟩
theorem sX(he:PE X e te):PE X (.FormattedValue e (-1) none pos) (fun σ H Q=>te σ H fun v H1=>(∃y:Str,v=.str y/\y.length<=sizeLine/\Q (.str y) H1)\/∃i:Int,v=.int i/\i.natAbs.log2 < 1920/\Q (.str (toString i)) H1):=by
 intro kb s σ H Q I h
 refine FormattedValue_plain (thn (he kb s σ H _ I h) fun u s1 ⟨v,H1,I1,r,q⟩=>?_)
 rcases q with ⟨y,rfl,hy,q⟩|⟨i,rfl,hi,q⟩
 ·obtain⟨t,rfl⟩:=r
  exact formatField_str (fun t' tk=>⟨.str y,H1,I1.tok _,⟨_,rfl⟩,q⟩) hy
 ·obtain⟨t,rfl⟩:=r
  exact formatField_int_small hi ⟨.str _,H1,I1.tok _,⟨_,rfl⟩,q⟩
end
section
variable{prog:Program}{w:World}{A:Around}{s:Shared}{E:Value->Shared->Prop}{K:Type}[DecidableEq K]{knd:KeyKind prog w K}
end
section
variable{X:Cx}
end
structure Du(K:W.Frag)(D:Addr):Prop where
 is:(match K.lookup D with|some ⟨_,_,.cls _,_⟩=>true|_=>false)=true
 ga:W.findIn K (.ref D) "__getattribute__"=some (some (.builtin "BaseException.__getattribute__"))
 gh:W.findIn K (.ref D) "__getattr__"=some none
 cl:W.findIn K (.ref D) "__class__"=some (some (.builtin "object.__class__"))
 sp:W.specialIn K (.builtin "object.__class__") "__get__"=some (some (.builtin "getset_descriptor.__get__"))
 tk:W.takesIn K (.builtin "object.__class__")=some true
 ob:W.mroIn K D (.type "object")=some true
 be:W.mroIn K D (.type "BaseException")=some true
section
variable{prog:Program}{w:World}{A:Around}{E:Value->Shared->Prop}{s:Shared}{K:W.Frag}{x D:Addr}
end
section
variable{X:Cx}
end
section
variable{X:Cx}{kb:List (Addr × Obj)}{σ:St}{H H':Hp}{s s':Shared}{x:Addr}{cls:Value}
def ja.gone(D:ja)(i:Nat):ja:={ nx:=fun σ H=>D.nx (σ.set i none) H,rt:=D.rt,bk:=fun σ H=>D.bk (σ.set i none) H,ct:=fun σ H=>D.ct (σ.set i none) H }
end
structure Ea(K:W.Frag)(x qual:Str)(st:Stmt)(dV:Value)(f:Addr)(fd:FuncData):Prop where
 ex:∃(oc:Value) (od:Option Addr) (kV doc pm:Value) (an:Option Addr) (cdv ct:Value) (osl:Array (Option Value)),
  fd=W.fnOf x qual (ay st) (ap st) (ah st) dV kV doc pm an cdv ct/\K.lookup f=some ⟨oc,od,.func fd,osl⟩/\W.codeIn K cdv qual=true
 kp:W.keepIn K (.ref f)=true
section
variable{P:Program}{w:World}{K:W.Frag}{mg:Str->Option Value}{base:Heap}
end
section
variable{X:Cx}
end
section
variable{X:Cx}{kb:List (Addr × Obj)}{σ:St}{H:Hp}{s:Shared}{h':Heap}
theorem Inv.turned2{t':Nat}{e j p:Addr}{o:HO}(I:Inv X kb σ H s)(k:∀b ob,b≠e->b≠j->s.heap.get? b=some ob->h'.get? b=some ob)(fe:qK X kb H e)(fj:qK X kb H j)(hp:s.heap.objs.size<=p)
  (new:eI X.prog X.w (upd H p o) h' p o):Inv X kb σ (upd H p o) { s with heap:=h',toks:=t' }:=by
 have hn:H p=none:=I.hok.fresh hp
 have nn:∀b u,H b=some u->b≠e/\b≠j:=fun b u q=>⟨fun z=>(by rw [z,fe.1] at q;cases q),fun z=>(by rw [z,fj.1] at q;cases q)⟩
 have nc:∀b,b∉[e,j]->b≠e/\b≠j:=fun b hb=>⟨fun z=>hb (by simp [z]),fun z=>hb (by simp [z])⟩
 have lt:∀b ob,s.heap.get? b=some ob->b≠p:=fun b ob q z=>absurd (Nat.lt_of_lt_of_le (Heap.lt_size q) (by rw [z];exact hp)) (Nat.lt_irrefl _)
 refine I.step (g':=s.gens) (d':=s.drawn) (ch:=[e,j]) (fun b hb=>?_) (fun b ob _ _ hc q _=>k b ob (nc b hc).1 (nc b hc).2 q) (fun b ob _ _ hc q _=>⟨ob.slots,k b ob (nc b hc).1 (nc b hc).2 q⟩) (fun b ob hc q n=>by rw [aK (lt b ob q)];exact n)
  (fun b ob hc q=>⟨ob,k b ob (nc b hc).1 (nc b hc).2 q⟩) (fun b xs q=>by rw [aK (aW q hn)];exact q) (fun b ob u q=>by rw [aK (aW q hn)];exact q) (fun b ps q=>⟨#[],by rw [aK (aW q hn),q];simp⟩) (fun m hm=>?_) (fun b u q=>?_) I.bare
 ·rcases List.mem_cons.mp hb with rfl|hb
  ·exact⟨fe.2.2.2.1,fe.2.1,fe.2.2.2.2.1,fe.2.2.2.2.2⟩
  ·obtain rfl:=List.mem_singleton.mp hb
   exact⟨fj.2.2.2.1,fj.2.1,fj.2.2.2.2.1,fj.2.2.2.2.2⟩
 ·obtain⟨ob,es,ep,q,r⟩:=hm
  exact⟨ob,es,ep,k _ ob (Ne.symm fe.2.1) (Ne.symm fj.2.1) q,r⟩
 ·by_cases hb:b=p
  ·subst hb
   rw [ad] at q
   cases q
   exact new
  ·rw [aK hb] at q
   refine(I.hok b u q).stay (fun c v hc z=>?_) (fun c z=>by rw [aK (aW z hn)];exact z) fun c xs z=>by rw [aK (aW z hn)];exact z
   rcases hc with hc|hc
   ·rw [hc] at z ⊢
    exact k b v (nn b u q).1 (nn b u q).2 z
   ·exact k c v (nn c _ hc).1 (nn c _ hc).2 z
end
def Itv(K:W.Frag)(a:Addr)(n:Nat):It :=
 ⟨fun i H=>∃xs x,SqL K H a xs/\xs.length=n/\i < n/\xs[n - 1 - i]?=some x,fun i H x H'=>H'=H/\∀xs,SqL K H a xs->xs[n - 1 - i]?=some x,fun i _=>i=n⟩
theorem xE{P:Program}{w:World}{K:W.Frag}{tg:Expr}(a it:Addr)(n:Nat):zK P w K tg (Itv K a n) [it] it (fun i h=>h.IsRevIter it a ((n:Int) - 1 - (i:Nat))) where
 mem:=by simp
 obj:=fun i h st b hb=>by
  obtain rfl:b=it:=by simpa using hb
  obtain⟨o,e,c,d⟩:=st
  exact⟨o,e,fun v z=>by rw [d] at z;cases z⟩
 keep:=fun i h h' st k=>st.at fun o e=>k it (by simp) o e
 item:=by
  intro X hP hw hK hc i kb s σ H E I hf st hg
  subst hP hw hK
  obtain⟨xs,x,hq,hxl,hi,hx⟩:=hg
  obtain⟨its,rv,p,hz⟩:=I.list hq
  obtain⟨u,hu,ru⟩:=rv.get hx
  obtain⟨f0,f1,f2,f3,f4,f5⟩:=hf it (by simp)
  have e1:(n:Int) - 1 - (i:Nat)=((n - 1 - i:Nat):Int):=by omega
  have st1:=st
  rw [e1] at st1
  refine wpAny_pyNext_rev_item st1 p.isList (x:=u) (by simpa using hu) fun h' st' sb=>?_
  have I1:Inv X kb σ H { s with heap:=h' }:=I.turned (t':=s.toks) (fun b o hb e=>(sb.2 b hb).trans e) f0 f1 f3 f4 f5
  have e2:((n - 1 - i:Nat):Int) - 1=(n:Int) - 1 - ((i+1:Nat):Int):=by omega
  rw [e2] at st'
  obtain⟨o,e,c,d⟩:=id st'
  exact⟨u,rfl,wJ (s:={ s with heap:=h' }) e c d (by decide) ⟨x,H,I1,ru,⟨rfl,fun ys hy=>by rw [I.list_inj hy hq];exact hx⟩,st',fun b hb=>(hf b hb).1⟩⟩
 done:=by
  intro X hP hw hK hc i kb s σ H E I hf st hg
  subst hP hw hK
  obtain⟨f0,f1,f2,f3,f4,f5⟩:=hf it (by simp)
  have hi:i=n:=hg
  have e1:(n:Int) - 1 - (i:Nat)=-1:=by omega
  rw [e1] at st
  exact wpAny_pyNext_rev_end (I.ok.hd hc) st fun h' eb=>⟨rfl,I.turned (t':=s.toks) (fun b o hb e=>eb b o hb e) f0 f1 f3 f4 f5⟩
 self:=fun _ _ _ _ _ st h=>wpAny_pyIter_revIter st h
section
variable{X:Cx}{tg:Expr}
def DF(K:W.Frag)(ta:TA):TI:=fun σ H R=>ta σ H fun vs H1=>∃a xs,vs=[.ref a]/\SqL K H1 a xs/\R (Itv K a xs.length) H1
theorem B3{l:Expr}{ta:TA}{p pos:Pos} (hg:Gl X "reversed") (hm:X.mg "reversed"=none) (ha:PA X [l] ta) (hs:starEach [l] X.env=[(false,eval l X.env)]:=by rfl):PI X tg (.Call (.Name "reversed" p) [l] [] pos) (DF X.K ta):=by
 intro kb s σ H R I h
 refine Call_ (kn I hg hm boot_reversed (PyProof.Rows.callWith_type1 (thn (ha pos kb s σ H _ I h) fun us s1 ⟨vs,H1,I1,r1,q1⟩=>?_) hs rfl))
 obtain⟨a,xs,e,hq,q⟩:=q1
 subst e
 obtain⟨u,rfl,ru⟩:=jd r1
 cases ru
 obtain⟨its,rv,pl,hz⟩:=I1.list hq
 have hl:=rv.length
 refine call_reversed_list pl.isList ?_
 have hn:(s1.heap.push (revObj a ((its.toArray.size:Int) - 1))).IsRevIter s1.heap.objs.size a ((xs.length:Int) - 1 - ((0:Nat):Int)):=by
  refine⟨_,Heap.get?_push_size _ rfl,rfl,?_⟩
  have ez:((its.toArray.size:Nat):Int) - 1=(xs.length:Int) - 1 - ((0:Nat):Int):=by
   rw [List.size_toArray,<-hl]
   omega
  rw [<-ez]
  rfl
 refine wpAny_pyIter_revIter hn ⟨s1.heap.objs.size,[s1.heap.objs.size],_,_,H1,rfl,I1.kept (t':=s1.toks) fun b o e=>Heap.get?_push_of_some _ e,xE a _ xs.length,hn,fun b hb=>?_,q⟩
 obtain rfl:b=s1.heap.objs.size:=by simpa using hb
 exact I1.fpOk (Nat.le_refl _) (I1.hok.fresh (Nat.le_refl _))
end
theorem zr{K:PySem.W.Frag}{a:Addr}{xs:List V}{g:TG}{tb:TS}{D:ja}{σ:St}{H:Hp}(Pv:Nat->St->Hp->Prop)(h0:Pv 0 σ H)(hl:∀i σ H,i<=xs.length->Pv i σ H->SqL K H a xs)
  (hs:∀i x σ H,xs.reverse[i]?=some x->Pv i σ H->g x σ H fun σ2 H2=>tb { D with nx:=Pv (i+1),ct:=Pv (i+1),bk:=D.nx } σ2 H2) (hd:∀σ H,Pv xs.length σ H->D.nx σ H) :
  ∃W:Nat->Nat->St->Hp->Prop,(∃m,W 0 m σ H)/\∀i m σ H,W i m σ H ->
   ((Itv K a xs.length).stop i H/\D.nx σ H)\/((Itv K a xs.length).go i H/\∃N:St->Hp->Prop,(∀σ' H',N σ' H'->∃m',m' < m/\W (i+1) m' σ' H')/\∀x H',(Itv K a xs.length).yld i H x H'->g x σ H' fun σ2 H2=>tb { D with nx:=N,ct:=N,bk:=D.nx } σ2 H2):=by
 refine⟨fun i m σ H=>m=xs.length - i/\i<=xs.length/\Pv i σ H,⟨xs.length,by simp,Nat.zero_le _,h0⟩,?_⟩
 rintro i m σ H ⟨rfl,hi,p⟩
 have q:=hl i σ H hi p
 by_cases hlt:i < xs.length
 ·have ex:xs[xs.length - 1 - i]?=some (xs[xs.length - 1 - i]'(by omega)):=List.getElem?_eq_getElem (by omega)
  refine .inr ⟨⟨xs,_,q,rfl,hlt,ex⟩,Pv (i+1),fun σ' H' p'=>⟨xs.length - (i+1),by omega,rfl,hlt,p'⟩,fun x H' y=>?_⟩
  obtain⟨e,y⟩:=y
  subst e
  exact hs i x σ _ (by rw [List.getElem?_reverse hlt];exact y xs q) p
 ·obtain rfl:i=xs.length:=by omega
  exact .inl ⟨rfl,hd σ H p⟩
section
variable{prog:Program}{w:World}{A:Around}{E:Value->Shared->Prop}{s:Shared}
theorem rS{j t:Addr}{n:Nat}{its:Array Value}{v:Value}{Q:Value->Shared->Prop}(hj:s.heap.IsTupleIter j t n)(ht:s.heap.IsTuple t its)(hv:its[n]?=some v)
  (q:∀h',h'.IsTupleIter j t (n+1)->Heap.SameBut j s.heap h'->Q v { s with heap:=h' }):wpAny (model prog w) A (Builtin.SmallTypes.nextOf (.ref j)) Q E s:=by
 obtain⟨oj,ej,cj,dj⟩:=id hj
 obtain⟨ot,et,_,nt,dt⟩:=ht
 unfold Builtin.SmallTypes.nextOf
 refine wpAny_bind (wpAny_callSpecial?_slot (name:=Str.ofString "__next__") hj.typeIs F.slot_tuple_iterator_next (wpAny_call_entry F.slot_tuple_iterator_next hj.typeIs F.entry_tuple_iterator_next ?_ (F.args_tuple_iterator_next_1 _)))
 show wpAny _ _ (field (.ref j) 0 >>= _) _ _ s
 refine wpAny_bind (wpAny_field ej dj (x:=.ref t) rfl ?_)
 show wpAny _ _ (if (Value.ref t==Value.none)=true then _ else _) _ _ _
 rw [if_neg (show ¬(Value.ref t==Value.none)=true from Bool.false_ne_true)]
 show wpAny _ _ (field (.ref j) 1 >>= _) _ _ s
 refine wpAny_bind (wpAny_field ej dj (x:=.int n 0) rfl ?_)
 show wpAny _ _ (seqItems? (.ref t) >>= _) _ _ _
 refine wpAny_bind (wpAny_seqItems et dt ?_)
 simp only [Int.toNat_natCast,hv]
 refine wpAny_bind (wpAny_setField ej dj (by simp) (wpAny_pure ⟨v,rfl,wpAny_pure (q _ ?_ (Heap.SameBut.update ..))⟩))
 exact⟨_,Heap.get?_update_self _ ej (Obj.isFreed_of_fields (Obj.data_mapFields dj _)),(Obj.cls_mapFields ..).trans cj,by rw [Obj.data_mapFields dj];simp [rawInt]⟩
theorem vS{j t:Addr}{n:Nat}{its:Array Value}{Q:Value->Shared->Prop}(hh:A.handled=none)(hj:s.heap.IsTupleIter j t n)(ht:s.heap.IsTuple t its)(hv:its[n]?=none)
  (q:∀h' e,Heap.ExtBut j s.heap h'->(∃o,h'.get? e=some o/\o.cls=.type "StopIteration")->E (.ref e) { s with heap:=h' }):wpAny (model prog w) A (Builtin.SmallTypes.nextOf (.ref j)) Q E s:=by
 obtain⟨oj,ej,cj,dj⟩:=id hj
 obtain⟨ot,et,_,nt,dt⟩:=ht
 unfold Builtin.SmallTypes.nextOf
 refine wpAny_bind (wpAny_callSpecial?_slot (name:=Str.ofString "__next__") hj.typeIs F.slot_tuple_iterator_next (wpAny_call_entry F.slot_tuple_iterator_next hj.typeIs F.entry_tuple_iterator_next ?_ (F.args_tuple_iterator_next_1 _)))
 show wpAny _ _ (field (.ref j) 0 >>= _) _ _ s
 refine wpAny_bind (wpAny_field ej dj (x:=.ref t) rfl ?_)
 show wpAny _ _ (if (Value.ref t==Value.none)=true then _ else _) _ _ _
 rw [if_neg (show ¬(Value.ref t==Value.none)=true from Bool.false_ne_true)]
 show wpAny _ _ (field (.ref j) 1 >>= _) _ _ s
 refine wpAny_bind (wpAny_field ej dj (x:=.int n 0) rfl ?_)
 show wpAny _ _ (seqItems? (.ref t) >>= _) _ _ _
 refine wpAny_bind (wpAny_seqItems et dt ?_)
 simp only [Int.toNat_natCast,hv]
 refine wpAny_bind (wpAny_rule (wpAny_bind (wpAny_setField ej dj (by simp) ?_)))
 refine wpAny_bind (m:=newExc (.type "StopIteration") []) ?_
 simp only [newExc,newTuple]
 refine wpAny_bind (wpAny_newObj_type (wpAny_bind (m:=firstArgMember _ _) (wpAny_of_eq (a:=Value.none) (by first|rfl|(simp only [firstArgMember];rfl)) (wpAny_newObj_type ?_ (by size_fits)))) (by size_fits))
 simp only [raiseNew]
 refine wpAny_bind (wpAny_handled ?_)
 first|rw [show A.in1.handled=none from hh]|rw [hh]
 exact wpAny_bind (wpAny_pure (wpAny_throw (q _ _ (((Heap.SameBut.update ..).extBut.push _).push _) ⟨_,Heap.get?_push_size _ rfl,rfl⟩)))
theorem sP{e j t:Addr}{n:Nat}{its:Array Value}{v old:Value}{Q:Value->Shared->Prop}(he:IsEnum s.heap e j n old)(hj:s.heap.IsTupleIter j t n)(ht:s.heap.IsTuple t its)(hv:its[n]?=some v)(hej:e≠j)
  (q:∀h',IsEnumOut h' e j ((n:Int)+1) v s.heap.objs.size->h'.IsTupleIter j t (n+1)->h'.get? s.heap.objs.size=some { cls:=.type "tuple",data:=.seq #[.int n s.toks,v] } ->
   (∀b o,b≠e->b≠j->s.heap.get? b=some o->h'.get? b=some o)->Q (.ref s.heap.objs.size) { s with heap:=h',toks:=s.toks+1 }) :
  wpAny (model prog w) A (Builtin.«enumerate.__next__» ⟨[.ref e],[]⟩) (fun fin s'=>∃v,fin=.done (.ret v)/\Q v s') E s:=by
 obtain⟨hp,gg,dd,tk,os⟩:=s
 show wpAny _ _ (field (.ref e) 2 >>= _) _ _ ⟨hp,gg,dd,tk,os⟩
 refine wpAny_bind (wpAny_field he rfl (x:=.ref j) rfl (wpAny_bind (rS hj ht hv fun h1 j1 b1=>?_)))
 replace b1:Heap.SameBut j hp h1:=b1
 have e1:IsEnum h1 e j n old:=(b1.2 e hej).trans he
 show wpAny _ _ (field (.ref e) 3 >>= _) _ _ ⟨h1,gg,dd,tk,os⟩
 refine wpAny_bind (wpAny_field e1 rfl (x:=rawInt n) rfl ?_)
 show wpAny _ _ (field (.ref e) 4 >>= _) _ _ ⟨h1,gg,dd,tk,os⟩
 refine wpAny_bind (wpAny_field e1 rfl (x:=.none) rfl ?_)
 show wpAny _ _ (mkInt n >>= _) _ _ ⟨h1,gg,dd,tk,os⟩
 refine wpAny_bind (wpAny_mkInt ?_)
 show wpAny _ _ (setField (.ref e) 3 (rawInt ((n:Int)+1)) >>= _) _ _ ⟨h1,gg,dd,tk+1,os⟩
 refine wpAny_bind (wpAny_setField_rec e1 (by simp) fun h2 e2 b2=>?_)
 replace b2:Heap.SameBut e h1 h2:=b2
 replace e2:IsEnum h2 e j ((n:Int)+1) old:=e2
 show wpAny _ _ (setField (.ref e) 4 .none >>= _) _ _ ⟨h2,gg,dd,tk+1,os⟩
 refine wpAny_bind (wpAny_setField_rec e2 (by simp) fun h3 e3 b3=>?_)
 replace b3:Heap.SameBut e h2 h3:=b3
 replace e3:IsEnum h3 e j ((n:Int)+1) old:=e3
 show wpAny _ _ (newTuple [.int n tk,v] >>= _) _ _ ⟨h3,gg,dd,tk+1,os⟩
 refine wpAny_bind (wpAny_newTuple ?_)
 have e4:IsEnum (h3.push { cls:=.type "tuple",data:=.seq #[.int n tk,v] }) e j ((n:Int)+1) old:=Heap.get?_push_of_some _ e3
 generalize g4:h3.push { cls:=.type "tuple",data:=.seq #[.int n tk,v] }=h4 at e4
 have z3:h3.objs.size=hp.objs.size:=by rw [b3.1,b2.1,b1.1]
 have le:e < hp.objs.size:=Heap.lt_size he
 have t4:h4.get? hp.objs.size=some { cls:=.type "tuple",data:=.seq #[.int n tk,v] }:=by rw [<-g4,<-z3];exact Heap.get?_push_size _ rfl
 have k4:∀b o,b≠e->b≠j->hp.get? b=some o->h4.get? b=some o:=fun b o x y z=>by rw [<-g4];exact Heap.get?_push_of_some _ (b3.extBut b o x (b2.extBut b o x (b1.extBut b o y z)))
 have j4:h4.IsTupleIter j t (n+1):=by
  rw [<-g4]
  obtain⟨o,ho,r⟩:=(j1.extBut b2.extBut (Ne.symm hej)).extBut b3.extBut (Ne.symm hej)
  exact⟨o,Heap.get?_push_of_some _ ho,r⟩
 show wpAny _ _ (Builtin.SmallTypes.ownedTupleIsFree (.ref e) >>= _) _ _ ⟨h4,gg,dd,tk+1,os⟩
 rw [z3]
 clear g4 e3 b3 e2 b2 e1 b1 j1 z3 h3 h2 h1
 refine wpAny_bind ?_
 unfold Builtin.SmallTypes.ownedTupleIsFree
 refine wpAny_bind (wpAny_field e4 rfl (x:=.none) rfl (wpAny_pure ?_))
 simp only [if_true]
 refine wpAny_bind (wpAny_rule (wpAny_bind (wpAny_field e4 rfl (x:=old) rfl (wpAny_bind (wpAny_setField_rec e4 (by simp) fun h5 e5 b5=>?_)))))
 replace b5:Heap.SameBut e h4 h5:=b5
 replace e5:IsEnum h5 e j ((n:Int)+1) v:=e5
 show wpAny _ _ (Builtin.SmallTypes.ownedTupleHandOut (.ref e) (.ref hp.objs.size) >>= _) _ _ ⟨h5,gg,dd,tk+1,os⟩
 refine wpAny_bind ?_
 unfold Builtin.SmallTypes.ownedTupleHandOut
 refine wpAny_bind (wpAny_setField_rec e5 (by simp) fun h6 e6 b6=>?_)
 replace b6:Heap.SameBut e h5 h6:=b6
 replace e6:IsEnumOut h6 e j ((n:Int)+1) v hp.objs.size:=e6
 refine wpAny_setField_rec e6 (by simp) fun h7 e7 b7=>?_
 replace b7:Heap.SameBut e h6 h7:=b7
 replace e7:IsEnumOut h7 e j ((n:Int)+1) v hp.objs.size:=e7
 refine wpAny_bind (wpAny_letGo (wpAny_pure ⟨_,rfl,q h7 e7 ?_ ?_ fun b o x y z=>b7.extBut b o x (b6.extBut b o x (b5.extBut b o x (k4 b o x y z)))⟩))
 ·exact((j4.extBut b5.extBut (Ne.symm hej)).extBut b6.extBut (Ne.symm hej)).extBut b7.extBut (Ne.symm hej)
 ·exact b7.extBut _ _ (Nat.ne_of_gt le) (b6.extBut _ _ (Nat.ne_of_gt le) (b5.extBut _ _ (Nat.ne_of_gt le) t4))
theorem nN{e j t:Addr}{n:Nat}{its:Array Value}{v old:Value}{Q:Option Value->Shared->Prop}(he:IsEnum s.heap e j n old)(hj:s.heap.IsTupleIter j t n)(ht:s.heap.IsTuple t its)(hv:its[n]?=some v)(hej:e≠j)
  (q:∀h',IsEnumOut h' e j ((n:Int)+1) v s.heap.objs.size->h'.IsTupleIter j t (n+1)->h'.get? s.heap.objs.size=some { cls:=.type "tuple",data:=.seq #[.int n s.toks,v] } ->
   (∀b o,b≠e->b≠j->s.heap.get? b=some o->h'.get? b=some o)->Q (some (.ref s.heap.objs.size)) { s with heap:=h',toks:=s.toks+1 }):wpAny (model prog w) A (pyNext (.ref e)) Q E s:=by
 have ty:s.TypeIs (.ref e) "enumerate":=⟨_,he,rfl⟩
 unfold pyNext
 exact wpAny_bind (wpAny_attempt (wpAny_callSpecial?_slot (name:=Str.ofString "__next__") ty F.slot_enumerate_next (wpAny_call_entry F.slot_enumerate_next ty F.entry_enumerate_next
  (sP he hj ht hv hej fun h' a b c k=>wpAny_pure (q h' a b c k)) (F.args_enumerate_next_1 _))))
theorem jc{e j t:Addr}{n:Nat}{its:Array Value}{old:Value}{Q:Option Value->Shared->Prop}(hh:A.handled=none)(he:IsEnum s.heap e j n old)(hj:s.heap.IsTupleIter j t n)(ht:s.heap.IsTuple t its)(hv:its[n]?=none)
  (q:∀h',Heap.ExtBut j s.heap h'->Q none { s with heap:=h' }):wpAny (model prog w) A (pyNext (.ref e)) Q E s:=by
 have ty:s.TypeIs (.ref e) "enumerate":=⟨_,he,rfl⟩
 unfold pyNext
 refine wpAny_bind (wpAny_attempt (wpAny_callSpecial?_slot (name:=Str.ofString "__next__") ty F.slot_enumerate_next (wpAny_call_entry F.slot_enumerate_next ty F.entry_enumerate_next ?_ (F.args_enumerate_next_1 _))))
 show wpAny _ _ (field (.ref e) 2 >>= _) _ _ s
 refine wpAny_bind (wpAny_field he rfl (x:=.ref j) rfl (wpAny_bind (vS hh hj ht hv fun h' x b ⟨o,ho,hc⟩=>wpAny_bind (wpAny_isInstance (T:="StopIteration") (b:=true) ⟨o,ho,hc⟩ isSubtype_stop (wpAny_pure (q _ b))))))
open AutoSeq1 (wpAny_loadPart') in
theorem vm(t:Addr)(its:Array Value)(n:Nat)(dct:Option Addr)(sl:Array (Option Value)) :
  Meets (Builtin.«enumerate.__new__» ⟨[.type "enumerate",.ref t],[]⟩) (fun _ R s=>s.heap.get? t=some { cls:=.type "tuple",dict:=dct,data:=.seq its n,slots:=sl } /\
   R (.ok (.ret (.ref (s.heap.push { cls:=.type "tuple_iterator",data:=.fields #[.ref t,.int 0 0] }).objs.size)))
    { s with heap:=(s.heap.push { cls:=.type "tuple_iterator",data:=.fields #[.ref t,.int 0 0] }).push { cls:=.type "enumerate",data:=.fields #[.none,.bool false,.ref s.heap.objs.size,rawInt 0,.none,.none] } }) :=
 .of_wp fun prog w A R s h=>by
  obtain⟨hp,gg,dd,tk,os⟩:=s
  obtain⟨ho,h⟩:=h
  have hsub:=sub_enumerate
  have hT:Heap.IsTuple (Shared.heap ⟨hp,gg,dd,tk,os⟩) t its:=⟨_,ho,rfl,n,rfl⟩
  wp_walk using wpAny_loadPart' ho
  refine wpAny_stack_any fun st=>wpAny_pure ?_
  split
  ·rename_i c _ _ _ _ _
   cases (c==Value.type "enumerate")<;>(wp_walk using wpAny_loadPart' ho,wpAny_pyIter_tuple hT;exact⟨_,rfl,h⟩)
  ·wp_walk using wpAny_loadPart' ho,wpAny_pyIter_tuple hT
   exact⟨_,rfl,h⟩
theorem sM{t:Addr}{its:Array Value}{Q:Value->Shared->Prop}(hT:s.heap.IsTuple t its)
  (h:∀h',IsEnum h' (s.heap.objs.size+1) s.heap.objs.size 0 .none->h'.IsTupleIter s.heap.objs.size t 0->(∀b o,s.heap.get? b=some o->h'.get? b=some o)->Q (.ref (s.heap.objs.size+1)) { s with heap:=h' }) :
  wpAny (model prog w) A (call (.type "enumerate") [.ref t]) Q E s:=by
 obtain⟨⟨c,dct,dt,sl⟩,ho,hc,n,hd⟩:=hT
 replace hc:c=.type "tuple":=hc
 replace hd:dt=.seq its n:=hd
 subst hc hd
 refine callType_new F.called_enumerate (by decide) (F.typeCall_enumerate_1 _) (F.newCall_enumerate_1 _) (fun obj=>F.args_object_init_2 obj _) F.entry_enumerate_new (vm t its n dct sl) ⟨ho,?_⟩
 have hz:(s.heap.push { cls:=.type "tuple_iterator",data:=.fields #[.ref t,.int 0 0] }).objs.size=s.heap.objs.size+1:=Heap.size_push ..
 show _/\_
 rw [hz]
 have he:=Heap.get?_push_size (s.heap.push { cls:=.type "tuple_iterator",data:=.fields #[.ref t,.int 0 0] }) (o:={ cls:=.type "enumerate",data:=.fields #[.none,.bool false,.ref s.heap.objs.size,rawInt 0,.none,.none] }) rfl
 rw [hz] at he
 exact⟨⟨_,he,rfl⟩,h _ he ⟨_,Heap.get?_push_of_some _ (Heap.get?_push_size _ rfl),rfl,rfl⟩ fun b o x=>Heap.get?_push_of_some _ (Heap.get?_push_of_some _ x)⟩
end
def BL(K:W.Frag)(t:Addr):It :=
 ⟨fun i H=>∃xs x,SqT K H t xs/\xs[i]?=some x,fun i H x H'=>∃p y,H p=none/\x=.ref p/\H'=upd H p (.tup [.int i,y])/\∀xs,SqT K H t xs->xs[i]?=some y,fun i H=>∃xs,SqT K H t xs/\xs.length<=i⟩
theorem sU{P:Program}{w:World}{K:W.Frag}{es:List Expr}{k:Nat}{pos:Pos}(t e j:Addr)(hej:e≠j):zK P w K (.Tuple es k pos) (BL K t) [e,j] e (fun i h=>(∃old,IsEnum h e j (i:Nat) old)/\h.IsTupleIter j t i) where
 mem:=by simp
 obj:=fun i h st b hb=>by
  obtain⟨⟨old,he⟩,o,ho,_,hd⟩:=st
  rcases List.mem_cons.mp hb with rfl|hb
  ·exact⟨_,he,fun v z=>by cases z⟩
  ·obtain rfl:=List.mem_singleton.mp hb
   exact⟨o,ho,fun v z=>by rw [hd] at z;cases z⟩
 keep:=fun i h h' st k=>by
  obtain⟨⟨old,he⟩,o,ho,r⟩:=st
  exact⟨⟨old,k e (by simp) _ he⟩,o,k j (by simp) o ho,r⟩
 item:=by
  intro X hP hw hK hc i kb s σ H E I hf st hg
  subst hP hw hK
  obtain⟨⟨old,he⟩,hj⟩:=st
  obtain⟨xs,x,hq,hx⟩:=hg
  obtain⟨its,rv,p,hz⟩:=I.tuple hq
  obtain⟨u,hu,ru⟩:=rv.get hx
  have fe:=hf e (by simp)
  have fj:=hf j (by simp)
  have le:e < s.heap.objs.size:=Heap.lt_size he
  have lj:j < s.heap.objs.size:=by obtain⟨_,q,_⟩:=hj;exact Heap.lt_size q
  refine nN he hj (show s.heap.IsTuple t its.toArray from p) (v:=u) (by simpa using hu) hej fun h1 eo j1 t1 k1=>⟨_,rfl,?_⟩
  refine wpAny_letOwnedTupleGo_enum eo fun h2 e2 b2=>?_
  have t2:h2.get? s.heap.objs.size=some { cls:=.type "tuple",data:=.seq #[.int i s.toks,u] }:=(b2.2 _ (Nat.ne_of_gt le)).trans t1
  have hn:H s.heap.objs.size=none:=I.hok.fresh (Nat.le_refl _)
  have I2:Inv X kb σ (upd H s.heap.objs.size (.tup [.int i,x])) { s with heap:=h2,toks:=s.toks+1 } :=
   I.turned2 (fun b ob x1 x2 z=>(b2.2 b x1).trans (k1 b ob x1 x2 z)) fe fj (Nat.le_refl _) ⟨by show 2<=sizeLine;decide,[.int i s.toks,u],.cons ⟨_,rfl⟩ (.cons ru .nil),_,t2,rfl,_,rfl⟩
  refine⟨.ref s.heap.objs.size,_,I2,rfl,⟨_,x,hn,rfl,rfl,fun ys hy=>by rw [I.tuple_inj hy hq];exact hx⟩,⟨⟨u,?_⟩,?_⟩,fun b hb=>?_⟩
  ·have ei:((i+1:Nat):Int)=(i:Int)+1:=by omega
   show IsEnum h2 e j ((i+1:Nat):Int) u
   rw [ei]
   exact e2
  ·obtain⟨o,ho,r⟩:=j1
   exact⟨o,(b2.2 j (Ne.symm hej)).trans ho,r⟩
  ·rcases List.mem_cons.mp hb with rfl|hb
   ·rw [aK (Nat.ne_of_lt le)]
    exact fe.1
   ·obtain rfl:=List.mem_singleton.mp hb
    rw [aK (Nat.ne_of_lt lj)]
    exact fj.1
 done:=by
  intro X hP hw hK hc i kb s σ H E I hf st hg
  subst hP hw hK
  obtain⟨⟨old,he⟩,hj⟩:=st
  obtain⟨xs,hq,hx⟩:=hg
  obtain⟨its,rv,p,hz⟩:=I.tuple hq
  obtain⟨f0,f1,f2,f3,f4,f5⟩:=hf j (by simp)
  have hl:=rv.length
  exact jc (I.ok.hd hc) he hj (show s.heap.IsTuple t its.toArray from p) (by simp;omega) fun h' eb=>⟨rfl,I.turned (t':=s.toks) (fun b o hb q=>eb b o hb q) f0 f1 f3 f4 f5⟩
 self:=fun _ _ _ _ _ st h=>by
  obtain⟨⟨old,he⟩,_⟩:=st
  exact wpAny_pyIter_enum he h
section
variable{X:Cx}
def D0(K:W.Frag)(ta:TA):TI:=fun σ H R=>ta σ H fun vs H1=>∃a xs,vs=[.ref a]/\SqT K H1 a xs/\R (BL K a) H1
theorem BQ{l:Expr}{es:List Expr}{k:Nat}{ta:TA}{p pos tp:Pos} (hg:Gl X "enumerate") (hm:X.mg "enumerate"=none) (ha:PA X [l] ta) (hs:starEach [l] X.env=[(false,eval l X.env)]:=by rfl) :
  PI X (.Tuple es k tp) (.Call (.Name "enumerate" p) [l] [] pos) (D0 X.K ta):=by
 intro kb s σ H R I h
 refine Call_ (kn I hg hm boot_enumerate (PyProof.Rows.callWith_type1 (thn (ha pos kb s σ H _ I h) fun us s1 ⟨vs,H1,I1,r1,q1⟩=>?_) hs rfl))
 obtain⟨a,xs,e,hq,q⟩:=q1
 subst e
 obtain⟨u,rfl,ru⟩:=jd r1
 cases ru
 obtain⟨its,rv,pl,hz⟩:=I1.tuple hq
 refine sM (show s1.heap.IsTuple a its.toArray from pl) fun h' he hj kk=>?_
 refine wpAny_pyIter_enum he ⟨s1.heap.objs.size+1,[s1.heap.objs.size+1,s1.heap.objs.size],_,_,H1,rfl,I1.kept (t':=s1.toks) kk,sU a _ _ (Nat.succ_ne_self _),⟨⟨_,he⟩,hj⟩,fun b hb=>?_,q⟩
 rcases List.mem_cons.mp hb with rfl|hb
 ·exact I1.fpOk (Nat.le_succ _) (I1.hok.fresh (Nat.le_succ _))
 ·obtain rfl:=List.mem_singleton.mp hb
  exact I1.fpOk (Nat.le_refl _) (I1.hok.fresh (Nat.le_refl _))
end
theorem Ai{K:PySem.W.Frag}{a:Addr}{xs:List V}{g:TG}{tb:TS}{D:ja}{σ:St}{H:Hp}(Pv:Nat->St->Hp->Prop)(h0:Pv 0 σ H)(hl:∀i σ H,i<=xs.length->Pv i σ H->SqT K H a xs)
  (hs:∀i y p σ H,xs[i]?=some y->H p=none->Pv i σ H->g (.ref p) σ (upd H p (.tup [.int i,y])) fun σ2 H2=>tb { D with nx:=Pv (i+1),ct:=Pv (i+1),bk:=D.nx } σ2 H2) (hd:∀σ H,Pv xs.length σ H->D.nx σ H) :
  ∃W:Nat->Nat->St->Hp->Prop,(∃m,W 0 m σ H)/\∀i m σ H,W i m σ H ->
   ((BL K a).stop i H/\D.nx σ H)\/((BL K a).go i H/\∃N:St->Hp->Prop,(∀σ' H',N σ' H'->∃m',m' < m/\W (i+1) m' σ' H')/\∀x H',(BL K a).yld i H x H'->g x σ H' fun σ2 H2=>tb { D with nx:=N,ct:=N,bk:=D.nx } σ2 H2):=by
 refine⟨fun i m σ H=>m=xs.length - i/\i<=xs.length/\Pv i σ H,⟨xs.length,by simp,Nat.zero_le _,h0⟩,?_⟩
 rintro i m σ H ⟨rfl,hi,p⟩
 have q:=hl i σ H hi p
 by_cases hlt:i < xs.length
 ·refine .inr ⟨⟨xs,xs[i],q,by simp [hlt]⟩,Pv (i+1),fun σ' H' p'=>⟨xs.length - (i+1),by omega,rfl,hlt,p'⟩,fun x H' y=>?_⟩
  obtain⟨b,z,hb,rfl,rfl,hz⟩:=y
  exact hs i z b σ H (hz xs q) hb p
 ·obtain rfl:i=xs.length:=by omega
  exact .inl ⟨⟨xs,q,Nat.le_refl _⟩,hd σ H p⟩
section
variable{X:Cx}{kb:List (Addr × Obj)}{σ:St}{H H':Hp}{s:Shared}{h':Heap}
end
section
variable{X:Cx}
end
section
variable{X:Cx}{kb:List (Addr × Obj)}{σ:St}{H:Hp}{s:Shared}{d:Addr}{o:Obj}{u:HO}
end
section
variable{X:Cx}
end
section
variable{X:Cx}{tg:Expr}
end
section
variable{X:Cx}
end
section
variable{X:Cx}{K:W.Frag}
theorem A5{i j:Nat}{x y:Str}{k:Nat}{px py pt:Pos}(hK:X.K=K)(hc:X.calm=true)(hN:X.N.Nodup)(hi:X.N[i]?=some x)(hx:Loc X.env.scope x)(hfx:X.fn x=true\/X.env.scope.names.lookup x=some .local)
  (hj:X.N[j]?=some y) (hy:Loc X.env.scope y) (hfy:X.fn y=true\/X.env.scope.names.lookup y=some .local):PG X (.Tuple [.Name x px,.Name y py] k pt) (Do K 2 (AI (nS i) (AI (nS j) Dm))):=by
 subst hK
 exact y9 hc (jr (cU hN hi hx hfx) (jr (cU hN hj hy hfy) vN))
end
def BW(K:W.Frag)(C:Addr)(bmB:List Value)(newId:String):Bool:=match K.lookup C with|some ⟨.type "type",_,.cls cd,sl⟩=>(match cd.mro,sl.toList with|.ref C'::bm,[_,_,_,_,some (.builtin n),_]=>C'==C&&n==newId&&!cd.hasDel&&W.tailIn K bmB bm|_,_=>false)|_=>false
structure Eb(h:Heap)(C:Addr)(bmB:List Value)(newId:String):Prop where
 obj:∃bm N nm q bs hdct sn sub ab col dd k0 k1 k2 k3 k5,h.get? C=some (excClassObj nm q C N bs bm hdct sn sub ab col dd k0 k1 k2 k3 k5 newId)/\OwnTail h bmB bm
section
variable{prog:Program}{w:World}{A:Around}{E:Value->Shared->Prop}{h:Heap}{g:Array GenState}{d:Drawn}{t:Nat}{os:OsState}{K:W.Frag}{C fI:Addr}{us:List Value}
end
section
variable{prog:Program}{w:World}{A:Around}{E:Value->Shared->Prop}{s:Shared}{env:Env}{K:W.Frag}{C fI:Addr}
end
def cut(H:Hp)(x:Addr):Hp:=fun b=>if b=x then none else H b
section
variable{X:Cx}{kb:List (Addr × Obj)}{σ:St}{H:Hp}{s:Shared}{x:Addr}
end
section
variable{P:Program}{w:World}{K:W.Frag}{mg:Str->Option Value}{base:Heap}
structure MkX(K:W.Frag)(C fI:Addr):Prop where
 ex:BW K C o5 "ValueError.__new__"=true
 init:W.findIn K (.ref C) "__init__"=some (some (.ref fI))
 fn:W.typeIn K (.ref fI)=some (.type "function")
end
end L2
namespace L2
open PySem PySem.Spec PyProof.Rows Builtin Builtin.ObjectAttr
def zJ(l:List Value):Bool:=l.dropWhile (fun|.ref _=>true|_=>false)==o5
structure Dk(K:W.Frag)(C:Addr):Prop where
 sa:W.findIn K (.ref C) "__setattr__"=some (some (.builtin "object.__setattr__"))
 po:(W.clsIn K C).any (fun cd=>zJ cd.mro)=true
 hd:W.hasDictIn K C=true
 ob:W.mroIn K C (.type "object")=some true
section
variable{prog:Program}{w:World}{A:Around}{E:Value->Shared->Prop}{s:Shared}{K:W.Frag}{x C:Addr}{name:Str}{v:Value}
end
section
variable{X:Cx}{kb:List (Addr × Obj)}{σ:St}{H H0:Hp}{s s0:Shared}{dx:Addr}
end
section
variable{X:Cx}{o value:Expr}{f:Str}{pos pos':Pos}{ta tv:TE}
end
structure DE(K:W.Frag)(R:Addr):Prop where
 ga:W.specialIn K (.ref R) "__getattribute__"=some (some (.builtin "type.__getattribute__"))
 rd:W.readsIn K R (.type "type")=true
 fi:W.findCls K (.ref R) (.type "type") "__init__"=some (.val (.builtin "ValueError.__init__"))
section
variable{X:Cx}
end
section
variable{prog:Program}{w:World}{A:Around}{E:Value->Shared->Prop}{s:Shared}{K:W.Frag}{x D:Addr}{name:Str}{v:Value}
end
section
variable{X:Cx}{e:Expr}{f:Str}{pos:Pos}{ta:TE}
end
end L2
namespace L2
open PySem PySem.Spec PyProof.Rows
structure Shw(d:PyData)(n m:Nat):Prop where
 sh:d.showable=true
 nd:d.hasDict=false
 dp:d.depth<=m
 ln:d.shown.length<=n
structure AN(ds:List PyData)(n m:Nat):Prop where
 sh:PyData.showableAll ds=true
 nd:PyData.hasDictAll ds=false
 dp:PyData.depthAll ds<=m
 ln:piled (PyData.shownAll ds)<=n
theorem Shw.le{d:PyData}{n m n' m':Nat}(h:Shw d n m)(hn:n<=n')(hm:m<=m'):Shw d n' m':=⟨h.sh,h.nd,Nat.le_trans h.dp hm,Nat.le_trans h.ln hn⟩
theorem ue{y:Str}(h:PyData.strOk y=true)(m:Nat):Shw (.str y) (10*y.length+2) m:=by
 refine⟨by simp only [PyData.showable],by simp only [PyData.hasDict],by simp only [PyData.depth];omega,?_⟩
 simp only [PyData.shown]
 refine StrLaws.reprText_len y fun c hc=>?_
 have h1:y.cps.all (· < 0x110000)=true:=h
 rw [Array.all_eq_true_iff_forall_mem] at h1
 have h3:c < 0x110000:=by simpa using h1 c (by simpa using hc)
 exact Nat.lt_trans h3 (by decide)
theorem xQ(m:Nat):AN [] 0 m:=⟨by simp only [PyData.showableAll],by simp only [PyData.hasDictAll],by simp only [PyData.depthAll];omega,by simp only [PyData.shownAll];exact Nat.le_refl 0⟩
theorem uD{d:PyData}{ds:List PyData}{n n' m:Nat}(h:Shw d n m)(r:AN ds n' m):AN (d::ds) (n+2+n') m:=by
 refine⟨?_,?_,?_,?_⟩
 ·simp only [PyData.showableAll,h.sh,r.sh,Bool.and_self]
 ·simp only [PyData.hasDictAll,h.nd,r.nd,Bool.or_self]
 ·simp only [PyData.depthAll]
  exact Nat.max_le.mpr ⟨h.dp,r.dp⟩
 ·simp only [PyData.shownAll]
  rw [piled_cons]
  have:=h.ln
  have:=r.ln
  omega
theorem Av{ds:List PyData}{n m:Nat}(h:AN ds n m):Shw (.tuple ds) (n+3) (m+1):=by
 refine⟨by simp only [PyData.showable];exact h.sh,by simp only [PyData.hasDict];exact h.nd,by simp only [PyData.depth];exact Nat.succ_le_succ h.dp,?_⟩
 simp only [PyData.shown]
 have hl:=h.ln
 generalize PyData.shownAll ds=ts at hl
 unfold tupleText
 rw [strLen_append,strLen_append]
 have e1:(("(":Str)).length=1:=rfl
 have e3:((if ts.length==1 then ",)" else ")":String):Str).length<=2:=by split<;>decide
 have e2:(Str.join ", " ts).length<=piled ts:=by
  by_cases z:ts=[]
  ·subst z;exact Nat.zero_le _
  ·have:=join_length_add ts z;omega
 omega
section
variable{X:Cx}{k:Nat}{pos:Pos}{e:Expr}{te:TE}
theorem gC(hr:bq k X.A)(he:PE X e te):PE X (.FormattedValue e 114 none pos) (fun σ H Q=>te σ H fun v H1=>∃d n,Dat X.K H1 v d/\Shw d n 60/\n<=2000000/\∀z:Str,z.length<=2000000->Q (.str z) H1):=by
 intro kb s σ H Q I h
 refine wpAny_FormattedValue_repr (thn (he kb s σ H _ I h) fun u s1 ⟨v,H1,I1,r,d,n,hd,sh,hn,q⟩=>?_)
 have hl:d.shown.length<=2000000:=Nat.le_trans sh.ln hn
 have hz:d.shown.length<=sizeLine:=Nat.le_trans hl (by rw [sizeLine_eq];omega)
 have fin:∀h' t tk,(∀b o,s1.heap.get? b=some o->h'.get? b=some o)->wpAny (model X.prog X.w) X.A (formatField (.str d.shown t) Str.empty) (EP X kb σ Q) X.xe { s1 with heap:=h',toks:=tk }:=fun h' t tk hk =>
  formatField_str (fun t' tk'=>⟨.str _,H1,(I1.kept (h':=h') (t':=tk) hk).tok _,⟨_,rfl⟩,q _ hl⟩) hz
 obtain⟨as,ra⟩:=Dat.reads I1 hd r
 have hu:=hr.units
 have ref:∀a,u=.ref a->wpAny (model X.prog X.w) X.A (pyReprObj u) (fun r s2=>wpAny (model X.prog X.w) X.A (formatField r Str.empty) (EP X kb σ Q) X.xe s2) X.xe s1:=fun a e=>by
  subst e
  exact pyReprObj_of_reads ra sh.sh (PyData.noDict_hsm sh.nd) hr.gd (by have:=sh.dp;omega) (fun _ _ z=>z) (fun h' u tk hk=>fin h' u tk hk) hz
 cases hd with
 |non =>
  cases r
  simp only [PyData.shown] at fin
  exact pyReprObj_none (fin s1.heap _ _ fun _ _ z=>z)
 |bl b =>
  cases r
  simp only [PyData.shown] at fin
  exact pyReprObj_bool (fin s1.heap _ _ fun _ _ z=>z)
 |int i =>
  obtain⟨t,rfl⟩:=r
  have hs:=sh.sh
  simp only [PyData.showable,decide_eq_true_eq] at hs
  simp only [PyData.shown] at fin
  exact pyReprObj_int hs (fin s1.heap _ _ fun _ _ z=>z)
 |str x =>
  obtain⟨t,rfl⟩:=r
  simp only [PyData.shown] at fin hz
  exact pyReprObj_str (fin s1.heap _ _ fun _ _ z=>z) hz
 |tup _ _=>cases r;exact ref _ rfl
 |lst _ _=>cases r;exact ref _ rfl
end
section
variable{α β:Type}
abbrev Bd:Shared->Prop:=fun s=>0 < s.toks
def fJ(P:Shared->Prop)(t:Sem α):Prop:=∀(M:Model) (Γ:PySem.Ctx) (Q:α->Pos->Shared->Prop) (E:Value->Pos->Shared->Prop) (p:Pos) (s:Shared),Sem.wp M Γ t Q E p s->Sem.wp M Γ t (fun a p' s'=>Q a p' s'/\P s') E p s
variable{P:Shared->Prop}
theorem fJ.right{m:Sem α}{f:α->Sem β}(hf:∀a,fJ P (f a)):fJ P (m >>= f):=fun M Γ Q E p s q=>by
 rw [Sem.wp_bind'] at q ⊢
 exact Sem.wp_mono M Γ m (fun a p' s' z=>hf a M Γ Q E p' s' z) (fun _ _ _ z=>z) p s q
theorem fJ.left{m:Sem α}{f:α->Sem β}(hm:fJ P m)(hf:∀a,az P (f a)):fJ P (m >>= f):=fun M Γ Q E p s q=>by
 rw [Sem.wp_bind'] at q ⊢
 exact Sem.wp_mono M Γ m (fun a p' s' z=>Sem.wp_mono M Γ (f a) (fun _ _ _ y=>y) (fun _ _ _ y=>y.1) p' s' (hf a M Γ Q E p' s' z.2 z.1)) (fun _ _ _ z=>z) p s (hm M Γ _ E p s q)
theorem fJ.wpAny{t:Sem α}(k:fJ P t){M:Model}{A:Around}{Q:α->Shared->Prop}{E:Value->Shared->Prop}{s:Shared}(h:wpAny M A t Q E s):wpAny M A t (fun a s'=>Q a s'/\P s') E s:=fun Γ p hΓ=>k M Γ _ _ p s (h Γ p hΓ)
theorem sV(x:Str):fJ Bd (mkText x):=fun _ _ _ _ _ s q=>⟨q,Nat.succ_pos s.toks⟩
theorem az.ldP{a:Addr}{pt:Option Value}:az P (loadPart a pt):=fun _ _ _ _ _ _ h ⟨o,e,q⟩=>⟨o,e,q,h⟩
theorem az.upP{a:Addr}{pt:Option Value}{f:Obj->Obj}:az Bd (updatePart a pt f):=fun _ _ _ _ _ _ h q=>⟨q.1,q.2,h⟩
theorem qk{n:Addr}{x:Str}{v:Value}:fJ Bd (nsSet n x v):=by
 unfold nsSet
 refine fJ.right fun hs=>fJ.left (sV x) fun key=>az.then az.ldP fun o=>?_
 split
 ·split
  ·exact az.then (az.no _) fun _=>az.upP
  ·exact az.upP
 ·exact az.no _
theorem pU{env:Env}{x:Str}{v:Value}(hk:env.kindOf x=some .local)(hs:env.scope.kind=.function):fJ Bd (storeName env x v):=by
 unfold storeName
 rw [hk,hs]
 exact qk
theorem uJ{scope:Scope}{g:Addr}{x:Str}{v:Value}{qual:Str}{func:Option Addr}{code:Value}{bl:Addr}(hk:scope.names.lookup x=some .local)(hs:scope.kind=.function) :
  fJ Bd (newFunctionEnv scope g [] [(x,v)] qual func code none bl):=by
 simp only [newFunctionEnv]
 refine fJ.right fun locals=>fJ.right fun cells=>?_
 simp only [List.forIn_cons,List.forIn_nil]
 refine fJ.left (fJ.left (fJ.left (pU (env:=_) hk hs) fun _=>az.ret _) fun r=>?_) fun _=>az.ret _
 cases r<;>exact az.ret _
end
def AM(X:Cx)(st:List Stmt)(t:TS):Prop :=
 ∀(kb:List (Addr × Obj)) (s:Shared) (σ:St) (H:Hp) (D:ja),0 < s.toks->Inv X kb σ H s->t D σ H->wpAny (model X.prog X.w) X.A (execs st X.env) (SP X kb D) X.xe s
def PSP(X:Cx)(st:Stmt)(t:TS):Prop :=
 ∀(kb:List (Addr × Obj)) (s:Shared) (σ:St) (H:Hp) (D:ja),0 < s.toks->Inv X kb σ H s->t D σ H->wpAny (model X.prog X.w) X.A (exec st X.env) (SP X kb D) X.xe s
def PEP(X:Cx)(e:Expr)(t:TE):Prop :=
 ∀(kb:List (Addr × Obj)) (s:Shared) (σ:St) (H:Hp) (Q:VK),0 < s.toks->Inv X kb σ H s->t σ H Q->wpAny (model X.prog X.w) X.A (eval e X.env) (fun u s'=>0 < s'.toks/\EP X kb σ Q u s') X.xe s
section
variable{X:Cx}{st:Stmt}{gN:List Stmt}{t u:TS}{pos:Pos}
theorem xp(h1:PSP X st t)(h2:PSs X gN u):AM X (st::gN) (Di t u):=by
 intro kb s σ H D hp I h
 refine wpAny_execs_cons (thn (h1 kb s σ H { D with nx:=u D } hp I h) fun f s1 q=>?_)
 cases f with
 |next =>
  obtain⟨σ',H',I',q⟩:=q
  exact h2 kb s1 σ' H' D I' q
 |ret v=>exact q
 |brk=>exact q
 |cont=>exact q
theorem Ak{i:Nat}{x:Str}{e:Expr}{te:TE}{pos':Pos}(hN:X.N.Nodup)(hi:X.N[i]?=some x)(hx:Loc X.env.scope x)(he:PEP X e te)(hs:swapsWith e (some (.Name x pos')) pos.line X.env=pure false:=by rfl)(hf:X.fn x=true\/X.env.scope.names.lookup x=some .local:=by first|exact .inl rfl|exact .inr rfl|assumption) :
  PSP X (.Assign [.Name x pos'] e pos) (Cn te (nS i)):=by
 intro kb s σ H D hp I h
 refine wpAny_Assign_Name (thn (he kb s σ H _ hp I h) fun v s1 ⟨_,y,H1,I1,r1,q1⟩=>?_) hs
 exact lF I1 hN hi hx r1 (fun s2 I2=>⟨_,H1,I2,q1⟩) hf
theorem Aj{i:Nat}{x:Str}(hN:X.N[i]?=some x)(hv:X.env.scope.names.lookup x=some .local) (hd:(x==("__debug__":Str))=false:=by decide):PEP X (.Name x pos) (wM i):=by
 intro kb s σ H Q hp I h
 obtain⟨v,e,h⟩:=h
 obtain⟨m,hn,hl⟩:=I.loc
 obtain⟨u,r,l⟩:=hl i x v hN e (.inl hv)
 rcases l with ⟨hk,hm⟩|⟨hk,_⟩
 ·exact wpAny_Name (wpAny_loadName_local I.ok.kind hk hn hm ⟨hp,v,H,I,r,h⟩) hd
 ·have hk':X.env.kindOf x=some .local:=hv
  rw [hk'] at hk
  rcases hk with z|z<;>cases z
theorem rY{prog:Program}{w:World}{A:Around}{E:Value->Shared->Prop}{s:Shared}{x y z:Str}{t u v:Tok}{Q:Value->Shared->Prop}(hu:u≠0)(hv:v≠0)(huv:u≠v)(hyz:(y==z)=false)(hb:x.length+(x.length+1)*z.length<=16777216)
  (hq:∀t' k,s.toks<=k->Q (.str (Txt.replace x y z) t') { s with toks:=k }):wpAny (model prog w) A (call (.builtin "str.replace") [.str x t,.str y u,.str z v]) Q E s:=by
 have few:Builtin.Str.tooLong (x.length+(Builtin.Str.occurrences x y 0 x.length (x.length+1)).length*z.length)=false:=by
  have a1:=StrLaws.occ_length_le x y 0 x.length (x.length+1)
  have a2:(Builtin.Str.occurrences x y 0 x.length (x.length+1)).length*z.length<=(x.length+1)*z.length:=Nat.mul_le_mul_right _ a1
  unfold Builtin.Str.tooLong sizeLine
  exact decide_eq_false (by have e:(2:Nat) ^ 24=16777216:=(by decide);omega)
 refine call_gives F.slot_str_replace (typeIs_str _ _ _) F.entry_str_replace (F.args_str_replace_3 _ _ _) (gives_str_replace x y z t u v fun _=>⟨by simp [hu,hv],by simp [huv],hyz,few⟩) ?_
 have q2:=hq
 unfold Txt.replace at q2
 cases hc:((Builtin.Str.occurrences x y 0 x.length (x.length+1)).isEmpty||(y.length==0&&z.length==0)) with
 |false =>
  rw [hc] at q2
  simp only [Bool.false_eq_true,if_false] at q2 ⊢
  exact⟨fits_replaced y hb,q2 _ _ (Nat.le_succ _)⟩
 |true =>
  rw [hc] at q2
  simp only [if_true] at q2 ⊢
  exact q2 t s.toks (Nat.le_refl _)
theorem gK{o:Expr}{to:TE}{y z:Str}{j1 j2:Nat}{p1 p2 apos cpos:Pos}(ho:PEP X o to)(hyz:(y==z)=false)(hz:z.length<=14)
  (hbase:attributeBase o "replace" X.env (eval o X.env)=eval o X.env:=by rfl)
  (hfew:((backTo cpos (starEach [.Constant (.str y) j1 p1,.Constant (.str z) j2 p2] X.env)).all (fun x=>!x.1)&&(backToKw cpos (keywordEach [] X.env)).all (fun x=>x.1.isSome)
   && decide (([.Constant (.str y) j1 p1,.Constant (.str z) j2 p2]:List Expr).length+([]:List Keyword).length+(if ([]:List Keyword).isEmpty then 0 else 1) < 30))=true:=by rfl)
  (hline:(apos.endLine==cpos.line)=true:=by rfl) :
  PEP X (.Call (.Attribute o "replace" apos) [.Constant (.str y) j1 p1,.Constant (.str z) j2 p2] [] cpos) (fun σ H Q=>to σ H fun v H1=>∃x,v=.str x/\x.length<=1000000/\Q (.str (Txt.replace x y z)) H1):=by
 intro kb s σ H Q hp I h
 refine wpAny_Call_method_late hbase hfew hline rfl (thn (ho kb s σ H _ hp I h) fun v s1 ⟨hp1,x',H1,I1,r1,x,ex,hl,q1⟩=>?_)
 subst ex
 obtain⟨tk,rfl⟩:=(show ∃t,v=Value.str x t from r1)
 refine⟨"str","str.replace",PySem.F.plainAttrs_str,PySem.F.slot_str_replace,PySem.F.type_str_replace,typeIs_str _ _ _,(fun _ z=>nomatch z),?_⟩
 refine Calls.callWith_builtin rfl (Calls.evalArgs_plain (Calls.spliced_cons (Calls.Constant_str (k:=j1) (pos:=p1) (Calls.spliced_cons (Calls.Constant_str (k:=j2) (pos:=p2) (Calls.spliced_nil ?_))))))
 have hb:x.length+(x.length+1)*z.length<=16777216:=by
  have a1:(x.length+1)*z.length<=(x.length+1)*14:=Nat.mul_le_mul_left _ hz
  omega
 exact rY (u:=s1.toks) (v:=s1.toks+1) (Nat.ne_of_gt hp1) (Nat.succ_ne_zero _) (Nat.ne_of_lt (Nat.lt_succ_self _)) hyz hb fun t' k hk=>⟨Nat.lt_of_lt_of_le (Nat.succ_pos _) hk,.str _,H1,I1.tok k,⟨_,rfl⟩,q1⟩
end
theorem Bf{CX:CXT}{P:Program}{w:World}{K:W.Frag}{mg:Str->Option Value}{base:Heap}{k:Nat}{f:Addr}{name qual:Str}{params:Arguments}{body:List Stmt}{scope:Scope}{dV kV doc pm cdv ct oc:Value}{an od:Option Addr}
  {osl:Array (Option Value)} {N:List Str} {x:Str} {sp:Sp} (lk:K.lookup f=some ⟨oc,od,.func (W.fnOf name qual params body scope dV kV doc pm an cdv ct),osl⟩) (hcd:W.codeIn K cdv qual=true) (S:ax N [x] scope) (hloc:scope.names.lookup x=some .local)
  (len:∀vs H Q E,sp vs H Q E->vs.length=1)
  (hbody:∀(A:Around) (q0:List Env) (s:Shared) (H:Hp) (vs:List V) (Q:VK) (E:XK),bq k (A.deeper (envOfC qual scope s.heap.objs.size f cdv))->sp vs H Q E ->
   ∃t,AM (dP CX P w K mg base N qual scope f cdv A q0 s H E) body t/\t { nx:=fun _ H'=>Q .non H',rt:=Q } (gH N vs) H) :
  aV P w K mg base CX (k+1) f (W.fnOf name qual params body scope dV kV doc pm an cdv ct) [x] sp:=by
 refine⟨len,fun A q0 s H args us vs Q E hr e0 hb r hsp=>?_⟩
 have hl:=len _ _ _ _ hsp
 obtain⟨u,rfl⟩:∃u,us=[u]:=by
  have e:=r.length
  rw [hl] at e
  match us,e with
  |[u],_=>exact⟨u,rfl⟩
 have KX:K.In s.heap:=e0.mod.kin.keeps fun b o e=>(e0.bs b o e).1
 have lim:s.heap.NoLimit:=e0.mod.nolimit.keeps fun b o e=>(e0.bs b o e).1
 have hkind:∀y∈[x].zip [u],scope.names.lookup y.1=some .local\/(scope.names.lookup y.1=some .cell/\((cellsFrom (s.heap.objs.size+1) scope.names []).lookup y.1).isSome=true):=fun⟨n,v⟩ hy=>by
  have e:(n,v)=(x,u):=List.mem_singleton.mp hy
  cases e
  exact .inl hloc
 refine codeAny_call_function hr.depth (KX _ _ lk) rfl S.co S.gen rfl (W.codeRec_of KX hcd) (hb _ _ _ _ ?_)
 refine wpAny_mono ((uJ hloc S.kind).wpAny (wpAny_newFunctionEnv_cells (Q:=fun env s1=>env=newEnv scope s.heap.objs.size _ (cellsFrom (s.heap.objs.size+1) scope.names []) _ _ _ none _/\InCallC s env.locals (bindL env.kindOf ([x].zip [u]) fun _=>none) env.cells (bindC env.kindOf ([x].zip [u]) fun _=>none) s1) S.kind hkind fun env he s1 y=>⟨he,y⟩)) (fun env s1 z=>?_) fun _ _ z=>z
 obtain⟨⟨he,x1⟩,hp⟩:=z
 subst he
 refine⟨lim.keeps x1.toInCall.keep,codeAny_func ?_⟩
 obtain⟨t,ht,hq⟩:=hbody A q0 s H vs Q E (hr.deeper _) hsp
 have I:Inv (dP CX P w K mg base N qual scope f cdv A q0 s H E) [] (gH N vs) H s1:=nR S hr.hd e0 hl r x1
 refine wpAny_mono (ht [] s1 (gH N vs) H _ hp I hq) (fun fl s' hs=>?_) fun e s' hs=>hs
 have fin:∀{σ':St} {H':Hp} {v:V} {u:Value},Inv (dP CX P w K mg base N qual scope f cdv A q0 s H E) [] σ' H' s'->dR v u->Q v H'->CE q0 P w H s Q u s' :=
  fun {σ' H' v u} J rv q=>⟨v,H',J.os,J.bare,J.base,J.hok,rv,q⟩
 cases fl with
 |ret u =>
  obtain⟨v,σ',H',J,rv,q⟩:=hs
  exact fin J rv q
 |next =>
  obtain⟨σ',H',J,q⟩:=hs
  exact fin (v:=V.non) (u:=Value.none) J rfl q
 |brk =>
  obtain⟨_,_,_,q⟩:=hs
  exact False.elim q
 |cont =>
  obtain⟨_,_,_,q⟩:=hs
  exact False.elim q
theorem AM.nox{X:Cx}{b:List Stmt}{t:TS}(h:AM X.nox b t):AM X b t:=fun kb s σ H D hp I hw =>
 wpAny_mono (h kb s σ H D hp (I.wish _) hw) (fun _ _ q=>q.unwish) fun _ _ z=>False.elim z
theorem Fun.okP{P:Program}{w:World}{K:W.Frag}{mg:Str->Option Value}{base:Heap}{y qual:Str}{st:Stmt}{f:Addr}{fd:FuncData}{N:List Str}{x:Str}{k:Nat}{sp:Sp}(F:Fun K y qual st f fd)(S:ax N [x] (ah st))(hloc:(ah st).names.lookup x=some .local)(len:∀vs H Q E,sp vs H Q E->vs.length=1)
  (hbody:∀(cdv:Value) (A:Around) (q0:List Env) (s:Shared) (H:Hp) (vs:List V) (Q:VK) (E:XK),bq k (A.deeper (envOfC qual (ah st) s.heap.objs.size f cdv))->sp vs H Q E ->
   ∃t,AM (dP CX0 P w K mg base N qual (ah st) f cdv A q0 s H E).nox (ap st) t/\t { nx:=fun _ H'=>Q .non H',rt:=Q } (gH N vs) H):aV P w K mg base CX0 (k+1) f fd [x] sp:=by
 obtain⟨oc,od,kV,doc,pm,an,cdv,ct,osl,rfl,lk,hcd⟩:=F.ex
 refine Bf lk hcd S hloc len fun A q0 s H vs Q E hr hsp=>?_
 obtain⟨t,h,q⟩:=hbody cdv A q0 s H vs Q E hr hsp
 exact⟨t,h.nox,q⟩
section
variable{X:Cx}
theorem oo:∀l:List (Str × Tok),cy ((l.map (·.1)).map V.str) (strValues l)
 |[]=>.nil
 |(x,t)::r=>.cons ⟨t,rfl⟩ (oo r)
theorem mn:MtR X "str.split" (fun x vs H Q=>∃z sep,x=.str z/\vs=[.str sep]/\(sep.length==0)=false/\z.length<=1000000/\(Txt.split z sep).length<=1000000/\∀l,H l=none->Q (.ref l) (upd H l (.lst ((Txt.split z sep).map V.str)))):=by
 intro kb s σ H x vs v us Q I rx rv h
 obtain⟨z,sep,rfl,rfl,h0,hl,hl2,q⟩:=h
 obtain⟨t,rfl⟩:=rx
 obtain⟨u1,rfl,r1⟩:=jd rv
 obtain⟨t1,rfl⟩:=r1
 have hz:z.length<=sizeLine:=Nat.le_trans hl (by rw [sizeLine_eq];omega)
 have fin:∀(l:List (Str × Tok)) (k:Nat),l.map (·.1)=Txt.split z sep->EP X kb σ Q (.ref s.heap.objs.size) { s with toks:=k,heap:=s.heap.push { cls:=.type "list",data:=.seq (strValues l).toArray } }:=fun l k e=>by
  refine⟨.ref s.heap.objs.size,_,I.laid (o:=.lst ((Txt.split z sep).map V.str)) (t':=k) (fun b ob y=>Heap.get?_push_of_some _ y) (Nat.le_refl _) ⟨?_,strValues l,_,?_,Heap.get?_push_size _ rfl⟩,rfl,q _ (I.hok.fresh (Nat.le_refl _))⟩
  ·rw [List.length_map]
   exact Nat.le_trans hl2 (by rw [sizeLine_eq];omega)
  ·rw [<-e]
   exact oo l
 cases h1:(decide (z.length < sep.length)||decide (Builtin.Str.strKind z < Builtin.Str.strKind sep)) with
 |true=>exact call_meets F.slot_str_split (typeIs_str _ _ _) F.entry_str_split (F.args_str_split_2 _ _) (meets_str_split_cannot_occur z sep t t1 h1) (fin [(z,t)] s.toks (if_pos h1).symm)
 |false =>
  cases hf:(Builtin.Str.occurrences z sep 0 z.length (z.length+1)).isEmpty with
  |true=>exact call_meets F.slot_str_split (typeIs_str _ _ _) F.entry_str_split (F.args_str_split_2 _ _) (meets_str_split_not_found z sep t t1 h1 h0 hf) (fin [(z,t)] s.toks ((if_neg (ne_true_of_eq_false h1)).trans (if_pos hf)).symm)
  |false =>
   have e3:Txt.split z sep=Builtin.Str.partsBetween z (Builtin.Str.occurrences z sep 0 z.length (z.length+1)) sep.length:=(if_neg (ne_true_of_eq_false h1)).trans (if_neg (ne_true_of_eq_false hf))
   have hz2:(Builtin.Str.partsBetween z (Builtin.Str.occurrences z sep 0 z.length (z.length+1)) sep.length).length<=sizeLine:=by
    rw [<-e3]
    exact Nat.le_trans hl2 (by rw [sizeLine_eq];omega)
   refine call_meets F.slot_str_split (typeIs_str _ _ _) F.entry_str_split (F.args_str_split_2 _ _) (meets_str_split_sep z sep t t1 h1 h0 hf hz hz2) ?_
   show wants (EP X kb σ Q) X.xe _ { s with toks:=_,heap:=s.heap.push { cls:=.type "list",data:=.seq (strsFrom s.toks (Builtin.Str.partsBetween z (Builtin.Str.occurrences z sep 0 z.length (z.length+1)) sep.length)).toArray } }
   rw [strsFrom_eq]
   exact fin (numbered s.toks _) _ ((numbered_texts _ _).trans e3.symm)
end
end L2
local macro_rules
 |`(sortPriv% $n:ident)=>do
  if n.getId==`rn then return Lean.mkCIdent (Lean.mkPrivateNameCore `PySem.Builtin.Int.W0All `PySem.Builtin.readNumeral)
  if n.getId==`vl then return Lean.mkCIdent (Lean.mkPrivateNameCore `PySem.Builtin.Int.W0All `PySem.Builtin.Numeral.value)
  if n.getId==`nd then return Lean.mkCIdent (Lean.mkPrivateNameCore `PySem.Builtin.Int.W0All `PySem.Builtin.numeralDigits?)
  if n.getId==`bl then return Lean.mkCIdent (Lean.mkPrivateNameCore `PySem.Builtin.Int.W0All `PySem.Builtin.isBlank)
  Lean.Macro.throwUnsupported
namespace L2
open PySem
theorem vX(f:Array Nat × Bool->Nat->Option (Array Nat × Bool))(hf:∀ds b c,48<=c->c<=57->f (ds,b) c=some (ds.push (c - 48),true)) :
  ∀(cs:List Nat) (ds:Array Nat) (b:Bool),(∀c∈cs,48<=c/\c<=57)->List.foldlM f (ds,b) cs=some (ds++(cs.map (· - 48)).toArray,b||!cs.isEmpty)
 |[],ds,b,_=>by simp
 |c::cs,ds,b,h=>by
  obtain⟨h1,h2⟩:=h c List.mem_cons_self
  rw [List.foldlM_cons,hf ds b c h1 h2]
  show List.foldlM f (ds.push (c - 48),true) cs=_
  rw [vX f hf cs _ _ fun d hd=>h d (List.mem_cons_of_mem _ hd)]
  simp
theorem vA(cs:List Nat)(hne:cs≠[])(h:∀c∈cs,48<=c/\c<=57):(sortPriv% nd) 10 cs=some (cs.map (· - 48)).toArray:=by
 show(List.foldlM _ (#[],false) cs >>= _)=_
 rw [vX _ (fun ds b c h1 h2=>?_) cs #[] false h]
 ·cases cs with
  |nil=>exact absurd rfl hne
  |cons c r =>
   show some _=some _
   simp
 ·have:c=48\/c=49\/c=50\/c=51\/c=52\/c=53\/c=54\/c=55\/c=56\/c=57:=by omega
  rcases this with rfl|rfl|rfl|rfl|rfl|rfl|rfl|rfl|rfl|rfl<;>rfl
theorem qO(c:Nat)(h:48<=c/\c<=57):(sortPriv% bl) c=false:=by
 have:c=48\/c=49\/c=50\/c=51\/c=52\/c=53\/c=54\/c=55\/c=56\/c=57:=by omega
 rcases this with rfl|rfl|rfl|rfl|rfl|rfl|rfl|rfl|rfl|rfl<;>rfl
theorem nY{p:Nat->Bool}:∀{cs:List Nat},(∀c∈cs,p c=false)->cs.dropWhile p=cs
 |[],_=>rfl
 |c::r,h=>by rw [List.dropWhile_cons,h c List.mem_cons_self];rfl
def bn(cs:List Nat):Nat:=cs.foldl (fun a c=>a*10+(c - 48)) 0
theorem uu(c0:Nat)(r:List Nat)(h0:49<=c0/\c0<=57)(h:∀c∈r,48<=c/\c<=57)(hl:r.length<=100):(sortPriv% rn) 0 10 (c0::r)=(sortPriv% vl) (bn (c0::r)):=by
 have hall:∀c∈c0::r,48<=c/\c<=57:=fun c hc=>by
  rcases List.mem_cons.mp hc with rfl|hc
  ·omega
  ·exact h c hc
 have e2:(List.dropWhile (sortPriv% bl) (c0::r).reverse).reverse=c0::r:=by
  rw [nY fun c hc=>qO c (hall c (List.mem_reverse.mp hc)),List.reverse_reverse]
 have e1:(sortPriv% nd) 10 (List.dropWhile (sortPriv% bl) (c0::r).reverse).reverse=some ((c0::r).map (· - 48)).toArray:=by
  rw [e2]
  exact vA _ (by simp) hall
 have sz:¬((c0::r).map (· - 48)).toArray.size > 6000:=by
  rw [List.size_toArray,List.length_map,List.length_cons]
  omega
 have fin:((c0::r).map (· - 48)).toArray.foldl (fun acc d=>acc*10+d) 0=bn (c0::r):=by
  rw [List.foldl_toArray,List.foldl_map]
  rfl
 have:c0=49\/c0=50\/c0=51\/c0=52\/c0=53\/c0=54\/c0=55\/c0=56\/c0=57:=by omega
 rcases this with rfl|rfl|rfl|rfl|rfl|rfl|rfl|rfl|rfl
 all_goals
  conv=>lhs;whnf
  rw [nY (cs:=_::r) fun c hc=>qO c (hall c hc),e1]
  dsimp only
  rw [if_neg (by simp),if_neg (by rw [Bool.and_eq_true];exact fun z=>sz (of_decide_eq_true z.2)),fin]
  rfl
def jy(cs:List Nat):Prop:=cs=[48]\/∃c0 r,cs=c0::r/\(49<=c0/\c0<=57)/\(∀c∈r,48<=c/\c<=57)/\r.length<=100
theorem jy.all{cs:List Nat}(h:jy cs):(∀c∈cs,48<=c/\c<=57)/\cs.length<=101:=by
 rcases h with rfl|⟨c0,r,rfl,h0,hr,hl⟩
 ·exact⟨by decide,by decide⟩
 ·refine⟨fun c hc=>?_,by rw [List.length_cons];omega⟩
  rcases List.mem_cons.mp hc with rfl|hc
  ·omega
  ·exact hr c hc
theorem BK{cs:List Nat}(h:jy cs):(sortPriv% rn) 0 10 cs=(sortPriv% vl) (bn cs):=by
 rcases h with rfl|⟨c0,r,rfl,h0,hr,hl⟩
 ·rfl
 ·exact uu c0 r h0 hr hl
theorem qG{p:Nat->Bool}:∀{cs:List Nat},(∀c∈cs,p c=true)->cs.takeWhile p=cs
 |[],_=>rfl
 |c::r,h=>by rw [List.takeWhile_cons,h c List.mem_cons_self,qG fun d hd=>h d (List.mem_cons_of_mem _ hd)];rfl
theorem j5:typeLookup (.type "str") "__int__"=pure none:=by rw [typeLookup_type,builtinLookup_eq_fast];kernel_rfl
theorem jg:typeLookup (.type "str") "__index__"=pure none:=by rw [typeLookup_type,builtinLookup_eq_fast];kernel_rfl
theorem ji:typeLookup (.type "str") "__trunc__"=pure none:=by rw [typeLookup_type,builtinLookup_eq_fast];kernel_rfl
theorem iG(z:Str)(u:Tok)(h:jy z.cps.toList):Meets (Builtin.«int.__new__» ⟨[.type "int",.str z u],[]⟩) (Made.int (bn z.cps.toList)).spec :=
 Meets.of_wp fun prog w A R s hs=>by
  obtain⟨hp,g,d,tk,os⟩:=s
  have f1:=F.conv_sub_int
  have f2:=F.madeHere_int
  have hT:(⟨hp,g,d,tk,os⟩:Shared).TypeIs (.str z u) "str":=rfl
  have f3:=j5
  have f4:=jg
  have f5:=ji
  obtain⟨ha,hl⟩:=h.all
  have e1:(z.cps.all fun x=>decide (x < 128))=true:=by
   rw [Array.all_eq_true_iff_forall_mem]
   intro x hx
   have:=ha x (by simpa using hx)
   exact decide_eq_true (by omega)
  have e2:List.takeWhile (fun x=>x != 0) z.cps.toList=z.cps.toList:=qG fun c hc=>by
   have:=ha c hc
   rw [bne_iff_ne]
   omega
  repeat (any_goals (first|assumption|wp_step))
  rw [if_pos e1,e2,if_pos (by omega)]
  repeat (any_goals (first|assumption|wp_step))
  rw [BK h]
  dsimp only
  rw [if_pos (beq_self_eq_true _)]
  repeat (any_goals (first|assumption|wp_step))
  all_goals first|exact⟨_,rfl,hs⟩|skip
theorem kz{k:Nat}(h:k < 10):(Nat.digitChar k).toNat=48+k:=by
 have:k=0\/k=1\/k=2\/k=3\/k=4\/k=5\/k=6\/k=7\/k=8\/k=9:=by omega
 rcases this with rfl|rfl|rfl|rfl|rfl|rfl|rfl|rfl|rfl|rfl<;>rfl
def pP(n:Nat):List Nat:=(Nat.toDigits 10 n).map Char.toNat
theorem jC{n:Nat}(h:n < 10):pP n=[48+n]:=by
 unfold pP
 rw [Nat.toDigits_of_lt_base h]
 show [(Nat.digitChar n).toNat]=_
 rw [kz h]
theorem pQ{n:Nat}(h:¬n < 10):pP n=pP (n / 10)++[48+n%10]:=by
 unfold pP
 rw [Nat.toDigits_eq_if (by decide),if_neg h,List.map_append]
 show _++[(Nat.digitChar (n%10)).toNat]=_
 rw [kz (Nat.mod_lt _ (by decide))]
theorem kU(xs:List Nat)(c:Nat):bn (xs++[c])=bn xs*10+(c - 48):=by
 unfold bn
 rw [List.foldl_append]
 rfl
theorem tq(n:Nat):bn (pP n)=n:=by
 induction n using Nat.strongRecOn with
 |ind n ih =>
  by_cases h:n < 10
  ·rw [jC h]
   show 0*10+(48+n - 48)=n
   omega
  ·rw [pQ h,kU,ih (n / 10) (by omega)]
   omega
theorem oG(n:Nat)(h1:1<=n):∃c0 r,pP n=c0::r/\(49<=c0/\c0<=57)/\∀c∈r,48<=c/\c<=57:=by
 induction n using Nat.strongRecOn with
 |ind n ih =>
  by_cases h:n < 10
  ·exact⟨48+n,[],jC h,⟨by omega,by omega⟩,fun c hc=>nomatch hc⟩
  ·obtain⟨c0,r,e,h0,hr⟩:=ih (n / 10) (by omega) (by omega)
   refine⟨c0,r++[48+n%10],by rw [pQ h,e];rfl,h0,fun c hc=>?_⟩
   rcases List.mem_append.mp hc with z|z
   ·exact hr c z
   ·rw [List.mem_singleton.mp z]
    omega
theorem yb{n:Nat}(h:n < 10 ^ 101):jy (pP n):=by
 by_cases h1:1<=n
 ·obtain⟨c0,r,e,h0,hr⟩:=oG n h1
  refine .inr ⟨c0,r,e,h0,hr,?_⟩
  have hl:(Nat.toDigits 10 n).length<=101:=(Nat.length_toDigits_le_iff (by decide) (by decide)).mpr h
  have:=congrArg List.length e
  unfold pP at this
  rw [List.length_map,List.length_cons] at this
  omega
 ·have:n=0:=by omega
  subst this
  exact .inl (jC (by decide))
theorem pq(n:Nat):(Str.ofString (toString (n:Int))).cps.toList=pP n:=by
 have e:toString (n:Int)=String.ofList (Nat.toDigits 10 n):=Nat.repr_eq_ofList_toDigits
 rw [e,Str.ofString_eq_toList]
 simp [pP]
section
variable{prog:Program}{w:World}{A:Around}{E:Value->Shared->Prop}{s:Shared}
theorem qf{z:Str}{u:Tok}{Q:Value->Shared->Prop}(hz:jy z.cps.toList)(h:Q (.int (bn z.cps.toList) s.toks) { s with toks:=s.toks+1 }):wpAny (model prog w) A (call (.type "int") [.str z u]) Q E s :=
 call_int_1 (iG z u hz) (show(Made.int (bn z.cps.toList)).post _ s from⟨rfl,h⟩)
end
theorem nM{X:Cx}:jJ X (.type "int") (fun xs H Q=>∃z,xs=[.str z]/\jy z.cps.toList/\Q (.int (bn z.cps.toList)) H):=by
 intro kb s σ H xs us Q I r h
 obtain⟨z,rfl,hz,q⟩:=h
 obtain⟨u,rfl,t,rfl⟩:=jd r
 exact qf hz ⟨.int _,H,I.tok _,⟨_,rfl⟩,q⟩
end L2
namespace L2
open PySem PySem.Spec PyProof.Rows
section
variable{X:Cx}{pos:Pos}{e:Expr}{es:List Expr}{te:TE}
abbrev TJE:=St->Hp->Str->(Str->Hp->Prop)->Prop
def PJE(X:Cx)(es:List Expr)(t:TJE):Prop :=
 ∀(kb:List (Addr × Obj)) (s:Shared) (σ:St) (H:Hp) (acc:Str) (Z:Str->Hp->Prop),acc.length+2000000*es.length<=sizeLine->Inv X kb σ H s->t σ H acc Z ->
  Joins (model X.prog X.w) X.A X.xe (evalEach es X.env) acc (fun out s1=>out.length<=sizeLine/\∃H1,Inv X kb σ H1 s1/\Z out H1) s
theorem zH:PJE X [] (fun _ H acc Z=>Z acc H):=fun _ _ _ H _ _ hz I h=>⟨Nat.le_trans (Nat.le_add_right _ _) hz,H,I,h⟩
theorem mv{tj:TJE}(he:PE X e te)(hr:PJE X es tj):PJE X (e::es) (fun σ H acc Z=>te σ H fun v H1=>∃y:Str,v=.str y/\y.length<=2000000/\tj σ H1 (acc++y) Z):=by
 intro kb s σ H acc Z hz I h
 refine thn (he kb s σ H _ I h) fun u s1 ⟨v,H1,I1,r,y,hv,hy,q⟩=>?_
 subst hv
 obtain⟨t,rfl⟩:=r
 have e1:(acc++y).length=acc.length+y.length:=by
  show Array.size (acc.cps++y.cps)=_
  rw [Array.size_append]
  rfl
 have e2:(e::es).length=es.length+1:=rfl
 rw [e2] at hz
 exact⟨y,t,rfl,by omega,hr kb s1 σ H1 (acc++y) Z (by omega) I1 q⟩
theorem yn{v1 v2:Expr}{gN:List Expr}{tj:TJE}(hj:PJE X (v1::v2::gN) tj)(hl:(v1::v2::gN).length<=8) :
  PE X (.JoinedStr (v1::v2::gN) pos) (fun σ H Q=>tj σ H Str.empty fun out H1=>Q (.str out) H1):=by
 intro kb s σ H Q I h
 have hz:Str.empty.length+2000000*(v1::v2::gN).length<=sizeLine:=by
  have e0:Str.empty.length=0:=rfl
  rw [sizeLine_eq,e0]
  rw [Nat.zero_add]
  exact Nat.le_trans (Nat.mul_le_mul_left _ hl) (Nat.le_of_ble_eq_true rfl)
 refine wpAny_JoinedStr ?_
 have j:=hj kb s σ H Str.empty _ hz I h
 exact dC.joins_mono _ _ (fun out s1 ⟨h1,H1,I1,q⟩=>⟨h1,.str out,H1,I1.tok _,⟨_,rfl⟩,q⟩) _ j
end
section
variable{prog:Program}{w:World}{A:Around}{R:Result->Shared->Prop}{I S:Addr}{fp wr:List Addr}{n:Nat}{P:Nat->Value->Prop}{St:Nat->Heap->Prop}{d:Value}
end
section
variable{X:Cx}{e:Expr}{es:List Expr}{kws:List Keyword}{t tk:TA}{p pos:Pos}
end
inductive tV (w:World):List DictEntry->List (Str × Int)->Prop
 |nil:tV w [] []
 |cons {h:Int} {s:Str} {n:Int} {t t':Tok} {es:List DictEntry} {ps:List (Str × Int)}:h=hashStr w s->tV w es ps->tV w (⟨h,.str s t,.int n t'⟩::es) ((s,n)::ps)
structure DKt(K:W.Frag)(w:World)(a:Addr)(ps:List (Str × Int)):Prop where
 ns:(a==sysModules)=false
 at_:∀(P:Program) (h:Heap),K.In h->∃vs:List (Key × Value),KV (ps.map fun p=>((Sum.inr p.1:Key),V.int p.2)) vs/\h.DictOf (fH P w) a vs
theorem A1{P:Program}{w:World}{es:List DictEntry}{ps:List (Str × Int)}(h:tV w es ps):∃vs:List (Key × Value),KV (ps.map fun p=>((Sum.inr p.1:Key),V.int p.2)) vs/\Pairs (fH P w) es vs/\(∀e∈es,∃k:Key,(fH P w).is k e.key=true/\e.hash=(fH P w).hash k)/\vs.map (·.1)=ps.map fun p=>(Sum.inr p.1:Key):=by
 induction h with
 |nil=>exact⟨[],.nil,.nil,(fun e he=>by cases he),rfl⟩
 |@cons hh s n t t' es ps e _ ih =>
  obtain⟨vs,a,b,c,d⟩:=ih
  refine⟨(Sum.inr s,.int n t')::vs,.cons ⟨rfl,⟨t',rfl⟩⟩ a,.cons (gI P w s t) rfl b,fun e2 he=>?_,?_⟩
  ·rcases List.mem_cons.mp he with rfl|he
   ·exact⟨Sum.inr s,gI P w s t,e⟩
   ·exact c e2 he
  ·rw [List.map_cons,List.map_cons,d]
theorem yv{K:W.Frag}{w:World}{a:Addr}{ps:List (Str × Int)}{es:Array DictEntry}{ep:Nat} (hl:K.lookup a=some ⟨.type "dict",none,.dict es ep,#[]⟩) (hs:(a==sysModules)=false) (he:tV w es.toList ps) (nd:(ps.map (·.1)).Nodup):DKt K w a ps:=by
 refine⟨hs,fun P h hK=>?_⟩
 obtain⟨vs,v1,v2,v3,v4⟩:=A1 (P:=P) he
 refine⟨vs,v1,_,es,ep,hK _ _ hl,⟨rfl,rfl,rfl⟩,rfl,fun e h2=>v3 e (Array.mem_toList_iff.mpr h2),v2,?_⟩
 rw [v4]
 have:(ps.map fun p=>(Sum.inr p.1:Key))=(ps.map (·.1)).map Sum.inr:=by rw [List.map_map];rfl
 rw [this]
 exact List.Pairwise.map _ (fun _ _ h z=>h (Sum.inr.inj z)) nd
def fK(ps:List (Str × Int))(s:Str):Option Int:=(ps.find? fun p=>decide (p.1=s)).map (·.2)
theorem rk(ps:List (Str × Int))(s:Str):yO (ps.map fun p=>((Sum.inr p.1:Key),V.int p.2)) (Sum.inr s)=(fK ps s).map V.int:=by
 induction ps with
 |nil=>rfl
 |cons p r ih =>
  unfold yO fK at ih ⊢
  rw [List.map_cons,List.find?_cons,List.find?_cons]
  by_cases e:p.1=s
  ·rw [decide_eq_true (show(Sum.inr p.1:Key)=Sum.inr s by rw [e]),decide_eq_true e]
   rfl
  ·rw [decide_eq_false (show ¬(Sum.inr p.1:Key)=Sum.inr s from fun z=>e (Sum.inr.inj z)),decide_eq_false e]
   exact ih
section
variable{X:Cx}{o i:Expr}{pos:Pos}{td ty:TE}
def Bq(K:W.Frag)(w:World)(td ty:TE):TE:=fun σ H Q=>td σ H fun x H1=>ty σ H1 fun y H2=>∃a ps s n,x=.ref a/\DKt K w a ps/\y=.str s/\fK ps s=some n/\Q (.int n) H2
def CH(K:W.Frag)(w:World)(ty td:TE):TE:=fun σ H Q=>ty σ H fun y H1=>td σ H1 fun x H2=>∃a ps s,x=.ref a/\DKt K w a ps/\y=.str s/\Q (.bl (fK ps s).isSome) H2
theorem rJ(ho:PE X o td)(hi:PE X i ty)(hs:Dr i):PE X (.Subscript o i pos) (Bq X.K X.w td ty):=by
 intro kb s σ H Q I h
 refine zW PySem.F.slot_dict_getitem.lookup hs (thn (ho kb s σ H _ I h) fun u s1 ⟨x,H1,I1,rx,q1⟩=>thn (hi kb s1 σ H1 _ I1 q1) fun iv s2 ⟨y,H2,I2,ry,a,ps,z,n,ex,g,ey,en,q2⟩=>?_)
 subst ex ey
 obtain rfl:u=Value.ref a:=rx
 obtain⟨vs,rel,dd⟩:=g.at_ X.prog s2.heap I2.kIn
 obtain⟨w',hw,rw'⟩:=xL.some_of (v:=.int n) (o:=valueAt vs (Sum.inr z)) (by have:=rel.val (Sum.inr z);rw [rk,en] at this;exact this)
 exact⟨dd.typeIs,wpAny_getItem_of (BY (k:=Sum.inr z) ry) dd.mapOf hw ⟨.int n,H2,I2.tok _,rw',q2⟩⟩
theorem Az(hi:PE X i ty)(ho:PE X o td):PC X .In i o (CH X.K X.w ty td):=by
 intro kb s σ H Q I h
 refine thn (hi kb s σ H _ I h) fun iv s1 ⟨y,H1,I1,ry,q1⟩=>thn (ho kb s1 σ H1 _ I1 q1) fun u s2 ⟨x,H2,I2,rx,a,ps,z,ex,g,ey,q2⟩=>?_
 subst ex ey
 obtain rfl:u=Value.ref a:=rx
 obtain⟨vs,rel,dd⟩:=g.at_ X.prog s2.heap I2.kIn
 refine wpAny_in_of (BY (k:=Sum.inr z) ry) g.ns dd.mapOf ?_
 have e:=(rel.val (Sum.inr z)).isSome_eq
 rw [rk,Option.isSome_map] at e
 rw [<-e]
 exact⟨.bl _,H2,I2.tok _,rfl,q2⟩
end
section
variable{P:Program}{w:World}{K:W.Frag}{mg:Str->Option Value}{base:Heap}
end
section
variable{prog:Program}{w:World}{A:Around}{E:Value->Shared->Prop}{s:Shared}
end
section
variable{X:Cx}
end
end L2
namespace L2
open PySem PySem.Spec PyProof.Rows PySem.Calls
section
variable{prog:Program}{w:World}{K:Type}[DecidableEq K]{knd:HeapKind prog w K}{A:Around}{E:Value->Shared->Prop}{s:Shared}
end
section
variable{X:Cx}
end
end L2
namespace L2
open PySem PySem.Spec PyProof.Rows PySem.W
section
variable{prog:Program}{w:World}{A:Around}{E:Value->Shared->Prop}{s:Shared}
structure Ec(es:Array DictEntry)(lo:Addr)(h:Heap)(as:List Addr):Prop where
 rise:as.Pairwise (· < ·)
 up:∀a∈as,lo < a
 at':∀(j:Nat) (a:Addr),as[j]?=some a->∃en,es[j]?=some en/\h.get? a=some { cls:=.type "tuple",data:=.seq #[en.key,en.val] }
end
section
variable{prog:Program}{w:World}{A:Around}{s:Shared}{R:Result->Shared->Prop}{es:Array DictEntry}{ep:Nat}
end
section
variable{prog:Program}{w:World}{A:Around}{E:Value->Shared->Prop}{s:Shared}{r d:Addr}{es:Array DictEntry}{ep:Nat}
end
end L2
namespace L2
open PySem PySem.Spec PyProof.Rows
section
variable{X:Cx}
end
section
variable{prog:Program}{w:World}{A:Around}{E:Value->Shared->Prop}{s:Shared}
end
section
variable{X:Cx}{l:Expr}{tl:TE}{p p2 pos pos2:Pos}
end
section
variable{X:Cx}
end
section
variable{prog:Program}{w:World}{A:Around}{E:Value->Shared->Prop}{s:Shared}{a:Addr}{xs:Array Value}{k:Nat}{sl:Array (Option Value)}
end
section
variable{X:Cx}{kb:List (Addr × Obj)}{σ:St}
end
section
variable{prog:Program}{w:World}{A:Around}{E:Value->Shared->Prop}{s:Shared}{K:Type}[DecidableEq K]{knd:HeapKind prog w K}
end
section
variable{X:Cx}
end
section
variable{M:Model}{A:Around}{E:Value->Shared->Prop}{s:Shared}
theorem sY{base:Heap}{env:Env}{q0:List Env}{L e:Addr}{cls a0 fl:Value}{Q:Unit->Shared->Prop}(hfr:A.frames=some (env::q0))(hf:env.frame=some L)(k1:base.StaysIn s.heap)(k2:base.get? e=none)(k3:s.heap.FunFrames base (env::q0))(k4:s.heap.TracedAtW base e cls a0 fl)
  (hQ:∀h',Heap.FlyingW base q0 e cls a0 h'->s.heap.UpToSlots h'->Q () { s with heap:=h' }):wpAny M A (leaving env (.ref e)) Q E s:=by
 by_cases hfl:(fl==rawInt L)=true
 ·have hfl':fl=rawInt L:=by simpa using hfl
  rw [hfl'] at k4
  unfold leaving
  refine wpAny_bind (wpAny_noteFrame_againW hf k4 ?_)
  refine wpAny_landsW ⟨k1,k2,k3,k4⟩ fun h' hF up=>?_
  obtain⟨j1,j2,⟨_,_,j3⟩,j4⟩:=hF
  exact hQ h' ⟨j1,j2,j3,j4⟩ up
 ·obtain⟨oe,vs,T,oT,ts,he,⟨hcls,h0⟩,hd,h1,hnT,hTe,hT,hdT,h3⟩:=k4
  subst hcls
  unfold leaving noteFrame
  simp only [hf]
  refine wpAny_bind (wpAny_bind (wpAny_field he hd h1 ?_))
  rw [if_pos (show(Value.ref T != Value.none)=true from by simp)]
  refine wpAny_bind (wpAny_field hT hdT h3 ?_)
  rw [if_neg hfl]
  refine wpAny_bind (wpAny_setField hT hdT (Array.getElem?_eq_some_iff.mp h3).1 ?_)
  have other:∀b,b≠T->(s.heap.update T (Obj.mapFields (·.setIfInBounds 3 Value.none))).get? b=s.heap.get? b:=fun b hb=>Heap.get?_update_other _ _ (Ne.symm hb)
  have noRecord:∀b o,s.heap.get? b=some o->(∀vs,o.data≠.fields vs)->b≠T:=fun b o hb hnf q=>by
   rw [q,hT] at hb;injection hb with hb;subst hb;exact hnf ts hdT
  refine wpAny_newEntryW hfr (k3.of_keeps fun b o hb hnf=>⟨o,(other b (noRecord b o hb hnf)).trans hb,rfl⟩) hf ((other e (Ne.symm hTe)).trans he)
   (fun b o hbo=>(other b fun q=>by rw [q,hnT] at hbo;cases hbo).trans (k1 b o hbo)) k2 hd (Array.getElem?_eq_some_iff.mp h1).1 h0
   fun h' ⟨x1,x2,x3,x4⟩=>hQ h' ⟨x1,k2,x2.2.2,x3⟩ fun b o hb hnf=>x4 b o ((other b (noRecord b o hb hnf)).trans hb) hnf
theorem ma{base:Heap}{l:List Env}{e:Addr}{cls a0 fl:Value}{fr:Option Addr}{Q:Unit->Shared->Prop}
  (hkb:base.StaysIn s.heap) (hl:s.heap.FunFrames base l) (ht:s.heap.TracedAtW base e cls a0 fl)
  (h:∀h',base.StaysIn h'->h'.FunFrames base l->h'.TracedAtW base e cls a0 (fr.elim Value.none fun f=>rawInt f)->(∀b o,s.heap.get? b=some o->(∀vs,o.data≠.fields vs)->h'.get? b=some o)->Q () { s with heap:=h' }) :
  wpAny M A (setFlight (.ref e) fr) Q E s:=by
 obtain⟨oe,vs,T,oT,ts,he,hcls,hd,h1,hnT,hTe,hT,hdT,h3⟩:=ht
 have hsz3:3 < ts.size:=(Array.getElem?_eq_some_iff.mp h3).1
 have other:∀b,b≠T->(s.heap.update T (Obj.mapFields (·.setIfInBounds 3 (fr.elim Value.none fun f=>rawInt f)))).get? b=s.heap.get? b :=
  fun b hb=>Heap.get?_update_other _ _ (Ne.symm hb)
 have noRecord:∀b o,s.heap.get? b=some o->(∀vs,o.data≠.fields vs)->b≠T:=fun b o hb hnf q=>by
  rw [q,hT] at hb;injection hb with hb;subst hb;exact hnf ts hdT
 unfold setFlight
 refine wpAny_bind (wpAny_field he hd h1 ?_)
 rw [if_pos (show(Value.ref T != Value.none)=true from by simp)]
 refine wpAny_setField hT hdT hsz3 (h _ (fun b o hbo=>(other b fun q=>by rw [q,hnT] at hbo;cases hbo).trans (hkb b o hbo))
  (hl.of_keeps fun b o hb hnf=>⟨o,(other b (noRecord b o hb hnf)).trans hb,rfl⟩) ?_ fun b o hb hnf=>(other b (noRecord b o hb hnf)).trans hb)
 exact⟨oe,vs,T,_,_,(other e (Ne.symm hTe)).trans he,hcls,hd,h1,hnT,hTe,Heap.get?_update_self _ hT (Obj.isFreed_of_fields (Obj.data_mapFields hdT _)),Obj.data_mapFields hdT _,by simp [hsz3]⟩
end
theorem kZ{B h1 h2:Heap}{C:Addr}(sb:Heap.SameBut C h1 h2):∀{l:List Env},h1.FunFrames B l->C∉frs l->h2.FunFrames (W.hideAll B [C]) l
 |[],_,_=>trivial
 |env::r,⟨hk,⟨L,o,hf,hn,ho,hd⟩,hr⟩,hne=>by
  have eq:frs (env::r)=L::frs r:=by
   unfold frs
   rw [List.filterMap_cons,hf]
  rw [eq] at hne
  refine⟨hk,⟨L,o,hf,?_,(sb.2 L fun z=>hne (by rw [z];exact .head _)).trans ho,hd⟩,kZ sb hr fun z=>hne (.tail _ z)⟩
  cases q:(W.hideAll B [C]).get? L with
  |none=>rfl
  |some u=>rw [W.of_hideAll _ q] at hn;cases hn
section
variable{X:Cx}{kb:List (Addr × Obj)}{σ:St}{H H':Hp}{s s':Shared}{x C:Addr}{cls:Value}{d:Option Addr}
theorem Fly.comp{m0:Str->Option Value}{cenv0:Env}(I:Inv X kb σ H s)(hst:X.stack=X.env::X.q0)(hfr:X.env.frame=some X.env.locals)(hex:X.ex=[])(f:Fly X.prog X.w X.stack H s x cls H' s')(hdi:cq x d s')
  (hC0:X.s₀.heap.get? C=none) (hCs:s.heap.Ns C m0) (hCn:H C=none) (hCf:C∉frs X.stack) (hcf:cenv0.frame=X.env.frame)
  (hxe:∀s,wpAny (model X.prog X.w) X.A (leaving X.env (.ref x)) (fun _ s''=>Fly X.prog X.w X.q0 X.H₀ X.s₀ x cls H' s''/\cq x d s'') (fun _ _=>False) s->X.xe (.ref x) s) {Qe:Value->Shared->Prop} {acc:Value} :
  notedBy (model X.prog X.w) X.A cenv0 (fun x' s''=>compPost (model X.prog X.w) X.A X.xe none Qe acc C (.error x') s'') (.ref x) s':=by
 obtain⟨B,a0,fl,c1,c2⟩:=f.fl
 rw [hst] at fl
 have nx:∀b:Addr,b∉X.ex:=fun b=>by rw [hex];simp
 obtain⟨oC,es,ep,hoC,hdC,rC⟩:=hCs
 have keepC:s'.heap.get? C=some oC:=f.un.keep C oC hoC hCn hCf (by simp)
 have hCH':H' C=none:=f.un.free C oC hoC hCn (by simp)
 obtain⟨uC,huC⟩:=c2 C oC hoC hCf
 have hxC:x≠C:=fun z=>by have q:=fl.2.1;rw [z,huC] at q;cases q
 unfold notedBy
 rw [show noteFrame (.ref x) cenv0=noteFrame (.ref x) X.env from by unfold noteFrame PySem.frameOf;rw [hcf]]
 refine wpAny_mono (az.note.wpAny (Q:=fun _ s''=>∃h1,s''={ s' with heap:=h1 }/\Heap.HeldW B (X.env::X.q0) x cls a0 X.env.locals h1/\s'.heap.UpToSlots h1) (E:=fun _ _=>False) hdi (wpAny_looks_onW (by rw [I.ok.frames,hst]) hfr fl fun h1 hh up=>⟨h1,rfl,hh,up⟩)) (fun _ s'' ⟨⟨h1,e1,hh,up⟩,hdi1⟩=>?_) (fun _ _ z=>z.1.elim)
 subst e1
 refine⟨m0,up.ns ⟨oC,es,ep,keepC,hdC,rC⟩,fun h2 sb cenv _=>?_⟩
 obtain⟨g1,g2,g3,g4⟩:=hh
 have stB:(W.hideAll B [C]).StaysIn h2:=fun b o e=>by
  have hb:b≠C:=fun z=>by rw [z,W.hideAll_none _ (.head _)] at e;cases e
  exact(sb.2 b hb).trans (g1 b o (W.of_hideAll _ e))
 have nB:∀b,B.get? b=none->(W.hideAll B [C]).get? b=none:=fun b hb=>by
  cases q:(W.hideAll B [C]).get? b with
  |none=>rfl
  |some u=>rw [W.of_hideAll _ q] at hb;cases hb
 have fr2:h2.FunFrames (W.hideAll B [C]) (X.env::X.q0):=kZ sb g3 (by rw [<-hst];exact hCf)
 obtain⟨oe,vs,T,oT,ts,he,hcl,hd,q1,hnT,hTe,hT,hdT,q3⟩:=g4
 have hTC:T≠C:=fun z=>by rw [z,huC] at hnT;cases hnT
 have tr2:h2.TracedAtW (W.hideAll B [C]) x cls a0 (rawInt X.env.locals):=⟨oe,vs,T,oT,ts,(sb.2 x hxC).trans he,hcl,hd,q1,nB T hnT,hTe,(sb.2 T hTC).trans hT,hdT,q3⟩
 have hdi2:cq x d { s' with heap:=h2 }:=by
  obtain⟨ob,e,hb⟩:=hdi1
  exact⟨ob,(sb.2 x hxC).trans e,hb⟩
 unfold PySem.passOn
 refine wpAny_bind (wpAny_field (s:={ s' with heap:=h2 }) ((sb.2 x hxC).trans he) hd q1 ?_)
 rw [if_neg (show ¬((Value.ref T==Value.none)=true) from by simp)]
 refine wpAny_bind (wpAny_mono (az.flight.wpAny (Q:=fun _ s3=>∃h3 fl3,s3={ s' with heap:=h3 }/\(W.hideAll B [C]).StaysIn h3/\h3.FunFrames (W.hideAll B [C]) (X.env::X.q0)/\h3.TracedAtW (W.hideAll B [C]) x cls a0 fl3/\h2.UpToSlots h3) (E:=fun _ _=>False) hdi2 (ma stB fr2 tr2 fun h3 j1 j2 j3 j4=>⟨h3,_,rfl,j1,j2,j3,fun b o e hn=>⟨o.slots,j4 b o e hn⟩⟩)) (fun _ s3 ⟨⟨h3,fl3,e3,j1,j2,j3,j4⟩,hdi3⟩=>?_) (fun _ _ z=>z.1.elim))
 subst e3
 refine wpAny_throw (hxe _ ?_)
 refine wpAny_mono (az.leave.wpAny (Q:=fun _ s4=>Fly X.prog X.w X.q0 X.H₀ X.s₀ x cls H' s4) (E:=fun _ _=>False) hdi3 (sY (by rw [I.ok.frames,hst]) hfr j1 (nB x g2) j2 j3 fun h4 fl4 up4=>?_)) (fun _ s4 z=>z) (fun _ _ z=>z.1)
 have st:∀b o,B.get? b=some o->b≠C->h4.get? b=some o:=fun b o e hb=>fl4.1 b o (W.hideAll_get _ e (by simpa using hb))
 have same:∀b u v,B.get? b=some u->s'.heap.get? b=some v->u=v:=fun b u v h1 h2=>by
  have h3:=fl.1 b u h1
  rw [h2] at h3
  exact(Option.some.inj h3).symm
 have oldC:∀b o,X.s₀.heap.get? b=some o->b≠C:=fun b o e z=>by rw [z,hC0] at e;cases e
 have trkC:∀b o,H' b=some o->b≠C:=fun b o e z=>by rw [z,hCH'] at e;cases e
 have upAll:∀b o,b≠C->s'.heap.get? b=some o->(∀vs,o.data≠.fields vs)->∃sl,h4.get? b=some { o with slots:=sl }:=fun b o hb e hn=>by
  obtain⟨s1,e1⟩:=up b o e hn
  obtain⟨s2,e2⟩:=j4 b _ ((sb.2 b hb).trans e1) hn
  obtain⟨s3,e3⟩:=up4 b _ e2 hn
  exact⟨s3,e3⟩
 have slot:∀b o,X.s₀.heap.get? b=some o->X.H₀ b=none->b∈X.fs->∃sl,h4.get? b=some { o with slots:=sl }:=fun b o e n hb=>by
  obtain⟨sl,e1⟩:=I.base.slot b o e n hb (nx b)
  obtain⟨sl2,e2⟩:=f.un.any e1 (I.base.free b o e n (nx b)) (by simp)
  obtain⟨_,of,ho,hnf⟩:=I.ok.funs.mem hb
  rw [e] at ho
  cases ho
  obtain⟨sl3,e3⟩:=upAll b _ (oldC b o e) e2 hnf
  exact⟨sl3,e3⟩
 refine⟨f.os.trans I.os,f.bare,⟨fun b o e n hb _=>?_,fun b o e n hb _=>slot b o e n hb,fun b o e n _=>?_,fun b o e _=>?_,fun b xs e=>f.un.tups b xs (I.base.tups b xs e),fun b o u e=>f.un.frzs b o u (I.base.frzs b o u e),fun b ps e=>?_⟩,fun a o e=>?_,⟨_,a0,fl4,fun b o e=>?_,fun b o e hb=>?_⟩,f.free⟩
 ·have e1:=I.base.keep b o e n hb (nx b)
  have n1:=I.base.free b o e n (nx b)
  have hb':=I.notSt (I.oldL e) hb
  have e2:=f.un.keep b o e1 n1 hb' (by simp)
  obtain⟨u,hu⟩:=c2 b o e1 hb'
  exact same b u o hu e2▸st b u hu (oldC b o e)
 ·obtain⟨o',e1⟩:=I.base.there b o e (nx b)
  exact f.un.free b o' e1 (I.base.free b o e n (nx b)) (by simp)
 ·by_cases hb:b∈X.fs
  ·obtain⟨sl,e1⟩:=slot b o e (I.ok.frf b hb) hb
   exact⟨_,e1⟩
  ·obtain⟨o',e1⟩:=I.base.there b o e (nx b)
   obtain⟨u,hu⟩:=c2 b o' e1 (I.notSt (I.oldL e) hb)
   exact⟨u,st b u hu (oldC b o e)⟩
 ·obtain⟨m1,e1⟩:=I.base.tbls b ps e
  obtain⟨m2,e2⟩:=f.un.tbls b _ e1
  exact⟨m1++m2,by rw [e2,Array.append_assoc]⟩
 ·refine(f.hok a o e).stay (fun b u hb q=>?_) (fun _ q=>q) fun _ _ q=>q
  have t:∃o',H' b=some o':=by
   rcases hb with z|z
   ·exact⟨o,by rw [z];exact e⟩
   ·exact⟨_,z⟩
  obtain⟨o',e'⟩:=t
  obtain⟨v,hv⟩:=c1 b o' e'
  exact same b v u hv q▸st b v hv (trkC b o' e')
 ·obtain⟨u,hu⟩:=c1 b o e
  exact⟨u,W.hideAll_get _ hu (by simpa using trkC b o e)⟩
 ·obtain⟨o',e1⟩:=I.base.there b o e (nx b)
  obtain⟨u,hu⟩:=c2 b o' e1 (I.notSt (I.oldL e) hb)
  exact⟨u,W.hideAll_get _ hu (by simpa using oldC b o e)⟩
theorem Inv.unblock0{own caps:List Str}{sc:Scope}{cl:List (Str × Addr)}{fp:List Addr}{H':Hp}{s4:Shared}{σ':St}{pins':List (Addr × Obj)}{hp:Heap}{ol:Obj}(I:Inv X kb σ H s)
  (f2:∀b∈fp,qK X kb H b) (ehp:hp=s.heap.push ol)
  (J:Inv (blk X (own++caps) sc cl { s with heap:=hp } H hp.objs.size (s.heap.objs.size::fp)) pins' σ' H' s4):Inv X kb σ H' s4:=by
 have up:∀b o,s.heap.get? b=some o->hp.get? b=some o:=fun b o e=>by rw [ehp];exact Heap.get?_push_of_some _ e
 have neD:∀b o,s.heap.get? b=some o->b≠s.heap.objs.size:=fun b o e=>Nat.ne_of_lt (Heap.lt_size e)
 have nex:∀b o,s.heap.get? b=some o->b∉fp->b∉s.heap.objs.size::fp:=fun b o e hb z=>(List.mem_cons.mp z).elim (neD b o e) hb
 have u:=J.base
 refine I.call' (ch:=fp) J.os ⟨fun b o e n hb hx=>u.keep b o (up _ _ e) n hb (nex b o e hx),fun b o e n hb hx=>u.slot b o (up _ _ e) n hb (nex b o e hx),fun b o e n hx=>u.free b o (up _ _ e) n (nex b o e hx),fun b o e hx=>u.there b o (up _ _ e) (nex b o e hx),u.tups,u.frzs,u.tbls⟩ J.hok J.bare fun b hb=>?_
 obtain⟨_,f1,_,f3,f4,f5⟩:=f2 b hb
 exact⟨f3,f1,f4,f5⟩
end
section
variable{X:Cx}
theorem vT{tg elt iter:Expr}{ifs:List Expr}{own caps:List Str}{κ:List Nat}{sc:Scope}{cl:List (Str × Addr)}{pos:Pos}{wi:TI}{g:TG}{tc:TT}{te:TE}{E:XK}(hst:X.stack=X.env::X.q0)(hfr:X.env.frame=some X.env.locals)(hex:X.ex=[])(hpn:X.pn=[])
  (hxe:∀(x:Addr) (cls:Value) (d:Option Addr) (H':Hp) (s:Shared),E cls d H'->wpAny (model X.prog X.w) X.A (leaving X.env (.ref x)) (fun _ s''=>Fly X.prog X.w X.q0 X.H₀ X.s₀ x cls H' s''/\cq x d s'') (fun _ _=>False) s->X.xe (.ref x) s) (hcalm:X.calm=true) (S:jw X caps sc cl) (hκ:κ.map (fun k=>X.N[k]?)=caps.map some)
  (hi:PI X tg iter wi) (hg:∀s₀ H₀ C ex xe,PG ((blk X (own++caps) sc cl s₀ H₀ C ex).wish xe) tg g)
  (hc:∀s₀ H₀ C ex xe (kb:List (Addr × Obj)) (s:Shared) (σ:St) (H:Hp) (Q:Bool->Hp->Prop),Inv ((blk X (own++caps) sc cl s₀ H₀ C ex).wish xe) kb σ H s->tc σ H Q ->
   wpAny (model X.prog X.w) X.A (forIn ifs true fun c r=>if r=true then do let ok <-isTrue c (compEnvC sc cl C X.env) (eval c (compEnvC sc cl C X.env));pure (ForInStep.yield ok) else pure (ForInStep.yield r)) (TP ((blk X (own++caps) sc cl s₀ H₀ C ex).wish xe) kb σ Q) (fun _ _=>False) s)
  (he:∀s₀ H₀ C ex xe,jI (CX1 X.prog X.w) ((blk X (own++caps) sc cl s₀ H₀ C ex).wish xe) E->PE ((blk X (own++caps) sc cl s₀ H₀ C ex).wish xe) elt te)
  (hs:∀x,foldedSetIterable iter X.env x=pure x:=by intro _;rfl):PE X (.ListComp elt [⟨tg,iter,ifs,0⟩] sc pos) (sR own.length κ wi g tc te):=by
 intro kb s σ H Q I h
 rw [eval_ListComp]
 refine wpAny_comprehension_free (use:=none) rfl hs S.clos S.kind S.names (thn (hi kb s σ H _ I h) fun v s1 h1=>thn h1 fun itv s2 h2=>?_)
 obtain⟨it,fp,tn,J,H2,e,I2,T,st2,f2,W,⟨m0,w0⟩,turn⟩:=h2
 subst e
 have hfp:∀b∈fp,b < s2.heap.objs.size:=fun b hb=>by
  obtain⟨o,e,_⟩:=T.obj _ _ st2 b hb
  exact Heap.lt_size e
 refine wpAny_newObj_type (wpAny_newFunctionEnv S.nocell (fun y hy=>nomatch hy) (fun h₁ hns hsb=>?_) S.kind)
 generalize ehp:s2.heap.push { cls:=.type "list",dict:=none,data:=.seq ([]:List Value).toArray }=hp at hns hsb ⊢
 have hsz:hp.objs.size=s2.heap.objs.size+1:=by rw [<-ehp,Heap.size_push]
 have hDC:s2.heap.objs.size≠hp.objs.size:=by rw [hsz];exact Nat.ne_of_lt (Nat.lt_succ_self _)
 have old:∀b o,hp.get? b=some o->h₁.get? b=some o:=fun b o e=>(hsb.2 b (Nat.ne_of_lt (Heap.lt_size e))).trans (Heap.get?_push_of_some _ e)
 have eD:h₁.get? s2.heap.objs.size=some { cls:=.type "list",data:=.seq ([]:List Value).toArray }:=old _ _ (by rw [<-ehp];exact Heap.get?_push_size _ rfl)
 obtain⟨xe0,hx0⟩:∃xe0,xe0=notedBy (model X.prog X.w) X.A (compEnvC sc cl hp.objs.size X.env) (fun x s'=>compPost (model X.prog X.w) X.A X.xe none (EP X kb σ Q) (.ref s2.heap.objs.size) hp.objs.size (.error x) s'):=⟨_,rfl⟩
 have I0:=(Inv.block (own:=own) (h₁:=h₁) (tk:=s2.toks+([]:List (Str × Value)).length) S hκ I2 f2 hfp ehp.symm hns old).wish xe0
 have stkD:s2.heap.objs.size∉frs X.stack:=fun z=>(List.mem_cons.mp (I2.stkSub _ z)).elim (Nat.ne_of_gt I2.lt) (I2.nofs (Nat.le_refl _))
 have cellD:∀x c,cl.lookup x=some c->c≠s2.heap.objs.size:=fun x c q=>by
  obtain⟨v,z⟩:=I2.cell x c (S.subc q)
  exact Nat.ne_of_lt z.lt
 have pinD:∀p∈X.pn++kb,p.1≠s2.heap.objs.size:=fun p hp=>Nat.ne_of_lt (Heap.lt_size (I2.pin p hp).1)
 have stkF:∀b∈fp,b∉frs X.stack:=fun b hb z=>(List.mem_cons.mp (I2.stkSub _ z)).elim (f2 b hb).2.1 (f2 b hb).2.2.1
 have hps:jI (CX1 X.prog X.w) ((blk X (own++caps) sc cl { s2 with heap:=hp } H2 hp.objs.size (s2.heap.objs.size::fp)).wish xe0) E:=by
  intro pins' σ' H1 s1 e s' J z
  obtain⟨x,cls,d,H',rfl,fl,hdi,hE⟩:=z
  obtain⟨m,hm,_⟩:=J.loc
  have hsz0:X.s₀.heap.objs.size<=s2.heap.objs.size:=I2.sz
  rw [hx0]
  exact Fly.comp (C:=hp.objs.size) (cenv0:=compEnvC sc cl hp.objs.size X.env) (Inv.unblock0 I2 f2 ehp.symm J.unwish) hst hfr hex fl hdi (by
   cases q:X.s₀.heap.get? hp.objs.size with
   |none=>rfl
   |some o=>exact absurd (Nat.lt_of_lt_of_le (Heap.lt_size q) hsz0) (by rw [hsz];exact Nat.not_lt.mpr (Nat.le_succ _))) hm J.free (fun z=>by
    have:=(List.mem_cons.mp (I2.stkSub _ z)).elim (fun e=>Nat.ne_of_gt (Nat.lt_trans I2.lt (by rw [hsz];exact Nat.lt_succ_self _)) e) (I2.nofs (by rw [hsz];exact Nat.le_succ _))
    exact this) rfl (fun s h=>hxe x cls d H' s hE h)
 have loop:codeAny (model X.prog X.w) X.A (.compLoop (.ListComp elt [⟨tg,iter,ifs,0⟩] sc pos) 0 (.ref it) (.ref s2.heap.objs.size) (compEnvC sc cl hp.objs.size X.env))
   (compPost (model X.prog X.w) X.A X.xe none (EP X kb σ Q) (.ref s2.heap.objs.size) hp.objs.size) { s2 with heap:=h₁,toks:=s2.toks+([]:List (Str × Value)).length }:=by
  refine codeAny_loop rfl (fun n s'=>∃(i:Nat) (ys:List V) (its:List Value) (cap:Nat) (H':Hp),Inv ((blk X (own++caps) sc cl { s2 with heap:=hp } H2 hp.objs.size (s2.heap.objs.size::fp)).wish xe0) kb (da own.length κ σ) H' s'/\tn i s'.heap/\(∀b∈fp,H' b=none) /\
   s'.heap.get? s2.heap.objs.size=some { cls:=.type "list",data:=.seq its.toArray cap }/\H' s2.heap.objs.size=none/\cy ys its/\ys.length<=sizeLine/\W i n ys H') (fun n s3 hI=>?_) m0
   ⟨0,[],[],0,H2,I0,T.keep _ _ _ st2 fun b hb o e=>old _ _ (by rw [<-ehp];exact Heap.get?_push_of_some _ e),fun b hb=>(f2 b hb).1,eD,I2.hok.fresh (Nat.le_refl _),.nil,Nat.zero_le _,w0⟩
  obtain⟨i,ys,its,cap,H3,I3,st3,fr3,eD3,nD3,rv,hz,w3⟩:=hI
  show wpAny _ X.A ((compTurn (.ListComp elt [⟨tg,iter,ifs,0⟩] sc pos) 0 (.ref it) (.ref s2.heap.objs.size) (compEnvC sc cl hp.objs.size X.env)).onRaise fun x=>do noteFrame x (compEnvC sc cl hp.objs.size X.env);theTreesLotGoes x) _ _ s3
  refine wpAny_noted ?_
  rw [compTurn_list]
  have I3':Inv ((blk X (own++caps) sc cl { s2 with heap:=hp } H2 hp.objs.size (s2.heap.objs.size::fp)).wish xe0) (kb++[(s2.heap.objs.size,{ cls:=.type "list",data:=.seq its.toArray cap })]) (da own.length κ σ) H3 s3:=by
   refine I3.pins_of fun p hp=>(List.mem_append.mp hp).elim (fun z=>I3.pin p (List.mem_append_right _ z)) fun z=>?_
   obtain rfl:=List.mem_singleton.mp z
   exact⟨eD3,nD3,hDC,stkD,fun v q=>by cases q⟩
  have fpk:∀{H':Hp},(∀b∈fp,H' b=none)->∀b∈fp,qK ((blk X (own++caps) sc cl { s2 with heap:=hp } H2 hp.objs.size (s2.heap.objs.size::fp)).wish xe0) (kb++[(s2.heap.objs.size,{ cls:=.type "list",data:=.seq its.toArray cap })]) H' b:=fun {H'} hn b hb =>
   ⟨hn b hb,by show b≠hp.objs.size;rw [hsz];exact Nat.ne_of_lt (Nat.lt_succ_of_lt (hfp b hb)),stkF b hb,.inl (List.mem_cons_of_mem _ hb),fun x c q=>(f2 b hb).2.2.2.2.1 x c (S.subc q),fun p hp=>by
    rw [<-List.append_assoc] at hp
    rcases List.mem_append.mp hp with z|z
    ·exact(f2 b hb).2.2.2.2.2 p z
    ·obtain rfl:=List.mem_singleton.mp z
     exact Nat.ne_of_gt (hfp b hb)⟩
  rcases turn i n ys H3 w3 with ⟨stop,fin⟩|⟨go,hlt,step⟩
  ·refine wpAny_bind (wpAny_standAt (wpAny_bind (thn (T.done ((blk X (own++caps) sc cl { s2 with heap:=hp } H2 hp.objs.size (s2.heap.objs.size::fp)).wish xe0) rfl rfl rfl hcalm i _ s3 _ H3 _ I3' (fpk fr3) st3 stop) fun r s4 ⟨hr,I4⟩=>?_)))
   subst hr
   refine wpAny_pure ?_
   obtain⟨m,hm,_⟩:=I4.loc
   refine⟨m,hm,fun h' sb=>?_⟩
   have eD4:=(I4.pin (s2.heap.objs.size,{ cls:=.type "list",data:=.seq its.toArray cap }) (List.mem_append_right _ (List.mem_append_right _ (List.mem_singleton.mpr rfl)))).1
   exact⟨.ref s2.heap.objs.size,_,Inv.unblock I2 f2 ehp.symm I4.unwish eD4 nD3 rv hz sb,rfl,fin _ nD3⟩
  ·refine wpAny_bind (wpAny_standAt (wpAny_bind (thn (T.item ((blk X (own++caps) sc cl { s2 with heap:=hp } H2 hp.objs.size (s2.heap.objs.size::fp)).wish xe0) rfl rfl rfl hcalm i _ s3 _ H3 _ I3' (fpk fr3) st3 go) fun r s4 ⟨u,hr,h4⟩=>?_)))
   subst hr
   refine wpAny_bind (thn h4 fun _ s5 ⟨x,H5,I5,r5,y5,st5,fr5⟩=>?_)
   have I5':=I5.pinned (fpk fr5) (T.obj _ _ st5)
   refine wpAny_bind (wpAny_mono (hg _ _ _ _ _ _ s5 _ H5 x u _ I5' r5 (step x H5 y5)) (fun _ s6 ⟨σ6,H6,I6,eσ,q6⟩=>?_) fun _ _ z=>hx0▸z)
   refine wpAny_bind (wpAny_mono (hc _ _ _ _ _ _ s6 σ6 H6 _ I6 q6) (fun ok s7 ⟨H7,I7,q7⟩=>?_) fun _ _ z=>z.elim)
   have back:∀{s8:Shared} {H8:Hp},Inv ((blk X (own++caps) sc cl { s2 with heap:=hp } H2 hp.objs.size (s2.heap.objs.size::fp)).wish xe0) ((kb++[(s2.heap.objs.size,{ cls:=.type "list",data:=.seq its.toArray cap })])++kw fp s5.heap) σ6 H8 s8 ->
     Inv ((blk X (own++caps) sc cl { s2 with heap:=hp } H2 hp.objs.size (s2.heap.objs.size::fp)).wish xe0) kb (da own.length κ σ) H8 s8/\tn (i+1) s8.heap/\(∀b∈fp,H8 b=none)/\s8.heap.get? s2.heap.objs.size=some { cls:=.type "list",data:=.seq its.toArray cap }/\H8 s2.heap.objs.size=none:=by
    intro s8 H8 I8
    have pk:∀b∈fp,∀o,s5.heap.get? b=some o->s8.heap.get? b=some o/\H8 b=none:=fun b hb o e=>by
     have z:=I8.pin (b,o) (List.mem_append_right _ (List.mem_append_right _ (gs hb e)))
     exact⟨z.1,z.2.1⟩
    have zD:=I8.pin (s2.heap.objs.size,{ cls:=.type "list",data:=.seq its.toArray cap }) (List.mem_append_right _ (List.mem_append_left _ (List.mem_append_right _ (List.mem_singleton.mpr rfl))))
    refine⟨(I8.pins_of fun p hp=>I8.pin p (List.mem_append_right _ (List.mem_append_left _ (List.mem_append_left _ hp)))).weak ?_ fun j v e=>?_,T.keep _ _ _ st5 fun b hb o e=>(pk b hb o e).1,fun b hb=>?_,zD.1,zD.2.1⟩
    ·exact I3.len.trans I8.len.symm
    ·have hge:own.length<=j:=by
      refine Nat.le_of_not_lt fun q=>?_
      unfold da at e
      rw [List.getElem?_append_left (by rw [List.length_replicate];exact q),List.getElem?_replicate,if_pos q] at e
      cases e
     have z:=congrArg (fun l=>l[j - own.length]?) eσ
     simp only [List.getElem?_drop] at z
     rw [show own.length+(j - own.length)=j by omega] at z
     rw [z]
     exact e
    ·obtain⟨o,e,_⟩:=T.obj _ _ st5 b hb
     exact(pk b hb o e).2
   cases ok with
   |false =>
    obtain⟨m',hm,w7⟩:=(if_neg Bool.false_ne_true)▸q7
    obtain⟨I8,st8,fr8,e8,n8⟩:=back I7
    exact wpAny_pure ⟨rfl,m',hm,i+1,ys,its,cap,H7,I8,st8,fr8,e8,n8,rv,hz,w7⟩
   |true =>
    have q7':=(if_pos rfl)▸q7
    refine wpAny_bind (wpAny_bind (wpAny_mono (he _ _ _ _ _ hps _ s7 σ6 H7 _ I7 q7') (fun y s8 ⟨v8,H8,I8,r8,m',hm,w8⟩=>?_) fun _ _ z=>hx0▸z))
    obtain⟨I9,st9,fr9,e9,n9⟩:=back I8
    have hl:=rv.length
    refine wpAny_bind (wpAny_list_append_plain (items:=its.toArray) ⟨cap,e9⟩ (fun h' hl' sb=>?_) (by rw [List.size_toArray,<-hl];exact hz))
    obtain⟨cap',e'⟩:=hl'
    refine wpAny_pure (wpAny_pure ⟨rfl,m',hm,i+1,ys++[v8],its++[y],cap',H8,?_,?_,fr9,?_,n9,cy.append rv (.cons r8 .nil),?_,w8⟩)
    ·exact I9.turned (t':=s8.toks) (fun b o hb e=>(sb.2 b hb).trans e) n9 hDC (.inl List.mem_cons_self) cellD pinD
    ·exact T.keep _ _ _ st9 fun b hb o e=>(sb.2 b (Nat.ne_of_lt (hfp b hb))).trans e
    ·rw [e']
     congr 3
     simp
    ·rw [List.length_append]
     exact hlt
 exact codeAny_compStart_list loop (T.self _ 0 _ _ _ (T.keep _ _ _ st2 fun b hb o e=>old _ _ (by rw [<-ehp];exact Heap.get?_push_of_some _ e)) loop)
end
section
variable{P:Program}{w:World}{K:W.Frag}{mg:Str->Option Value}{base:Heap}{N:List Str}{qual:Str}{scope:Scope}{f:Addr}{cd:Value}{A:Around}{q0:List Env}{s:Shared}{H:Hp}{E:XK}
theorem fG{tg elt iter:Expr}{own caps:List Str}{κ:List Nat}{sc:Scope}{cl:List (Str × Addr)}{pos:Pos}{wi:TI}{g:TG}{te:TE}(S:jw (dP (CX1 P w) P w K mg base N qual scope f cd A q0 s H E) caps sc cl)(hκ:κ.map (fun k=>N[k]?)=caps.map some)
  (hi:PI (dP (CX1 P w) P w K mg base N qual scope f cd A q0 s H E) tg iter wi) (hg:∀s₀ H₀ C ex xe,PG ((blk (dP (CX1 P w) P w K mg base N qual scope f cd A q0 s H E) (own++caps) sc cl s₀ H₀ C ex).wish xe) tg g)
  (he:∀s₀ H₀ C ex xe,jI (CX1 P w) ((blk (dP (CX1 P w) P w K mg base N qual scope f cd A q0 s H E) (own++caps) sc cl s₀ H₀ C ex).wish xe) E->PE ((blk (dP (CX1 P w) P w K mg base N qual scope f cd A q0 s H E) (own++caps) sc cl s₀ H₀ C ex).wish xe) elt te)
  (hs:∀x,foldedSetIterable iter (envOfC qual scope s.heap.objs.size f cd) x=pure x:=by intro _;rfl):PE (dP (CX1 P w) P w K mg base N qual scope f cd A q0 s H E) (.ListComp elt [⟨tg,iter,[],0⟩] sc pos) (sR own.length κ wi g j0 te) :=
 vT (X:=dP (CX1 P w) P w K mg base N qual scope f cd A q0 s H E) (E:=E) rfl rfl rfl rfl (fun x cls d H' s hE h=>wpAny_mono h (fun _ s'' z=>⟨x,cls,d,H',rfl,z.1,z.2,hE⟩) (fun _ _ z=>z.elim)) rfl S hκ hi hg (fun s₀ H₀ C ex xe kb s σ H Q I h=>wpAny_tests_nil ⟨H,I,h⟩) he hs
end
section
variable{X:Cx}
end
section
variable{X:Cx}{kb:List (Addr × Obj)}{σ:St}
end
end L2
namespace HT
open PySem PySem.Spec PyProof.Rows
section
variable{prog:Program}{w:World}{A:Around}{E:Value->Shared->Prop}{s:Shared}
theorem getItem_tuple_all{t sl:Addr}{items:Array Value}{vl vu:Value}{lo hi:Option Int}{Q:Value->Shared->Prop}(ht:IsTup s.heap t items)(hs:s.heap.IsSliceOf sl vl vu .none)(pl:IsPart vl lo)(pu:IsPart vu hi)
  (hw:sIx items.size 0 lo=0/\sIx items.size items.size hi=items.size) (h:Q (.ref t) s):wpAny (model prog w) A (getItem (.ref t) (.ref sl)) Q E s:=by
 obtain⟨os,hos,hcs,hds⟩:=id hs
 have hTs:s.TypeIs (.ref sl) "slice":=⟨os,hos,hcs⟩
 unfold getItem
 try with_reducible refine wpAny_holding ?_
 first|refine wpAny_bind (wpAny_pure ?_)|skip
 refine wpAny_bind (wpAny_sequenceKey ht.typeIs (by decide) ?_)
 refine wpAny_bind (wpAny_callSpecial?_slot (name:=Str.ofString "__getitem__") ht.typeIs PyProof.Rows.slot_tuple_getitem
  (wpAny_call_entry PyProof.Rows.slot_tuple_getitem ht.typeIs entry_tuple_getitem ?_ (args_tuple_getitem _ _)))
 show wpAny _ _ (Builtin.Tuple.tupleItemsOf (.ref t) >>= _) _ _ s
 refine wpAny_bind (tupleItemsOf_ ht ?_)
 refine wpAny_bind (wpAny_typeOf hTs ?_)
 rw [if_pos (by decide)]
 refine wpAny_bind (fM hs pl pu ?_)
 have hyes:(((sIx items.size 0 lo:Nat):Int)==0&&(1:Int)==1&&(sIx items.size items.size hi - sIx items.size 0 lo)==items.size)=true:=by
  rw [hw.1,hw.2]
  simp
 show wpAny _ _ (if (((sIx items.size 0 lo:Nat):Int)==0&&(1:Int)==1&&(sIx items.size items.size hi - sIx items.size 0 lo)==items.size)=true then _ else _) _ _ s
 rw [if_pos hyes]
 refine wpAny_bind ?_
 unfold Builtin.Tuple.tupleIsExact
 refine wpAny_bind (wpAny_typeOf ht.typeIs (wpAny_pure ?_))
 rw [if_pos (by decide)]
 refine wpAny_bind (wpAny_rule ?_)
 exact wpAny_pure ⟨_,rfl,wpAny_pure h⟩
end
end HT
namespace L2
open PySem PySem.Spec PyProof.Rows
section
variable{X:Cx}
def C7(K:W.Frag):V->Option Int->Option Int->Hp->VK->Prop:=fun x lo hi H Q=>∃a xs,x=.ref a/\SqT K H a xs /\
 ((HT.sIx xs.length 0 lo=0/\HT.sIx xs.length xs.length hi=xs.length)->Q (.ref a) H)/\(¬(HT.sIx xs.length 0 lo=0/\HT.sIx xs.length xs.length hi=xs.length)->∀p,H p=none->Q (.ref p) (upd H p (.tup (dc xs lo hi))))
theorem AA:SlR X (C7 X.K):=by
 intro kb s σ H x v vl vu lo hi sl Q I rx hs pl pu h
 obtain⟨a,xs,rfl,hx,q1,q2⟩:=h
 by_cases hw:HT.sIx xs.length 0 lo=0/\HT.sIx xs.length xs.length hi=xs.length
 ·cases rx
  obtain⟨its,r,ht,hz⟩:=I.tuple hx
  have hlen:its.toArray.size=xs.length:=by rw [List.size_toArray];exact r.length.symm
  refine⟨"tuple",_,PyProof.Rows.slot_tuple_getitem.lookup,ht.typeIs,?_⟩
  exact HT.getItem_tuple_all ht hs pl pu (by rw [hlen];exact hw) ⟨.ref a,H,I,rfl,q1 hw⟩
 ·exact cx kb s σ H _ v vl vu lo hi sl Q I rx hs pl pu ⟨a,xs,rfl,hx,hw,q2 hw⟩
end
section
variable{X:Cx}{tg:Expr}
inductive CS(K:W.Frag):R2|mk{x y H Q}(p xs ds d:_)(_:y=.ref p)(_:SqT K H p xs)(_:jZ K H xs ds)(_:Dat K H x d)(_:PyData.canLayAll0 ds=true)(_:d.canLay0=true)(_:d.depth<=60)(_:Q (.bl (ds.any fun e=>PyData.eqv e d)) H):CS K x y H Q
theorem Au(hu:X.A.units+64 < cLine):OpR X (compareOp .In) (CS X.K):=by
 intro kb s σ H x y v u Q I rx ry h
 obtain⟨p,xs,ds,d,rfl,hq,hds,hd,hl,hl2,hdp,q⟩:=h
 cases ry
 obtain⟨its,rv,pl,_⟩:=I.tuple hq
 obtain⟨as,ra⟩:=jZ.reads I hds rv
 obtain⟨bs,rb⟩:=Dat.reads I hd rx
 have he:∀y,y∈its.toArray->SeqAt.EqAt X.A.in1 s y v (je s.heap d y):=fun y hy=>by
  obtain⟨e,he,cs,re⟩:=fS ra y (by simpa using hy)
  have hle:=ig hl he
  rw [lG hle re]
  refine SeqAt.eqAt_reads e d X.A.in1 s y v cs bs re rb hle hl2 ?_
  have h1:min e.depth d.depth<=d.depth:=Nat.min_le_right _ _
  have h2:X.A.in1.units<=X.A.units+1:=by first|exact Nat.le_refl _|(show X.A.units+1<=X.A.units+1;exact Nat.le_refl _)|(show X.A.units<=X.A.units+1;exact Nat.le_succ _)
  omega
 refine SeqAt.in_tupleAt (je s.heap d) pl he ⟨.bl _,H,I,rfl,?_⟩
 rw [show its.toArray.any (je s.heap d)=its.any (je s.heap d) by simp,jK ra hl]
 exact q
def D2(K:W.Frag)(tl:TE):TI:=fun σ H R=>tl σ H fun x H1=>∃a,x=.ref a/\(((∃xs,SqL K H1 a xs)/\R (Itl K a) H1)\/((∃xs,SqT K H1 a xs)/\R (Itt K a) H1))
theorem Bw{l:Expr}{tl:TE}(hl:PE X l tl):PI X tg l (D2 X.K tl):=by
 intro kb s σ H R I h
 refine thn (hl kb s σ H _ I h) fun v s1 ⟨x,H1,I1,r1,q1⟩=>?_
 obtain⟨a,e,q⟩:=q1
 have hb:∀b∈[s1.heap.objs.size],qK X kb H1 b:=fun b hb=>by
  have e:b=s1.heap.objs.size:=by simpa using hb
  subst e
  exact I1.fpOk (Nat.le_refl _) (I1.hok.fresh (Nat.le_refl _))
 subst e
 cases r1
 rcases q with ⟨⟨xs,hq⟩,q⟩|⟨⟨xs,hq⟩,q⟩
 ·obtain⟨its,rv,p,hz⟩:=I1.list hq
  refine wpAny_pyIter_list p.isList ?_
  exact⟨s1.heap.objs.size,[s1.heap.objs.size],_,_,H1,rfl,I1.kept (t':=s1.toks) fun b o e=>Heap.get?_push_of_some _ e,nU a _,⟨_,Heap.get?_push_size _ rfl,rfl,rfl⟩,hb,q⟩
 ·obtain⟨its,rv,p,hz⟩:=I1.tuple hq
  refine wpAny_pyIter_tuple (show s1.heap.IsTuple a its.toArray from p) ?_
  exact⟨s1.heap.objs.size,[s1.heap.objs.size],_,_,H1,rfl,I1.kept (t':=s1.toks) fun b o e=>Heap.get?_push_of_some _ e,kt a _,⟨_,Heap.get?_push_size _ rfl,rfl,rfl⟩,hb,q⟩
end
end L2
namespace Tk
open PySem
def spl(c:Nat):List Nat->List (List Nat)
 |[]=>[[]]
 |a::r=>if a=c then []::spl c r else
  match spl c r with
  |[]=>[[a]]
  |p::ps=>(a::p)::ps
def glue(z:List Nat):List (List Nat)->List Nat
 |[]=>[]
 |[p]=>p
 |p::q::r=>p++z++glue z (q::r)
theorem spl_ne(c:Nat):∀xs,spl c xs≠[]
 |[]=>by simp [spl]
 |a::r=>by
  unfold spl
  split
  ·simp
  ·cases h:spl c r with
   |nil=>simp
   |cons p ps=>simp
theorem spl_free{c:Nat}:∀{w:List Nat},c∉w->spl c w=[w]
 |[],_=>rfl
 |a::r,h=>by
  have h1:a≠c:=fun e=>h (e▸List.mem_cons_self)
  have h2:=spl_free (w:=r) fun m=>h (List.mem_cons_of_mem _ m)
  unfold spl
  rw [if_neg h1,h2]
theorem spl_app(c:Nat)(b:List Nat):∀a:List Nat,spl c (a++c::b)=spl c a++spl c b
 |[]=>by
  show spl c (c::b)=[]::spl c b
  rw [spl,if_pos rfl]
 |x::a=>by
  have ih:=spl_app c b a
  show spl c (x::(a++c::b))=spl c (x::a)++spl c b
  rw [spl,spl,ih]
  split
  ·rfl
  ·cases h:spl c a with
   |nil=>exact absurd h (spl_ne c a)
   |cons p ps=>rfl
theorem qy{c:Nat}:∀{ps:List (List Nat)},ps≠[]->(∀p∈ps,c∉p)->spl c (glue [c] ps)=ps
 |[],h,_=>absurd rfl h
 |[p],_,h=>spl_free (h p List.mem_cons_self)
 |p::q::r,_,h=>by
  have ih:=qy (c:=c) (ps:=q::r) (by simp) fun x hx=>h x (List.mem_cons_of_mem _ hx)
  show spl c (p++[c]++glue [c] (q::r))=_
  rw [List.append_assoc]
  show spl c (p++c::glue [c] (q::r))=_
  rw [spl_app,ih,spl_free (h p List.mem_cons_self)]
  rfl
def rep(c:Nat)(z:List Nat)(a:Nat):List Nat:=if a=c then z else [a]
theorem glue_cons{z p:List Nat}:∀{ps:List (List Nat)},ps≠[]->glue z (p::ps)=p++z++glue z ps
 |[],h=>absurd rfl h
 |_::_,_=>rfl
theorem tW{z:List Nat}{a:Nat}{p:List Nat}:∀{ps:List (List Nat)},glue z ((a::p)::ps)=a::glue z (p::ps)
 |[]=>rfl
 |_::_=>rfl
theorem glue_spl(c:Nat)(z:List Nat):∀xs,glue z (spl c xs)=xs.flatMap (rep c z)
 |[]=>rfl
 |a::r=>by
  have ih:=glue_spl c z r
  rw [List.flatMap_cons,spl,rep]
  split
  ·rw [glue_cons (spl_ne c r),ih]
   rfl
  ·cases h:spl c r with
   |nil=>exact absurd h (spl_ne c r)
   |cons p ps =>
    rw [h] at ih
    show glue z ((a::p)::ps)=[a]++_
    rw [tW,ih]
    rfl
abbrev lst(x:Str):List Nat:=x.cps.toList
theorem lst_app(a b:Str):lst (a++b)=lst a++lst b:=by
 show(a.cps++b.cps).toList=_
 rw [Array.toList_append]
theorem lst_join(z:Str):∀ps:List Str,lst (Str.join z ps)=glue (lst z) (ps.map lst)
 |[]=>by
  show(Str.empty).cps.toList=[]
  rfl
 |[p]=>rfl
 |p::q::r=>by
  have ih:=lst_join z (q::r)
  show lst (p++z++Str.join z (q::r))=lst p++lst z++glue (lst z) ((q::r).map lst)
  rw [lst_app,lst_app,ih]
theorem lst_inj{a b:Str}(h:lst a=lst b):a=b:=by
 obtain⟨⟨x⟩⟩:=a
 obtain⟨⟨y⟩⟩:=b
 have e:x=y:=h
 rw [e]
theorem split_lst(x:Str)(c:Nat):(Txt.split x ⟨#[c]⟩).map lst=spl c (lst x):=by
 have h1:=StrLaws.join_split x ⟨#[c]⟩
 have h2:=StrLaws.split_free x c
 have h3:Txt.split x ⟨#[c]⟩≠[]:=fun e=>by
  have h5:=PyProof.Rows.split_pos x ⟨#[c]⟩
  rw [e] at h5
  exact absurd h5 (by decide)
 have h4:=congrArg lst h1
 rw [lst_join] at h4
 rw [<-h4]
 refine(qy (by simpa using h3) fun p hp=>?_).symm
 obtain⟨q,hq,rfl⟩:=List.mem_map.mp hp
 exact h2 q hq
theorem replace_lst(x z:Str)(c:Nat):lst (Txt.replace x ⟨#[c]⟩ z)=(lst x).flatMap (rep c (lst z)):=by
 rw [StrLaws.replace_one,lst_join,split_lst,glue_spl]
def gap(a:Nat):List Nat:=if a=40 then [32,40,32] else if a=41 then [32,41,32] else if a=10 then [32] else [a]
theorem gap_eq(xs:List Nat):((xs.flatMap (rep 40 [32,40,32])).flatMap (rep 41 [32,41,32])).flatMap (rep 10 [32])=xs.flatMap gap:=by
 rw [List.flatMap_assoc,List.flatMap_assoc]
 congr 1
 funext a
 unfold gap rep
 by_cases h1:a=40
 ·subst h1;rfl
 ·by_cases h2:a=41
  ·subst h2;rfl
  ·by_cases h3:a=10
   ·subst h3;rfl
   ·simp [h1,h2,h3]
def toks(xs:List Nat):List (List Nat):=(spl 32 (xs.flatMap gap)).filter fun p=>decide (p≠[])
theorem toks_sp(a b:List Nat):toks (a++32::b)=toks a++toks b:=by
 unfold toks
 rw [List.flatMap_append,List.flatMap_cons]
 show List.filter _ (spl 32 (a.flatMap gap++32::b.flatMap gap))=_
 rw [spl_app,List.filter_append]
theorem toks_nl(a b:List Nat):toks (a++10::b)=toks a++toks b:=by
 unfold toks
 rw [List.flatMap_append,List.flatMap_cons]
 show List.filter _ (spl 32 (a.flatMap gap++32::b.flatMap gap))=_
 rw [spl_app,List.filter_append]
theorem toks_op(a b:List Nat):toks (a++40::b)=toks a++[40]::toks b:=by
 unfold toks
 rw [List.flatMap_append,List.flatMap_cons]
 show List.filter _ (spl 32 (a.flatMap gap++32::([40]++32::b.flatMap gap)))=_
 rw [spl_app,spl_app,List.filter_append,List.filter_append,spl_free (w:=[40]) (by decide)]
 rfl
theorem toks_cl(a b:List Nat):toks (a++41::b)=toks a++[41]::toks b:=by
 unfold toks
 rw [List.flatMap_append,List.flatMap_cons]
 show List.filter _ (spl 32 (a.flatMap gap++32::([41]++32::b.flatMap gap)))=_
 rw [spl_app,spl_app,List.filter_append,List.filter_append,spl_free (w:=[41]) (by decide)]
 rfl
def Word(w:List Nat):Prop:=w≠[]/\∀c∈w,c≠40/\c≠41/\c≠10/\c≠32
theorem qm:∀{w:List Nat},(∀c∈w,c≠40/\c≠41/\c≠10/\c≠32)->w.flatMap gap=w
 |[],_=>rfl
 |a::r,h=>by
  obtain⟨h1,h2,h3,_⟩:=h a List.mem_cons_self
  rw [List.flatMap_cons,qm fun c hc=>h c (List.mem_cons_of_mem _ hc)]
  unfold gap
  rw [if_neg h1,if_neg h2,if_neg h3]
  rfl
theorem toks_word{w:List Nat}(h:Word w):toks w=[w]:=by
 unfold toks
 rw [qm h.2,spl_free fun m=>(h.2 _ m).2.2.2 rfl]
 simp [h.1]
end Tk
namespace L2
open PySem PyProof.Rows
theorem sz(n:Nat)(h:n<=1000:=by decide):n<=sizeLine:=Nat.le_of_lt (oM h)
theorem lc0{α:Type}{a:α}{l:List α}:(a::l).length=l.length+1:=List.length_cons
theorem lm0{α β:Type}{l:List α}{f:α->β}:(l.map f).length=l.length:=List.length_map f
theorem ma0{α β:Type}{f:α->β}{l m:List α}:(l++m).map f=l.map f++m.map f:=List.map_append
theorem nr0{n:Nat}:n<=n:=Nat.le_refl n
theorem mc0{α:Type}{a b:α}{l:List α}(h:a∈b::l):a=b\/a∈l:=List.mem_cons.mp h
theorem la0{α:Type}{l m:List α}:(l++m).length=l.length+m.length:=List.length_append
theorem od0{p:Prop}[Decidable p](h:decide p=true):p:=of_decide_eq_true h
theorem dt0{p:Prop}[Decidable p](h:p):decide p=true:=decide_eq_true h
theorem df0{p:Prop}[Decidable p](h:¬p):decide p=false:=decide_eq_false h
theorem sr0{H:Hp}:aM H H:=aM.refl H
section
variable{X:Cx}{x:Str}{pos pos':Pos}{e:Expr}{te:TE}
theorem aS{i:Nat}(hN:X.N.Nodup)(he:PE X e te)(hi:X.N[i]?=some x:=by exact rfl)(hx:Loc X.env.scope x:=by exact Or.inl rfl)(hs:swapsWith e (some (.Name x pos')) pos.line X.env=pure false:=by rfl)(hf:X.fn x=true\/X.env.scope.names.lookup x=some .local:=by first|exact .inl rfl|exact .inr rfl|assumption):PS X (.Assign [.Name x pos'] e pos) (Cn te (nS i)):=oa hN hi hx he hs hf
theorem pg0(own:List Str)(hN:own.Nodup:=by decide +kernel)(e:X.N=own:=by exact rfl)(hi:X.N[0]?=some x:=by exact rfl)(hx:Loc X.env.scope x:=by exact Or.inl rfl)(hf:X.fn x=true\/X.env.scope.names.lookup x=some .local:=by first|exact .inl rfl|exact .inr rfl|assumption):PG X (.Name x pos) (nS 0):=cU (e▸hN) hi hx hf
theorem bi{tg elt iter:Expr}{own:List Str}{sc:Scope}{wi:TI}{g:TG}(hi:PI X tg iter wi)(hg:∀s₀ H₀ C ex,PG (blk X (own++[]) sc [] s₀ H₀ C ex) tg g)(he:∀s₀ H₀ C ex,PE (blk X (own++[]) sc [] s₀ H₀ C ex) elt te)(hc:X.calm=true:=by exact rfl)(S:jw X [] sc []:=by exact⟨rfl,by decide +kernel,by decide +kernel,rfl,rfl,(fun y hy=>nomatch hy),(fun y hy=>nomatch hy)⟩)(hs:∀x,foldedSetIterable iter X.env x=pure x:=by intro _;rfl):PE X (.ListComp elt [⟨tg,iter,[],0⟩] sc pos) (sR own.length [] wi g j0 te):=jX (own:=own) (caps:=[]) (κ:=[]) (cl:=[]) hc S rfl hi hg he hs
end
theorem mkS{ns ps:List Str}{sc:Scope}(h:ax ns ps sc:=by exact⟨rfl,rfl,rfl,by decide +kernel,rfl,by decide +kernel,by decide +kernel⟩):ax ns ps sc:=h
section
variable{P:Program}{w:World}{K:W.Frag}{mg:Str->Option Value}{base:Heap}{x qual:Str}{st:Stmt}{f:Addr}{fd:FuncData}{N ps:List Str}{k:Nat}{sp:Sp}
theorem Fun.k0(F:Fun K x qual st f fd)(S:ax N ps (ah st))(hb:∀cdv A q0 s H vs Q E,bq k (A.deeper (envOfC qual (ah st) s.heap.objs.size f cdv))->sp vs H Q E->∃t,PSs (dP CX0 P w K mg base N qual (ah st) f cdv A q0 s H E).nox (ap st) t/\t { nx:=fun _ H'=>Q .non H',rt:=Q } (gH N vs) H)
  (len:∀vs H Q E,sp vs H Q E->vs.length=ps.length:=by intro _ _ _ _ h;first|(obtain⟨_,rfl,_⟩:=h;rfl)|(obtain⟨_,_,rfl,_⟩:=h;rfl)|(obtain⟨_,_,_,rfl,_⟩:=h;rfl)|(obtain⟨_,_,_,_,rfl,_⟩:=h;rfl)|(obtain⟨_,_,_,_,_,rfl,_⟩:=h;rfl)|(obtain⟨_,_,_,_,_,_,rfl,_⟩:=h;rfl)):aV P w K mg base CX0 (k+1) f fd ps sp:=F.ok S len hb
theorem Fun.k1(F:Fun K x qual st f fd)(S:ax N ps (ah st))(hb:∀cdv A q0 s H vs Q E,bq k (A.deeper (envOfC qual (ah st) s.heap.objs.size f cdv))->sp vs H Q E->∃t,PSs (dP (CX1 P w) P w K mg base N qual (ah st) f cdv A q0 s H E) (ap st) t/\t { nx:=fun _ H'=>Q .non H',rt:=Q } (gH N vs) H)
  (len:∀vs H Q E,sp vs H Q E->vs.length=ps.length:=by intro _ _ _ _ h;first|(obtain⟨_,rfl,_⟩:=h;rfl)|(obtain⟨_,_,rfl,_⟩:=h;rfl)|(obtain⟨_,_,_,rfl,_⟩:=h;rfl)|(obtain⟨_,_,_,_,rfl,_⟩:=h;rfl)|(obtain⟨_,_,_,_,_,rfl,_⟩:=h;rfl)|(obtain⟨_,_,_,_,_,_,rfl,_⟩:=h;rfl)):aV P w K mg base (CX1 P w) (k+1) f fd ps sp:=F.okX S len hb
end
end L2
namespace L2
theorem ix0{X:Cx}{a b:PySem.Expr}{ta tb:TE}{pos:PySem.Pos}{r:R2}(h:IxR X r)(ha:PE X a ta)(hb:PE X b tb)(hp:tU b:=by exact fun _ _=>rfl):PE X (.Subscript a b pos) (tOp r ta tb):=CP h ha hb hp
end L2
namespace L2
theorem nK0{p q:Prop}(c:p)(h:¬p:=by decide +kernel):q:=absurd c h
theorem nD0{p q:Prop}(c:p)(h:¬p:=by decide):q:=absurd c h
end L2
namespace K19
open PySem L2
def top(i:Nat):Stmt:=PySem.Challenge.pw_sealhouse_k19_no_declaration.main.body.getD i (.Pass ⟨0,0,0,0⟩)
abbrev ko:Stmt:=top 6
abbrev fz:Stmt:=top 7
abbrev iX:Stmt:=top 8
abbrev eY:Stmt:=top 9
abbrev iI:Stmt:=top 10
abbrev oy:Stmt:=top 22
abbrev AQ:Stmt:=top 23
abbrev dU:Stmt:=top 24
abbrev gj:Stmt:=top 25
abbrev ki:Stmt:=top 26
abbrev iB:Stmt:=top 27
abbrev fE:Stmt:=top 28
abbrev ix:Stmt:=top 29
abbrev gy:Stmt:=top 30
abbrev ik:Stmt:=top 31
abbrev sZ:Stmt:=top 32
abbrev kr:Stmt:=top 33
abbrev kd:Stmt:=top 34
abbrev iR:Stmt:=top 35
abbrev iM:Stmt:=top 36
abbrev iK:Stmt:=top 37
abbrev iA:Stmt:=top 38
abbrev gm:Stmt:=top 39
abbrev iL:Stmt:=top 40
abbrev fu:Stmt:=top 41
abbrev iY:Stmt:=top 42
abbrev ku:Stmt:=top 43
abbrev kc:Stmt:=top 44
abbrev sFI:Stmt:=top 45
abbrev AK:Stmt:=top 46
abbrev sPI:Stmt:=top 47
abbrev iZ:Stmt:=top 50
abbrev dS:Stmt:=top 52
abbrev fA:Stmt:=top 53
abbrev eZ:Stmt:=top 54
abbrev iH:Stmt:=top 55
abbrev kJ:Stmt:=top 56
abbrev fC:Stmt:=top 57
abbrev fh:Stmt:=top 58
abbrev gq:Stmt:=top 59
abbrev r6:Stmt:=top 60
abbrev kY:Stmt:=top 61
abbrev sI:Stmt:=top 62
abbrev ss:Stmt:=top 64
abbrev ka:Stmt:=top 65
abbrev kx:Stmt:=top 66
abbrev kj:Stmt:=top 67
abbrev ke:Stmt:=top 68
abbrev i3:Stmt:=top 69
abbrev i9:Stmt:=top 70
abbrev iu:Stmt:=top 71
abbrev gr:Stmt:=top 72
abbrev lm:Stmt:=top 73
abbrev dh:Stmt:=top 74
abbrev iz:Stmt:=top 75
abbrev io:Stmt:=top 76
abbrev km:Stmt:=top 77
abbrev oi:Stmt:=top 78
abbrev iN:Stmt:=top 79
abbrev iy:Stmt:=top 80
abbrev gA:Stmt:=top 81
abbrev rW:Stmt:=top 82
abbrev gp:Stmt:=top 83
abbrev iU:Stmt:=top 84
abbrev il:Stmt:=top 85
abbrev oq:Stmt:=top 86
abbrev nX:Stmt:=top 87
abbrev sG:Stmt:=top 88
abbrev gP:Stmt:=top 89
abbrev oK:Stmt:=top 90
abbrev fV:Stmt:=top 91
abbrev AR:Stmt:=top 92
abbrev rp:Stmt:=top 93
theorem de{n:Nat}(h:n<=1000):n<=sizeLine:=Nat.le_of_lt (oM h)
theorem mid{n:Nat}(h:n<=1000000):n < sizeLine:=Nat.lt_of_le_of_lt h (by rw [sizeLine_eq];decide)
theorem ae{H:Hp}{p:Addr}(h:H p=none)(o:HO):aM H (upd H p o):=fun b u q=>by rw [aK (aW q h)];exact q
theorem j7{H H2:Hp}{a:Addr}{o:HO}(e:aM H H2)(h:H a=none):aM H (upd H2 a o):=fun b u q=>by rw [aK (aW q h)];exact e b u q
theorem aM.free{H H':Hp}{a:Addr}(e:aM H H')(h:H' a=none):H a=none:=by
 cases q:H a with
 |none=>rfl
 |some o=>rw [e a o q] at h;cases h
abbrev cps(x:Str):List Nat:=Tk.lst x
theorem bG(a:Str):(cps a).length=a.length:=by simp [Str.length]
inductive Tr where
 |w (s:Str)
 |n (ts:List Tr)
mutual
def Tr.flat:Tr->List (List Nat)
 |.w s=>[cps s]
 |.n ts=>[40]::(aD ts++[[41]])
def aD:List Tr->List (List Nat)
 |[]=>[]
 |t::ts=>t.flat++aD ts
end
mutual
def Tr.text:Tr->List Nat
 |.w s=>cps s
 |.n ts=>40::(mz ts++[41])
def mz:List Tr->List Nat
 |[]=>[]
 |t::ts=>t.text++hU ts
def hU:List Tr->List Nat
 |[]=>[]
 |t::ts=>32::(t.text++hU ts)
end
mutual
def Tr.ok:Tr->Prop
 |.w s=>Tk.Word (cps s)
 |.n ts=>oks ts
def oks:List Tr->Prop
 |[]=>True
 |t::ts=>t.ok/\oks ts
end
mutual
def Tr.wt:Tr->Nat
 |.w _=>1
 |.n ts=>3+wts ts
def wts:List Tr->Nat
 |[]=>0
 |t::ts=>t.wt+1+wts ts
end
theorem ib:∀a b:List Tr,aD (a++b)=aD a++aD b
 |[],b=>rfl
 |t::a,b=>by
  show t.flat++aD (a++b)=(t.flat++aD a)++aD b
  rw [ib a b,List.append_assoc]
theorem fB(t:Tr):aD [t]=t.flat:=List.append_nil _
theorem jx:∀{a b:List Tr},oks a->oks b->oks (a++b)
 |[],_,_,h=>h
 |_::_,_,⟨h1,h2⟩,h=>⟨h1,jx h2 h⟩
mutual
theorem fW:∀{t:Tr},t.ok->Tk.toks t.text=t.flat
 |.w s,h=>Tk.toks_word h
 |.n ts,h=>by
  show Tk.toks ([]++40::(mz ts++41::[]))=[40]::(aD ts++[[41]])
  rw [Tk.toks_op,Tk.toks_cl,sq h]
  rfl
theorem sq:∀{ts:List Tr},oks ts->Tk.toks (mz ts)=aD ts
 |[],_=>rfl
 |t::ts,⟨h1,h2⟩=>by
  show Tk.toks (t.text++hU ts)=t.flat++aD ts
  rw [lq h2,fW h1]
theorem lq:∀{ts:List Tr},oks ts->∀{a:List Nat},Tk.toks (a++hU ts)=Tk.toks a++aD ts
 |[],_,a=>by
  show Tk.toks (a++[])=Tk.toks a++[]
  rw [List.append_nil,List.append_nil]
 |t::ts,⟨h1,h2⟩,a=>by
  show Tk.toks (a++32::(t.text++hU ts))=Tk.toks a++(t.flat++aD ts)
  rw [Tk.toks_sp,lq h2,fW h1]
end
def fO:List Tr->List Nat
 |[]=>[]
 |[t]=>t.text
 |t::u::r=>t.text++10::fO (u::r)
theorem lp:∀{ts:List Tr},oks ts->Tk.toks (fO ts)=aD ts
 |[],_=>rfl
 |[t],⟨h,_⟩=>by
  show Tk.toks t.text=t.flat++[]
  rw [List.append_nil,fW h]
 |t::u::r,⟨h1,h2⟩=>by
  show Tk.toks (t.text++10::fO (u::r))=t.flat++aD (u::r)
  rw [Tk.toks_nl,fW h1,lp h2]
mutual
theorem iW:∀t:Tr,t.text.length<=(t.flat.map List.length).sum+t.wt
 |.w s=>by
  show(cps s).length<=([cps s].map List.length).sum+1
  simp
 |.n ts=>by
  have h:=xD ts
  show(40::(mz ts++[41])).length<=(([40]::(aD ts++[[41]])).map List.length).sum+(3+wts ts)
  simp only [lc0,la0,List.map_cons,ma0,List.sum_cons,List.sum_append,List.map_nil,List.sum_nil,List.length_nil]
  omega
theorem xD:∀ts:List Tr,(mz ts).length<=((aD ts).map List.length).sum+wts ts
 |[]=>Nat.zero_le _
 |t::ts=>by
  have h1:=iW t
  have h2:=qX ts
  show(t.text++hU ts).length<=((t.flat++aD ts).map List.length).sum+(t.wt+1+wts ts)
  rw [la0,ma0,List.sum_append]
  omega
theorem qX:∀ts:List Tr,(hU ts).length<=((aD ts).map List.length).sum+wts ts
 |[]=>Nat.zero_le _
 |t::ts=>by
  have h1:=iW t
  have h2:=qX ts
  show(32::(t.text++hU ts)).length<=((t.flat++aD ts).map List.length).sum+(t.wt+1+wts ts)
  rw [lc0,la0,ma0,List.sum_append]
  omega
end
mutual
theorem qg:∀t:Tr,t.wt+1<=3*t.flat.length
 |.w s=>by show 2<=3*1;decide
 |.n ts=>by
  have h:=mh ts
  show 3+wts ts+1<=3*([40]::(aD ts++[[41]])).length
  rw [lc0,la0]
  show 3+wts ts+1<=3*((aD ts).length+1+1)
  omega
theorem mh:∀ts:List Tr,wts ts<=3*(aD ts).length
 |[]=>Nat.zero_le _
 |t::ts=>by
  have h1:=qg t
  have h2:=mh ts
  show t.wt+1+wts ts<=3*(t.flat++aD ts).length
  rw [la0]
  omega
end
mutual
inductive bz (K:W.Frag) (H:Hp):V->Tr->Prop
 |w (s:Str):bz K H (.str s) (.w s)
 |n {a:Addr} {xs:List V} {ts:List Tr}:H a=some (.tup xs)->aJ K H xs ts->bz K H (.ref a) (.n ts)
inductive aJ (K:W.Frag) (H:Hp):List V->List Tr->Prop
 |nil:aJ K H [] []
 |cons {x:V} {t:Tr} {xs:List V} {ts:List Tr}:bz K H x t->aJ K H xs ts->aJ K H (x::xs) (t::ts)
end
mutual
theorem bz.keep{K:W.Frag}{H H':Hp}(e:∀a xs,H a=some (.tup xs)->H' a=some (.tup xs)):∀{x:V} {t:Tr},bz K H x t->bz K H' x t
 |_,_,.w s=>.w s
 |_,_,.n h r=>.n (e _ _ h) (aJ.keep e r)
theorem aJ.keep{K:W.Frag}{H H':Hp}(e:∀a xs,H a=some (.tup xs)->H' a=some (.tup xs)):∀{xs:List V} {ts:List Tr},aJ K H xs ts->aJ K H' xs ts
 |_,_,.nil=>.nil
 |_,_,.cons h r=>.cons (bz.keep e h) (aJ.keep e r)
end
theorem aJ.append{K:W.Frag}{H:Hp}:∀{xs ys:List V} {ts us:List Tr},aJ K H xs ts->aJ K H ys us->aJ K H (xs++ys) (ts++us)
 |_,_,_,_,.nil,h=>h
 |_,_,_,_,.cons a r,h=>.cons a (r.append h)
theorem aJ.length{K:W.Frag}{H:Hp}:∀{xs:List V} {ts:List Tr},aJ K H xs ts->xs.length=ts.length
 |_,_,.nil=>rfl
 |_,_,.cons _ r=>congrArg (·+1) r.length
theorem aJ.snoc{K:W.Frag}{H:Hp}:∀{us:List V} {v:V} {ts:List Tr},aJ K H (us++[v]) ts->∃ls t,ts=ls++[t]/\aJ K H us ls/\bz K H v t
 |[],_,_,.cons h .nil=>⟨[],_,rfl,.nil,h⟩
 |_::_,_,_,.cons h r=>by
  obtain⟨ls,t,rfl,h1,h2⟩:=r.snoc
  exact⟨_::ls,t,rfl,.cons h h1,h2⟩
theorem aJ.get{K:W.Frag}{H:Hp}:∀{xs:List V} {ts:List Tr},aJ K H xs ts->∀{i:Nat} {x:V},xs[i]?=some x->∃t,ts[i]?=some t/\bz K H x t
 |_,_,.cons h r,0,x,e=>by
  cases (show some _=some x from e)
  exact⟨_,rfl,h⟩
 |_,_,.cons h r,i+1,x,e=>r.get (i:=i) e
theorem aJ.rev{K:W.Frag}{H:Hp}:∀{xs:List V} {ts:List Tr},aJ K H xs ts->aJ K H xs.reverse ts.reverse
 |_,_,.nil=>.nil
 |_,_,.cons h r=>by
  rw [List.reverse_cons,List.reverse_cons]
  exact r.rev.append (.cons h .nil)
theorem bz.same{K:W.Frag}{H H':Hp}(e:aM H H'){x:V}{t:Tr}(h:bz K H x t):bz K H' x t:=h.keep fun _ _ q=>e _ _ q
theorem aJ.same{K:W.Frag}{H H':Hp}(e:aM H H'){xs:List V}{ts:List Tr}(h:aJ K H xs ts):aJ K H' xs ts:=h.keep fun _ _ q=>e _ _ q
theorem lg1{α:Type}{r:List α}(h:1<=r.length):∃u us,r=u::us:=List.exists_cons_of_length_pos h
theorem lg2{α:Type}{r:List α}(h:2<=r.length):∃u v us,r=u::v::us:=by
 obtain⟨u,r,rfl⟩:=lg1 (r:=r) (by omega)
 obtain⟨v,r,rfl⟩:=lg1 (r:=r) (Nat.le_of_succ_le_succ h)
 exact⟨_,_,_,rfl⟩
theorem le2{α:Type}{r:List α}(h:r.length=2):∃a b,r=[a,b]:=by
 obtain⟨a,b,r,rfl⟩:=lg2 (r:=r) (by omega)
 cases List.eq_nil_of_length_eq_zero (Nat.succ.inj (Nat.succ.inj h))
 exact⟨_,_,rfl⟩
theorem le3{α:Type}{r:List α}(h:r.length=3):∃a b c,r=[a,b,c]:=by
 obtain⟨a,r,rfl⟩:=lg1 (r:=r) (by omega)
 obtain⟨b,c,rfl⟩:=le2 (Nat.succ.inj h)
 exact⟨_,_,_,rfl⟩
theorem Jc{K:W.Frag}{H:Hp}{xs:List V}{t:Tr}{ts:List Tr}(h:aJ K H xs (t::ts)):∃x ys,xs=x::ys/\bz K H x t/\aJ K H ys ts:=by
 cases h with|cons a b=>exact⟨_,_,rfl,a,b⟩
theorem tkc{K:W.Frag}{H:Hp}{n:Nat}:∀{r:List Tr} {ys:List V},r.length=n+1->aJ K H ys r->∃u r' y ys',r=u::r'/\ys=y::ys'/\r'.length=n/\bz K H y u/\aJ K H ys' r'
 |_::_,_,l,.cons a b=>⟨_,_,_,_,rfl,rfl,Nat.succ.inj l,a,b⟩
theorem tk0{K:W.Frag}{H:Hp}{r:List Tr}{ys:List V}(l:r.length=0)(h:aJ K H ys r):r=[]/\ys=[]:=by
 cases h with
 |nil=>exact⟨rfl,rfl⟩
 |cons a b=>cases l
theorem tk1{K:W.Frag}{H:Hp}{r:List Tr}{ys:List V}(l:r.length=1)(h:aJ K H ys r):∃u y,r=[u]/\ys=[y]/\bz K H y u:=by
 obtain⟨u,r,y,ys,rfl,rfl,l,a,h⟩:=tkc l h
 obtain⟨rfl,rfl⟩:=tk0 l h
 exact⟨_,_,rfl,rfl,a⟩
theorem tk2{K:W.Frag}{H:Hp}{r:List Tr}{ys:List V}(l:r.length=2)(h:aJ K H ys r):∃u v y y2,r=[u,v]/\ys=[y,y2]/\bz K H y u/\bz K H y2 v:=by
 obtain⟨u,r,y,ys,rfl,rfl,l,a,h⟩:=tkc l h
 obtain⟨v,y2,rfl,rfl,b⟩:=tk1 l h
 exact⟨_,_,_,_,rfl,rfl,a,b⟩
theorem tk3{K:W.Frag}{H:Hp}{r:List Tr}{ys:List V}(l:r.length=3)(h:aJ K H ys r):∃u v v2 y y2 y3,r=[u,v,v2]/\ys=[y,y2,y3]/\bz K H y u/\bz K H y2 v/\bz K H y3 v2:=by
 obtain⟨u,r,y,ys,rfl,rfl,l,a,h⟩:=tkc l h
 obtain⟨v,v2,y2,y3,rfl,rfl,b⟩:=tk2 l h
 exact⟨_,_,_,_,_,_,rfl,rfl,a,b⟩
theorem tk4{K:W.Frag}{H:Hp}{r:List Tr}{ys:List V}(l:r.length=4)(h:aJ K H ys r):∃u v v2 v3 y y2 y3 y4,r=[u,v,v2,v3]/\ys=[y,y2,y3,y4]/\bz K H y u/\bz K H y2 v/\bz K H y3 v2/\bz K H y4 v3:=by
 obtain⟨u,r,y,ys,rfl,rfl,l,a,h⟩:=tkc l h
 obtain⟨v,v2,v3,y2,y3,y4,rfl,rfl,b⟩:=tk3 l h
 exact⟨_,_,_,_,_,_,_,_,rfl,rfl,a,b⟩
def yP:List V->List V
 |[]=>[]
 |x::xs=>x::xs.flatMap fun u=>[V.str " ",u]
def AH:List Tr->List Tr
 |[]=>[]
 |t::ts=>t::ts.flatMap fun u=>[.w " ",u]
theorem oU(xs:List V)(u:V):yP (xs++[u])=yP xs++(if 0 < xs.length then [V.str " ",u] else [u]):=by
 cases xs with
 |nil=>rfl
 |cons x r =>
  rw [if_pos (by simp)]
  show x::(r++[u]).flatMap _=(x::r.flatMap _)++_
  rw [List.flatMap_append]
  rfl
theorem mU:∀xs:List V,(yP xs).length<=2*xs.length
 |[]=>Nat.le_refl _
 |x::xs=>by
  have h:∀l:List V,(l.flatMap fun u=>[V.str " ",u]).length=2*l.length:=fun l=>by
   induction l with
   |nil=>rfl
   |cons a r ih=>rw [List.flatMap_cons,la0,ih];simp only [lc0,List.length_nil];omega
  show(x::xs.flatMap fun u=>[V.str " ",u]).length<=_
  rw [lc0,h]
  simp only [lc0]
  omega
theorem Bc{K:W.Frag}{H:Hp}:∀{xs:List V} {ts:List Tr},aJ K H xs ts->aJ K H (yP xs) (AH ts)
 |_,_,.nil=>.nil
 |_,_,.cons (xs:=r) (ts:=us) h t=>by
  refine .cons h ?_
  have go:∀{xs:List V} {ts:List Tr},aJ K H xs ts->aJ K H (xs.flatMap fun u=>[V.str " ",u]) (ts.flatMap fun u=>[.w " ",u]):=by
   intro xs ts q
   induction xs generalizing ts with
   |nil=>cases q;exact .nil
   |cons y ys ih =>
    cases q with
    |cons q1 q2=>exact .cons (.w _) (.cons q1 (ih q2))
  exact go t
def cat(is:List Tr):List Nat:=is.flatMap Tr.text
def jR(is:List Tr):Nat:=(is.map Tr.wt).sum
theorem pE(a b:List Tr):cat (a++b)=cat a++cat b:=List.flatMap_append ..
theorem vk(t:Tr):cat [t]=t.text:=List.append_nil _
theorem hG(a b:List Tr):jR (a++b)=jR a+jR b:=by
 unfold jR
 rw [ma0,List.sum_append]
theorem nk(t:Tr):jR [t]=t.wt:=Nat.add_zero _
theorem qF(a:List Tr):jR a.reverse=jR a:=by
 unfold jR
 rw [List.map_reverse,List.sum_reverse]
theorem yu:∀t:Tr,0 < t.wt
 |.w _=>Nat.one_pos
 |.n ts=>by show 0 < 3+wts ts;omega
theorem qu:∀is:List Tr,is.length<=jR is
 |[]=>Nat.le_refl _
 |t::r=>by
  have h1:=qu r
  have h2:=yu t
  show r.length+1<=t.wt+jR r
  omega
theorem ox:∀ts:List Tr,cat (ts.flatMap fun u=>[.w " ",u])=hU ts
 |[]=>rfl
 |t::ts=>by
  have ih:=ox ts
  show cat ([.w " ",t]++ts.flatMap _)=32::(t.text++hU ts)
  rw [pE,ih]
  show(cps " "++(t.text++[]))++_=_
  rw [List.append_nil]
  rfl
theorem AD:∀ts:List Tr,cat (AH ts)=mz ts
 |[]=>rfl
 |t::ts=>by
  show t.text++cat (ts.flatMap _)=t.text++hU ts
  rw [ox]
theorem kh:∀ts:List Tr,jR (ts.flatMap fun u=>[.w " ",u])=wts ts
 |[]=>rfl
 |t::ts=>by
  have ih:=kh ts
  show jR ([.w " ",t]++ts.flatMap _)=t.wt+1+wts ts
  rw [hG,ih]
  show 1+(t.wt+0)+wts ts=_
  omega
theorem xm:∀ts:List Tr,jR (AH ts)<=wts ts
 |[]=>Nat.le_refl _
 |t::ts=>by
  show t.wt+jR (ts.flatMap _)<=t.wt+1+wts ts
  rw [kh]
  omega
def BE(ts:List Tr):List Tr:=.w "("::(AH ts++[.w ")"])
def md(xs:List V):List V:=.str "("::(yP xs++[.str ")"])
theorem xI(ts:List Tr):cat (BE ts)=(Tr.n ts).text:=by
 show cps "("++cat (AH ts++[.w ")"])=40::(mz ts++[41])
 rw [pE,AD,vk]
 rfl
theorem vY(ts:List Tr):jR (BE ts) < (Tr.n ts).wt:=by
 have h:=xm ts
 show 1+jR (AH ts++[.w ")"]) < 3+wts ts
 rw [hG,nk]
 show 1+(jR (AH ts)+1) < _
 omega
theorem zy{K:W.Frag}{H:Hp}{xs:List V}{ts:List Tr}(h:aJ K H xs ts):aJ K H (md xs) (BE ts):=.cons (.w _) ((Bc h).append (.cons (.w _) .nil))
inductive qM(K:W.Frag):Sp|mk{vs H Q E}(p:Addr)(xs:List V)(_:vs=[.ref p])(_:SqT K H p xs)(_:xs.length<=10000)(_:∀H' (l:Addr),aM H H'->H l=none->H' l=some (.lst (md xs))->Q (.ref l) H'):qM K vs H Q E
section
variable{P:Program}{w:World}{K:W.Frag}{mg:Str->Option Value}{base:Heap}
theorem jm:ax ["trees","pieces","place","tree"] ["trees"] (ah iI):=mkS
theorem uO{f:Addr}{fd:FuncData} (F:Fun K "bracket_pieces" "bracket_pieces" iI f fd) (me:mg "enumerate"=none):aV P w K mg base CX0 1 f fd ["trees"] (qM K):=by
 refine F.k0 jm fun cdv A q0 s H vs Q E hr h=>?_
 obtain⟨p,xs,rfl,hp,hx,q⟩:=h
 refine⟨_,af (aS (i:=1) jm.nd (cc (aa ak ac)))
  (af (fg PassesOwn.never rfl (BQ rfl me (aa (pv 0) ac)) (y9 rfl (jr (cU (i:=2) jm.nd rfl (Or.inl rfl)) (jr (cU (i:=3) jm.nd rfl (Or.inl rfl)) vN)))
   (af (aF (am gi (pv 2) ag (av _)) (aj (aU (eU PySem.F.plainAttrs_list PySem.F.slot_list_append PySem.F.type_list_append bZ (pv 1) (aa ak ac)))) ar)
   (aj (aU (eU PySem.F.plainAttrs_list PySem.F.slot_list_append PySem.F.type_list_append bZ (pv 1) (aa (pv 3) ac))))))
  (af (aU (eU PySem.F.plainAttrs_list PySem.F.slot_list_append PySem.F.type_list_append bZ (pv 1) (aa ak ac)))
  (aj (ao (pv 1))))),?_⟩
 refine⟨(sz 1),fun l hl=>?_⟩
 refine⟨_,rfl,p,xs,rfl,(ae hl _).tup hp,Ai (K:=K) (a:=p) (xs:=xs) (fun i σ H2=>∃(v2 v3:Option V),σ=[some (.ref p),some (.ref l),v2,v3]/\aM H H2/\H2 l=some (.lst (.str "("::yP (xs.take i))))
  ⟨none,none,rfl,ae hl _,ad⟩ ?_ ?_ ?_⟩
 ·rintro i σ H2 _ ⟨v2,v3,rfl,sH,_⟩
  exact sH.tup hp
 ·rintro i u b σ H2 hu hb ⟨v2,v3,rfl,sH,hL⟩
  have hi:i < xs.length:=(List.getElem?_eq_some_iff.mp hu).1
  have sb:=ae hb (.tup [.int i,u])
  have hL1:=sb _ _ hL
  have pl:=mU (xs.take i)
  rw [List.length_take] at pl
  have et:xs.take (i+1)=xs.take i++[u]:=by rw [List.take_add_one,hu];rfl
  have el:(xs.take i).length=i:=by rw [List.length_take];omega
  refine⟨b,_,rfl,SqT.of ad,rfl,_,_,rfl,_,_,rfl,rfl,?_⟩
  refine⟨_,rfl,_,_,rfl,rfl,_,rfl,?_⟩
  refine aO (fun c=>?_) (fun c=>?_)
  ·have c':(0:Int) < (i:Int):=od0 c
   refine⟨_,rfl,.inl ⟨rfl,_,SqL.of hL1⟩,l,_,_,rfl,rfl,hL1,mid (by rw [lc0];omega),?_⟩
   refine⟨_,rfl,.inl ⟨rfl,_,SqL.of ad⟩,_,rfl,l,_,_,rfl,rfl,ad,?_,?_⟩
   ·rw [la0,lc0]
    exact mid (by show(yP (xs.take i)).length+1+1<=1000000;omega)
   ·refine⟨_,_,rfl,j7 (j7 (sH.trans sb) hl) hl,?_⟩
    rw [ad,et,oU,el,if_pos (by omega)]
    simp
  ·have c':¬(0:Int) < (i:Int):=of_decide_eq_false (Bool.eq_false_iff.mpr c)
   refine⟨_,rfl,.inl ⟨rfl,_,SqL.of hL1⟩,_,rfl,l,_,_,rfl,rfl,hL1,mid (by rw [lc0];omega),?_⟩
   refine⟨_,_,rfl,j7 (sH.trans sb) hl,?_⟩
   rw [ad,et,oU,el,if_neg (by omega)]
   simp
 ·rintro σ H2 ⟨v2,v3,rfl,sH,hL⟩
  rw [List.take_length] at hL
  have pl:=mU xs
  refine⟨_,rfl,.inl ⟨rfl,_,SqL.of hL⟩,l,_,_,rfl,rfl,hL,mid (by rw [lc0];omega),?_⟩
  exact⟨_,rfl,q _ l (j7 sH hl) hl (by rw [ad];rfl)⟩
def j6(ws:List Str):List Nat:=(ws.map cps).flatten
theorem sf(ws:List Str)(s:Str):j6 (ws++[s])=j6 ws++cps s:=by
 unfold j6
 rw [ma0,List.flatten_append]
 show _++(cps s++[])=_
 rw [List.append_nil]
theorem oz:∀ws:List Str,(j6 ws).length=(ws.map (·.length)).sum
 |[]=>rfl
 |w::ws=>by
  show(cps w++j6 ws).length=w.length+(ws.map (·.length)).sum
  rw [la0,oz ws,bG]
theorem BJ:∀ps:List (List Nat),Tk.glue [] ps=ps.flatten
 |[]=>rfl
 |[p]=>by show p=p++[];rw [List.append_nil]
 |p::q::r=>by
  have ih:=BJ (q::r)
  show p++[]++Tk.glue [] (q::r)=p++(q::r).flatten
  rw [List.append_nil,ih]
theorem mf(z:Str)(ps:List Str):cps (Txt.join z ps)=Tk.glue (cps z) (ps.map cps):=by
 unfold Txt.join
 rw [StrLaws.glued_eq_join]
 exact Tk.lst_join z ps
theorem wm(ps:List Str):cps (Txt.join (Str.ofString "") ps)=j6 ps:=by
 rw [mf]
 exact BJ _
theorem iE:∀ts:List Tr,Tk.glue [10] (ts.map Tr.text)=fO ts
 |[]=>rfl
 |[t]=>rfl
 |t::u::r=>by
  have ih:=iE (u::r)
  show t.text++[10]++Tk.glue [10] ((u::r).map Tr.text)=t.text++10::fO (u::r)
  rw [ih,List.append_assoc]
  rfl
theorem wE{c:TT}{tb:TS}{D:ja}{σ:St}{H:Hp}(W:Nat->St->Hp->Prop)(m:Nat)(h0:W m σ H)
  (hs:∀m σ H,W m σ H->c σ H fun b H1=>if b=true then tb { D with nx:=fun σ' H'=>∃m',m' < m/\W m' σ' H',ct:=fun σ' H'=>∃m',m' < m/\W m' σ' H',bk:=D.nx } σ H1 else D.nx σ H1)
  (mono:∀σ H Q Q',(∀b H1,Q b H1->Q' b H1)->c σ H Q->c σ H Q'):za c tb D σ H:=by
 refine⟨W,⟨m,h0⟩,fun m σ H p=>mono σ H _ _ (fun b H1 q=>?_) (hs m σ H p)⟩
 cases b with
 |true=>exact⟨_,fun σ' H' z=>z,q⟩
 |false=>exact q
theorem mw{us:List V}{v:V}:(us++[v])[(us++[v]).length - 1]?=some v:=by simp
theorem bh{X:Cx}:jJ X (.builtin "isinstance") (fun xs H Q=>∃x T t b,xs=[x,.ty T]/\se X.K H x t/\W.kitOne X.K t (.type T)=some b/\Q (.bl b) H):=by
 intro kb s σ H xs us Q I rv h
 obtain⟨x,T,t,b,rfl,ty,e,q⟩:=h
 obtain⟨u,v,rfl,r1,r2⟩:=rv.two
 cases r2
 exact wG I r1 ty e fun tk=>⟨.bl b,H,I.tok _,rfl,q⟩
theorem eJ(K:W.Frag):W.kitOne K (.type "str") (.type "str")=some true:=rfl
theorem dZ(K:W.Frag):W.kitOne K (.type "tuple") (.type "str")=some false:=rfl
theorem yk:bootBuiltins "list"=some (.type "list"):=by decide +kernel
theorem aR:bootBuiltins "tuple"=some (.type "tuple"):=by decide +kernel
theorem pV:bootBuiltins "int"=some (.type "int"):=by decide +kernel
inductive kl(K:W.Frag):Sp|mk{vs H Q E}(v:V)(t:Tr)(_:vs=[v])(_:t.wt<=9000)(_:t.text.length<=100000)(_:bz K H v t)(_:∀H' (z:Str),aM H H'->cps z=t.text->Q (.str z) H'):kl K vs H Q E
inductive rz(K:W.Frag):Sp|mk{vs H Q E}(p:Addr)(xs:List V)(ts:List Tr)(_:vs=[.ref p])(_:SqL K H p xs)(_:aJ K H xs ts)(_:ts.length<=9000)(_:(∀t∈ts,t.wt<=9000/\t.text.length<=100000))(_:(fO ts).length<=100000)(_:∀H' (z:Str),aM H H'->cps z=fO ts->Q (.str z) H'):rz K vs H Q E
theorem eX:ax ["tree","written","left","here","piece"] ["tree"] (ah eY):=mkS
theorem uX(xs:List V):(md xs).length<=2*xs.length+2:=by
 have:=mU xs
 show(V.str "("::(yP xs++[V.str ")"])).length<=_
 simp only [lc0,la0,List.length_nil]
 omega
theorem pD:∀ts:List Tr,ts.length<=wts ts
 |[]=>Nat.le_refl _
 |t::r=>by
  have h1:=pD r
  show r.length+1<=t.wt+1+wts r
  omega
theorem p9{f fp:Addr}{fd fdp:FuncData} (F:Fun K "tree_text" "tree_text" eY f fd)
  (GP:aV P w K mg base CX0 1 fp fdp ["trees"] (qM K)) (bP:aX K fdp ["trees"] []) (kP:W.keepIn K (.ref fp)=true) (mP:mg "bracket_pieces"=some (.ref fp))
  (ml:mg "len"=none) (mi:mg "isinstance"=none) (ms:mg "str"=none) (mr:mg "reversed"=none):aV P w K mg base CX0 2 f fd ["tree"] (kl K):=by
 refine F.k0 eX fun cdv A q0 s H vs Q E hr h=>?_
 obtain⟨x,t,rfl,h9,htl,hx,q⟩:=h
 refine⟨_,af (aS (i:=1) eX.nd (cc ac))
  (af (aS (i:=2) eX.nd (cc (aa (pv 0) ac)))
  (af (xg PassesOwn.never (am gi (aq aw rfl ml boot_len (aa (pv 2) ac)) ag (av _))
   (af (aS (i:=3) eX.nd (vL PySem.F.plainAttrs_list PySem.F.slot_list_pop PySem.F.type_list_pop wc (pv 2)))
   (aj (aF (bt (aq bh rfl mi bH (aa (pv 3) (aa (bJ rfl ms cb (v:=.ty "str") rfl) ac))))
    (aj (aU (eU PySem.F.plainAttrs_list PySem.F.slot_list_append PySem.F.type_list_append bZ (pv 1) (aa (pv 3) ac))))
    (aj (fg PassesOwn.never rfl (B3 rfl mr (aa (ai GP hr rfl mP kP bP .nil aC (aa (pv 3) ac)) ac)) (cU (i:=4) eX.nd rfl (Or.inl rfl))
     (aj (aU (eU PySem.F.plainAttrs_list PySem.F.slot_list_append PySem.F.type_list_append bZ (pv 2) (aa (pv 4) ac))))))))))
  (aj (ao (eU PySem.F.plainAttrs_str PySem.F.slot_str_join PySem.F.type_str_join o6 ak (aa (pv 1) ac)))))),?_⟩
 refine⟨(sz 0),fun wl hwl=>⟨_,rfl,(sz 1),fun l hl=>?_⟩⟩
 have hlw:l≠wl:=fun e=>by rw [e,ad] at hl;cases hl
 have hl0:H l=none:=by rw [aK hlw] at hl;exact hl
 refine wE (fun m σ H2=>∃(ws:List Str) (vs:List V) (is:List Tr) (h pc:Option V),σ=[some x,some (.ref wl),some (.ref l),h,pc]/\aM H H2/\H2 wl=some (.lst (ws.map V.str))/\H2 l=some (.lst vs)/\aJ K H vs is /\
   j6 ws++cat is.reverse=t.text/\ws.length+jR is<=t.wt/\m=jR is) (jR [t])
  ⟨[],[x],[t],none,none,rfl,j7 (ae hwl _) hl0,by rw [aK (Ne.symm hlw)];exact ad,ad,.cons hx .nil,by show []++cat [t]=_;rw [vk];rfl,by rw [nk];show 0+t.wt<=_;omega,rfl⟩ ?_ ?_
 ·rintro m σ H2 ⟨ws,vs,is,h,pc,rfl,sH,hW,hL,hv,ht,hn,rfl⟩
  refine⟨_,rfl,l,_,rfl,.inl (SqL.of hL),_,_,rfl,rfl,_,rfl,?_⟩
  refine aO (fun c=>?_) (fun c=>?_)
  ·have c':(0:Int) < (vs.length:Int):=od0 c
   have hne:vs≠[]:=fun e=>by rw [e] at c';exact absurd c' (by decide)
   obtain⟨us,v,rfl⟩:∃us v,vs=us++[v]:=⟨_,_,(List.dropLast_concat_getLast hne).symm⟩
   obtain⟨ls,i,rfl,hus,hi⟩:=hv.snoc
   rw [List.reverse_concat] at ht
   have ht':j6 ws++(i.text++cat ls.reverse)=t.text:=ht
   rw [hG,nk] at hn ⊢
   have hip:=yu i
   have lw:=qu ls
   have ull:=hus.length
   refine⟨_,rfl,.inl ⟨rfl,_,SqL.of hL⟩,l,_,v,rfl,rfl,hL,mw,?_⟩
   rw [List.dropLast_concat]
   have sH1:aM H (upd H2 l (.lst us)):=j7 sH hl0
   have hW1:upd H2 l (.lst us) wl=some (.lst (ws.map V.str)):=by rw [aK (Ne.symm hlw)];exact hW
   cases hi with
   |w z =>
    refine⟨_,rfl,_,_,_,_,rfl,.str z,eJ _,_,rfl,bU ?_⟩
    refine⟨_,rfl,.inl ⟨rfl,_,SqL.of hW1⟩,_,rfl,wl,_,_,rfl,rfl,hW1,?_,?_⟩
    ·rw [lm0]
     exact mid (by omega)
    ·refine⟨jR ls,by omega,ws++[z],us,ls,_,_,rfl,j7 sH1 hwl,?_,?_,hus,?_,?_,rfl⟩
     ·rw [ad,ma0]
      rfl
     ·rw [aK hlw,ad]
     ·rw [sf,List.append_assoc]
      exact ht'
     ·rw [la0]
      show ws.length+1+jR ls<=_
      omega
   |@n p xs ts hp hts =>
    have hb:=vY ts
    have hxl:xs.length<=9000:=by
     have e1:=hts.length
     have e2:=pD ts
     have e3:(Tr.n ts).wt=3+wts ts:=rfl
     omega
    refine⟨_,rfl,_,_,_,_,rfl,.tup (sH1 _ _ hp),dZ _,_,rfl,bx ?_⟩
    refine⟨_,rfl,p,xs,rfl,SqT.of (sH1 _ _ hp),by omega,fun H3 pl s3 hpl0 hpl=>?_⟩
    have hL3:H3 l=some (.lst us):=s3 _ _ ad
    have hW3:=s3 _ _ hW1
    have hlp:pl≠l:=fun e=>by rw [e,ad] at hpl0;cases hpl0
    have hpw:pl≠wl:=fun e=>by rw [e,hW1] at hpl0;cases hpl0
    have bl:=uX xs
    refine⟨pl,_,rfl,SqL.of hpl,zr (K:=K) (a:=pl) (xs:=md xs) (fun i σ H4=>∃pc:Option V,σ=[some x,some (.ref wl),some (.ref l),some (.ref p),pc]/\aM H H4/\H4 wl=some (.lst (ws.map V.str)) /\
      H4 l=some (.lst (us++(md xs).reverse.take i))/\H4 pl=some (.lst (md xs))/\i<=(md xs).length)
     ⟨pc,rfl,sH1.trans s3,hW3,by rw [hL3];show _=some (HO.lst (us++[]));rw [List.append_nil],hpl,Nat.zero_le _⟩ ?_ ?_ ?_⟩
    ·rintro i σ H4 _ ⟨pc,rfl,_,_,_,h4,_⟩
     exact SqL.of h4
    ·rintro i u σ H4 hu ⟨pc,rfl,s4,w4,l4,p4,i7⟩
     have hi7:i < (md xs).reverse.length:=(List.getElem?_eq_some_iff.mp hu).1
     rw [List.length_reverse] at hi7
     refine⟨_,rfl,.inl ⟨rfl,_,SqL.of l4⟩,_,rfl,l,_,_,rfl,rfl,l4,?_,?_⟩
     ·rw [la0,List.length_take]
      exact mid (by omega)
     ·refine⟨_,rfl,j7 s4 hl0,?_,?_,?_,hi7⟩
      ·rw [aK (Ne.symm hlw)]
       exact w4
      ·rw [ad,List.take_add_one,hu,List.append_assoc]
       rfl
      ·rw [aK hlp]
       exact p4
    ·rintro σ H4 ⟨pc,rfl,s4,w4,l4,p4,_⟩
     rw [List.take_of_length_le (by rw [List.length_reverse];exact Nat.le_refl _)] at l4
     refine⟨jR (ls++(BE ts).reverse),?_,ws,us++(md xs).reverse,ls++(BE ts).reverse,_,pc,rfl,s4,w4,l4,hus.append (zy hts).rev,?_,?_,rfl⟩
     ·rw [hG,qF]
      omega
     ·rw [List.reverse_append,List.reverse_reverse,pE,xI]
      exact ht'
     ·rw [hG,qF]
      omega
  ·have c':¬(0:Int) < (vs.length:Int):=of_decide_eq_false (Bool.eq_false_iff.mpr c)
   have hv0:vs=[]:=List.length_eq_zero_iff.mp (by omega)
   subst hv0
   cases hv
   have ht':j6 ws=t.text:=by
    have:j6 ws++[]=t.text:=ht
    rw [List.append_nil] at this
    exact this
   have e0:(Str.ofString "").length=0:=by decide +kernel
   have cl:=oz ws
   rw [ht'] at cl
   refine⟨rfl,_,rfl,_,wl,ws,rfl,rfl,SqL.of hW,?_,q _ _ sH (by rw [wm,ht'])⟩
   rw [<-cl,e0]
   omega
 ·rintro σ H2 Q1 Q2 hq ⟨v,e1,a,xs,e2,hs,i,j,e3,e4,b,e5,h⟩
  exact⟨v,e1,a,xs,e2,hs,i,j,e3,e4,b,e5,hq _ _ h⟩
theorem x0:ax ["trees"] ["trees"] (ah iX):=mkS
theorem oZ:∀ts:List Tr,((ts.map Tr.text).map List.length).sum+(ts.length - 1)<=(fO ts).length
 |[]=>Nat.le_refl _
 |[t]=>by show t.text.length+0+0<=t.text.length;omega
 |t::u::r=>by
  have ih:=oZ (u::r)
  show t.text.length+(((u::r).map Tr.text).map List.length).sum+(r.length+1)<=(t.text++10::fO (u::r)).length
  rw [la0,lc0]
  have e:(u::r).length - 1=r.length:=rfl
  rw [e] at ih
  omega
theorem vt{f ft:Addr}{fd fdt:FuncData} (F:Fun K "text_of" "text_of" iX f fd)
  (GT:aV P w K mg base CX0 2 ft fdt ["tree"] (kl K)) (bT:aX K fdt ["tree"] []) (kT:W.keepIn K (.ref ft)=true) (mT:mg "tree_text"=some (.ref ft)):aV P w K mg base CX0 3 f fd ["trees"] (rz K):=by
 refine F.k0 x0 fun cdv A q0 s H vs Q E hr h=>?_
 obtain⟨p,xs,ts,rfl,hp,hts,hl9,h9,hl,q⟩:=h
 refine⟨_,aj (ao (eU PySem.F.plainAttrs_str PySem.F.slot_str_join PySem.F.type_str_join o6 ak (aa (bi (own:=["tree"]) (eV (pv 0))
  (fun _ _ _ _=>pg0 ["tree"]) (fun _ _ _ _=>ai GT hr rfl mT kT bT .nil aC (aa (pv 0) ac))) ac))),?_⟩
 have xl:=hts.length
 refine⟨rfl,_,rfl,p,rfl,⟨_,hp⟩,?_⟩
 refine cQ (J:=Itl K p) (xs:=xs) (fun n ys H3=>aM H H3/\∃zs:List Str,ys=zs.map V.str/\zs.length=n/\zs.map cps=(ts.take n).map Tr.text) ⟨sr0,[],rfl,rfl,rfl⟩ (Nat.le_of_lt (mid (by omega))) ?_ ?_ ?_ ?_ ?_ ?_
 ·rintro n ys H3 ⟨_,zs,rfl,h,_⟩
  rw [lm0]
  exact Nat.le_of_eq h
 ·rintro n u ys H3 hu ⟨s3,_⟩
  exact⟨_,_,s3.seq hp,hu⟩
 ·rintro n ys u H3 H' hn ⟨s3,_⟩ hy
  exact⟨hy.1,hy.2 _ (s3.seq hp)⟩
 ·rintro ys H3 ⟨s3,_⟩
  exact⟨_,s3.seq hp,Nat.le_refl _⟩
 ·rintro n u ys H3 N hN hu ⟨s3,zs,rfl,hz,hzs⟩
  obtain⟨t,ht,hat⟩:=hts.get hu
  obtain⟨b1,b2⟩:=h9 t (List.mem_of_getElem? ht)
  refine⟨rfl,aY ⟨_,rfl,u,t,rfl,b1,b2,hat.same s3,fun H4 z s4 ez=>hN _ _ ⟨s3.trans s4,zs++[z],?_,?_,?_⟩⟩⟩
  ·rw [ma0]
   rfl
  ·rw [la0,hz]
   rfl
  ·rw [ma0,hzs,List.take_add_one,ht,ma0]
   exact congrArg (_++[·]) ez
 ·rintro ys H3 D ⟨s3,zs,rfl,hz,hzs⟩ hD
  rw [xl,List.take_length] at hzs
  have e1:(Str.ofString "\n").length=1:=by decide +kernel
  have ls:=oZ ts
  have zl:zs.length=ts.length:=by rw [hz,xl]
  have sm:(zs.map (·.length)).sum=((ts.map Tr.text).map List.length).sum:=by
   rw [<-hzs,List.map_map]
   congr 1
  refine⟨_,D,zs,rfl,rfl,SqL.of ad,?_,q _ _ (s3.trans (ae hD _)) ?_⟩
  ·rw [sm,e1]
   omega
  ·rw [mf,hzs]
   exact iE ts
def Pc(p:List Nat):Prop:=p=[40]\/p=[41]\/Tk.Word p
theorem Ce{p:List Nat}(h:Pc p):1<=p.length:=by
 rcases h with rfl|rfl|h
 ·decide
 ·decide
 ·cases p with
  |nil=>exact absurd rfl h.1
  |cons _ _=>exact Nat.succ_le_succ (Nat.zero_le _)
theorem og:∀xs:List Nat,(∀c∈xs,c≠40/\c≠41/\c≠10/\c≠32)\/∃a c b,xs=a++c::b/\(∀d∈a,d≠40/\d≠41/\d≠10/\d≠32)/\(c=40\/c=41\/c=10\/c=32)
 |[]=>.inl fun _ h=>nomatch h
 |x::r=>by
  by_cases hx:x=40\/x=41\/x=10\/x=32
  ·exact .inr ⟨[],x,r,rfl,(fun _ h=>nomatch h),hx⟩
  ·have hx':x≠40/\x≠41/\x≠10/\x≠32:=by omega
   rcases og r with h|⟨a,c,b,rfl,h1,h2⟩
   ·refine .inl fun c hc=>?_
    rcases mc0 hc with rfl|hc
    ·exact hx'
    ·exact h c hc
   ·refine .inr ⟨x::a,c,b,rfl,fun d hd=>?_,h2⟩
    rcases mc0 hd with rfl|hd
    ·exact hx'
    ·exact h1 d hd
theorem sJ{a:List Nat}(h:∀c∈a,c≠40/\c≠41/\c≠10/\c≠32):Tk.toks a=if a=[] then [] else [a]:=by
 by_cases e:a=[]
 ·subst e;rfl
 ·rw [if_neg e]
  exact Tk.toks_word ⟨e,h⟩
theorem iT:∀(n:Nat) (xs:List Nat),xs.length<=n->(∀p∈Tk.toks xs,Pc p)/\((Tk.toks xs).map List.length).sum<=xs.length
 |0,xs,h=>by
  obtain rfl:xs=[]:=List.length_eq_zero_iff.mp (by omega)
  exact⟨fun p hp=>(nomatch hp),Nat.le_refl _⟩
 |n+1,xs,h=>by
  have plain:∀{a:List Nat},(∀c∈a,c≠40/\c≠41/\c≠10/\c≠32)->(∀p∈Tk.toks a,Pc p)/\((Tk.toks a).map List.length).sum<=a.length:=fun {a} ha=>by
   rw [sJ ha]
   split
   ·exact⟨fun p hp=>(nomatch hp),Nat.zero_le _⟩
   ·rename_i e
    refine⟨fun p hp=>?_,by simp⟩
    rw [List.mem_singleton.mp hp]
    exact .inr (.inr ⟨e,ha⟩)
  rcases og xs with ha|⟨a,c,b,rfl,ha,hc⟩
  ·exact plain ha
  ·obtain⟨p1,s1⟩:=plain ha
   rw [la0,lc0] at h ⊢
   obtain⟨p2,s2⟩:=iT n b (by omega)
   rcases hc with rfl|rfl|rfl|rfl
   ·rw [Tk.toks_op]
    refine⟨fun p hp=>?_,?_⟩
    ·rcases List.mem_append.mp hp with hp|hp
     ·exact p1 p hp
     ·rcases mc0 hp with rfl|hp
      ·exact .inl rfl
      ·exact p2 p hp
    ·simp only [ma0,List.map_cons,List.sum_append,List.sum_cons,lc0,List.length_nil]
     omega
   ·rw [Tk.toks_cl]
    refine⟨fun p hp=>?_,?_⟩
    ·rcases List.mem_append.mp hp with hp|hp
     ·exact p1 p hp
     ·rcases mc0 hp with rfl|hp
      ·exact .inr (.inl rfl)
      ·exact p2 p hp
    ·simp only [ma0,List.map_cons,List.sum_append,List.sum_cons,lc0,List.length_nil]
     omega
   ·rw [Tk.toks_nl]
    refine⟨fun p hp=>?_,?_⟩
    ·rcases List.mem_append.mp hp with hp|hp
     ·exact p1 p hp
     ·exact p2 p hp
    ·simp only [ma0,List.sum_append]
     omega
   ·rw [Tk.toks_sp]
    refine⟨fun p hp=>?_,?_⟩
    ·rcases List.mem_append.mp hp with hp|hp
     ·exact p1 p hp
     ·exact p2 p hp
    ·simp only [ma0,List.sum_append]
     omega
theorem Bu{ps:List (List Nat)}(h:∀p∈ps,1<=p.length):ps.length<=(ps.map List.length).sum:=by
 induction ps with
 |nil=>exact Nat.le_refl _
 |cons p r ih =>
  have h1:=h p List.mem_cons_self
  have h2:=ih fun q hq=>h q (List.mem_cons_of_mem _ hq)
  simp only [lc0,List.map_cons,List.sum_cons]
  omega
theorem w5(xs:List Nat):(Tk.toks xs).length<=xs.length:=by
 obtain⟨h1,h2⟩:=iT _ xs nr0
 exact Nat.le_trans (Bu fun p hp=>Ce (h1 p hp)) h2
inductive Bp:Sp|mk{vs H Q E}(z:Str)(_:vs=[.str z])(_:z.length<=100000)(_:∀H' (l:Addr) (ws:List Str),aM H H'->H l=none->H' l=some (.lst (ws.map V.str))->ws.map cps=Tk.toks (cps z)->Q (.ref l) H'):Bp vs H Q E
theorem pF(c:Nat)(z:List Nat)(hz:z.length<=3)(h1:1<=z.length):∀xs:List Nat,(xs.flatMap (Tk.rep c z)).length<=3*xs.length
 |[]=>Nat.le_refl _
 |a::r=>by
  have ih:=pF c z hz h1 r
  rw [List.flatMap_cons,la0,lc0]
  have:(Tk.rep c z a).length<=3:=by
   unfold Tk.rep
   split
   ·exact hz
   ·exact Nat.le_of_ble_eq_true rfl
  omega
theorem rN(c:Nat)(z:List Nat)(hz:z.length=1):∀xs:List Nat,(xs.flatMap (Tk.rep c z)).length=xs.length
 |[]=>rfl
 |a::r=>by
  have ih:=rN c z hz r
  rw [List.flatMap_cons,la0,lc0,ih]
  have:(Tk.rep c z a).length=1:=by
   unfold Tk.rep
   split
   ·exact hz
   ·rfl
  omega
def apart(z:Str):Str:=Txt.replace (Txt.replace (Txt.replace z "(" " ( ") ")" " ) ") "\n" " "
theorem vP(z:Str):cps (apart z)=(cps z).flatMap Tk.gap:=by
 show Tk.lst (Txt.replace (Txt.replace (Txt.replace z ⟨#[40]⟩ " ( ") ⟨#[41]⟩ " ) ") ⟨#[10]⟩ " ")=_
 rw [Tk.replace_lst,Tk.replace_lst,Tk.replace_lst,<-Tk.gap_eq]
 rfl
theorem tt(z:Str):((Txt.split (apart z) " ").filter fun p=>!decide (V.str p=V.str "")).map cps=Tk.toks (cps z):=by
 have h:=Tk.split_lst (apart z) 32
 have e:(Txt.split (apart z) " ").map cps=Tk.spl 32 ((cps z).flatMap Tk.gap):=by
  rw [<-vP]
  exact h
 unfold Tk.toks
 rw [<-e]
 generalize Txt.split (apart z) " "=l
 induction l with
 |nil=>rfl
 |cons p r ih =>
  rw [List.map_cons,List.filter_cons,List.filter_cons]
  have hp:(!decide (V.str p=V.str ""))=decide (cps p≠[]):=by
   by_cases q:p=""
   ·subst q;rfl
   ·have q1:¬V.str p=V.str "":=fun z=>q (V.str.inj z)
    have q2:cps p≠[]:=fun z=>q (Tk.lst_inj (z.trans (show([]:List Nat)=Tk.lst "" from rfl)))
    rw [df0 q1,dt0 q2]
    rfl
  rw [hp]
  split
  ·rw [List.map_cons,ih]
  ·exact ih
theorem Bn:ax ["text","apart"] ["text"] (ah fz):=mkS
theorem Bb{f:Addr}{fd:FuncData} (F:Fun K "pieces_of" "pieces_of" fz f fd):aV P w K mg base CX0 1 f fd ["text"] Bp:=by
 refine F.okP Bn rfl (fun vs H Q E h=>?_) (fun cdv A q0 s H vs Q E hr h=>?_)
 ·obtain⟨z,rfl,_⟩:=h
  rfl
 obtain⟨z,rfl,hz,q⟩:=h
 refine⟨_,xp (Ak (i:=1) Bn.nd rfl (Or.inl rfl) (gK (gK (gK (Aj (i:=0) rfl rfl) (by decide +kernel) (by decide +kernel)) (by decide +kernel) (by decide +kernel)) (by decide +kernel) (by decide +kernel)))
  (aj (ao (rV (own:=["piece"]) (caps:=[]) (κ:=[]) (cl:=[]) rfl ⟨rfl,by decide +kernel,by decide +kernel,rfl,rfl,(fun y hy=>nomatch hy),(fun y hy=>nomatch hy)⟩ rfl (eV (eU PySem.F.plainAttrs_str PySem.F.slot_str_split PySem.F.type_str_split mn (pv 1) (aa ak ac)))
   (fun _ _ _ _=>pg0 ["piece"]) (fun _ _ _ _=>am lL (pv 0) ak (av _)) (fun _ _ _ _=>pv 0)))),?_⟩
 have l1:(cps (Txt.replace z "(" " ( ")).length<=300000:=by
  show(Tk.lst (Txt.replace z ⟨#[40]⟩ " ( ")).length<=_
  rw [Tk.replace_lst]
  have:=pF 40 (Tk.lst " ( ") (by decide +kernel) (by decide +kernel) (cps z)
  rw [bG] at this
  exact Nat.le_trans this (by omega)
 have l2:(cps (Txt.replace (Txt.replace z "(" " ( ") ")" " ) ")).length<=900000:=by
  show(Tk.lst (Txt.replace (Txt.replace z "(" " ( ") ⟨#[41]⟩ " ) ")).length<=_
  rw [Tk.replace_lst]
  have:=pF 41 (Tk.lst " ) ") (by decide +kernel) (by decide +kernel) (cps (Txt.replace z "(" " ( "))
  exact Nat.le_trans this (by omega)
 have l3:(apart z).length<=900000:=by
  rw [<-bG]
  show(Tk.lst (Txt.replace (Txt.replace (Txt.replace z "(" " ( ") ")" " ) ") ⟨#[10]⟩ " ")).length<=_
  rw [Tk.replace_lst,rN 10 (Tk.lst " ") (by decide +kernel)]
  exact l2
 rw [bG] at l1 l2
 have l4:(Txt.split (apart z) " ").length<=1000000:=by
  have:=PyProof.Rows.split_le (apart z) " "
  omega
 refine⟨_,rfl,z,rfl,by omega,_,rfl,by omega,_,rfl,by omega,?_⟩
 refine⟨_,rfl,rfl,apart z," ",rfl,rfl,by decide +kernel,by omega,l4,fun l hl=>⟨l,rfl,⟨_,SqL.of ad⟩,?_⟩⟩
 have sl:=ae hl (.lst ((Txt.split (apart z) " ").map V.str))
 have hk:∀(n:Nat) (u:V),((Txt.split (apart z) " ").map V.str)[n]?=some u->∃y,u=V.str y/\(Txt.split (apart z) " ")[n]?=some y:=fun n u e=>by
  rw [List.getElem?_map] at e
  obtain⟨y,hy,rfl⟩:=Option.map_eq_some_iff.mp e
  exact⟨y,rfl,hy⟩
 refine cQ (J:=Itl K l) (xs:=(Txt.split (apart z) " ").map V.str) (fun n ys H3=>H3=upd H l (.lst ((Txt.split (apart z) " ").map V.str))/\ys=(((Txt.split (apart z) " ").take n).filter fun p=>!decide (V.str p=V.str "")).map V.str) ⟨rfl,rfl⟩ (Nat.le_of_lt (mid (by rw [lm0];exact l4))) ?_ ?_ ?_ ?_ ?_ ?_
 ·rintro n ys H3 ⟨_,rfl⟩
  rw [lm0]
  refine Nat.le_trans (List.length_filter_le _ _) ?_
  rw [List.length_take]
  exact Nat.min_le_left _ _
 ·rintro n u ys H3 hu ⟨rfl,_⟩
  exact⟨_,_,SqL.of ad,hu⟩
 ·rintro n ys u H3 H' hn ⟨rfl,_⟩ hy
  exact⟨hy.1,hy.2 _ (SqL.of ad)⟩
 ·rintro ys H3 ⟨rfl,_⟩
  exact⟨_,SqL.of ad,Nat.le_refl _⟩
 ·rintro n u ys H3 N hN hu ⟨rfl,rfl⟩
  obtain⟨y,rfl,hy⟩:=hk n u hu
  refine⟨rfl,_,rfl,rfl,_,rfl,?_⟩
  have et:(((Txt.split (apart z) " ").take (n+1)).filter fun p=>!decide (V.str p=V.str "")).map V.str=(((Txt.split (apart z) " ").take n).filter fun p=>!decide (V.str p=V.str "")).map V.str++(if (!decide (V.str y=V.str ""))=true then [V.str y] else []):=by
   rw [List.take_add_one,hy,List.filter_append,ma0]
   congr 1
   show(([y].filter fun p=>!decide (V.str p=V.str "")).map V.str)=_
   rw [List.filter_cons]
   split<;>rfl
  refine aO (fun c=>?_) (fun c=>?_)
  ·have c':(!decide (V.str y=V.str ""))=true:=c
   exact⟨_,rfl,hN _ _ ⟨rfl,by rw [et,if_pos c']⟩⟩
  ·have c':¬(!decide (V.str y=V.str ""))=true:=c
   exact hN _ _ ⟨rfl,by rw [et,if_neg c',List.append_nil]⟩
 ·rintro ys H3 D ⟨rfl,rfl⟩ hD
  rw [lm0,List.take_length]
  have hD0:H D=none:=aM.free sl hD
  exact q _ D _ (sl.trans (ae hD _)) hD0 ad (tt z)
def hgt:Nat->List (List Nat)->Option Nat
 |h,[]=>some h
 |h,p::r=>if p=[40] then (if h=30 then none else hgt (h+1) r) else if p=[41] then (if h=0 then none else hgt (h - 1) r) else hgt h r
def fX:List (Addr × List Tr)->List Tr->List (List Nat)
 |[],ts=>aD ts
 |(_,us)::st,ts=>aD us++[40]::fX st ts
theorem eK(a:Addr)(us vs:List Tr):∀st:List (Addr × List Tr),fX (st++[(a,us)]) vs=fX st us++[40]::aD vs
 |[]=>rfl
 |(b,xs)::st=>by
  have ih:=eK a us vs st
  show aD xs++[40]::fX (st++[(a,us)]) vs=(aD xs++[40]::fX st us)++[40]::aD vs
  rw [ih]
  simp
theorem fD(us vs:List Tr):∀st:List (Addr × List Tr),fX st (us++vs)=fX st us++aD vs
 |[]=>ib us vs
 |(b,xs)::st=>by
  have ih:=fD us vs st
  show aD xs++[40]::fX st (us++vs)=(aD xs++[40]::fX st us)++aD vs
  rw [ih]
  simp
inductive uN(K:W.Frag)(CT:Addr):Sp|mk{vs H Q E}(z:Str)(_:vs=[.str z])(_:z.length<=90000)(_:(hgt 0 (Tk.toks (cps z))≠some 0->∀H',aM H H'->E (.ref CT) none H'))(_:(hgt 0 (Tk.toks (cps z))=some 0->∀H' (l:Addr) (xs:List V) (ts:List Tr),aM H H'->H l=none->H' l=some (.lst xs)->aJ K H' xs ts->oks ts->aD ts=Tk.toks (cps z)->Q (.ref l) H')):uN K CT vs H Q E
structure Mid(K:W.Frag)(H H3:Hp)(P O T:Addr)(ws:List Str)(st:List (Addr × List Tr))(ts:List Tr)(ps:List (List Nat))(i:Nat):Prop where
 same:aM H H3
 pl:H3 P=some (.lst (ws.map V.str))
 ol:H3 O=some (.lst (st.map fun p=>.ref p.1))
 tl:∃xs,H3 T=some (.lst xs)/\aJ K H3 xs ts
 sl:∀p∈st,∃ys,H3 p.1=some (.lst ys)/\aJ K H3 ys p.2
 nd:(P::O::T::st.map (·.1)).Nodup
 new:∀a∈O::T::st.map (·.1),H a=none
 ok:oks ts
 oks:∀p∈st,oks p.2
 hg:hgt st.length (ps.drop i)=hgt 0 ps
 fl:fX st ts=ps.take i
 l1:ts.length<=i
 l2:∀p∈st,p.2.length<=i
 l3:st.length<=30
theorem d9{H:Hp}{l a:Addr}{ys xs:List V}{o:HO}(h:H l=some (.lst ys))(t:H a=some (.tup xs)):upd H l o a=some (.tup xs):=by
 rw [aK (fun e=>by rw [e,h] at t;cases t)]
 exact t
theorem wx{H:Hp}{l a:Addr}{xs:List V}{o:HO}(h:H l=none)(t:H a=some (.tup xs)):upd H l o a=some (.tup xs):=by
 rw [aK (aW t h)]
 exact t
theorem gD:ax ["text","outer","trees","piece","closed"] ["text"] (ah ko):=mkS
theorem xZ{f fp CT:Addr}{fd fdp:FuncData}{tk:Tok} (F:Fun K "trees_of" "trees_of" ko f fd) (GP:aV P w K mg base CX0 1 fp fdp ["text"] Bp) (bP:aX K fdp ["text"] []) (kP:W.keepIn K (.ref fp)=true) (mP:mg "pieces_of"=some (.ref fp))
  (mD:mg "DEEPEST"=some (.int 30 tk)) (mT:mg "NoTree"=some (.ref CT)) (xT:W.excIn K CT o5 "ValueError.__new__"=true) (ml:mg "len"=none) (mt:mg "tuple"=none):aV P w K mg base (CX1 P w) 2 f fd ["text"] (uN K CT):=by
 refine F.k1 gD fun cdv A q0 s H vs Q E hr h=>?_
 obtain⟨z,rfl,hz,qE,qQ⟩:=h
 have glD:∀{X:Cx} {pos:Pos},Gl X "DEEPEST"->X.mg=mg->PE X (.Name "DEEPEST" pos) (tC (.int 30)):=fun {X pos} hg hm=>cY hg (by rw [hm];exact mD) (v:=.int 30) ⟨tk,rfl⟩
 refine⟨_,af (aS (i:=1) gD.nd (cc ac))
  (af (aS (i:=2) gD.nd (cc ac))
  (af (fg PassesOwn.leaving rfl (eV (ai GP hr rfl mP kP bP .nil aC (aa (pv 0) ac))) (cU (i:=3) gD.nd rfl (Or.inl rfl))
   (aj (aF (am aZ (pv 3) ak (av _))
    (af (aF (am aZ (aq aw rfl ml boot_len (aa (pv 1) ac)) (glD rfl rfl) (av _)) (aj (bY rfl mT xT (aa (dC (bf ak (bf (sX (glD rfl rfl)) (bf ak fL))) (by decide)) ac))) ar)
    (af (aU (eU PySem.F.plainAttrs_list PySem.F.slot_list_append PySem.F.type_list_append bZ (pv 1) (aa (pv 2) ac)))
    (aj (aS (i:=2) gD.nd (cc ac)))))
    (aj (aF (am aZ (pv 3) ak (av _))
     (af (aF (am aZ (aq aw rfl ml boot_len (aa (pv 1) ac)) ag (av _)) (aj (bY rfl mT xT (aa ak ac))) ar)
     (af (aS (i:=4) gD.nd (aL aI rfl mt aR (aa (pv 2) ac)))
     (af (aS (i:=2) gD.nd (vL PySem.F.plainAttrs_list PySem.F.slot_list_pop PySem.F.type_list_pop wc (pv 1)))
     (aj (aU (eU PySem.F.plainAttrs_list PySem.F.slot_list_append PySem.F.type_list_append bZ (pv 2) (aa (pv 4) ac)))))))
     (aj (aU (eU PySem.F.plainAttrs_list PySem.F.slot_list_append PySem.F.type_list_append bZ (pv 2) (aa (pv 3) ac)))))))))
  (af (aF (am gi (aq aw rfl ml boot_len (aa (pv 1) ac)) ag (av _)) (aj (bY rfl mT xT (aa ak ac))) ar)
  (aj (ao (pv 2)))))),?_⟩
 have r1:∀y:Str,([V.str y]:List V).length<=sizeLine:=fun y=>by show 1<=sizeLine;decide
 refine⟨(sz 0),fun O hO=>⟨(sz 0),fun T0 hT0=>?_⟩⟩
 have hTO:T0≠O:=fun e=>by rw [e,ad] at hT0;cases hT0
 have hT0':H T0=none:=by rw [aK hTO] at hT0;exact hT0
 have s0:=(ae hO (.lst [])).trans (ae hT0 (.lst []))
 refine⟨_,rfl,z,rfl,by omega,fun H1 Pl ws s1 hPn hPl hws=>?_⟩
 have sH1:aM H H1:=s0.trans s1
 have hO1:H1 O=some (.lst []):=s1 _ _ (by rw [aK (Ne.symm hTO)];exact ad)
 have hT1:H1 T0=some (.lst []):=s1 _ _ ad
 have hPO:Pl≠O:=fun e=>by rw [e,aK (Ne.symm hTO),ad] at hPn;cases hPn
 have hPT:Pl≠T0:=fun e=>by rw [e,ad] at hPn;cases hPn
 have wl:ws.length<=90000:=by
  have e1:=congrArg List.length hws
  rw [lm0] at e1
  have e2:=w5 (cps z)
  rw [bG] at e2
  omega
 have hpc:∀(i:Nat) (p:Str),ws[i]?=some p->(Tk.toks (cps z))[i]?=some (cps p)/\Pc (cps p):=fun i p hp=>by
  have e:(Tk.toks (cps z))[i]?=some (cps p):=by rw [<-hws,List.getElem?_map,hp];rfl
  exact⟨e,(iT _ _ nr0).1 _ (List.mem_of_getElem? e)⟩
 refine⟨Pl,rfl,⟨_,SqL.of hPl⟩,mQ (K:=K) (xs:=ws.map V.str) (fun i σ H3=>∃(T:Addr) (st:List (Addr × List Tr)) (ts:List Tr) (v3 v4:Option V),σ=[some (.str z),some (.ref O),some (.ref T),v3,v4]/\Mid K H H3 Pl O T ws st ts (Tk.toks (cps z)) i)
  ⟨T0,[],[],none,none,rfl,⟨sH1,hPl,hO1,⟨[],hT1,.nil⟩,(fun p hp=>nomatch hp),?_,?_,True.intro,(fun p hp=>nomatch hp),rfl,rfl,Nat.le_refl _,(fun p hp=>nomatch hp),Nat.zero_le _⟩⟩ ?_ ?_ ?_⟩
 ·simp only [List.map_nil,List.nodup_cons,List.mem_cons,List.not_mem_nil,or_false,not_or,List.nodup_nil,not_false_eq_true,and_true]
  exact⟨⟨hPO,hPT⟩,Ne.symm hTO⟩
 ·intro a ha
  simp only [List.map_nil,List.mem_cons,List.not_mem_nil,or_false] at ha
  rcases ha with rfl|rfl
  ·exact hO
  ·exact hT0'
 ·rintro i σ H3 _ ⟨T,st,ts,v3,v4,rfl,M⟩
  exact SqL.of M.pl
 ·rintro i y σ H3 hy ⟨T,st,ts,v3,v4,rfl,M⟩
  rw [List.getElem?_map] at hy
  obtain⟨p,hp,rfl⟩:=Option.map_eq_some_iff.mp hy
  obtain⟨hpi,hPc⟩:=hpc i p hp
  have hil:i < ws.length:=(List.getElem?_eq_some_iff.mp hp).1
  have hil2:i < (Tk.toks (cps z)).length:=(List.getElem?_eq_some_iff.mp hpi).1
  obtain⟨xs,hT,hxs⟩:=M.tl
  have hdrop:(Tk.toks (cps z)).drop i=cps p::(Tk.toks (cps z)).drop (i+1):=by rw [List.drop_eq_getElem_cons hil2];congr 1;exact Option.some.inj ((List.getElem?_eq_getElem hil2).symm.trans hpi)
  have htake:(Tk.toks (cps z)).take (i+1)=(Tk.toks (cps z)).take i++[cps p]:=by rw [List.take_add_one,hpi];rfl
  have hg:=M.hg
  rw [hdrop] at hg
  have nd:=M.nd
  simp only [List.nodup_cons,List.mem_cons,not_or] at nd
  obtain⟨⟨nPO,nPT,nPs⟩,⟨nOT,nOs⟩,nTs,nss⟩:=nd
  have hOn:H O=none:=M.new O (.head _)
  have hTn:H T=none:=M.new T (.tail _ (.head _))
  have stl:(st.map fun p=>V.ref p.1).length=st.length:=List.length_map _
  have tsl:xs.length=ts.length:=hxs.length
  have l1:=M.l1
  have l3:=M.l3
  refine⟨_,rfl,rfl,_,rfl,aO (fun c1=>?_) (fun c1=>?_)⟩
  ·have e1:p="(":=V.str.inj (od0 c1)
   have ec:cps p=[40]:=by rw [e1];rfl
   rw [ec,hgt,if_pos rfl] at hg
   refine⟨_,rfl,O,_,rfl,.inl (SqL.of M.ol),rfl,_,rfl,aO (fun c2=>?_) (fun c2=>?_)⟩
   ·have e2:((st.map fun p=>V.ref p.1).length:Int)=30:=V.int.inj (od0 c2)
    have e3:st.length=30:=by rw [stl] at e2;omega
    rw [if_pos e3] at hg
    exact⟨_,rfl,by decide +kernel,.inr ⟨30,rfl,by decide +kernel,_,rfl,by decide +kernel,_,rfl,by decide +kernel,fun zz _=>⟨r1 zz,qE (by rw [<-hg];intro z;cases z) H3 M.same⟩⟩⟩
   ·have e3:st.length≠30:=fun e=>c2 (dt0 (by rw [stl,e];rfl))
    rw [if_neg e3] at hg
    refine⟨_,rfl,.inl ⟨rfl,_,SqL.of M.ol⟩,_,rfl,O,_,_,rfl,rfl,M.ol,mid (by rw [stl];omega),?_⟩
    refine⟨(sz 0),fun T2 hT2=>?_⟩
    have nT2O:T2≠O:=fun e=>by rw [e,ad] at hT2;cases hT2
    have hT2':H3 T2=none:=by rw [aK nT2O] at hT2;exact hT2
    have keep:∀a us,H3 a=some (.tup us)->upd (upd H3 O (.lst ((st.map fun p=>V.ref p.1)++[.ref T]))) T2 (.lst []) a=some (.tup us):=fun a us h=>wx hT2 (d9 M.ol h)
    have hold:∀{b:Addr} {u:HO},b≠O->H3 b=some u->upd (upd H3 O (.lst ((st.map fun p=>V.ref p.1)++[.ref T]))) T2 (.lst []) b=some u:=fun {b u} nb h=>by
     rw [aK (aW h hT2'),aK nb]
     exact h
    refine⟨T2,st++[(T,ts)],[],_,_,rfl,⟨?_,hold nPO M.pl,?_,⟨[],ad,.nil⟩,fun q hq=>?_,?_,fun a ha=>?_,True.intro,fun q hq=>?_,?_,?_,Nat.zero_le _,fun q hq=>?_,?_⟩⟩
    ·exact j7 (j7 M.same hOn) (aM.free M.same hT2')
    ·rw [aK (Ne.symm nT2O),ad,ma0]
     rfl
    ·rcases List.mem_append.mp hq with hq|hq
     ·obtain⟨ys,h1,h2⟩:=M.sl q hq
      exact⟨ys,hold (fun e=>nOs (e▸List.mem_map_of_mem (f:=(·.1)) hq)) h1,h2.keep keep⟩
     ·rw [List.mem_singleton.mp hq]
      exact⟨xs,hold (Ne.symm nOT) hT,hxs.keep keep⟩
    ·have nT2:∀b,(∃u,H3 b=some u)->T2≠b:=fun b hb e=>by
      obtain⟨u,hu⟩:=hb
      rw [<-e,hT2'] at hu
      cases hu
     rw [ma0]
     show(Pl::O::T2::(st.map (·.1)++[T])).Nodup
     simp only [List.nodup_cons,List.mem_cons,List.mem_append,List.not_mem_nil,or_false,not_or,List.nodup_append,List.nodup_nil,not_false_eq_true,and_true,true_and]
     refine⟨⟨nPO,Ne.symm (nT2 Pl ⟨_,M.pl⟩),nPs,nPT⟩,⟨Ne.symm nT2O,nOs,nOT⟩,⟨fun hm=>?_,nT2 T ⟨_,hT⟩⟩,nss,fun a ha b hb=>?_⟩
     ·obtain⟨q,hq,e⟩:=List.mem_map.mp hm
      obtain⟨ys,h1,_⟩:=M.sl q hq
      exact nT2 q.1 ⟨_,h1⟩ e.symm
     ·rw [hb]
      exact fun e=>nTs (e▸ha)
    ·rw [ma0] at ha
     simp only [List.mem_cons,List.mem_append,List.map_cons,List.map_nil,List.not_mem_nil,or_false] at ha
     rcases ha with rfl|rfl|ha|rfl
     ·exact hOn
     ·exact aM.free M.same hT2'
     ·exact M.new a (.tail _ (.tail _ ha))
     ·exact hTn
    ·rcases List.mem_append.mp hq with hq|hq
     ·exact M.oks q hq
     ·rw [List.mem_singleton.mp hq]
      exact M.ok
    ·rw [la0]
     exact hg
    ·rw [eK,M.fl,htake,ec]
     rfl
    ·rcases List.mem_append.mp hq with hq|hq
     ·exact Nat.le_succ_of_le (M.l2 q hq)
     ·rw [List.mem_singleton.mp hq]
      exact Nat.le_succ_of_le l1
    ·rw [la0]
     show st.length+1<=30
     omega
  ·have n1:cps p≠[40]:=fun e=>c1 (dt0 (congrArg V.str (Tk.lst_inj (e.trans (show([40]:List Nat)=Tk.lst "(" from rfl)))))
   rw [hgt,if_neg n1] at hg
   refine⟨_,rfl,rfl,_,rfl,aO (fun c2=>?_) (fun c2=>?_)⟩
   ·have e1:p=")":=V.str.inj (od0 c2)
    have ec:cps p=[41]:=by rw [e1];rfl
    rw [ec,if_pos rfl] at hg
    refine⟨_,rfl,O,_,rfl,.inl (SqL.of M.ol),rfl,_,rfl,aO (fun c3=>?_) (fun c3=>?_)⟩
    ·have e2:((st.map fun p=>V.ref p.1).length:Int)=0:=V.int.inj (od0 c3)
     have e3:st.length=0:=by rw [stl] at e2;omega
     rw [if_pos e3] at hg
     exact⟨r1 _,qE (by rw [<-hg];intro z;cases z) H3 M.same⟩
    ·have e3:st.length≠0:=fun e=>c3 (dt0 (by rw [stl,e];rfl))
     rw [if_neg e3] at hg
     have hne:st≠[]:=fun e=>e3 (by rw [e];rfl)
     obtain⟨st',⟨T2,us⟩,rfl⟩:∃st' q,st=st'++[q]:=⟨_,_,(List.dropLast_concat_getLast hne).symm⟩
     obtain⟨ys,hT2,hys⟩:=M.sl (T2,us) (List.mem_append_right _ (.head _))
     refine⟨_,rfl,T,xs,rfl,.inl ⟨SqL.of hT,fun ta hta=>?_⟩⟩
     have sA:=ae hta (.tup xs)
     have ol':upd H3 ta (.tup xs) O=some (.lst ((st'.map fun p=>V.ref p.1)++[.ref T2])):=by
      have:=sA _ _ M.ol
      rw [ma0] at this
      exact this
     refine⟨_,rfl,.inl ⟨rfl,_,SqL.of ol'⟩,O,_,.ref T2,rfl,rfl,ol',mw,?_⟩
     rw [List.dropLast_concat]
     have nOT2:T2≠O:=fun e=>nOs (by rw [ma0];exact List.mem_append_right _ (by rw [<-e];exact .head _))
     have hT2':upd (upd H3 ta (.tup xs)) O (.lst (st'.map fun p=>V.ref p.1)) T2=some (.lst ys):=by rw [aK nOT2];exact sA _ _ hT2
     have hul:ys.length<=90000:=by
      have e:=M.l2 (T2,us) (List.mem_append_right _ (.head _))
      have e2:=hys.length
      have e3:us.length<=i:=e
      omega
     refine⟨_,rfl,.inl ⟨rfl,_,SqL.of hT2'⟩,_,rfl,T2,_,_,rfl,rfl,hT2',mid (by omega),?_⟩
     have keep:∀a zs,upd H3 ta (.tup xs) a=some (.tup zs)->upd (upd (upd H3 ta (.tup xs)) O (.lst (st'.map fun p=>V.ref p.1))) T2 (.lst (ys++[.ref ta])) a=some (.tup zs):=fun a zs h=>d9 hT2' (d9 ol' h)
     have keep0:∀a zs,H3 a=some (.tup zs)->upd (upd (upd H3 ta (.tup xs)) O (.lst (st'.map fun p=>V.ref p.1))) T2 (.lst (ys++[.ref ta])) a=some (.tup zs):=fun a zs h=>keep a zs (sA _ _ h)
     have hold:∀{b:Addr} {u:HO},b≠O->b≠T2->H3 b=some u->upd (upd (upd H3 ta (.tup xs)) O (.lst (st'.map fun p=>V.ref p.1))) T2 (.lst (ys++[.ref ta])) b=some u:=fun {b u} nb nb2 h=>by
      rw [aK nb2,aK nb]
      exact sA _ _ h
     have hT2n:H T2=none:=M.new T2 (.tail _ (.tail _ (by rw [ma0];exact List.mem_append_right _ (.head _))))
     have nPT2:Pl≠T2:=fun e=>nPs (by rw [ma0];exact List.mem_append_right _ (by rw [e];exact .head _))
     have ndS:(st'.map (·.1)).Nodup/\T2∉st'.map (·.1):=by
      have h:=nss
      rw [ma0,List.nodup_append] at h
      exact⟨h.1,fun hm=>h.2.2 T2 hm T2 (.head _) rfl⟩
     refine⟨T2,st',us++[.n ts],_,_,rfl,⟨?_,hold nPO nPT2 M.pl,?_,⟨ys++[.ref ta],ad,(hys.keep keep0).append (.cons (.n (keep _ _ ad) (hxs.keep keep0)) .nil)⟩,fun q hq=>?_,?_,fun a ha=>?_,?_,fun q hq=>?_,?_,?_,?_,fun q hq=>?_,?_⟩⟩
     ·exact j7 (j7 (M.same.trans sA) hOn) hT2n
     ·rw [aK (Ne.symm nOT2),ad]
     ·obtain⟨zs,h1,h2⟩:=M.sl q (List.mem_append_left _ hq)
      exact⟨zs,hold (fun e=>nOs (by rw [ma0,<-e];exact List.mem_append_left _ (List.mem_map_of_mem (f:=(·.1)) hq))) (fun e=>ndS.2 (e▸List.mem_map_of_mem (f:=(·.1)) hq)) h1,h2.keep keep0⟩
     ·simp only [List.nodup_cons,List.mem_cons,not_or]
      refine⟨⟨nPO,nPT2,fun hm=>nPs (by rw [ma0];exact List.mem_append_left _ hm)⟩,⟨Ne.symm nOT2,fun hm=>nOs (by rw [ma0];exact List.mem_append_left _ hm)⟩,ndS.2,ndS.1⟩
     ·simp only [List.mem_cons] at ha
      rcases ha with rfl|rfl|ha
      ·exact hOn
      ·exact hT2n
      ·exact M.new a (.tail _ (.tail _ (by rw [ma0];exact List.mem_append_left _ ha)))
     ·exact jx (M.oks (T2,us) (List.mem_append_right _ (.head _))) ⟨M.ok,True.intro⟩
     ·exact M.oks q (List.mem_append_left _ hq)
     ·rw [la0] at hg
      exact hg
     ·rw [fD,fB,htake,ec,<-M.fl,eK]
      show _++[40]::(aD ts++[[41]])=_
      simp
     ·have e:=M.l2 (T2,us) (List.mem_append_right _ (.head _))
      have e2:us.length<=i:=e
      rw [la0]
      show us.length+1<=i+1
      omega
     ·exact Nat.le_succ_of_le (M.l2 q (List.mem_append_left _ hq))
     ·rw [la0] at l3
      exact Nat.le_trans (Nat.le_add_right _ _) l3
   ·have n2:cps p≠[41]:=fun e=>c2 (dt0 (congrArg V.str (Tk.lst_inj (e.trans (show([41]:List Nat)=Tk.lst ")" from rfl)))))
    rw [if_neg n2] at hg
    have hW:Tk.Word (cps p):=hPc.elim (fun e=>absurd e n1) fun h=>h.elim (fun e=>absurd e n2) id
    refine⟨_,rfl,.inl ⟨rfl,_,SqL.of hT⟩,_,rfl,T,_,_,rfl,rfl,hT,mid (by omega),?_⟩
    have keep:∀a zs,H3 a=some (.tup zs)->upd H3 T (.lst (xs++[.str p])) a=some (.tup zs):=fun a zs h=>d9 hT h
    have hold:∀{b:Addr} {u:HO},b≠T->H3 b=some u->upd H3 T (.lst (xs++[.str p])) b=some u:=fun {b u} nb h=>by rw [aK nb];exact h
    refine⟨T,st,ts++[.w p],_,_,rfl,⟨j7 M.same hTn,hold nPT M.pl,hold nOT M.ol,⟨xs++[.str p],ad,(hxs.keep keep).append (.cons (.w p) .nil)⟩,fun q hq=>?_,M.nd,M.new,jx (b:=[.w p]) M.ok ⟨hW,True.intro⟩,M.oks,hg,?_,?_,fun q hq=>Nat.le_succ_of_le (M.l2 q hq),l3⟩⟩
    ·obtain⟨zs,h1,h2⟩:=M.sl q hq
     exact⟨zs,hold (fun e=>nTs (e▸List.mem_map_of_mem (f:=(·.1)) hq)) h1,h2.keep keep⟩
    ·rw [fD,fB,M.fl,htake]
     rfl
    ·rw [la0]
     exact Nat.succ_le_succ l1
 ·rintro σ H3 ⟨T,st,ts,v3,v4,rfl,M⟩
  have ew:(ws.map V.str).length=(Tk.toks (cps z)).length:=by
   rw [lm0,<-hws,lm0]
  have M2:=M
  rw [ew] at M2
  obtain⟨xs,hT,hxs⟩:=M2.tl
  have hg:=M2.hg
  rw [List.drop_length] at hg
  have hg':some st.length=hgt 0 (Tk.toks (cps z)):=hg
  have stl:(st.map fun p=>V.ref p.1).length=st.length:=List.length_map _
  refine⟨_,rfl,O,_,rfl,.inl (SqL.of M2.ol),_,_,rfl,rfl,_,rfl,aO (fun c=>?_) (fun c=>?_)⟩
  ·have c':(0:Int) < ((st.map fun p=>V.ref p.1).length:Int):=od0 c
   rw [stl] at c'
   exact⟨r1 _,qE (by rw [<-hg'];intro z;have:=Option.some.inj z;omega) H3 M2.same⟩
  ·have c':¬(0:Int) < ((st.map fun p=>V.ref p.1).length:Int):=of_decide_eq_false (Bool.eq_false_iff.mpr c)
   rw [stl] at c'
   have e0:st=[]:=List.length_eq_zero_iff.mp (by omega)
   subst e0
   refine⟨_,rfl,qQ hg'.symm H3 T xs ts M2.same (M2.new T (.tail _ (.head _))) hT hxs M2.ok ?_⟩
   have:=M2.fl
   rw [List.take_length] at this
   exact this
mutual
def Tr.dep:Tr->Nat
 |.w _=>0
 |.n ts=>1+fF ts
def fF:List Tr->Nat
 |[]=>0
 |t::ts=>max t.dep (fF ts)
end
theorem ir{s:Str}(hw:Tk.Word (cps s)):cps s≠[40]/\cps s≠[41] :=
 ⟨fun z=>(hw.2 40 (by rw [z];exact .head _)).1 rfl,fun z=>(hw.2 41 (by rw [z];exact .head _)).2.1 rfl⟩
mutual
theorem wN:∀{t:Tr},t.ok->∀{h:Nat} {r:List (List Nat)} {k:Nat},h<=30->hgt h (t.flat++r)=some k->h+t.dep<=30/\hgt h r=some k
 |.w s,hw,h,r,k,hl,e=>by
  refine⟨hl,?_⟩
  obtain⟨n1,n2⟩:=ir (s:=s) hw
  have e':hgt h (cps s::r)=some k:=e
  rw [hgt,if_neg n1,if_neg n2] at e'
  exact e'
 |.n ts,ho,h,r,k,hl,e=>by
  have e':hgt h ([40]::((aD ts++[[41]])++r))=some k:=e
  rw [hgt,if_pos rfl] at e'
  split at e'
  ·cases e'
  ·rw [List.append_assoc] at e'
   obtain⟨h1,h2⟩:=ju (ts:=ts) ho (by omega) e'
   have h3:hgt (h+1) ([41]::r)=some k:=h2
   rw [hgt,if_neg (by decide),if_pos rfl,if_neg (by omega)] at h3
   refine⟨?_,h3⟩
   show h+(1+fF ts)<=30
   omega
theorem ju:∀{ts:List Tr},oks ts->∀{h:Nat} {r:List (List Nat)} {k:Nat},h<=30->hgt h (aD ts++r)=some k->h+fF ts<=30/\hgt h r=some k
 |[],_,h,r,k,hl,e=>⟨hl,e⟩
 |t::ts,⟨h1,h2⟩,h,r,k,hl,e=>by
  have e':hgt h ((t.flat++aD ts)++r)=some k:=e
  rw [List.append_assoc] at e'
  obtain⟨a1,a2⟩:=wN h1 hl e'
  obtain⟨b1,b2⟩:=ju h2 hl a2
  refine⟨?_,b2⟩
  show h+max t.dep (fF ts)<=30
  omega
end
theorem u8{ts:List Tr}(h:oks ts)(e:hgt 0 (aD ts)=some 0):fF ts<=30:=by
 have:=(ju (h:=0) (r:=[]) (k:=0) h (by decide) (by rw [List.append_nil];exact e)).1
 omega
theorem gF:∀{ts:List Tr} {t:Tr},t∈ts->t.dep<=fF ts
 |u::r,t,h=>by
  show _<=max u.dep (fF r)
  rcases mc0 h with rfl|z
  ·omega
  ·have:=gF z
   omega
def yL(a:List Nat):Prop:=∀b,Tk.toks (a++b)=Tk.toks a++Tk.toks b
theorem xJ:yL []:=fun b=>rfl
theorem jn{a:List Nat}{c:Nat}(h:c=40\/c=41\/c=10\/c=32):yL (a++[c]):=fun b=>by
 rw [List.append_assoc]
 show Tk.toks (a++c::b)=Tk.toks (a++c::[])++Tk.toks b
 rcases h with rfl|rfl|rfl|rfl
 ·rw [Tk.toks_op,Tk.toks_op,List.append_assoc]
  rfl
 ·rw [Tk.toks_cl,Tk.toks_cl,List.append_assoc]
  rfl
 ·rw [Tk.toks_nl,Tk.toks_nl,List.append_assoc]
  rfl
 ·rw [Tk.toks_sp,Tk.toks_sp,List.append_assoc]
  rfl
def gz(g:List Nat):Prop:=∀c∈g,c=10\/c=32
theorem gf{a:List Nat}:∀{g:List Nat},gz g->Tk.toks (a++g)=Tk.toks a/\(g≠[]->yL (a++g)):=by
 intro g
 induction g generalizing a with
 |nil =>
  intro _
  rw [List.append_nil]
  exact⟨rfl,fun h=>absurd rfl h⟩
 |cons c r ih =>
  intro h
  have hc:=h c List.mem_cons_self
  have sc:yL (a++[c]):=jn (by omega)
  have e1:Tk.toks (a++[c])=Tk.toks a:=by
   rcases hc with rfl|rfl
   ·rw [Tk.toks_nl]
    exact List.append_nil _
   ·rw [Tk.toks_sp]
    exact List.append_nil _
  obtain⟨i1,i2⟩:=ih (a:=a++[c]) fun d hd=>h d (List.mem_cons_of_mem _ hd)
  have ea:(a++[c])++r=a++c::r:=by rw [List.append_assoc];rfl
  rw [ea] at i1 i2
  refine⟨by rw [i1,e1],fun _=>?_⟩
  by_cases hr:r=[]
  ·subst hr
   exact sc
  ·exact i2 hr
theorem u6{a p:List Nat}(hp:Pc p)(h:Tk.Word p->yL a):Tk.toks (a++p)=Tk.toks a++[p]:=by
 rcases hp with rfl|rfl|hw
 ·rw [Tk.toks_op]
  rfl
 ·rw [Tk.toks_cl]
  rfl
 ·rw [h hw,Tk.toks_word hw]
theorem lX{α:Type}{xs:List α}{i:Int}(h0:0<=i)(h1:i < xs.length):∃v,atI xs i=some v:=by
 have hk:i.toNat < xs.length:=by omega
 have e:i=((i.toNat:Nat):Int):=by omega
 have q:atI xs ((i.toNat:Nat):Int)=some xs[i.toNat]:=cm (by simp)
 rw [<-e] at q
 exact⟨_,q⟩
theorem zk{ns:List Int}{i:Int}(h0:0<=i)(h1:i < ns.length):∃v:Int,atI (ns.map V.int) i=some (.int v):=by
 have hk:i.toNat < ns.length:=by omega
 have e:i=((i.toNat:Nat):Int):=by omega
 have q:atI (ns.map V.int) ((i.toNat:Nat):Int)=some (.int ns[i.toNat]):=cm (by simp [hk])
 rw [<-e] at q
 exact⟨_,q⟩
theorem jP{α:Type}{xs:List α}{i:Int}{g:α}(hm:atI xs i=some g):g∈xs:=by
 obtain⟨j,_,h⟩:=Option.bind_eq_some_iff.mp (show((ixN xs.length i).bind fun j=>xs[j]?)=some g from hm)
 exact List.mem_of_getElem? h
inductive yI(K:W.Frag):Sp|mk{vs H Q E}(a:Addr)(ns:List Int)(k:Int)(_:vs=[.ref a,.int k])(_:SqL K H a (ns.map V.int))(_:ns.length<=63)(_:0<=k)(_:k<=1000)(_:∀c:Int,Q (.int c) H):yI K vs H Q E
def pH(s:Str):Prop:=s.length<=25/\Pc (cps s)/\∀c∈cps s,c < 0x110000
theorem iF:∀(a b:List (List Nat)) (h:Nat),hgt h (a++b)=(hgt h a).bind fun k=>hgt k b
 |[],b,h=>rfl
 |c::a,b,h=>by
  show hgt h (c::(a++b))=_
  rw [hgt,hgt]
  split
  ·split
   ·rfl
   ·exact iF a b _
  ·split
   ·split
    ·rfl
    ·exact iF a b _
   ·exact iF a b h
theorem yU:pH "(":=⟨by decide +kernel,.inl rfl,by decide +kernel⟩
theorem yT:pH ")":=⟨by decide +kernel,.inr (.inl rfl),by decide +kernel⟩
theorem dF(a b:Str):(a++b).length=a.length+b.length:=by
 show(a.cps++b.cps).size=_
 rw [Array.size_append]<;>rfl
theorem dg(a b:Str):cps (a++b)=cps a++cps b:=Tk.lst_app a b
theorem uh:ax ["_law_script","_law_k","_law_number_here"] ["_law_script","_law_k"] (ah ss):=mkS
theorem An{f:Addr}{fd:FuncData} (F:Fun K "_law_cell" "_law_cell" ss f fd) (ml:mg "len"=none):aV P w K mg base CX0 1 f fd ["_law_script","_law_k"] (yI K):=by
 refine F.k0 uh fun cdv A q0 s H vs Q E hr h=>?_
 obtain⟨a,ns,k,rfl,hS,h63,h0,h1,q⟩:=h
 refine⟨_,af (aF (am ij (pv 1) (aq aw rfl ml boot_len (aa (pv 0) ac)) (av _))
   (aj (ao (aB ca (aB gQ (ix0 bd (pv 0) (pv 1)) ag) (aB gQ ag (pv 1))))) ar)
  (af (aS (i:=2) uh.nd (aB ca (aB gQ ag (pv 1)) ag))
  (af (aF (am gi (aq aw rfl ml boot_len (aa (pv 0) ac)) ag (av _))
   (aj (aS (i:=2) uh.nd (aB ca (aB gQ (aB cg (ix0 bd (pv 0) (aB cg (pv 1) (aq aw rfl ml boot_len (aa (pv 0) ac)))) ag) ag)
    (aB gQ (aB gQ ag (pv 1)) (pv 1))))) ar)
  (aj (ao (aB cg (pv 2) ag))))),?_⟩
 have hl:(ns.map V.int).length=ns.length:=List.length_map _
 refine⟨_,rfl,_,rfl,a,_,rfl,.inl hS,_,_,rfl,rfl,_,rfl,?_⟩
 refine aO (fun c=>?_) (fun c=>?_)
 ·have c':k < (((ns.map V.int).length:Nat):Int):=od0 c
  rw [hl] at c'
  obtain⟨v,hv⟩:=zk (ns:=ns) h0 c'
  exact⟨_,rfl,_,rfl,a,_,_,_,rfl,rfl,hS,hv,_,_,rfl,rfl,.inr ⟨by omega,by omega⟩,_,rfl,_,_,rfl,rfl,.inl ⟨by omega,by omega⟩,_,_,rfl,rfl,q _⟩
 ·refine⟨_,rfl,_,_,rfl,rfl,.inl ⟨by omega,by omega⟩,_,_,rfl,rfl,?_⟩
  refine⟨_,rfl,a,_,rfl,.inl hS,_,_,rfl,rfl,_,rfl,?_⟩
  refine aO (fun d=>?_) (fun d=>?_)
  ·have d':0 < (((ns.map V.int).length:Nat):Int):=od0 d
   rw [hl] at d'
   obtain⟨v,hv⟩:=zk (ns:=ns) (i:=k%(((ns.map V.int).length:Nat):Int)) (by rw [hl];exact Int.emod_nonneg _ (by omega)) (by rw [hl];exact Int.emod_lt_of_pos _ d')
   refine⟨_,rfl,_,rfl,_,rfl,a,_,rfl,.inl hS,_,_,rfl,rfl,(by rw [hl];exact d'),a,_,_,_,rfl,rfl,hS,hv,_,_,rfl,rfl,(by show(0:Int) < 1000003;decide),_,_,rfl,rfl,.inr ⟨by omega,by omega⟩,?_⟩
   refine⟨_,rfl,_,_,rfl,rfl,.inl ⟨by omega,by omega⟩,_,rfl,_,_,rfl,rfl,.inr ⟨by omega,by omega⟩,_,_,rfl,rfl,?_⟩
   exact⟨_,rfl,_,_,rfl,rfl,(by show(0:Int) < 2147483647;decide),q _⟩
  ·exact⟨_,rfl,_,_,rfl,rfl,(by show(0:Int) < 2147483647;decide),q _⟩
theorem jG{s:Str}(h:Tk.Word (cps s)):(!(Builtin.Str.occurrences (Str.ofString "()") s 0 (Str.ofString "()").length 1).isEmpty)=false:=by
 rw [Bool.eq_false_iff]
 intro z
 obtain⟨i,_,hs⟩:=(StrLaws.found_iff _ _).mp z
 rw [StrLaws.subAt_eq,beq_iff_eq] at hs
 cases hc:cps s with
 |nil=>exact h.1 hc
 |cons c r =>
  have m0:c∈s.cps.toList:=by
   show c∈cps s
   rw [hc]
   exact .head _
  rw [<-hs] at m0
  have m:=List.mem_of_mem_drop (List.mem_of_mem_take m0)
  have w:=h.2 c (by rw [hc];exact .head _)
  have k:∀c∈(Str.ofString "()").cps.toList,c=40\/c=41:=by decide +kernel
  have:=k c m
  omega
inductive uS(K:W.Frag):Sp|mk{vs H Q E}(p:Addr)(ws:List Str)(c:Int)(_:vs=[.ref p,.int c])(_:SqL K H p (ws.map V.str))(_:ws.length<=400)(_:(∀s∈ws,pH s))(_:∀H' (z:Str),aM H H'->Tk.toks (cps z)=ws.map cps->z.length<=12000->Q (.str z) H'):uS K vs H Q E
theorem D8{i:Int}{v:V} (h:atI [V.str "",V.str " ",V.str "\n",V.str "  "] i=some v):∃g:Str,v=.str g/\gz (cps g)/\g.length<=2:=by
 have m:=jP h
 simp only [List.mem_cons,List.mem_nil_iff,or_false] at m
 rcases m with rfl|rfl|rfl|rfl
 ·exact⟨_,rfl,(by unfold gz;decide +kernel),by decide +kernel⟩
 ·exact⟨_,rfl,(by unfold gz;decide +kernel),by decide +kernel⟩
 ·exact⟨_,rfl,(by unfold gz;decide +kernel),by decide +kernel⟩
 ·exact⟨_,rfl,(by unfold gz;decide +kernel),by decide +kernel⟩
theorem Co{i:Int}{v:V} (h:atI [V.str "",V.str " ",V.str "\n "] i=some v):∃g:Str,v=.str g/\gz (cps g)/\g.length<=2:=by
 have m:=jP h
 simp only [List.mem_cons,List.mem_nil_iff,or_false] at m
 rcases m with rfl|rfl|rfl
 ·exact⟨_,rfl,(by unfold gz;decide +kernel),by decide +kernel⟩
 ·exact⟨_,rfl,(by unfold gz;decide +kernel),by decide +kernel⟩
 ·exact⟨_,rfl,(by unfold gz;decide +kernel),by decide +kernel⟩
theorem DY{i:Int}{v:V} (h:atI [V.str "",V.str "\n",V.str " "] i=some v):∃g:Str,v=.str g/\gz (cps g)/\g.length<=2:=by
 have m:=jP h
 simp only [List.mem_cons,List.mem_nil_iff,or_false] at m
 rcases m with rfl|rfl|rfl
 ·exact⟨_,rfl,(by unfold gz;decide +kernel),by decide +kernel⟩
 ·exact⟨_,rfl,(by unfold gz;decide +kernel),by decide +kernel⟩
 ·exact⟨_,rfl,(by unfold gz;decide +kernel),by decide +kernel⟩
theorem iJ:ax ["_law_tokens_here","_law_cell_here","_law_text","_law_k","_law_gap"] ["_law_tokens_here","_law_cell_here"] (ah lm):=mkS
theorem ya{f:Addr}{fd:FuncData} (F:Fun K "_law_loose" "_law_loose" lm f fd) (ml:mg "len"=none) (mr:mg "range"=none):aV P w K mg base CX0 1 f fd ["_law_tokens_here","_law_cell_here"] (uS K):=by
 refine F.k0 iJ fun cdv A q0 s H vs Q E hr h=>?_
 obtain⟨p,ws,c,rfl,hp,hl,htk,q⟩:=h
 refine⟨_,af (aS (i:=2) iJ.nd (ix0 bd (cc (aa ak (aa ak (aa ak ac)))) (aB cg (pv 1) ag)))
  (af (fg PassesOwn.never rfl (dN rfl mr (aa (aq aw rfl ml boot_len (aa (pv 0) ac)) ac)) (cU (i:=3) iJ.nd rfl (Or.inl rfl))
   (af (aS (i:=4) iJ.nd (ix0 bd (cc (aa ak (aa ak (aa ak (aa ak ac))))) (aB cg (aB ca (aB bj (pv 1) ag) (aB gQ (pv 3) (aB ca ag (aB cg (aB bj (pv 1) ag) ag)))) ag)))
   (af (aF (PW.pt (cr (am aZ (pv 4) ak (av _)) (cr (am gi (pv 3) ag (av _)) (cr (am i6 (ix0 bd (pv 0) (aB rq (pv 3) ag)) ak (by with_unfolding_all rfl)) (cz (am i6 (ix0 bd (pv 0) (pv 3)) ak (by with_unfolding_all rfl)))))))
    (aj (aS (i:=4) iJ.nd ak)) ar)
   (aj (aS (i:=2) iJ.nd (aB bu (aB bu (pv 2) (pv 4)) (ix0 bd (pv 0) (pv 3))))))))
  (aj (ao (aB bu (pv 2) (ix0 bd (cc (aa ak (aa ak (aa ak ac)))) (aB cg (aB bj (pv 1) ag) ag)))))),?_⟩
 have wl:(ws.map V.str).length=ws.length:=List.length_map _
 refine⟨(sz 3),fun l1 hl1=>?_⟩
 have s1:=ae hl1 (.lst [V.str "",V.str " ",V.str "\n "])
 obtain⟨v0,e0⟩:=lX (xs:=[V.str "",V.str " ",V.str "\n "]) (i:=c%3) (Int.emod_nonneg _ (by decide)) (Int.lt_of_lt_of_le (Int.emod_lt_of_pos _ (by decide)) (by decide))
 obtain⟨g0,rfl,b0,n0⟩:=Co e0
 refine⟨_,rfl,_,_,rfl,rfl,(by show(0:Int) < 3;decide),l1,_,_,_,rfl,rfl,SqL.of ad,e0,?_⟩
 refine⟨_,rfl,p,_,rfl,.inl (s1.seq hp),_,rfl,by omega,by omega,gX (lo:=0) (n:=(((ws.map V.str).length:Nat):Int).toNat) (fun i σ H3=>∃(z:Str) (v3 v4:Option V),σ=[some (.ref p),some (.int c),some (.str z),v3,v4]/\aM H H3/\Tk.toks (cps z)=(ws.take i).map cps/\z.length<=2+27*i/\((∀j p0,i=j+1->ws[j]?=some p0->¬Tk.Word (cps p0))->yL (cps z)))
  ⟨g0,none,none,rfl,s1,?_,n0,fun _=>?_⟩ ?_ ?_⟩
 ·have:=(gf (a:=[]) b0).1
  exact this
 ·by_cases h:cps g0=[]
  ·rw [h]
   exact xJ
  ·exact(gf (a:=[]) b0).2 h
 ·rintro i σ H3 hi ⟨z,v3,v4,rfl,s3,ht,hzl,hsh⟩
  rw [Int.toNat_natCast,wl] at hi
  obtain⟨p',hp'⟩:∃p',ws[i]?=some p':=⟨_,List.getElem?_eq_getElem hi⟩
  obtain⟨tl,tpc,_⟩:=htk p' (List.mem_of_getElem? hp')
  have hat:atI (ws.map V.str) (0+(i:Int))=some (.str p'):=by
   rw [Int.zero_add]
   exact cm (by rw [List.getElem?_map,hp'];rfl)
  refine⟨(sz 4),fun l2 hl2=>?_⟩
  have s2:=ae hl2 (.lst [V.str "",V.str " ",V.str "\n",V.str "  "])
  have hsq2:=(s3.trans s2).seq hp
  obtain⟨vg,eg⟩:=lX (xs:=[V.str "",V.str " ",V.str "\n",V.str "  "]) (i:=(c / 3+(0+(i:Int))*(1+c / 7%11))%4) (Int.emod_nonneg _ (by decide)) (Int.lt_of_lt_of_le (Int.emod_lt_of_pos _ (by decide)) (by decide))
  obtain⟨g,rfl,bg,ng⟩:=D8 eg
  refine⟨_,rfl,_,_,rfl,rfl,⟨by decide,by decide⟩,_,rfl,_,rfl,_,_,rfl,rfl,⟨by decide,by decide⟩,_,_,rfl,rfl,(by show(0:Int) < 11;decide),_,_,rfl,rfl,_,_,rfl,rfl,.inl ⟨by omega,by omega⟩,_,_,rfl,rfl,?_⟩
  refine⟨_,_,rfl,rfl,(by show(0:Int) < 4;decide),l2,_,_,_,rfl,rfl,SqL.of ad,eg,?_⟩
  have fin:∀(g':Str),gz (cps g')->g'.length<=2->(Tk.Word (cps p')->yL (cps z++cps g'))->(z.length+g'.length<=sizeLine/\(z++g').length+p'.length<=sizeLine)/\∃(z2:Str) (v3 v4:Option V),([some (.ref p),some (.int c),some (.str ((z++g')++p')),some (.int (0+(i:Int))),some (.str g')]:St)=[some (.ref p),some (.int c),some (.str z2),v3,v4]/\aM H (upd H3 l2 (.lst [V.str "",V.str " ",V.str "\n",V.str "  "]))/\Tk.toks (cps z2)=(ws.take (i+1)).map cps/\z2.length<=2+27*(i+1)/\((∀j p0,i+1=j+1->ws[j]?=some p0->¬Tk.Word (cps p0))->yL (cps z2)):=fun g' bg' ng' sh=>by
   have ec:cps ((z++g')++p')=(cps z++cps g')++cps p':=by rw [dg,dg]
   refine⟨⟨Nat.le_of_lt (mid (by omega)),Nat.le_of_lt (mid (by rw [dF];omega))⟩,(z++g')++p',_,_,rfl,s3.trans s2,?_,?_,fun hn=>?_⟩
   ·rw [ec,u6 tpc sh,(gf bg').1,ht,List.take_add_one,hp',ma0]
    rfl
   ·rw [dF,dF]
    omega
   ·rw [ec]
    rcases tpc with e|e|hw
    ·rw [e]
     exact jn (.inl rfl)
    ·rw [e]
     exact jn (.inr (.inl rfl))
    ·exact absurd hw (hn i p' rfl hp')
  refine⟨_,rfl,rfl,_,rfl,aO (fun c1=>?_) (fun c1=>bx ?_)⟩
  ·have eg0:g="":=V.str.inj (od0 c1)
   have ec0:cps z++cps g=cps z:=by rw [eg0];exact List.append_nil _
   refine⟨_,rfl,_,_,rfl,rfl,_,rfl,aO (fun c2=>?_) (fun c2=>bx ?_)⟩
   ·have c2':(0:Int)+(i:Int) > 0:=od0 c2
    obtain⟨j,rfl⟩:∃j,i=j+1:=⟨i - 1,by omega⟩
    obtain⟨p0,hp0⟩:∃p0,ws[j]?=some p0:=⟨_,List.getElem?_eq_getElem (by omega)⟩
    have hat0:atI (ws.map V.str) ((0+((j+1:Nat):Int)) - 1)=some (.str p0):=by
     rw [show(0+((j+1:Nat):Int)) - 1=(j:Int) by omega]
     exact cm (by rw [List.getElem?_map,hp0];rfl)
    refine⟨_,rfl,_,rfl,_,_,rfl,rfl,p,_,_,_,rfl,rfl,hsq2,hat0,p0,_,rfl,rfl,_,rfl,aO (fun c3=>?_) (fun c3=>bx ?_)⟩
    ·refine⟨_,rfl,_,rfl,p,_,_,_,rfl,rfl,hsq2,hat,p',_,rfl,rfl,_,rfl,aO (fun c4=>?_) (fun c4=>?_)⟩
     ·obtain⟨FL,fi⟩:=fin " " (by unfold gz;decide +kernel) (by decide +kernel) fun _=>jn (a:=cps z) (c:=32) (.inr (.inr (.inr rfl)))
      exact⟨_,rfl,_,rfl,z," ",rfl,rfl,FL.1,_,rfl,_,rfl,p,_,_,_,rfl,rfl,hsq2,hat,_,p',rfl,rfl,FL.2,fi⟩
     ·have nw:¬Tk.Word (cps p'):=fun hw=>c4 (by
       show(!(!(Builtin.Str.occurrences (Str.ofString "()") p' 0 (Str.ofString "()").length 1).isEmpty))=true
       rw [jG hw]
       rfl)
      obtain⟨FL,fi⟩:=fin g bg ng fun hw=>absurd hw nw
      exact⟨_,rfl,_,rfl,z,g,rfl,rfl,FL.1,_,rfl,_,rfl,p,_,_,_,rfl,rfl,hsq2,hat,_,p',rfl,rfl,FL.2,fi⟩
    ·have nw:¬Tk.Word (cps p0):=fun hw=>c3 (by
      show(!(!(Builtin.Str.occurrences (Str.ofString "()") p0 0 (Str.ofString "()").length 1).isEmpty))=true
      rw [jG hw]
      rfl)
     obtain⟨FL,fi⟩:=fin g bg ng fun _=>by
      rw [ec0]
      refine hsh fun j' q' ej hq=>?_
      obtain rfl:j=j':=Nat.succ.inj ej
      rw [hp0] at hq
      exact Option.some.inj hq▸nw
     exact⟨_,rfl,_,rfl,z,g,rfl,rfl,FL.1,_,rfl,_,rfl,p,_,_,_,rfl,rfl,hsq2,hat,_,p',rfl,rfl,FL.2,fi⟩
   ·have i0:i=0:=by
     have:¬((0:Int)+(i:Int) > 0):=of_decide_eq_false (Bool.eq_false_iff.mpr c2)
     omega
    obtain⟨FL,fi⟩:=fin g bg ng fun _=>by
     rw [ec0]
     refine hsh fun j' q' ej _=>?_
     omega
    exact⟨_,rfl,_,rfl,z,g,rfl,rfl,FL.1,_,rfl,_,rfl,p,_,_,_,rfl,rfl,hsq2,hat,_,p',rfl,rfl,FL.2,fi⟩
  ·have gne:cps g≠[]:=fun e=>c1 (dt0 (congrArg V.str (Tk.lst_inj (e.trans (show([]:List Nat)=Tk.lst "" from rfl)))))
   obtain⟨FL,fi⟩:=fin g bg ng fun _=>(gf bg).2 gne
   exact⟨_,rfl,_,rfl,z,g,rfl,rfl,FL.1,_,rfl,_,rfl,p,_,_,_,rfl,rfl,hsq2,hat,_,p',rfl,rfl,FL.2,fi⟩
 ·rintro σ H3 ⟨z,v3,v4,rfl,s3,ht,hzl,hsh⟩
  rw [Int.toNat_natCast,wl] at ht hzl
  refine⟨_,rfl,(sz 3),fun l2 hl2=>?_⟩
  have s2:=ae hl2 (.lst [V.str "",V.str "\n",V.str " "])
  obtain⟨vg,eg⟩:=lX (xs:=[V.str "",V.str "\n",V.str " "]) (i:=c / 5%3) (Int.emod_nonneg _ (by decide)) (Int.lt_of_lt_of_le (Int.emod_lt_of_pos _ (by decide)) (by decide))
  obtain⟨g,rfl,bg,ng⟩:=DY eg
  refine⟨_,rfl,_,_,rfl,rfl,⟨by decide,by decide⟩,_,_,rfl,rfl,(by show(0:Int) < 3;decide),l2,_,_,_,rfl,rfl,SqL.of ad,eg,z,g,rfl,rfl,Nat.le_of_lt (mid (by omega)),?_⟩
  refine q _ (z++g) (s3.trans s2) ?_ ?_
  ·rw [dg,(gf bg).1,ht,List.take_length]
  ·rw [dF]
   omega
def End(r:List (List Nat)):Prop:=r=[]\/∃r1,r=[41]::r1
mutual
theorem xO:∀{t u:Tr},t.ok->u.ok->∀{x y:List (List Nat)},t.flat++x=u.flat++y->t=u/\x=y
 |.w s,.w s',_,_,x,y,e=>by
  have e':cps s::x=cps s'::y:=e
  have h:=List.cons.inj e'
  exact⟨by rw [Tk.lst_inj h.1],h.2⟩
 |.w s,.n us,hs,_,x,y,e=>by
  have e':cps s::x=[40]::((aD us++[[41]])++y):=e
  exact absurd (List.cons.inj e').1 (ir (s:=s) hs).1
 |.n ts,.w s,_,hs,x,y,e=>by
  have e':[40]::((aD ts++[[41]])++x)=cps s::y:=e
  exact absurd (List.cons.inj e').1.symm (ir (s:=s) hs).1
 |.n ts,.n us,ht,hu,x,y,e=>by
  have e':[40]::((aD ts++[[41]])++x)=[40]::((aD us++[[41]])++y):=e
  have h:=(List.cons.inj e').2
  rw [List.append_assoc,List.append_assoc] at h
  obtain⟨h1,h2⟩:=jT (a:=ts) (b:=us) ht hu (.inr ⟨x,rfl⟩) (.inr ⟨y,rfl⟩) h
  rw [h1]
  exact⟨rfl,(List.cons.inj h2).2⟩
theorem jT:∀{a b:List Tr},oks a->oks b->∀{r r':List (List Nat)},End r->End r'->aD a++r=aD b++r'->a=b/\r=r'
 |[],[],_,_,r,r',_,_,e=>⟨rfl,e⟩
 |[],u::b,_,hb,r,r',hr,_,e=>by
  have e':r=(u.flat++aD b)++r':=e
  cases u with
  |w s =>
   have e2:r=cps s::(aD b++r'):=e'
   rcases hr with rfl|⟨r1,rfl⟩
   ·cases e2
   ·exact absurd (List.cons.inj e2).1.symm (ir (s:=s) hb.1).2
  |n us =>
   have e2:r=[40]::(((aD us++[[41]])++aD b)++r'):=e'
   rcases hr with rfl|⟨r1,rfl⟩
   ·cases e2
   ·exact absurd (List.cons.inj e2).1 (by decide)
 |t::a,[],ha,_,r,r',_,hr,e=>by
  have e':(t.flat++aD a)++r=r':=e
  cases t with
  |w s =>
   have e2:cps s::(aD a++r)=r':=e'
   rcases hr with rfl|⟨r1,rfl⟩
   ·cases e2
   ·exact absurd (List.cons.inj e2).1 (ir (s:=s) ha.1).2
  |n us =>
   have e2:[40]::(((aD us++[[41]])++aD a)++r)=r':=e'
   rcases hr with rfl|⟨r1,rfl⟩
   ·cases e2
   ·exact absurd (List.cons.inj e2).1 (by decide)
 |t::a,u::b,⟨h1,h2⟩,⟨h3,h4⟩,r,r',hr,hr',e=>by
  have e':(t.flat++aD a)++r=(u.flat++aD b)++r':=e
  rw [List.append_assoc,List.append_assoc] at e'
  obtain⟨e1,e2⟩:=xO h1 h3 e'
  obtain⟨e3,e4⟩:=jT h2 h4 hr hr' e2
  rw [e1,e3]
  exact⟨rfl,e4⟩
end
theorem gG{a b:List Tr}(ha:oks a)(hb:oks b)(e:aD a=aD b):a=b :=
 (jT (r:=[]) (r':=[]) ha hb (.inl rfl) (.inl rfl) (by rw [e])).1
theorem rB:∀{ts:List Tr} {t:Tr},t∈ts->t.flat.length<=(aD ts).length
 |u::r,t,h=>by
  show _<=(u.flat++aD r).length
  rw [la0]
  rcases mc0 h with rfl|z
  ·omega
  ·have:=rB z
   omega
theorem lD:∀t:Tr,1<=t.flat.length
 |.w s=>Nat.le_refl _
 |.n ts=>by
  show 1<=([40]::_).length
  simp
theorem nJ:∀ts:List Tr,ts.length<=(aD ts).length
 |[]=>Nat.le_refl _
 |t::r=>by
  have h1:=nJ r
  have h2:=lD t
  show r.length+1<=(t.flat++aD r).length
  rw [la0]
  omega
theorem jY(K:W.Frag):W.kitOne K (.type "tuple") (.type "tuple")=some true:=rfl
theorem yR{α:Type}{a b:α}{p:α->Prop}(ha:p a)(hb:p b):∀y∈[a,b],p y:=fun y hy=>by
 rcases mc0 hy with rfl|hy
 ·exact ha
 ·rw [List.mem_singleton.mp hy]
  exact hb
theorem lN{s:Str}{c:Nat}:s=⟨#[c]⟩↔cps s=[c] :=
 ⟨fun h=>by rw [h],fun h=>Tk.lst_inj (h.trans (show([c]:List Nat)=Tk.lst ⟨#[c]⟩ from rfl))⟩
def abc:Str:="abcdefghijklmnopqrstuvwxyz"
def ve:List Str:=["num","pair","lit","as","if","let","two","first","second"]
def dM:List V:=ve.map V.str
def inL(c:Nat):Bool:=!(Builtin.Str.occurrences abc ⟨#[c]⟩ 0 abc.length 1).isEmpty
def zV(w:Str):Bool:=(w.cps.toList.map inL).all id
def fits(w:Str):Bool:=decide (1<=w.length)&&decide (w.length<=12)&&!inV (.str w) dM
def aA(w:Str):Bool:=fits w&&zV w
theorem gT(w:Str):w.cps.toList.length=w.length:=by simp [Str.length]
theorem iV:dM.all jh=true:=by decide +kernel
inductive vD:Sp|mk{vs H Q E}(w:_)(_:vs=[.str w])(_:w.length<=1000)(_:∀H',aM H H'->Q (.bl (aA w)) H'):vD vs H Q E
def AU:Str:="0123456789"
def zero:Str:="0"
def inF(c:Nat):Bool:=!(Builtin.Str.occurrences AU ⟨#[c]⟩ 0 AU.length 1).isEmpty
def tD(w:Str):Bool:=(w.cps.toList.map inF).all id
def cf(c:Nat):Bool:=decide (V.str ⟨#[c]⟩=V.str zero)
def dr(w:Str):Bool:=decide (1<=w.length)&&decide (w.length<=19)&&tD w&&(decide (w.length=1)||!(w.cps.toList.head?.any cf))
theorem vh{w:Str}{c:Nat}(h:atI w.cps.toList 0=some c):w.cps.toList.head?=some c:=by
 have h':atI w.cps.toList ((0:Nat):Int)=some c:=h
 cases e:w.cps.toList with
 |nil=>rw [e] at h';cases h'
 |cons x r =>
  rw [e] at h'
  have q:atI (x::r) ((0:Nat):Int)=some x:=cm (by simp)
  rw [q] at h'
  rw [<-h']
  rfl
theorem xC{w:Str}{c:Nat}(h:w.cps.toList.head?=some c)(h1:w.length=1):w=⟨#[c]⟩:=by
 obtain⟨⟨l⟩⟩:=w
 have hl:l.length=1:=h1
 match l,hl with
 |[x],_ =>
  have q:some x=some c:=h
  cases q
  rfl
theorem ny{w:Str}{c:Nat}(h:w.cps.toList.head?=some c):(cf c&&!decide (V.str w=V.str zero))=!(decide (w.length=1)||!(w.cps.toList.head?.any cf)):=by
 rw [h]
 show(cf c&&_)=!(decide (w.length=1)||!(cf c))
 cases e:cf c with
 |false=>simp
 |true =>
  have e':(⟨#[c]⟩:Str)=zero:=V.str.inj (od0 e)
  have q:(V.str w=V.str zero)↔w.length=1:=by
   constructor
   ·intro z
    have z':w=zero:=V.str.inj z
    rw [z',<-e']
    rfl
   ·intro z
    rw [xC h z,e']
  by_cases hw:w.length=1
  ·simp [hw,q.mpr hw]
  ·have q2:¬V.str w=V.str zero:=fun z=>hw (q.mp z)
   rw [df0 q2,df0 hw]<;>rfl
inductive Bk:Sp|mk{vs H Q E}(w:_)(_:vs=[.str w])(_:w.length<=1000)(_:∀H',aM H H'->Q (.bl (dr w)) H'):Bk vs H Q E
theorem ie{w:Str}(h:¬(1<=w.length/\w.length<=19)):dr w=false:=by
 unfold dr
 by_cases h1:1<=w.length
 ·have h2:¬w.length<=19:=fun z=>h ⟨h1,z⟩
  simp [h2]
 ·simp [h1]
theorem mH{w:Str}(h:tD w=false):dr w=false:=by
 unfold dr
 simp [h]
theorem nI{w:Str}(h1:1<=w.length)(h2:w.length<=19)(h:tD w=true):dr w=(decide (w.length=1)||!(w.cps.toList.head?.any cf)):=by
 unfold dr
 rw [dt0 h1,dt0 h2,h]<;>rfl
theorem yY:ax ["word","fits"] ["word"] (ah oy):=mkS
theorem zE{f pT:Addr}{fd:FuncData}{tL tN:Tok} (F:Fun K "is_name" "is_name" oy f fd) (ml:mg "len"=none) (mall:mg "all"=none) (mL:mg "LETTERS"=some (.str "abcdefghijklmnopqrstuvwxyz" tL)) (mN:mg "LONGEST_NAME"=some (.int 12 tN)) (mT:mg "NO_NAMES"=some (.ref pT)) (hT:∀H,SqT K H pT dM) :
  aV P w K mg base CX0 1 f fd ["word"] vD:=by
 refine F.k0 yY fun cdv A q0 s H vs Q E hr h=>?_
 obtain⟨z,rfl,hz,q⟩:=h
 have hzz:=de hz
 obtain⟨u1,d1,k1⟩:∃t,PSs (dP CX0 P w K mg base ["word","fits"] "is_name" (ah oy) f cdv A q0 s H E).nox (List.drop 1 (ap oy)) t/\∀b:Bool,fits z=b->t { nx:=fun _ H'=>Q .non H',rt:=Q } [some (.str z),some (.bl b)] H:=by
  refine⟨_,aj (ao (ci (pv 1) (dw (aq (bV rfl) rfl mall dq (aa (bi (own:=["sign"]) (rR (pv 0))
   (fun _ _ _ _=>pg0 ["sign"]) (fun _ _ _ _=>cv jz (pv 0) (cY rfl mL (v:=.str "abcdefghijklmnopqrstuvwxyz") ⟨tL,rfl⟩) (by with_unfolding_all rfl))) ac))))),fun b hb=>?_⟩
  refine⟨_,rfl,b,rfl,?_⟩
  cases b with
  |false =>
   refine bx ?_
   have q':=q H sr0
   rw [show aA z=false from by unfold aA;rw [hb]<;>rfl] at q'
   exact q'
  |true =>
   refine bU ⟨_,rfl,z,rfl,?_⟩
   refine cQ (J:=Its z) (xs:=fN z) (fun i ys H2=>i<=z.length/\ys=((z.cps.toList.take i).map inL).map V.bl/\H2=H) ⟨Nat.zero_le _,rfl,rfl⟩ (by rw [ce];exact hzz) ?_ ?_ ?_ ?_ ?_ ?_
   ·rintro i ys H3 ⟨hi,rfl,_⟩
    rw [lm0,lm0,List.length_take]
    omega
   ·rintro i x ys H3 hx _
    exact vZ i x hx
   ·rintro i ys x H3 H' hi _ hy
    exact qb i x H' hy
   ·rintro ys H3 _
    exact lM
   ·rintro i x ys H3 N hN hx ⟨hi,rfl,rfl⟩
    obtain⟨c,hc,rfl⟩:=gw.mp hx
    have hc':z.cps.toList[i]?=some c:=by simpa using hc
    have hlt:i < z.length:=by
     have:=(List.getElem?_eq_some_iff.mp hx).1
     rw [ce] at this
     exact this
    refine⟨rfl,aY ⟨_,rfl,_,_,rfl,rfl,hN _ _ ⟨hlt,?_,rfl⟩⟩⟩
    rw [List.take_add_one,hc',ma0,ma0]
    rfl
   ·rintro ys H3 D ⟨hi,rfl,rfl⟩ hD
    refine⟨D,z.cps.toList.map inL,rfl,SqL.of ?_,?_⟩
    ·rw [ad,ce,List.take_of_length_le (by rw [gT];exact Nat.le_refl _)]
    ·have q':=q _ (ae hD (.lst (((z.cps.toList.take (fN z).length).map inL).map V.bl)))
     rw [show aA z=(z.cps.toList.map inL).all id from by unfold aA;rw [hb]<;>rfl] at q'
     exact q'
 refine⟨_,af (aS (i:=1) yY.nd (ci (mY my my ag (aq cJ rfl ml boot_len (aa (pv 0) ac)) (cY rfl mN (v:=.int 12) ⟨tN,rfl⟩)) (dw (cv fT (pv 0) (cY rfl mT (v:=.ref pT) rfl) (by with_unfolding_all rfl))))) d1,?_⟩
 refine⟨_,rfl,z,rfl,hzz,_,_,rfl,rfl,_,rfl,?_⟩
 refine aO (fun c=>?_) (fun c=>?_)
 ·have c1:(1:Int)<=(z.length:Int):=od0 c
  refine⟨_,_,rfl,rfl,_,rfl,?_⟩
  refine aO (fun d=>?_) (fun d=>?_)
  ·have d1:(z.length:Int)<=12:=od0 d
   refine⟨_,rfl,pT,dM,rfl,.inr (hT H),rfl,iV,k1 _ ?_⟩
   unfold fits
   rw [dt0 (by omega),dt0 (by omega)]<;>rfl
  ·have d1:¬(z.length:Int)<=12:=of_decide_eq_false (Bool.eq_false_iff.mpr d)
   refine k1 _ ?_
   unfold fits
   rw [decide_eq_false (p:=z.length<=12) (by omega),Bool.and_false]<;>rfl
 ·have c1:¬(1:Int)<=(z.length:Int):=of_decide_eq_false (Bool.eq_false_iff.mpr c)
  refine⟨_,rfl,bx (k1 _ ?_)⟩
  unfold fits
  rw [decide_eq_false (p:=1<=z.length) (by omega)]<;>rfl
theorem Da:ax ["word"] ["word"] (ah AQ):=mkS
theorem BU{f:Addr}{fd:FuncData}{tF tN:Tok} (F:Fun K "is_number" "is_number" AQ f fd) (ml:mg "len"=none) (mall:mg "all"=none) (mF:mg "FIGURES"=some (.str "0123456789" tF)) (mN:mg "LONGEST_NUMBER"=some (.int 19 tN)) :
  aV P w K mg base CX0 1 f fd ["word"] Bk:=by
 refine F.k0 Da fun cdv A q0 s H vs Q E hr h=>?_
 obtain⟨z,rfl,hz,q⟩:=h
 have hzz:=de hz
 refine⟨_,af (aF (dk (qL my my ag (aq cJ rfl ml boot_len (aa (pv 0) ac)) (cY rfl mN (v:=.int 19) ⟨tN,rfl⟩))) (aj (ao fR)) ar)
  (af (aF (PW.pt (cr (am aZ (ix0 nP (pv 0) ag) ak (av _)) (cz (am lL (pv 0) ak (av _))))) (aj (ao fR)) ar)
  (aj (ao (aq (bV rfl) rfl mall dq (aa (bi (own:=["sign"]) (rR (pv 0))
   (fun _ _ _ _=>pg0 ["sign"]) (fun _ _ _ _=>cv jz (pv 0) (cY rfl mF (v:=.str "0123456789") ⟨tF,rfl⟩) (by with_unfolding_all rfl))) ac))))),?_⟩
 have bad:∀{b:Bool} {H':Hp},aM H H'->dr z=b->Q (.bl b) H':=fun hs e=>e▸q _ hs
 have done:∀{H':Hp} {c0:Nat},aM H H'->1<=z.length->z.length<=19->z.cps.toList.head?=some c0->(cf c0&&!decide (V.str z=V.str zero))=false->Q (.bl ((z.cps.toList.map inF).all id)) H':=fun {H' c0} hs h1 h2 h0 hk=>by
  refine bad hs ?_
  cases e:tD z with
  |false=>rw [mH e];exact e.symm
  |true =>
   rw [nI h1 h2 e,show(z.cps.toList.map inF).all id=true from e]
   rw [ny h0] at hk
   cases hh:(decide (z.length=1)||!(z.cps.toList.head?.any cf)) with
   |true=>rfl
   |false =>
    rw [hh] at hk
    cases hk
 refine⟨_,rfl,z,rfl,hzz,_,_,rfl,rfl,_,rfl,?_⟩
 refine aO (fun c=>?_) (fun c=>?_)
 ·have c1:(1:Int)<=(z.length:Int):=od0 c
  refine⟨_,_,rfl,rfl,_,rfl,?_⟩
  refine aO (fun d=>?_) (fun d=>?_)
  ·have d1:¬(z.length:Int)<=19:=fun y=>by
    rw [dt0 y] at d
    cases d
   exact bad sr0 (ie (by omega))
  have d1:(z.length:Int)<=19:=by
   refine Int.not_lt.mp fun y=>d ?_
   rw [df0 (by omega)]
   rfl
  obtain⟨c0,hc0⟩:=lX (xs:=z.cps.toList) (i:=0) (by omega) (by rw [gT];omega)
  have h0:=vh hc0
  refine⟨_,rfl,z,_,c0,rfl,rfl,hzz,hc0,rfl,_,rfl,?_⟩
  have hret:(cf c0&&!decide (V.str z=V.str zero))=false->dX 1 [] (nS 0) j0 (tOp (fun x y H Q=>∃i j,x=.str i/\y=.str j/\Q (.bl (!(Builtin.Str.occurrences j i 0 j.length 1).isEmpty)) H) (wM 0) (tC (.str AU))) [some (.str z)] (Its z) H
    (fun x H2=>∃(p:Addr) (bs:List Bool),[x]=[V.ref p]/\SqL K H2 p (bs.map V.bl)/\Q (.bl (bs.all id)) H2):=by
   intro hk
   refine cQ (J:=Its z) (xs:=fN z) (fun i ys H2=>i<=z.length/\ys=((z.cps.toList.take i).map inF).map V.bl/\H2=H) ⟨Nat.zero_le _,rfl,rfl⟩ (by rw [ce];exact hzz) ?_ ?_ ?_ ?_ ?_ ?_
   ·rintro i ys H3 ⟨hi,rfl,_⟩
    rw [lm0,lm0,List.length_take]
    omega
   ·rintro i x ys H3 hx _
    exact vZ i x hx
   ·rintro i ys x H3 H' hi _ hy
    exact qb i x H' hy
   ·rintro ys H3 _
    exact lM
   ·rintro i x ys H3 N hN hx ⟨hi,rfl,rfl⟩
    obtain⟨c,hc,rfl⟩:=gw.mp hx
    have hc':z.cps.toList[i]?=some c:=by simpa using hc
    have hlt:i < z.length:=by
     have:=(List.getElem?_eq_some_iff.mp hx).1
     rw [ce] at this
     exact this
    refine⟨rfl,aY ⟨_,rfl,_,_,rfl,rfl,hN _ _ ⟨hlt,?_,rfl⟩⟩⟩
    rw [List.take_add_one,hc',ma0,ma0]
    rfl
   ·rintro ys H3 D ⟨hi,rfl,rfl⟩ hD
    refine⟨D,z.cps.toList.map inF,rfl,SqL.of ?_,done (ae hD _) (by omega) (by omega) h0 hk⟩
    rw [ad,ce,List.take_of_length_le (by rw [gT];exact Nat.le_refl _)]
  refine aO (fun e=>?_) (fun e=>?_)
  ·refine⟨_,rfl,rfl,_,rfl,?_⟩
   refine aO (fun g=>?_) (fun g=>?_)
   ·have hk:(cf c0&&!decide (V.str z=V.str zero))=true:=by
     rw [show cf c0=true from e]
     exact g
    rw [ny h0] at hk
    refine bad sr0 ?_
    cases e2:tD z with
    |false=>exact mH e2
    |true =>
     rw [nI (by omega) (by omega) e2]
     cases hh:(decide (z.length=1)||!(z.cps.toList.head?.any cf)) with
     |false=>rfl
     |true =>
      rw [hh] at hk
      cases hk
   ·have hk:(cf c0&&!decide (V.str z=V.str zero))=false:=by
     rw [show cf c0=true from e]
     exact Bool.eq_false_iff.mpr g
    exact⟨_,rfl,z,rfl,hret hk⟩
  ·have hk:(cf c0&&!decide (V.str z=V.str zero))=false:=by
    rw [show cf c0=false from Bool.eq_false_iff.mpr e]
    rfl
   exact bx ⟨_,rfl,z,rfl,hret hk⟩
 ·have c1:¬(1:Int)<=(z.length:Int):=of_decide_eq_false (Bool.eq_false_iff.mpr c)
  exact⟨_,rfl,bU (bad sr0 (ie (by omega)))⟩
abbrev fQ(n:Nat):Str:=Str.ofString (toString (n:Int))
def dQ(q t:Str):Str:=if q="" then t else (q++".")++t
theorem uV:∀c∈abc.cps.toList,97<=c/\c<=122:=by decide +kernel
theorem bQ{s:Str}(h:aA s=true):1<=s.length/\s.length<=12/\∀c∈cps s,97<=c/\c<=122:=by
 unfold aA fits at h
 rw [Bool.and_eq_true,Bool.and_eq_true,Bool.and_eq_true] at h
 obtain⟨⟨⟨h1,h2⟩,_⟩,h3⟩:=h
 refine⟨od0 h1,od0 h2,fun c hc=>?_⟩
 unfold zV at h3
 rw [List.all_eq_true] at h3
 have h4:inL c=true:=h3 (inL c) (List.mem_map_of_mem hc)
 unfold inL at h4
 rw [StrLaws.found_one] at h4
 exact uV c (od0 h4)
theorem gY{q t:Str} (h:q≠""):cps (dQ q t)=cps q++46::cps t:=by
 unfold dQ
 rw [if_neg h,dg,dg]
 show(cps q++[46])++cps t=_
 rw [List.append_assoc]
 rfl
theorem mo{s:Str}(h:aA s=true):s≠"":=fun e=>by
 have:=(bQ h).1
 rw [e] at this
 exact absurd this (by decide +kernel)
theorem nL{q t:Str}(ht:aA t=true) (hq:q=""\/aA q=true):Tk.Word (cps (dQ q t))/\(dQ q t).length<=25/\∀c∈cps (dQ q t),c < 0x110000:=by
 obtain⟨t1,t2,t3⟩:=bQ ht
 by_cases h:q=""
 ·have e:dQ q t=t:=if_pos h
  rw [e]
  refine⟨⟨fun z=>?_,fun c hc=>?_⟩,by omega,fun c hc=>?_⟩
  ·have:=bG t
   rw [z] at this
   have h0:([]:List Nat).length=0:=rfl
   omega
  ·have:=t3 c hc
   omega
  ·have:=t3 c hc
   omega
 ·obtain⟨q1,q2,q3⟩:=bQ (hq.resolve_left h)
  have e:=gY (t:=t) h
  have all:∀c∈cps (dQ q t),46<=c/\c<=122:=fun c hc=>by
   rw [e] at hc
   rcases List.mem_append.mp hc with z|z
   ·have:=q3 c z
    omega
   ·rcases mc0 z with rfl|z
    ·omega
    ·have:=t3 c z
     omega
  refine⟨⟨fun z=>?_,fun c hc=>?_⟩,?_,fun c hc=>?_⟩
  ·rw [e] at z
   exact absurd z (by simp)
  ·have:=all c hc
   omega
  ·have:=congrArg List.length e
   rw [bG,la0,lc0,bG,bG] at this
   omega
  ·have:=all c hc
   omega
theorem oQ{n:Nat}(h:n<=1000000000000000000):jy (cps (fQ n))/\bn (cps (fQ n))=n/\(fQ n).length<=19:=by
 have e:cps (fQ n)=pP n:=pq n
 refine⟨?_,?_,?_⟩
 ·rw [e]
  exact yb (Nat.lt_of_le_of_lt h (by decide))
 ·rw [e,tq]
 ·exact PyProof.Rows.toString_length_le (by omega) (k:=19) (by decide) (by omega)
theorem xx{c:Nat}(h:48<=c/\c<=57):inF c=true:=by
 unfold inF
 rw [StrLaws.found_one]
 have:c=48\/c=49\/c=50\/c=51\/c=52\/c=53\/c=54\/c=55\/c=56\/c=57:=by omega
 rcases this with rfl|rfl|rfl|rfl|rfl|rfl|rfl|rfl|rfl|rfl<;>decide +kernel
theorem Be{n:Nat}(h1:1<=n)(h:n<=1000000000000000000):dr (fQ n)=true:=by
 obtain⟨a,_,l⟩:=oQ h
 obtain⟨ha,_⟩:=a.all
 obtain⟨c0,r,e,h0,hr⟩:=oG n h1
 have ec:cps (fQ n)=c0::r:=(pq n).trans e
 have l1:1<=(fQ n).length:=by
  rw [<-bG,ec,lc0]
  omega
 have al:tD (fQ n)=true:=by
  unfold tD
  rw [List.all_eq_true]
  intro x hx
  obtain⟨c,hc,rfl⟩:=List.mem_map.mp hx
  exact xx (ha c hc)
 rw [nI l1 l al]
 have eh:(fQ n).cps.toList.head?=some c0:=by
  show(cps (fQ n)).head?=_
  rw [ec]
  rfl
 rw [eh]
 have f0:cf c0=false:=by
  unfold cf
  refine df0 fun z=>?_
  have z':(⟨#[c0]⟩:Str)=zero:=V.str.inj z
  have z2:=congrArg cps z'
  have z3:[c0]=[48]:=z2
  have:=(List.cons.inj z3).1
  omega
 show(decide _||!(cf c0))=true
 rw [f0]
 simp
theorem qC{n:Nat}(h:n<=1000000000000000000):Tk.Word (cps (fQ n))/\∀c∈cps (fQ n),c < 0x110000:=by
 obtain⟨a,_,l⟩:=oQ h
 obtain⟨ha,_⟩:=a.all
 refine⟨⟨fun z=>?_,fun c hc=>?_⟩,fun c hc=>?_⟩
 ·rcases a with e|⟨_,_,e,_⟩<;>rw [z] at e<;>cases e
 ·have:=ha c hc
  omega
 ·have:=ha c hc
  omega
def lK(p:List Nat):Prop:=p.length<=25/\Pc p/\∀c∈p,c < 0x110000
theorem wv{p:List Nat}(h:Tk.Word p)(l:p.length<=25)(c:∀c∈p,c < 0x110000):lK p:=⟨l,.inr (.inr h),c⟩
theorem pJ:lK [40]:=⟨by decide,.inl rfl,by decide⟩
theorem pX:lK [41]:=⟨by decide,.inr (.inl rfl),by decide⟩
theorem jH(K:W.Frag):W.kitOne K (.type "str") (.type "tuple")=some false:=rfl
theorem uc{q t:Str}(hq:aA q=true)(ht:aA t=true):Txt.split (dQ q t) "."=[q,t]:=by
 have e:(Txt.split (dQ q t) ⟨#[46]⟩).map Tk.lst=[cps q,cps t]:=by
  rw [Tk.split_lst]
  show Tk.spl 46 (cps (dQ q t))=_
  rw [gY (mo hq),Tk.spl_app,Tk.spl_free (fun h=>by have:=(bQ hq).2.2 46 h;omega),Tk.spl_free (fun h=>by have:=(bQ ht).2.2 46 h;omega)]
  rfl
 have e2:∀ws:List Str,ws.map Tk.lst=[cps q,cps t]->ws=[q,t]:=fun ws h=>by
  match ws,h with
  |[],h=>cases h
  |[a],h=>simp at h
  |a::b::c::r,h=>simp at h
  |[a,b],h =>
   have h1:=List.cons.inj h
   have h2:=List.cons.inj h1.2
   rw [Tk.lst_inj h1.1,Tk.lst_inj h2.1]
 exact e2 _ e
theorem BZ{q t:Str} (hq:q≠""):aA (dQ q t)=false:=by
 unfold aA
 rw [Bool.and_eq_false_iff]
 refine .inr ?_
 unfold zV
 rw [Bool.eq_false_iff]
 intro h
 rw [List.all_eq_true] at h
 have h4:inL 46=true:=h (inL 46) (List.mem_map_of_mem (by show 46∈cps _;rw [gY hq];exact List.mem_append_right _ (.head _)))
 unfold inL at h4
 rw [StrLaws.found_one] at h4
 exact absurd (uV 46 (od0 h4)).1 (by decide)
theorem rL:∀ts:List Tr,(fO ts).length<=((aD ts).map List.length).sum+wts ts
 |[]=>Nat.zero_le _
 |[t]=>by
  have h1:=iW t
  show t.text.length<=((t.flat++[]).map List.length).sum+(t.wt+1+0)
  rw [List.append_nil]
  omega
 |t::u::r=>by
  have h1:=iW t
  have h2:=rL (u::r)
  show(t.text++10::fO (u::r)).length<=((t.flat++aD (u::r)).map List.length).sum+(t.wt+1+wts (u::r))
  rw [la0,lc0,ma0,List.sum_append]
  omega
theorem gO:∀{ts:List Tr} {t:Tr},t∈ts->t.flat.length<=(aD ts).length/\(t.flat.map List.length).sum<=((aD ts).map List.length).sum
 |u::r,t,h=>by
  show _<=(u.flat++aD r).length/\_<=((u.flat++aD r).map List.length).sum
  rw [la0,ma0,List.sum_append]
  rcases mc0 h with rfl|z
  ·omega
  ·have:=gO z
   omega
theorem we{ts:List Tr}(f1:(aD ts).length<=1000)(f2:((aD ts).map List.length).sum<=26000):ts.length<=9000/\(∀t∈ts,t.wt<=9000/\t.text.length<=100000)/\(fO ts).length<=100000:=by
 have f3:=mh ts
 refine⟨by have:=pD ts;omega,fun t ht=>?_,by have:=rL ts;omega⟩
 obtain⟨g1,g2⟩:=gO ht
 have g3:=qg t
 have g4:=iW t
 exact⟨by omega,by omega⟩
theorem vC:∀{ps:List (List Nat)},(∀p∈ps,p.length<=25)->(ps.map List.length).sum<=25*ps.length
 |[],_=>Nat.le_refl _
 |p::r,h=>by
  have h1:=vC (ps:=r) fun q hq=>h q (List.mem_cons_of_mem _ hq)
  have h2:=h p List.mem_cons_self
  rw [List.map_cons,List.sum_cons,lc0]
  omega
inductive iO:Sp|mk{vs H Q E}(q t:Str)(_:vs=[.str q,.str t])(_:q.length<=1000)(_:t.length<=1000)(_:Q (.str (dQ q t)) H):iO vs H Q E
theorem zP{w:Str}(h:∀c∈w.cps.toList,inL c=true):zV w=true:=by
 unfold zV
 rw [List.all_eq_true]
 intro b hb
 obtain⟨c,hc,rfl⟩:=List.mem_map.mp hb
 exact h c hc
theorem Al{w:Str}(h1:1<=w.length)(h2:w.length<=12)(h:zV w=true):aA w=!inV (.str w) dM:=by
 unfold aA fits
 rw [dt0 h1,dt0 h2,h,Bool.and_true]<;>rfl
theorem AF:∀z∈ve,aA (z++"x")=true:=by decide +kernel
theorem xu{z:Str}(h:inV (.str z) dM=true):z∈ve:=by
 unfold inV dM at h
 rw [List.any_eq_true] at h
 obtain⟨y,hy,e⟩:=h
 obtain⟨s,hs,rfl⟩:=List.mem_map.mp hy
 have e':s=z:=by simpa [eqV] using e
 rw [<-e']
 exact hs
theorem A0:∀c∈abc.cps.toList,inL c=true:=by decide +kernel
theorem zS:((abc.cps.toList.length:Nat):Int)=26:=by decide +kernel
inductive jA:Sp|mk{vs H Q E}(c:Int)(_:vs=[.int c])(_:∀H' (z:Str),aM H H'->aA z=true->Q (.str z) H'):jA vs H Q E
inductive vW:Sp|mk{vs H Q E}(c:Int)(_:vs=[.int c])(_:∀n:Nat,1<=n->n<=1000000000000000000->Q (.int n) H):vW vs H Q E
inductive mZ(K:W.Frag)(n:Nat):Sp|mk{vs H Q E}(x:V)(t:Tr)(_:vs=[x])(_:bz K H x t)(_:t.dep < n)(_:t.flat.length<=1000)(_:∀H' (l:Addr) (ws:List Str),aM H H'->H l=none->H' l=some (.lst (ws.map V.str))->ws.map cps=t.flat->Q (.ref l) H'):mZ K n vs H Q E
theorem sN:∀{ts:List Tr} {i:Nat} {t:Tr},ts[i]?=some t->aD (ts.take (i+1))=aD (ts.take i)++t.flat:=fun {ts i t} h=>by
 rw [List.take_add_one,h,ib]
 show _++aD [t]=_
 rw [fB]
theorem pW(ts:List Tr)(i:Nat):(aD (ts.take i)).length<=(aD ts).length:=by
 have e:aD ts=aD (ts.take i)++aD (ts.drop i):=by rw [<-ib,List.take_append_drop]
 rw [e,la0]
 omega
def w1:Bool->List (List Nat)->List Nat
 |_,[]=>[]
 |b,p::r=>(if b=true\/p=[41] then [] else [32])++p++w1 (decide (p=[40])) r
mutual
theorem o8:∀{t:Tr},t.ok->∀(b:Bool) (r:List (List Nat)),w1 b (t.flat++r)=(if b=true then [] else [32])++(t.text++w1 false r)
 |.w s,hw,b,r=>by
  obtain⟨n1,n2⟩:=ir (s:=s) hw
  show w1 b (cps s::r)=_++(cps s++_)
  rw [w1,df0 n1,List.append_assoc]
  cases b
  ·rw [if_neg (show ¬(false=true\/cps s=[41]) by simp [n2]),if_neg (show ¬(false=true) by decide)]
  ·rw [if_pos (.inl rfl),if_pos rfl]
 |.n ts,ho,b,r=>by
  show w1 b ([40]::((aD ts++[[41]])++r))=_++((40::(mz ts++[41]))++_)
  rw [w1,List.append_assoc (aD ts),show decide (([40]:List Nat)=[40])=true from rfl,yj (ts:=ts) ho]
  have e:∀b',w1 b' ([[41]]++r)=41::w1 false r:=fun b'=>by
   show w1 b' ([41]::r)=_
   rw [w1,if_pos (.inr rfl)]
   rfl
  rw [e]
  cases b
  ·rw [if_neg (show ¬(false=true\/([40]:List Nat)=[41]) by decide),if_neg (show ¬(false=true) by decide)]
   simp
  ·rw [if_pos (.inl rfl),if_pos rfl]
   simp
theorem yj:∀{ts:List Tr},oks ts->∀(r:List (List Nat)),w1 true (aD ts++r)=mz ts++w1 ts.isEmpty r
 |[],_,r=>rfl
 |t::ts,⟨h1,h2⟩,r=>by
  show w1 true ((t.flat++aD ts)++r)=(t.text++hU ts)++w1 false r
  rw [List.append_assoc,o8 h1,ql h2,if_pos rfl]
  simp
theorem ql:∀{ts:List Tr},oks ts->∀(r:List (List Nat)),w1 false (aD ts++r)=hU ts++w1 false r
 |[],_,r=>rfl
 |t::ts,⟨h1,h2⟩,r=>by
  show w1 false ((t.flat++aD ts)++r)=(32::(t.text++hU ts))++w1 false r
  rw [List.append_assoc,o8 h1,ql h2,if_neg (by decide)]
  simp
end
theorem uW{t:Tr}(h:t.ok):w1 true t.flat=t.text:=by
 have:=o8 h true []
 rw [List.append_nil,if_pos rfl] at this
 rw [this]
 show []++(t.text++[])=_
 simp
def bAt(ps:List (List Nat)):Nat->Bool
 |0=>true
 |j+1=>decide (ps[j]?=some [40])
inductive hZ(K:W.Frag):Sp|mk{vs H Q E}(p:Addr)(ws:List Str)(t:Tr)(_:vs=[.ref p])(_:SqL K H p (ws.map V.str))(_:ws.map cps=t.flat)(_:t.ok)(_:ws.length<=300)(_:t.text.length<=100000)(_:∀z:Str,cps z=t.text->Q (.str z) H):hZ K vs H Q E
theorem ut{n:Nat}(h:n<=1000000000000000000):dr (fQ n)=true:=by
 by_cases z:n=0
 ·rw [z]
  decide +kernel
 ·exact Be (by omega) h
theorem sd:ax ["part","name"] ["part","name"] (ah fA):=mkS
theorem pZ{f:Addr}{fd:FuncData} (F:Fun K "near_or_far_word" "near_or_far_word" fA f fd):aV P w K mg base CX0 1 f fd ["part","name"] iO:=by
 refine F.k0 sd fun cdv A q0 s H vs Q E hr h=>?_
 obtain⟨a,t,rfl,la,lt,q⟩:=h
 refine⟨_,af (aF (am aZ (pv 0) ak (av _)) (aj (ao (pv 1))) ar) (aj (ao (yn (mv (sX (pv 0)) (mv ak (mv (sX (pv 1)) zH))) (by decide)))),?_⟩
 refine⟨_,rfl,rfl,_,rfl,aO (fun c=>?_) (fun c=>?_)⟩
 ·have e:a="":=V.str.inj (od0 c)
  have e2:dQ a t=t:=if_pos e
  rw [e2] at q
  exact⟨_,rfl,q⟩
 ·have e:a≠"":=fun h=>c (dt0 (by rw [h]))
  refine⟨_,rfl,.inl ⟨a,rfl,de la,a,rfl,by omega,_,rfl,by decide +kernel,_,rfl,.inl ⟨t,rfl,de lt,t,rfl,by omega,?_⟩⟩⟩
  have e2:((Str.empty++a)++Str.ofString ".")++t=dQ a t:=Tk.lst_inj (by
   show cps _=cps _
   rw [gY e,dg,dg,dg]
   show(([]++cps a)++[46])++cps t=_
   simp)
  show Q (.str (((Str.empty++a)++Str.ofString ".")++t)) H
  rw [e2]
  exact q
theorem iD:ax ["_law_cell_here","_law_number_here","_law_word","_law_k","_law_at"] ["_law_cell_here"] (ah ka):=mkS
theorem ye{f:Addr}{fd:FuncData} (F:Fun K "_law_name" "_law_name" ka f fd) (mr:mg "range"=none):aV P w K mg base CX0 1 f fd ["_law_cell_here"] jA:=by
 refine F.k0 iD fun cdv A q0 s H vs Q E hr h=>?_
 obtain⟨c,rfl,q⟩:=h
 refine⟨_,af (aS (i:=1) iD.nd (aB cg (pv 0) ag))
  (af (aS (i:=2) iD.nd ak)
  (af (fg PassesOwn.never rfl (dN rfl mr (aa (aB ca ag (aB cg (pv 1) ag)) ac)) (cU (i:=3) iD.nd rfl (Or.inl rfl))
   (af (aS (i:=4) iD.nd (aB ca (aB bj (pv 1) (aB ca (pv 3) ag)) (aB gQ (aB gQ ag (pv 3)) (aB bj (pv 1) ag))))
   (aj (aS (i:=2) iD.nd (aB bu (pv 2) (ix0 nP ak (aB cg (pv 4) ag)))))))
  (af (aF (am gc (pv 2) (aE (aa ak (aa ak (aa ak (aa ak (aa ak (aa ak (aa ak (aa ak (aa ak ac)))))))))) (by with_unfolding_all rfl)) (aj (ao (aB bu (pv 2) ak))) ar)
  (aj (ao (pv 2)))))),?_⟩
 refine⟨_,rfl,_,_,rfl,rfl,(by show(0:Int) < 100003;decide),?_⟩
 have n0:0<=c%100003:=Int.emod_nonneg _ (by decide)
 have n1:c%100003 < 100003:=Int.emod_lt_of_pos _ (by decide)
 have b0:0<=c%100003%12:=Int.emod_nonneg _ (by decide)
 have b1:c%100003%12 < 12:=Int.emod_lt_of_pos _ (by decide)
 refine⟨_,rfl,_,_,rfl,rfl,(by show(0:Int) < 12;decide),_,_,rfl,rfl,_,rfl,by omega,by omega,?_⟩
 refine gX (lo:=0) (n:=(1+c%100003%12).toNat) (fun i σ H3=>∃(z:Str) (v3 v4:Option V),σ=[some (.int c),some (.int (c%100003)),some (.str z),v3,v4]/\H3=H/\z.length=i/\∀d∈cps z,d∈abc.cps.toList) ⟨"",none,none,rfl,rfl,by decide +kernel,by decide +kernel⟩ ?_ ?_
 ·rintro i σ H3 hi ⟨z,v3,v4,rfl,rfl,hz,hd⟩
  refine⟨_,rfl,_,rfl,_,_,rfl,rfl,_,_,rfl,rfl,⟨by omega,by omega⟩,_,rfl,_,_,rfl,rfl,.inl ⟨by decide,by decide⟩,_,rfl,_,_,rfl,rfl,⟨by decide,by decide⟩,_,_,rfl,rfl,.inr ⟨by omega,by omega⟩,_,_,rfl,rfl,?_⟩
  obtain⟨d,ed⟩:=lX (xs:=abc.cps.toList) (i:=(c%100003 / (0+(i:Int)+1)+5*(0+(i:Int))*(c%100003 / 12))%26) (Int.emod_nonneg _ (by decide)) (by rw [zS];exact Int.emod_lt_of_pos _ (by decide))
  have od:=jP ed
  refine⟨_,rfl,_,rfl,_,_,rfl,rfl,(by show(0:Int) < 26;decide),abc,_,d,rfl,rfl,by decide +kernel,ed,z,⟨#[d]⟩,rfl,rfl,?_,?_⟩
  ·have e1:Str.length ⟨#[d]⟩=1:=rfl
   rw [hz,e1]
   exact de (by omega)
  ·refine⟨z++⟨#[d]⟩,_,_,rfl,rfl,?_,?_⟩
   ·rw [dF,hz]
    rfl
   ·intro e he
    rw [dg] at he
    rcases List.mem_append.mp he with h|h
    ·exact hd e h
    ·rw [List.mem_singleton.mp (show e∈[d] from h)]
     exact od
 ·rintro σ H3 ⟨z,v3,v4,rfl,rfl,hz,hd⟩
  have al:zV z=true:=zP fun c hc=>A0 c (hd c hc)
  have no:=Al (w:=z) (by omega) (by omega) al
  refine⟨_,rfl,(sz 9),fun p hp=>?_⟩
  have sp:=ae hp (.tup dM)
  refine⟨p,dM,rfl,.inr (SqT.of ad),rfl,iV,_,rfl,aO (fun c=>?_) (fun c=>?_)⟩
  ·have c':inV (.str z) dM=true:=c
   have x1:(Str.ofString "x").length=1:=by decide +kernel
   exact⟨_,rfl,z,_,rfl,rfl,de (by rw [x1];omega),q _ _ sp (AF z (xu c'))⟩
  ·have c':¬inV (.str z) dM=true:=c
   rw [Bool.not_eq_true] at c'
   rw [c'] at no
   exact⟨_,rfl,q _ _ sp no⟩
theorem At:ax ["_law_cell_here"] ["_law_cell_here"] (ah kx):=mkS
theorem yo{f:Addr}{fd:FuncData} (F:Fun K "_law_size" "_law_size" kx f fd):aV P w K mg base CX0 1 f fd ["_law_cell_here"] vW:=by
 refine F.k0 At fun cdv A q0 s H vs Q E hr h=>?_
 obtain⟨c,rfl,q⟩:=h
 have go:∀x:Int,1<=x->x<=1000000000000000000->Q (.int x) H:=fun x h1 h2=>by
  have:=q x.toNat (by omega) (by omega)
  rw [Int.toNat_of_nonneg (by omega)] at this
  exact this
 refine⟨_,af (aF (am aZ (aB cg (pv 0) ag) ag (av _)) (aj (ao (aB rq (aB tH ag ag) (aB cg (aB bj (pv 0) ag) ag)))) ar)
  (af (aF (am aZ (aB cg (pv 0) ag) ag (av _)) (aj (ao (aB ca ag (aB cg (aB bj (pv 0) ag) ag)))) ar)
  (aj (ao (aB ca ag (aB cg (aB bj (pv 0) ag) (aB tH ag ag)))))),?_⟩
 have pw:(10:Int) ^ (18:Int).toNat=1000000000000000000:=by decide
 refine⟨_,rfl,_,_,rfl,rfl,(by show(0:Int) < 5;decide),rfl,_,rfl,aO (fun _=>?_) (fun _=>⟨_,rfl,_,_,rfl,rfl,(by show(0:Int) < 5;decide),rfl,_,rfl,aO (fun _=>?_) (fun _=>?_)⟩)⟩
 ·refine⟨_,_,rfl,rfl,⟨by decide,by decide,by decide⟩,_,rfl,_,_,rfl,rfl,⟨by decide,by decide⟩,_,_,rfl,rfl,(by show(0:Int) < 3;decide),_,_,rfl,rfl,?_⟩
  show Q (.int ((10:Int) ^ (18:Int).toNat - c / 5%3)) H
  rw [pw]
  exact go _ (by omega) (by omega)
 ·refine⟨_,rfl,_,_,rfl,rfl,⟨by decide,by decide⟩,_,_,rfl,rfl,(by show(0:Int) < 3;decide),_,_,rfl,rfl,go (1+c / 5%3) (by omega) (by omega)⟩
 ·refine⟨_,rfl,_,_,rfl,rfl,⟨by decide,by decide⟩,_,_,rfl,rfl,⟨by decide,by decide,by decide⟩,_,_,rfl,rfl,(by show(0:Int) < (10:Int) ^ (18:Int).toNat;rw [pw];decide),_,_,rfl,rfl,?_⟩
  show Q (.int (1+c / 5%(10:Int) ^ (18:Int).toNat)) H
  rw [pw]
  exact go _ (by omega) (by omega)
theorem mq:ax ["_law_tree","_law_found","_law_one"] ["_law_tree"] (ah iu):=mkS
theorem oY{f:Addr}{fd:FuncData} (F:Fun K "_law_tokens" "_law_tokens" iu f fd) (bF:aX K fd ["_law_tree"] []) (kF:W.keepIn K (.ref f)=true) (mF:mg "_law_tokens"=some (.ref f)) (mi:mg "isinstance"=none) (ms:mg "str"=none):∀n,aV P w K mg base CX0 n f fd ["_law_tree"] (mZ K n)
 |0=>⟨fun vs H Q E h=>by obtain⟨x,t,rfl,_⟩:=h;rfl,fun A q0 s H args us vs Q E _ _ _ _ h=>by
   obtain⟨x,t,_,_,hd,_⟩:=h
   omega⟩
 |n+1=>by
  have IH:=oY F bF kF mF mi ms n
  refine F.k0 mq fun cdv A q0 s H vs Q E hr h=>?_
  obtain⟨x,t,rfl,hx,hd,hfl,q⟩:=h
  refine⟨_,af (aF (bt (aq bh rfl mi bH (aa (pv 0) (aa (bJ rfl ms cb (v:=.ty "str") rfl) ac)))) (aj (ao (cc (aa (pv 0) ac)))) ar)
   (af (aS (i:=1) mq.nd (cc (aa ak ac)))
   (af (fg PassesOwn.never rfl (cV (pv 0)) (cU (i:=2) mq.nd rfl (Or.inl rfl)) (aj (aU (eU PySem.F.plainAttrs_list PySem.F.slot_list_extend PySem.F.type_list_extend uH (pv 1) (aa (ai IH hr rfl mF kF bF .nil aC (aa (pv 2) ac)) ac)))))
   (af (aU (eU PySem.F.plainAttrs_list PySem.F.slot_list_append PySem.F.type_list_append bZ (pv 1) (aa ak ac)))
   (aj (ao (pv 1)))))),?_⟩
  cases hx with
  |w s0 =>
   refine⟨_,rfl,.str s0,"str",_,true,rfl,.str s0,eJ K,true,rfl,bU ⟨_,rfl,(sz 1),fun l hl=>?_⟩⟩
   exact q _ l [s0] (ae hl _) hl ad rfl
  |@n a xs ts ha hxs =>
   have hd':1+fF ts < n+1:=hd
   have h2:([40]::(aD ts++[[41]])).length<=1000:=hfl
   rw [lc0,la0] at h2
   refine⟨_,rfl,.ref a,"str",_,false,rfl,.tup ha,dZ K,false,rfl,bx ?_⟩
   refine⟨(sz 1),fun l hl0=>?_⟩
   have s1:=ae hl0 (.lst [V.str "("])
   refine⟨_,rfl,a,rfl,⟨_,SqT.of (s1 _ _ ha)⟩,o7 (K:=K) (xs:=xs) (fun i σ H3=>∃(ws:List Str) (v2:Option V),σ=[some (.ref a),some (.ref l),v2]/\aM H H3/\H3 l=some (.lst (ws.map V.str))/\ws.map cps=[40]::aD (ts.take i)) ⟨["("],none,rfl,s1,ad,rfl⟩ ?_ ?_ ?_⟩
   ·rintro i σ H3 _ ⟨ws,v2,rfl,s3,_⟩
    exact SqT.of (s3 _ _ ha)
   ·rintro i y σ H3 hy ⟨ws,v2,rfl,s3,hl3,hw⟩
    obtain⟨t1,ht1,hy1⟩:=hxs.get hy
    have hm:=List.mem_of_getElem? ht1
    have d1:=gF hm
    have d2:=rB hm
    have d3:=pW ts i
    refine⟨_,rfl,.inl ⟨rfl,_,SqL.of hl3⟩,_,rfl,y,t1,rfl,hy1.same s3,by omega,by omega,fun H4 l4 us s4 hn4 hl4 hu=>?_⟩
    have wl:=congrArg List.length hw
    have ul:=congrArg List.length hu
    rw [lm0,lc0] at wl
    rw [lm0] at ul
    have hl34:=s4 _ _ hl3
    refine⟨l,l4,_,_,rfl,rfl,hl34,hl4,Nat.le_of_lt (mid (by rw [lm0,lm0];omega)),?_⟩
    refine⟨ws++us,_,rfl,j7 (s3.trans s4) hl0,by rw [ad,ma0],?_⟩
    rw [ma0,hw,hu,sN ht1]
    rfl
   ·rintro σ H3 ⟨ws,v2,rfl,s3,hl3,hw⟩
    have lx:=hxs.length
    rw [lx,List.take_length] at hw
    have wl:=congrArg List.length hw
    rw [lm0,lc0] at wl
    refine⟨_,rfl,.inl ⟨rfl,_,SqL.of hl3⟩,l,_,_,rfl,rfl,hl3,mid (by rw [lm0];omega),?_⟩
    refine⟨_,rfl,q _ l (ws++[Str.ofString ")"]) (j7 s3 hl0) hl0 (by rw [ad,ma0];rfl) ?_⟩
    rw [ma0,hw]
    rfl
theorem fZ:ax ["_law_tokens_here","_law_text","_law_k"] ["_law_tokens_here"] (ah gr):=mkS
theorem sQ{f:Addr}{fd:FuncData} (F:Fun K "_law_written" "_law_written" gr f fd) (ml:mg "len"=none) (mr:mg "range"=none):aV P w K mg base CX0 1 f fd ["_law_tokens_here"] (hZ K):=by
 refine F.k0 fZ fun cdv A q0 s H vs Q E hr h=>?_
 obtain⟨p,ws,t,rfl,hp,hps,hok,hl,hll,q⟩:=h
 refine⟨_,af (aS (i:=1) fZ.nd ak)
  (af (fg PassesOwn.never rfl (dN rfl mr (aa (aq aw rfl ml boot_len (aa (pv 0) ac)) ac)) (cU (i:=2) fZ.nd rfl (Or.inl rfl))
   (af (aF (PW.pt (cr (am gi (pv 2) ag (av _)) (cr (am lL (ix0 bd (pv 0) (aB rq (pv 2) ag)) ak (av _)) (cz (am lL (ix0 bd (pv 0) (pv 2)) ak (av _))))))
    (aj (aS (i:=1) fZ.nd (aB bu (pv 1) ak))) ar)
   (aj (aS (i:=1) fZ.nd (aB bu (pv 1) (ix0 bd (pv 0) (pv 2)))))))
  (aj (ao (pv 1)))),?_⟩
 have wl:(ws.map V.str).length=ws.length:=List.length_map _
 have pl:t.flat.length=ws.length:=by rw [<-hps,lm0]
 refine⟨_,rfl,p,_,rfl,.inl hp,_,rfl,by omega,by omega,gX (lo:=0) (n:=(((ws.map V.str).length:Nat):Int).toNat) (fun i σ H3=>∃(z:Str) (v3:Option V),σ=[some (.ref p),some (.str z),v3]/\H3=H/\cps z++w1 (bAt t.flat i) (t.flat.drop i)=t.text)
  ⟨"",none,rfl,rfl,uW hok⟩ ?_ ?_⟩
 ·rintro i σ H3 hi ⟨z,v3,rfl,rfl,hw⟩
  rw [Int.toNat_natCast,wl] at hi
  obtain⟨p',hp'⟩:∃p',ws[i]?=some p':=⟨_,List.getElem?_eq_getElem hi⟩
  have hpi:t.flat[i]?=some (cps p'):=by rw [<-hps,List.getElem?_map,hp'];rfl
  have hdrop:t.flat.drop i=cps p'::t.flat.drop (i+1):=by
   obtain⟨hl2,e⟩:=List.getElem?_eq_some_iff.mp hpi
   rw [List.drop_eq_getElem_cons hl2,e]
  rw [hdrop,w1] at hw
  have hat:atI (ws.map V.str) (0+(i:Int))=some (.str p'):=by
   rw [Int.zero_add]
   exact cm (by rw [List.getElem?_map,hp'];rfl)
  have fin:∀(z':Str),cps z'=cps z++(if bAt t.flat i=true\/cps p'=[41] then [] else [32])->z'.length+p'.length<=sizeLine/\∃(z2:Str) (v3:Option V),([some (.ref p),some (.str (z'++p')),some (.int (0+(i:Int)))]:St)=[some (.ref p),some (.str z2),v3]/\H3=H3/\cps z2++w1 (bAt t.flat (i+1)) (t.flat.drop (i+1))=t.text:=fun z' ez=>by
   have e1:cps (z'++p')++w1 (decide (cps p'=[40])) (t.flat.drop (i+1))=t.text:=by
    rw [dg,ez,<-hw]
    simp only [List.append_assoc]
   refine⟨?_,z'++p',some (.int (0+(i:Int))),rfl,rfl,?_⟩
   ·have:=congrArg List.length e1
    rw [la0,bG,dF] at this
    exact Nat.le_of_lt (mid (by omega))
   ·have eb:bAt t.flat (i+1)=decide (cps p'=[40]):=by
     show decide (t.flat[i]?=some [40])=_
     rw [hpi]
     exact decide_eq_decide.mpr ⟨Option.some.inj,fun z=>by rw [z]⟩
    rw [eb]
    exact e1
  refine⟨_,rfl,_,_,rfl,rfl,_,rfl,aO (fun c1=>?_) (fun c1=>bx ?_)⟩
  ·have c1':(0:Int)+(i:Int) > 0:=od0 c1
   obtain⟨j,rfl⟩:∃j,i=j+1:=⟨i - 1,by omega⟩
   obtain⟨p0,hp0⟩:∃p0,ws[j]?=some p0:=⟨_,List.getElem?_eq_getElem (by omega)⟩
   have hpj:t.flat[j]?=some (cps p0):=by rw [<-hps,List.getElem?_map,hp0];rfl
   have hat0:atI (ws.map V.str) ((0+((j+1:Nat):Int)) - 1)=some (.str p0):=by
    rw [show(0+((j+1:Nat):Int)) - 1=(j:Int) by omega]
    exact cm (by rw [List.getElem?_map,hp0];rfl)
   have eb:bAt t.flat (j+1)=decide (cps p0=[40]):=by
    show decide (t.flat[j]?=some [40])=_
    rw [hpj]
    exact decide_eq_decide.mpr ⟨Option.some.inj,fun z=>by rw [z]⟩
   refine⟨_,rfl,_,rfl,_,_,rfl,rfl,p,_,_,_,rfl,rfl,hp,hat0,rfl,_,rfl,aO (fun c2=>?_) (fun c2=>bx ?_)⟩
   ·have n0:cps p0≠[40]:=fun z=>by
     have c2':(!decide (V.str p0=V.str "("))=true:=c2
     rw [show p0="(" from lN.mpr z] at c2'
     exact absurd c2' (by decide)
    refine⟨_,rfl,_,rfl,p,_,_,_,rfl,rfl,hp,hat,rfl,_,rfl,aO (fun c3=>?_) (fun c3=>?_)⟩
    ·have n1:cps p'≠[41]:=fun z=>by
      have c3':(!decide (V.str p'=V.str ")"))=true:=c3
      rw [show p'=")" from lN.mpr z] at c3'
      exact absurd c3' (by decide)
     obtain⟨FL,fi⟩:=fin (z++" ") (by
      rw [dg,if_neg]
      ·rfl
      ·rw [eb,decide_eq_true_iff]
       exact fun z=>z.elim n0 n1)
     have gl:z.length+(Str.ofString " ").length<=sizeLine:=by rw [dF] at FL;omega
     refine⟨_,rfl,z,_,rfl,rfl,gl,?_⟩
     exact⟨_,rfl,_,rfl,_,rfl,p,_,_,_,rfl,rfl,hp,hat,z++" ",p',rfl,rfl,FL,fi⟩
    ·have e41:cps p'=[41]:=by
      have c3':¬(!decide (V.str p'=V.str ")"))=true:=c3
      rw [Bool.not_eq_true',Bool.not_eq_false,decide_eq_true_iff] at c3'
      exact lN.mp (V.str.inj c3')
     obtain⟨FL,fi⟩:=fin z (by rw [if_pos (.inr e41),List.append_nil])
     exact⟨_,rfl,_,rfl,_,rfl,p,_,_,_,rfl,rfl,hp,hat,z,p',rfl,rfl,FL,fi⟩
   ·have e40:cps p0=[40]:=by
     have c2':¬(!decide (V.str p0=V.str "("))=true:=c2
     rw [Bool.not_eq_true',Bool.not_eq_false,decide_eq_true_iff] at c2'
     exact lN.mp (V.str.inj c2')
    obtain⟨FL,fi⟩:=fin z (by rw [if_pos (.inl (by rw [eb];exact dt0 e40)),List.append_nil])
    exact⟨_,rfl,_,rfl,_,rfl,p,_,_,_,rfl,rfl,hp,hat,z,p',rfl,rfl,FL,fi⟩
  ·have i0:i=0:=by
    have:¬((0:Int)+(i:Int) > 0):=of_decide_eq_false (Bool.eq_false_iff.mpr c1)
    omega
   obtain⟨FL,fi⟩:=fin z (by rw [i0,if_pos (.inl rfl),List.append_nil])
   exact⟨_,rfl,_,rfl,_,rfl,p,_,_,_,rfl,rfl,hp,hat,z,p',rfl,rfl,FL,fi⟩
 ·rintro σ H3 ⟨z,v3,rfl,rfl,hw⟩
  rw [Int.toNat_natCast,wl,<-pl,List.drop_length] at hw
  refine⟨_,rfl,q z ?_⟩
  rw [<-hw]
  exact(List.append_nil _).symm
inductive Fm where
 |lit (v n:Nat)
 |op (o:Str) (n:Nat)
 |test (o:Str)
 |as_ (n:Nat)
 |let_ (s:Str)
 |br (h:Str)
 |call (q t:Str)
inductive Ex where
 |var (s:Str)
 |node (f:Fm) (es:List Ex)
abbrev big:Nat:=1000000000000000000
def Fm.words:Fm->List Str
 |.lit v n=>["lit",fQ v,fQ n]
 |.op o n=>[o,fQ n]
 |.test o=>[o]
 |.as_ n=>["as",fQ n]
 |.let_ s=>["let",s]
 |.br h=>[h]
 |.call q t=>[dQ q t]
def Fm.vals:Fm->List V
 |.lit v n=>[.str "lit",.int v,.int n]
 |.op o n=>[.str "op",.str o,.int n]
 |.test o=>[.str "test",.str o]
 |.as_ n=>[.str "as",.int n]
 |.let_ s=>[.str "let",.str s]
 |.br h=>[.str h]
 |.call q t=>[.str "call",.str q,.str t]
def Fm.isCall:Fm->Bool
 |.call _ _=>true
 |_=>false
def Fm.fits:Fm->Nat->Prop
 |.lit v n,k=>k=0/\v < n/\n<=big
 |.op o n,k=>k=2/\(o="+"\/o="-"\/o="*")/\1<=n/\n<=big
 |.test o,k=>k=2/\(o="="\/o="<")
 |.as_ n,k=>k=1/\1<=n/\n<=big
 |.let_ s,k=>k=2/\aA s=true
 |.br h,k=>(h="if"/\k=3)\/(h="two"/\k=2)\/(h="first"/\k=1)\/(h="second"/\k=1)
 |.call q t,k=>k<=4/\aA t=true/\(q=""\/aA q=true)
mutual
def Ex.tr:Ex->Tr
 |.var s=>.w s
 |.node f es=>.n (f.words.map Tr.w++trs es)
def trs:List Ex->List Tr
 |[]=>[]
 |e::es=>e.tr::trs es
end
mutual
def Ex.ok:Ex->Prop
 |.var s=>aA s=true
 |.node f es=>f.fits es.length/\B9 es
def B9:List Ex->Prop
 |[]=>True
 |e::es=>e.ok/\B9 es
end
mutual
def Ex.dp:Ex->Nat
 |.var _=>0
 |.node _ es=>1+yV es
def yV:List Ex->Nat
 |[]=>0
 |e::es=>max e.dp (yV es)
end
theorem zY{f:Fm}{k:Nat}(h:f.fits k):k<=4:=by
 cases f with
 |lit=>obtain⟨rfl,_⟩:=h;decide
 |op=>obtain⟨rfl,_⟩:=h;decide
 |test=>obtain⟨rfl,_⟩:=h;decide
 |as_=>obtain⟨rfl,_⟩:=h;decide
 |let_=>obtain⟨rfl,_⟩:=h;decide
 |br=>rcases h with ⟨_,rfl⟩|⟨_,rfl⟩|⟨_,rfl⟩|⟨_,rfl⟩<;>decide
 |call=>exact h.1
theorem o9:∀es:List Ex,(trs es).length=es.length
 |[]=>rfl
 |_::es=>congrArg (·+1) (o9 es)
theorem ui:∀as bs:List Ex,trs (as++bs)=trs as++trs bs
 |[],_=>rfl
 |a::as,bs=>by
  show a.tr::trs (as++bs)=a.tr::trs as++trs bs
  rw [ui as bs]
  rfl
theorem rM:∀{es:List Ex} {e:Ex},B9 es->e∈es->e.ok
 |a::as,e,⟨h1,h2⟩,h=>by
  rcases mc0 h with rfl|z
  ·exact h1
  ·exact rM h2 z
theorem qW:∀{es:List Ex} {e:Ex},e∈es->e.dp<=yV es
 |a::as,e,h=>by
  show _<=max a.dp (yV as)
  rcases mc0 h with rfl|z
  ·omega
  ·have:=qW z
   omega
theorem tK(f:Fm):f.words.length<=3:=by cases f<;>simp [Fm.words]
theorem lh:∀ws:List Str,fF (ws.map Tr.w)=0
 |[]=>rfl
 |w::ws=>by
  show max 0 (fF (ws.map Tr.w))=0
  rw [lh ws]
  rfl
theorem rF:∀as bs:List Tr,fF (as++bs)=max (fF as) (fF bs)
 |[],bs=>by show fF bs=max 0 (fF bs);omega
 |a::as,bs=>by
  show max a.dep (fF (as++bs))=max (max a.dep (fF as)) (fF bs)
  rw [rF as bs]
  omega
mutual
theorem yJ:∀e:Ex,e.tr.dep=e.dp
 |.var s=>rfl
 |.node f es=>by
  show 1+fF (f.words.map Tr.w++trs es)=1+yV es
  rw [rF,lh,wk es]
  omega
theorem wk:∀es:List Ex,fF (trs es)=yV es
 |[]=>rfl
 |e::es=>by
  show max e.tr.dep (fF (trs es))=max e.dp (yV es)
  rw [yJ e,wk es]
end
mutual
inductive j8 (H:Hp):V->Ex->Prop
 |var {p:Addr} {s:Str}:H p=some (.tup [.str "var",.str s])->j8 H (.ref p) (.var s)
 |node {p:Addr} {f:Fm} {xs:List V} {es:List Ex}:f.isCall=false->H p=some (.tup (f.vals++xs))->dB H xs es->j8 H (.ref p) (.node f es)
 |call {p p2:Addr} {q t:Str} {xs:List V} {es:List Ex}:H p=some (.tup [.str "call",.str q,.str t,.ref p2])->H p2=some (.tup xs)->dB H xs es->j8 H (.ref p) (.node (.call q t) es)
inductive dB (H:Hp):List V->List Ex->Prop
 |nil:dB H [] []
 |cons {x:V} {e:Ex} {xs:List V} {es:List Ex}:j8 H x e->dB H xs es->dB H (x::xs) (e::es)
end
mutual
theorem j8.keep{H H':Hp}(k:∀a xs,H a=some (.tup xs)->H' a=some (.tup xs)):∀{x:V} {e:Ex},j8 H x e->j8 H' x e
 |_,_,.var h=>.var (k _ _ h)
 |_,_,.node c h r=>.node c (k _ _ h) (dB.keep k r)
 |_,_,.call h h2 r=>.call (k _ _ h) (k _ _ h2) (dB.keep k r)
theorem dB.keep{H H':Hp}(k:∀a xs,H a=some (.tup xs)->H' a=some (.tup xs)):∀{xs:List V} {es:List Ex},dB H xs es->dB H' xs es
 |_,_,.nil=>.nil
 |_,_,.cons h r=>.cons (j8.keep k h) (dB.keep k r)
end
theorem j8.same{H H':Hp}(s:aM H H'){x:V}{e:Ex}(h:j8 H x e):j8 H' x e:=h.keep fun _ _ q=>s _ _ q
theorem dB.same{H H':Hp}(s:aM H H'){xs:List V}{es:List Ex}(h:dB H xs es):dB H' xs es:=h.keep fun _ _ q=>s _ _ q
theorem dB.append{H:Hp}:∀{xs ys:List V} {es fs:List Ex},dB H xs es->dB H ys fs->dB H (xs++ys) (es++fs)
 |_,_,_,_,.nil,h=>h
 |_,_,_,_,.cons a r,h=>.cons a (r.append h)
theorem dB.length{H:Hp}:∀{xs:List V} {es:List Ex},dB H xs es->xs.length=es.length
 |_,_,.nil=>rfl
 |_,_,.cons _ r=>congrArg (·+1) r.length
theorem dB.get{H:Hp}:∀{xs:List V} {es:List Ex},dB H xs es->∀{i:Nat} {x:V},xs[i]?=some x->∃e,es[i]?=some e/\j8 H x e
 |_,_,.cons h r,0,x,hx=>by
  cases hx
  exact⟨_,rfl,h⟩
 |_,_,.cons h r,i+1,x,hx=>r.get (i:=i) hx
inductive Kd where
 |num (n:Nat)
 |name (q t:Str)
 |pair (a b:Kd)
def Kd.tr:Kd->Tr
 |.num n=>.n [.w "num",.w (fQ n)]
 |.name q t=>.w (dQ q t)
 |.pair a b=>.n [.w "pair",a.tr,b.tr]
def Kd.ok:Kd->Prop
 |.num n=>1<=n/\n<=1000000000000000000
 |.name q t=>aA t=true/\(q=""\/aA q=true)
 |.pair a b=>a.ok/\b.ok
def Kd.lv:Kd->Nat
 |.num _=>1
 |.name _ _=>1
 |.pair a b=>a.lv+b.lv
def Kd.dp:Kd->Nat
 |.num _=>0
 |.name _ _=>0
 |.pair a b=>1+max a.dp b.dp
inductive j9 (K:W.Frag) (H:Hp):V->Kd->Prop
 |num {p:Addr} {n:Nat}:H p=some (.tup [.str "num",.int n])->j9 K H (.ref p) (.num n)
 |name {p:Addr} {q t:Str}:H p=some (.tup [.str "name",.str q,.str t])->j9 K H (.ref p) (.name q t)
 |pair {p:Addr} {x y:V} {a b:Kd}:H p=some (.tup [.str "pair",x,y])->j9 K H x a->j9 K H y b->j9 K H (.ref p) (.pair a b)
theorem j9.same{K:W.Frag}{H H':Hp}(e:aM H H'):∀{x:V} {k:Kd},j9 K H x k->j9 K H' x k
 |_,_,.num h=>.num (e _ _ h)
 |_,_,.name h=>.name (e _ _ h)
 |_,_,.pair h a b=>.pair (e _ _ h) (j9.same e a) (j9.same e b)
abbrev sW:List V:=[.str "+",.str "-",.str "*"]
abbrev wW:List V:=[.str "=",.str "<"]
abbrev brs:List (Str × Int):=[("if",3),("two",2),("first",1),("second",1)]
abbrev Cw:List Str:=["lit","+","-","*","=","<","as","let","if","two","first","second"]
theorem dm(xs:List V)(k:Nat):dc xs (some (k:Int)) none=xs.drop k:=by
 unfold dc
 rw [HT.sIx_nat,HT.sIx_none]
 by_cases h:k<=xs.length
 ·rw [Nat.min_eq_left h,List.take_of_length_le (by rw [List.length_drop];omega)]
 ·rw [Nat.min_eq_right (by omega),List.drop_length,List.drop_eq_nil_of_le (by omega),List.take_nil]
theorem ba{n k:Nat}(h:1<=k)(hn:1<=n):¬(HT.sIx n 0 (some (k:Int))=0/\HT.sIx n n none=n):=fun z=>by
 have:=z.1
 rw [HT.sIx_nat] at this
 omega
theorem i4{z w:Str}(h:z≠w):¬(decide (V.str z=V.str w)=true):=fun c=>h (V.str.inj (od0 c))
theorem xb:sW.all jh=true:=by decide +kernel
theorem xP:wW.all jh=true:=by decide +kernel
theorem Cs{b:Bool}(h:b=false):¬(b=true):=by rw [h];decide
mutual
def Tr.dat:Tr->PyData
 |.w s=>.str s
 |.n ts=>.tuple (dats ts)
def dats:List Tr->List PyData
 |[]=>[]
 |t::ts=>t.dat::dats ts
end
mutual
theorem bz.dat{K:W.Frag}{H:Hp}:∀{x:V} {t:Tr},bz K H x t->Dat K H x t.dat
 |_,_,.w s=>.str s
 |_,_,.n h r=>.tup (SqT.of h) (aJ.dats r)
theorem aJ.dats{K:W.Frag}{H:Hp}:∀{xs:List V} {ts:List Tr},aJ K H xs ts->jZ K H xs (dats ts)
 |_,_,.nil=>.nil
 |_,_,.cons h r=>.cons (bz.dat h) (aJ.dats r)
end
def Dq(ps:List (List Nat)):Prop:=∀p∈ps,∀c∈p,c < 0x110000
theorem mJ(z:Str):PyData.strOk z=true↔∀c∈z.cps.toList,c < 0x110000:=by
 unfold PyData.strOk
 rw [Array.all_eq_true_iff_forall_mem]
 simp
mutual
theorem tP:∀{t:Tr},Dq t.flat->t.dat.canLay0=true
 |.w s,h=>by
  simp only [Tr.dat,PyData.canLay0]
  exact(mJ s).mpr (h (cps s) (.head _))
 |.n ts,h=>by
  simp only [Tr.dat,PyData.canLay0]
  exact q9 (ts:=ts) fun p hp=>h p (.tail _ (List.mem_append_left _ hp))
theorem q9:∀{ts:List Tr},Dq (aD ts)->PyData.canLayAll0 (dats ts)=true
 |[],_=>by simp only [dats,PyData.canLayAll0]
 |t::ts,h=>by
  simp only [dats,PyData.canLayAll0,tP (t:=t) fun p hp=>h p (List.mem_append_left _ hp),q9 (ts:=ts) fun p hp=>h p (List.mem_append_right _ hp),Bool.and_self]
end
structure Sm(t:Tr):Prop where
 tok:∀p∈t.flat,lK p
 len:t.flat.length<=400
 dep:t.dep<=30
structure Sms(ts:List Tr):Prop where
 tok:∀p∈aD ts,lK p
 len:(aD ts).length<=400
 dep:fF ts<=30
theorem Sm.sub{ts:List Tr}(h:Sm (.n ts)):Sms ts:=by
 refine⟨fun p hp=>h.tok p (.tail _ (List.mem_append_left _ hp)),?_,?_⟩
 ·have:=h.len
  have e:(Tr.n ts).flat.length=(aD ts).length+2:=by
   show([40]::(aD ts++[[41]])).length=_
   simp
  omega
 ·have:1+fF ts<=30:=h.dep
  omega
theorem hJ:∀{ts:List Tr} {t:Tr},t∈ts->∀p∈t.flat,p∈aD ts
 |u::r,t,h,p,hp=>by
  show p∈u.flat++aD r
  rcases mc0 h with rfl|z
  ·exact List.mem_append_left _ hp
  ·exact List.mem_append_right _ (hJ z p hp)
theorem Sms.mem{ts:List Tr}(h:Sms ts){t:Tr}(ht:t∈ts):Sm t :=
 ⟨fun p hp=>h.tok p (hJ ht p hp),Nat.le_trans (gO ht).1 h.len,Nat.le_trans (gF ht) h.dep⟩
theorem Sms.tail{t:Tr}{ts:List Tr}(h:Sms (t::ts)):Sms ts :=
 ⟨fun p hp=>h.tok p (List.mem_append_right _ hp),by have:=h.len;have e:(aD (t::ts)).length=t.flat.length+(aD ts).length:=la0;omega,by have:max t.dep (fF ts)<=30:=h.dep;omega⟩
theorem Sms.head{t:Tr}{ts:List Tr}(h:Sms (t::ts)):Sm t:=h.mem (.head _)
theorem Sms.drop:∀{ts:List Tr} (k:Nat),Sms ts->Sms (ts.drop k)
 |[],k,h=>by rw [List.drop_nil];exact h
 |_::_,0,h=>h
 |_::ts,k+1,h=>Sms.drop (ts:=ts) k h.tail
theorem Sms.count{ts:List Tr}(h:Sms ts):ts.length<=400:=Nat.le_trans (nJ ts) h.len
theorem Sm.word{s:Str}(h:Sm (.w s)):s.length<=25/\PyData.strOk s=true:=by
 have:=h.tok (cps s) (.head _)
 exact⟨by rw [<-bG];exact this.1,(mJ s).mpr this.2.2⟩
mutual
theorem wF:∀{t:Tr},(∀p∈t.flat,lK p)->Shw t.dat (300*t.flat.length - 2) t.dep
 |.w s,h=>by
  have hs:=h (cps s) (.head _)
  have l:=hs.1
  rw [bG] at l
  refine(ue ((mJ s).mpr hs.2.2) _).le ?_ nr0
  show _<=300*1 - 2
  omega
 |.n ts,h=>by
  have hs:=wB (ts:=ts) fun p hp=>h p (.tail _ (List.mem_append_left _ hp))
  have e:(Tr.n ts).flat.length=(aD ts).length+2:=by
   show([40]::(aD ts++[[41]])).length=_
   simp
  refine(Av hs).le ?_ ?_
  ·rw [e]
   omega
  ·show _<=1+fF ts
   omega
theorem wB:∀{ts:List Tr},(∀p∈aD ts,lK p)->AN (dats ts) (300*(aD ts).length) (fF ts)
 |[],_=>xQ _
 |t::ts,h=>by
  have h1:=wF (t:=t) fun p hp=>h p (List.mem_append_left _ hp)
  have h2:=wB (ts:=ts) fun p hp=>h p (List.mem_append_right _ hp)
  have e:(aD (t::ts)).length=t.flat.length+(aD ts).length:=la0
  have p1:=lD t
  have h3:=uD (h1.le nr0 (Nat.le_max_left t.dep (fF ts))) (⟨h2.sh,h2.nd,Nat.le_trans h2.dp (Nat.le_max_right _ _),h2.ln⟩:AN (dats ts) _ (max t.dep (fF ts)))
  refine⟨h3.sh,h3.nd,h3.dp,Nat.le_trans h3.ln ?_⟩
  rw [e]
  omega
end
theorem Sm.shown{K:W.Frag}{H:Hp}{x:V}{t:Tr}(h:Sm t)(hx:bz K H x t):∃d n,Dat K H x d/\Shw d n 60/\n<=2000000 :=
 ⟨_,_,hx.dat,(wF h.tok).le nr0 (by have:=h.dep;omega),by have:=h.len;omega⟩
def lU(t:Tr)(lo hi:Int):Option Nat:=match t with
 |.w z=>if dr z=true/\lo<=(bn (cps z):Int)/\(bn (cps z):Int)<=hi then some (bn (cps z)) else none
 |.n _=>none
def eu(t:Tr):Option Nat:=lU t 1 1000000000000000000
def bo:Tr->Option Str
 |.w z=>if aA z=true then some z else none
 |.n _=>none
def vz:List Str->Option (Str × Str)
 |[a,b]=>if aA a=true/\aA b=true then some (a,b) else none
 |_=>none
def jb(z:Str):Option (Str × Str):=if aA z=true then some ("",z) else vz (Txt.split z ".")
def fP{α:Type}:List (Option α)->Option (List α)
 |[]=>some []
 |some a::r=>(fP r).map (a::·)
 |none::_=>none
def pR:List Tr->Option (Fm × Nat)
 |[a,b]=>match eu b with
  |some n=>(lU a 0 ((n:Int) - 1)).map fun v=>(.lit v n,2)
  |none=>none
 |_=>none
def op?(z:Str):List Tr->Option (Fm × Nat)
 |[a,_,_]=>(eu a).map fun n=>(.op z n,1)
 |_=>none
def as?:List Tr->Option (Fm × Nat)
 |[a,_]=>(eu a).map fun n=>(.as_ n,1)
 |_=>none
def uQ:List Tr->Option (Fm × Nat)
 |[a,_,_]=>(bo a).map fun s=>(.let_ s,1)
 |_=>none
def jk(z:Str)(ts:List Tr):Option (Fm × Nat):=match jb z with
 |some p=>if ts.length<=4 then some (.call p.1 p.2,0) else none
 |none=>none
def df(z:Str)(ts:List Tr):Option (Fm × Nat) :=
 if z="lit" then pR ts
 else if inV (.str z) sW=true then op? z ts
 else if inV (.str z) wW=true then (if ts.length=2 then some (.test z,0) else none)
 else if z="as" then as? ts
 else if z="let" then uQ ts
 else match fK brs z with
  |some k=>if (ts.length:Int)=k then some (.br z,0) else none
  |none=>jk z ts
def nod(ts:List Tr)(os:List (Option Ex)):Option Ex:=match ts with
 |.w z::r=>match df z r with
  |some p=>(fP (os.drop (p.2+1))).map (.node p.1)
  |none=>none
 |_=>none
mutual
def ex?:Tr->Option Ex
 |.w z=>if aA z=true then some (.var z) else none
 |.n ts=>nod ts (exo ts)
def exo:List Tr->List (Option Ex)
 |[]=>[]
 |t::ts=>ex? t::exo ts
end
theorem uq:∀ts:List Tr,exo ts=ts.map ex?
 |[]=>rfl
 |t::ts=>by show ex? t::exo ts=ex? t::ts.map ex?;rw [uq ts]
def ii(ts:List Tr):Option (List Ex):=fP (ts.map ex?)
theorem lA{z:Str}{ts:List Tr}:ex? (.n (.w z::ts))=match df z ts with|some p=>(ii (ts.drop p.2)).map (.node p.1)|none=>none:=by
 show nod (.w z::ts) (exo (.w z::ts))=_
 rw [uq]
 unfold ii
 show(match df z ts with|some p=>(fP ((ex? (.w z)::ts.map ex?).drop (p.2+1))).map (Ex.node p.1)|none=>none)=_
 cases df z ts with
 |none=>rfl
 |some p =>
  show(fP ((ts.map ex?).drop p.2)).map (Ex.node p.1)=(fP ((ts.drop p.2).map ex?)).map (Ex.node p.1)
  rw [List.map_drop]
theorem wI{ts:List Tr}(h:¬∃z r,ts=.w z::r):ex? (.n ts)=none:=by
 show nod ts (exo ts)=none
 match ts,h with
 |[],_=>rfl
 |.n _::_,_=>rfl
 |.w z::r,h=>exact absurd ⟨z,r,rfl⟩ h
def D1(ts:List Tr)(os:List (Option Kd)):Option Kd:=match ts,os with
 |[.w z,a],_=>if z="num" then (eu a).map Kd.num else none
 |[.w z,_,_],[_,k,l]=>if z="pair" then (match k,l with|some k,some l=>some (.pair k l)|_,_=>none) else none
 |_,_=>none
mutual
def kd?:Tr->Option Kd
 |.w z=>(jb z).map fun p=>.name p.1 p.2
 |.n ts=>D1 ts (kdo ts)
def kdo:List Tr->List (Option Kd)
 |[]=>[]
 |t::ts=>kd? t::kdo ts
end
theorem lc:∀(n:Nat) (cs:List Nat),cs.length=n->jy cs->pP (bn cs)=cs
 |0,cs,hl,h=>by
  obtain rfl:=List.eq_nil_of_length_eq_zero hl
  rcases h with h|⟨_,_,h,_⟩<;>cases h
 |1,cs,hl,h=>by
  match cs,hl with
  |[c],_ =>
   have hc:48<=c/\c<=57:=h.all.1 c (.head _)
   have e:bn [c]=c - 48:=by
    unfold bn
    show 0*10+(c - 48)=_
    omega
   rw [e,jC (by omega),show 48+(c - 48)=c by omega]
 |n+2,cs,hl,h=>by
  have hne:cs≠[]:=fun e=>by rw [e] at hl;cases hl
  obtain⟨xs,c,rfl⟩:∃xs c,cs=xs++[c]:=⟨_,_,(List.dropLast_concat_getLast hne).symm⟩
  have hc:48<=c/\c<=57:=h.all.1 c (List.mem_append_right _ (.head _))
  have hxl:xs.length=n+1:=by simpa using hl
  have hx:jy xs:=by
   rcases h with h|⟨c0,r,e,h0,hr,hr2⟩
   ·have:=congrArg List.length h
    rw [hl] at this
    simp at this
   ·match xs,hxl,e with
    |x::xs',_,e =>
     injection e with e1 e2
     subst e1
     exact .inr ⟨x,xs',rfl,h0,fun d hd=>hr d (by rw [<-e2];exact List.mem_append_left _ hd),by rw [<-e2] at hr2;have:=List.length_append (as:=xs') (bs:=[c]);have h3:(xs'++[c]).length<=100:=hr2;omega⟩
  have ih:=lc (n+1) xs hxl hx
  have pos:1<=bn xs:=by
   rcases Nat.eq_zero_or_pos (bn xs) with z|z
   ·rw [z] at ih
    have e0:pP 0=[48]:=jC (by decide)
    rw [e0] at ih
    rcases h with h|⟨c0,r,e,h0,_⟩
    ·have:=congrArg List.length h
     rw [hl] at this
     simp at this
    ·rw [<-ih] at e
     injection e with e1 e2
     omega
   ·exact z
  rw [kU,pQ (by omega),show(bn xs*10+(c - 48)) / 10=bn xs by omega,ih,show 48+(bn xs*10+(c - 48))%10=c by omega]
theorem zT{c:Nat}(h:inF c=true):48<=c/\c<=57:=by
 unfold inF at h
 rw [StrLaws.found_one] at h
 have:c∈AU.cps.toList:=od0 h
 have all:∀c∈AU.cps.toList,48<=c/\c<=57:=by decide +kernel
 exact all c this
theorem mV{z:Str}(h:dr z=true):jy (cps z)/\z.length<=19:=by
 unfold dr at h
 rw [Bool.and_eq_true,Bool.and_eq_true,Bool.and_eq_true] at h
 obtain⟨⟨⟨h1,h2⟩,h3⟩,h4⟩:=h
 have l1:=od0 h1
 have l2:=od0 h2
 have all:∀c∈cps z,48<=c/\c<=57:=fun c hc=>by
  unfold tD at h3
  rw [List.all_eq_true] at h3
  exact zT (h3 (inF c) (List.mem_map_of_mem hc))
 refine⟨?_,l2⟩
 have lz:=bG z
 have hh:z.cps.toList=cps z:=rfl
 rw [hh] at h4
 match e:cps z,all,h4 with
 |[],_,_=>rw [e] at lz;have:([]:List Nat).length=0:=rfl;omega
 |c0::r,all,h4 =>
  by_cases c:c0=48
  ·rw [Bool.or_eq_true] at h4
   rcases h4 with h4|h4
   ·have l:=od0 h4
    rw [e,lc0] at lz
    have:r=[]:=List.eq_nil_of_length_eq_zero (by omega)
    rw [this,c]
    exact .inl rfl
   ·have h5:(!cf c0)=true:=h4
    have f0:cf 48=true:=by decide +kernel
    rw [c,f0] at h5
    cases h5
  ·have h0:=all c0 (.head _)
   exact .inr ⟨c0,r,rfl,by omega,fun d hd=>all d (.tail _ hd),by rw [e,lc0] at lz;omega⟩
theorem Af{z:Str}(h:dr z=true):fQ (bn (cps z))=z:=by
 refine Tk.lst_inj ?_
 show cps (fQ (bn (cps z)))=cps z
 rw [show cps (fQ (bn (cps z)))=pP (bn (cps z)) from pq _]
 exact lc _ _ rfl (mV h).1
theorem vV{t:Tr}{lo hi:Int}{n:Nat}(h:lU t lo hi=some n):t=.w (fQ n)/\lo<=(n:Int)/\(n:Int)<=hi:=by
 match t,h with
 |.w z,h =>
  simp only [lU] at h
  split at h
  ·rename_i c
   cases h
   exact⟨by rw [Af c.1],c.2⟩
  ·cases h
theorem ip{t:Tr}{n:Nat}(h:eu t=some n):t=.w (fQ n)/\1<=n/\n<=big:=by
 obtain⟨h1,h2,h3⟩:=vV h
 exact⟨h1,by omega,by show n<=1000000000000000000;omega⟩
theorem cZ{t:Tr}{s:Str}(h:bo t=some s):t=.w s/\aA s=true:=by
 match t,h with
 |.w z,h =>
  simp only [bo] at h
  split at h
  ·cases h
   exact⟨rfl,by assumption⟩
  ·cases h
theorem nl(c:Nat):∀xs:List Nat,xs.flatMap (Tk.rep c [c])=xs
 |[]=>rfl
 |x::xs=>by
  rw [List.flatMap_cons,nl c xs]
  unfold Tk.rep
  split
  ·rename_i e
   rw [e]
   rfl
  ·rfl
theorem Bg{l:List Str}{p:Str × Str}(h:vz l=some p):l=[p.1,p.2]/\aA p.1=true/\aA p.2=true:=by
 match l,h with
 |[a,b],h =>
  simp only [vz] at h
  split at h
  ·rename_i c
   cases h
   exact⟨rfl,c⟩
  ·cases h
theorem ze{z:Str}{p:Str × Str}(h:jb z=some p):dQ p.1 p.2=z/\aA p.2=true/\(p.1=""\/aA p.1=true):=by
 unfold jb at h
 split at h
 ·rename_i c
  cases h
  exact⟨if_pos rfl,c,.inl rfl⟩
 ·obtain⟨h1,h2,h3⟩:=Bg h
  refine⟨Tk.lst_inj ?_,h3,.inr h2⟩
  show cps (dQ p.1 p.2)=cps z
  rw [gY (mo h2)]
  have e:(Txt.split z ⟨#[46]⟩).map Tk.lst=Tk.spl 46 (cps z):=Tk.split_lst z 46
  have e1:Txt.split z ⟨#[46]⟩=[p.1,p.2]:=h1
  rw [e1] at e
  have g:=Tk.glue_spl 46 [46] (cps z)
  rw [<-e,nl] at g
  rw [<-g]
  show _=Tk.glue [46] [cps p.1,cps p.2]
  rw [Tk.glue_cons (by simp)]
  show _=cps p.1++[46]++cps p.2
  simp
theorem lW{z:Str}{ws:List Str}(h:inV (.str z) (ws.map V.str)=true):z∈ws:=by
 unfold inV at h
 rw [List.any_eq_true] at h
 obtain⟨y,hy,e⟩:=h
 obtain⟨s,hs,rfl⟩:=List.mem_map.mp hy
 have e':s=z:=by simpa [eqV] using e
 rw [<-e']
 exact hs
theorem tJ{z:Str}{k:Int}(h:fK brs z=some k):∃n:Nat,k=n/\((z="if"/\n=3)\/(z="two"/\n=2)\/(z="first"/\n=1)\/(z="second"/\n=1)):=by
 unfold fK at h
 obtain⟨p,hp,rfl⟩:=Option.map_eq_some_iff.mp h
 have hm:=List.mem_of_find?_eq_some hp
 have hz:p.1=z:=by
  have:=List.find?_some hp
  exact od0 this
 simp only [List.mem_cons,List.mem_nil_iff,or_false] at hm
 rcases hm with rfl|rfl|rfl|rfl
 ·exact⟨3,rfl,.inl ⟨hz.symm,rfl⟩⟩
 ·exact⟨2,rfl,.inr (.inl ⟨hz.symm,rfl⟩)⟩
 ·exact⟨1,rfl,.inr (.inr (.inl ⟨hz.symm,rfl⟩))⟩
 ·exact⟨1,rfl,.inr (.inr (.inr ⟨hz.symm,rfl⟩))⟩
theorem uT{z:Str}{ts:List Tr}{p:Fm × Nat}(h:df z ts=some p):(Tr.w z::ts)=p.1.words.map Tr.w++ts.drop p.2/\p.1.fits (ts.drop p.2).length:=by
 unfold df at h
 split at h
 ·rename_i c
  subst c
  match ts,h with
  |[a,b],h =>
   simp only [pR] at h
   cases eb:eu b with
   |none=>rw [eb] at h;cases h
   |some n =>
    rw [eb] at h
    obtain⟨v,ev,rfl⟩:=Option.map_eq_some_iff.mp h
    obtain⟨rfl,s1,s2⟩:=ip eb
    obtain⟨rfl,v1,v2⟩:=vV ev
    exact⟨rfl,rfl,by omega,s2⟩
 split at h
 ·rename_i c
  match ts,h with
  |[a,b,d],h =>
   obtain⟨n,en,rfl⟩:=Option.map_eq_some_iff.mp h
   obtain⟨rfl,s1,s2⟩:=ip en
   have:=lW (ws:=["+","-","*"]) c
   simp only [List.mem_cons,List.mem_nil_iff,or_false] at this
   exact⟨rfl,rfl,this,s1,s2⟩
 split at h
 ·rename_i c
  split at h
  ·cases h
   have:=lW (ws:=["=","<"]) c
   simp only [List.mem_cons,List.mem_nil_iff,or_false] at this
   exact⟨rfl,by assumption,this⟩
  ·cases h
 split at h
 ·rename_i c
  subst c
  match ts,h with
  |[a,b],h =>
   obtain⟨n,en,rfl⟩:=Option.map_eq_some_iff.mp h
   obtain⟨rfl,s1,s2⟩:=ip en
   exact⟨rfl,rfl,s1,s2⟩
 split at h
 ·rename_i c
  subst c
  match ts,h with
  |[a,b,d],h =>
   obtain⟨s,en,rfl⟩:=Option.map_eq_some_iff.mp h
   obtain⟨rfl,s1⟩:=cZ en
   exact⟨rfl,rfl,s1⟩
 split at h
 ·rename_i k ek
  split at h
  ·rename_i c
   cases h
   obtain⟨n,rfl,hn⟩:=tJ ek
   have:ts.length=n:=by omega
   refine⟨rfl,?_⟩
   rw [<-this] at hn
   exact hn
  ·cases h
 ·unfold jk at h
  split at h
  ·rename_i q eq
   split at h
   ·rename_i c
    cases h
    obtain⟨h1,h2,h3⟩:=ze eq
    refine⟨?_,c,h2,h3⟩
    show Tr.w z::ts=[Tr.w (dQ q.1 q.2)]++ts
    rw [h1]
    rfl
   ·cases h
  ·cases h
theorem gL{α β:Type}{f:α->Option β}:∀{l:List α} {r:List β},fP (l.map f)=some r->l.length=r.length/\∀(i:Nat) (a:α),l[i]?=some a->∃b,r[i]?=some b/\f a=some b
 |[],r,h=>by cases h;exact⟨rfl,fun i a e=>by cases e⟩
 |a::l,r,h=>by
  rw [List.map_cons] at h
  cases ea:f a with
  |none=>rw [ea] at h;cases h
  |some b =>
   rw [ea] at h
   obtain⟨r',er,rfl⟩:=Option.map_eq_some_iff.mp h
   obtain⟨h1,h2⟩:=gL er
   refine⟨congrArg (·+1) h1,fun i x e=>?_⟩
   cases i with
   |zero=>cases e;exact⟨b,rfl,ea⟩
   |succ i=>exact h2 i x e
theorem oS{α β:Type}{f:α->Option β}:∀{l:List α},fP (l.map f)=none->∃a∈l,f a=none
 |[],h=>by cases h
 |a::l,h=>by
  rw [List.map_cons] at h
  cases ea:f a with
  |none=>exact⟨a,.head _,ea⟩
  |some b =>
   rw [ea] at h
   have:fP (l.map f)=none:=by
    cases e:fP (l.map f) with
    |none=>rfl
    |some r=>have h':(fP (l.map f)).map (b::·)=none:=h;rw [e] at h';cases h'
   obtain⟨x,hx,e⟩:=oS this
   exact⟨x,.tail _ hx,e⟩
theorem ck{α β:Type}{f:α->Option β}(l:List α):(fP (l.map f)).isSome=(l.map fun a=>(f a).isSome).all id:=by
 cases e:fP (l.map f) with
 |none =>
  obtain⟨a,ha,e⟩:=oS e
  refine(Bool.eq_false_iff.mpr fun z=>?_).symm
  rw [List.all_eq_true] at z
  have:=z _ (List.mem_map_of_mem (f:=fun a=>(f a).isSome) ha)
  rw [e] at this
  cases this
 |some r =>
  obtain⟨h1,h2⟩:=gL e
  refine(List.all_eq_true.mpr fun b hb=>?_).symm
  obtain⟨a,ha,rfl⟩:=List.mem_map.mp hb
  obtain⟨i,hi⟩:=List.mem_iff_getElem?.mp ha
  obtain⟨b,_,eb⟩:=h2 i a hi
  show(f a).isSome=true
  rw [eb]
  rfl
theorem zc:∀{ts:List Tr} {es:List Ex},(∀t∈ts,∀e,ex? t=some e->e.tr=t/\e.ok)->ii ts=some es->trs es=ts/\B9 es
 |[],es,_,h=>by cases h;exact⟨rfl,True.intro⟩
 |t::ts,es,ih,h=>by
  unfold ii at h
  rw [List.map_cons] at h
  cases et:ex? t with
  |none=>rw [et] at h;cases h
  |some e =>
   rw [et] at h
   obtain⟨r,er,rfl⟩:=Option.map_eq_some_iff.mp h
   obtain⟨h1,h2⟩:=zc (ts:=ts) (es:=r) (fun u hu=>ih u (.tail _ hu)) er
   obtain⟨g1,g2⟩:=ih t (.head _) e et
   refine⟨?_,g2,h2⟩
   show e.tr::trs r=t::ts
   rw [g1,h1]
theorem so{ts:List Tr}{e:Ex}(ih:∀t∈ts,∀e,ex? t=some e->e.tr=t/\e.ok)(h:ex? (.n ts)=some e):e.tr=.n ts/\e.ok:=by
 match ts,ih,h with
 |[],_,h=>cases h
 |.n _::_,_,h=>cases h
 |.w z::r,ih,h =>
  rw [lA] at h
  cases ef:df z r with
  |none=>rw [ef] at h;cases h
  |some p =>
   rw [ef] at h
   obtain⟨es,ee,rfl⟩:=Option.map_eq_some_iff.mp h
   obtain⟨f1,f2⟩:=uT ef
   obtain⟨h1,h2⟩:=zc (fun t ht=>ih t (.tail _ (List.mem_of_mem_drop ht))) ee
   refine⟨?_,?_,h2⟩
   ·show Tr.n (p.1.words.map Tr.w++trs es)=_
    rw [h1,f1]
   ·rw [<-o9,h1]
    exact f2
mutual
theorem BG:∀(t:Tr) (e:Ex),ex? t=some e->e.tr=t/\e.ok
 |.w z,e,h=>by
  have h':(if aA z=true then some (Ex.var z) else none)=some e:=h
  split at h'
  ·cases h'
   exact⟨rfl,by assumption⟩
  ·cases h'
 |.n ts,e,h=>so (yw ts) h
theorem yw:∀(ts:List Tr),∀t∈ts,∀e,ex? t=some e->e.tr=t/\e.ok
 |[],t,h,_,_=>nomatch h
 |u::ts,t,h,e,q=>by
  rcases mc0 h with z|z
  ·rw [z] at q ⊢
   exact BG u e q
  ·exact yw ts t z e q
end
theorem nZ{z:Str}{a:Tr}:kd? (.n [.w z,a])=if z="num" then (eu a).map Kd.num else none:=rfl
theorem iP{z:Str}{a b:Tr}:kd? (.n [.w z,a,b])=if z="pair" then (match kd? a,kd? b with|some k,some l=>some (.pair k l)|_,_=>none) else none:=rfl
theorem iw{ts:List Tr} (h:¬((∃a,ts=[.w "num",a])\/∃a b,ts=[.w "pair",a,b])):kd? (.n ts)=none:=by
 match ts,h with
 |[],_=>rfl
 |.n _::_,_=>rfl
 |[.w z],_=>rfl
 |[.w z,a],h =>
  rw [nZ,if_neg]
  rintro rfl
  exact h (.inl ⟨a,rfl⟩)
 |[.w z,a,b],h =>
  rw [iP,if_neg]
  rintro rfl
  exact h (.inr ⟨a,b,rfl⟩)
 |.w z::a::b::c::r,_=>rfl
theorem r9{ts:List Tr}{k:Kd}(ih:∀t∈ts,∀k,kd? t=some k->k.tr=t/\k.ok)(h:kd? (.n ts)=some k):k.tr=.n ts/\k.ok:=by
 by_cases c:(∃a,ts=[.w "num",a])\/∃a b,ts=[.w "pair",a,b]
 ·rcases c with ⟨a,rfl⟩|⟨a,b,rfl⟩
  ·rw [nZ,if_pos rfl] at h
   obtain⟨n,en,rfl⟩:=Option.map_eq_some_iff.mp h
   obtain⟨rfl,s1,s2⟩:=ip en
   exact⟨rfl,s1,s2⟩
  ·rw [iP,if_pos rfl] at h
   cases ea:kd? a with
   |none=>rw [ea] at h;cases h
   |some k1 =>
    cases eb:kd? b with
    |none=>rw [ea,eb] at h;cases h
    |some l1 =>
     rw [ea,eb] at h
     cases h
     obtain⟨a1,a2⟩:=ih a (.tail _ (.head _)) _ ea
     obtain⟨b1,b2⟩:=ih b (.tail _ (.tail _ (.head _))) _ eb
     exact⟨by show Tr.n [.w "pair",k1.tr,l1.tr]=_;rw [a1,b1],a2,b2⟩
 ·rw [iw c] at h
  cases h
mutual
theorem A9:∀(t:Tr) (k:Kd),kd? t=some k->k.tr=t/\k.ok
 |.w z,k,h=>by
  have h':(jb z).map (fun p=>Kd.name p.1 p.2)=some k:=h
  obtain⟨p,ep,rfl⟩:=Option.map_eq_some_iff.mp h'
  obtain⟨h1,h2,h3⟩:=ze ep
  exact⟨by show Tr.w (dQ p.1 p.2)=_;rw [h1],h2,h3⟩
 |.n ts,k,h=>r9 (zj ts) h
theorem zj:∀(ts:List Tr),∀t∈ts,∀k,kd? t=some k->k.tr=t/\k.ok
 |[],t,h,_,_=>nomatch h
 |u::ts,t,h,k,q=>by
  rcases mc0 h with z|z
  ·rw [z] at q ⊢
   exact A9 u k q
  ·exact zj ts t z k q
end
theorem jE{α:Type}:∀{l:List (Option α)} {r:List α} {o:Option α} {b:α},fP l=some r->o=some b->fP (l++[o])=some (r++[b])
 |[],r,o,b,h,e=>by cases h;rw [e];rfl
 |none::l,r,o,b,h,e=>by cases h
 |some a::l,r,o,b,h,e=>by
  obtain⟨r',er,rfl⟩:=Option.map_eq_some_iff.mp (show(fP l).map (a::·)=some r from h)
  show(fP (l++[o])).map (a::·)=_
  rw [jE er e]
  rfl
theorem xr{ts:List Tr}{es:List Ex}{t:Tr}{e:Ex}(h:ii ts=some es)(he:ex? t=some e):ii (ts++[t])=some (es++[e]):=by
 unfold ii
 rw [ma0]
 exact jE h he
theorem Bj{ts:List Tr}{t:Tr}(hm:t∈ts)(he:ex? t=none):ii ts=none:=by
 cases e:ii ts with
 |none=>rfl
 |some es =>
  obtain⟨i,hi⟩:=List.mem_iff_getElem?.mp hm
  obtain⟨b,_,eb⟩:=(gL e).2 i t hi
  rw [he] at eb
  cases eb
abbrev Rf(CF:Addr)(E:XK)(H:Hp):Prop:=∀H',aM H H'->E (.ref CF) none H'
theorem Rf.same{CF:Addr}{E:XK}{H H':Hp}(r:Rf CF E H)(s:aM H H'):Rf CF E H':=fun H2 s2=>r H2 (s.trans s2)
def Brk(t:Tr)(m:Int)(v:V):Prop:=∃ts,t=.n ts/\m<=ts.length/\∀j,v=.int j->(ts.length:Int)<=j
inductive bw(K:W.Frag)(CF:Addr):Sp|mk{vs H Q E}(x:V)(t:Tr)(m:Int)(v:V)(_:vs=[x,.int m,v])(_:bz K H x t)(_:Sm t)(_:(v=.non\/∃j:Int,v=.int j))(_:(Brk t m v->Q x H))(_:(¬Brk t m v->Rf CF E H)):bw K CF vs H Q E
inductive gM(K:W.Frag)(CF:Addr):Sp|mk{vs H Q E}(x:V)(t:Tr)(_:vs=[x])(_:bz K H x t)(_:Sm t)(_:(∀z ts,t=.n (.w z::ts)->Q (.str z) H))(_:((∀z ts,t≠.n (.w z::ts))->Rf CF E H)):gM K CF vs H Q E
inductive dn(K:W.Frag)(CF:Addr):Sp|mk{vs H Q E}(x:V)(t:Tr)(_:vs=[x])(_:bz K H x t)(_:Sm t)(_:(∀z,bo t=some z->∀H',aM H H'->Q (.str z) H'))(_:(bo t=none->Rf CF E H)):dn K CF vs H Q E
inductive iC(K:W.Frag)(CF:Addr):Sp|mk{vs H Q E}(x:V)(t:Tr)(lo hi:Int)(_:vs=[x,.int lo,.int hi])(_:bz K H x t)(_:Sm t)(_:(0<=lo/\lo<=1000000000000000000/\0<=hi/\hi<=1000000000000000000))(_:(∀n,lU t lo hi=some n->∀H',aM H H'->Q (.int (n:Nat)) H'))(_:(lU t lo hi=none->Rf CF E H)):iC K CF vs H Q E
inductive jq(K:W.Frag)(CF:Addr):Sp|mk{vs H Q E}(x:V)(t:Tr)(_:vs=[x])(_:bz K H x t)(_:Sm t)(_:(∀n,eu t=some n->∀H',aM H H'->Q (.int (n:Nat)) H'))(_:(eu t=none->Rf CF E H)):jq K CF vs H Q E
inductive jV(K:W.Frag)(CF:Addr):Sp|mk{vs H Q E}(z:Str)(_:vs=[.str z])(_:z.length<=25)(_:PyData.strOk z=true)(_:(∀p,jb z=some p->∀H' (a:Addr),aM H H'->H' a=some (.tup [.str p.1,.str p.2])->Q (.ref a) H'))(_:(jb z=none->Rf CF E H)):jV K CF vs H Q E
theorem ux(c:Nat):∀xs:List Nat,(Tk.spl c xs).length<=xs.length+1/\∀p∈Tk.spl c xs,p.length<=xs.length
 |[]=>⟨Nat.le_refl _,fun p hp=>by rw [List.mem_singleton.mp (show p∈[[]] from hp)];exact Nat.le_refl _⟩
 |a::r=>by
  obtain⟨h1,h2⟩:=ux c r
  rw [Tk.spl]
  split
  ·refine⟨by rw [lc0,lc0];omega,fun p hp=>?_⟩
   rcases mc0 hp with rfl|z
   ·exact Nat.zero_le _
   ·have:=h2 p z
    rw [lc0]
    omega
  ·cases e:Tk.spl c r with
   |nil=>exact absurd e (Tk.spl_ne c r)
   |cons q qs =>
    rw [e] at h1 h2
    have e1:(q::qs).length=qs.length+1:=rfl
    have e2:((a::q)::qs).length=qs.length+1:=rfl
    have e3:(a::r).length=r.length+1:=rfl
    refine⟨by show((a::q)::qs).length<=_;omega,fun p hp=>?_⟩
    rcases mc0 hp with rfl|z
    ·have:=h2 q (.head _)
     rw [lc0,lc0]
     omega
    ·have:=h2 p (.tail _ z)
     rw [lc0]
     omega
theorem oN(z:Str):(Txt.split z ".").length<=z.length+1/\∀s∈Txt.split z ".",s.length<=z.length:=by
 have e:(Txt.split z ⟨#[46]⟩).map Tk.lst=Tk.spl 46 (cps z):=Tk.split_lst z 46
 obtain⟨h1,h2⟩:=ux 46 (cps z)
 rw [<-e,lm0,bG] at h1
 refine⟨h1,fun s hs=>?_⟩
 have:=h2 (Tk.lst s) (by rw [<-e];exact List.mem_map_of_mem hs)
 have e2:(Tk.lst s).length=s.length:=bG s
 have e3:(cps z).length=z.length:=bG z
 omega
theorem vp{i:Int}(h0:0<=i)(h1:i<=1000000000000000000):(Str.ofString (toString i)).length<=2000000/\i.natAbs.log2 < 1920:=by
 refine⟨Nat.le_trans (PyProof.Rows.toString_length_le h0 (k:=19) (by decide) (by omega)) (by decide),?_⟩
 rcases Nat.eq_zero_or_pos i.natAbs with z|z
 ·rw [z]
  decide
 ·exact Nat.lt_of_lt_of_le ((Nat.log2_lt (by omega)).mpr (Nat.lt_of_le_of_lt (show i.natAbs<=10 ^ 18 by omega) (show 10 ^ 18 < 2 ^ 60 by decide))) (by decide)
theorem r1(y:Str):([V.str y]:List V).length<=sizeLine:=by show 1<=sizeLine;decide
theorem tE:ax ["tree","least","most"] ["tree","least","most"] (ah gj):=mkS
theorem sv{f CF:Addr}{fd:FuncData} (F:Fun K "bracket" "bracket" gj f fd) (ml:mg "len"=none) (mi:mg "isinstance"=none) (mt:mg "tuple"=none) (mF:mg "NoForm"=some (.ref CF)) (xF:W.excIn K CF o5 "ValueError.__new__"=true) :
  aV P w K mg base (CX1 P w) 1 f fd ["tree","least","most"] (bw K CF):=by
 refine F.k1 tE fun cdv A q0 s H vs Q E hr h=>?_
 obtain⟨x,t,m,v,rfl,hx,sm,hv,q,qE⟩:=h
 obtain⟨d,n,hd,hs,hn⟩:=sm.shown hx
 refine⟨_,af (aF (dk (bt (aq bh rfl mi bH (aa (pv 0) (aa (bJ rfl mt aR (v:=.ty "tuple") rfl) ac))))) (aj (bY rfl mF xF (aa (dC (bf ak (bf (gC hr (pv 0)) fL)) (by decide)) ac))) ar)
  (af (aF (PW.pt (dl (am ij (aq aw rfl ml boot_len (aa (pv 0) ac)) (pv 1) (av _)) (eC (PW.pt (cr (am vf (pv 2) dW (av _)) (cz (am gi (aq aw rfl ml boot_len (aa (pv 0) ac)) (pv 2) (av _)))))))) (aj (bY rfl mF xF (aa (dC (bf ak (bf (gC hr (pv 0)) fL)) (by decide)) ac))) ar)
  (aj (ao (pv 0)))),?_⟩
 cases hx with
 |w z =>
  refine⟨_,rfl,.str z,"tuple",_,false,rfl,.str _,jH K,false,rfl,bU ?_⟩
  exact⟨_,rfl,by decide +kernel,_,rfl,d,n,hd,hs,hn,fun y hy=>⟨y,rfl,hy,fun zz _=>⟨r1 zz,qE (fun⟨ts,e,_⟩=>by cases e) _ sr0⟩⟩⟩
 |@n p xs ts hp hxs =>
  have xl:=hxs.length
  refine⟨_,rfl,.ref p,"tuple",_,true,rfl,.tup hp,jY K,true,rfl,bx ?_⟩
  refine⟨_,rfl,p,_,rfl,.inr (SqT.of hp),_,rfl,_,_,rfl,rfl,_,rfl,aO (fun c=>bU ?_) (fun c=>?_)⟩
  ·have c':=od0 c
   exact⟨_,rfl,by decide +kernel,_,rfl,d,n,hd,hs,hn,fun y hy=>⟨y,rfl,hy,fun zz _=>⟨r1 zz,qE (fun⟨ts',e,h1,_⟩=>by cases e;omega) _ sr0⟩⟩⟩
  ·have c':¬((xs.length:Int) < m):=fun z=>c (dt0 z)
   rcases hv with rfl|⟨j,rfl⟩
   ·exact⟨_,rfl,rfl,_,rfl,bx (bx ⟨_,rfl,q ⟨ts,rfl,by omega,fun j e=>by cases e⟩⟩)⟩
   ·refine⟨_,rfl,rfl,_,rfl,bU ⟨_,rfl,p,_,rfl,.inr (SqT.of hp),_,rfl,_,_,rfl,rfl,_,rfl,aO (fun c2=>?_) (fun c2=>⟨_,rfl,q ⟨ts,rfl,by omega,fun i e=>?_⟩⟩)⟩⟩
    ·have c3:=od0 c2
     exact⟨_,rfl,by decide +kernel,_,rfl,d,n,hd,hs,hn,fun y hy=>⟨y,rfl,hy,fun zz _=>⟨r1 zz,qE (fun⟨ts',e,_,h2⟩=>by cases e;have:=h2 j rfl;omega) _ sr0⟩⟩⟩
    ·cases e
     have c3:¬(j < (xs.length:Int)):=fun z=>c2 (dt0 z)
     omega
theorem vQ:ax ["tree","ahead"] ["tree"] (ah ki):=mkS
theorem wR{f fb CF:Addr}{fd fdb:FuncData} (F:Fun K "word_ahead" "word_ahead" ki f fd)
  (GB:aV P w K mg base (CX1 P w) 1 fb fdb ["tree","least","most"] (bw K CF)) (bB:aX K fdb ["tree","least","most"] []) (kB:W.keepIn K (.ref fb)=true) (mB:mg "bracket"=some (.ref fb))
  (mi:mg "isinstance"=none) (ms:mg "str"=none) (mF:mg "NoForm"=some (.ref CF)) (xF:W.excIn K CF o5 "ValueError.__new__"=true):aV P w K mg base (CX1 P w) 2 f fd ["tree"] (gM K CF):=by
 refine F.k1 vQ fun cdv A q0 s H vs Q E hr h=>?_
 obtain⟨x,t,rfl,hx,sm,q,qE⟩:=h
 obtain⟨d,n,hd,hs,hn⟩:=sm.shown hx
 refine⟨_,af (aS (i:=1) vQ.nd (ix0 au (ai GB hr rfl mB kB bB .nil aQ (aa (pv 0) (aa ag (aa dW ac)))) ag))
  (af (aF (dk (bt (aq bh rfl mi bH (aa (pv 1) (aa (bJ rfl ms cb (v:=.ty "str") rfl) ac))))) (aj (bY rfl mF xF (aa (dC (bf ak (bf (gC hr (pv 0)) fL)) (by decide)) ac))) ar)
  (aj (ao (pv 1)))),?_⟩
 refine⟨_,rfl,x,t,1,.non,rfl,hx,sm,.inl rfl,?_,fun nb=>qE fun z ts e=>nb ⟨_,e,by rw [lc0];omega,fun j e=>by cases e⟩⟩
 rintro⟨ts,rfl,hl,_⟩
 cases hx with
 |@n p xs _ hp hxs =>
  match ts,xs,hl,hxs,hp with
  |[],_,hl,_,_=>exact absurd hl (by decide)
  |u::r,y::ys,_,.cons hy hr',hp =>
   refine⟨p,_,_,y,rfl,rfl,SqT.of hp,?_,?_⟩
   ·have:atI (y::ys) ((0:Nat):Int)=some y:=cm rfl
    exact this
   ·cases hy with
    |w z=>exact⟨_,rfl,.str z,"str",_,true,rfl,.str z,eJ K,true,rfl,bx ⟨_,rfl,q z r rfl⟩⟩
    |@n a us vs ha hus =>
     refine⟨_,rfl,.ref a,"str",_,false,rfl,.tup ha,dZ K,false,rfl,bU ?_⟩
     exact⟨_,rfl,by decide +kernel,_,rfl,d,n,hd,hs,hn,fun y hy=>⟨y,rfl,hy,fun zz _=>⟨r1 zz,qE (fun z ts e=>by cases e) _ sr0⟩⟩⟩
theorem xB:ax ["tree"] ["tree"] (ah iB):=mkS
theorem vy{f fn CF:Addr}{fd fdn:FuncData} (F:Fun K "name_of_tree" "name_of_tree" iB f fd)
  (GN:aV P w K mg base CX0 1 fn fdn ["word"] vD) (bN:aX K fdn ["word"] []) (kN:W.keepIn K (.ref fn)=true) (mN:mg "is_name"=some (.ref fn))
  (mi:mg "isinstance"=none) (ms:mg "str"=none) (mF:mg "NoForm"=some (.ref CF)) (xF:W.excIn K CF o5 "ValueError.__new__"=true):aV P w K mg base (CX1 P w) 2 f fd ["tree"] (dn K CF):=by
 refine F.k1 xB fun cdv A q0 s H vs Q E hr h=>?_
 obtain⟨x,t,rfl,hx,sm,q,qE⟩:=h
 have sh:∀H',aM H H'->∃d n,Dat K H' x d/\Shw d n 60/\n<=2000000:=fun H' s=>sm.shown (hx.same s)
 refine⟨_,af (aF (PW.pt (dl (dk (bt (aq bh rfl mi bH (aa (pv 0) (aa (bJ rfl ms cb (v:=.ty "str") rfl) ac))))) (eC (dk (bt (ai GN hr rfl mN kN bN .nil aC (aa (pv 0) ac))))))) (aj (bY rfl mF xF (aa (dC (bf ak (bf (gC hr (pv 0)) fL)) (by decide)) ac))) ar)
  (aj (ao (pv 0))),?_⟩
 cases hx with
 |@n a us vs ha hus =>
  obtain⟨d,n,hd,hs,hn⟩:=sh H sr0
  refine⟨_,rfl,.ref a,"str",_,false,rfl,.tup ha,dZ K,false,rfl,bU (bU ?_)⟩
  exact⟨_,rfl,by decide +kernel,_,rfl,d,n,hd,hs,hn,fun y hy=>⟨y,rfl,hy,fun zz _=>⟨r1 zz,qE rfl _ sr0⟩⟩⟩
 |w z =>
  have zl:=sm.word.1
  refine⟨_,rfl,.str z,"str",_,true,rfl,.str _,eJ K,true,rfl,bx ⟨_,rfl,z,rfl,by omega,fun H1 s1=>?_⟩⟩
  cases e:aA z with
  |true=>exact⟨true,rfl,bx ⟨_,rfl,q z (if_pos e) _ s1⟩⟩
  |false =>
   obtain⟨d,n,hd,hs,hn⟩:=sh H1 s1
   refine⟨false,rfl,bU ?_⟩
   exact⟨_,rfl,by decide +kernel,_,rfl,d,n,hd,hs,hn,fun y hy=>⟨y,rfl,hy,fun zz _=>⟨r1 zz,qE (if_neg (by rw [e];decide)) _ s1⟩⟩⟩
theorem ky:ax ["tree","least","most","number"] ["tree","least","most"] (ah fE):=mkS
theorem qa{f fn CF:Addr}{fd fdn:FuncData} (F:Fun K "number_of_tree" "number_of_tree" fE f fd)
  (GN:aV P w K mg base CX0 1 fn fdn ["word"] Bk) (bN:aX K fdn ["word"] []) (kN:W.keepIn K (.ref fn)=true) (mN:mg "is_number"=some (.ref fn))
  (mi:mg "isinstance"=none) (ms:mg "str"=none) (mI:mg "int"=none) (mF:mg "NoForm"=some (.ref CF)) (xF:W.excIn K CF o5 "ValueError.__new__"=true):aV P w K mg base (CX1 P w) 2 f fd ["tree","least","most"] (iC K CF):=by
 refine F.k1 ky fun cdv A q0 s H vs Q E hr h=>?_
 obtain⟨x,t,lo,hi,rfl,hx,sm,⟨b1,b2,b3,b4⟩,q,qE⟩:=h
 have sh:∀H',aM H H'->∃d n,Dat K H' x d/\Shw d n 60/\n<=2000000:=fun H' s=>sm.shown (hx.same s)
 refine⟨_,af (aF (PW.pt (dl (dk (bt (aq bh rfl mi bH (aa (pv 0) (aa (bJ rfl ms cb (v:=.ty "str") rfl) ac))))) (eC (dk (bt (ai GN hr rfl mN kN bN .nil aC (aa (pv 0) ac))))))) (aj (bY rfl mF xF (aa (dC (bf ak (bf (gC hr (pv 0)) fL)) (by decide)) ac))) ar)
  (af (aS (i:=3) ky.nd (aL nM rfl mI pV (aa (pv 0) ac)))
  (af (aF (PW.pt (dl (am ij (pv 3) (pv 1) (av _)) (eC (am gi (pv 3) (pv 2) (av _))))) (aj (bY rfl mF xF (aa (dC (bf ak (bf (sX (pv 1)) (bf ak (bf (sX (pv 2)) (bf ak (bf (sX (pv 0)) fL)))))) (by decide)) ac))) ar)
  (aj (ao (pv 3))))),?_⟩
 cases hx with
 |@n a us vs ha hus =>
  obtain⟨d,n,hd,hs,hn⟩:=sh H sr0
  refine⟨_,rfl,.ref a,"str",_,false,rfl,.tup ha,dZ K,false,rfl,bU (bU ?_)⟩
  exact⟨_,rfl,by decide +kernel,_,rfl,d,n,hd,hs,hn,fun y hy=>⟨y,rfl,hy,fun zz _=>⟨r1 zz,qE rfl _ sr0⟩⟩⟩
 |w z =>
  have zl:=sm.word.1
  refine⟨_,rfl,.str z,"str",_,true,rfl,.str _,eJ K,true,rfl,bx ⟨_,rfl,z,rfl,by omega,fun H1 s1=>?_⟩⟩
  cases e:dr z with
  |false =>
   obtain⟨d,n,hd,hs,hn⟩:=sh H1 s1
   refine⟨false,rfl,bU ?_⟩
   exact⟨_,rfl,by decide +kernel,_,rfl,d,n,hd,hs,hn,fun y hy=>⟨y,rfl,hy,fun zz _=>⟨r1 zz,qE (if_neg (by rw [e];intro c;exact absurd c.1 (by decide))) _ s1⟩⟩⟩
  |true =>
   obtain⟨x1,x2⟩:=mV e
   refine⟨true,rfl,bx ⟨_,rfl,z,rfl,x1,?_⟩⟩
   have bad:¬(lo<=(bn (cps z):Int)/\(bn (cps z):Int)<=hi)->∃v,([some (V.str z),some (V.int lo),some (V.int hi),some (V.int (bn (cps z)))]:St)[1]?=some (some v)/\v=.int lo/\E (.ref CF) none H1:=fun c=>⟨_,rfl,rfl,qE (if_neg fun c2=>c c2.2) _ s1⟩
   obtain⟨a1,a2⟩:=vp b1 b2
   obtain⟨a3,a4⟩:=vp b3 b4
   have rs:¬(lo<=(bn (cps z):Int)/\(bn (cps z):Int)<=hi)->E (.ref CF) none H1:=fun c=>qE (if_neg fun c2=>c c2.2) _ s1
   refine⟨_,rfl,_,rfl,_,_,rfl,rfl,_,rfl,aO (fun c=>bU ?_) (fun c=>⟨_,rfl,_,rfl,_,_,rfl,rfl,_,rfl,aO (fun c2=>?_) (fun c2=>⟨_,rfl,?_⟩)⟩)⟩
   ·have c':=od0 c
    exact⟨_,rfl,by decide +kernel,_,rfl,.inr ⟨lo,rfl,a2,_,rfl,a1,_,rfl,by decide +kernel,_,rfl,.inr ⟨hi,rfl,a4,_,rfl,a3,_,rfl,by decide +kernel,_,rfl,.inl ⟨z,rfl,de (by omega),z,rfl,by omega,fun zz _=>⟨r1 zz,rs fun d=>by have:=d.1;have c2:(bn (cps z):Int) < lo:=c';omega⟩⟩⟩⟩⟩
   ·have c':=od0 c2
    exact⟨_,rfl,by decide +kernel,_,rfl,.inr ⟨lo,rfl,a2,_,rfl,a1,_,rfl,by decide +kernel,_,rfl,.inr ⟨hi,rfl,a4,_,rfl,a3,_,rfl,by decide +kernel,_,rfl,.inl ⟨z,rfl,de (by omega),z,rfl,by omega,fun zz _=>⟨r1 zz,rs fun d=>by have:=d.2;have c2:hi < (bn (cps z):Int):=c';omega⟩⟩⟩⟩⟩
   ·have d1:¬((bn (cps z):Int) < lo):=fun y=>c (dt0 y)
    have d2:¬(hi < (bn (cps z):Int)):=fun y=>c2 (dt0 y)
    exact q _ (if_pos ⟨e,by omega,by omega⟩) _ s1
theorem wU:ax ["tree"] ["tree"] (ah ix):=mkS
theorem ww{f fn CF:Addr}{fd fdn:FuncData}{tG:Tok} (F:Fun K "size_of_tree" "size_of_tree" ix f fd)
  (GN:aV P w K mg base (CX1 P w) 2 fn fdn ["tree","least","most"] (iC K CF)) (bN:aX K fdn ["tree","least","most"] []) (kN:W.keepIn K (.ref fn)=true) (mN:mg "number_of_tree"=some (.ref fn))
  (mG:mg "GREATEST"=some (.int 1000000000000000000 tG)):aV P w K mg base (CX1 P w) 3 f fd ["tree"] (jq K CF):=by
 refine F.k1 wU fun cdv A q0 s H vs Q E hr h=>?_
 obtain⟨x,t,rfl,hx,sm,q,qE⟩:=h
 exact⟨_,aj (ao (ai GN hr rfl mN kN bN .nil aQ (aa (pv 0) (aa ag (aa (cY rfl mG (v:=.int 1000000000000000000) ⟨tG,rfl⟩) ac))))),_,rfl,x,t,1,1000000000000000000,rfl,hx,sm,by decide,q,qE⟩
theorem nQ:ax ["word","names"] ["word"] (ah gy):=mkS
theorem sB{f fn CF:Addr}{fd fdn:FuncData} (F:Fun K "near_or_far" "near_or_far" gy f fd)
  (GN:aV P w K mg base CX0 1 fn fdn ["word"] vD) (bN:aX K fdn ["word"] []) (kN:W.keepIn K (.ref fn)=true) (mN:mg "is_name"=some (.ref fn)) (ml:mg "len"=none) (mF:mg "NoForm"=some (.ref CF)) (xF:W.excIn K CF o5 "ValueError.__new__"=true) :
  aV P w K mg base (CX1 P w) 2 f fd ["word"] (jV K CF):=by
 refine F.k1 nQ fun cdv A q0 s H vs Q E hr h=>?_
 obtain⟨z,rfl,zl,zo,q,qE⟩:=h
 refine⟨_,af (aF (bt (ai GN hr rfl mN kN bN .nil aC (aa (pv 0) ac))) (aj (ao (aE (aa ak (aa (pv 0) ac))))) ar)
  (af (aS (i:=1) nQ.nd (eU PySem.F.plainAttrs_str PySem.F.slot_str_split PySem.F.type_str_split mn (pv 0) (aa ak ac)))
  (af (aF (PW.pt (dl (am lL (aq aw rfl ml boot_len (aa (pv 1) ac)) ag (av _)) (dl (dk (bt (ai GN hr rfl mN kN bN .nil aC (aa (ix0 bd (pv 1) ag) ac)))) (eC (dk (bt (ai GN hr rfl mN kN bN .nil aC (aa (ix0 bd (pv 1) ag) ac)))))))) (aj (bY rfl mF xF (aa (dC (bf ak (bf (gC hr (pv 0)) fL)) (by decide)) ac))) ar)
  (aj (ao (aE (aa (ix0 bd (pv 1) ag) (aa (ix0 bd (pv 1) ag) ac))))))),?_⟩
 refine⟨_,rfl,z,rfl,by omega,fun H1 s1=>?_⟩
 cases e:aA z with
 |true =>
  refine⟨true,rfl,bU ⟨_,rfl,(sz 2),fun p hp=>?_⟩⟩
  exact q ("",z) (if_pos e) _ p (s1.trans (ae hp _)) ad
 |false =>
  obtain⟨d1,d2⟩:=oN z
  have ef:jb z=vz (Txt.split z "."):=if_neg (by rw [e];decide)
  refine⟨false,rfl,bx ⟨_,rfl,rfl,z,".",rfl,rfl,by decide +kernel,by omega,by show(Txt.split z ".").length<=_;omega,fun l hl=>?_⟩⟩
  show(_:Prop)
  rw [ef] at q qE
  change ∀(p:Str × Str),vz (Txt.split z ".")=some p->_ at q
  have nz:(10*z.length+2)<=2000000:=by omega
  have shw:=(ue zo 60)
  generalize Txt.split z (Str.ofString ".")=ws at *
  have s2:=ae hl (.lst (ws.map V.str))
  have lst:∀(H3:Hp),aM (upd H1 l (.lst (ws.map V.str))) H3->SqL K H3 l (ws.map V.str):=fun _ s=>SqL.of (s _ _ ad)
  have no:vz ws=none->∀(H3:Hp),aM (upd H1 l (.lst (ws.map V.str))) H3->E (.ref CF) none H3:=fun h H3 s3=>qE h _ (s1.trans (s2.trans s3))
  refine⟨_,rfl,l,_,rfl,.inl (lst _ sr0),rfl,_,rfl,aO (fun c=>bU ?_) (fun c=>?_)⟩
  ·have h2:vz ws=none:=by
    match ws,c with
    |[a,b],c=>exact absurd c (by show ¬((!decide (V.int (2:Int)=V.int 2))=true);decide)
    |[],_=>rfl
    |[_],_=>rfl
    |_::_::_::_,_=>rfl
   exact⟨_,rfl,by decide +kernel,_,rfl,_,_,.str z,shw,nz,fun y hy=>⟨y,rfl,hy,fun zz _=>⟨r1 zz,no h2 _ sr0⟩⟩⟩
  ·have h2:ws.length=2:=Decidable.byContradiction fun z=>c (by
    show(!decide (V.int ((ws.map V.str).length:Int)=V.int 2))=true
    rw [lm0,df0 (fun y=>z (by have:=V.int.inj y;omega))]
    rfl)
   match ws,h2,d2,lst,no,q with
   |[a,b],_,d2,lst,no,q =>
    have la:=d2 a (.head _)
    have lb:=d2 b (.tail _ (.head _))
    refine⟨_,rfl,l,_,_,.str a,rfl,rfl,lst _ sr0,rfl,a,rfl,by omega,fun H3 s3=>?_⟩
    cases ea:aA a with
    |false =>
     refine⟨false,rfl,bU (bU ?_)⟩
     exact⟨_,rfl,by decide +kernel,_,rfl,_,_,.str z,shw,nz,fun y hy=>⟨y,rfl,hy,fun zz _=>⟨r1 zz,no (if_neg (by rw [ea];intro c;exact absurd c.1 (by decide))) _ s3⟩⟩⟩
    |true =>
     refine⟨true,rfl,bx ⟨_,rfl,l,_,_,.str b,rfl,rfl,lst _ s3,rfl,b,rfl,by omega,fun H4 s4=>?_⟩⟩
     have s34:=s3.trans s4
     cases eb:aA b with
     |false =>
      refine⟨false,rfl,bU ?_⟩
      exact⟨_,rfl,by decide +kernel,_,rfl,_,_,.str z,shw,nz,fun y hy=>⟨y,rfl,hy,fun zz _=>⟨r1 zz,no (if_neg (by rw [eb];intro c;exact absurd c.2 (by decide))) _ s34⟩⟩⟩
     |true =>
      refine⟨true,rfl,bx ⟨_,rfl,l,_,_,.str a,rfl,rfl,lst _ s34,rfl,_,rfl,l,_,_,.str b,rfl,rfl,lst _ s34,rfl,(sz 2),fun p hp=>?_⟩⟩
      exact q (a,b) (if_pos ⟨ea,eb⟩) _ p (s1.trans (s2.trans (s34.trans (ae hp _)))) ad
inductive js(K:W.Frag)(CF:Addr)(n:Nat):Sp|mk{vs H Q E}(x:V)(t:Tr)(_:vs=[x])(_:bz K H x t)(_:Sm t)(_:t.dep < n)(_:(∀k,kd? t=some k->∀H' v,aM H H'->j9 K H' v k->Q v H'))(_:(kd? t=none->Rf CF E H)):js K CF n vs H Q E
inductive rD(K:W.Frag)(CF:Addr)(n:Nat):Sp|mk{vs H Q E}(x:V)(t:Tr)(_:vs=[x])(_:bz K H x t)(_:Sm t)(_:t.dep < n)(_:(∀e,ex? t=some e->∀H' v,aM H H'->j8 H' v e->Q v H'))(_:(ex? t=none->Rf CF E H)):rD K CF n vs H Q E
inductive lC(K:W.Frag)(CF:Addr)(n:Nat):Sp|mk{vs H Q E}(p:Addr)(xs:List V)(ts:List Tr)(_:vs=[.ref p])(_:H p=some (.tup xs))(_:aJ K H xs ts)(_:Sms ts)(_:(∀t∈ts,t.dep < n))(_:(∀es,ii ts=some es->∀H' (r:Addr) ys,aM H H'->H' r=some (.tup ys)->dB H' ys es->Q (.ref r) H'))(_:(ii ts=none->Rf CF E H)):lC K CF n vs H Q E
inductive vj(K:W.Frag)(CF:Addr):Sp|mk{vs H Q E}(x:V)(ts:List Tr)(_:vs=[x])(_:bz K H x (.n (.w "lit"::ts)))(_:Sm (.n (.w "lit"::ts)))(_:(∀p,pR ts=some p->∀H' v,aM H H'->j8 H' v (.node p.1 [])->Q v H'))(_:(pR ts=none->Rf CF E H)):vj K CF vs H Q E
inductive rj(K:W.Frag)(CF:Addr)(n:Nat):Sp|mk{vs H Q E}(x:V)(z:Str)(ts:List Tr)(_:vs=[x])(_:bz K H x (.n (.w z::ts)))(_:Sm (.n (.w z::ts)))(_:(∀t∈ts,t.dep < n))(_:(∀p es,jk z ts=some p->ii ts=some es->∀H' v,aM H H'->j8 H' v (.node p.1 es)->Q v H'))(_:(jk z ts=none\/ii ts=none->Rf CF E H)):rj K CF n vs H Q E
theorem dG{K:W.Frag}{H:Hp}{xs:List V}{z:Str}{ts:List Tr}(h:aJ K H xs (.w z::ts)):∃ys,xs=.str z::ys/\aJ K H ys ts:=by
 cases h with
 |cons h1 h2=>cases h1;exact⟨_,rfl,h2⟩
theorem at1{x y:V}{ys:List V}:atI (x::y::ys) 1=some y:=(cm (j:=1) rfl:atI (x::y::ys) ((1:Nat):Int)=some y)
theorem at2{x y z:V}{ys:List V}:atI (x::y::z::ys) 2=some z:=(cm (j:=2) rfl:atI (x::y::z::ys) ((2:Nat):Int)=some z)
theorem qA:ax ["tree","ahead"] ["tree"] (ah ik):=mkS
theorem oA{f fn fa fb fs CF:Addr}{fd fdn fda fdb fds:FuncData} (F:Fun K "kind_of_tree" "kind_of_tree" ik f fd) (bF:aX K fd ["tree"] []) (kF:W.keepIn K (.ref f)=true) (mF:mg "kind_of_tree"=some (.ref f))
  (GN:aV P w K mg base (CX1 P w) 2 fn fdn ["word"] (jV K CF)) (bN:aX K fdn ["word"] []) (kN:W.keepIn K (.ref fn)=true) (mN:mg "near_or_far"=some (.ref fn))
  (GA:aV P w K mg base (CX1 P w) 2 fa fda ["tree"] (gM K CF)) (bA:aX K fda ["tree"] []) (kA:W.keepIn K (.ref fa)=true) (mA:mg "word_ahead"=some (.ref fa))
  (GB:aV P w K mg base (CX1 P w) 1 fb fdb ["tree","least","most"] (bw K CF)) (bB:aX K fdb ["tree","least","most"] []) (kB:W.keepIn K (.ref fb)=true) (mB:mg "bracket"=some (.ref fb))
  (GS:aV P w K mg base (CX1 P w) 3 fs fds ["tree"] (jq K CF)) (bS:aX K fds ["tree"] []) (kS:W.keepIn K (.ref fs)=true) (mS:mg "size_of_tree"=some (.ref fs))
  (mi:mg "isinstance"=none) (ms:mg "str"=none) (mN':mg "NoForm"=some (.ref CF)) (xF:W.excIn K CF o5 "ValueError.__new__"=true):∀n,aV P w K mg base (CX1 P w) (n+3) f fd ["tree"] (js K CF n)
 |0=>⟨fun vs H Q E h=>by obtain⟨x,k,rfl,_⟩:=h;rfl,fun A q0 s H args us vs Q E _ _ _ _ h=>by
   obtain⟨x,k,_,_,_,hd,_⟩:=h
   omega⟩
 |n+1=>by
  have IH:=oA F bF kF mF GN bN kN mN GA bA kA mA GB bB kB mB GS bS kS mS mi ms mN' xF n
  refine F.k1 qA fun cdv A q0 s H vs Q E hr h=>?_
  obtain⟨x,t,rfl,hx,sm,hd,q,qE⟩:=h
  have hr1:bq 1 _:=hr.mono (by omega)
  have hr2:bq 2 _:=hr.mono (by omega)
  have hr3:bq 3 _:=hr.mono (by omega)
  obtain⟨d,m,hdat,hsh,hm⟩:=sm.shown hx
  refine⟨_,af (aF (bt (aq bh rfl mi bH (aa (pv 0) (aa (bJ rfl ms cb (v:=.ty "str") rfl) ac)))) (aj (ao (aB cH (aE (aa ak ac)) (ai GN hr2 rfl mN kN bN .nil aQ (aa (pv 0) ac))))) ar)
   (af (aS (i:=1) qA.nd (ai GA hr2 rfl mA kA bA .nil aQ (aa (pv 0) ac)))
   (af (aF (am aZ (pv 1) ak (av _)) (af (aU (ai GB hr1 rfl mB kB bB .nil aQ (aa (pv 0) (aa ag (aa ag ac))))) (aj (ao (aE (aa ak (aa (ai GS hr3 rfl mS kS bS .nil aQ (aa (ix0 au (pv 0) ag) ac)) ac)))))) ar)
   (af (aF (am aZ (pv 1) ak (av _)) (af (aU (ai GB hr1 rfl mB kB bB .nil aQ (aa (pv 0) (aa ag (aa ag ac))))) (aj (ao (aE (aa ak (aa (ai IH hr rfl mF kF bF .nil aQ (aa (ix0 au (pv 0) ag) ac)) (aa (ai IH hr rfl mF kF bF .nil aQ (aa (ix0 au (pv 0) ag) ac)) ac))))))) ar)
   (aj (bY rfl mN' xF (aa (dC (bf ak (bf (gC hr (pv 0)) fL)) (by decide)) ac)))))),?_⟩
  cases hx with
  |w z =>
   obtain⟨zl,zo⟩:=sm.word
   refine⟨_,rfl,.str z,"str",_,true,rfl,.str _,eJ K,true,rfl,bU ?_⟩
   refine⟨(sz 1),fun p hp=>⟨_,rfl,z,rfl,zl,zo,fun pr ef H2 p2 s2 hp2=>?_,fun ef=>?_⟩⟩
   ·have s1:=ae hp (.tup [.str "name"])
    have ek:kd? (.w z)=some (.name pr.1 pr.2):=by
     show(jb z).map _=_
     rw [ef]
     rfl
    exact⟨p,p2,_,_,rfl,rfl,SqT.of (s2 _ _ ad),SqT.of hp2,by simp,(sz 3),(fun e=>by cases e),fun _ p3 hp3=>q _ ek _ _ (s1.trans (s2.trans (ae hp3 _))) (.name ad)⟩
   ·refine Rf.same (qE ?_) (ae hp _)
    show(jb z).map _=_
    rw [ef]
    rfl
  |@n a xs ts ha hxs =>
   refine⟨_,rfl,.ref a,"str",_,false,rfl,.tup ha,dZ K,false,rfl,bx ?_⟩
   refine⟨_,rfl,.ref a,.n ts,rfl,.n ha hxs,sm,fun z r e=>?_,fun e=>qE (iw ?_)⟩
   ·cases e
    obtain⟨ys,rfl,hys⟩:=dG hxs
    have hdr:∀u∈r,u.dep < n:=fun u hu=>by
     have h1:1+fF (.w z::r) < n+1:=hd
     have h2:=gF (ts:=.w z::r) (.tail _ hu)
     omega
    have smr:=sm.sub.tail
    refine⟨_,rfl,rfl,_,rfl,aO (fun c=>?_) (fun c=>?_)⟩
    ·have ez:z="num":=V.str.inj (od0 c)
     subst ez
     refine⟨_,rfl,.ref a,_,2,.int 2,rfl,.n ha hxs,sm,.inr ⟨2,rfl⟩,?_,fun nb=>qE (iw ?_)⟩
     ·rintro⟨ts',e,h1,h2⟩
      cases e
      have h3:=h2 2 rfl
      obtain⟨u,y,rfl,rfl,hy⟩:=tk1 (by simp only [lc0] at h1 h3;omega) hys
      refine⟨_,rfl,a,_,_,y,rfl,rfl,SqT.of ha,rfl,y,u,rfl,hy,smr.head,fun k ek H2 s2=>⟨(sz 2),fun p hp=>?_⟩,fun ek=>qE ?_⟩
      ·exact q (.num k) (by rw [nZ,if_pos rfl,ek];rfl) _ _ (s2.trans (ae hp _)) (.num ad)
      ·rw [nZ,if_pos rfl,ek]
       rfl
     ·rintro(⟨u,e⟩|⟨u,v,e⟩)
      ·cases e
       exact nb ⟨_,rfl,by show(2:Int)<=2;decide,fun j e=>by cases e;show(2:Int)<=2;decide⟩
      ·injection e with e1 e2
       injection e1 with e1
       exact absurd e1 (by decide +kernel)
    ·have nz:z≠"num":=fun e=>c (dt0 (by rw [e]))
     refine⟨_,rfl,rfl,_,rfl,aO (fun c2=>?_) (fun c2=>?_)⟩
     ·have ez:z="pair":=V.str.inj (od0 c2)
      subst ez
      refine⟨_,rfl,.ref a,_,3,.int 3,rfl,.n ha hxs,sm,.inr ⟨3,rfl⟩,?_,fun nb=>qE (iw ?_)⟩
      ·rintro⟨ts',e,h1,h2⟩
       cases e
       have h3:=h2 3 rfl
       obtain⟨u,v,y,y2,rfl,rfl,hy,hy2⟩:=tk2 (by simp only [lc0] at h1 h3;omega) hys
       refine⟨_,rfl,a,_,_,y,rfl,rfl,SqT.of ha,rfl,y,u,rfl,hy,smr.head,hdr u (.head _),fun k ek H2 v2 s2 k2=>?_,fun ek=>qE ?_⟩
       ·refine⟨_,rfl,a,_,_,y2,rfl,rfl,SqT.of (s2 _ _ ha),rfl,y2,v,rfl,hy2.same s2,smr.tail.head,hdr v (.tail _ (.head _)),fun l el H3 v3 s3 k3=>⟨(sz 3),fun p hp=>?_⟩,fun el=>Rf.same (qE ?_) s2⟩
        ·have s4:=ae hp (.tup [.str "pair",v2,v3])
         exact q (.pair k l) (by rw [iP,if_pos rfl,ek,el]) _ _ (s2.trans (s3.trans s4)) (.pair ad (k2.same (s3.trans s4)) (k3.same s4))
        ·rw [iP,if_pos rfl,ek,el]
       ·rw [iP,if_pos rfl,ek]
      ·rintro(⟨u,e⟩|⟨u,v,e⟩)
       ·injection e with e1 e2
        injection e1 with e1
        exact absurd e1 (by decide +kernel)
       ·cases e
        exact nb ⟨_,rfl,by show(3:Int)<=3;decide,fun j e=>by cases e;show(3:Int)<=3;decide⟩
     ·have nz2:z≠"pair":=fun e=>c2 (dt0 (by rw [e]))
      refine⟨_,rfl,by decide +kernel,_,rfl,d,m,hdat,hsh,hm,fun y hy=>⟨y,rfl,hy,fun zz _=>⟨r1 zz,qE (iw ?_) _ sr0⟩⟩⟩
      rintro(⟨u,e⟩|⟨u,v,e⟩)
      ·injection e with e1 e2
       injection e1 with e1
       exact nz e1
      ·injection e with e1 e2
       injection e1 with e1
       exact nz2 e1
   ·rintro(⟨u,rfl⟩|⟨u,v,rfl⟩)
    ·exact e _ _ rfl
    ·exact e _ _ rfl
theorem zG:ax ["trees"] ["trees"] (ah kr):=mkS
theorem yq{f fe CF:Addr}{fd fde:FuncData}{n m:Nat} (F:Fun K "expressions_of" "expressions_of" kr f fd)
  (GE:aV P w K mg base (CX1 P w) m fe fde ["tree"] (rD K CF n)) (bE:aX K fde ["tree"] []) (kE:W.keepIn K (.ref fe)=true) (mE:mg "expression_of_tree"=some (.ref fe)) (mt:mg "tuple"=none):aV P w K mg base (CX1 P w) (m+1) f fd ["trees"] (lC K CF n):=by
 refine F.k1 zG fun cdv A q0 s H vs Q E hr h=>?_
 obtain⟨p,xs,ts,rfl,hp,hxs,sm,hdp,q,qE⟩:=h
 refine⟨_,aj (ao (aL aI rfl mt aR (aa (fG (own:=["tree"]) (caps:=[]) (κ:=[]) (cl:=[]) ⟨rfl,by decide +kernel,by decide +kernel,rfl,rfl,(fun y hy=>nomatch hy),(fun y hy=>nomatch hy)⟩ rfl (cV (pv 0))
  (fun _ _ _ _ _=>pg0 ["tree"]) (fun _ _ _ _ _ hps=>ai GE hr rfl mE kE bE .nil hps (aa (pv 0) ac))) ac))),?_⟩
 have xl:=hxs.length
 have cl:=sm.count
 refine⟨_,rfl,p,rfl,⟨_,SqT.of hp⟩,?_⟩
 refine cQ (J:=Itt K p) (xs:=xs) (fun i ys H3=>aM H H3/\ys.length=i/\∃es,ii (ts.take i)=some es/\dB H3 ys es) ⟨sr0,rfl,[],rfl,.nil⟩ (de (by omega)) ?_ ?_ ?_ ?_ ?_ ?_
 ·rintro i ys H3 ⟨_,hy,_⟩
  omega
 ·rintro i u ys H3 hu ⟨s3,_⟩
  exact⟨_,_,SqT.of (s3 _ _ hp),hu⟩
 ·rintro i ys u H3 H' hn ⟨s3,_⟩ hy
  exact⟨hy.1,hy.2 _ (SqT.of (s3 _ _ hp))⟩
 ·rintro ys H3 ⟨s3,_⟩
  exact⟨_,SqT.of (s3 _ _ hp),Nat.le_refl _⟩
 ·rintro i u ys H3 N hN hu ⟨s3,hy,es,hes,hat⟩
  obtain⟨t,ht,hu2⟩:=hxs.get hu
  have hm:=List.mem_of_getElem? ht
  refine⟨rfl,aY ⟨_,rfl,u,t,rfl,hu2.same s3,sm.mem hm,hdp t hm,fun e he H4 v s4 hv=>hN _ _ ⟨s3.trans s4,?_,es++[e],?_,?_⟩,fun he=>Rf.same (qE ?_) s3⟩⟩
  ·rw [la0,hy]
   rfl
  ·rw [List.take_add_one,ht]
   exact xr hes he
  ·exact(hat.same s4).append (.cons hv .nil)
  ·exact Bj hm he
 ·rintro ys H3 D ⟨s3,_,es,hes,hat⟩ hD
  rw [xl,List.take_length] at hes
  have sD:=ae hD (.lst ys)
  exact⟨D,ys,rfl,.inl ⟨SqL.of ad,fun l hl=>q es hes _ l ys (s3.trans (sD.trans (ae hl _))) ad (hat.same (sD.trans (ae hl _)))⟩⟩
theorem vi:ax ["tree","size"] ["tree"] (ah kd):=mkS
theorem yf{f fb fs fn CF:Addr}{fd fdb fds fdn:FuncData} (F:Fun K "literal_of_tree" "literal_of_tree" kd f fd)
  (GB:aV P w K mg base (CX1 P w) 1 fb fdb ["tree","least","most"] (bw K CF)) (bB:aX K fdb ["tree","least","most"] []) (kB:W.keepIn K (.ref fb)=true) (mB:mg "bracket"=some (.ref fb))
  (GS:aV P w K mg base (CX1 P w) 3 fs fds ["tree"] (jq K CF)) (bS:aX K fds ["tree"] []) (kS:W.keepIn K (.ref fs)=true) (mS:mg "size_of_tree"=some (.ref fs))
  (GN:aV P w K mg base (CX1 P w) 2 fn fdn ["tree","least","most"] (iC K CF)) (bN:aX K fdn ["tree","least","most"] []) (kN:W.keepIn K (.ref fn)=true) (mN:mg "number_of_tree"=some (.ref fn)):aV P w K mg base (CX1 P w) 4 f fd ["tree"] (vj K CF):=by
 refine F.k1 vi fun cdv A q0 s H vs Q E hr h=>?_
 obtain⟨x,ts,rfl,hx,sm,q,qE⟩:=h
 have hr1:bq 1 _:=hr.mono (by decide)
 have hr2:bq 2 _:=hr.mono (by decide)
 refine⟨_,af (aU (ai GB hr1 rfl mB kB bB .nil aQ (aa (pv 0) (aa ag (aa ag ac)))))
  (af (aS (i:=1) vi.nd (ai GS hr rfl mS kS bS .nil aQ (aa (ix0 au (pv 0) ag) ac)))
  (aj (ao (aE (aa ak (aa (ai GN hr2 rfl mN kN bN .nil aQ (aa (ix0 au (pv 0) ag) (aa ag (aa (aB rq (pv 1) ag) ac)))) (aa (pv 1) ac))))))),?_⟩
 refine⟨_,rfl,x,_,3,.int 3,rfl,hx,sm,.inr ⟨3,rfl⟩,?_,fun nb=>qE ?_⟩
 ·rintro⟨ts',e,h1,h2⟩
  cases e
  have h3:=h2 3 rfl
  cases hx with
  |@n a xs _ ha hxs =>
   obtain⟨ys,rfl,hys⟩:=dG hxs
   have smr:=sm.sub.tail
   obtain⟨u,v,y,y2,rfl,rfl,hy,hy2⟩:=tk2 (by simp only [lc0] at h1 h3;omega) hys
   refine⟨_,rfl,a,_,_,y2,rfl,rfl,SqT.of ha,rfl,y2,v,rfl,hy2,smr.tail.head,fun b eb H2 s2=>?_,fun eb=>qE (by simp only [pR,eb])⟩
   obtain⟨_,b1,b2⟩:=ip eb
   have b2':b<=1000000000000000000:=b2
   have el:pR [u,v]=(lU u 0 ((b:Int) - 1)).map fun v=>(.lit v b,2):=by simp only [pR,eb]
   refine⟨_,rfl,a,_,_,y,rfl,rfl,SqT.of (s2 _ _ ha),rfl,_,rfl,_,_,rfl,rfl,y,u,0,_,rfl,hy.same s2,smr.head,⟨by decide,by decide,by omega,by omega⟩,fun m em H3 s3=>⟨_,rfl,(sz 3),fun p2 hp2=>?_⟩,fun em=>Rf.same (qE (by rw [el,em];rfl)) s2⟩
   exact q (.lit m b,2) (by rw [el,em];rfl) _ _ (s2.trans (s3.trans (ae hp2 _))) (.node rfl ad .nil)
 ·match ts,nb with
  |[],_=>rfl
  |[_],_=>rfl
  |[u,v],nb=>exact absurd ⟨_,rfl,by show(3:Int)<=3;decide,fun j e=>by cases e;show(3:Int)<=3;decide⟩ nb
  |_::_::_::_,_=>rfl
theorem qo:ax ["tree","called"] ["tree"] (ah iR):=mkS
theorem um{f fn fa fb fx CF:Addr}{fd fdn fda fdb fdx:FuncData}{n m:Nat}{tM:Tok} (F:Fun K "call_of_tree" "call_of_tree" iR f fd)
  (GN:aV P w K mg base (CX1 P w) 2 fn fdn ["word"] (jV K CF)) (bN:aX K fdn ["word"] []) (kN:W.keepIn K (.ref fn)=true) (mN:mg "near_or_far"=some (.ref fn))
  (GA:aV P w K mg base (CX1 P w) 2 fa fda ["tree"] (gM K CF)) (bA:aX K fda ["tree"] []) (kA:W.keepIn K (.ref fa)=true) (mA:mg "word_ahead"=some (.ref fa))
  (GB:aV P w K mg base (CX1 P w) 1 fb fdb ["tree","least","most"] (bw K CF)) (bB:aX K fdb ["tree","least","most"] []) (kB:W.keepIn K (.ref fb)=true) (mB:mg "bracket"=some (.ref fb))
  (GX:aV P w K mg base (CX1 P w) (m+2) fx fdx ["trees"] (lC K CF n)) (bX:aX K fdx ["trees"] []) (kX:W.keepIn K (.ref fx)=true) (mX:mg "expressions_of"=some (.ref fx))
  (mM:mg "MOST_ARGUMENTS"=some (.int 4 tM)):aV P w K mg base (CX1 P w) (m+3) f fd ["tree"] (rj K CF n):=by
 refine F.k1 qo fun cdv A q0 s H vs Q E hr h=>?_
 obtain⟨x,z,ts,rfl,hx,sm,hdp,q,qE⟩:=h
 have hr1:bq 1 _:=hr.mono (by omega)
 have hr2:bq 2 _:=hr.mono (by omega)
 refine⟨_,af (aS (i:=1) qo.nd (ai GN hr2 rfl mN kN bN .nil aQ (aa (ai GA hr2 rfl mA kA bA .nil aQ (aa (pv 0) ac)) ac)))
  (af (aU (ai GB hr1 rfl mB kB bB .nil aQ (aa (pv 0) (aa ag (aa (aB ca ag (cY rfl mM (v:=.int 4) ⟨tM,rfl⟩)) ac)))))
  (aj (ao (aB cH (aB cH (aE (aa ak ac)) (pv 1)) (aE (aa (ai GX hr rfl mX kX bX .nil aQ (aa (aH cx (pv 0) (aP ag) aT) ac)) ac)))))),?_⟩
 obtain⟨zl,zo⟩:=(sm.sub.head (t:=.w z)).word
 have hx0:=hx
 refine⟨_,rfl,x,_,rfl,hx,sm,fun z' r e=>?_,fun e=>absurd rfl (e z ts)⟩
 cases e
 refine⟨z,rfl,zl,zo,fun pr ef H1 p1 s1 hp1=>?_,fun ef=>qE (.inl (by unfold jk;rw [ef]))⟩
 have ec:jk z ts=if ts.length<=4 then some (.call pr.1 pr.2,0) else none:=by unfold jk;rw [ef]
 refine⟨_,rfl,_,_,rfl,rfl,x,_,1,.int 5,rfl,hx.same s1,sm,.inr ⟨5,rfl⟩,?_,fun nb=>Rf.same (qE (.inl ?_)) s1⟩
 ·rintro⟨ts',e,h1,h2⟩
  cases e
  have h3:=h2 5 rfl
  have h4:ts.length<=4:=by rw [lc0] at h3;omega
  rw [if_pos h4] at ec
  cases hx with
  |@n p xs _ hp hxs =>
   obtain⟨ys,rfl,hys⟩:=dG hxs
   have hp':=s1 _ _ hp
   refine⟨(sz 1),fun p2 hp2=>?_⟩
   have s2:=ae hp2 (.tup [.str "call"])
   refine⟨_,rfl,p2,p1,_,_,rfl,rfl,SqT.of ad,SqT.of (s2 _ _ hp1),by simp,(sz 3),(fun e=>by cases e),fun _ p3 hp3=>?_⟩
   have s3:=ae hp3 (.tup ([.str "call"]++[.str pr.1,.str pr.2]))
   have hp4:=s3 _ _ (s2 _ _ hp')
   refine⟨_,rfl,_,rfl,p,_,rfl,SqT.of hp4,ba (k:=1) nr0 (by simp),fun p5 hp5=>?_⟩
   have s5:=ae hp5 (.tup (dc (.str z::ys) (some 1) none))
   have e5:dc (.str z::ys) (some 1) none=ys:=dm _ 1
   have h5:∀Hq:Hp,(upd Hq p5 (.tup (dc (.str z::ys) (some 1) none))) p5=some (.tup ys):=fun Hq=>by rw [ad,e5]
   have S5:=s1.trans (s2.trans (s3.trans s5))
   refine⟨p5,ys,ts,rfl,h5 _,hys.same S5,sm.sub.tail,hdp,fun es ee H6 p6 zs s6 hp6 hzs=>⟨(sz 1),fun p7 hp7=>?_⟩,fun ee=>Rf.same (qE (.inr ee)) S5⟩
   have s7:=ae hp7 (.tup [.ref p6])
   refine⟨p3,p7,_,_,rfl,rfl,SqT.of (s7 _ _ (s6 _ _ (s5 _ _ ad))),SqT.of ad,by simp,(sz 4),(fun e=>by cases e),fun _ p8 hp8=>?_⟩
   have s8:=ae hp8 (.tup ([.str "call"]++[.str pr.1,.str pr.2]++[.ref p6]))
   exact q _ es ec ee _ _ (S5.trans (s6.trans (s7.trans s8))) (.call ad (s8 _ _ (s7 _ _ hp6)) (hzs.same (s7.trans s8)))
 ·rw [ec,if_neg]
  intro h4
  refine nb ⟨_,rfl,by rw [lc0];omega,fun j e=>?_⟩
  cases e
  rw [lc0]
  omega
theorem vG{z:Str}{ts:List Tr} (h1:z≠"lit") (h2:inV (.str z) sW=true):df z ts=op? z ts:=by unfold df;rw [if_neg h1,if_pos h2]
theorem qx{z:Str}{ts:List Tr} (h1:z≠"lit") (h2:¬inV (.str z) sW=true) (h3:inV (.str z) wW=true):df z ts=if ts.length=2 then some (.test z,0) else none:=by unfold df;rw [if_neg h1,if_neg h2,if_pos h3]
theorem tX{z:Str}{ts:List Tr} (h1:z≠"lit") (h2:¬inV (.str z) sW=true) (h3:¬inV (.str z) wW=true) (h4:z≠"as") (h5:z≠"let"):df z ts=match fK brs z with
  |some k=>if (ts.length:Int)=k then some (.br z,0) else none
  |none=>jk z ts:=by
 unfold df
 rw [if_neg h1,if_neg h2,if_neg h3,if_neg h4,if_neg h5]
 all_goals (cases fK brs z<;>rfl)
theorem dO{z:Str}{ts:List Tr}{p:Fm × Nat}(h:df z ts=some p):ex? (.n (.w z::ts))=(ii (ts.drop p.2)).map (.node p.1):=by rw [lA,h]
theorem cE{z:Str}{ts:List Tr}(h:df z ts=none):ex? (.n (.w z::ts))=none:=by rw [lA,h]
theorem uG{u v:Tr}{es:List Ex}(h:ii [u,v]=some es):es.length=2:=(gL h).1.symm
theorem rh{K:W.Frag}{H:Hp}{hd:List V}{ys:List V}{p2 p6:Addr}{Q:VK}(h2:H p2=some (.tup hd))(h6:H p6=some (.tup ys))(ne:hd≠[])(l1:hd.length<=10)(l2:ys.length<=200)(n2:ys≠[])
  (q:∀p,H p=none->Q (.ref p) (upd H p (.tup (hd++ys)))):tT K (.ref p2) (.ref p6) H Q :=
 ⟨p2,p6,hd,ys,rfl,rfl,SqT.of h2,SqT.of h6,ne,de (by omega),(fun e=>absurd e n2),fun _=>q⟩
abbrev exN:List Str:=["tree","ahead","count"]
theorem wn:ax exN ["tree"] (ah sZ):=mkS
theorem uj{f fn fa fb fs fx fl fc pO pT pB CF:Addr}{fd fdn fda fdb fds fdx fdl fdc:FuncData} (F:Fun K "expression_of_tree" "expression_of_tree" sZ f fd) (bF:aX K fd ["tree"] []) (kF:W.keepIn K (.ref f)=true) (mF:mg "expression_of_tree"=some (.ref f))
  (GN:aV P w K mg base (CX1 P w) 2 fn fdn ["tree"] (dn K CF)) (bN:aX K fdn ["tree"] []) (kN:W.keepIn K (.ref fn)=true) (mN:mg "name_of_tree"=some (.ref fn))
  (GA:aV P w K mg base (CX1 P w) 2 fa fda ["tree"] (gM K CF)) (bA:aX K fda ["tree"] []) (kA:W.keepIn K (.ref fa)=true) (mA:mg "word_ahead"=some (.ref fa))
  (GB:aV P w K mg base (CX1 P w) 1 fb fdb ["tree","least","most"] (bw K CF)) (bB:aX K fdb ["tree","least","most"] []) (kB:W.keepIn K (.ref fb)=true) (mB:mg "bracket"=some (.ref fb))
  (GS:aV P w K mg base (CX1 P w) 3 fs fds ["tree"] (jq K CF)) (bS:aX K fds ["tree"] []) (kS:W.keepIn K (.ref fs)=true) (mS:mg "size_of_tree"=some (.ref fs))
  (GL:aV P w K mg base (CX1 P w) 4 fl fdl ["tree"] (vj K CF)) (bL:aX K fdl ["tree"] []) (kL:W.keepIn K (.ref fl)=true) (mL:mg "literal_of_tree"=some (.ref fl))
  (GX:∀n,aV P w K mg base (CX1 P w) (3*n+5) f fd ["tree"] (rD K CF n)->aV P w K mg base (CX1 P w) (3*n+6) fx fdx ["trees"] (lC K CF n)) (bX:aX K fdx ["trees"] []) (kX:W.keepIn K (.ref fx)=true) (mX:mg "expressions_of"=some (.ref fx))
  (GC:∀n,aV P w K mg base (CX1 P w) (3*n+6) fx fdx ["trees"] (lC K CF n)->aV P w K mg base (CX1 P w) (3*n+7) fc fdc ["tree"] (rj K CF n)) (bC:aX K fdc ["tree"] []) (kC:W.keepIn K (.ref fc)=true) (mC:mg "call_of_tree"=some (.ref fc))
  (mO:mg "OPERATORS"=some (.ref pO)) (hO:∀H,SqT K H pO sW) (mT:mg "TESTS"=some (.ref pT)) (hT:∀H,SqT K H pT wW) (mB2:mg "BRANCHES"=some (.ref pB)) (hB:DKt K w pB brs)
  (mi:mg "isinstance"=none) (ms:mg "str"=none):∀n,aV P w K mg base (CX1 P w) (3*n+5) f fd ["tree"] (rD K CF n)
 |0=>⟨fun vs H Q E h=>by obtain⟨x,k,rfl,_⟩:=h;rfl,fun A q0 s H args us vs Q E _ _ _ _ h=>by
   obtain⟨x,k,_,_,_,hd,_⟩:=h
   omega⟩
 |n+1=>by
  have IH:=uj F bF kF mF GN bN kN mN GA bA kA mA GB bB kB mB GS bS kS mS GL bL kL mL GX bX kX mX GC bC kC mC mO hO mT hT mB2 hB mi ms n
  have GXn:=GX n IH
  have GCn:=GC n GXn
  rw [show 3*(n+1)+5=(3*n+7)+1 by omega]
  refine F.k1 wn fun cdv A q0 s H vs Q E hr h=>?_
  obtain⟨x,t,rfl,hx,sm,hd,q,qE⟩:=h
  have hr1:bq 1 _:=hr.mono (by omega)
  have hr2:bq 2 _:=hr.mono (by omega)
  have hr3:bq 3 _:=hr.mono (by omega)
  have hr4:bq 4 _:=hr.mono (by omega)
  have hr5:bq (3*n+5) _:=hr.mono (by omega)
  have hr6:bq (3*n+6) _:=hr.mono (by omega)
  refine⟨_,af (aF (bt (aq bh rfl mi bH (aa (pv 0) (aa (bJ rfl ms cb (v:=.ty "str") rfl) ac)))) (aj (ao (aE (aa ak (aa (ai GN hr2 rfl mN kN bN .nil aQ (aa (pv 0) ac)) ac))))) ar)
   (af (aS (i:=1) wn.nd (ai GA hr2 rfl mA kA bA .nil aQ (aa (pv 0) ac)))
   (af (aF (am aZ (pv 1) ak (av _)) (aj (ao (ai GL hr4 rfl mL kL bL .nil aQ (aa (pv 0) ac)))) ar)
   (af (aF (am gc (pv 1) (cY rfl mO (v:=.ref pO) rfl) (by with_unfolding_all rfl)) (af (aU (ai GB hr1 rfl mB kB bB .nil aQ (aa (pv 0) (aa ag (aa ag ac)))))
    (aj (ao (aB cH (aE (aa ak (aa (pv 1) (aa (ai GS hr3 rfl mS kS bS .nil aQ (aa (ix0 au (pv 0) ag) ac)) ac)))) (ai GXn hr6 rfl mX kX bX .nil aQ (aa (aH cx (pv 0) (aP ag) aT) ac)))))) ar)
   (af (aF (am gc (pv 1) (cY rfl mT (v:=.ref pT) rfl) (by with_unfolding_all rfl)) (af (aU (ai GB hr1 rfl mB kB bB .nil aQ (aa (pv 0) (aa ag (aa ag ac)))))
    (aj (ao (aB cH (aE (aa ak (aa (pv 1) ac))) (ai GXn hr6 rfl mX kX bX .nil aQ (aa (aH cx (pv 0) (aP ag) aT) ac)))))) ar)
   (af (aF (am aZ (pv 1) ak (av _)) (af (aU (ai GB hr1 rfl mB kB bB .nil aQ (aa (pv 0) (aa ag (aa ag ac)))))
    (aj (ao (aE (aa ak (aa (ai GS hr3 rfl mS kS bS .nil aQ (aa (ix0 au (pv 0) ag) ac)) (aa (ai IH hr5 rfl mF kF bF .nil aQ (aa (ix0 au (pv 0) ag) ac)) ac))))))) ar)
   (af (aF (am aZ (pv 1) ak (av _)) (af (aU (ai GB hr1 rfl mB kB bB .nil aQ (aa (pv 0) (aa ag (aa ag ac)))))
    (aj (ao (aB cH (aE (aa ak (aa (ai GN hr2 rfl mN kN bN .nil aQ (aa (ix0 au (pv 0) ag) ac)) ac))) (ai GXn hr6 rfl mX kX bX .nil aQ (aa (aH cx (pv 0) (aP ag) aT) ac)))))) ar)
   (af (aF (AV (Az (pv 1) (cY rfl mB2 (v:=.ref pB) rfl)) (by with_unfolding_all rfl)) (af (aS (i:=2) wn.nd (rJ (cY rfl mB2 (v:=.ref pB) rfl) (pv 1) (fun _ _=>rfl)))
    (af (aU (ai GB hr1 rfl mB kB bB .nil aQ (aa (pv 0) (aa (aB ca ag (pv 2)) (aa (aB ca ag (pv 2)) ac)))))
    (aj (ao (aB cH (aE (aa (pv 1) ac)) (ai GXn hr6 rfl mX kX bX .nil aQ (aa (aH cx (pv 0) (aP ag) aT) ac))))))) ar)
   (aj (ao (ai GCn hr rfl mC kC bC .nil aQ (aa (pv 0) ac))))))))))),?_⟩
  cases hx with
  |w z =>
   refine⟨_,rfl,.str z,"str",_,true,rfl,.str _,eJ K,true,rfl,bU ?_⟩
   refine⟨_,rfl,.str z,.w z,rfl,.w z,sm,fun y ey H2 s2=>⟨(sz 2),fun p hp=>?_⟩,fun ey=>qE ?_⟩
   ·obtain⟨e1,e2⟩:=cZ ey
    cases e1
    exact q (.var z) (if_pos e2) _ _ (s2.trans (ae hp _)) (.var ad)
   ·have ey':(if aA z=true then some z else none)=none:=ey
    show(if aA z=true then some (Ex.var z) else none)=none
    split
    ·rename_i c
     rw [if_pos c] at ey'
     cases ey'
    ·rfl
  |@n a xs ts ha hxs =>
   refine⟨_,rfl,.ref a,"str",_,false,rfl,.tup ha,dZ K,false,rfl,bx ?_⟩
   refine⟨_,rfl,.ref a,.n ts,rfl,.n ha hxs,sm,fun z r e=>?_,fun e=>qE (wI fun⟨z,r,h⟩=>e z r (by rw [h]))⟩
   cases e
   obtain⟨ys,rfl,hys⟩:=dG hxs
   have hdr:∀u∈r,u.dep < n:=fun u hu=>by
    have h1:1+fF (.w z::r) < n+1:=hd
    have h2:=gF (ts:=.w z::r) (.tail _ hu)
    omega
   have smr:=sm.sub.tail
   have yl:=hys.length
   have hat:bz K H (.ref a) (.n (.w z::r)):=.n ha hxs
   refine⟨_,rfl,rfl,_,rfl,aO (fun c=>?_) (fun c1=>?_)⟩
   ·have ez:z="lit":=V.str.inj (od0 c)
    subst ez
    have ef:df "lit" r=pR r:=if_pos rfl
    refine⟨_,rfl,.ref a,r,rfl,hat,sm,fun p ep H' v s' hv=>?_,fun ep=>qE (cE (by rw [ef];exact ep))⟩
    obtain⟨f1,f2⟩:=uT (ef.trans ep)
    have e0:r.drop p.2=[]:=by
     match r,ep with
     |[u,v],ep =>
      simp only [pR] at ep
      cases eb:eu v with
      |none=>rw [eb] at ep;cases ep
      |some b =>
       rw [eb] at ep
       obtain⟨x,ex,rfl⟩:=Option.map_eq_some_iff.mp ep
       rfl
    exact q (.node p.1 []) (by rw [dO (ef.trans ep),e0];rfl) H' v s' hv
   have n1:z≠"lit":=fun e=>c1 (dt0 (by rw [e]))
   refine⟨_,rfl,pO,sW,rfl,.inr (hO _),rfl,xb,_,rfl,aO (fun c=>?_) (fun c2=>?_)⟩
   ·have ef:df z r=op? z r:=vG n1 c
    refine⟨_,rfl,.ref a,_,4,.int 4,rfl,hat,sm,.inr ⟨4,rfl⟩,?_,fun nb=>qE (cE ?_)⟩
    ·rintro⟨ts',e,h1,h2⟩
     cases e
     have h3:=h2 4 rfl
     have h4:r.length=3:=by rw [lc0] at h1 h3;omega
     obtain⟨u,r',y,ys',rfl,rfl,hl',hy,hys'⟩:=tkc h4 hys
     obtain⟨v,v2,rfl⟩:=le2 hl'
     ·refine⟨_,rfl,_,rfl,a,_,_,y,rfl,rfl,SqT.of ha,at1,y,u,rfl,hy,smr.head,fun b eb H2 s1=>⟨(sz 3),fun p2 hp2=>?_⟩,fun eb=>qE (cE (by rw [ef];simp only [op?,eb,Option.map_none]))⟩
      have ef2:df z [u,v,v2]=some (.op z b,1):=by rw [ef];simp only [op?,eb,Option.map_some]
      have s2:=ae hp2 (.tup [.str "op",.str z,.int b])
      have haa:=s2 _ _ (s1 _ _ ha)
      refine⟨_,rfl,_,rfl,a,_,rfl,SqT.of haa,ba (k:=2) (by decide) (by simp),fun p5 hp5=>?_⟩
      have s5:=ae hp5 (.tup (dc (.str z::y::ys') (some 2) none))
      have h5:∀Hq:Hp,(upd Hq p5 (.tup (dc (.str z::y::ys') (some 2) none))) p5=some (.tup ys'):=fun Hq=>by rw [ad];exact congrArg (fun l=>some (HO.tup l)) (dm _ 2)
      have S:=s1.trans (s2.trans s5)
      refine⟨p5,ys',[v,v2],rfl,h5 _,hys'.same S,smr.tail,fun t ht=>hdr t (.tail _ ht),fun es ee H6 p6 zs s6 hp6 hzs=>?_,fun ee=>Rf.same (qE (by rw [dO ef2];show(ii [v,v2]).map _=none;rw [ee];rfl)) S⟩
      have zl:zs.length=2:=hzs.length.trans (uG ee)
      refine rh (s6 _ _ (s5 _ _ ad)) hp6 (by simp) (by show 3<=10;decide) (by omega) (fun e=>by rw [e] at zl;cases zl) fun p8 hp8=>?_
      exact q _ (by rw [dO ef2];show(ii [v,v2]).map _=_;rw [ee];rfl) _ _ (S.trans (s6.trans (ae hp8 _))) (.node (f:=.op z b) rfl ad (hzs.same (ae hp8 _)))
    ·rw [ef]
     match r,nb with
     |[u,v,v2],nb=>exact absurd ⟨_,rfl,by show(4:Int)<=4;decide,fun j e=>by cases e;show(4:Int)<=4;decide⟩ nb
     |[],_=>rfl
     |[_],_=>rfl
     |[_,_],_=>rfl
     |_::_::_::_::_,_=>rfl
   replace c2:¬inV (.str z) sW=true:=c2
   refine⟨_,rfl,pT,wW,rfl,.inr (hT _),rfl,xP,_,rfl,aO (fun c=>?_) (fun c3=>?_)⟩
   ·have ef:=qx (ts:=r) n1 c2 c
    refine⟨_,rfl,.ref a,_,3,.int 3,rfl,hat,sm,.inr ⟨3,rfl⟩,?_,fun nb=>qE (cE ?_)⟩
    ·rintro⟨ts',e,h1,h2⟩
     cases e
     have h3:=h2 3 rfl
     have h4:r.length=2:=by rw [lc0] at h1 h3;omega
     rw [if_pos h4] at ef
     refine⟨_,rfl,(sz 2),fun p2 hp2=>?_⟩
     have s2:=ae hp2 (.tup [.str "test",.str z])
     have haa:=s2 _ _ ha
     refine⟨_,rfl,_,rfl,a,_,rfl,SqT.of haa,ba (k:=1) (by decide) (by simp),fun p5 hp5=>?_⟩
     have s5:=ae hp5 (.tup (dc (.str z::ys) (some 1) none))
     have h5:∀Hq:Hp,(upd Hq p5 (.tup (dc (.str z::ys) (some 1) none))) p5=some (.tup ys):=fun Hq=>by rw [ad];exact congrArg (fun l=>some (HO.tup l)) (dm _ 1)
     have S:=s2.trans s5
     refine⟨p5,ys,r,rfl,h5 _,hys.same S,smr,hdr,fun es ee H6 p6 zs s6 hp6 hzs=>?_,fun ee=>Rf.same (qE (by rw [dO ef];show(ii r).map _=none;rw [ee];rfl)) S⟩
     have zl:zs.length=2:=hzs.length.trans ((gL ee).1.symm.trans h4)
     refine rh (s6 _ _ (s5 _ _ ad)) hp6 (by simp) (by show 2<=10;decide) (by omega) (fun e=>by rw [e] at zl;cases zl) fun p8 hp8=>?_
     exact q _ (by rw [dO ef];show(ii r).map _=_;rw [ee];rfl) _ _ (S.trans (s6.trans (ae hp8 _))) (.node (f:=.test z) rfl ad (hzs.same (ae hp8 _)))
    ·rw [ef,if_neg]
     intro h4
     refine nb ⟨_,rfl,by rw [lc0];omega,fun j e=>?_⟩
     cases e
     rw [lc0]
     omega
   replace c3:¬inV (.str z) wW=true:=c3
   refine⟨_,rfl,rfl,_,rfl,aO (fun c=>?_) (fun c4=>?_)⟩
   ·have ez:z="as":=V.str.inj (od0 c)
    subst ez
    have ef:df "as" r=as? r:=by unfold df;rw [if_neg n1,if_neg c2,if_neg c3,if_pos rfl]
    refine⟨_,rfl,.ref a,_,3,.int 3,rfl,hat,sm,.inr ⟨3,rfl⟩,?_,fun nb=>qE (cE ?_)⟩
    ·rintro⟨ts',e,h1,h2⟩
     cases e
     have h3:=h2 3 rfl
     have h4:r.length=2:=by rw [lc0] at h1 h3;omega
     obtain⟨u,v,y,y2,rfl,rfl,hy,hy2⟩:=tk2 h4 hys
     ·refine⟨_,rfl,a,_,_,y,rfl,rfl,SqT.of ha,at1,y,u,rfl,hy,smr.head,fun b eb H2 s1=>?_,fun eb=>qE (cE (by rw [ef];simp only [as?,eb,Option.map_none]))⟩
      have ef2:df "as" [u,v]=some (.as_ b,1):=by rw [ef];simp only [as?,eb,Option.map_some]
      have e2:ex? (.n (.w "as"::[u,v]))=(ii [v]).map (.node (.as_ b)):=dO ef2
      refine⟨_,rfl,a,_,_,y2,rfl,rfl,SqT.of (s1 _ _ ha),at2,y2,v,rfl,hy2.same s1,smr.tail.head,hdr v (.tail _ (.head _)),fun e ee H3 v3 s3 hv3=>⟨(sz 3),fun p2 hp2=>?_⟩,fun ee=>Rf.same (qE (by rw [e2];unfold ii;rw [List.map_cons,ee];rfl)) s1⟩
      exact q (.node (.as_ b) [e]) (by rw [e2];unfold ii;rw [List.map_cons,ee];rfl) _ _ (s1.trans (s3.trans (ae hp2 _))) (.node (xs:=[v3]) rfl ad (.cons (hv3.same (ae hp2 _)) .nil))
    ·rw [ef]
     match r,nb with
     |[u,v],nb=>exact absurd ⟨_,rfl,by show(3:Int)<=3;decide,fun j e=>by cases e;show(3:Int)<=3;decide⟩ nb
     |[],_=>rfl
     |[_],_=>rfl
     |_::_::_::_,_=>rfl
   have n4:z≠"as":=fun e=>c4 (dt0 (by rw [e]))
   refine⟨_,rfl,rfl,_,rfl,aO (fun c=>?_) (fun c5=>?_)⟩
   ·have ez:z="let":=V.str.inj (od0 c)
    subst ez
    have ef:df "let" r=uQ r:=by unfold df;rw [if_neg n1,if_neg c2,if_neg c3,if_neg n4,if_pos rfl]
    refine⟨_,rfl,.ref a,_,4,.int 4,rfl,hat,sm,.inr ⟨4,rfl⟩,?_,fun nb=>qE (cE ?_)⟩
    ·rintro⟨ts',e,h1,h2⟩
     cases e
     have h3:=h2 4 rfl
     have h4:r.length=3:=by rw [lc0] at h1 h3;omega
     obtain⟨u,r',y,ys',rfl,rfl,hl',hy,hys'⟩:=tkc h4 hys
     obtain⟨v,v2,rfl⟩:=le2 hl'
     ·refine⟨_,rfl,a,_,_,y,rfl,rfl,SqT.of ha,at1,y,u,rfl,hy,smr.head,fun b eb H2 s1=>⟨(sz 2),fun p2 hp2=>?_⟩,fun eb=>qE (cE (by rw [ef];simp only [uQ,eb,Option.map_none]))⟩
      have ef2:df "let" [u,v,v2]=some (.let_ b,1):=by rw [ef];simp only [uQ,eb,Option.map_some]
      have s2:=ae hp2 (.tup [.str "let",.str b])
      have haa:=s2 _ _ (s1 _ _ ha)
      refine⟨_,rfl,_,rfl,a,_,rfl,SqT.of haa,ba (k:=2) (by decide) (by simp),fun p5 hp5=>?_⟩
      have s5:=ae hp5 (.tup (dc (.str "let"::y::ys') (some 2) none))
      have h5:∀Hq:Hp,(upd Hq p5 (.tup (dc (.str "let"::y::ys') (some 2) none))) p5=some (.tup ys'):=fun Hq=>by rw [ad];exact congrArg (fun l=>some (HO.tup l)) (dm _ 2)
      have S:=s1.trans (s2.trans s5)
      refine⟨p5,ys',[v,v2],rfl,h5 _,hys'.same S,smr.tail,fun t ht=>hdr t (.tail _ ht),fun es ee H6 p6 zs s6 hp6 hzs=>?_,fun ee=>Rf.same (qE (by rw [dO ef2];show(ii [v,v2]).map _=none;rw [ee];rfl)) S⟩
      have zl:zs.length=2:=hzs.length.trans (uG ee)
      refine rh (s6 _ _ (s5 _ _ ad)) hp6 (by simp) (by show 2<=10;decide) (by omega) (fun e=>by rw [e] at zl;cases zl) fun p8 hp8=>?_
      exact q _ (by rw [dO ef2];show(ii [v,v2]).map _=_;rw [ee];rfl) _ _ (S.trans (s6.trans (ae hp8 _))) (.node (f:=.let_ b) rfl ad (hzs.same (ae hp8 _)))
    ·rw [ef]
     match r,nb with
     |[u,v,v2],nb=>exact absurd ⟨_,rfl,by show(4:Int)<=4;decide,fun j e=>by cases e;show(4:Int)<=4;decide⟩ nb
     |[],_=>rfl
     |[_],_=>rfl
     |[_,_],_=>rfl
     |_::_::_::_::_,_=>rfl
   have n5:z≠"let":=fun e=>c5 (dt0 (by rw [e]))
   have ef:=tX (ts:=r) n1 c2 c3 n4 n5
   refine⟨_,rfl,pB,brs,z,rfl,hB,rfl,_,rfl,?_⟩
   cases en:fK brs z with
   |some k =>
    rw [en] at ef
    obtain⟨k',rfl,hk⟩:=tJ en
    have k1:1<=k'/\k'<=3:=by omega
    refine bU ?_
    refine⟨_,rfl,pB,brs,z,_,rfl,hB,rfl,en,?_⟩
    refine⟨_,rfl,_,rfl,_,_,rfl,rfl,_,rfl,_,_,rfl,rfl,.ref a,_,_,_,rfl,hat,sm,.inr ⟨_,rfl⟩,?_,fun nb=>qE (cE ?_)⟩
    ·rintro⟨ts',e,h1,h2⟩
     cases e
     have h3:=h2 _ rfl
     have h4:r.length=k':=by rw [lc0] at h1 h3;omega
     have ef2:df z r=some (.br z,0):=by rw [ef];exact if_pos (by omega)
     refine⟨_,rfl,(sz 1),fun p2 hp2=>?_⟩
     have s2:=ae hp2 (.tup [.str z])
     have haa:=s2 _ _ ha
     refine⟨_,rfl,_,rfl,a,_,rfl,SqT.of haa,ba (k:=1) (by decide) (by simp),fun p5 hp5=>?_⟩
     have s5:=ae hp5 (.tup (dc (.str z::ys) (some 1) none))
     have h5:∀Hq:Hp,(upd Hq p5 (.tup (dc (.str z::ys) (some 1) none))) p5=some (.tup ys):=fun Hq=>by rw [ad];exact congrArg (fun l=>some (HO.tup l)) (dm _ 1)
     have S:=s2.trans s5
     refine⟨p5,ys,r,rfl,h5 _,hys.same S,smr,hdr,fun es ee H6 p6 zs s6 hp6 hzs=>?_,fun ee=>Rf.same (qE (by rw [dO ef2];show(ii r).map _=none;rw [ee];rfl)) S⟩
     have zl:zs.length=k':=hzs.length.trans ((gL ee).1.symm.trans h4)
     refine rh (s6 _ _ (s5 _ _ ad)) hp6 (by simp) (by show 1<=10;decide) (by omega) (fun e=>by rw [e] at zl;have:0=k':=zl;omega) fun p8 hp8=>?_
     exact q _ (by rw [dO ef2];show(ii r).map _=_;rw [ee];rfl) _ _ (S.trans (s6.trans (ae hp8 _))) (.node (f:=.br z) rfl ad (hzs.same (ae hp8 _)))
    ·rw [ef]
     refine if_neg fun h4=>nb ⟨_,rfl,by rw [lc0];omega,fun j e=>?_⟩
     cases e
     rw [lc0]
     omega
   |none =>
    rw [en] at ef
    refine bx ?_
    refine⟨_,rfl,.ref a,z,r,rfl,hat,sm,hdr,fun p es ep ee H' v s' hv=>?_,fun h=>qE ?_⟩
    ·have e0:p.2=0:=by
      unfold jk at ep
      split at ep
      ·split at ep
       ·cases ep;rfl
       ·cases ep
      ·cases ep
     exact q (.node p.1 es) (by rw [dO (ef.trans ep),e0,List.drop_zero,ee];rfl) H' v s' hv
    ·rcases h with h|h
     ·exact cE (by rw [ef];exact h)
     ·cases ep:jk z r with
      |none=>exact cE (by rw [ef];exact ep)
      |some p =>
       have e0:p.2=0:=by
        unfold jk at ep
        split at ep
        ·split at ep
         ·cases ep;rfl
         ·cases ep
        ·cases ep
       rw [dO (ef.trans ep),e0,List.drop_zero,h]
       rfl
abbrev ahs:List (Str × Int):=[("op",3),("test",2),("as",2),("let",2),("if",1),("two",1),("first",1),("second",1)]
abbrev lvV:List V:=[.str "lit",.str "var"]
theorem lP:lvV.all jh=true:=by decide +kernel
inductive qw:Sp|mk{vs H Q E}(x:V)(f:Fm)(es:List Ex)(_:vs=[x])(_:j8 H x (.node f es))(_:f.fits es.length)(_:∀H' (r:Addr) xs,aM H H'->H' r=some (.tup xs)->dB H' xs es->Q (.ref r) H'):qw vs H Q E
inductive uU:Sp|mk{vs H Q E}(x:V)(f:Fm)(es:List Ex)(_:vs=[x])(_:j8 H x (.node f es))(_:f.fits es.length)(_:∀H' (r:Addr),aM H H'->H' r=some (.tup (f.words.map V.str))->Q (.ref r) H'):uU vs H Q E
inductive ri(K:W.Frag)(n:Nat):Sp|mk{vs H Q E}(x:V)(e:Ex)(_:vs=[x])(_:j8 H x e)(_:e.ok)(_:e.dp < n)(_:∀H' v,aM H H'->bz K H' v e.tr->Q v H'):ri K n vs H Q E
theorem wP{f:Fm}{k:Nat}(h:f.fits k)(hc:f.isCall=false)(hl:∀a b,f≠.lit a b):∃(z:Str) (r:List V),f.vals=.str z::r/\inV (.str z) lvV=false/\z≠"call"/\fK ahs z=some ((r.length+1:Nat):Int):=by
 cases f with
 |lit a b=>exact absurd rfl (hl a b)
 |op o n=>exact⟨_,_,rfl,by decide +kernel,by decide +kernel,rfl⟩
 |test o=>exact⟨_,_,rfl,by decide +kernel,by decide +kernel,rfl⟩
 |as_ n=>exact⟨_,_,rfl,by decide +kernel,by decide +kernel,rfl⟩
 |let_ s=>exact⟨_,_,rfl,by decide +kernel,by decide +kernel,rfl⟩
 |br z=>rcases h with ⟨rfl,_⟩|⟨rfl,_⟩|⟨rfl,_⟩|⟨rfl,_⟩<;>exact⟨_,_,rfl,by decide +kernel,by decide +kernel,by decide +kernel⟩
 |call a b=>cases hc
theorem u9{H:Hp}{x:V}{f:Fm}{es:List Ex}(h:j8 H x (.node f es))(hf:f.fits es.length):∃(p:Addr) (z:Str) (r:List V),x=.ref p/\H p=some (.tup (.str z::r))/\z≠"var":=by
 cases h with
 |@call p _ _ _ _ _ hp=>exact⟨p,_,_,rfl,hp,by decide +kernel⟩
 |@node p _ _ _ hc hp =>
  cases f with
  |lit a b=>exact⟨p,_,_,rfl,hp,by decide +kernel⟩
  |op o n=>exact⟨p,_,_,rfl,hp,by decide +kernel⟩
  |test o=>exact⟨p,_,_,rfl,hp,by decide +kernel⟩
  |as_ n=>exact⟨p,_,_,rfl,hp,by decide +kernel⟩
  |let_ s=>exact⟨p,_,_,rfl,hp,by decide +kernel⟩
  |br z=>rcases hf with ⟨rfl,_⟩|⟨rfl,_⟩|⟨rfl,_⟩|⟨rfl,_⟩<;>exact⟨p,_,_,rfl,hp,by decide +kernel⟩
  |call a b=>cases hc
theorem fU{n:Nat}(h:n<=big):(n:Int).natAbs.log2 < 1920:=by
 by_cases z:n=0
 ·rw [z]
  decide
 ·exact(Nat.log2_lt (by omega)).mpr (Nat.lt_of_le_of_lt (show(n:Int).natAbs<=1000000000000000000 by have:n<=1000000000000000000:=h;omega) (by decide))
theorem rf:ax ["expression","form"] ["expression"] (ah iZ):=mkS
theorem ud{f pA:Addr}{fd:FuncData} (F:Fun K "within" "within" iZ f fd) (mA:mg "AHEAD"=some (.ref pA)) (hA:DKt K w pA ahs):aV P w K mg base CX0 1 f fd ["expression"] qw:=by
 refine F.k0 rf fun cdv A q0 s H vs Q E hr h=>?_
 obtain⟨x,fm,es,rfl,hx,hf,q⟩:=h
 refine⟨_,af (aS (i:=1) rf.nd (ix0 au (pv 0) ag))
  (af (aF (am gc (pv 1) (aE (aa ak (aa ak ac))) (by with_unfolding_all rfl)) (aj (ao (aE ac))) ar)
  (af (aF (am aZ (pv 1) ak (av _)) (aj (ao (ix0 au (pv 0) ag))) ar)
  (aj (ao (aH cx (pv 0) (aP (rJ (cY rfl mA (v:=.ref pA) rfl) (pv 1) (fun _ _=>rfl))) aT))))),?_⟩
 cases hx with
 |@call p p2 a t xs _ hp hp2 hxs =>
  refine⟨_,rfl,p,_,_,.str "call",rfl,rfl,SqT.of hp,rfl,_,rfl,(sz 2),fun p3 hp3=>?_⟩
  have s3:=ae hp3 (.tup lvV)
  refine⟨p3,lvV,rfl,.inr (SqT.of ad),rfl,lP,_,rfl,aO (fun c=>nK0 c) (fun _=>?_)⟩
  refine⟨_,rfl,rfl,_,rfl,aO (fun _=>?_) (fun c=>absurd (by decide +kernel) c)⟩
  exact⟨_,rfl,p,_,_,.ref p2,rfl,rfl,SqT.of (s3 _ _ hp),rfl,q _ _ _ s3 (s3 _ _ hp2) (hxs.same s3)⟩
 |@node p _ xs _ hc hp hxs =>
  by_cases hl:∃a b,fm=.lit a b
  ·obtain⟨a,b,rfl⟩:=hl
   obtain⟨h0,_⟩:=hf
   obtain rfl:es=[]:=List.eq_nil_of_length_eq_zero h0
   cases hxs
   refine⟨_,rfl,p,_,_,.str "lit",rfl,rfl,SqT.of hp,rfl,_,rfl,(sz 2),fun p3 hp3=>?_⟩
   have s3:=ae hp3 (.tup lvV)
   refine⟨p3,lvV,rfl,.inr (SqT.of ad),rfl,lP,_,rfl,aO (fun _=>?_) (fun c=>absurd (by decide +kernel) c)⟩
   exact⟨(sz 0),fun p4 hp4=>q _ p4 [] (s3.trans (ae hp4 _)) ad .nil⟩
  ·obtain⟨z,r,e1,e2,e3,e4⟩:=wP hf hc fun a b e=>hl ⟨a,b,e⟩
   rw [e1] at hp
   refine⟨_,rfl,p,_,_,.str z,rfl,rfl,SqT.of hp,?_,_,rfl,(sz 2),fun p3 hp3=>?_⟩
   ·exact(cm (j:=0) rfl:atI (V.str z::(r++xs)) ((0:Nat):Int)=_)
   have s3:=ae hp3 (.tup lvV)
   refine⟨p3,lvV,rfl,.inr (SqT.of ad),rfl,lP,_,rfl,aO (fun c=>absurd c (Cs e2)) (fun _=>?_)⟩
   refine⟨_,rfl,rfl,_,rfl,aO (fun c=>absurd c (i4 e3)) (fun _=>?_)⟩
   refine⟨_,rfl,_,rfl,pA,ahs,z,_,rfl,hA,rfl,e4,_,rfl,p,_,rfl,SqT.of (s3 _ _ hp),ba (by omega) (by simp),fun p5 hp5=>?_⟩
   have e5:dc (V.str z::r++xs) (some ((r.length+1:Nat):Int)) none=xs:=by
    rw [dm]
    simp
   have h5:∀Hq:Hp,(upd Hq p5 (.tup (dc (V.str z::r++xs) (some ((r.length+1:Nat):Int)) none))) p5=some (.tup xs):=fun Hq=>by rw [ad,e5]
   exact q _ p5 xs (s3.trans (ae hp5 _)) (h5 _) (hxs.same (s3.trans (ae hp5 _)))
theorem ug:ax ["expression","form"] ["expression"] (ah kJ):=mkS
theorem xK{f fn:Addr}{fd fdn:FuncData} (F:Fun K "words_ahead" "words_ahead" kJ f fd)
  (GN:aV P w K mg base CX0 1 fn fdn ["part","name"] iO) (bN:aX K fdn ["part","name"] []) (kN:W.keepIn K (.ref fn)=true) (mN:mg "near_or_far_word"=some (.ref fn)) (ms:mg "str"=none):aV P w K mg base CX0 2 f fd ["expression"] uU:=by
 refine F.k0 ug fun cdv A q0 s H vs Q E hr h=>?_
 obtain⟨x,fm,es,rfl,hx,hf,q⟩:=h
 refine⟨_,af (aS (i:=1) ug.nd (ix0 au (pv 0) ag))
  (af (aF (am aZ (pv 1) ak (av _)) (aj (ao (aE (aa ak (aa (aL di rfl ms cb (aa (ix0 au (pv 0) ag) ac)) (aa (aL di rfl ms cb (aa (ix0 au (pv 0) ag) ac)) ac)))))) ar)
  (af (aF (am aZ (pv 1) ak (av _)) (aj (ao (aE (aa (ix0 au (pv 0) ag) (aa (aL di rfl ms cb (aa (ix0 au (pv 0) ag) ac)) ac))))) ar)
  (af (aF (am aZ (pv 1) ak (av _)) (aj (ao (aE (aa (ix0 au (pv 0) ag) ac)))) ar)
  (af (aF (am aZ (pv 1) ak (av _)) (aj (ao (aE (aa ak (aa (aL di rfl ms cb (aa (ix0 au (pv 0) ag) ac)) ac))))) ar)
  (af (aF (am aZ (pv 1) ak (av _)) (aj (ao (aE (aa ak (aa (ix0 au (pv 0) ag) ac))))) ar)
  (af (aF (am aZ (pv 1) ak (av _)) (aj (ao (aE (aa (ai GN hr rfl mN kN bN .nil aC (aa (ix0 au (pv 0) ag) (aa (ix0 au (pv 0) ag) ac))) ac)))) ar)
  (aj (ao (aE (aa (pv 1) ac)))))))))),?_⟩
 have at0:∀(v:V) (r:List V),atI (v::r) 0=some v:=fun v r=>(cm (j:=0) rfl:atI (v::r) ((0:Nat):Int)=_)
 have at1:∀(v u:V) (r:List V),atI (v::u::r) 1=some u:=fun v u r=>(cm (j:=1) rfl:atI (v::u::r) ((1:Nat):Int)=_)
 have at2:∀(v u t:V) (r:List V),atI (v::u::t::r) 2=some t:=fun v u t r=>(cm (j:=2) rfl:atI (v::u::t::r) ((2:Nat):Int)=_)
 cases hx with
 |@call p p2 a t xs _ hp hp2 hxs =>
  obtain⟨_,h1,h2⟩:=hf
  refine⟨_,rfl,p,_,_,.str "call",rfl,rfl,SqT.of hp,rfl,?_⟩
  refine⟨_,rfl,rfl,_,rfl,aO (fun c=>nK0 c) (fun _=>?_)⟩
  refine⟨_,rfl,rfl,_,rfl,aO (fun c=>nK0 c) (fun _=>?_)⟩
  refine⟨_,rfl,rfl,_,rfl,aO (fun c=>nK0 c) (fun _=>?_)⟩
  refine⟨_,rfl,rfl,_,rfl,aO (fun c=>nK0 c) (fun _=>?_)⟩
  refine⟨_,rfl,rfl,_,rfl,aO (fun c=>nK0 c) (fun _=>?_)⟩
  refine⟨_,rfl,rfl,_,rfl,aO (fun _=>?_) (fun c=>absurd (by decide +kernel) c)⟩
  have l1:a.length<=1000:=by
   rcases h2 with e|e
   ·rw [e];decide +kernel
   ·have:=(bQ e).2.1;omega
  have l2:t.length<=1000:=by have:=(bQ h1).2.1;omega
  exact⟨_,rfl,p,_,_,.str a,rfl,rfl,SqT.of hp,rfl,_,rfl,p,_,_,.str t,rfl,rfl,SqT.of hp,rfl,a,t,rfl,l1,l2,(sz 1),fun p3 hp3=>q _ _ (ae hp3 _) ad⟩
 |@node p _ xs _ hc hp hxs =>
  cases fm with
  |lit v b =>
   obtain⟨_,h1,h2⟩:=hf
   refine⟨_,rfl,p,_,_,.str "lit",rfl,rfl,SqT.of hp,at0 _ _,?_⟩
   refine⟨_,rfl,rfl,_,rfl,aO (fun _=>?_) (fun c=>absurd (by decide +kernel) c)⟩
   exact⟨_,rfl,p,_,_,.int v,rfl,rfl,SqT.of hp,at1 _ _ _,v,rfl,fU (Nat.le_trans (Nat.le_of_lt h1) h2),_,rfl,p,_,_,.int b,rfl,rfl,SqT.of hp,at2 _ _ _ _,b,rfl,fU h2,(sz 3),fun p3 hp3=>q _ _ (ae hp3 _) ad⟩
  |op o b =>
   obtain⟨_,h1,_,h2⟩:=hf
   refine⟨_,rfl,p,_,_,.str "op",rfl,rfl,SqT.of hp,at0 _ _,?_⟩
   refine⟨_,rfl,rfl,_,rfl,aO (fun c=>nK0 c) (fun _=>?_)⟩
   refine⟨_,rfl,rfl,_,rfl,aO (fun _=>?_) (fun c=>absurd (by decide +kernel) c)⟩
   exact⟨_,rfl,p,_,_,.str o,rfl,rfl,SqT.of hp,at1 _ _ _,_,rfl,p,_,_,.int b,rfl,rfl,SqT.of hp,at2 _ _ _ _,b,rfl,fU h2,(sz 2),fun p3 hp3=>q _ _ (ae hp3 _) ad⟩
  |test o =>
   refine⟨_,rfl,p,_,_,.str "test",rfl,rfl,SqT.of hp,at0 _ _,?_⟩
   refine⟨_,rfl,rfl,_,rfl,aO (fun c=>nK0 c) (fun _=>?_)⟩
   refine⟨_,rfl,rfl,_,rfl,aO (fun c=>nK0 c) (fun _=>?_)⟩
   refine⟨_,rfl,rfl,_,rfl,aO (fun _=>?_) (fun c=>absurd (by decide +kernel) c)⟩
   exact⟨_,rfl,p,_,_,.str o,rfl,rfl,SqT.of hp,at1 _ _ _,(sz 1),fun p3 hp3=>q _ _ (ae hp3 _) ad⟩
  |as_ b =>
   obtain⟨_,_,h2⟩:=hf
   refine⟨_,rfl,p,_,_,.str "as",rfl,rfl,SqT.of hp,at0 _ _,?_⟩
   refine⟨_,rfl,rfl,_,rfl,aO (fun c=>nK0 c) (fun _=>?_)⟩
   refine⟨_,rfl,rfl,_,rfl,aO (fun c=>nK0 c) (fun _=>?_)⟩
   refine⟨_,rfl,rfl,_,rfl,aO (fun c=>nK0 c) (fun _=>?_)⟩
   refine⟨_,rfl,rfl,_,rfl,aO (fun _=>?_) (fun c=>absurd (by decide +kernel) c)⟩
   exact⟨_,rfl,p,_,_,.int b,rfl,rfl,SqT.of hp,at1 _ _ _,b,rfl,fU h2,(sz 2),fun p3 hp3=>q _ _ (ae hp3 _) ad⟩
  |let_ z =>
   refine⟨_,rfl,p,_,_,.str "let",rfl,rfl,SqT.of hp,at0 _ _,?_⟩
   refine⟨_,rfl,rfl,_,rfl,aO (fun c=>nK0 c) (fun _=>?_)⟩
   refine⟨_,rfl,rfl,_,rfl,aO (fun c=>nK0 c) (fun _=>?_)⟩
   refine⟨_,rfl,rfl,_,rfl,aO (fun c=>nK0 c) (fun _=>?_)⟩
   refine⟨_,rfl,rfl,_,rfl,aO (fun c=>nK0 c) (fun _=>?_)⟩
   refine⟨_,rfl,rfl,_,rfl,aO (fun _=>?_) (fun c=>absurd (by decide +kernel) c)⟩
   exact⟨_,rfl,p,_,_,.str z,rfl,rfl,SqT.of hp,at1 _ _ _,(sz 2),fun p3 hp3=>q _ _ (ae hp3 _) ad⟩
  |br z =>
   have hz:z≠"lit"/\z≠"op"/\z≠"test"/\z≠"as"/\z≠"let"/\z≠"call":=by
    rcases hf with ⟨rfl,_⟩|⟨rfl,_⟩|⟨rfl,_⟩|⟨rfl,_⟩<;>decide +kernel
   obtain⟨z1,z2,z3,z4,z5,z6⟩:=hz
   refine⟨_,rfl,p,_,_,.str z,rfl,rfl,SqT.of hp,at0 _ _,?_⟩
   refine⟨_,rfl,rfl,_,rfl,aO (fun c=>absurd c (i4 z1)) (fun _=>?_)⟩
   refine⟨_,rfl,rfl,_,rfl,aO (fun c=>absurd c (i4 z2)) (fun _=>?_)⟩
   refine⟨_,rfl,rfl,_,rfl,aO (fun c=>absurd c (i4 z3)) (fun _=>?_)⟩
   refine⟨_,rfl,rfl,_,rfl,aO (fun c=>absurd c (i4 z4)) (fun _=>?_)⟩
   refine⟨_,rfl,rfl,_,rfl,aO (fun c=>absurd c (i4 z5)) (fun _=>?_)⟩
   refine⟨_,rfl,rfl,_,rfl,aO (fun c=>absurd c (i4 z6)) (fun _=>?_)⟩
   exact⟨_,rfl,(sz 1),fun p3 hp3=>q _ _ (ae hp3 _) ad⟩
  |call a b=>cases hc
theorem lu:ax ["expression","trees","inner"] ["expression"] (ah iH):=mkS
theorem q8{H:Hp}:∀ws:List Str,aJ K H (ws.map V.str) (ws.map Tr.w)
 |[]=>.nil
 |w::ws=>.cons (.w w) (q8 ws)
theorem nH{f fn fi:Addr}{fd fdn fdi:FuncData} (F:Fun K "expression_tree" "expression_tree" iH f fd) (bF:aX K fd ["expression"] []) (kF:W.keepIn K (.ref f)=true) (mF:mg "expression_tree"=some (.ref f))
  (GN:aV P w K mg base CX0 2 fn fdn ["expression"] uU) (bN:aX K fdn ["expression"] []) (kN:W.keepIn K (.ref fn)=true) (mN:mg "words_ahead"=some (.ref fn))
  (GI:aV P w K mg base CX0 1 fi fdi ["expression"] qw) (bI:aX K fdi ["expression"] []) (kI:W.keepIn K (.ref fi)=true) (mI:mg "within"=some (.ref fi))
  (ml:mg "list"=none) (mt:mg "tuple"=none):∀n,aV P w K mg base CX0 (n+2) f fd ["expression"] (ri K n)
 |0=>⟨fun vs H Q E h=>by obtain⟨x,k,rfl,_⟩:=h;rfl,fun A q0 s H args us vs Q E _ _ _ _ h=>by
   obtain⟨x,k,_,_,_,hd,_⟩:=h
   omega⟩
 |n+1=>by
  have IH:=nH F bF kF mF GN bN kN mN GI bI kI mI ml mt n
  refine F.k0 lu fun cdv A q0 s H vs Q E hr h=>?_
  obtain⟨x,k,rfl,hx,hk,hd,q⟩:=h
  have hr1:bq 1 _:=hr.mono (by omega)
  have hr2:bq 2 _:=hr.mono (by omega)
  refine⟨_,af (aF (am aZ (ix0 au (pv 0) ag) ak (av _)) (aj (ao (ix0 au (pv 0) ag))) ar)
   (af (aS (i:=1) lu.nd (aL nF rfl ml yk (aa (ai GN hr2 rfl mN kN bN .nil aC (aa (pv 0) ac)) ac)))
   (af (fg PassesOwn.never rfl (cV (ai GI hr1 rfl mI kI bI .nil aC (aa (pv 0) ac))) (cU (i:=2) lu.nd rfl (Or.inl rfl)) (aj (aU (eU PySem.F.plainAttrs_list PySem.F.slot_list_append PySem.F.type_list_append bZ (pv 1) (aa (ai IH hr rfl mF kF bF .nil aC (aa (pv 2) ac)) ac)))))
   (aj (ao (aL aI rfl mt aR (aa (pv 1) ac)))))),?_⟩
  cases k with
  |var z =>
   cases hx with
   |@var p _ h =>
    exact⟨_,rfl,p,_,_,.str "var",rfl,rfl,SqT.of h,rfl,rfl,_,rfl,aO (fun _=>⟨_,rfl,p,_,_,.str z,rfl,rfl,SqT.of h,rfl,q _ _ sr0 (.w _)⟩) (fun c=>absurd (by decide +kernel) c)⟩
  |node fm es =>
   obtain⟨hf,hes⟩:=hk
   obtain⟨p,z,r,rfl,hp,hz⟩:=u9 hx hf
   have h4:=zY hf
   have hd':∀e∈es,e.dp < n:=fun e he=>by
    have h1:1+yV es < n+1:=hd
    have h2:=qW he
    omega
   refine⟨_,rfl,p,_,_,.str z,rfl,rfl,SqT.of hp,(cm (j:=0) rfl:atI (V.str z::r) ((0:Nat):Int)=_),rfl,_,rfl,aO (fun c=>absurd c (i4 hz)) (fun _=>?_)⟩
   refine⟨_,rfl,.ref p,fm,es,rfl,hx,hf,fun H1 r1 s1 hr1'=>⟨r1,_,rfl,.inr (SqT.of hr1'),fun l hl=>?_⟩⟩
   have s2:=ae hl (.lst (fm.words.map V.str))
   refine⟨_,rfl,.ref p,fm,es,rfl,hx.same (s1.trans s2),hf,fun H3 r3 xs s3 hr3 hxs=>⟨r3,rfl,⟨_,SqT.of hr3⟩,?_⟩⟩
   have hln:H l=none:=aM.free s1 hl
   have xl:=hxs.length
   have wl:=tK fm
   refine o7 (K:=K) (xs:=xs) (fun i σ H4=>∃(ts:List V) (v2:Option V),σ=[some (.ref p),some (.ref l),v2]/\aM H H4/\(∀a us,H3 a=some (.tup us)->H4 a=some (.tup us))/\H4 l=some (.lst ts)/\aJ K H4 ts (fm.words.map Tr.w++trs (es.take i)))
    ⟨_,none,rfl,s1.trans (s2.trans s3),(fun _ _ h=>h),s3 _ _ ad,(by show aJ K H3 _ (_++[]);rw [List.append_nil];exact q8 _)⟩ ?_ ?_ ?_
   ·rintro i σ H4 _ ⟨ts,v2,rfl,_,k4,_⟩
    exact SqT.of (k4 _ _ hr3)
   ·rintro i y σ H4 hy ⟨ts,v2,rfl,s4,k4,hl4,hts⟩
    obtain⟨e,he,hye⟩:=hxs.get hy
    have hm:=List.mem_of_getElem? he
    have tl:=hts.length
    rw [la0,lm0,o9,List.length_take] at tl
    refine⟨_,rfl,.inl ⟨rfl,_,SqL.of hl4⟩,_,rfl,y,e,rfl,hye.keep k4,rM hes hm,hd' e hm,fun H5 v5 s5 hv5=>?_⟩
    have hl5:=s5 _ _ hl4
    have kp:∀a us,H5 a=some (.tup us)->upd H5 l (.lst (ts++[v5])) a=some (.tup us):=fun a us h=>d9 hl5 h
    refine⟨l,_,_,rfl,rfl,hl5,mid (by omega),ts++[v5],_,rfl,j7 (s4.trans s5) hln,fun a us h=>kp a us (s5 _ _ (k4 a us h)),ad,?_⟩
    rw [List.take_add_one,he]
    show aJ K _ _ (_++trs (es.take i++[e]))
    rw [ui,<-List.append_assoc]
    exact((hts.same s5).keep kp).append (.cons (hv5.keep kp) .nil)
   ·rintro σ H4 ⟨ts,v2,rfl,s4,k4,hl4,hts⟩
    rw [xl,List.take_length] at hts
    exact⟨_,rfl,l,ts,rfl,.inl ⟨SqL.of hl4,fun p5 hp5=>q _ _ (s4.trans (ae hp5 _)) (.n ad (hts.same (ae hp5 _)))⟩⟩
theorem vM:∀k:Kd,k.dp<=k.tr.dep
 |.num _=>Nat.zero_le _
 |.name _ _=>Nat.zero_le _
 |.pair a b=>by
  have h1:=vM a
  have h2:=vM b
  show 1+max a.dp b.dp<=1+max 0 (max a.tr.dep (max b.tr.dep 0))
  omega
inductive gx(K:W.Frag)(n:Nat):Sp|mk{vs H Q E}(x:V)(k:Kd)(_:vs=[x])(_:j9 K H x k)(_:k.ok)(_:k.dp < n)(_:∀H' v,aM H H'->bz K H' v k.tr->Q v H'):gx K n vs H Q E
theorem sw:ax ["kind"] ["kind"] (ah eZ):=mkS
theorem jO{f fn:Addr}{fd fdn:FuncData} (F:Fun K "kind_tree" "kind_tree" eZ f fd) (bF:aX K fd ["kind"] []) (kF:W.keepIn K (.ref f)=true) (mF:mg "kind_tree"=some (.ref f))
  (GN:aV P w K mg base CX0 1 fn fdn ["part","name"] iO) (bN:aX K fdn ["part","name"] []) (kN:W.keepIn K (.ref fn)=true) (mN:mg "near_or_far_word"=some (.ref fn)) (ms:mg "str"=none):∀n,aV P w K mg base CX0 (n+1) f fd ["kind"] (gx K n)
 |0=>⟨fun vs H Q E h=>by obtain⟨x,k,rfl,_⟩:=h;rfl,fun A q0 s H args us vs Q E _ _ _ _ h=>by
   obtain⟨x,k,_,_,_,hd,_⟩:=h
   omega⟩
 |n+1=>by
  have IH:=jO F bF kF mF GN bN kN mN ms n
  refine F.k0 sw fun cdv A q0 s H vs Q E hr h=>?_
  obtain⟨x,k,rfl,hx,hk,hd,q⟩:=h
  have hr1:bq 1 _:=hr.mono (by omega)
  refine⟨_,af (aF (am aZ (ix0 au (pv 0) ag) ak (av _)) (aj (ao (aE (aa ak (aa (aL di rfl ms cb (aa (ix0 au (pv 0) ag) ac)) ac))))) ar)
   (af (aF (am aZ (ix0 au (pv 0) ag) ak (av _)) (aj (ao (aE (aa ak (aa (ai IH hr rfl mF kF bF .nil aC (aa (ix0 au (pv 0) ag) ac)) (aa (ai IH hr rfl mF kF bF .nil aC (aa (ix0 au (pv 0) ag) ac)) ac)))))) ar)
   (aj (ao (ai GN hr1 rfl mN kN bN .nil aC (aa (ix0 au (pv 0) ag) (aa (ix0 au (pv 0) ag) ac)))))),?_⟩
  cases hx with
  |@num p m h =>
   refine⟨_,rfl,p,_,_,.str "num",rfl,rfl,SqT.of h,rfl,rfl,_,rfl,aO (fun _=>?_) (fun c=>absurd (by decide +kernel) c)⟩
   have hm:1<=m/\m<=1000000000000000000:=hk
   refine⟨_,rfl,p,_,_,.int m,rfl,rfl,SqT.of h,rfl,m,rfl,?_,(sz 2),fun p2 hp2=>?_⟩
   ·exact(Nat.log2_lt (by omega)).mpr (Nat.lt_of_le_of_lt (show(m:Int).natAbs<=1000000000000000000 by omega) (by decide))
   ·exact q _ _ (ae hp2 _) (.n ad (.cons (.w "num") (.cons (.w _) .nil)))
  |@name p a t h =>
   have hk':aA t=true/\(a=""\/aA a=true):=hk
   refine⟨_,rfl,p,_,_,.str "name",rfl,rfl,SqT.of h,rfl,rfl,_,rfl,aO (fun c=>nK0 c) (fun _=>?_)⟩
   refine⟨_,rfl,p,_,_,.str "name",rfl,rfl,SqT.of h,rfl,rfl,_,rfl,aO (fun c=>nK0 c) (fun _=>?_)⟩
   have l1:a.length<=1000:=by
    rcases hk'.2 with e|e
    ·rw [e];decide +kernel
    ·have:=(bQ e).2.1;omega
   have l2:t.length<=1000:=by have:=(bQ hk'.1).2.1;omega
   exact⟨_,rfl,p,_,_,.str a,rfl,rfl,SqT.of h,rfl,_,rfl,p,_,_,.str t,rfl,rfl,SqT.of h,rfl,a,t,rfl,l1,l2,q _ _ sr0 (.w _)⟩
  |@pair p x1 y1 a b h ha hb =>
   have hd':1+max a.dp b.dp < n+1:=hd
   refine⟨_,rfl,p,_,_,.str "pair",rfl,rfl,SqT.of h,rfl,rfl,_,rfl,aO (fun c=>nK0 c) (fun _=>?_)⟩
   refine⟨_,rfl,p,_,_,.str "pair",rfl,rfl,SqT.of h,rfl,rfl,_,rfl,aO (fun _=>?_) (fun c=>absurd (by decide +kernel) c)⟩
   refine⟨_,rfl,p,_,_,x1,rfl,rfl,SqT.of h,rfl,x1,a,rfl,ha,hk.1,by omega,fun H2 v2 s2 k2=>?_⟩
   refine⟨_,rfl,p,_,_,y1,rfl,rfl,SqT.of (s2 _ _ h),rfl,y1,b,rfl,hb.same s2,hk.2,by omega,fun H3 v3 s3 k3=>⟨(sz 3),fun p4 hp4=>?_⟩⟩
   have s4:=ae hp4 (.tup [.str "pair",v2,v3])
   exact q _ _ (s2.trans (s3.trans s4)) (.n ad (.cons (.w "pair") (.cons (k2.same (s3.trans s4)) (.cons (k3.same s4) .nil))))
inductive Dd where
 |s (x:Str)
 |i (n:Int)
 |o
 |t (ds:List Dd)
mutual
inductive DAt (H:Hp):V->Dd->Prop
 |s (x:Str):DAt H (.str x) (.s x)
 |i (n:Int):DAt H (.int n) (.i n)
 |o:DAt H .non .o
 |t {a:Addr} {xs:List V} {ds:List Dd}:H a=some (.tup xs)->eW H xs ds->DAt H (.ref a) (.t ds)
inductive eW (H:Hp):List V->List Dd->Prop
 |nil:eW H [] []
 |cons {x:V} {d:Dd} {xs:List V} {ds:List Dd}:DAt H x d->eW H xs ds->eW H (x::xs) (d::ds)
end
mutual
theorem DAt.keep{H H':Hp}(k:∀a xs,H a=some (.tup xs)->H' a=some (.tup xs)):∀{x:V} {d:Dd},DAt H x d->DAt H' x d
 |_,_,.s x=>.s x
 |_,_,.i n=>.i n
 |_,_,.o=>.o
 |_,_,.t h r=>.t (k _ _ h) (eW.keep k r)
theorem eW.keep{H H':Hp}(k:∀a xs,H a=some (.tup xs)->H' a=some (.tup xs)):∀{xs:List V} {ds:List Dd},eW H xs ds->eW H' xs ds
 |_,_,.nil=>.nil
 |_,_,.cons h r=>.cons (DAt.keep k h) (eW.keep k r)
end
theorem DAt.same{H H':Hp}(s:aM H H'){x:V}{d:Dd}(h:DAt H x d):DAt H' x d:=h.keep fun _ _ q=>s _ _ q
theorem eW.same{H H':Hp}(s:aM H H'){xs:List V}{ds:List Dd}(h:eW H xs ds):eW H' xs ds:=h.keep fun _ _ q=>s _ _ q
theorem eW.append{H:Hp}:∀{xs ys:List V} {es fs:List Dd},eW H xs es->eW H ys fs->eW H (xs++ys) (es++fs)
 |_,_,_,_,.nil,h=>h
 |_,_,_,_,.cons a r,h=>.cons a (r.append h)
theorem eW.length{H:Hp}:∀{xs:List V} {es:List Dd},eW H xs es->xs.length=es.length
 |_,_,.nil=>rfl
 |_,_,.cons _ r=>congrArg (·+1) r.length
theorem eW.get{H:Hp}:∀{xs:List V} {es:List Dd},eW H xs es->∀{i:Nat} {x:V},xs[i]?=some x->∃e,es[i]?=some e/\DAt H x e
 |_,_,.cons h r,0,x,hx=>by
  cases hx
  exact⟨_,rfl,h⟩
 |_,_,.cons h r,i+1,x,hx=>r.get (i:=i) hx
theorem eQ{K:W.Frag}{H:Hp}:∀{xs:List V} {ts:List Tr},xs.length=ts.length->(∀(i:Nat) (x:V) (t:Tr),xs[i]?=some x->ts[i]?=some t->bz K H x t)->aJ K H xs ts
 |[],[],_,_=>.nil
 |x::xs,d::ds,hl,h=>.cons (h 0 x d rfl rfl) (eQ (Nat.succ.inj hl) fun i y e hy he=>h (i+1) y e hy he)
 |[],_::_,hl,_=>by cases hl
 |_::_,[],hl,_=>by cases hl
def Kd.d:Kd->Dd
 |.num n=>.t [.s "num",.i n]
 |.name q t=>.t [.s "name",.s q,.s t]
 |.pair a b=>.t [.s "pair",a.d,b.d]
def fmD:Fm->List Dd->Dd
 |.lit v n,ds=>.t (.s "lit"::.i v::.i n::ds)
 |.op o n,ds=>.t (.s "op"::.s o::.i n::ds)
 |.test o,ds=>.t (.s "test"::.s o::ds)
 |.as_ n,ds=>.t (.s "as"::.i n::ds)
 |.let_ s,ds=>.t (.s "let"::.s s::ds)
 |.br h,ds=>.t (.s h::ds)
 |.call q t,ds=>.t [.s "call",.s q,.s t,.t ds]
mutual
def Ex.d:Ex->Dd
 |.var s=>.t [.s "var",.s s]
 |.node f es=>fmD f (B7 es)
def B7:List Ex->List Dd
 |[]=>[]
 |e::es=>e.d::B7 es
end
theorem yF{K:W.Frag}{H:Hp}:∀{k:Kd} {v:V},j9 K H v k->DAt H v k.d
 |_,_,.num h=>.t h (.cons (.s _) (.cons (.i _) .nil))
 |_,_,.name h=>.t h (.cons (.s _) (.cons (.s _) (.cons (.s _) .nil)))
 |_,_,.pair h a b=>.t h (.cons (.s _) (.cons (yF a) (.cons (yF b) .nil)))
theorem uI{H:Hp}{v:V}{z:Str}{ds:List Dd}:DAt H v (.t (.s z::ds))->∃a r,v=.ref a/\H a=some (.tup (.str z::r))/\eW H r ds:=by
 intro h;cases h with|t h q=>cases q with|cons a r=>cases a;exact⟨_,_,rfl,h,r⟩
theorem CW{H:Hp}{xs:List V}{d:Dd}{ds:List Dd}:eW H xs (d::ds)->∃x r,xs=x::r/\DAt H x d/\eW H r ds
 |.cons a b=>⟨_,_,rfl,a,b⟩
theorem csv{H:Hp}{xs:List V}{z:Str}{ds:List Dd}:eW H xs (.s z::ds)->∃r,xs=.str z::r/\eW H r ds:=by
 intro h;cases h with|cons a b=>cases a;exact⟨_,rfl,b⟩
theorem civ{H:Hp}{xs:List V}{n:Int}{ds:List Dd}:eW H xs (.i n::ds)->∃r,xs=.int n::r/\eW H r ds:=by
 intro h;cases h with|cons a b=>cases a;exact⟨_,rfl,b⟩
theorem niv{H:Hp}{xs:List V}:eW H xs []->xs=[]
 |.nil=>rfl
theorem zh{K:W.Frag}{H:Hp}:∀{k:Kd} {v:V},DAt H v k.d->j9 K H v k
 |.num n,_,h=>by
  obtain⟨a1,r1,rfl,h1,q1⟩:=uI h
  obtain⟨r2,rfl,q2⟩:=civ q1
  cases niv q2
  exact .num h1
 |.name q t,_,h=>by
  obtain⟨a1,r1,rfl,h1,q1⟩:=uI h
  obtain⟨r2,rfl,q2⟩:=csv q1
  obtain⟨r3,rfl,q3⟩:=csv q2
  cases niv q3
  exact .name h1
 |.pair a b,_,h=>by
  obtain⟨a1,r1,rfl,h1,q1⟩:=uI h
  obtain⟨x,r2,rfl,e1,q2⟩:=CW q1
  obtain⟨y,r3,rfl,e2,q3⟩:=CW q2
  cases niv q3
  exact .pair h1 (zh e1) (zh e2)
mutual
theorem Dz{H:Hp}:∀{e:Ex} {v:V},j8 H v e->DAt H v e.d
 |.var s,_,.var h=>.t h (.cons (.s _) (.cons (.s _) .nil))
 |.node f es,_,.node c h r=>by
  cases f with
  |lit v n=>exact .t h (.cons (.s _) (.cons (.i _) (.cons (.i _) (oW r))))
  |op v n=>exact .t h (.cons (.s _) (.cons (.s _) (.cons (.i _) (oW r))))
  |test v=>exact .t h (.cons (.s _) (.cons (.s _) (oW r)))
  |as_ v=>exact .t h (.cons (.s _) (.cons (.i _) (oW r)))
  |let_ v=>exact .t h (.cons (.s _) (.cons (.s _) (oW r)))
  |br v=>exact .t h (.cons (.s _) (oW r))
  |call q t=>cases c
 |.node (.call q t) es,_,.call h h2 r=>.t h (.cons (.s _) (.cons (.s _) (.cons (.s _) (.cons (.t h2 (oW r)) .nil))))
theorem oW{H:Hp}:∀{es:List Ex} {xs:List V},dB H xs es->eW H xs (B7 es)
 |_,_,.nil=>.nil
 |_,_,.cons h r=>.cons (Dz h) (oW r)
end
mutual
theorem Dj{H:Hp}:∀{e:Ex} {v:V},DAt H v e.d->j8 H v e
 |.var s,_,h=>by
  obtain⟨a1,r1,rfl,h1,q1⟩:=uI h
  obtain⟨r2,rfl,q2⟩:=csv q1
  cases niv q2
  exact .var h1
 |.node (.lit v n) es,_,h=>by
  obtain⟨a1,r1,rfl,h1,q1⟩:=uI h
  obtain⟨r2,rfl,q2⟩:=civ q1
  obtain⟨r3,rfl,q3⟩:=civ q2
  exact .node rfl h1 (i5 q3)
 |.node (.op v n) es,_,h=>by
  obtain⟨a1,r1,rfl,h1,q1⟩:=uI h
  obtain⟨r2,rfl,q2⟩:=csv q1
  obtain⟨r3,rfl,q3⟩:=civ q2
  exact .node rfl h1 (i5 q3)
 |.node (.test v) es,_,h=>by
  obtain⟨a1,r1,rfl,h1,q1⟩:=uI h
  obtain⟨r2,rfl,q2⟩:=csv q1
  exact .node rfl h1 (i5 q2)
 |.node (.as_ v) es,_,h=>by
  obtain⟨a1,r1,rfl,h1,q1⟩:=uI h
  obtain⟨r2,rfl,q2⟩:=civ q1
  exact .node rfl h1 (i5 q2)
 |.node (.let_ v) es,_,h=>by
  obtain⟨a1,r1,rfl,h1,q1⟩:=uI h
  obtain⟨r2,rfl,q2⟩:=csv q1
  exact .node rfl h1 (i5 q2)
 |.node (.br v) es,_,h=>by
  obtain⟨a1,r1,rfl,h1,q1⟩:=uI h
  exact .node rfl h1 (i5 q1)
 |.node (.call q t) es,_,h=>by
  obtain⟨a1,r1,rfl,h1,q1⟩:=uI h
  obtain⟨r2,rfl,q2⟩:=csv q1
  obtain⟨r3,rfl,q3⟩:=csv q2
  obtain⟨x,r4,rfl,e,q4⟩:=CW q3
  cases niv q4
  cases e with
  |t h2 r=>exact .call h1 h2 (i5 r)
theorem i5{H:Hp}:∀{es:List Ex} {xs:List V},eW H xs (B7 es)->dB H xs es
 |[],_,.nil=>.nil
 |e::es,_,.cons h r=>.cons (Dj h) (i5 r)
end
abbrev Row:=Str × Kd
def rwT(r:Row):Tr:=.n [.w r.1,r.2.tr]
def rwD(r:Row):Dd:=.t [.s r.1,r.2.d]
structure Rn where
 w:Str
 rows:List Row
def Rn.ts(r:Rn):List Tr:=.w r.w::r.rows.map rwT
def Rn.d(r:Rn):Dd:=.t [.s r.w,.t (r.rows.map rwD)]
def sF:Option Rn->Tr
 |none=>.w "bare"
 |some r=>.n r.ts
def nW:Option Rn->Dd
 |none=>.o
 |some r=>r.d
inductive FI where
 |hid (w:Str)
 |told (w:Str) (k:Kd)
 |fn (w:Str) (ks:List Kd) (k:Kd)
def FI.tr:FI->Tr
 |.hid w=>.n [.w "hid",.w w]
 |.told w k=>.n [.w "told",.w w,k.tr]
 |.fn w ks k=>.n [.w "fun",.w w,.n (ks.map Kd.tr),k.tr]
def FI.d:FI->Dd
 |.hid w=>.t [.s "hid",.s w]
 |.told w k=>.t [.s "told",.s w,k.d]
 |.fn w ks k=>.t [.s "fun",.s w,.t (ks.map Kd.d),k.d]
inductive PI where
 |kind (w:Str) (k:Kd)
 |opn (w:Str)
 |fn (w:Str) (rows:List Row) (k:Kd) (e:Ex)
def PI.tr:PI->Tr
 |.kind w k=>.n [.w "kind",.w w,k.tr]
 |.opn w=>.n [.w "open",.w w]
 |.fn w rs k e=>.n [.w "fun",.w w,.n (rs.map rwT),k.tr,e.tr]
def PI.d:PI->Dd
 |.kind w k=>.t [.s "kind",.s w,k.d]
 |.opn w=>.t [.s "open",.s w]
 |.fn w rs k e=>.t [.s "fun",.s w,.t (rs.map rwD),k.d,e.d]
abbrev Fo:=Str × Rn
def foT(f:Fo):Tr:=.n (.w f.1::f.2.ts)
def foD(f:Fo):Dd:=.t [.s f.1,f.2.d]
inductive Dc where
 |face (w:Str) (is:List FI)
 |part (w:Str) (s:Option Rn) (is:List PI)
 |maker (w:Str) (fs:List Fo) (s:Option Rn) (is:List PI)
 |made (w m:Str) (ps:List Str)
def Dc.tr:Dc->Tr
 |.face w is=>.n (.w "face"::.w w::is.map FI.tr)
 |.part w s is=>.n (.w "part"::.w w::sF s::is.map PI.tr)
 |.maker w fs s is=>.n (.w "maker"::.w w::.n (fs.map foT)::sF s::is.map PI.tr)
 |.made w m ps=>.n (.w "made"::.w w::.w m::ps.map Tr.w)
def Dc.d:Dc->Dd
 |.face w is=>.t [.s "face",.s w,.t (is.map FI.d)]
 |.part w s is=>.t [.s "part",.s w,nW s,.t (is.map PI.d)]
 |.maker w fs s is=>.t [.s "maker",.s w,.t (fs.map foD),nW s,.t (is.map PI.d)]
 |.made w m ps=>.t [.s "made",.s w,.s m,.t (ps.map Dd.s)]
def kSm(k:Kd):Prop:=k.ok/\k.dp < 31
def Dw(e:Ex):Prop:=e.ok/\e.dp < 31
def rH(rs:List Row):Prop:=rs.length<=400/\∀r∈rs,aA r.1=true/\kSm r.2
def Rn.ok(r:Rn):Prop:=aA r.w=true/\rH r.rows
def rP:Option Rn->Prop
 |none=>True
 |some r=>r.ok
def FI.ok:FI->Prop
 |.hid w=>aA w=true
 |.told w k=>aA w=true/\kSm k
 |.fn w ks k=>aA w=true/\(ks.length<=400/\∀k∈ks,kSm k)/\kSm k
def PI.ok:PI->Prop
 |.kind w k=>aA w=true/\kSm k
 |.opn w=>aA w=true
 |.fn w rs k e=>aA w=true/\rH rs/\kSm k/\Dw e
def Cg(f:Fo):Prop:=aA f.1=true/\f.2.ok
def Dc.ok:Dc->Prop
 |.face w is=>aA w=true/\is.length<=400/\∀i∈is,i.ok
 |.part w s is=>aA w=true/\rP s/\is.length<=400/\∀i∈is,i.ok
 |.maker w fs s is=>aA w=true/\(fs.length<=400/\∀f∈fs,Cg f)/\rP s/\is.length<=400/\∀i∈is,i.ok
 |.made w m ps=>aA w=true/\aA m=true/\(ps.length<=400/\∀p∈ps,aA p=true)
theorem kSm.dp{k:Kd}(h:kSm k):k.dp < 31:=h.2
theorem fv{K:W.Frag}{H:Hp}{p:Addr}{xs:List V}(R:Nat->Hp->V->Prop){n:Nat}{κ:List Nat}{g:TG}{te:TE}{σ:St}{Q:VK}
  (st:∀i H H' v,aM H H'->R i H v->R i H' v) (hp:H p=some (.tup xs)) (hx:xs.length<=1000)
  (turn:∀(i:Nat) (u:V) (H3:Hp) (N:V->Hp->Prop) (B:Hp->Prop),xs[i]?=some u->aM H H3->(∀v H4,aM H3 H4->R i H4 v->N v H4) ->
   g u (da n κ σ) H3 fun σ4 H4=>σ4.drop n=(da n κ σ).drop n/\j0 σ4 H4 fun b H5=>if b=true then te σ4 H5 N else B H5)
  (fin:∀ys H3 D,aM H H3->ys.length=xs.length->(∀(i:Nat) (v:V),ys[i]?=some v->R i H3 v)->H3 D=none->Q (.ref D) (upd H3 D (.lst ys))) :
  dX n κ g j0 te σ (Itt K p) H Q:=by
 refine cQ (J:=Itt K p) (xs:=xs) (fun i ys H3=>aM H H3/\ys.length=i/\∀(j:Nat) (v:V),ys[j]?=some v->R j H3 v) ⟨sr0,rfl,fun j v h=>nomatch h⟩ (de hx) ?_ ?_ ?_ ?_ ?_ ?_
 ·rintro i ys H3 ⟨_,hl,_⟩
  exact Nat.le_of_eq hl
 ·rintro i u ys H3 hu ⟨s3,_⟩
  exact⟨_,_,SqT.of (s3 _ _ hp),hu⟩
 ·rintro i ys u H3 H' hn ⟨s3,_⟩ hy
  exact⟨hy.1,hy.2 _ (SqT.of (s3 _ _ hp))⟩
 ·rintro ys H3 ⟨s3,_⟩
  exact⟨_,SqT.of (s3 _ _ hp),Nat.le_refl _⟩
 ·rintro i u ys H3 N hN hu ⟨s3,hl,hy⟩
  refine turn i u H3 (fun v H6=>N (ys++[v]) H6) (fun H5=>N ys H5) hu s3 fun v H4 s4 hv=>hN _ _ ⟨s3.trans s4,by rw [la0,hl];rfl,fun j v' hj=>?_⟩
  by_cases c:j < ys.length
  ·rw [List.getElem?_append_left c] at hj
   exact st _ _ _ _ s4 (hy j v' hj)
  ·rw [List.getElem?_append_right (Nat.le_of_not_lt c)] at hj
   have e:j - ys.length=0:=by
    have:=(List.getElem?_eq_some_iff.mp hj).1
    have h1:[v].length=1:=rfl
    omega
   rw [e] at hj
   cases hj
   have ej:j=i:=by omega
   rw [ej]
   exact hv
 ·rintro ys H3 D ⟨s3,hl,hy⟩ hD
  exact fin ys H3 D s3 hl hy hD
theorem tw{K:W.Frag}{H:Hp}{p:Addr}{xs:List V}(R:Nat->Hp->V->Prop){n:Nat}{κ:List Nat}{g:TG}{te:TE}{σ:St}{Q:VK}
  (st:∀i H H' v,aM H H'->R i H v->R i H' v) (hp:SqL K H p xs) (hx:xs.length<=1000)
  (turn:∀(i:Nat) (u:V) (H3:Hp) (N:V->Hp->Prop) (B:Hp->Prop),xs[i]?=some u->aM H H3->(∀v H4,aM H3 H4->R i H4 v->N v H4) ->
   g u (da n κ σ) H3 fun σ4 H4=>σ4.drop n=(da n κ σ).drop n/\j0 σ4 H4 fun b H5=>if b=true then te σ4 H5 N else B H5)
  (fin:∀ys H3 D,aM H H3->ys.length=xs.length->(∀(i:Nat) (v:V),ys[i]?=some v->R i H3 v)->H3 D=none->Q (.ref D) (upd H3 D (.lst ys))) :
  dX n κ g j0 te σ (Itl K p) H Q:=by
 refine cQ (J:=Itl K p) (xs:=xs) (fun i ys H3=>aM H H3/\ys.length=i/\∀(j:Nat) (v:V),ys[j]?=some v->R j H3 v) ⟨sr0,rfl,fun j v h=>nomatch h⟩ (de hx) ?_ ?_ ?_ ?_ ?_ ?_
 ·rintro i ys H3 ⟨_,hl,_⟩
  exact Nat.le_of_eq hl
 ·rintro i u ys H3 hu ⟨s3,_⟩
  exact⟨_,_,s3.seq hp,hu⟩
 ·rintro i ys u H3 H' hn ⟨s3,_⟩ hy
  exact⟨hy.1,hy.2 _ (s3.seq hp)⟩
 ·rintro ys H3 ⟨s3,_⟩
  exact⟨_,s3.seq hp,Nat.le_refl _⟩
 ·rintro i u ys H3 N hN hu ⟨s3,hl,hy⟩
  refine turn i u H3 (fun v H6=>N (ys++[v]) H6) (fun H5=>N ys H5) hu s3 fun v H4 s4 hv=>hN _ _ ⟨s3.trans s4,by rw [la0,hl];rfl,fun j v' hj=>?_⟩
  by_cases c:j < ys.length
  ·rw [List.getElem?_append_left c] at hj
   exact st _ _ _ _ s4 (hy j v' hj)
  ·rw [List.getElem?_append_right (Nat.le_of_not_lt c)] at hj
   have e:j - ys.length=0:=by
    have:=(List.getElem?_eq_some_iff.mp hj).1
    have h1:[v].length=1:=rfl
    omega
   rw [e] at hj
   cases hj
   have ej:j=i:=by omega
   rw [ej]
   exact hv
 ·rintro ys H3 D ⟨s3,hl,hy⟩ hD
  exact fin ys H3 D s3 hl hy hD
theorem sj{H:Hp}{m:Nat}(R:Nat->Hp->V->Prop){n:Nat}{κ:List Nat}{g:TG}{te:TE}{σ:St}{Q:VK}
  (st:∀i H H' v,aM H H'->R i H v->R i H' v) (hx:m<=1000)
  (turn:∀(i:Nat) (H3:Hp) (N:V->Hp->Prop) (B:Hp->Prop),i < m->aM H H3->(∀v H4,aM H3 H4->R i H4 v->N v H4) ->
   g (.int (0+(i:Int))) (da n κ σ) H3 fun σ4 H4=>σ4.drop n=(da n κ σ).drop n/\j0 σ4 H4 fun b H5=>if b=true then te σ4 H5 N else B H5)
  (fin:∀ys H3 D,aM H H3->ys.length=m->(∀(i:Nat) (v:V),ys[i]?=some v->R i H3 v)->H3 D=none->Q (.ref D) (upd H3 D (.lst ys))) :
  dX n κ g j0 te σ (Itr 0 m) H Q:=by
 refine cQ (J:=Itr 0 m) (xs:=jB 0 m) (fun i ys H3=>aM H H3/\ys.length=i/\∀(j:Nat) (v:V),ys[j]?=some v->R j H3 v) ⟨sr0,rfl,fun j v h=>nomatch h⟩ (by rw [gv];exact de hx) ?_ ?_ ?_ ?_ ?_ ?_
 ·rintro i ys H3 ⟨_,hl,_⟩
  exact Nat.le_of_eq hl
 ·rintro i x zs H3 hx _
  exact BA hx
 ·rintro i zs x H3 H' hi _ hy
  rw [gv] at hi
  exact xG hi hy
 ·rintro zs H3 _
  rw [gv]
  exact Nat.le_refl _
 ·rintro i u ys H3 N hN hu ⟨s3,hl,hy⟩
  obtain⟨hi9,rfl⟩:=iS.mp hu
  refine turn i H3 (fun v H6=>N (ys++[v]) H6) (fun H5=>N ys H5) hi9 s3 fun v H4 s4 hv=>hN _ _ ⟨s3.trans s4,by rw [la0,hl];rfl,fun j v' hj=>?_⟩
  by_cases c:j < ys.length
  ·rw [List.getElem?_append_left c] at hj
   exact st _ _ _ _ s4 (hy j v' hj)
  ·rw [List.getElem?_append_right (Nat.le_of_not_lt c)] at hj
   have e:j - ys.length=0:=by
    have:=(List.getElem?_eq_some_iff.mp hj).1
    have h1:[v].length=1:=rfl
    omega
   rw [e] at hj
   cases hj
   have ej:j=i:=by omega
   rw [ej]
   exact hv
 ·rintro ys H3 D ⟨s3,hl,hy⟩ hD
  rw [gv] at hl
  exact fin ys H3 D s3 hl hy hD
theorem bz.node{K:W.Frag}{H:Hp}{x:V}{ts:List Tr}(h:bz K H x (.n ts)):∃a xs,x=.ref a/\H a=some (.tup xs)/\aJ K H xs ts:=by
 cases h with
 |n ha hs=>exact⟨_,_,rfl,ha,hs⟩
theorem bz.word{K:W.Frag}{H:Hp}{x:V}{s:Str}(h:bz K H x (.w s)):x=.str s:=by
 cases h
 rfl
theorem aJ.one{K:W.Frag}{H:Hp}{xs:List V}{t:Tr}{ts:List Tr}(h:aJ K H xs (t::ts)):∃x ys,xs=x::ys/\bz K H x t/\aJ K H ys ts:=by
 cases h with
 |cons a b=>exact⟨_,_,rfl,a,b⟩
theorem aJ.none{K:W.Frag}{H:Hp}{xs:List V}(h:aJ K H xs []):xs=[]:=by
 cases h
 rfl
theorem DAt.tup{H:Hp}{x:V}{ts:List Dd}(h:DAt H x (.t ts)):∃a xs,x=.ref a/\H a=some (.tup xs)/\eW H xs ts:=by
 cases h with
 |t ha hs=>exact⟨_,_,rfl,ha,hs⟩
theorem DAt.str{H:Hp}{x:V}{s:Str}(h:DAt H x (.s s)):x=.str s:=by
 cases h
 rfl
theorem DAt.none{H:Hp}{x:V}(h:DAt H x .o):x=.non:=by
 cases h
 rfl
theorem eW.one{H:Hp}{xs:List V}{t:Dd}{ts:List Dd}(h:eW H xs (t::ts)):∃x ys,xs=x::ys/\DAt H x t/\eW H ys ts:=by
 cases h with
 |cons a b=>exact⟨_,_,rfl,a,b⟩
theorem eW.none{H:Hp}{xs:List V}(h:eW H xs []):xs=[]:=by
 cases h
 rfl
theorem all_cons{α:Type}{a:α}{r:List α}{p:α->Prop}(ha:p a)(hr:∀y∈r,p y):∀y∈a::r,p y:=fun y hy=>by
 rcases mc0 hy with rfl|hy
 ·exact ha
 ·exact hr y hy
theorem ni{α:Type}{p:α->Prop}:∀y∈([]:List α),p y:=fun y hy=>nomatch hy
theorem iq{xs:List V}(k:Nat){p:Addr}(H:Hp):(upd H p (.tup (dc xs (some (k:Int)) none))) p=some (.tup (xs.drop k)):=by rw [ad,dm]
theorem dE{α β:Type}{f:α->β}{l:List α}{i:Nat}{b:β}(h:(l.map f)[i]?=some b):∃a,l[i]?=some a/\f a=b:=by
 rw [List.getElem?_map] at h
 exact Option.map_eq_some_iff.mp h
theorem xS{α β:Type}{f:α->β}{l:List α}{i:Nat}{a:α}(h:l[i]?=some a):(l.map f)[i]?=some (f a):=by
 rw [List.getElem?_map,h]
 rfl
theorem Sm.laid{t:Tr}(h:Sm t):t.dat.canLay0=true/\t.dat.depth<=30 :=
 ⟨tP fun p hp=>(h.tok p hp).2.2,Nat.le_trans (wF h.tok).dp h.dep⟩
theorem Sm.shaped{t:Tr}(h:Sm t):SeqAt.shaped t.dat=true:=by
 unfold SeqAt.shaped
 rw [h.laid.1,dt0 (by have:=h.laid.2;omega)]
 rfl
def isW(u:Tr)(s:Str):Bool:=match u with
 |.w z=>decide (z=s)
 |.n _=>false
theorem oI(u:Tr)(s:Str):PyData.eqv u.dat (.str s)=isW u s:=by
 cases u with
 |w z=>simp only [Tr.dat,PyData.eqv,isW];rfl
 |n ts=>simp [Tr.dat,PyData.eqv,isW]
theorem BO(u:Tr)(s:Str):PyData.eqv (.str s) u.dat=isW u s:=by
 cases u with
 |w z =>
  simp only [Tr.dat,PyData.eqv,isW]
  show decide (s=z)=decide (z=s)
  by_cases h:s=z
  ·rw [dt0 h,dt0 h.symm]
  ·rw [df0 h,df0 fun e=>h e.symm]
 |n ts=>simp [Tr.dat,PyData.eqv,isW]
inductive gZ(K:W.Frag):Sp|mk{vs H Q E}(x:_)(_:vs=[x])(_:((∃s:Str,x=.str s/\s.length<=25/\∀H',aM H H'->Q (.bl (aA s)) H')\/∃(p:Addr) (xs:List V),x=.ref p/\H p=some (.tup xs)/\Q (.bl false) H)):gZ K vs H Q E
def rZ:Tr->Bool
 |.w z=>(jb z).isSome
 |.n _=>false
inductive pe(K:W.Frag):Sp|mk{vs H Q E}(x:V)(t:Tr)(_:vs=[x])(_:bz K H x t)(_:Sm t)(_:∀H',aM H H'->Q (.bl (rZ t)) H'):pe K vs H Q E
def ou:Tr->Int
 |.w z=>if dr z=true then (bn (cps z):Int) else -1
 |.n _=>-1
inductive ua(K:W.Frag):Sp|mk{vs H Q E}(x:V)(t:Tr)(_:vs=[x])(_:bz K H x t)(_:Sm t)(_:Q (.int (ou t)) H):ua K vs H Q E
inductive mj(K:W.Frag):Sp|mk{vs H Q E}(x:V)(t:Tr)(_:vs=[x])(_:bz K H x t)(_:Sm t)(_:Q (.bl (eu t).isSome) H):mj K vs H Q E
theorem AB(z:Str):(jb z).isSome=(decide ((Txt.split z ".").length < 3)&&((Txt.split z ".").map aA).all id):=by
 have e:(Txt.split z ⟨#[46]⟩).map Tk.lst=Tk.spl 46 (cps z):=Tk.split_lst z 46
 have g:=Tk.glue_spl 46 [46] (cps z)
 rw [<-e,nl] at g
 have fr:aA z=true->Txt.split z ⟨#[46]⟩=[z]:=fun h=>by
  have e2:(Txt.split z ⟨#[46]⟩).map Tk.lst=[cps z]:=by
   rw [e,Tk.spl_free]
   intro hm
   have:=(bQ h).2.2 46 hm
   omega
  generalize Txt.split z ⟨#[46]⟩=ws at e2
  match ws,e2 with
  |[a],e2=>rw [Tk.lst_inj (List.cons.inj e2).1]
  |[],e2=>cases e2
  |_::_::_,e2=>simp at e2
 have ne:=Tk.spl_ne 46 (cps z)
 rw [<-e] at ne
 show(jb z).isSome=(decide ((Txt.split z ⟨#[46]⟩).length < 3)&&((Txt.split z ⟨#[46]⟩).map aA).all id)
 have ef:jb z=if aA z=true then some ((Str.ofString ""),z) else vz (Txt.split z ⟨#[46]⟩):=rfl
 rw [ef]
 generalize Txt.split z ⟨#[46]⟩=ws at *
 match ws,g,fr,ne with
 |[],_,_,ne=>exact absurd rfl ne
 |[a],g,fr,_ =>
  have ea:a=z:=Tk.lst_inj g
  subst ea
  cases h:aA a with
  |true=>simp [h]
  |false=>simp [h,vz]
 |[a,b],_,fr,_ =>
  cases h:aA z with
  |true=>exact absurd (fr h) (by simp)
  |false =>
   cases h1:aA a<;>cases h2:aA b<;>simp [vz,h1,h2]
 |_::_::_::_,_,fr,_ =>
  cases h:aA z with
  |true=>exact absurd (fr h) (by simp)
  |false =>
   simp [vz]
   intro h
   omega
theorem yc:ax ["_law_tree"] ["_law_tree"] (ah io):=mkS
theorem uv{f:Addr}{fd:FuncData} (F:Fun K "_law_is_name" "_law_is_name" io f fd) (ml:mg "len"=none) (mall:mg "all"=none) (mi:mg "isinstance"=none) (ms:mg "str"=none) :
  aV P w K mg base CX0 1 f fd ["_law_tree"] (gZ K):=by
 refine F.k0 yc fun cdv A q0 s H vs Q E hr h=>?_
 obtain⟨x,rfl,h⟩:=h
 refine⟨_,af (aF (PW.pt (dl (dk (bt (aq bh rfl mi bH (aa (pv 0) (aa (bJ rfl ms cb (v:=.ty "str") rfl) ac))))) (dl (am ij (aq cJ rfl ml boot_len (aa (pv 0) ac)) ag (av _)) (eC (am gi (aq cJ rfl ml boot_len (aa (pv 0) ac)) ag (av _)))))) (aj (ao fR)) ar)
  (af (aF (am gc (pv 0) (aE (aa ak (aa ak (aa ak (aa ak (aa ak (aa ak (aa ak (aa ak (aa ak ac)))))))))) (by with_unfolding_all rfl)) (aj (ao fR)) ar)
  (aj (ao (aq (bV rfl) rfl mall dq (aa (bi (own:=["_law_sign"]) (rR (pv 0))
   (fun _ _ _ _=>pg0 ["_law_sign"]) (fun _ _ _ _=>cv jz (pv 0) ak (by with_unfolding_all rfl))) ac))))),?_⟩
 rcases h with ⟨z,rfl,zl,q⟩|⟨p,xs,rfl,hp,q⟩
 ·have hzz:z.length<=sizeLine:=de (by omega)
  refine⟨_,rfl,.str z,"str",_,true,rfl,.str _,eJ K,true,rfl,bx ?_⟩
  have bad:∀{H':Hp},aM H H'->aA z=false->Q (.bl false) H':=fun hs e=>by have:=q _ hs;rw [e] at this;exact this
  refine⟨_,rfl,z,rfl,hzz,_,_,rfl,rfl,_,rfl,aO (fun c=>bU ?_) (fun c=>?_)⟩
  ·have c1:(z.length:Int) < 1:=od0 c
   refine bad sr0 ?_
   unfold aA fits
   rw [decide_eq_false (p:=1<=z.length) (by omega)]
   rfl
  have c1:¬(z.length:Int) < 1:=fun y=>c (dt0 y)
  refine⟨_,rfl,z,rfl,hzz,_,_,rfl,rfl,_,rfl,aO (fun d=>?_) (fun d=>?_)⟩
  ·have d1:(12:Int) < (z.length:Int):=od0 d
   refine bad sr0 ?_
   unfold aA fits
   rw [decide_eq_false (p:=z.length<=12) (by omega),Bool.and_false]
   rfl
  have d1:¬(12:Int) < (z.length:Int):=fun y=>d (dt0 y)
  refine⟨_,rfl,(sz 9),fun p hp=>?_⟩
  have sp:=ae hp (.tup dM)
  refine⟨p,dM,rfl,.inr (SqT.of ad),rfl,iV,_,rfl,aO (fun c=>?_) (fun c=>?_)⟩
  ·have c':inV (.str z) dM=true:=c
   refine bad sp ?_
   unfold aA fits
   rw [c']
   simp
  ·have c':inV (.str z) dM=false:=Bool.eq_false_iff.mpr c
   have hb:fits z=true:=by
    unfold fits
    rw [dt0 (by omega),dt0 (by omega),c']
    rfl
   refine⟨_,rfl,z,rfl,?_⟩
   refine cQ (J:=Its z) (xs:=fN z) (fun i ys H2=>i<=z.length/\ys=((z.cps.toList.take i).map inL).map V.bl/\H2=upd H p (.tup dM)) ⟨Nat.zero_le _,rfl,rfl⟩ (by rw [ce];exact hzz) ?_ ?_ ?_ ?_ ?_ ?_
   ·rintro i ys H3 ⟨hi,rfl,_⟩
    rw [lm0,lm0,List.length_take]
    omega
   ·rintro i x ys H3 hx _
    exact vZ i x hx
   ·rintro i ys x H3 H' hi _ hy
    exact qb i x H' hy
   ·rintro ys H3 _
    exact lM
   ·rintro i x ys H3 N hN hx ⟨hi,rfl,rfl⟩
    obtain⟨c,hc,rfl⟩:=gw.mp hx
    have hc':z.cps.toList[i]?=some c:=by simpa using hc
    have hlt:i < z.length:=by
     have:=(List.getElem?_eq_some_iff.mp hx).1
     rw [ce] at this
     exact this
    refine⟨rfl,aY ⟨_,rfl,_,_,rfl,rfl,hN _ _ ⟨hlt,?_,rfl⟩⟩⟩
    rw [List.take_add_one,hc',ma0,ma0]
    rfl
   ·rintro ys H3 D ⟨hi,rfl,rfl⟩ hD
    refine⟨D,z.cps.toList.map inL,rfl,SqL.of ?_,?_⟩
    ·rw [ad,ce,List.take_of_length_le (by rw [gT];exact Nat.le_refl _)]
    ·have q':=q _ (sp.trans (ae hD (.lst (((z.cps.toList.take (fN z).length).map inL).map V.bl))))
     rw [show aA z=(z.cps.toList.map inL).all id from by unfold aA;rw [hb]<;>rfl] at q'
     exact q'
 ·exact⟨_,rfl,.ref p,"str",_,false,rfl,.tup hp,dZ K,false,rfl,bU (bU q)⟩
theorem vF:ax ["_law_tree","_law_words"] ["_law_tree"] (ah km):=mkS
theorem xi{f fn:Addr}{fd fdn:FuncData} (F:Fun K "_law_is_far" "_law_is_far" km f fd)
  (GN:aV P w K mg base CX0 1 fn fdn ["_law_tree"] (gZ K)) (bN:aX K fdn ["_law_tree"] []) (kN:W.keepIn K (.ref fn)=true) (mN:mg "_law_is_name"=some (.ref fn))
  (ml:mg "len"=none) (mall:mg "all"=none) (mi:mg "isinstance"=none) (ms:mg "str"=none):aV P w K mg base CX0 2 f fd ["_law_tree"] (pe K):=by
 refine F.k0 vF fun cdv A q0 s H vs Q E hr h=>?_
 obtain⟨x,t,rfl,hx,sm,q⟩:=h
 refine⟨_,af (aF (dk (bt (aq bh rfl mi bH (aa (pv 0) (aa (bJ rfl ms cb (v:=.ty "str") rfl) ac))))) (aj (ao fR)) ar)
  (af (aS (i:=1) vF.nd (eU PySem.F.plainAttrs_str PySem.F.slot_str_split PySem.F.type_str_split mn (pv 0) (aa ak ac)))
  (aj (ao (ci (cv ij (aq aw rfl ml boot_len (aa (pv 1) ac)) ag (av _)) (dw (aq (bV rfl) rfl mall dq (aa (bi (own:=["_law_word"]) (eV (pv 1))
   (fun _ _ _ _=>pg0 ["_law_word"]) (fun _ _ _ _=>ai GN hr rfl mN kN bN .nil aC (aa (pv 0) ac))) ac))))))),?_⟩
 cases hx with
 |@n a us vs ha hus=>exact⟨_,rfl,.ref a,"str",_,false,rfl,.tup ha,dZ K,false,rfl,bU (q _ sr0)⟩
 |w z =>
  obtain⟨zl,_⟩:=sm.word
  refine⟨_,rfl,.str z,"str",_,true,rfl,.str _,eJ K,true,rfl,bx ?_⟩
  obtain⟨d1,d2⟩:=oN z
  have ef:rZ (.w z)=_:=AB z
  refine⟨_,rfl,rfl,z,".",rfl,rfl,by decide +kernel,by omega,by show(Txt.split z ".").length<=_;omega,fun l hl=>?_⟩
  show(_:Prop)
  rw [ef] at q
  generalize Txt.split z (Str.ofString ".")=ws at *
  have s1:=ae hl (.lst (ws.map V.str))
  have wl:(ws.map V.str).length=ws.length:=List.length_map _
  refine⟨_,rfl,l,_,rfl,.inl (SqL.of ad),_,_,rfl,rfl,_,rfl,aO (fun c=>?_) (fun c=>?_)⟩
  ·have c':((ws.map V.str).length:Int) < 3:=od0 c
   rw [wl] at c'
   refine⟨_,rfl,l,rfl,⟨_,SqL.of ad⟩,?_⟩
   refine cQ (J:=Itl K l) (xs:=ws.map V.str) (fun i ys H2=>i<=ws.length/\ys=((ws.take i).map aA).map V.bl/\aM (upd H l (.lst (ws.map V.str))) H2) ⟨Nat.zero_le _,rfl,sr0⟩ (by rw [wl];exact de (by omega)) ?_ ?_ ?_ ?_ ?_ ?_
   ·rintro i ys H3 ⟨hi,rfl,_⟩
    rw [lm0,lm0,List.length_take]
    omega
   ·rintro i u ys H3 hu ⟨_,_,s3⟩
    exact⟨_,_,SqL.of (s3 _ _ ad),hu⟩
   ·rintro i ys u H3 H' hn ⟨_,_,s3⟩ hy
    exact⟨hy.1,hy.2 _ (SqL.of (s3 _ _ ad))⟩
   ·rintro ys H3 ⟨_,_,s3⟩
    exact⟨_,SqL.of (s3 _ _ ad),Nat.le_refl _⟩
   ·rintro i u ys H3 N hN hu ⟨hi,rfl,s3⟩
    rw [List.getElem?_map] at hu
    obtain⟨y,hy,rfl⟩:=Option.map_eq_some_iff.mp hu
    have hlt:=(List.getElem?_eq_some_iff.mp hy).1
    have ly:=d2 y (List.mem_of_getElem? hy)
    refine⟨rfl,aY ⟨_,rfl,.str y,rfl,.inl ⟨y,rfl,by omega,fun H4 s4=>hN _ _ ⟨hlt,?_,s3.trans s4⟩⟩⟩⟩
    rw [List.take_add_one,hy,ma0,ma0]
    rfl
   ·rintro ys H3 D ⟨hi,rfl,s3⟩ hD
    refine⟨D,ws.map aA,rfl,SqL.of ?_,?_⟩
    ·rw [ad,wl,List.take_length]
    ·have:=q _ (s1.trans (s3.trans (ae hD (.lst (((ws.take (ws.map V.str).length).map aA).map V.bl)))))
     rw [dt0 (by omega),Bool.true_and] at this
     exact this
  ·have c':¬(((ws.map V.str).length:Int) < 3):=fun y=>c (dt0 y)
   rw [wl] at c'
   have:=q _ s1
   rw [df0 (by omega),Bool.false_and] at this
   exact this
theorem yZ:ax ["_law_tree","_law_sign"] ["_law_tree"] (ah oi):=mkS
theorem Ac{f:Addr}{fd:FuncData} (F:Fun K "_law_number" "_law_number" oi f fd) (ml:mg "len"=none) (mi:mg "isinstance"=none) (ms:mg "str"=none) (mI:mg "int"=none):aV P w K mg base CX0 1 f fd ["_law_tree"] (ua K):=by
 refine F.k0 yZ fun cdv A q0 s H vs Q E hr h=>?_
 obtain⟨x,t,rfl,hx,sm,q⟩:=h
 obtain⟨u1,d1,k1⟩:∃t,PSs (dP CX0 P w K mg base ["_law_tree","_law_sign"] "_law_number" (ah oi) f cdv A q0 s H E).nox (List.drop 1 (ap oi)) t/\∀(z:Str) (c0:Nat),Q (.int (ou (.w z))) H->1<=z.length->z.length<=19->z.cps.toList.head?=some c0->(cf c0=true->z.length=1)->t { nx:=fun _ H'=>Q .non H',rt:=Q } [some (.str z),none] H:=by
  refine⟨_,af (fg PassesOwn.never rfl (rR (pv 0)) (cU (i:=1) yZ.nd rfl (Or.inl rfl)) (aj (aF (am dJ (pv 1) ak (by with_unfolding_all rfl)) (aj (ao (yp ro ag))) ar)))
   (aj (ao (aL nM rfl mI pV (aa (pv 0) ac)))),fun z c0 q l1 l2 h0 hf=>?_⟩
  have bad:dr z=false->Q (.int (-1)) H:=fun e=>by
   have:ou (.w z)=-1:=if_neg (by rw [e];decide)
   rw [this] at q
   exact q
  refine⟨_,rfl,z,rfl,?_⟩
  refine zF (z:=z) (fun i σ H3=>∃v1,σ=[some (.str z),v1]/\H3=H/\∀c∈z.cps.toList.take i,inF c=true) ⟨none,rfl,rfl,fun c hc=>by simp at hc⟩ ?_ ?_
  ·rintro i c σ H3 hc ⟨v1,rfl,rfl,hall⟩
   have hc':z.cps.toList[i]?=some c:=by simpa using hc
   refine⟨_,rfl,⟨#[c]⟩,AU,rfl,rfl,_,rfl,aO (fun y=>⟨_,rfl,?_⟩) (fun y=>?_)⟩
   ·refine bad (mH (Bool.eq_false_iff.mpr fun a=>?_))
    unfold tD at a
    rw [List.all_eq_true] at a
    have h1:inF c=true:=a _ (List.mem_map_of_mem (List.mem_of_getElem? hc'))
    have h2:(!(inF c))=true:=y
    rw [h1] at h2
    cases h2
   ·have h2:¬((!(inF c))=true):=y
    refine⟨_,rfl,rfl,fun d hd=>?_⟩
    rw [List.take_add_one,hc'] at hd
    rcases List.mem_append.mp hd with hd|hd
    ·exact hall d hd
    ·rw [List.mem_singleton.mp (show d∈[c] from hd)]
     cases e:inF c with
     |true=>rfl
     |false=>rw [e] at h2;exact absurd rfl h2
  ·rintro σ H3 ⟨v1,rfl,rfl,hall⟩
   have al:tD z=true:=by
    unfold tD
    rw [List.all_eq_true]
    intro b hb
    obtain⟨c,hc,rfl⟩:=List.mem_map.mp hb
    exact hall c (by rw [List.take_of_length_le (by simp)];exact hc)
   have ok:dr z=true:=by
    rw [nI l1 l2 al,h0]
    show(decide (z.length=1)||!(cf c0))=true
    cases e:cf c0 with
    |false=>simp
    |true=>rw [dt0 (hf e)];rfl
   have e:ou (.w z)=(bn (cps z):Int):=if_pos ok
   rw [e] at q
   exact⟨_,rfl,z,rfl,(mV ok).1,q⟩
 refine⟨_,af (aF (PW.pt (dl (dk (bt (aq bh rfl mi bH (aa (pv 0) (aa (bJ rfl ms cb (v:=.ty "str") rfl) ac))))) (dl (am ij (aq cJ rfl ml boot_len (aa (pv 0) ac)) ag (av _)) (dl (am gi (aq cJ rfl ml boot_len (aa (pv 0) ac)) ag (av _))
    (eC (PW.pt (cr (am aZ (ix0 nP (pv 0) ag) ak (av _)) (cz (am gi (aq cJ rfl ml boot_len (aa (pv 0) ac)) ag (av _)))))))))) (aj (ao (yp ro ag))) ar) d1,?_⟩
 cases hx with
 |@n a us vs ha hus=>exact⟨_,rfl,.ref a,"str",_,false,rfl,.tup ha,dZ K,false,rfl,bU (bU ⟨_,rfl,q⟩)⟩
 |w z =>
  obtain⟨zl,_⟩:=sm.word
  have hzz:z.length<=sizeLine:=de (by omega)
  have bad:dr z=false->Q (.int (-1)) H:=fun e=>by
   have:ou (.w z)=-1:=if_neg (by rw [e];decide)
   rw [this] at q
   exact q
  refine⟨_,rfl,.str z,"str",_,true,rfl,.str _,eJ K,true,rfl,bx ?_⟩
  refine⟨_,rfl,z,rfl,hzz,_,_,rfl,rfl,_,rfl,aO (fun c=>bU ⟨_,rfl,bad (ie (by have c1:(z.length:Int) < 1:=od0 c;omega))⟩) (fun c=>?_)⟩
  have c1:¬(z.length:Int) < 1:=fun y=>c (dt0 y)
  refine⟨_,rfl,z,rfl,hzz,_,_,rfl,rfl,_,rfl,aO (fun d=>bU ⟨_,rfl,bad (ie (by have d1:(19:Int) < (z.length:Int):=od0 d;omega))⟩) (fun d=>?_)⟩
  have d1:¬(19:Int) < (z.length:Int):=fun y=>d (dt0 y)
  obtain⟨c0,hc0⟩:=lX (xs:=z.cps.toList) (i:=0) (by omega) (by rw [gT];omega)
  have h0:=vh hc0
  refine⟨_,rfl,z,_,c0,rfl,rfl,hzz,hc0,rfl,_,rfl,aO (fun e=>?_) (fun e=>?_)⟩
  ·refine⟨_,rfl,z,rfl,hzz,_,_,rfl,rfl,_,rfl,aO (fun g=>?_) (fun g=>?_)⟩
   ·have g1:(1:Int) < (z.length:Int):=od0 g
    refine⟨_,rfl,bad ?_⟩
    cases e2:tD z with
    |false=>exact mH e2
    |true =>
     rw [nI (by omega) (by omega) e2,h0]
     show(decide (z.length=1)||!(cf c0))=false
     rw [df0 (by omega),show cf c0=true from e]
     rfl
   ·have g1:¬(1:Int) < (z.length:Int):=fun y=>g (dt0 y)
    exact k1 z c0 q (by omega) (by omega) h0 fun _=>by omega
  ·exact bx (k1 z c0 q (by omega) (by omega) h0 fun y=>absurd y e)
theorem x8(t:Tr):(eu t).isSome=(decide (1<=ou t)&&decide (ou t<=1000000000000000000)):=by
 match t with
 |.n ts=>rfl
 |.w z =>
  show(if dr z=true/\(1:Int)<=(bn (cps z):Int)/\(bn (cps z):Int)<=1000000000000000000 then some (bn (cps z)) else none).isSome=(decide (1<=if dr z=true then (bn (cps z):Int) else -1)&&decide ((if dr z=true then (bn (cps z):Int) else -1)<=1000000000000000000))
  by_cases h:dr z=true
  ·rw [if_pos h]
   by_cases h1:(1:Int)<=(bn (cps z):Int)
   ·by_cases h2:(bn (cps z):Int)<=1000000000000000000
    ·rw [if_pos ⟨h,h1,h2⟩,dt0 h1,dt0 h2]
     rfl
    ·rw [if_neg (fun c=>h2 c.2.2),df0 h2,Bool.and_false]
     rfl
   ·rw [if_neg (fun c=>h1 c.2.1),df0 h1]
    rfl
  ·rw [if_neg (fun c=>h c.1),if_neg h]
   rfl
theorem wK(u a:Tr):(kd? (.n [u,a])).isSome=(isW u "num"&&(eu a).isSome):=by
 match u with
 |.n _=>rfl
 |.w z =>
  rw [nZ]
  show _=(decide (z="num")&&_)
  by_cases h:z="num"
  ·rw [if_pos h,dt0 h,Option.isSome_map,Bool.true_and]
  ·rw [if_neg h,df0 h]
   rfl
theorem uL(u a b:Tr):(kd? (.n [u,a,b])).isSome=(isW u "pair"&&((kd? a).isSome&&(kd? b).isSome)):=by
 match u with
 |.n _=>rfl
 |.w z =>
  rw [iP]
  show _=(decide (z="pair")&&_)
  by_cases h:z="pair"
  ·rw [if_pos h,dt0 h,Bool.true_and]
   cases kd? a<;>cases kd? b<;>rfl
  ·rw [if_neg h,df0 h]
   rfl
theorem x9{ts:List Tr}(h2:ts.length≠2)(h3:ts.length≠3):kd? (.n ts)=none:=iw fun h=>by
 rcases h with ⟨a,rfl⟩|⟨a,b,rfl⟩
 ·exact h2 rfl
 ·exact h3 rfl
def AS(a b:Tr):Bool:=(eu b).isSome&&(decide (0<=ou a)&&decide (ou a < ou b))
def hd0:List Tr->Tr
 |t::_=>t
 |[]=>.n []
def yh(u:Tr):Bool:=isW u "+"||(isW u "-"||isW u "*")
def prs:List (Str × Int):=[("=",2),("<",2),("if",3),("two",2),("first",1),("second",1)]
def prB(u:Tr)(n:Nat):Bool:=prs.any fun p=>isW u p.1&&decide (p.2=(n:Int))
def lr5(u:Tr)(ts:List Tr):Option Nat:=if (rZ u&&decide (ts.length < 5))=true then some 0 else none
def lr4(u:Tr)(ts:List Tr):Option Nat:=if prB u ts.length=true then some 0 else lr5 u ts
def lr3(u:Tr)(ts:List Tr):Option Nat:=if (isW u "let"&&(decide (ts.length=3)&&(bo (hd0 ts)).isSome))=true then some 1 else lr4 u ts
def lr2(u:Tr)(ts:List Tr):Option Nat:=if (isW u "as"&&(decide (ts.length=2)&&(eu (hd0 ts)).isSome))=true then some 1 else lr3 u ts
def lr1(u:Tr)(ts:List Tr):Option Nat:=if (yh u&&(decide (ts.length=3)&&(eu (hd0 ts)).isSome))=true then some 1 else lr2 u ts
def lrL:List Tr->Option Nat
 |[a,b]=>if AS a b=true then some 2 else none
 |_=>none
def lr(u:Tr)(ts:List Tr):Option Nat:=if (isW u "lit"&&decide (ts.length=2))=true then lrL ts else lr1 u ts
theorem DR(us ts:List Tr):lr (.n us) ts=none:=by
 unfold lr lr1 lr2 lr3 lr4 lr5 isW yh prB prs rZ
 simp [isW]
theorem CB(a b:Tr):(pR [a,b]).map (·.2)=if AS a b=true then some 2 else none:=by
 unfold AS
 cases eb:eu b with
 |none=>simp [pR,eb]
 |some n =>
  obtain⟨rfl,s1,s2⟩:=ip eb
  have s2':n<=1000000000000000000:=s2
  have nb:ou (.w (fQ n))=n:=by
   obtain⟨_,x2,_⟩:=oQ s2'
   show(if dr (fQ n)=true then (bn (cps (fQ n)):Int) else -1)=n
   rw [if_pos (ut s2'),x2]
  rw [nb]
  simp only [pR,eb,Option.isSome_some,Bool.true_and]
  match a with
  |.n _=>rfl
  |.w z =>
   have na:ou (.w z)=if dr z=true then (bn (cps z):Int) else -1:=rfl
   have nu:lU (.w z) 0 ((n:Int) - 1)=if dr z=true/\(0:Int)<=(bn (cps z):Int)/\(bn (cps z):Int)<=(n:Int) - 1 then some (bn (cps z)) else none:=rfl
   rw [na,nu]
   by_cases h:dr z=true
   ·rw [if_pos h]
    by_cases h2:(bn (cps z):Int) < (n:Int)
    ·rw [if_pos ⟨h,by omega,by omega⟩,dt0 h2,dt0 (by omega)]
     rfl
    ·rw [if_neg (fun c=>by omega),df0 h2,Bool.and_false]
     rfl
   ·rw [if_neg (fun c=>h c.1),if_neg h]
    rfl
theorem jM:∀w∈Cw,jb w=none:=by decide +kernel
theorem jU{z s:Str}(h:z≠s):isW (.w z) s=false:=df0 h
theorem dz(s:Str):isW (.w s) s=true:=dt0 rfl
theorem De(z:Str):yh (.w z)=inV (.str z) sW:=by
 unfold yh inV sW isW
 simp only [List.any_cons,List.any_nil,eqV,Bool.or_false]
 have:∀a b:Str,decide (a=b)=(b==a):=fun a b=>by
  by_cases h:a=b
  ·subst h;simp
  ·rw [df0 h];symm;simp;exact fun e=>h e.symm
 simp only [this]
theorem xk{z:Str}(h:∀p∈prs,z≠p.1)(n:Nat):prB (.w z) n=false:=by
 refine Bool.eq_false_iff.mpr fun y=>?_
 unfold prB at y
 rw [List.any_eq_true] at y
 obtain⟨p,hp,e⟩:=y
 rw [Bool.and_eq_true] at e
 exact h p hp (od0 e.1)
theorem zu:∀p∈prs,∀q∈prs,p.1=q.1->p.2=q.2:=by decide +kernel
theorem li{z:Str}{k:Int}(hm:(z,k)∈prs)(n:Nat):prB (.w z) n=decide ((n:Int)=k):=by
 by_cases h:(n:Int)=k
 ·rw [dt0 h]
  unfold prB
  refine List.any_eq_true.mpr ⟨_,hm,?_⟩
  rw [Bool.and_eq_true]
  exact⟨dz z,dt0 h.symm⟩
 ·rw [df0 h]
  refine Bool.eq_false_iff.mpr fun y=>?_
  unfold prB at y
  rw [List.any_eq_true] at y
  obtain⟨p,hp,e⟩:=y
  rw [Bool.and_eq_true] at e
  have e1:z=p.1:=od0 e.1
  have e2:p.2=(n:Int):=od0 e.2
  have:=zu _ hm p hp e1
  exact h (by rw [<-e2];exact this.symm)
theorem DQ(z:Str)(ts:List Tr):lr (.w z) ts=(df z ts).map (·.2):=by
 by_cases c1:z="lit"
 ·subst c1
  have ef:df "lit" ts=pR ts:=if_pos rfl
  rw [ef]
  match ts with
  |[a,b] =>
   rw [CB]
   unfold lr lrL
   rw [dz]
   rfl
  |[]=>decide +kernel
  |[t] =>
   have h0:rZ (.w "lit")=false:=by decide +kernel
   have h1:prB (.w "lit") 1=false:=by decide +kernel
   have h2:yh (.w "lit")=false:=by decide +kernel
   have h3:isW (.w "lit") "as"=false:=by decide +kernel
   have h4:isW (.w "lit") "let"=false:=by decide +kernel
   unfold lr lr1 lr2 lr3 lr4 lr5
   simp [h0,h1,h2,h3,h4,pR]
  |t1::t2::t3::r =>
   have h0:rZ (.w "lit")=false:=by decide +kernel
   have h1:∀n,prB (.w "lit") n=false:=xk (by decide +kernel)
   have h2:yh (.w "lit")=false:=by decide +kernel
   have h3:isW (.w "lit") "as"=false:=by decide +kernel
   have h4:isW (.w "lit") "let"=false:=by decide +kernel
   unfold lr lr1 lr2 lr3 lr4 lr5
   simp [h0,h1,h2,h3,h4,pR]
 have e0:lr (.w z) ts=lr1 (.w z) ts:=by unfold lr;rw [jU c1];rfl
 rw [e0]
 unfold lr1
 rw [De]
 by_cases c2:inV (.str z) sW=true
 ·rw [vG c1 c2,c2]
  have hm:=lW (ws:=["+","-","*"]) c2
  have hf:rZ (.w z)=false:=by
   show(jb z).isSome=false
   rw [jM z (by simp only [List.mem_cons,List.mem_nil_iff,or_false] at hm ⊢;rcases hm with h|h|h<;>simp [h])]
   rfl
  have h3:isW (.w z) "as"=false:=jU (by rintro rfl;revert c2;decide +kernel)
  have h4:isW (.w z) "let"=false:=jU (by rintro rfl;revert c2;decide +kernel)
  have hp:∀n,prB (.w z) n=false:=by
   simp only [List.mem_cons,List.mem_nil_iff,or_false] at hm
   rcases hm with rfl|rfl|rfl<;>exact xk (by decide +kernel)
  unfold lr2 lr3 lr4 lr5
  match ts with
  |[a,b,d] =>
   cases es:eu a with
   |none=>simp [op?,es,hd0,h3,h4,hp,hf]
   |some n=>simp [op?,es,hd0]
  |[]=>simp [op?,h3,h4,hp,hf]
  |[_]=>simp [op?,h3,h4,hp,hf]
  |[_,_]=>simp [op?,h3,h4,hp,hf]
  |_::_::_::_::_=>simp [op?,h3,h4,hp,hf]
 have c2':inV (.str z) sW=false:=Bool.eq_false_iff.mpr c2
 rw [c2']
 show lr2 (.w z) ts=_
 by_cases c3:inV (.str z) wW=true
 ·rw [qx c1 c2 c3]
  have hm:=lW (ws:=["=","<"]) c3
  have hf:rZ (.w z)=false:=by
   show(jb z).isSome=false
   rw [jM z (by simp only [List.mem_cons,List.mem_nil_iff,or_false] at hm ⊢;rcases hm with h|h<;>simp [h])]
   rfl
  have h3:isW (.w z) "as"=false:=jU (by rintro rfl;revert c3;decide +kernel)
  have h4:isW (.w z) "let"=false:=jU (by rintro rfl;revert c3;decide +kernel)
  have hp:prB (.w z) ts.length=decide (ts.length=2):=by
   simp only [List.mem_cons,List.mem_nil_iff,or_false] at hm
   rcases hm with rfl|rfl
   ·rw [li (z:="=") (k:=2) (by decide +kernel)]
    by_cases h:ts.length=2
    ·rw [h];rfl
    ·rw [df0 h,df0 (by omega)]
   ·rw [li (z:="<") (k:=2) (by decide +kernel)]
    by_cases h:ts.length=2
    ·rw [h];rfl
    ·rw [df0 h,df0 (by omega)]
  unfold lr2 lr3 lr4 lr5
  rw [hp,h3,h4,hf]
  by_cases h:ts.length=2
  ·simp [h]
  ·simp [h]
 by_cases c4:z="as"
 ·subst c4
  have ef:df "as" ts=as? ts:=by unfold df;rw [if_neg c1,if_neg c2,if_neg c3,if_pos rfl]
  rw [ef]
  have hf:rZ (.w "as")=false:=by decide +kernel
  have hp:∀n,prB (.w "as") n=false:=xk (by decide +kernel)
  have h4:isW (.w "as") "let"=false:=by decide +kernel
  have h3:isW (.w "as") "as"=true:=by decide +kernel
  unfold lr2 lr3 lr4 lr5
  match ts with
  |[a,b] =>
   cases es:eu a with
   |none=>simp [as?,es,hd0,h3,h4,hp,hf]
   |some n=>simp [as?,es,hd0,h3]
  |[]=>simp [as?,h4,hp,hf]
  |[_]=>simp [as?,h4,hp,hf]
  |_::_::_::_=>simp [as?,h4,hp,hf]
 have e2:lr2 (.w z) ts=lr3 (.w z) ts:=by unfold lr2;rw [jU c4];rfl
 rw [e2]
 by_cases c5:z="let"
 ·subst c5
  have ef:df "let" ts=uQ ts:=by unfold df;rw [if_neg c1,if_neg c2,if_neg c3,if_neg c4,if_pos rfl]
  rw [ef]
  have hf:rZ (.w "let")=false:=by decide +kernel
  have hp:∀n,prB (.w "let") n=false:=xk (by decide +kernel)
  have h3:isW (.w "let") "let"=true:=by decide +kernel
  unfold lr3 lr4 lr5
  match ts with
  |[a,b,d] =>
   cases es:bo a with
   |none=>simp [uQ,es,hd0,h3,hp,hf]
   |some n=>simp [uQ,es,hd0,h3]
  |[]=>simp [uQ,hp,hf]
  |[_]=>simp [uQ,hp,hf]
  |[_,_]=>simp [uQ,hp,hf]
  |_::_::_::_::_=>simp [uQ,hp,hf]
 have e3:lr3 (.w z) ts=lr4 (.w z) ts:=by unfold lr3;rw [jU c5];rfl
 rw [e3,tX c1 c2 c3 c4 c5]
 cases en:fK brs z with
 |some k =>
  obtain⟨n,rfl,hn⟩:=tJ en
  have hf:rZ (.w z)=false:=by
   show(jb z).isSome=false
   rw [jM z (by rcases hn with ⟨h,_⟩|⟨h,_⟩|⟨h,_⟩|⟨h,_⟩<;>simp [h])]
   rfl
  have hp:prB (.w z) ts.length=decide ((ts.length:Int)=(n:Int)):=by
   rcases hn with ⟨rfl,rfl⟩|⟨rfl,rfl⟩|⟨rfl,rfl⟩|⟨rfl,rfl⟩
   ·exact li (k:=3) (by decide +kernel) _
   ·exact li (k:=2) (by decide +kernel) _
   ·exact li (k:=1) (by decide +kernel) _
   ·exact li (k:=1) (by decide +kernel) _
  unfold lr4 lr5
  rw [hp,hf]
  by_cases h:(ts.length:Int)=(n:Int)
  ·simp [h]
  ·simp [h]
 |none =>
  have hp:prB (.w z) ts.length=false:=by
   refine Bool.eq_false_iff.mpr fun y=>?_
   unfold prB at y
   rw [List.any_eq_true] at y
   obtain⟨p,hp,e⟩:=y
   rw [Bool.and_eq_true] at e
   have ez:z=p.1:=od0 e.1
   unfold prs at hp
   simp only [List.mem_cons,List.mem_nil_iff,or_false] at hp
   rcases hp with rfl|rfl|rfl|rfl|rfl|rfl
   ·rw [ez] at c3;exact c3 (by decide +kernel)
   ·rw [ez] at c3;exact c3 (by decide +kernel)
   ·rw [ez] at en;revert en;decide +kernel
   ·rw [ez] at en;revert en;decide +kernel
   ·rw [ez] at en;revert en;decide +kernel
   ·rw [ez] at en;revert en;decide +kernel
  unfold lr4 lr5 jk
  rw [hp]
  show(if (((jb z).isSome)&&decide (ts.length < 5))=true then some 0 else none)=_
  cases ef:jb z with
  |none=>simp
  |some p =>
   by_cases h:ts.length<=4
   ·simp [h,show ts.length < 5 by omega]
   ·simp [h,show ¬ts.length < 5 by omega]
theorem Ck(u:Tr)(ts:List Tr):(ex? (.n (u::ts))).isSome=match lr u ts with
  |some k=>((ts.drop k).map fun t=>(ex? t).isSome).all id
  |none=>false:=by
 match u with
 |.n us =>
  rw [DR,wI]
  ·rfl
  ·rintro⟨z,r,h⟩
   cases h
 |.w z =>
  rw [DQ,lA]
  cases df z ts with
  |none=>rfl
  |some p =>
   show((ii (ts.drop p.2)).map (Ex.node p.1)).isSome=((ts.drop p.2).map fun t=>(ex? t).isSome).all id
   rw [Option.isSome_map]
   exact ck _
inductive qR(K:W.Frag)(n:Nat):Sp|mk{vs H Q E}(x:V)(t:Tr)(_:vs=[x])(_:bz K H x t)(_:Sm t)(_:t.dep < n)(_:∀H',aM H H'->Q (.bl (kd? t).isSome) H'):qR K n vs H Q E
inductive yE(K:W.Frag)(n:Nat):Sp|mk{vs H Q E}(x:V)(t:Tr)(_:vs=[x])(_:bz K H x t)(_:Sm t)(_:t.dep < n)(_:∀H',aM H H'->Q (.bl (ex? t).isSome) H'):yE K n vs H Q E
def Dy(K:W.Frag)(H:Hp)(v:V)(ys:List V):Prop:=∃a,v=.ref a/\(SqL K H a ys\/SqT K H a ys)
inductive yS(K:W.Frag):Sp|mk{vs H Q E}(x:V)(u:Tr)(p:Addr)(xs:List V)(ts:List Tr)(_:vs=[x,.ref p])(_:bz K H x u)(_:Sm u)(_:H p=some (.tup xs))(_:aJ K H xs ts)(_:Sms ts)(_:(∀k,lr u ts=some k->∀H' v ys,aM H H'->Dy K H' v ys->aJ K H' ys (ts.drop k)->Q v H'))(_:(lr u ts=none->∀H',aM H H'->Q .non H')):yS K vs H Q E
theorem bc(s:Str)(h:PyData.strOk s=true):SeqAt.shaped (.str s)=true:=by
 unfold SeqAt.shaped
 simp only [PyData.canLay0,PyData.depth,h]
 rfl
theorem at0{y:V}{ys:List V}:atI (y::ys) 0=some y:=(cm (j:=0) rfl:atI (y::ys) ((0:Nat):Int)=some y)
theorem BI(u:Tr)(a:Str)(i j:Int):PyData.eqv (.tuple [.str a,.int i]) (.tuple [u.dat,.int j])=(isW u a&&decide (i=j)):=by
 cases u with
 |w z =>
  simp only [Tr.dat,PyData.eqv,PyData.eqvAll,isW,Bool.and_true]
  have e1:(a==z)=decide (z=a):=by
   show decide (a=z)=decide (z=a)
   by_cases h:a=z
   ·rw [dt0 h,dt0 h.symm]
   ·rw [df0 h,df0 fun e=>h e.symm]
  rw [e1]
  rfl
 |n ts=>simp [Tr.dat,PyData.eqv,PyData.eqvAll,isW]
theorem xX:ax ["_law_tree"] ["_law_tree"] (ah iN):=mkS
theorem vK{f fn:Addr}{fd fdn:FuncData} (F:Fun K "_law_is_size" "_law_is_size" iN f fd)
  (GN:aV P w K mg base CX0 1 fn fdn ["_law_tree"] (ua K)) (bN:aX K fdn ["_law_tree"] []) (kN:W.keepIn K (.ref fn)=true) (mN:mg "_law_number"=some (.ref fn)):aV P w K mg base CX0 2 f fd ["_law_tree"] (mj K):=by
 refine F.k0 xX fun cdv A q0 s H vs Q E hr h=>?_
 obtain⟨x,t,rfl,hx,sm,q⟩:=h
 refine⟨_,aj (ao (mY my my ag (ai GN hr rfl mN kN bN .nil aC (aa (pv 0) ac)) (aB tH ag ag))),?_⟩
 rw [x8] at q
 have pw:(10:Int) ^ (18:Int).toNat=1000000000000000000:=by decide
 refine⟨_,rfl,x,t,rfl,hx,sm,_,_,rfl,rfl,_,rfl,aO (fun c=>⟨_,_,rfl,rfl,⟨by decide,by decide,by decide⟩,_,_,rfl,rfl,?_⟩) (fun c=>?_)⟩
 ·have c':(1:Int)<=ou t:=od0 c
  rw [dt0 c',Bool.true_and] at q
  show Q (.bl (decide (ou t<=(10:Int) ^ (18:Int).toNat))) H
  rw [pw]
  exact q
 ·have c':¬(1:Int)<=ou t:=fun y=>c (dt0 y)
  rw [df0 c',Bool.false_and] at q
  exact q
theorem wO:ax ["_law_tree"] ["_law_tree"] (ah iy):=mkS
theorem nK{f fr fs:Addr}{fd fdr fds:FuncData} (F:Fun K "_law_is_kind" "_law_is_kind" iy f fd) (bF:aX K fd ["_law_tree"] []) (kF:W.keepIn K (.ref f)=true) (mF:mg "_law_is_kind"=some (.ref f))
  (GR:aV P w K mg base CX0 2 fr fdr ["_law_tree"] (pe K)) (bR:aX K fdr ["_law_tree"] []) (kR:W.keepIn K (.ref fr)=true) (mR:mg "_law_is_far"=some (.ref fr))
  (GS:aV P w K mg base CX0 2 fs fds ["_law_tree"] (mj K)) (bS:aX K fds ["_law_tree"] []) (kS:W.keepIn K (.ref fs)=true) (mS:mg "_law_is_size"=some (.ref fs))
  (mi:mg "isinstance"=none) (ms:mg "str"=none) (ml:mg "len"=none):∀n,aV P w K mg base CX0 (n+3) f fd ["_law_tree"] (qR K n)
 |0=>⟨fun vs H Q E h=>by obtain⟨x,k,rfl,_⟩:=h;rfl,fun A q0 s H args us vs Q E _ _ _ _ h=>by
   obtain⟨x,k,_,_,_,hd,_⟩:=h
   omega⟩
 |n+1=>by
  have IH:=nK F bF kF mF GR bR kR mR GS bS kS mS mi ms ml n
  refine F.k0 wO fun cdv A q0 s H vs Q E hr h=>?_
  obtain⟨x,t,rfl,hx,sm,hd,q⟩:=h
  have hr2:bq 2 _:=hr.mono (by omega)
  have hu:=hr.units
  refine⟨_,af (aF (bt (aq bh rfl mi bH (aa (pv 0) (aa (bJ rfl ms cb (v:=.ty "str") rfl) ac)))) (aj (ao (ai GR hr2 rfl mR kR bR .nil aC (aa (pv 0) ac)))) ar)
   (af (aF (am aZ (aq aw rfl ml boot_len (aa (pv 0) ac)) ag (av _)) (aj (ao (ci (cv (dY hu) (ix0 au (pv 0) ag) ak (av _)) (dw (ai GS hr2 rfl mS kS bS .nil aC (aa (ix0 au (pv 0) ag) ac)))))) ar)
   (aj (ao (ci (cv aZ (aq aw rfl ml boot_len (aa (pv 0) ac)) ag (av _)) (ci (cv (dY hu) (ix0 au (pv 0) ag) ak (av _))
    (ci (ai IH hr rfl mF kF bF .nil aC (aa (ix0 au (pv 0) ag) ac)) (dw (ai IH hr rfl mF kF bF .nil aC (aa (ix0 au (pv 0) ag) ac))))))))),?_⟩
  cases hx with
  |w z =>
   refine⟨_,rfl,.str z,"str",_,true,rfl,.str _,eJ K,true,rfl,bU ?_⟩
   refine⟨_,rfl,.str z,.w z,rfl,.w z,sm,fun H' s'=>?_⟩
   have:=q H' s'
   rw [show(kd? (.w z)).isSome=rZ (.w z) from Option.isSome_map] at this
   exact this
  |@n a xs ts ha hxs =>
   have hdr:∀u∈ts,u.dep < n:=fun u hu=>by
    have h1:1+fF ts < n+1:=hd
    have h2:=gF hu
    omega
   have smr:=sm.sub
   have xl:=hxs.length
   refine⟨_,rfl,.ref a,"str",_,false,rfl,.tup ha,dZ K,false,rfl,bx ?_⟩
   refine⟨_,rfl,a,_,rfl,.inr (SqT.of ha),rfl,_,rfl,aO (fun c=>?_) (fun c=>?_)⟩
   ·have c':(xs.length:Int)=2:=V.int.inj (od0 c)
    have l2:ts.length=2:=by omega
    obtain⟨u,v,y,y2,rfl,rfl,hy,hy2⟩:=tk2 l2 hxs
    rw [wK] at q
    refine⟨_,rfl,a,_,_,y,rfl,rfl,SqT.of ha,rfl,_,_,hy.dat,.str "num",smr.head.shaped,bc _ (by decide +kernel),?_⟩
    show ∃c,V.bl (PyData.eqv u.dat (.str "num"))=.bl c/\_
    rw [oI]
    refine⟨_,rfl,?_⟩
    cases e:isW u "num" with
    |false =>
     have:=q H sr0
     rw [e] at this
     exact bx this
    |true =>
     refine bU ⟨_,rfl,a,_,_,y2,rfl,rfl,SqT.of ha,rfl,y2,v,rfl,hy2,smr.tail.head,?_⟩
     have:=q H sr0
     rw [e,Bool.true_and] at this
     exact this
   ·have n2:ts.length≠2:=fun e=>c (dt0 (by rw [xl,e];rfl))
    refine⟨_,rfl,a,_,rfl,.inr (SqT.of ha),rfl,_,rfl,aO (fun c2=>?_) (fun c2=>?_)⟩
    ·have c':(xs.length:Int)=3:=V.int.inj (od0 c2)
     have l2:ts.length=3:=by omega
     obtain⟨u,v,v2,y,y2,y3,rfl,rfl,hy,hy2,hy3⟩:=tk3 l2 hxs
     rw [uL] at q
     refine⟨_,rfl,a,_,_,y,rfl,rfl,SqT.of ha,rfl,_,_,hy.dat,.str "pair",smr.head.shaped,bc _ (by decide +kernel),?_⟩
     show ∃c,V.bl (PyData.eqv u.dat (.str "pair"))=.bl c/\_
     rw [oI]
     refine⟨_,rfl,?_⟩
     cases e:isW u "pair" with
     |false =>
      have:=q H sr0
      rw [e] at this
      exact bx this
     |true =>
      rw [e] at q
      refine bU ⟨_,rfl,a,_,_,y2,rfl,rfl,SqT.of ha,rfl,y2,v,rfl,hy2,smr.tail.head,hdr v (.tail _ (.head _)),fun H2 s2=>⟨_,rfl,?_⟩⟩
      cases e2:(kd? v).isSome with
      |false =>
       have:=q H2 s2
       rw [e2] at this
       exact bx this
      |true =>
       refine bU ⟨_,rfl,a,_,_,y3,rfl,rfl,SqT.of (s2 _ _ ha),rfl,y3,v2,rfl,hy3.same s2,smr.tail.tail.head,hdr v2 (.tail _ (.tail _ (.head _))),fun H3 s3=>?_⟩
       have:=q H3 (s2.trans s3)
       rw [e2] at this
       exact this
    ·have n3:ts.length≠3:=fun e=>c2 (dt0 (by rw [xl,e];rfl))
     have:=q H sr0
     rw [x9 n2 n3] at this
     exact this
def tSI(a:Str)(i:Int):TE:=fun _ H Q=>∀p,H p=none->Q (.ref p) (upd H p (.tup [.str a,.int i]))
theorem sk{X:Cx}{a:Str}{i:Int}{j1 j2 k:Nat}{p1 p2 pos:Pos}:PE X (.Tuple [.Constant (.str a) j1 p1,.Constant (.int i) j2 p2] k pos) (tSI a i):=fun kb s σ H Q I h =>
 (@aE _ _ _ _ _ (@aa _ _ _ _ _ (@ak _ _ _ _) (@aa _ _ _ _ _ (@ag _ _ _ _) (@ac _) rfl) rfl)) kb s σ H Q I ⟨(sz 2),h⟩
theorem se2{env:Env}{es fs:List Expr}{k:Nat}{pos:Pos}:starEach (.Tuple fs k pos::es) env=(false,eval (.Tuple fs k pos) env)::starEach es env:=rfl
abbrev rsN:List Str:=["_law_head","_law_rest_here"]
theorem Bm:ax rsN rsN (ah gA):=mkS
theorem lJ{H:Hp}{xs:List V}{ts:List Tr}(h:aJ K H xs ts)(hl:1<=ts.length):∃y,atI xs 0=some y/\bz K H y (hd0 ts):=by
 match ts,xs,h,hl with
 |t::ts,y::ys,.cons hy _,_=>exact⟨y,at0,hy⟩
theorem Sms.hd{ts:List Tr}(h:Sms ts)(hl:1<=ts.length):Sm (hd0 ts):=by
 match ts,h,hl with
 |t::ts,h,_=>exact h.head
theorem Bh(t:Tr):(bo t).isSome=(match t with|.w z=>aA z|.n _=>false):=by
 match t with
 |.n _=>rfl
 |.w z =>
  show(if aA z=true then some z else none).isSome=aA z
  cases aA z<;>rfl
theorem wo{H:Hp}{x:V}{t:Tr}(hx:bz K H x t)(sm:Sm t):(∃z:Str,x=.str z/\z.length<=25/\(bo t).isSome=aA z)\/∃(p:Addr) (xs:List V),x=.ref p/\H p=some (.tup xs)/\(bo t).isSome=false:=by
 cases hx with
 |w z=>exact .inl ⟨z,rfl,sm.word.1,Bh _⟩
 |@n a us vs ha hus=>exact .inr ⟨a,us,rfl,ha,rfl⟩
theorem zv{f fr fs fn fm:Addr}{fd fdr fds fdn fdm:FuncData} (F:Fun K "_law_rest" "_law_rest" gA f fd)
  (GR:aV P w K mg base CX0 2 fr fdr ["_law_tree"] (pe K)) (bR:aX K fdr ["_law_tree"] []) (kR:W.keepIn K (.ref fr)=true) (mR:mg "_law_is_far"=some (.ref fr))
  (GS:aV P w K mg base CX0 2 fs fds ["_law_tree"] (mj K)) (bS:aX K fds ["_law_tree"] []) (kS:W.keepIn K (.ref fs)=true) (mS:mg "_law_is_size"=some (.ref fs))
  (GN:aV P w K mg base CX0 1 fn fdn ["_law_tree"] (ua K)) (bN:aX K fdn ["_law_tree"] []) (kN:W.keepIn K (.ref fn)=true) (mN:mg "_law_number"=some (.ref fn))
  (GM:aV P w K mg base CX0 1 fm fdm ["_law_tree"] (gZ K)) (bM:aX K fdm ["_law_tree"] []) (kM:W.keepIn K (.ref fm)=true) (mM:mg "_law_is_name"=some (.ref fm))
  (ml:mg "len"=none) (mI:mg "int"=none):aV P w K mg base CX0 3 f fd rsN (yS K):=by
 refine F.k0 Bm fun cdv A q0 s H vs Q E hr h=>?_
 obtain⟨x,u,p,xs,ts,rfl,hx,smu,hp,hxs,sm,q,qN⟩:=h
 have hr1:bq 1 _:=hr.mono (by omega)
 have hu:=hr.units
 have xl:=hxs.length
 have cl:=sm.count
 obtain⟨t5,d5,k5⟩:∃t,PSs (dP CX0 P w K mg base rsN "_law_rest" (ah gA) f cdv A q0 s H E).nox (List.drop 5 (ap gA)) t/\∀H1,aM H H1->lr u ts=lr5 u ts->t { nx:=fun _ H'=>Q .non H',rt:=Q } [some x,some (.ref p)] H1:=by
  refine⟨_,af (aF (PW.pt (cr (bt (ai GR hr rfl mR kR bR .nil aC (aa (pv 0) ac))) (cz (am ij (aq aw rfl ml boot_len (aa (pv 1) ac)) ag (av _))))) (aj (ao (pv 1))) ar) (aj (ao dW)),fun H1 s1 el=>?_⟩
  refine⟨_,rfl,x,u,rfl,hx.same s1,smu,fun H2 s2=>⟨_,rfl,?_⟩⟩
  have s12:=s1.trans s2
  unfold lr5 at el
  cases ef:rZ u with
  |false =>
   rw [ef] at el
   exact bx (bx (qN el _ s12))
  |true =>
   rw [ef,Bool.true_and] at el
   refine bU ⟨_,rfl,p,_,rfl,.inr (SqT.of (s12 _ _ hp)),_,_,rfl,rfl,_,rfl,aO (fun c=>?_) (fun c=>?_)⟩
   ·have c':(xs.length:Int) < 5:=od0 c
    rw [dt0 (by omega),if_pos rfl] at el
    exact⟨_,rfl,q 0 el _ _ xs s12 ⟨p,rfl,.inr (SqT.of (s12 _ _ hp))⟩ (hxs.same s12)⟩
   ·have c':¬(xs.length:Int) < 5:=fun y=>c (dt0 y)
    rw [df0 (by omega)] at el
    exact qN el _ s12
 obtain⟨t4,d4,k4⟩:∃t,PSs (dP CX0 P w K mg base rsN "_law_rest" (ah gA) f cdv A q0 s H E).nox (List.drop 4 (ap gA)) t/\∀H1,aM H H1->lr u ts=lr4 u ts->t { nx:=fun _ H'=>Q .non H',rt:=Q } [some x,some (.ref p)] H1:=by
  refine⟨_,@af _ _ _ _ _ (aF (am (BR hu) (aE (aa (pv 0) (aa (aq aw rfl ml boot_len (aa (pv 1) ac)) ac)))
   (@cc _ _ _ _ (@aa _ _ _ _ _ sk (@aa _ _ _ _ _ sk (@aa _ _ _ _ _ sk (@aa _ _ _ _ _ sk (@aa _ _ _ _ _ sk (@aa _ _ _ _ _ sk (@ac _) se2) se2) se2) se2) se2) se2)) (by with_unfolding_all rfl)) (aj (ao (pv 1))) ar) @d5,fun H1 s1 el=>?_⟩
  refine⟨_,rfl,_,rfl,p,_,rfl,.inr (SqT.of (s1 _ _ hp)),(sz 2),fun p0 h0=>?_⟩
  intro p1 h1 p2 h2 p3 h3 p4 h4 p5 h5 p6 h6
  refine⟨(sz 6),fun l hl=>?_⟩
  have z0:=ae h0 (.tup [x,.int (xs.length:Int)])
  have z1:=ae h1 (.tup [.str "=",.int 2])
  have z2:=ae h2 (.tup [.str "<",.int 2])
  have z3:=ae h3 (.tup [.str "if",.int 3])
  have z4:=ae h4 (.tup [.str "two",.int 2])
  have z5:=ae h5 (.tup [.str "first",.int 1])
  have z6:=ae h6 (.tup [.str "second",.int 1])
  have z7:=ae hl (.lst [.ref p1,.ref p2,.ref p3,.ref p4,.ref p5,.ref p6])
  have y6:=z6.trans z7
  have y5:=z5.trans y6
  have y4:=z4.trans y5
  have y3:=z3.trans y4
  have y2:=z2.trans y3
  have y1:=z1.trans y2
  have y0:=z0.trans y1
  have s2:=s1.trans y0
  have pr:∀{Hf:Hp} {pp:Addr} {a:Str} {i:Int},Hf pp=some (.tup [.str a,.int i])->Dat K Hf (.ref pp) (.tuple [.str a,.int i]):=fun h=>.tup (SqT.of h) (.cons (.str _) (.cons (.int _) .nil))
  refine⟨l,_,[.tuple [.str "=",.int 2],.tuple [.str "<",.int 2],.tuple [.str "if",.int 3],.tuple [.str "two",.int 2],.tuple [.str "first",.int 1],.tuple [.str "second",.int 1]],.tuple [u.dat,.int (xs.length:Int)],rfl,SqL.of ad,
   .cons (pr (y2 _ _ ad)) (.cons (pr (y3 _ _ ad)) (.cons (pr (y4 _ _ ad)) (.cons (pr (y5 _ _ ad)) (.cons (pr (y6 _ _ ad)) (.cons (pr (z7 _ _ ad)) .nil))))),.tup (SqT.of (y1 _ _ ad)) (.cons (hx.same s2).dat (.cons (.int _) .nil)),by decide +kernel,?_,?_,?_⟩
  ·simp only [PyData.canLay0,PyData.canLayAll0,smu.laid.1,Bool.and_self]
  ·simp only [PyData.depth,PyData.depthAll]
   have:=smu.laid.2
   omega
  have ev:∀(a:Str) (i:Int),PyData.eqv (.tuple [.str a,.int i]) (.tuple [u.dat,.int (xs.length:Int)])=(isW u a&&decide (i=(ts.length:Int))):=fun a i=>by
   rw [xl]
   exact BI u a i _
  have e:([PyData.tuple [.str "=",.int 2],.tuple [.str "<",.int 2],.tuple [.str "if",.int 3],.tuple [.str "two",.int 2],.tuple [.str "first",.int 1],.tuple [.str "second",.int 1]].any fun e=>PyData.eqv e (.tuple [u.dat,.int (xs.length:Int)]))=prB u ts.length:=by
   unfold prB prs
   simp only [List.any_cons,List.any_nil,ev]
  show Wb (V.bl ([PyData.tuple [.str "=",.int 2],.tuple [.str "<",.int 2],.tuple [.str "if",.int 3],.tuple [.str "two",.int 2],.tuple [.str "first",.int 1],.tuple [.str "second",.int 1]].any fun e=>PyData.eqv e (.tuple [u.dat,.int (xs.length:Int)]))) _ _
  rw [e]
  refine⟨_,rfl,?_⟩
  unfold lr4 at el
  cases ep:prB u ts.length with
  |true =>
   rw [ep,if_pos rfl] at el
   exact bU ⟨_,rfl,q 0 el _ _ xs s2 ⟨p,rfl,.inr (SqT.of (s2 _ _ hp))⟩ (hxs.same s2)⟩
  |false =>
   rw [ep] at el
   exact bx (k5 _ s2 el)
 have cut:∀(H1:Hp) (Q':VK),aM H H1->2<=ts.length->(∀H2 v ys,aM H1 H2->Dy K H2 v ys->aJ K H2 ys (ts.drop 1)->Q' v H2)->Dn K (.ref p) (some 1) none H1 Q':=fun H1 Q' s1 l1 h=>by
  refine⟨p,xs,rfl,SqT.of (s1 _ _ hp),ba (k:=1) (by decide) (by omega),fun p5 hp5=>?_⟩
  have s5:=ae hp5 (.tup (dc xs (some 1) none))
  have e5:dc xs (some 1) none=xs.drop 1:=dm _ 1
  refine h _ _ (xs.drop 1) s5 ⟨p5,rfl,.inr (SqT.of (by rw [ad,e5]))⟩ ?_
  have h0:=hxs.same (s1.trans s5)
  cases h0 with|nil=>exact .nil|cons _ hz=>exact hz
 obtain⟨t3,d3,k3⟩:∃t,PSs (dP CX0 P w K mg base rsN "_law_rest" (ah gA) f cdv A q0 s H E).nox (List.drop 3 (ap gA)) t/\∀H1,aM H H1->lr u ts=lr3 u ts->t { nx:=fun _ H'=>Q .non H',rt:=Q } [some x,some (.ref p)] H1:=by
  refine⟨_,@af _ _ _ _ _ (aF (PW.pt (cr (am (dY hu) (pv 0) ak (av _)) (cr (am aZ (aq aw rfl ml boot_len (aa (pv 1) ac)) ag (av _)) (cz (bt (ai GM hr1 rfl mM kM bM .nil aC (aa (ix0 au (pv 1) ag) ac))))))) (aj (ao (aH cx (pv 1) (aP ag) aT))) ar) @d4,fun H1 s1 el=>?_⟩
  refine⟨_,rfl,_,_,(hx.same s1).dat,.str "let",smu.shaped,bc _ (by decide +kernel),?_⟩
  show Wb (V.bl (PyData.eqv u.dat (.str "let"))) _ _
  rw [oI]
  refine⟨_,rfl,?_⟩
  unfold lr3 at el
  cases ew:isW u "let" with
  |false =>
   rw [ew] at el
   exact bx (bx (k4 _ s1 el))
  |true =>
   rw [ew,Bool.true_and] at el
   refine bU ⟨_,rfl,p,_,rfl,.inr (SqT.of (s1 _ _ hp)),rfl,_,rfl,aO (fun c=>?_) (fun c=>?_)⟩
   ·have c':(xs.length:Int)=3:=V.int.inj (od0 c)
    have l3:ts.length=3:=by omega
    rw [dt0 l3,Bool.true_and] at el
    obtain⟨y,hy,hyt⟩:=lJ hxs (by omega)
    rcases wo (hyt.same s1) (sm.hd (by omega)) with ⟨z,rfl,lz,ez⟩|⟨pp,us,rfl,hpp,ez⟩
    ·refine⟨_,rfl,p,_,_,.str z,rfl,rfl,SqT.of (s1 _ _ hp),hy,_,rfl,.inl ⟨z,rfl,lz,fun H2 s2=>⟨_,rfl,?_⟩⟩⟩
     have s12:=s1.trans s2
     rw [ez] at el
     cases en:aA z with
     |true =>
      rw [en,if_pos rfl] at el
      exact bU ⟨_,rfl,_,rfl,cut H2 _ s12 (by omega) fun H3 v ys s3 hv hys=>q 1 el _ _ ys (s12.trans s3) hv hys⟩
     |false =>
      rw [en] at el
      exact bx (k4 _ s12 el)
    ·refine⟨_,rfl,p,_,_,.ref pp,rfl,rfl,SqT.of (s1 _ _ hp),hy,_,rfl,.inr ⟨pp,us,rfl,hpp,_,rfl,bx ?_⟩⟩
     rw [ez] at el
     exact k4 _ s1 el
   ·have l3:ts.length≠3:=fun e=>c (dt0 (by rw [xl,e];rfl))
    rw [df0 l3] at el
    exact bx (k4 _ s1 el)
 obtain⟨t2,d2,k2⟩:∃t,PSs (dP CX0 P w K mg base rsN "_law_rest" (ah gA) f cdv A q0 s H E).nox (List.drop 2 (ap gA)) t/\∀H1,aM H H1->lr u ts=lr2 u ts->t { nx:=fun _ H'=>Q .non H',rt:=Q } [some x,some (.ref p)] H1:=by
  refine⟨_,@af _ _ _ _ _ (aF (PW.pt (cr (am (dY hu) (pv 0) ak (av _)) (cr (am aZ (aq aw rfl ml boot_len (aa (pv 1) ac)) ag (av _)) (cz (bt (ai GS hr rfl mS kS bS .nil aC (aa (ix0 au (pv 1) ag) ac))))))) (aj (ao (aH cx (pv 1) (aP ag) aT))) ar) @d3,fun H1 s1 el=>?_⟩
  refine⟨_,rfl,_,_,(hx.same s1).dat,.str "as",smu.shaped,bc _ (by decide +kernel),?_⟩
  show Wb (V.bl (PyData.eqv u.dat (.str "as"))) _ _
  rw [oI]
  refine⟨_,rfl,?_⟩
  unfold lr2 at el
  cases ew:isW u "as" with
  |false =>
   rw [ew] at el
   exact bx (bx (k3 _ s1 el))
  |true =>
   rw [ew,Bool.true_and] at el
   refine bU ⟨_,rfl,p,_,rfl,.inr (SqT.of (s1 _ _ hp)),rfl,_,rfl,aO (fun c=>?_) (fun c=>?_)⟩
   ·have c':(xs.length:Int)=2:=V.int.inj (od0 c)
    have l3:ts.length=2:=by omega
    rw [dt0 l3,Bool.true_and] at el
    obtain⟨y,hy,hyt⟩:=lJ hxs (by omega)
    refine⟨_,rfl,p,_,_,y,rfl,rfl,SqT.of (s1 _ _ hp),hy,y,_,rfl,hyt.same s1,sm.hd (by omega),_,rfl,?_⟩
    cases en:(eu (hd0 ts)).isSome with
    |true =>
     rw [en,if_pos rfl] at el
     exact bU ⟨_,rfl,_,rfl,cut H1 _ s1 (by omega) fun H3 v ys s3 hv hys=>q 1 el _ _ ys (s1.trans s3) hv hys⟩
    |false =>
     rw [en] at el
     exact bx (k3 _ s1 el)
   ·have l3:ts.length≠2:=fun e=>c (dt0 (by rw [xl,e];rfl))
    rw [df0 l3] at el
    exact bx (k3 _ s1 el)
 obtain⟨t1,d1,k1⟩:∃t,PSs (dP CX0 P w K mg base rsN "_law_rest" (ah gA) f cdv A q0 s H E).nox (List.drop 1 (ap gA)) t/\∀H1,aM H H1->lr u ts=lr1 u ts->t { nx:=fun _ H'=>Q .non H',rt:=Q } [some x,some (.ref p)] H1:=by
  refine⟨_,@af _ _ _ _ _ (aF (PW.pt (cr (am (Au hu) (pv 0) (aE (aa ak (aa ak (aa ak ac)))) (by with_unfolding_all rfl)) (cr (am aZ (aq aw rfl ml boot_len (aa (pv 1) ac)) ag (av _)) (cz (bt (ai GS hr rfl mS kS bS .nil aC (aa (ix0 au (pv 1) ag) ac))))))) (aj (ao (aH cx (pv 1) (aP ag) aT))) ar) @d2,fun H1 s1 el=>?_⟩
  refine⟨_,rfl,(sz 3),fun p0 h0=>?_⟩
  have z0:=ae h0 (.tup [.str "+",.str "-",.str "*"])
  have s2:=s1.trans z0
  refine⟨p0,_,[.str "+",.str "-",.str "*"],u.dat,rfl,SqT.of ad,.cons (.str _) (.cons (.str _) (.cons (.str _) .nil)),(hx.same s2).dat,by decide +kernel,smu.laid.1,by have:=smu.laid.2;omega,?_⟩
  have e:([PyData.str "+",.str "-",.str "*"].any fun e=>PyData.eqv e u.dat)=yh u:=by
   unfold yh
   simp only [List.any_cons,List.any_nil,BO,Bool.or_false]
  show Wb (V.bl ([PyData.str "+",.str "-",.str "*"].any fun e=>PyData.eqv e u.dat)) _ _
  rw [e]
  refine⟨_,rfl,?_⟩
  unfold lr1 at el
  cases ew:yh u with
  |false =>
   rw [ew] at el
   exact bx (bx (k2 _ s2 el))
  |true =>
   rw [ew,Bool.true_and] at el
   refine bU ⟨_,rfl,p,_,rfl,.inr (SqT.of (s2 _ _ hp)),rfl,_,rfl,aO (fun c=>?_) (fun c=>?_)⟩
   ·have c':(xs.length:Int)=3:=V.int.inj (od0 c)
    have l3:ts.length=3:=by omega
    rw [dt0 l3,Bool.true_and] at el
    obtain⟨y,hy,hyt⟩:=lJ hxs (by omega)
    refine⟨_,rfl,p,_,_,y,rfl,rfl,SqT.of (s2 _ _ hp),hy,y,_,rfl,hyt.same s2,sm.hd (by omega),_,rfl,?_⟩
    cases en:(eu (hd0 ts)).isSome with
    |true =>
     rw [en,if_pos rfl] at el
     exact bU ⟨_,rfl,_,rfl,cut _ _ s2 (by omega) fun H3 v ys s3 hv hys=>q 1 el _ _ ys (s2.trans s3) hv hys⟩
    |false =>
     rw [en] at el
     exact bx (k2 _ s2 el)
   ·have l3:ts.length≠3:=fun e=>c (dt0 (by rw [xl,e];rfl))
    rw [df0 l3] at el
    exact bx (k2 _ s2 el)
 refine⟨_,@af _ _ _ _ _ (aF (PW.pt (cr (am (dY hu) (pv 0) ak (av _)) (cz (am aZ (aq aw rfl ml boot_len (aa (pv 1) ac)) ag (av _)))))
  (aj (ao (ix0 bd (cc (aa (cc ac) (aa dW ac))) (aL tY rfl mI pV (aa (AX (ci (ai GS hr rfl mS kS bS .nil aC (aa (ix0 au (pv 1) ag) ac))
   (dw (mY my ij ag (ai GN hr1 rfl mN kN bN .nil aC (aa (ix0 au (pv 1) ag) ac)) (ai GN hr1 rfl mN kN bN .nil aC (aa (ix0 au (pv 1) ag) ac)))))) ac))))) ar) @d1,?_⟩
 refine⟨_,rfl,_,_,hx.dat,.str "lit",smu.shaped,bc _ (by decide +kernel),?_⟩
 show Wb (V.bl (PyData.eqv u.dat (.str "lit"))) _ _
 rw [oI]
 refine⟨_,rfl,?_⟩
 have el:lr u ts=if (isW u "lit"&&decide (ts.length=2))=true then lrL ts else lr1 u ts:=rfl
 cases ew:isW u "lit" with
 |false =>
  rw [ew] at el
  exact bx (bx (k1 _ sr0 el))
 |true =>
  rw [ew,Bool.true_and] at el
  refine bU ⟨_,rfl,p,_,rfl,.inr (SqT.of hp),rfl,_,rfl,aO (fun c=>?_) (fun c=>?_)⟩
  ·have c':(xs.length:Int)=2:=V.int.inj (od0 c)
   have l2:ts.length=2:=by omega
   rw [dt0 l2,if_pos rfl] at el
   obtain⟨t1,t2,y1,y2,rfl,rfl,hy1,hy2⟩:=tk2 l2 hxs
   have el':lr u [t1,t2]=if AS t1 t2=true then some 2 else none:=el
   refine⟨(sz 0),fun l0 h0=>⟨(sz 2),fun l hl=>?_⟩⟩
   have z0:=ae h0 (.lst [])
   have z1:=ae hl (.lst [.ref l0,.non])
   have s1:=z0.trans z1
   have fin:∀b:Bool,AS t1 t2=b->Wg SqL K (.ref l) (.int (if (!b)=true then 1 else 0)) (upd (upd H l0 (.lst [])) l (.lst [.ref l0,.non])) Q:=fun b hb=>by
    rw [hb] at el'
    cases b with
    |true =>
     rw [if_pos rfl] at el'
     exact⟨l,_,_,.ref l0,rfl,rfl,SqL.of ad,at0,q 2 el' _ _ [] s1 ⟨l0,rfl,.inl (SqL.of (z1 _ _ ad))⟩ .nil⟩
    |false=>exact⟨l,_,_,.non,rfl,rfl,SqL.of ad,at1,qN el' _ s1⟩
   refine⟨_,rfl,p,_,_,y2,rfl,rfl,SqT.of (s1 _ _ hp),at1,y2,t2,rfl,hy2.same s1,sm.tail.head,_,rfl,?_⟩
   unfold AS at fin
   cases e1:(eu t2).isSome with
   |false =>
    refine bx ⟨_,rfl,.inr ⟨_,rfl,?_⟩⟩
    exact fin false (by rw [e1];rfl)
   |true =>
    rw [e1,Bool.true_and] at fin
    refine bU ⟨_,rfl,p,_,_,y1,rfl,rfl,SqT.of (s1 _ _ hp),at0,y1,t1,rfl,hy1.same s1,sm.head,_,_,rfl,rfl,_,rfl,aO (fun c2=>?_) (fun c2=>?_)⟩
    ·have c3:(0:Int)<=ou t1:=od0 c2
     rw [dt0 c3,Bool.true_and] at fin
     refine⟨_,rfl,p,_,_,y2,rfl,rfl,SqT.of (s1 _ _ hp),at1,y2,t2,rfl,hy2.same s1,sm.tail.head,_,_,rfl,rfl,_,rfl,.inr ⟨_,rfl,?_⟩⟩
     exact fin _ rfl
    ·have c3:¬(0:Int)<=ou t1:=fun y=>c2 (dt0 y)
     rw [df0 c3] at fin
     exact⟨_,rfl,.inr ⟨_,rfl,fin false rfl⟩⟩
  ·have l2:ts.length≠2:=fun e=>c (dt0 (by rw [xl,e];rfl))
   rw [df0 l2] at el
   exact k1 _ sr0 el
theorem yx:ax ["_law_tree","_law_rest_here"] ["_law_tree"] (ah rW):=mkS
theorem u7{f fr fn:Addr}{fd fdr fdn:FuncData} (F:Fun K "_law_is_expression" "_law_is_expression" rW f fd) (bF:aX K fd ["_law_tree"] []) (kF:W.keepIn K (.ref f)=true) (mF:mg "_law_is_expression"=some (.ref f))
  (GR:aV P w K mg base CX0 3 fr fdr rsN (yS K)) (bR:aX K fdr rsN []) (kR:W.keepIn K (.ref fr)=true) (mR:mg "_law_rest"=some (.ref fr))
  (GN:aV P w K mg base CX0 1 fn fdn ["_law_tree"] (gZ K)) (bN:aX K fdn ["_law_tree"] []) (kN:W.keepIn K (.ref fn)=true) (mN:mg "_law_is_name"=some (.ref fn))
  (mi:mg "isinstance"=none) (ms:mg "str"=none) (ml:mg "len"=none) (mall:mg "all"=none):∀n,aV P w K mg base CX0 (n+4) f fd ["_law_tree"] (yE K n)
 |0=>⟨fun vs H Q E h=>by obtain⟨x,k,rfl,_⟩:=h;rfl,fun A q0 s H args us vs Q E _ _ _ _ h=>by
   obtain⟨x,k,_,_,_,hd,_⟩:=h
   omega⟩
 |n+1=>by
  have IH:=u7 F bF kF mF GR bR kR mR GN bN kN mN mi ms ml mall n
  refine F.k0 yx fun cdv A q0 s H vs Q E hr h=>?_
  obtain⟨x,t,rfl,hx,sm,hd,q⟩:=h
  have hr1:bq 1 _:=hr.mono (by omega)
  have hr3:bq 3 _:=hr.mono (by omega)
  refine⟨_,af (aF (bt (aq bh rfl mi bH (aa (pv 0) (aa (bJ rfl ms cb (v:=.ty "str") rfl) ac)))) (aj (ao (ai GN hr1 rfl mN kN bN .nil aC (aa (pv 0) ac)))) ar)
   (af (aF (am aZ (aq aw rfl ml boot_len (aa (pv 0) ac)) ag (av _)) (aj (ao fR)) ar)
   (af (aS (i:=1) yx.nd (ai GR hr3 rfl mR kR bR .nil aC (aa (ix0 au (pv 0) ag) (aa (aH cx (pv 0) (aP ag) aT) ac))))
   (aj (ao (ci (cv vf (pv 1) dW (av _)) (dw (aq (bV rfl) rfl mall dq (aa (bi (own:=["_law_one"]) (Bw (pv 1))
    (fun _ _ _ _=>pg0 ["_law_one"]) (fun _ _ _ _=>ai IH hr rfl mF kF bF .nil aC (aa (pv 0) ac))) ac)))))))),?_⟩
  cases hx with
  |w z =>
   refine⟨_,rfl,.str z,"str",_,true,rfl,.str _,eJ K,true,rfl,bU ?_⟩
   refine⟨_,rfl,_,rfl,.inl ⟨z,rfl,sm.word.1,fun H' s'=>?_⟩⟩
   have:=q H' s'
   rw [show(ex? (.w z)).isSome=aA z from by show(if aA z=true then some (Ex.var z) else none).isSome=aA z;cases aA z<;>rfl] at this
   exact this
  |@n a xs ts ha hxs =>
   refine⟨_,rfl,.ref a,"str",_,false,rfl,.tup ha,dZ K,false,rfl,bx ?_⟩
   cases hxs with
   |nil =>
    refine⟨_,rfl,a,_,rfl,.inr (SqT.of ha),rfl,_,rfl,aO (fun _=>?_) (fun c=>absurd (by decide) c)⟩
    exact q H sr0
   |@cons y u ys ts hy hys =>
    have hdr:∀v∈ts,v.dep < n:=fun v hv=>by
     have h1:1+fF (u::ts) < n+1:=hd
     have h2:=gF (ts:=u::ts) (.tail _ hv)
     omega
    have smr:=sm.sub.tail
    refine⟨_,rfl,a,_,rfl,.inr (SqT.of ha),rfl,_,rfl,aO (fun c=>?_) (fun _=>?_)⟩
    ·have c':((y::ys).length:Int)=0:=V.int.inj (od0 c)
     rw [lc0] at c'
     omega
    rw [Ck] at q
    refine⟨_,rfl,a,_,_,y,rfl,rfl,SqT.of ha,at0,_,rfl,_,rfl,a,_,rfl,SqT.of ha,ba (k:=1) (by decide) (by simp),fun p5 hp5=>?_⟩
    have s5:=ae hp5 (.tup (dc (y::ys) (some 1) none))
    have e5:dc (y::ys) (some 1) none=ys:=dm _ 1
    have h5:∀Hq:Hp,(upd Hq p5 (.tup (dc (y::ys) (some 1) none))) p5=some (.tup ys):=fun Hq=>by rw [ad,e5]
    refine⟨y,u,p5,ys,ts,rfl,hy.same s5,sm.sub.head,h5 _,hys.same s5,smr,fun k ek H2 v zs s2 hv hzs=>?_,fun ek H2 s2=>?_⟩
    ·rw [ek] at q
     have smd:=smr.drop k
     have zl:=hzs.length
     have cl:=smd.count
     have dd:∀v∈ts.drop k,v.dep < n:=fun v hv=>hdr v (List.mem_of_mem_drop hv)
     obtain⟨b,rfl,hsq⟩:=hv
     refine⟨_,rfl,rfl,_,rfl,bU ⟨_,rfl,b,rfl,?_⟩⟩
     have S:=s5.trans s2
     rcases hsq with hsq|hsq
     ·refine .inl ⟨⟨_,hsq⟩,?_⟩
      refine cQ (J:=Itl K b) (xs:=zs) (fun i os H3=>i<=(ts.drop k).length/\os=(((ts.drop k).take i).map fun t=>(ex? t).isSome).map V.bl/\aM H2 H3) ⟨Nat.zero_le _,rfl,sr0⟩ (de (by omega)) ?_ ?_ ?_ ?_ ?_ ?_
      ·rintro i os H3 ⟨hi,rfl,_⟩
       rw [lm0,lm0,List.length_take]
       omega
      ·rintro i u os H3 hu ⟨_,_,s3⟩
       exact⟨_,_,s3.seq hsq,hu⟩
      ·rintro i os u H3 H' hn ⟨_,_,s3⟩ hy
       exact⟨hy.1,hy.2 _ (s3.seq hsq)⟩
      ·rintro os H3 ⟨_,_,s3⟩
       exact⟨_,s3.seq hsq,Nat.le_refl _⟩
      ·rintro i u os H3 N hN hu ⟨hi,rfl,s3⟩
       obtain⟨t,ht,hut⟩:=hzs.get hu
       have hm:=List.mem_of_getElem? ht
       refine⟨rfl,aY ⟨_,rfl,u,t,rfl,hut.same s3,smd.mem hm,dd t hm,fun H4 s4=>hN _ _ ⟨(List.getElem?_eq_some_iff.mp ht).1,?_,s3.trans s4⟩⟩⟩
       rw [List.take_add_one,ht,ma0,ma0]
       rfl
      ·rintro os H3 D ⟨hi,rfl,s3⟩ hD
       refine⟨D,(ts.drop k).map fun t=>(ex? t).isSome,rfl,SqL.of ?_,?_⟩
       ·rw [ad,zl,List.take_length]
       ·exact q _ (S.trans (s3.trans (ae hD _)))
     ·refine .inr ⟨⟨_,hsq⟩,?_⟩
      refine cQ (J:=Itt K b) (xs:=zs) (fun i os H3=>i<=(ts.drop k).length/\os=(((ts.drop k).take i).map fun t=>(ex? t).isSome).map V.bl/\aM H2 H3) ⟨Nat.zero_le _,rfl,sr0⟩ (de (by omega)) ?_ ?_ ?_ ?_ ?_ ?_
      ·rintro i os H3 ⟨hi,rfl,_⟩
       rw [lm0,lm0,List.length_take]
       omega
      ·rintro i u os H3 hu ⟨_,_,s3⟩
       exact⟨_,_,s3.tup hsq,hu⟩
      ·rintro i os u H3 H' hn ⟨_,_,s3⟩ hy
       exact⟨hy.1,hy.2 _ (s3.tup hsq)⟩
      ·rintro os H3 ⟨_,_,s3⟩
       exact⟨_,s3.tup hsq,Nat.le_refl _⟩
      ·rintro i u os H3 N hN hu ⟨hi,rfl,s3⟩
       obtain⟨t,ht,hut⟩:=hzs.get hu
       have hm:=List.mem_of_getElem? ht
       refine⟨rfl,aY ⟨_,rfl,u,t,rfl,hut.same s3,smd.mem hm,dd t hm,fun H4 s4=>hN _ _ ⟨(List.getElem?_eq_some_iff.mp ht).1,?_,s3.trans s4⟩⟩⟩
       rw [List.take_add_one,ht,ma0,ma0]
       rfl
      ·rintro os H3 D ⟨hi,rfl,s3⟩ hD
       refine⟨D,(ts.drop k).map fun t=>(ex? t).isSome,rfl,SqL.of ?_,?_⟩
       ·rw [ad,zl,List.take_length]
       ·exact q _ (S.trans (s3.trans (ae hD _)))
    ·rw [ek] at q
     exact⟨_,rfl,rfl,_,rfl,bx (q _ (s5.trans s2))⟩
structure DO(K:W.Frag)(H H3:Hp)(R T:Addr)(st:List (Addr × List Tr))(ts:List Tr)(ps:List (List Nat))(i:Nat):Prop where
 same:aM H H3
 rl:H3 R=some (.lst ((st.map fun p=>.ref p.1)++[.ref T]))
 tl:∃xs,H3 T=some (.lst xs)/\aJ K H3 xs ts
 sl:∀p∈st,∃ys,H3 p.1=some (.lst ys)/\aJ K H3 ys p.2
 nd:(R::T::st.map (·.1)).Nodup
 new:∀a∈R::T::st.map (·.1),H a=none
 ok:oks ts
 oks:∀p∈st,oks p.2
 hg:hgt st.length (ps.drop i)=hgt 0 ps
 fl:fX st ts=ps.take i
 l1:ts.length<=i
 l2:∀p∈st,p.2.length<=i
 l3:st.length<=i
inductive nr(K:W.Frag):Sp|mk{vs H Q E}(p:Addr)(ws:List Str)(_:vs=[.ref p])(_:SqL K H p (ws.map V.str))(_:ws.length<=400)(_:(∀s∈ws,pH s))(_:hgt 0 (ws.map cps)=some 0)(_:∀H' (l:Addr) (xs:List V) (ts:List Tr),aM H H'->H' l=some (.lst xs)->aJ K H' xs ts->oks ts->aD ts=ws.map cps->Q (.ref l) H'):nr K vs H Q E
abbrev tlN:List Str:=["_law_tokens_here","_law_rows","_law_token","_law_whole"]
theorem jt:ax tlN ["_law_tokens_here"] (ah iz):=mkS
theorem tO{f:Addr}{fd:FuncData} (F:Fun K "_law_trees" "_law_trees" iz f fd) (mt:mg "tuple"=none):aV P w K mg base CX0 1 f fd ["_law_tokens_here"] (nr K):=by
 refine F.k0 jt fun cdv A q0 s H vs Q E hr h=>?_
 obtain⟨Pl,ws,rfl,hPl,hw3,htok,h0,qQ⟩:=h
 refine⟨_,af (aS (i:=1) jt.nd (cc (aa (cc ac) ac)))
  (af (fg PassesOwn.never rfl (eV (pv 0)) (cU (i:=2) jt.nd rfl (Or.inl rfl))
   (aj (aF (am aZ (pv 2) ak (av _))
    (aj (aU (eU PySem.F.plainAttrs_list PySem.F.slot_list_append PySem.F.type_list_append bZ (pv 1) (aa (cc ac) ac))))
    (aj (aF (am aZ (pv 2) ak (av _))
     (af (aS (i:=3) jt.nd (aL aI rfl mt aR (aa (vL PySem.F.plainAttrs_list PySem.F.slot_list_pop PySem.F.type_list_pop wc (pv 1)) ac)))
     (aj (aU (eU PySem.F.plainAttrs_list PySem.F.slot_list_append PySem.F.type_list_append bZ (ix0 bd (pv 1) (yp ro ag)) (aa (pv 3) ac)))))
     (aj (aU (eU PySem.F.plainAttrs_list PySem.F.slot_list_append PySem.F.type_list_append bZ (ix0 bd (pv 1) (yp ro ag)) (aa (pv 2) ac)))))))))
  (aj (ao (ix0 bd (pv 1) ag)))),?_⟩
 refine⟨(sz 0),fun T0 hT0=>⟨(sz 1),fun R hR=>?_⟩⟩
 have hRT:R≠T0:=fun e=>by rw [e,ad] at hR;cases hR
 have hR':H R=none:=by rw [aK hRT] at hR;exact hR
 have s0:=(ae hT0 (.lst [])).trans (ae hR (.lst [.ref T0]))
 have hpc:∀(i:Nat) (p:Str),ws[i]?=some p->(ws.map cps)[i]?=some (cps p)/\Pc (cps p):=fun i p hp=>by
  exact⟨by rw [List.getElem?_map,hp];rfl,(htok p (List.mem_of_getElem? hp)).2.1⟩
 refine⟨_,rfl,Pl,rfl,⟨_,s0.seq hPl⟩,mQ (K:=K) (xs:=ws.map V.str) (fun i σ H3=>∃(T:Addr) (st:List (Addr × List Tr)) (ts:List Tr) (v2 v3:Option V),σ=[some (.ref Pl),some (.ref R),v2,v3]/\DO K H H3 R T st ts (ws.map cps) i)
  ⟨T0,[],[],none,none,rfl,⟨s0,ad,⟨[],(ae hR _) _ _ ad,.nil⟩,(fun p hp=>nomatch hp),?_,?_,True.intro,(fun p hp=>nomatch hp),rfl,rfl,Nat.le_refl _,(fun p hp=>nomatch hp),Nat.zero_le _⟩⟩ ?_ ?_ ?_⟩
 ·simp only [List.map_nil,List.nodup_cons,List.mem_cons,List.not_mem_nil,or_false,List.nodup_nil,not_false_eq_true,and_true]
  exact hRT
 ·intro a ha
  simp only [List.map_nil,List.mem_cons,List.not_mem_nil,or_false] at ha
  rcases ha with rfl|rfl
  ·exact hR'
  ·exact hT0
 ·rintro i σ H3 _ ⟨T,st,ts,v2,v3,rfl,M⟩
  exact M.same.seq hPl
 ·rintro i y σ H3 hy ⟨T,st,ts,v2,v3,rfl,M⟩
  rw [List.getElem?_map] at hy
  obtain⟨p,hp,rfl⟩:=Option.map_eq_some_iff.mp hy
  obtain⟨hpi,hPc⟩:=hpc i p hp
  have hil:i < ws.length:=(List.getElem?_eq_some_iff.mp hp).1
  have hil2:i < (ws.map cps).length:=(List.getElem?_eq_some_iff.mp hpi).1
  obtain⟨xs,hT,hxs⟩:=M.tl
  have hdrop:(ws.map cps).drop i=cps p::(ws.map cps).drop (i+1):=by rw [List.drop_eq_getElem_cons hil2];congr 1;exact Option.some.inj ((List.getElem?_eq_getElem hil2).symm.trans hpi)
  have htake:(ws.map cps).take (i+1)=(ws.map cps).take i++[cps p]:=by rw [List.take_add_one,hpi];rfl
  have hg:=M.hg
  rw [hdrop] at hg
  have nd:=M.nd
  simp only [List.nodup_cons,List.mem_cons,not_or] at nd
  obtain⟨⟨nRT,nRs⟩,nTs,nss⟩:=nd
  have hRn:H R=none:=M.new R (.head _)
  have hTn:H T=none:=M.new T (.tail _ (.head _))
  have stl:(st.map fun p=>V.ref p.1).length=st.length:=List.length_map _
  have tsl:xs.length=ts.length:=hxs.length
  have l1:=M.l1
  have l3:=M.l3
  have rll:((st.map fun p=>V.ref p.1)++[V.ref T]).length=st.length+1:=by rw [la0,stl];rfl
  refine⟨_,rfl,rfl,_,rfl,aO (fun c1=>?_) (fun c1=>?_)⟩
  ·have e1:p="(":=V.str.inj (od0 c1)
   have ec:cps p=[40]:=by rw [e1];rfl
   rw [ec,hgt,if_pos rfl] at hg
   have hg2:hgt (st.length+1) ((ws.map cps).drop (i+1))=hgt 0 (ws.map cps):=by
    split at hg
    ·exact absurd h0 (by rw [<-hg];intro z;cases z)
    ·exact hg
   refine⟨_,rfl,.inl ⟨rfl,_,SqL.of M.rl⟩,(sz 0),fun T2 hT2=>?_⟩
   have z2:=ae hT2 (.lst [])
   have nT2R:T2≠R:=fun e=>by rw [e,M.rl] at hT2;cases hT2
   refine⟨R,_,_,rfl,rfl,z2 _ _ M.rl,mid (by rw [rll];omega),?_⟩
   have keep:∀a us,H3 a=some (.tup us)->upd (upd H3 T2 (.lst [])) R (.lst (((st.map fun p=>V.ref p.1)++[.ref T])++[.ref T2])) a=some (.tup us):=fun a us h=>d9 (z2 _ _ M.rl) (wx hT2 h)
   have hold:∀{b:Addr} {u:HO},b≠R->H3 b=some u->upd (upd H3 T2 (.lst [])) R (.lst (((st.map fun p=>V.ref p.1)++[.ref T])++[.ref T2])) b=some u:=fun {b u} nb h=>by
    rw [aK nb]
    exact z2 _ _ h
   have nT2:∀b,(∃u,H3 b=some u)->T2≠b:=fun b hb e=>by
    obtain⟨u,hu⟩:=hb
    rw [<-e,hT2] at hu
    cases hu
   refine⟨T2,st++[(T,ts)],[],_,_,rfl,⟨?_,?_,⟨[],by rw [aK nT2R];exact ad,.nil⟩,fun q hq=>?_,?_,fun a ha=>?_,True.intro,fun q hq=>?_,?_,?_,Nat.zero_le _,fun q hq=>?_,?_⟩⟩
   ·exact j7 (M.same.trans z2) hRn
   ·rw [ad,ma0]
    rfl
   ·rcases List.mem_append.mp hq with hq|hq
    ·obtain⟨ys,h1,h2⟩:=M.sl q hq
     exact⟨ys,hold (fun e=>nRs (e▸List.mem_map_of_mem (f:=(·.1)) hq)) h1,h2.keep keep⟩
    ·rw [List.mem_singleton.mp hq]
     exact⟨xs,hold (Ne.symm nRT) hT,hxs.keep keep⟩
   ·rw [ma0]
    show(R::T2::(st.map (·.1)++[T])).Nodup
    simp only [List.nodup_cons,List.mem_cons,List.mem_append,List.not_mem_nil,or_false,not_or,List.nodup_append,List.nodup_nil,not_false_eq_true,and_true,true_and]
    refine⟨⟨Ne.symm nT2R,nRs,nRT⟩,⟨fun hm=>?_,nT2 T ⟨_,hT⟩⟩,nss,fun a ha b hb=>?_⟩
    ·obtain⟨q,hq,e⟩:=List.mem_map.mp hm
     obtain⟨ys,h1,_⟩:=M.sl q hq
     exact nT2 q.1 ⟨_,h1⟩ e.symm
    ·rw [hb]
     exact fun e=>nTs (e▸ha)
   ·rw [ma0] at ha
    simp only [List.mem_cons,List.mem_append,List.map_cons,List.map_nil,List.not_mem_nil,or_false] at ha
    rcases ha with rfl|rfl|ha|rfl
    ·exact hRn
    ·exact aM.free M.same hT2
    ·exact M.new a (.tail _ (.tail _ ha))
    ·exact hTn
   ·rcases List.mem_append.mp hq with hq|hq
    ·exact M.oks q hq
    ·rw [List.mem_singleton.mp hq]
     exact M.ok
   ·rw [la0]
    exact hg2
   ·rw [eK,M.fl,htake,ec]
    rfl
   ·rcases List.mem_append.mp hq with hq|hq
    ·exact Nat.le_succ_of_le (M.l2 q hq)
    ·rw [List.mem_singleton.mp hq]
     exact Nat.le_succ_of_le l1
   ·rw [la0]
    show st.length+1<=i+1
    omega
  ·have n1:cps p≠[40]:=fun e=>c1 (dt0 (congrArg V.str (Tk.lst_inj (e.trans (show([40]:List Nat)=Tk.lst "(" from rfl)))))
   rw [hgt,if_neg n1] at hg
   refine⟨_,rfl,rfl,_,rfl,aO (fun c2=>?_) (fun c2=>?_)⟩
   ·have e1:p=")":=V.str.inj (od0 c2)
    have ec:cps p=[41]:=by rw [e1];rfl
    rw [ec,if_pos rfl] at hg
    have e3:st.length≠0:=fun e=>by
     rw [if_pos e] at hg
     exact absurd h0 (by rw [<-hg];intro z;cases z)
    rw [if_neg e3] at hg
    have hne:st≠[]:=fun e=>e3 (by rw [e];rfl)
    obtain⟨st',⟨T2,us⟩,rfl⟩:∃st' q,st=st'++[q]:=⟨_,_,(List.dropLast_concat_getLast hne).symm⟩
    obtain⟨ys,hT2,hys⟩:=M.sl (T2,us) (List.mem_append_right _ (.head _))
    have nRT2:R≠T2:=fun e=>nRs (by rw [ma0];exact List.mem_append_right _ (by rw [e];exact .head _))
    have nTT2:T≠T2:=fun e=>nTs (by rw [ma0];exact List.mem_append_right _ (by rw [e];exact .head _))
    refine⟨_,rfl,.inl ⟨rfl,_,SqL.of M.rl⟩,R,_,.ref T,rfl,rfl,M.rl,mw,?_⟩
    rw [List.dropLast_concat,show(st'++[(T2,us)]).map (fun p=>V.ref p.1)=(st'.map fun p=>V.ref p.1)++[V.ref T2] from ma0]
    have rl1:upd H3 R (.lst ((st'.map fun p=>V.ref p.1)++[.ref T2])) R=some (.lst ((st'.map fun p=>V.ref p.1)++[.ref T2])):=ad
    have hT1:upd H3 R (.lst ((st'.map fun p=>V.ref p.1)++[.ref T2])) T=some (.lst xs):=by rw [aK (Ne.symm nRT)];exact hT
    refine⟨T,xs,rfl,.inl ⟨SqL.of hT1,fun ta hta=>?_⟩⟩
    have sA:=ae hta (.tup xs)
    have hT2':=sA _ _ (show upd H3 R (.lst ((st'.map fun p=>V.ref p.1)++[.ref T2])) T2=some (.lst ys) from by rw [aK (Ne.symm nRT2)];exact hT2)
    have hul:ys.length<=90000:=by
     have e:=M.l2 (T2,us) (List.mem_append_right _ (.head _))
     have e2:=hys.length
     have e3:us.length<=i:=e
     omega
    refine⟨_,rfl,_,rfl,R,_,_,.ref T2,rfl,rfl,SqL.of (sA _ _ rl1),rO _ _,.inl ⟨rfl,_,SqL.of hT2'⟩,_,rfl,T2,_,_,rfl,rfl,hT2',mid (by omega),?_⟩
    have k0:∀a zs,H3 a=some (.tup zs)->upd (upd H3 R (.lst ((st'.map fun p=>V.ref p.1)++[.ref T2]))) ta (.tup xs) a=some (.tup zs):=fun a zs h=>sA _ _ (d9 M.rl h)
    have keep0:∀a zs,H3 a=some (.tup zs)->upd (upd (upd H3 R (.lst ((st'.map fun p=>V.ref p.1)++[.ref T2]))) ta (.tup xs)) T2 (.lst (ys++[.ref ta])) a=some (.tup zs):=fun a zs h=>d9 hT2' (k0 a zs h)
    have hold:∀{b:Addr} {u:HO},b≠R->b≠T2->H3 b=some u->upd (upd (upd H3 R (.lst ((st'.map fun p=>V.ref p.1)++[.ref T2]))) ta (.tup xs)) T2 (.lst (ys++[.ref ta])) b=some u:=fun {b u} nb nb2 h=>by
     rw [aK nb2]
     exact sA _ _ (by rw [aK nb];exact h)
    have hT2n:H T2=none:=M.new T2 (.tail _ (.tail _ (by rw [ma0];exact List.mem_append_right _ (.head _))))
    have ndS:(st'.map (·.1)).Nodup/\T2∉st'.map (·.1):=by
     have h:=nss
     rw [ma0,List.nodup_append] at h
     exact⟨h.1,fun hm=>h.2.2 T2 hm T2 (.head _) rfl⟩
    refine⟨T2,st',us++[.n ts],_,_,rfl,⟨?_,?_,⟨ys++[.ref ta],ad,(hys.keep keep0).append (.cons (.n (d9 hT2' ad) (hxs.keep keep0)) .nil)⟩,fun q hq=>?_,?_,fun a ha=>?_,?_,fun q hq=>?_,?_,?_,?_,fun q hq=>?_,?_⟩⟩
    ·exact j7 ((j7 M.same hRn).trans sA) hT2n
    ·rw [aK nRT2]
     exact sA _ _ rl1
    ·obtain⟨zs,h1,h2⟩:=M.sl q (List.mem_append_left _ hq)
     exact⟨zs,hold (fun e=>nRs (by rw [ma0,<-e];exact List.mem_append_left _ (List.mem_map_of_mem (f:=(·.1)) hq))) (fun e=>ndS.2 (e▸List.mem_map_of_mem (f:=(·.1)) hq)) h1,h2.keep keep0⟩
    ·simp only [List.nodup_cons,List.mem_cons,not_or]
     exact⟨⟨nRT2,fun hm=>nRs (by rw [ma0];exact List.mem_append_left _ hm)⟩,ndS.2,ndS.1⟩
    ·simp only [List.mem_cons] at ha
     rcases ha with rfl|rfl|ha
     ·exact hRn
     ·exact hT2n
     ·exact M.new a (.tail _ (.tail _ (by rw [ma0];exact List.mem_append_left _ ha)))
    ·exact jx (M.oks (T2,us) (List.mem_append_right _ (.head _))) ⟨M.ok,True.intro⟩
    ·exact M.oks q (List.mem_append_left _ hq)
    ·rw [la0] at hg
     exact hg
    ·rw [fD,fB,htake,ec,<-M.fl,eK]
     show _++[40]::(aD ts++[[41]])=_
     simp
    ·have e:=M.l2 (T2,us) (List.mem_append_right _ (.head _))
     have e2:us.length<=i:=e
     rw [la0]
     show us.length+1<=i+1
     omega
    ·exact Nat.le_succ_of_le (M.l2 q (List.mem_append_left _ hq))
    ·rw [la0] at l3
     exact Nat.le_succ_of_le (Nat.le_trans (Nat.le_add_right _ _) l3)
   ·have n2:cps p≠[41]:=fun e=>c2 (dt0 (congrArg V.str (Tk.lst_inj (e.trans (show([41]:List Nat)=Tk.lst ")" from rfl)))))
    rw [if_neg n2] at hg
    have hW:Tk.Word (cps p):=hPc.elim (fun e=>absurd e n1) fun h=>h.elim (fun e=>absurd e n2) id
    refine⟨_,rfl,_,rfl,R,_,_,.ref T,rfl,rfl,SqL.of M.rl,rO _ _,.inl ⟨rfl,_,SqL.of hT⟩,_,rfl,T,_,_,rfl,rfl,hT,mid (by omega),?_⟩
    have keep:∀a zs,H3 a=some (.tup zs)->upd H3 T (.lst (xs++[.str p])) a=some (.tup zs):=fun a zs h=>d9 hT h
    have hold:∀{b:Addr} {u:HO},b≠T->H3 b=some u->upd H3 T (.lst (xs++[.str p])) b=some u:=fun {b u} nb h=>by rw [aK nb];exact h
    refine⟨T,st,ts++[.w p],_,_,rfl,⟨j7 M.same hTn,hold nRT M.rl,⟨xs++[.str p],ad,(hxs.keep keep).append (.cons (.w p) .nil)⟩,fun q hq=>?_,M.nd,M.new,jx (b:=[.w p]) M.ok ⟨hW,True.intro⟩,M.oks,hg,?_,?_,fun q hq=>Nat.le_succ_of_le (M.l2 q hq),Nat.le_succ_of_le l3⟩⟩
    ·obtain⟨zs,h1,h2⟩:=M.sl q hq
     exact⟨zs,hold (fun e=>nTs (e▸List.mem_map_of_mem (f:=(·.1)) hq)) h1,h2.keep keep⟩
    ·rw [fD,fB,M.fl,htake]
     rfl
    ·rw [la0]
     exact Nat.succ_le_succ l1
 ·rintro σ H3 ⟨T,st,ts,v2,v3,rfl,M⟩
  have ew:(ws.map V.str).length=(ws.map cps).length:=by
   rw [lm0,lm0]
  rw [ew] at M
  obtain⟨xs,hT,hxs⟩:=M.tl
  have hg:=M.hg
  rw [List.drop_length] at hg
  have hg':some st.length=hgt 0 (ws.map cps):=hg
  rw [h0] at hg'
  have e0:st=[]:=List.length_eq_zero_iff.mp (Option.some.inj hg')
  subst e0
  refine⟨_,rfl,R,_,_,.ref T,rfl,rfl,SqL.of M.rl,rfl,qQ H3 T xs ts M.same hT hxs M.ok ?_⟩
  have:=M.fl
  rw [List.take_length] at this
  exact this
def fq(d:Nat):Nat->List (List Nat)->Option Nat
 |h,[]=>some h
 |h,p::r=>if p=[40] then (if h=d then none else fq d (h+1) r) else if p=[41] then (if h=0 then none else fq d (h - 1) r) else fq d h r
theorem lI:∀(ps:List (List Nat)) (h:Nat),fq 30 h ps=hgt h ps
 |[],h=>rfl
 |p::r,h=>by
  rw [fq,hgt,lI r (h+1),lI r (h - 1),lI r h]
theorem gU(d:Nat):∀(a b:List (List Nat)) (h:Nat),fq d h (a++b)=(fq d h a).bind fun k=>fq d k b
 |[],b,h=>rfl
 |p::a,b,h=>by
  show fq d h (p::(a++b))=_
  rw [fq,fq,gU d a b (h+1),gU d a b (h - 1),gU d a b h]
  split
  ·split<;>rfl
  ·split
   ·split<;>rfl
   ·rfl
theorem nj(d:Nat):∀(a:List (List Nat)) (h k:Nat),h<=d->fq d h a=some k->k<=d
 |[],h,k,hl,e=>by cases e;exact hl
 |p::a,h,k,hl,e=>by
  rw [fq] at e
  split at e
  ·split at e
   ·cases e
   ·exact nj d a (h+1) k (by omega) e
  ·split at e
   ·split at e
    ·cases e
    ·exact nj d a (h - 1) k (by omega) e
   ·exact nj d a h k hl e
theorem dH(d:Nat):∀(a:List (List Nat)) (h k:Nat),h<=d->fq d h a=some k->fq (d+1) h a=some k
 |[],h,k,hl,e=>e
 |p::a,h,k,hl,e=>by
  rw [fq] at e ⊢
  split at e
  ·rename_i c
   rw [if_pos c]
   split at e
   ·cases e
   ·rw [if_neg (by omega)]
    exact dH d a (h+1) k (by omega) e
  ·rename_i c
   rw [if_neg c]
   split at e
   ·rename_i c2
    rw [if_pos c2]
    split at e
    ·cases e
    ·rename_i c3
     rw [if_neg c3]
     exact dH d a (h - 1) k (by omega) e
   ·rename_i c2
    rw [if_neg c2]
    exact dH d a h k hl e
theorem CI{p:List Nat}(hw:Tk.Word p):p≠[40]/\p≠[41] :=
 ⟨fun z=>(hw.2 40 (by rw [z];exact .head _)).1 rfl,fun z=>(hw.2 41 (by rw [z];exact .head _)).2.1 rfl⟩
theorem ia{d h:Nat}{p:List Nat}{b:List (List Nat)}(hw:Tk.Word p):fq d h (p::b)=fq d h b:=by
 obtain⟨n1,n2⟩:=CI hw
 rw [fq,if_neg n1,if_neg n2]
theorem vI{d h:Nat}{b:List (List Nat)}(hl:h<=d):fq (d+1) h ([40]::b)=fq (d+1) (h+1) b:=by
 rw [fq,if_pos rfl,if_neg (by omega)]
theorem pG{d h:Nat}{b:List (List Nat)}:fq d (h+1) ([41]::b)=fq d h b:=by
 rw [fq,if_neg (by decide),if_pos rfl,if_neg (by omega)]
 rfl
def Bal(d:Nat)(ps:List (List Nat)):Prop:=fq d 0 ps=some 0
theorem Bal.mono{d:Nat}{ps:List (List Nat)}(h:Bal d ps):Bal (d+1) ps:=dH d ps 0 0 (Nat.zero_le _) h
theorem Bal.monos{d:Nat}{ps:List (List Nat)}(h:Bal d ps):∀{e:Nat},d<=e->Bal e ps:=fun {e} hl=>by
 induction e with
 |zero=>rw [Nat.le_zero.mp hl] at h;exact h
 |succ e ih =>
  rcases Nat.lt_or_ge e d with hlt|hge
  ·rw [show e+1=d by omega];exact h
  ·exact(ih hge).mono
theorem Bal.hgt{d:Nat}{ps:List (List Nat)}(h:Bal d ps)(hd:d<=30):hgt 0 ps=some 0:=by
 rw [<-lI]
 exact h.monos hd
theorem Bal.split{d:Nat}{a b:List (List Nat)}(h:Bal d (a++b)):∃k,k<=d/\fq d 0 a=some k/\fq d k b=some 0:=by
 unfold Bal at h
 rw [gU] at h
 cases e:fq d 0 a with
 |none=>rw [e] at h;cases h
 |some k=>rw [e] at h;exact⟨k,nj d a 0 k (Nat.zero_le _) e,rfl,h⟩
theorem rc{d k:Nat}{a b:List (List Nat)}(h1:fq d 0 a=some k)(h2:fq d k b=some 0):Bal d (a++b):=by
 unfold Bal
 rw [gU,h1]
 exact h2
theorem Bal.ins{d:Nat}{a b:List (List Nat)}{p:List Nat}(h:Bal d (a++b))(hw:Tk.Word p):Bal d (a++([p]++b)):=by
 obtain⟨k,_,h1,h2⟩:=h.split
 exact rc h1 (by show fq d k (p::b)=_;rw [ia hw];exact h2)
theorem Bal.del{d:Nat}{a b:List (List Nat)}{p:List Nat}(h:Bal d (a++p::b))(hw:Tk.Word p):Bal d (a++b):=by
 obtain⟨k,_,h1,h2⟩:=h.split
 rw [ia hw] at h2
 exact rc h1 h2
theorem Bal.br{d:Nat}{a b:List (List Nat)}(h:Bal d (a++b)):Bal (d+1) (a++([[40],[41]]++b)):=by
 obtain⟨k,hk,h1,h2⟩:=h.split
 refine rc (dH d a 0 k (Nat.zero_le _) h1) ?_
 show fq (d+1) k ([40]::[41]::b)=_
 rw [vI hk,pG]
 exact dH d b k 0 hk h2
theorem Bal.wrap{d:Nat}{a b:List (List Nat)}{p:List Nat}(h:Bal d (a++p::b))(hw:Tk.Word p):Bal (d+1) (a++([[40],p,[41]]++b)):=by
 obtain⟨k,hk,h1,h2⟩:=(h.del hw).split
 refine rc (dH d a 0 k (Nat.zero_le _) h1) ?_
 show fq (d+1) k ([40]::p::[41]::b)=_
 rw [vI hk,ia hw,pG]
 exact dH d b k 0 hk h2
mutual
theorem qr:∀{t:Tr},t.ok->∀{d h:Nat} {r:List (List Nat)},h+t.dep<=d->fq d h (t.flat++r)=fq d h r
 |.w s,hw,d,h,r,hl=>ia (p:=cps s) hw
 |.n ts,ho,d,h,r,hl=>by
  have hl':h+(1+fF ts)<=d:=hl
  show fq d h ([40]::((aD ts++[[41]])++r))=_
  rw [fq,if_pos rfl,if_neg (by omega),List.append_assoc,oh (ts:=ts) ho (by omega)]
  exact pG
theorem oh:∀{ts:List Tr},oks ts->∀{d h:Nat} {r:List (List Nat)},h+fF ts<=d->fq d h (aD ts++r)=fq d h r
 |[],_,d,h,r,hl=>rfl
 |t::ts,⟨h1,h2⟩,d,h,r,hl=>by
  have hl':h+max t.dep (fF ts)<=d:=hl
  show fq d h ((t.flat++aD ts)++r)=_
  rw [List.append_assoc,qr h1 (by omega),oh h2 (by omega)]
end
theorem xf{t:Tr}(h:t.ok):Bal t.dep t.flat:=by
 have:=qr (d:=t.dep) (h:=0) (r:=[]) h (by omega)
 rw [List.append_nil] at this
 exact this
def w13:List Str:=["num","pair","lit","as","let","first","+","<","0","00","7","1000000000000000000","bare"]
def w9:List Str:=["1000000000000000001","-1","Ab","a-b","one.two","one.",".two","one.two.three","one.let"]
def w8:List Str:=["abcdefghijklm","abcdefghijkl.a","1","12345678901234567890","hid","fun","open","a7"]
def w3:List Str:=["if","+1","1_0"]
def iQ:List Str:=((w13++w9)++w8)++w3
theorem lV:∀s∈iQ,s.length<=25/\(cps s≠[]/\∀c∈cps s,c≠40/\c≠41/\c≠10/\c≠32)/\∀c∈cps s,c < 0x110000:=by decide +kernel
theorem qp{s:Str}(h:s∈iQ):pH s/\Tk.Word (cps s):=⟨⟨(lV s h).1,.inr (.inr (lV s h).2.1),(lV s h).2.2⟩,(lV s h).2.1⟩
inductive uZ(K:W.Frag):Sp|mk{vs H Q E}(p:Addr)(ws:List Str)(tn c:Int)(d:Nat)(_:vs=[.ref p,.int tn,.int c])(_:H p=some (.lst (ws.map V.str)))(_:1<=ws.length)(_:ws.length<=190)(_:(∀s∈ws,pH s))(_:Bal d (ws.map cps))(_:∀H' (l:Addr) (us:List Str),aM H H'->H' l=some (.lst (us.map V.str))->us.length<=ws.length+2->(∀s∈us,pH s)->Bal (d+1) (us.map cps)->Q (.ref l) H'):uZ K vs H Q E
theorem uf(xs:List V)(k:Nat):dc xs none (some (k:Int))=xs.take k:=by
 unfold dc
 rw [HT.sIx_nat,HT.sIx_none]
 by_cases h:k<=xs.length
 ·rw [Nat.min_eq_left h,List.drop_zero,Nat.sub_zero]
 ·rw [Nat.min_eq_right (by omega),List.drop_zero,Nat.sub_zero,List.take_length,List.take_of_length_le (by omega)]
theorem AL{K:W.Frag}{σ:St}{H:Hp}{Q:VK}{p:Addr}{ws us:List Str}{k j:Nat}{tm:TA}{tlo:TE}(h0:σ[0]?=some (some (.ref p)))(h5:σ[5]?=some (some (.int (k:Int))))(hp:SqL K H p (ws.map V.str))(hl:ws.length<=200)(ul:us.length<=10)
  (hm:∀H1 (Q1:List V->Hp->Prop),aM H H1->Q1 (us.map V.str) H1->tm σ H1 Q1) (hlo:∀H1 (Q1:VK),Q1 (.int (j:Int)) H1->tlo σ H1 Q1)
  (q:∀H' l,aM H H'->H' l=some (.lst ((ws.take k++(us++ws.drop j)).map V.str))->Q (.ref l) H') :
  tOp Cb (tOp Cb (tSl (Bo K) (wM 0) jD (uF (wM 5))) (Ci tm)) (tSl (Bo K) (wM 0) (uF tlo) jD) σ H Q:=by
 refine⟨_,h0,_,h5,_,rfl,p,_,rfl,hp,fun l1 n1=>?_⟩
 have z1:=ae n1 (.lst (dc (ws.map V.str) none (some (k:Int))))
 refine hm _ _ z1 ⟨de (by rw [lm0];omega),fun l2 n2=>?_⟩
 have z2:=ae n2 (.lst (us.map V.str))
 have c1:(dc (ws.map V.str) none (some (k:Int))).length<=200:=Nat.le_trans (dA _ _ _) (by rw [lm0];exact hl)
 refine⟨l1,l2,_,_,rfl,rfl,z2 _ _ ad,ad,de (by rw [lm0];omega),fun l3 n3=>?_⟩
 have z3:=ae n3 (.lst (dc (ws.map V.str) none (some (k:Int))++us.map V.str))
 have S3:=z1.trans (z2.trans z3)
 refine⟨_,h0,hlo _ _ ⟨_,rfl,p,_,rfl,S3.seq hp,fun l4 n4=>?_⟩⟩
 have z4:=ae n4 (.lst (dc (ws.map V.str) (some (j:Int)) none))
 have c2:(dc (ws.map V.str) (some (j:Int)) none).length<=200:=Nat.le_trans (dA _ _ _) (by rw [lm0];exact hl)
 refine⟨l3,l4,_,_,rfl,rfl,z4 _ _ ad,ad,de (by rw [la0,lm0];omega),fun l5 n5=>?_⟩
 refine q _ l5 (S3.trans (z4.trans (ae n5 _))) ?_
 rw [ad,uf,dm,ma0,ma0,List.map_take,List.map_drop,List.append_assoc]
theorem DM{K:W.Frag}{σ:St}{H:Hp}{Q:VK}{p:Addr}{ws:List Str}{k j:Nat}{tlo:TE}(h0:σ[0]?=some (some (.ref p)))(h5:σ[5]?=some (some (.int (k:Int))))(hp:SqL K H p (ws.map V.str))(hl:ws.length<=200)(hlo:∀H1 (Q1:VK),Q1 (.int (j:Int)) H1->tlo σ H1 Q1)
  (q:∀H' l,aM H H'->H' l=some (.lst ((ws.take k++ws.drop j).map V.str))->Q (.ref l) H') :
  tOp Cb (tSl (Bo K) (wM 0) jD (uF (wM 5))) (tSl (Bo K) (wM 0) (uF tlo) jD) σ H Q:=by
 refine⟨_,h0,_,h5,_,rfl,p,_,rfl,hp,fun l1 n1=>?_⟩
 have z1:=ae n1 (.lst (dc (ws.map V.str) none (some (k:Int))))
 have c1:(dc (ws.map V.str) none (some (k:Int))).length<=200:=Nat.le_trans (dA _ _ _) (by rw [lm0];exact hl)
 refine⟨_,h0,hlo _ _ ⟨_,rfl,p,_,rfl,z1.seq hp,fun l4 n4=>?_⟩⟩
 have z4:=ae n4 (.lst (dc (ws.map V.str) (some (j:Int)) none))
 have c2:(dc (ws.map V.str) (some (j:Int)) none).length<=200:=Nat.le_trans (dA _ _ _) (by rw [lm0];exact hl)
 refine⟨l1,l4,_,_,rfl,rfl,z4 _ _ ad,ad,de (by omega),fun l5 n5=>?_⟩
 refine q _ l5 (z1.trans (z4.trans (ae n5 _))) ?_
 rw [ad,uf,dm,ma0,List.map_take,List.map_drop]
theorem yd{s:Str}(ht:pH s) (h:(!(!(Builtin.Str.occurrences (Str.ofString "()") s 0 (Str.ofString "()").length 1).isEmpty))=true):Tk.Word (cps s):=by
 rcases ht.2.1 with e|e|hw
 ·have:s="(":=Tk.lst_inj (e.trans (show([40]:List Nat)=Tk.lst "(" from rfl))
  subst this
  exact absurd h (by decide +kernel)
 ·have:s=")":=Tk.lst_inj (e.trans (show([41]:List Nat)=Tk.lst ")" from rfl))
  subst this
  exact absurd h (by decide +kernel)
 ·exact hw
def Dx(t:Str × Nat × Pos):Expr:=.Constant (.str t.1) t.2.1 t.2.2
theorem vc{X:Cx}:∀(l:List (Str × Nat × Pos)),PA X (l.map Dx) (fun _ H Q=>Q ((l.map (·.1)).map V.str) H)
 |[]=>ac
 |q::l=>aa (ak (x:=q.1)) (vc l)
theorem fY{ws:List Str}{k:Nat}{s:Str}(h:ws[k]?=some s):ws.map cps=(ws.take k).map cps++cps s::(ws.drop (k+1)).map cps:=by
 have hl:=(List.getElem?_eq_some_iff.mp h).1
 have e:ws=ws.take k++s::ws.drop (k+1):=by
  conv=>lhs;rw [<-List.take_append_drop k ws]
  rw [List.drop_eq_getElem_cons hl]
  congr 2
  exact Option.some.inj ((List.getElem?_eq_getElem hl).symm.trans h)
 conv=>lhs;rw [e]
 rw [ma0,List.map_cons]
theorem lZ{X:Cx}{l:List (Str × Nat × Pos)}{pos:Pos}:PE X (.List (l.map Dx) pos) (Ci (fun _ H Q=>Q ((l.map (·.1)).map V.str) H)):=cc (vc l)
abbrev slN:List Str:=["_law_tokens_here","_law_turn_of","_law_cell_here","_law_some","_law_word","_law_at"]
abbrev slP:List Str:=["_law_tokens_here","_law_turn_of","_law_cell_here"]
theorem gJ:ax slN slP (ah dh):=mkS
theorem yt{f:Addr}{fd:FuncData} (F:Fun K "_law_spoiled" "_law_spoiled" dh f fd) (ml:mg "len"=none):aV P w K mg base CX0 1 f fd slP (uZ K):=by
 refine F.k0 gJ fun cdv A q0 s H vs Q E hr h=>?_
 obtain⟨p,ws,tn,c,d,rfl,hp0,l1,l2,htok,hbal,q⟩:=h
 have hp:SqL K H p (ws.map V.str):=SqL.of hp0
 have wl:(ws.map V.str).length=ws.length:=List.length_map _
 have fin:∀(H1:Hp) (l:Addr) (k j:Nat) (us:List Str),aM H H1->H1 l=some (.lst ((ws.take k++(us++ws.drop j)).map V.str))->us.length+k<=j+2->k<=ws.length->j<=ws.length->(∀s∈us,pH s)->Bal (d+1) ((ws.take k).map cps++(us.map cps++(ws.drop j).map cps))->Q (.ref l) H1:=fun H1 l k j us s1 hl h1 h2 h3 ht hb=>by
  refine q H1 l _ s1 hl ?_ ?_ ?_
  ·simp only [la0,List.length_take,List.length_drop]
   omega
  ·intro s hs
   rcases List.mem_append.mp hs with hs|hs
   ·exact htok s (List.mem_of_mem_take hs)
   ·rcases List.mem_append.mp hs with hs|hs
    ·exact ht s hs
    ·exact htok s (List.mem_of_mem_drop hs)
  ·rw [ma0,ma0]
   exact hb
 have tkAt:∀k:Nat,k < ws.length->∃s,ws[k]?=some s/\pH s/\atI (ws.map V.str) (k:Int)=some (.str s):=fun k hk=>by
  have e:=List.getElem?_eq_getElem hk
  exact⟨_,e,htok _ (List.mem_of_getElem? e),cm (by rw [List.getElem?_map,e];rfl)⟩
 have one:∀{s:Str},pH s->∀y∈[s],pH y:=fun h y hy=>by rw [List.mem_singleton.mp hy];exact h
 have go:∀H1,aM H H1->Q (.ref p) H1:=fun H1 s1=>q H1 p ws s1 (s1 _ _ hp0) (by omega) htok hbal.mono
 obtain⟨t7,d7,k7⟩:∃t,PSs (dP CX0 P w K mg base slN "_law_spoiled" (ah dh) f cdv A q0 s H E).nox (List.drop 12 (ap dh)) t/\∀H1 v3 (wd:Str) (k:Nat),aM H H1->wd∈iQ->k < ws.length->t { nx:=fun _ H'=>Q .non H',rt:=Q } [some (.ref p),some (.int tn),some (.int c),v3,some (.str wd),some (.int (k:Int))] H1:=by
  refine⟨_,af (aF (PW.pt (cr (am aZ (pv 1) ag (av _)) (cr (am ij (aB ca (pv 5) ag) (aq aw rfl ml boot_len (aa (pv 0) ac)) (av _))
   (cr (am fT ak (aH db (pv 0) (aP (pv 5)) (aP (aB ca (pv 5) ag))) (by with_unfolding_all rfl)) (cz (am fT ak (aH db (pv 0) (aP (pv 5)) (aP (aB ca (pv 5) ag))) (by with_unfolding_all rfl)))))))
   (aj (ao (aB du (aB du (aH db (pv 0) aT (aP (pv 5))) (cc (aa (ix0 bd (pv 0) (aB ca (pv 5) ag)) ac))) (aH db (pv 0) (aP (aB ca (pv 5) ag)) aT)))) ar) (aj (ao (pv 0))),fun H1 v3 wd k s1 hw hk=>?_⟩
  refine⟨_,rfl,rfl,_,rfl,aO (fun _=>?_) (fun _=>bx ⟨_,rfl,go _ s1⟩)⟩
  refine⟨_,rfl,_,_,rfl,rfl,_,rfl,p,_,rfl,.inl (s1.seq hp),_,_,rfl,rfl,_,rfl,aO (fun b1=>?_) (fun _=>bx ⟨_,rfl,go _ s1⟩)⟩
  have b1':(k:Int)+1 < ((ws.map V.str).length:Int):=od0 b1
  rw [wl] at b1'
  obtain⟨s0,e0,t0,a0⟩:=tkAt k hk
  obtain⟨s2,e2,t2,a2⟩:=tkAt (k+1) (by omega)
  have ec:dc (ws.map V.str) (some (k:Int)) (some ((k:Int)+2))=[V.str s0,V.str s2]:=by
   have e:((k:Int)+2)=((k+2:Nat):Int):=by omega
   rw [e]
   unfold dc
   rw [HT.sIx_nat,HT.sIx_nat,wl,Nat.min_eq_left (by omega),Nat.min_eq_left (by omega),show k+2 - k=2 by omega]
   have hl0:k < (ws.map V.str).length:=by rw [wl];exact hk
   have hl2:k+1 < (ws.map V.str).length:=by rw [wl];omega
   rw [List.drop_eq_getElem_cons hl0,List.drop_eq_getElem_cons hl2]
   show [(ws.map V.str)[k],(ws.map V.str)[k+1]]=_
   have g0:(ws.map V.str)[k]?=some (V.str s0):=by rw [List.getElem?_map,e0];rfl
   have g2:(ws.map V.str)[k+1]?=some (V.str s2):=by rw [List.getElem?_map,e2];rfl
   rw [Option.some.inj ((List.getElem?_eq_getElem hl0).symm.trans g0),Option.some.inj ((List.getElem?_eq_getElem hl2).symm.trans g2)]
  refine⟨_,rfl,_,rfl,_,rfl,_,rfl,_,_,rfl,rfl,_,rfl,p,_,rfl,s1.seq hp,fun l5 n5=>?_⟩
  rw [ec]
  have z5:=ae n5 (.lst [V.str s0,V.str s2])
  refine⟨l5,_,rfl,.inl (SqL.of ad),rfl,rfl,_,rfl,aO (fun b2=>?_) (fun _=>bx ⟨_,rfl,go _ (s1.trans z5)⟩)⟩
  refine⟨_,rfl,_,rfl,_,rfl,_,rfl,_,_,rfl,rfl,_,rfl,p,_,rfl,(s1.trans z5).seq hp,fun l6 n6=>?_⟩
  rw [ec]
  have z6:=ae n6 (.lst [V.str s0,V.str s2])
  have S6:=s1.trans (z5.trans z6)
  refine⟨l6,_,rfl,.inl (SqL.of ad),rfl,rfl,_,rfl,aO (fun b3=>?_) (fun _=>⟨_,rfl,go _ S6⟩)⟩
  have no:∀(y:Str),(!inV (.str y) [V.str s0,V.str s2])=true->s0≠y/\s2≠y:=fun y h=>by
   refine⟨fun e=>?_,fun e=>?_⟩
   ·subst e;simp [inV,eqV] at h
   ·subst e;simp [inV,eqV] at h
  obtain⟨o1,o2⟩:=no "(" b2
  obtain⟨o3,o4⟩:=no ")" b3
  have wd0:∀{y:Str},pH y->y≠"("->y≠")"->Tk.Word (cps y):=fun {y} ht h1 h2=>by
   rcases ht.2.1 with e|e|hw
   ·exact absurd (Tk.lst_inj (e.trans (show([40]:List Nat)=Tk.lst "(" from rfl))) h1
   ·exact absurd (Tk.lst_inj (e.trans (show([41]:List Nat)=Tk.lst ")" from rfl))) h2
   ·exact hw
  refine AL (k:=k) (j:=k+1) (us:=[s2]) rfl rfl (S6.seq hp) (by omega) (by show 1<=10;decide) (fun H7 Q7 s7 h7=>⟨_,rfl,_,rfl,_,_,rfl,rfl,p,_,_,.str s2,rfl,rfl,(S6.trans s7).seq hp,a2,h7⟩) (fun H7 Q7 h7=>⟨_,rfl,_,_,rfl,rfl,h7⟩) fun H7 l s7 hl=>fin H7 l k (k+1) [s2] (S6.trans s7) hl (by show 1+k<=_;omega) (by omega) (by omega) (one t2) ?_
  have hb:=hbal
  rw [fY e0] at hb
  exact((hb.del (wd0 t0 o1 o3)).ins (wd0 t2 o2 o4)).mono
 obtain⟨t6,d6,k6⟩:∃t,PSs (dP CX0 P w K mg base slN "_law_spoiled" (ah dh) f cdv A q0 s H E).nox (List.drop 11 (ap dh)) t/\∀H1 v3 (wd:Str) (k:Nat),aM H H1->wd∈iQ->k < ws.length->t { nx:=fun _ H'=>Q .non H',rt:=Q } [some (.ref p),some (.int tn),some (.int c),v3,some (.str wd),some (.int (k:Int))] H1:=by
  refine⟨_,@af _ _ _ _ _ (aF (PW.pt (cr (am aZ (pv 1) ag (av _)) (cz (am dJ (ix0 bd (pv 0) (pv 5)) ak (by with_unfolding_all rfl)))))
   (aj (ao (aB du (aB du (aH db (pv 0) aT (aP (pv 5))) (cc (aa (ix0 bd (pv 0) (pv 5)) (aa (ix0 bd (pv 0) (pv 5)) ac)))) (aH db (pv 0) (aP (aB ca (pv 5) ag)) aT)))) ar) @d7,fun H1 v3 wd k s1 hw hk=>?_⟩
  obtain⟨s0,e0,t0,a0⟩:=tkAt k hk
  refine⟨_,rfl,rfl,_,rfl,aO (fun _=>⟨_,rfl,_,rfl,p,_,_,.str s0,rfl,rfl,s1.seq hp,a0,s0,_,rfl,rfl,_,rfl,aO (fun b=>?_) (fun _=>k7 _ _ _ k s1 hw hk)⟩) (fun _=>bx (k7 _ _ _ k s1 hw hk))⟩
  have hb:=hbal
  rw [fY e0] at hb
  have w0:=yd t0 b
  refine AL (k:=k) (j:=k+1) (us:=[s0,s0]) rfl rfl (s1.seq hp) (by omega) (by show 2<=10;decide) (fun H7 Q7 s7 h7=>⟨_,rfl,_,rfl,p,_,_,.str s0,rfl,rfl,(s1.trans s7).seq hp,a0,_,rfl,_,rfl,p,_,_,.str s0,rfl,rfl,(s1.trans s7).seq hp,a0,h7⟩) (fun H7 Q7 h7=>⟨_,rfl,_,_,rfl,rfl,h7⟩) fun H7 l s7 hl=>fin H7 l k (k+1) [s0,s0] (s1.trans s7) hl (by show 2+k<=_;omega) (by omega) (by omega) (yR t0 t0) ?_
  exact(((hb.del w0).ins w0).ins w0).mono
 obtain⟨t5,d5,k5⟩:∃t,PSs (dP CX0 P w K mg base slN "_law_spoiled" (ah dh) f cdv A q0 s H E).nox (List.drop 10 (ap dh)) t/\∀H1 v3 (wd:Str) (k:Nat),aM H H1->wd∈iQ->k < ws.length->t { nx:=fun _ H'=>Q .non H',rt:=Q } [some (.ref p),some (.int tn),some (.int c),v3,some (.str wd),some (.int (k:Int))] H1:=by
  refine⟨_,@af _ _ _ _ _ (aF (PW.pt (cr (am aZ (pv 1) ag (av _)) (cz (am dJ (ix0 bd (pv 0) (pv 5)) ak (by with_unfolding_all rfl)))))
   (aj (ao (aB du (aB du (aH db (pv 0) aT (aP (pv 5))) (cc (aa ak (aa (ix0 bd (pv 0) (pv 5)) (aa ak ac))))) (aH db (pv 0) (aP (aB ca (pv 5) ag)) aT)))) ar) @d6,fun H1 v3 wd k s1 hw hk=>?_⟩
  obtain⟨s0,e0,t0,a0⟩:=tkAt k hk
  refine⟨_,rfl,rfl,_,rfl,aO (fun _=>⟨_,rfl,_,rfl,p,_,_,.str s0,rfl,rfl,s1.seq hp,a0,s0,_,rfl,rfl,_,rfl,aO (fun b=>?_) (fun _=>k6 _ _ _ k s1 hw hk)⟩) (fun _=>bx (k6 _ _ _ k s1 hw hk))⟩
  have hb:=hbal
  rw [fY e0] at hb
  have w0:=yd t0 b
  refine AL (k:=k) (j:=k+1) (us:=["(",s0,")"]) rfl rfl (s1.seq hp) (by omega) (by show 3<=10;decide) (fun H7 Q7 s7 h7=>⟨_,rfl,_,rfl,p,_,_,.str s0,rfl,rfl,(s1.trans s7).seq hp,a0,h7⟩) (fun H7 Q7 h7=>⟨_,rfl,_,_,rfl,rfl,h7⟩) fun H7 l s7 hl=>fin H7 l k (k+1) ["(",s0,")"] (s1.trans s7) hl (by show 3+k<=_;omega) (by omega) (by omega) (fun y hy=>?_) ?_
  ·simp only [List.mem_cons,List.mem_nil_iff,or_false] at hy
   rcases hy with rfl|rfl|rfl
   ·exact yU
   ·exact t0
   ·exact yT
  ·exact hb.wrap w0
 obtain⟨t4,d4,k4⟩:∃t,PSs (dP CX0 P w K mg base slN "_law_spoiled" (ah dh) f cdv A q0 s H E).nox (List.drop 9 (ap dh)) t/\∀H1 v3 (wd:Str) (k:Nat),aM H H1->wd∈iQ->k < ws.length->t { nx:=fun _ H'=>Q .non H',rt:=Q } [some (.ref p),some (.int tn),some (.int c),v3,some (.str wd),some (.int (k:Int))] H1:=by
  refine⟨_,@af _ _ _ _ _ (aF (am aZ (pv 1) ag (av _))
   (aj (ao (aB du (aB du (aH db (pv 0) aT (aP (pv 5))) (cc (aa ak (aa ak ac)))) (aH db (pv 0) (aP (pv 5)) aT)))) ar) @d5,fun H1 v3 wd k s1 hw hk=>?_⟩
  refine⟨_,rfl,rfl,_,rfl,aO (fun _=>?_) (fun _=>k5 _ _ _ k s1 hw hk)⟩
  have hb:=hbal
  rw [<-List.take_append_drop k ws,ma0] at hb
  refine AL (k:=k) (j:=k) (us:=["(",")"]) rfl rfl (s1.seq hp) (by omega) (by show 2<=10;decide) (fun H7 Q7 s7 h7=>h7) (fun H7 Q7 h7=>⟨_,rfl,h7⟩) fun H7 l s7 hl=>fin H7 l k k ["(",")"] (s1.trans s7) hl (by show 2+k<=_;omega) (by omega) (by omega) (yR yU yT) ?_
  exact hb.br
 obtain⟨t3,d3,k3⟩:∃t,PSs (dP CX0 P w K mg base slN "_law_spoiled" (ah dh) f cdv A q0 s H E).nox (List.drop 8 (ap dh)) t/\∀H1 v3 (wd:Str) (k:Nat),aM H H1->wd∈iQ->k < ws.length->t { nx:=fun _ H'=>Q .non H',rt:=Q } [some (.ref p),some (.int tn),some (.int c),v3,some (.str wd),some (.int (k:Int))] H1:=by
  refine⟨_,@af _ _ _ _ _ (aF (am aZ (pv 1) ag (av _))
   (aj (ao (aB du (aB du (aH db (pv 0) aT (aP (pv 5))) (cc (aa (pv 4) ac))) (aH db (pv 0) (aP (pv 5)) aT)))) ar) @d4,fun H1 v3 wd k s1 hw hk=>?_⟩
  refine⟨_,rfl,rfl,_,rfl,aO (fun _=>?_) (fun _=>k4 _ _ _ k s1 hw hk)⟩
  obtain⟨x1,x2⟩:=qp hw
  have hb:=hbal
  rw [<-List.take_append_drop k ws,ma0] at hb
  refine AL (k:=k) (j:=k) (us:=[wd]) rfl rfl (s1.seq hp) (by omega) (by show 1<=10;decide) (fun H7 Q7 s7 h7=>⟨_,rfl,h7⟩) (fun H7 Q7 h7=>⟨_,rfl,h7⟩) fun H7 l s7 hl=>fin H7 l k k [wd] (s1.trans s7) hl (by show 1+k<=_;omega) (by omega) (by omega) (one x1) ?_
  exact(hb.ins x2).mono
 obtain⟨t2,d2,k2⟩:∃t,PSs (dP CX0 P w K mg base slN "_law_spoiled" (ah dh) f cdv A q0 s H E).nox (List.drop 7 (ap dh)) t/\∀H1 v3 (wd:Str) (k:Nat),aM H H1->wd∈iQ->k < ws.length->t { nx:=fun _ H'=>Q .non H',rt:=Q } [some (.ref p),some (.int tn),some (.int c),v3,some (.str wd),some (.int (k:Int))] H1:=by
  refine⟨_,@af _ _ _ _ _ (aF (PW.pt (cr (am aZ (pv 1) ag (av _)) (cz (am dJ (ix0 bd (pv 0) (pv 5)) ak (by with_unfolding_all rfl)))))
   (aj (ao (aB du (aH db (pv 0) aT (aP (pv 5))) (aH db (pv 0) (aP (aB ca (pv 5) ag)) aT)))) ar) @d3,fun H1 v3 wd k s1 hw hk=>?_⟩
  obtain⟨s0,e0,t0,a0⟩:=tkAt k hk
  refine⟨_,rfl,rfl,_,rfl,aO (fun _=>⟨_,rfl,_,rfl,p,_,_,.str s0,rfl,rfl,s1.seq hp,a0,s0,_,rfl,rfl,_,rfl,aO (fun b=>?_) (fun _=>k3 _ _ _ k s1 hw hk)⟩) (fun _=>bx (k3 _ _ _ k s1 hw hk))⟩
  have hb:=hbal
  rw [fY e0] at hb
  have w0:=yd t0 b
  refine DM (k:=k) (j:=k+1) rfl rfl (s1.seq hp) (by omega) (fun H7 Q7 h7=>⟨_,rfl,_,_,rfl,rfl,h7⟩) fun H7 l s7 hl=>fin H7 l k (k+1) [] (s1.trans s7) hl (by show 0+k<=_;omega) (by omega) (by omega) (fun y hy=>nomatch hy) ?_
  exact(hb.del w0).mono
 obtain⟨t1,d1,k1⟩:∃t,PSs (dP CX0 P w K mg base slN "_law_spoiled" (ah dh) f cdv A q0 s H E).nox (List.drop 6 (ap dh)) t/\∀H1 v3 (wd:Str) (k:Nat),aM H H1->wd∈iQ->k < ws.length->t { nx:=fun _ H'=>Q .non H',rt:=Q } [some (.ref p),some (.int tn),some (.int c),v3,some (.str wd),some (.int (k:Int))] H1:=by
  refine⟨_,@af _ _ _ _ _ (aF (PW.pt (cr (am aZ (pv 1) ag (av _)) (cz (am dJ (ix0 bd (pv 0) (pv 5)) ak (by with_unfolding_all rfl)))))
   (aj (ao (aB du (aB du (aH db (pv 0) aT (aP (pv 5))) (cc (aa (pv 4) ac))) (aH db (pv 0) (aP (aB ca (pv 5) ag)) aT)))) ar) @d2,fun H1 v3 wd k s1 hw hk=>?_⟩
  obtain⟨s0,e0,t0,a0⟩:=tkAt k hk
  refine⟨_,rfl,rfl,_,rfl,aO (fun _=>⟨_,rfl,_,rfl,p,_,_,.str s0,rfl,rfl,s1.seq hp,a0,s0,_,rfl,rfl,_,rfl,aO (fun b=>?_) (fun _=>k2 _ _ _ k s1 hw hk)⟩) (fun _=>bx (k2 _ _ _ k s1 hw hk))⟩
  have hb:=hbal
  rw [fY e0] at hb
  have w0:=yd t0 b
  obtain⟨x1,x2⟩:=qp hw
  refine AL (k:=k) (j:=k+1) (us:=[wd]) rfl rfl (s1.seq hp) (by omega) (by show 1<=10;decide) (fun H7 Q7 s7 h7=>⟨_,rfl,h7⟩) (fun H7 Q7 h7=>⟨_,rfl,_,_,rfl,rfl,h7⟩) fun H7 l s7 hl=>fin H7 l k (k+1) [wd] (s1.trans s7) hl (by show 1+k<=_;omega) (by omega) (by omega) (one x1) ?_
  exact((hb.del w0).ins x2).mono
 refine⟨_,@af _ _ _ _ _ (@oa _ _ 3 _ _ _ _ gJ.nd rfl (Or.inl rfl) (@lZ _ [(_,_,_),(_,_,_),(_,_,_),(_,_,_),(_,_,_),(_,_,_),(_,_,_),(_,_,_),(_,_,_),(_,_,_),(_,_,_),(_,_,_),(_,_,_)] _) rfl (.inr rfl))
  (@af _ _ _ _ _ (@oa _ _ 3 _ _ _ _ gJ.nd rfl (Or.inl rfl) (aB du (pv 3) (@lZ _ [(_,_,_),(_,_,_),(_,_,_),(_,_,_),(_,_,_),(_,_,_),(_,_,_),(_,_,_),(_,_,_)] _)) rfl (.inr rfl))
  (@af _ _ _ _ _ (@oa _ _ 3 _ _ _ _ gJ.nd rfl (Or.inl rfl) (aB du (pv 3) (@lZ _ [(_,_,_),(_,_,_),(_,_,_),(_,_,_),(_,_,_),(_,_,_),(_,_,_),(_,_,_)] _)) rfl (.inr rfl))
  (@af _ _ _ _ _ (@oa _ _ 3 _ _ _ _ gJ.nd rfl (Or.inl rfl) (aB du (pv 3) (@lZ _ [(_,_,_),(_,_,_),(_,_,_)] _)) rfl (.inr rfl))
  (@af _ _ _ _ _ (aS (i:=4) gJ.nd (ix0 bd (pv 3) (aB cg (pv 2) ag)))
  (@af _ _ _ _ _ (aS (i:=5) gJ.nd (aB cg (aB bj (pv 2) ag) (aq aw rfl ml boot_len (aa (pv 0) ac)))) @d1))))),?_⟩
 refine⟨(sz 13),fun m1 n1=>?_⟩
 have z1:=ae n1 (.lst (w13.map V.str))
 refine⟨_,rfl,(sz 9),fun m2 n2=>?_⟩
 have z2:=ae n2 (.lst (w9.map V.str))
 refine⟨m1,m2,_,_,rfl,rfl,z2 _ _ ad,ad,(sz 22),fun m3 n3=>?_⟩
 have z3:=ae n3 (.lst (w13.map V.str++w9.map V.str))
 refine⟨_,rfl,(sz 8),fun m4 n4=>?_⟩
 have z4:=ae n4 (.lst (w8.map V.str))
 refine⟨m3,m4,_,_,rfl,rfl,z4 _ _ ad,ad,(sz 30),fun m5 n5=>?_⟩
 have z5:=ae n5 (.lst ((w13.map V.str++w9.map V.str)++w8.map V.str))
 refine⟨_,rfl,(sz 3),fun m6 n6=>?_⟩
 have z6:=ae n6 (.lst (w3.map V.str))
 refine⟨m5,m6,_,_,rfl,rfl,z6 _ _ ad,ad,(sz 33),fun m7 n7=>?_⟩
 have z7:=ae n7 (.lst (((w13.map V.str++w9.map V.str)++w8.map V.str)++w3.map V.str))
 have S:=z1.trans (z2.trans (z3.trans (z4.trans (z5.trans (z6.trans z7)))))
 have r0:0<=c%33:=Int.emod_nonneg _ (by decide)
 have r1:c%33 < 33:=Int.emod_lt_of_pos _ (by decide)
 obtain⟨wd,hwd,hmem⟩:∃wd,atI (iQ.map V.str) (c%33)=some (.str wd)/\wd∈iQ:=by
  have hlen:iQ.length=33:=by decide +kernel
  obtain⟨v,hv⟩:=lX (xs:=iQ.map V.str) (i:=c%33) r0 (by rw [lm0,hlen];exact r1)
  have hm:=jP hv
  obtain⟨y,hy,rfl⟩:=List.mem_map.mp hm
  exact⟨y,hv,hy⟩
 refine⟨_,rfl,_,rfl,_,_,rfl,rfl,(by show(0:Int) < 33;decide),m7,_,_,.str wd,rfl,rfl,SqL.of ad,hwd,?_⟩
 refine⟨_,rfl,_,_,rfl,rfl,⟨by decide,by decide⟩,_,rfl,p,_,rfl,.inl (S.seq hp),_,_,rfl,rfl,(by show(0:Int) < ((ws.map V.str).length:Int);rw [wl];omega),?_⟩
 have k0:0<=c / 33%((ws.map V.str).length:Int):=Int.emod_nonneg _ (by rw [wl];omega)
 have k1':c / 33%((ws.map V.str).length:Int) < ((ws.map V.str).length:Int):=Int.emod_lt_of_pos _ (by rw [wl];omega)
 rw [wl] at k0 k1'
 have:=k1 _ (some (.ref m7)) wd (c / 33%(ws.length:Int)).toNat S hmem (by omega)
 rw [Int.toNat_of_nonneg k0] at this
 rw [<-wl] at this
 exact this
structure Pt(t:Tr)(l d:Nat):Prop where
 ok:t.ok
 tok:∀p∈t.flat,lK p
 len:t.flat.length<=l
 dep:t.dep<=d
structure Pz(ts:List Tr)(l d:Nat):Prop where
 ok:oks ts
 tok:∀p∈aD ts,lK p
 len:(aD ts).length<=l
 dep:fF ts<=d
theorem Pt.le{t:Tr}{l d l' d':Nat}(h:Pt t l d)(h1:l<=l')(h2:d<=d'):Pt t l' d':=⟨h.ok,h.tok,Nat.le_trans h.len h1,Nat.le_trans h.dep h2⟩
theorem Pz.le{ts:List Tr}{l d l' d':Nat}(h:Pz ts l d)(h1:l<=l')(h2:d<=d'):Pz ts l' d':=⟨h.ok,h.tok,Nat.le_trans h.len h1,Nat.le_trans h.dep h2⟩
theorem dv{d:Nat}:Pz [] 0 d:=⟨True.intro,(fun p hp=>(nomatch hp)),Nat.le_refl _,Nat.zero_le _⟩
theorem aN{t:Tr}{ts:List Tr}{l l' d:Nat}(h:Pt t l d)(r:Pz ts l' d):Pz (t::ts) (l+l') d:=by
 refine⟨⟨h.ok,r.ok⟩,fun p hp=>?_,?_,?_⟩
 ·rcases List.mem_append.mp (show p∈t.flat++aD ts from hp) with z|z
  ·exact h.tok p z
  ·exact r.tok p z
 ·show(t.flat++aD ts).length<=_
  rw [la0]
  exact Nat.add_le_add h.len r.len
 ·show max t.dep (fF ts)<=d
  exact Nat.max_le.mpr ⟨h.dep,r.dep⟩
structure Wd(z:Str):Prop where
 word:Tk.Word (cps z)
 len:z.length<=25
 cp:∀c∈cps z,c < 0x110000
theorem Wd.tokc{z:Str}(h:Wd z):lK (cps z):=wv h.word (by rw [bG];exact h.len) h.cp
theorem bv{z:Str}{d:Nat}(h:Wd z):Pt (.w z) 1 d:=⟨h.word,fun p hp=>by rw [List.mem_singleton.mp (show p∈[cps z] from hp)];exact h.tokc,Nat.le_refl _,Nat.zero_le _⟩
theorem cG{z:Str}{ts:List Tr}{l d:Nat}(h:Wd z)(r:Pz ts l d):Pt (.n (.w z::ts)) (l+3) (d+1):=by
 have c:=aN (bv (d:=d) h) r
 refine⟨c.ok,fun p hp=>?_,?_,?_⟩
 ·have hp':p∈[40]::(aD (.w z::ts)++[[41]]):=hp
  rcases mc0 hp' with rfl|hp'
  ·exact pJ
  ·rcases List.mem_append.mp hp' with hp'|hp'
   ·exact c.tok p hp'
   ·rw [List.mem_singleton.mp hp']
    exact pX
 ·show([40]::(aD (.w z::ts)++[[41]])).length<=_
  have:=c.len
  rw [lc0,la0]
  show(aD (.w z::ts)).length+1+1<=l+3
  omega
 ·show 1+fF (.w z::ts)<=d+1
  have:=c.dep
  omega
theorem cw{z:Str}(h:aA z=true):Wd z:=by
 have:=nL (q:="") (t:=z) h (.inl rfl)
 have e:dQ "" z=z:=if_pos rfl
 rw [e] at this
 exact⟨this.1,this.2.1,this.2.2⟩
theorem B1{q t:Str}(hq:aA q=true)(ht:aA t=true):Wd (dQ q t):=by
 have:=nL (q:=q) (t:=t) ht (.inr hq)
 exact⟨this.1,this.2.1,this.2.2⟩
theorem BN{n:Nat}(h:n<=1000000000000000000):Wd (fQ n):=by
 obtain⟨_,_,x3⟩:=oQ h
 exact⟨(qC h).1,by omega,(qC h).2⟩
theorem lQ:∀s∈(["num","pair","lit","+","-","*","=","<","as","let","if","two","first","second"]:List Str),(cps s≠[]/\∀c∈cps s,c≠40/\c≠41/\c≠10/\c≠32)/\s.length<=25/\∀c∈cps s,c < 0x110000:=by decide +kernel
theorem uR{s:Str} (h:s∈(["num","pair","lit","+","-","*","=","<","as","let","if","two","first","second"]:List Str)):Wd s:=⟨(lQ s h).1,(lQ s h).2.1,(lQ s h).2.2⟩
theorem qS{z:Str}(h:aA z=true):jb z=some ((Str.ofString ""),z):=if_pos h
theorem xN{q t:Str}(hq:aA q=true)(ht:aA t=true):jb (dQ q t)=some (q,t):=by
 unfold jb
 rw [if_neg (by rw [BZ (mo hq)];decide),uc hq ht]
 exact if_pos ⟨hq,ht⟩
theorem Am{n:Nat}{lo hi:Int}(h:n<=1000000000000000000)(h1:lo<=n)(h2:(n:Int)<=hi):lU (.w (fQ n)) lo hi=some n:=by
 obtain⟨_,x2,_⟩:=oQ h
 show(if dr (fQ n)=true/\lo<=(bn (cps (fQ n)):Int)/\(bn (cps (fQ n)):Int)<=hi then some (bn (cps (fQ n))) else none)=some n
 rw [x2,if_pos ⟨ut h,h1,h2⟩]
theorem zX{n:Nat}(h1:1<=n)(h:n<=1000000000000000000):eu (.w (fQ n))=some n:=Am h (by omega) (by omega)
inductive jv(K:W.Frag):Sp|mk{vs H Q E}(x:V)(rs:List Row)(_:vs=[x])(_:DAt H x (.t (rs.map rwD)))(_:rH rs)(_:∀H' v,aM H H'->bz K H' v (.n (rs.map rwT))->Q v H'):jv K vs H Q E
inductive qz(K:W.Frag):Sp|mk{vs H Q E}(x:V)(s:Option Rn)(_:vs=[x])(_:DAt H x (nW s))(_:rP s)(_:∀H' v,aM H H'->bz K H' v (sF s)->Q v H'):qz K vs H Q E
inductive y8(K:W.Frag):Sp|mk{vs H Q E}(x:V)(i:FI)(_:vs=[x])(_:DAt H x i.d)(_:i.ok)(_:∀H' v,aM H H'->bz K H' v i.tr->Q v H'):y8 K vs H Q E
inductive yy(K:W.Frag):Sp|mk{vs H Q E}(x:V)(i:PI)(_:vs=[x])(_:DAt H x i.d)(_:i.ok)(_:∀H' v,aM H H'->bz K H' v i.tr->Q v H'):yy K vs H Q E
inductive uw(K:W.Frag):Sp|mk{vs H Q E}(x:V)(is:List PI)(_:vs=[x])(_:DAt H x (.t (is.map PI.d)))(_:is.length<=400)(_:(∀i∈is,i.ok))(_:∀H' v,aM H H'->bz K H' v (.n (is.map PI.tr))->Q v H'):uw K vs H Q E
inductive yH(K:W.Frag):Sp|mk{vs H Q E}(x:V)(d:Dc)(_:vs=[x])(_:DAt H x d.d)(_:d.ok)(_:∀H' v,aM H H'->bz K H' v d.tr->Q v H'):yH K vs H Q E
inductive jQ(K:W.Frag):Sp|mk{vs H Q E}(p:Addr)(xs:List V)(ds:List Dc)(_:vs=[.ref p])(_:SqL K H p xs)(_:eW H xs (ds.map Dc.d))(_:(∀d∈ds,d.ok))(_:Sms (ds.map Dc.tr))(_:∀H' (z:Str),aM H H'->cps z=fO (ds.map Dc.tr)->Q (.str z) H'):jQ K vs H Q E
theorem gB{K:W.Frag}{H:Hp}{a b:Addr}{xs ys:List V}{Q:VK}(ha:H a=some (.tup xs))(hb:H b=some (.tup ys))(hne:xs≠[])(hl:xs.length+ys.length<=1000)(k:∀H' p,aM H H'->H' p=some (.tup (xs++ys))->Q (.ref p) H'):tT K (.ref a) (.ref b) H Q :=
 ⟨a,b,xs,ys,rfl,rfl,SqT.of ha,SqT.of hb,hne,de hl,fun e=>by
  subst e
  exact k H a sr0 (by rw [List.append_nil];exact ha),fun _ p hp=>k _ p (ae hp _) ad⟩
theorem vq:ax ["named"] ["named"] (ah gq):=mkS
theorem rT{f fk:Addr}{fd fdk:FuncData} (F:Fun K "named_trees" "named_trees" gq f fd)
  (GK:aV P w K mg base CX0 32 fk fdk ["kind"] (gx K 31)) (bK:aX K fdk ["kind"] []) (kK:W.keepIn K (.ref fk)=true) (mK:mg "kind_tree"=some (.ref fk)) (mt:mg "tuple"=none):aV P w K mg base CX0 33 f fd ["named"] (jv K):=by
 refine F.k0 vq fun cdv A q0 s H vs Q E hr h=>?_
 obtain⟨x,rs,rfl,hx,hrs,q⟩:=h
 refine⟨_,aj (ao (aL aI rfl mt aR (aa (bi (own:=["name","kind"]) (cV (pv 0))
  (fun _ _ _ _=>A5 (K:=K) (i:=0) (j:=1) rfl rfl (show(["name","kind"]:List Str).Nodup from by decide +kernel) rfl (Or.inl rfl) (Or.inr rfl) rfl (Or.inl rfl) (Or.inr rfl)) (fun _ _ _ _=>aE (aa (pv 0) (aa (ai GK hr rfl mK kK bK .nil aC (aa (pv 1) ac)) ac)))) ac))),?_⟩
 obtain⟨p,xs,rfl,hp,hxs⟩:=hx.tup
 have xl:=hxs.length
 rw [lm0] at xl
 have r4:=hrs.1
 refine⟨_,rfl,p,rfl,⟨_,SqT.of hp⟩,?_⟩
 refine fv (xs:=xs) (fun i H v=>∀r,rs[i]?=some r->bz K H v (rwT r)) (fun i H H' v e h d hd=>(h d hd).same e) hp (by omega) ?_ ?_
 ·intro i u H3 N B hu s3 hN
  obtain⟨t,ht,hat⟩:=hxs.get hu
  obtain⟨r,hr',rfl⟩:=dE ht
  obtain⟨hw,hk⟩:=hrs.2 r (List.mem_of_getElem? hr')
  obtain⟨a,ys,rfl,ha,hs⟩:=DAt.tup (show DAt H3 u (.t [.s r.1,r.2.d]) from hat.same s3)
  obtain⟨x1,_,rfl,h1,hs⟩:=hs.one
  obtain⟨x2,_,rfl,h2,hs⟩:=hs.one
  cases hs.none
  cases h1.str
  refine⟨a,_,rfl,SqT.of ha,rfl,_,_,rfl,_,_,rfl,rfl,rfl,aY ⟨_,rfl,_,rfl,x2,r.2,rfl,zh h2,hk.1,hk.dp,fun H4 v s4 hv=>⟨(sz 2),fun p5 hp5=>?_⟩⟩⟩
  have s5:=ae hp5 (.tup [.str r.1,v])
  refine hN _ _ (s4.trans s5) fun r' hr2=>?_
  rw [hr'] at hr2
  cases hr2
  exact .n ad (.cons (.w _) (.cons (hv.same s5) .nil))
 ·intro zs H3 D s3 hl hz hD
  have hzs:aJ K H3 zs (rs.map rwT):=eQ (by rw [hl,xl,lm0]) fun i v d hv hd=>by
   obtain⟨k0,hk0,rfl⟩:=dE hd
   exact hz i v hv k0 hk0
  have sD:=ae hD (.lst zs)
  refine⟨D,zs,rfl,.inl ⟨SqL.of ad,fun l hl=>?_⟩⟩
  have sl:=ae hl (.tup zs)
  exact q _ _ (s3.trans (sD.trans sl)) (.n ad (hzs.same (sD.trans sl)))
theorem wZ:ax ["seal"] ["seal"] (ah fh):=mkS
theorem tQ{f fn:Addr}{fd fdn:FuncData} (F:Fun K "seal_tree" "seal_tree" fh f fd)
  (GN:aV P w K mg base CX0 33 fn fdn ["named"] (jv K)) (bN:aX K fdn ["named"] []) (kN:W.keepIn K (.ref fn)=true) (mN:mg "named_trees"=some (.ref fn)):aV P w K mg base CX0 34 f fd ["seal"] (qz K):=by
 refine F.k0 wZ fun cdv A q0 s H vs Q E hr h=>?_
 obtain⟨x,sl,rfl,hx,hok,q⟩:=h
 refine⟨_,af (aF (am Bt (pv 0) dW (av _)) (aj (ao ak)) ar)
  (aj (ao (aB cH (aE (aa (ix0 au (pv 0) ag) ac)) (ai GN hr rfl mN kN bN .nil aC (aa (ix0 au (pv 0) ag) ac))))),?_⟩
 cases sl with
 |none =>
  cases hx.none
  exact⟨_,rfl,rfl,_,rfl,bU (q _ _ sr0 (.w _))⟩
 |some r =>
  obtain⟨p,xs,rfl,hp,hs⟩:=DAt.tup (show DAt H x (.t [.s r.w,.t (r.rows.map rwD)]) from hx)
  obtain⟨x1,_,rfl,h1,hs⟩:=hs.one
  obtain⟨x2,_,rfl,h2,hs⟩:=hs.one
  cases hs.none
  cases h1.str
  refine⟨_,rfl,rfl,_,rfl,aO (fun c=>absurd (od0 c) (by intro h;cases h)) (fun _=>?_)⟩
  refine⟨_,rfl,p,_,_,.str r.w,rfl,rfl,SqT.of hp,rfl,(sz 1),fun p1 hp1=>?_⟩
  have s1:=ae hp1 (.tup [.str r.w])
  refine⟨_,rfl,p,_,_,x2,rfl,rfl,SqT.of (s1 _ _ hp),rfl,x2,r.rows,rfl,h2.same s1,hok.2,fun H2 v2 s2 hv2=>?_⟩
  obtain⟨a,ys,rfl,ha,hys⟩:=hv2.node
  have yl:=hys.length
  rw [lm0] at yl
  have r4:=hok.2.1
  refine gB (s2 _ _ ad) ha (by simp) (by show 1+ys.length<=1000;omega) fun H3 p3 s3 h3=>?_
  exact q _ _ (s1.trans (s2.trans s3)) (.n h3 (.cons (.w _) (hys.same s3)))
theorem AY:ax ["item"] ["item"] (ah r6):=mkS
theorem zL{f fk:Addr}{fd fdk:FuncData} (F:Fun K "face_item_tree" "face_item_tree" r6 f fd)
  (GK:aV P w K mg base CX0 32 fk fdk ["kind"] (gx K 31)) (bK:aX K fdk ["kind"] []) (kK:W.keepIn K (.ref fk)=true) (mK:mg "kind_tree"=some (.ref fk)) (mt:mg "tuple"=none):aV P w K mg base CX0 33 f fd ["item"] (y8 K):=by
 refine F.k0 AY fun cdv A q0 s H vs Q E hr h=>?_
 obtain⟨x,it,rfl,hx,hok,q⟩:=h
 refine⟨_,af (aF (am aZ (ix0 au (pv 0) ag) ak (av _)) (aj (ao (pv 0))) ar)
  (af (aF (am aZ (ix0 au (pv 0) ag) ak (av _)) (aj (ao (aE (aa ak (aa (ix0 au (pv 0) ag) (aa (ai GK hr rfl mK kK bK .nil aC (aa (ix0 au (pv 0) ag) ac)) ac)))))) ar)
  (aj (ao (aE (aa ak (aa (ix0 au (pv 0) ag) (aa (aL aI rfl mt aR (aa (bi (own:=["kind"]) (cV (ix0 au (pv 0) ag))
   (fun _ _ _ _=>pg0 ["kind"]) (fun _ _ _ _=>ai GK hr rfl mK kK bK .nil aC (aa (pv 0) ac))) ac)) (aa (ai GK hr rfl mK kK bK .nil aC (aa (ix0 au (pv 0) ag) ac)) ac)))))))),?_⟩
 cases it with
 |hid z =>
  obtain⟨p,xs,rfl,hp,hs⟩:=DAt.tup (show DAt H x (.t [.s "hid",.s z]) from hx)
  obtain⟨x1,_,rfl,h1,hs⟩:=hs.one
  obtain⟨x2,_,rfl,h2,hs⟩:=hs.one
  cases hs.none
  cases h1.str
  cases h2.str
  exact⟨_,rfl,p,_,_,.str "hid",rfl,rfl,SqT.of hp,rfl,rfl,_,rfl,aO (fun _=>⟨_,rfl,q _ _ sr0 (.n hp (.cons (.w _) (.cons (.w _) .nil)))⟩) (fun c=>absurd (by decide +kernel) c)⟩
 |told z k =>
  obtain⟨p,xs,rfl,hp,hs⟩:=DAt.tup (show DAt H x (.t [.s "told",.s z,k.d]) from hx)
  obtain⟨x1,_,rfl,h1,hs⟩:=hs.one
  obtain⟨x2,_,rfl,h2,hs⟩:=hs.one
  obtain⟨x3,_,rfl,h3,hs⟩:=hs.one
  cases hs.none
  cases h1.str
  cases h2.str
  refine⟨_,rfl,p,_,_,.str "told",rfl,rfl,SqT.of hp,rfl,rfl,_,rfl,aO (fun c=>nK0 c) (fun _=>?_)⟩
  refine⟨_,rfl,p,_,_,.str "told",rfl,rfl,SqT.of hp,rfl,rfl,_,rfl,aO (fun _=>?_) (fun c=>absurd (by decide +kernel) c)⟩
  refine⟨_,rfl,p,_,_,.str z,rfl,rfl,SqT.of hp,rfl,_,rfl,p,_,_,x3,rfl,rfl,SqT.of hp,rfl,x3,k,rfl,zh h3,hok.2.1,hok.2.dp,fun H2 v2 s2 hv2=>⟨(sz 3),fun p3 hp3=>?_⟩⟩
  have s3:=ae hp3 (.tup [.str "told",.str z,v2])
  exact q _ _ (s2.trans s3) (.n ad (.cons (.w _) (.cons (.w _) (.cons (hv2.same s3) .nil))))
 |fn z ks k =>
  obtain⟨p,xs,rfl,hp,hs⟩:=DAt.tup (show DAt H x (.t [.s "fun",.s z,.t (ks.map Kd.d),k.d]) from hx)
  obtain⟨x1,_,rfl,h1,hs⟩:=hs.one
  obtain⟨x2,_,rfl,h2,hs⟩:=hs.one
  obtain⟨x3,_,rfl,h3,hs⟩:=hs.one
  obtain⟨x4,_,rfl,h4,hs⟩:=hs.one
  cases hs.none
  cases h1.str
  cases h2.str
  obtain⟨p3,ys,rfl,hp3,hys⟩:=h3.tup
  have yl:=hys.length
  rw [lm0] at yl
  have k4:=hok.2.1.1
  refine⟨_,rfl,p,_,_,.str "fun",rfl,rfl,SqT.of hp,rfl,rfl,_,rfl,aO (fun c=>nK0 c) (fun _=>?_)⟩
  refine⟨_,rfl,p,_,_,.str "fun",rfl,rfl,SqT.of hp,rfl,rfl,_,rfl,aO (fun c=>nK0 c) (fun _=>?_)⟩
  refine⟨_,rfl,p,_,_,.str z,rfl,rfl,SqT.of hp,rfl,_,rfl,p,_,_,.ref p3,rfl,rfl,SqT.of hp,rfl,p3,rfl,⟨_,SqT.of hp3⟩,?_⟩
  refine fv (xs:=ys) (fun i H v=>∀d,ks[i]?=some d->bz K H v d.tr) (fun i H H' v e h d hd=>(h d hd).same e) hp3 (by omega) ?_ ?_
  ·intro i u H3 N B hu s3 hN
   obtain⟨t,ht,hat⟩:=hys.get hu
   obtain⟨k0,hk0,rfl⟩:=dE ht
   have hm:=hok.2.1.2 k0 (List.mem_of_getElem? hk0)
   refine⟨rfl,aY ⟨_,rfl,u,k0,rfl,zh (hat.same s3),hm.1,hm.dp,fun H4 v s4 hv=>hN _ _ s4 fun d hd=>?_⟩⟩
   rw [hk0] at hd
   cases hd
   exact hv
  ·intro zs H3 D s3 hl hz hD
   have hzs:aJ K H3 zs (ks.map Kd.tr):=eQ (by rw [hl,yl,lm0]) fun i v d hv hd=>by
    obtain⟨k0,hk0,rfl⟩:=dE hd
    exact hz i v hv k0 hk0
   have sD:=ae hD (.lst zs)
   refine⟨D,zs,rfl,.inl ⟨SqL.of ad,fun l hl=>?_⟩⟩
   have sl:=ae hl (.tup zs)
   have s1:=s3.trans (sD.trans sl)
   refine⟨_,rfl,p,_,_,x4,rfl,rfl,SqT.of (s1 _ _ hp),rfl,x4,k,rfl,zh (h4.same s1),hok.2.2.1,hok.2.2.dp,fun H6 v6 s6 hv6=>⟨(sz 4),fun p7 hp7=>?_⟩⟩
   have s7:=ae hp7 (.tup [.str "fun",.str z,.ref l,v6])
   have s67:=s6.trans s7
   exact q _ _ (s1.trans s67) (.n ad (.cons (.w _) (.cons (.w _) (.cons (.n (s67 _ _ ad) (hzs.same (sD.trans (sl.trans s67)))) (.cons (hv6.same s7) .nil)))))
theorem BX:ax ["item"] ["item"] (ah sI):=mkS
theorem AG{f fk fn fe:Addr}{fd fdk fdn fde:FuncData} (F:Fun K "part_item_tree" "part_item_tree" sI f fd)
  (GK:aV P w K mg base CX0 32 fk fdk ["kind"] (gx K 31)) (bK:aX K fdk ["kind"] []) (kK:W.keepIn K (.ref fk)=true) (mK:mg "kind_tree"=some (.ref fk))
  (GN:aV P w K mg base CX0 33 fn fdn ["named"] (jv K)) (bN:aX K fdn ["named"] []) (kN:W.keepIn K (.ref fn)=true) (mN:mg "named_trees"=some (.ref fn))
  (GE:aV P w K mg base CX0 33 fe fde ["expression"] (ri K 31)) (bE:aX K fde ["expression"] []) (kE:W.keepIn K (.ref fe)=true) (mE:mg "expression_tree"=some (.ref fe)):aV P w K mg base CX0 34 f fd ["item"] (yy K):=by
 refine F.k0 BX fun cdv A q0 s H vs Q E hr h=>?_
 obtain⟨x,it,rfl,hx,hok,q⟩:=h
 have hr3:bq 32 _:=hr.mono (by decide)
 have hr4:bq 33 _:=hr.mono (by decide)
 refine⟨_,af (aF (am aZ (ix0 au (pv 0) ag) ak (av _)) (aj (ao (aE (aa ak (aa (ix0 au (pv 0) ag) (aa (ai GK hr3 rfl mK kK bK .nil aC (aa (ix0 au (pv 0) ag) ac)) ac)))))) ar)
  (af (aF (am aZ (ix0 au (pv 0) ag) ak (av _)) (aj (ao (pv 0))) ar)
  (aj (ao (aE (aa ak (aa (ix0 au (pv 0) ag) (aa (ai GN hr4 rfl mN kN bN .nil aC (aa (ix0 au (pv 0) ag) ac)) (aa (ai GK hr3 rfl mK kK bK .nil aC (aa (ix0 au (pv 0) ag) ac)) (aa (ai GE hr rfl mE kE bE .nil aC (aa (ix0 au (pv 0) ag) ac)) ac))))))))),?_⟩
 cases it with
 |opn z =>
  obtain⟨p,xs,rfl,hp,hs⟩:=DAt.tup (show DAt H x (.t [.s "open",.s z]) from hx)
  obtain⟨x1,_,rfl,h1,hs⟩:=hs.one
  obtain⟨x2,_,rfl,h2,hs⟩:=hs.one
  cases hs.none
  cases h1.str
  cases h2.str
  refine⟨_,rfl,p,_,_,.str "open",rfl,rfl,SqT.of hp,rfl,rfl,_,rfl,aO (fun c=>nK0 c) (fun _=>?_)⟩
  exact⟨_,rfl,p,_,_,.str "open",rfl,rfl,SqT.of hp,rfl,rfl,_,rfl,aO (fun _=>⟨_,rfl,q _ _ sr0 (.n hp (.cons (.w _) (.cons (.w _) .nil)))⟩) (fun c=>absurd (by decide +kernel) c)⟩
 |kind z k =>
  obtain⟨p,xs,rfl,hp,hs⟩:=DAt.tup (show DAt H x (.t [.s "kind",.s z,k.d]) from hx)
  obtain⟨x1,_,rfl,h1,hs⟩:=hs.one
  obtain⟨x2,_,rfl,h2,hs⟩:=hs.one
  obtain⟨x3,_,rfl,h3,hs⟩:=hs.one
  cases hs.none
  cases h1.str
  cases h2.str
  refine⟨_,rfl,p,_,_,.str "kind",rfl,rfl,SqT.of hp,rfl,rfl,_,rfl,aO (fun _=>?_) (fun c=>absurd (by decide +kernel) c)⟩
  refine⟨_,rfl,p,_,_,.str z,rfl,rfl,SqT.of hp,rfl,_,rfl,p,_,_,x3,rfl,rfl,SqT.of hp,rfl,x3,k,rfl,zh h3,hok.2.1,hok.2.dp,fun H2 v2 s2 hv2=>⟨(sz 3),fun p3 hp3=>?_⟩⟩
  have s3:=ae hp3 (.tup [.str "kind",.str z,v2])
  exact q _ _ (s2.trans s3) (.n ad (.cons (.w _) (.cons (.w _) (.cons (hv2.same s3) .nil))))
 |fn z rs k e =>
  obtain⟨p,xs,rfl,hp,hs⟩:=DAt.tup (show DAt H x (.t [.s "fun",.s z,.t (rs.map rwD),k.d,e.d]) from hx)
  obtain⟨x1,_,rfl,h1,hs⟩:=hs.one
  obtain⟨x2,_,rfl,h2,hs⟩:=hs.one
  obtain⟨x3,_,rfl,h3,hs⟩:=hs.one
  obtain⟨x4,_,rfl,h4,hs⟩:=hs.one
  obtain⟨x5,_,rfl,h5,hs⟩:=hs.one
  cases hs.none
  cases h1.str
  cases h2.str
  refine⟨_,rfl,p,_,_,.str "fun",rfl,rfl,SqT.of hp,rfl,rfl,_,rfl,aO (fun c=>nK0 c) (fun _=>?_)⟩
  refine⟨_,rfl,p,_,_,.str "fun",rfl,rfl,SqT.of hp,rfl,rfl,_,rfl,aO (fun c=>nK0 c) (fun _=>?_)⟩
  refine⟨_,rfl,p,_,_,.str z,rfl,rfl,SqT.of hp,rfl,_,rfl,p,_,_,x3,rfl,rfl,SqT.of hp,rfl,x3,rs,rfl,h3,hok.2.1,fun H1 v1 s1 hv1=>?_⟩
  refine⟨_,rfl,p,_,_,x4,rfl,rfl,SqT.of (s1 _ _ hp),rfl,x4,k,rfl,zh (h4.same s1),hok.2.2.1.1,hok.2.2.1.dp,fun H2 v2 s2 hv2=>?_⟩
  refine⟨_,rfl,p,_,_,x5,rfl,rfl,SqT.of ((s1.trans s2) _ _ hp),rfl,x5,e,rfl,Dj (h5.same (s1.trans s2)),hok.2.2.2.1,hok.2.2.2.2,fun H3 v3 s3 hv3=>⟨(sz 5),fun p4 hp4=>?_⟩⟩
  have s4:=ae hp4 (.tup [.str "fun",.str z,v1,v2,v3])
  exact q _ _ (s1.trans (s2.trans (s3.trans s4))) (.n ad (.cons (.w _) (.cons (.w _) (.cons (hv1.same (s2.trans (s3.trans s4))) (.cons (hv2.same (s3.trans s4)) (.cons (hv3.same s4) .nil))))))
theorem zC:ax ["items"] ["items"] (ah kY):=mkS
theorem xt{f fi:Addr}{fd fdi:FuncData} (F:Fun K "part_item_trees" "part_item_trees" kY f fd)
  (GI:aV P w K mg base CX0 34 fi fdi ["item"] (yy K)) (bI:aX K fdi ["item"] []) (kI:W.keepIn K (.ref fi)=true) (mI:mg "part_item_tree"=some (.ref fi)) (mt:mg "tuple"=none):aV P w K mg base CX0 35 f fd ["items"] (uw K):=by
 refine F.k0 zC fun cdv A q0 s H vs Q E hr h=>?_
 obtain⟨x,is,rfl,hx,h16,hok,q⟩:=h
 refine⟨_,aj (ao (aL aI rfl mt aR (aa (bi (own:=["item"]) (cV (pv 0))
  (fun _ _ _ _=>pg0 ["item"]) (fun _ _ _ _=>ai GI hr rfl mI kI bI .nil aC (aa (pv 0) ac))) ac))),?_⟩
 obtain⟨p,xs,rfl,hp,hxs⟩:=hx.tup
 have xl:=hxs.length
 rw [lm0] at xl
 refine⟨_,rfl,p,rfl,⟨_,SqT.of hp⟩,?_⟩
 refine fv (xs:=xs) (fun i H v=>∀r,is[i]?=some r->bz K H v r.tr) (fun i H H' v e h d hd=>(h d hd).same e) hp (by omega) ?_ ?_
 ·intro i u H3 N B hu s3 hN
  obtain⟨t,ht,hat⟩:=hxs.get hu
  obtain⟨k0,hk0,rfl⟩:=dE ht
  refine⟨rfl,aY ⟨_,rfl,u,k0,rfl,hat.same s3,hok k0 (List.mem_of_getElem? hk0),fun H4 v s4 hv=>hN _ _ s4 fun d hd=>?_⟩⟩
  rw [hk0] at hd
  cases hd
  exact hv
 ·intro zs H3 D s3 hl hz hD
  have hzs:aJ K H3 zs (is.map PI.tr):=eQ (by rw [hl,xl,lm0]) fun i v d hv hd=>by
   obtain⟨k0,hk0,rfl⟩:=dE hd
   exact hz i v hv k0 hk0
  have sD:=ae hD (.lst zs)
  refine⟨D,zs,rfl,.inl ⟨SqL.of ad,fun l hl=>?_⟩⟩
  have sl:=ae hl (.tup zs)
  exact q _ _ (s3.trans (sD.trans sl)) (.n ad (hzs.same (sD.trans sl)))
abbrev dtN:List Str:=["declaration","form","name","formals"]
theorem rG:ax dtN ["declaration"] (ah fC):=mkS
theorem zN{f fi fs fp:Addr}{fd fdi fds fdp:FuncData} (F:Fun K "declaration_tree" "declaration_tree" fC f fd)
  (GI:aV P w K mg base CX0 33 fi fdi ["item"] (y8 K)) (bI:aX K fdi ["item"] []) (kI:W.keepIn K (.ref fi)=true) (mI:mg "face_item_tree"=some (.ref fi))
  (GS:aV P w K mg base CX0 34 fs fds ["seal"] (qz K)) (bS:aX K fds ["seal"] []) (kS:W.keepIn K (.ref fs)=true) (mS:mg "seal_tree"=some (.ref fs))
  (GP:aV P w K mg base CX0 35 fp fdp ["items"] (uw K)) (bP:aX K fdp ["items"] []) (kP:W.keepIn K (.ref fp)=true) (mP:mg "part_item_trees"=some (.ref fp))
  (mt:mg "tuple"=none):aV P w K mg base CX0 36 f fd ["declaration"] (yH K):=by
 refine F.k0 rG fun cdv A q0 s H vs Q E hr h=>?_
 obtain⟨x,d,rfl,hx,hok,q⟩:=h
 have hr4:bq 33 _:=hr.mono (by decide)
 have hr5:bq 34 _:=hr.mono (by decide)
 refine⟨_,af (aS (i:=1) rG.nd (ix0 au (pv 0) ag))
  (af (aS (i:=2) rG.nd (ix0 au (pv 0) ag))
  (af (aF (am aZ (pv 1) ak (av _)) (aj (ao (aB cH (aE (aa ak (aa (pv 2) ac))) (aL aI rfl mt aR (aa (bi (own:=["item"]) (cV (ix0 au (pv 0) ag))
   (fun _ _ _ _=>pg0 ["item"]) (fun _ _ _ _=>ai GI hr4 rfl mI kI bI .nil aC (aa (pv 0) ac))) ac))))) ar)
  (af (aF (am aZ (pv 1) ak (av _)) (aj (ao (aB cH (aE (aa ak (aa (pv 2) (aa (ai GS hr5 rfl mS kS bS .nil aC (aa (ix0 au (pv 0) ag) ac)) ac)))) (ai GP hr rfl mP kP bP .nil aC (aa (ix0 au (pv 0) ag) ac))))) ar)
  (af (aF (am aZ (pv 1) ak (av _))
   (af (aS (i:=3) rG.nd (aL aI rfl mt aR (aa (bi (own:=["formal"]) (cV (ix0 au (pv 0) ag))
    (fun _ _ _ _=>pg0 ["formal"]) (fun _ _ _ _=>aB (r:=tT K) cH (aE (aa (ix0 (r:=Cr K) au (pv 0) ag) ac)) (ai GS hr5 rfl mS kS bS .nil aC (aa (ix0 (r:=Cr K) au (pv 0) ag) ac)))) ac)))
   (aj (ao (aB cH (aE (aa ak (aa (pv 2) (aa (pv 3) (aa (ai GS hr5 rfl mS kS bS .nil aC (aa (ix0 au (pv 0) ag) ac)) ac))))) (ai GP hr rfl mP kP bP .nil aC (aa (ix0 au (pv 0) ag) ac)))))) ar)
  (aj (ao (aB cH (aE (aa ak (aa (pv 2) (aa (ix0 au (pv 0) ag) ac)))) (ix0 au (pv 0) ag)))))))),?_⟩
 cases d with
 |face z is =>
  obtain⟨hz,h16,hok⟩:=hok
  obtain⟨p,xs,rfl,hp,hs⟩:=DAt.tup (show DAt H x (.t [.s "face",.s z,.t (is.map FI.d)]) from hx)
  obtain⟨x1,_,rfl,h1,hs⟩:=hs.one
  obtain⟨x2,_,rfl,h2,hs⟩:=hs.one
  obtain⟨x3,_,rfl,h3,hs⟩:=hs.one
  cases hs.none
  cases h1.str
  cases h2.str
  obtain⟨p3,ys,rfl,hp3,hys⟩:=h3.tup
  have yl:=hys.length
  rw [lm0] at yl
  refine⟨_,rfl,p,_,_,.str "face",rfl,rfl,SqT.of hp,rfl,_,rfl,p,_,_,.str z,rfl,rfl,SqT.of hp,rfl,?_⟩
  refine⟨_,rfl,rfl,_,rfl,aO (fun _=>?_) (fun c=>absurd (by decide +kernel) c)⟩
  refine⟨_,rfl,(sz 2),fun p1 hp1=>?_⟩
  have s1:=ae hp1 (.tup [.str "face",.str z])
  have hp3':=s1 _ _ hp3
  refine⟨_,rfl,p,_,_,.ref p3,rfl,rfl,SqT.of (s1 _ _ hp),rfl,p3,rfl,⟨_,SqT.of hp3'⟩,?_⟩
  refine fv (xs:=ys) (fun i H v=>∀d,is[i]?=some d->bz K H v d.tr) (fun i H H' v e h d hd=>(h d hd).same e) hp3' (by omega) ?_ ?_
  ·intro i u H3 N B hu s3 hN
   obtain⟨t,ht,hat⟩:=hys.get hu
   obtain⟨k0,hk0,rfl⟩:=dE ht
   refine⟨rfl,aY ⟨_,rfl,u,k0,rfl,hat.same (s1.trans s3),hok k0 (List.mem_of_getElem? hk0),fun H4 v s4 hv=>hN _ _ s4 fun d hd=>?_⟩⟩
   rw [hk0] at hd
   cases hd
   exact hv
  ·intro zs H3 D s3 hl hzz hD
   have hzs:aJ K H3 zs (is.map FI.tr):=eQ (by rw [hl,yl,lm0]) fun i v d hv hd=>by
    obtain⟨k0,hk0,rfl⟩:=dE hd
    exact hzz i v hv k0 hk0
   have sD:=ae hD (.lst zs)
   refine⟨D,zs,rfl,.inl ⟨SqL.of ad,fun l hl'=>?_⟩⟩
   have sl:=ae hl' (.tup zs)
   have s13:=s3.trans (sD.trans sl)
   refine gB (s13 _ _ ad) ad (by simp) (by show 2+zs.length<=1000;omega) fun H5 p5 s5 h5=>?_
   exact q _ _ (s1.trans (s13.trans s5)) (.n h5 (.cons (.w _) (.cons (.w _) (hzs.same (sD.trans (sl.trans s5))))))
 |part z sl is =>
  obtain⟨hz,hsl,h16,hok⟩:=hok
  obtain⟨p,xs,rfl,hp,hs⟩:=DAt.tup (show DAt H x (.t [.s "part",.s z,nW sl,.t (is.map PI.d)]) from hx)
  obtain⟨x1,_,rfl,h1,hs⟩:=hs.one
  obtain⟨x2,_,rfl,h2,hs⟩:=hs.one
  obtain⟨x3,_,rfl,h3,hs⟩:=hs.one
  obtain⟨x4,_,rfl,h4,hs⟩:=hs.one
  cases hs.none
  cases h1.str
  cases h2.str
  refine⟨_,rfl,p,_,_,.str "part",rfl,rfl,SqT.of hp,rfl,_,rfl,p,_,_,.str z,rfl,rfl,SqT.of hp,rfl,?_⟩
  refine⟨_,rfl,rfl,_,rfl,aO (fun c=>nK0 c) (fun _=>?_)⟩
  refine⟨_,rfl,rfl,_,rfl,aO (fun _=>?_) (fun c=>absurd (by decide +kernel) c)⟩
  refine⟨_,rfl,_,rfl,p,_,_,x3,rfl,rfl,SqT.of hp,rfl,x3,sl,rfl,h3,hsl,fun H1 v1 s1 hv1=>⟨(sz 3),fun p2 hp2=>?_⟩⟩
  have s2:=ae hp2 (.tup [.str "part",.str z,v1])
  have s12:=s1.trans s2
  refine⟨_,rfl,p,_,_,x4,rfl,rfl,SqT.of (s12 _ _ hp),rfl,x4,is,rfl,h4.same s12,h16,hok,fun H3 v3 s3 hv3=>?_⟩
  obtain⟨a,ys,rfl,ha,hys⟩:=hv3.node
  have yl:=hys.length
  rw [lm0] at yl
  refine gB (s3 _ _ ad) ha (by simp) (by show 3+ys.length<=1000;omega) fun H5 p5 s5 h5=>?_
  exact q _ _ (s12.trans (s3.trans s5)) (.n h5 (.cons (.w _) (.cons (.w _) (.cons (hv1.same (s2.trans (s3.trans s5))) (hys.same s5)))))
 |maker z fs sl is =>
  obtain⟨hz,⟨f4,hfo⟩,hsl,h16,hok⟩:=hok
  obtain⟨p,xs,rfl,hp,hs⟩:=DAt.tup (show DAt H x (.t [.s "maker",.s z,.t (fs.map foD),nW sl,.t (is.map PI.d)]) from hx)
  obtain⟨x1,_,rfl,h1,hs⟩:=hs.one
  obtain⟨x2,_,rfl,h2,hs⟩:=hs.one
  obtain⟨x3,_,rfl,h3,hs⟩:=hs.one
  obtain⟨x4,_,rfl,h4,hs⟩:=hs.one
  obtain⟨x5,_,rfl,h5,hs⟩:=hs.one
  cases hs.none
  cases h1.str
  cases h2.str
  obtain⟨p3,us,rfl,hp3,hus⟩:=h3.tup
  have ul:=hus.length
  rw [lm0] at ul
  refine⟨_,rfl,p,_,_,.str "maker",rfl,rfl,SqT.of hp,rfl,_,rfl,p,_,_,.str z,rfl,rfl,SqT.of hp,rfl,?_⟩
  refine⟨_,rfl,rfl,_,rfl,aO (fun c=>nK0 c) (fun _=>?_)⟩
  refine⟨_,rfl,rfl,_,rfl,aO (fun c=>nK0 c) (fun _=>?_)⟩
  refine⟨_,rfl,rfl,_,rfl,aO (fun _=>?_) (fun c=>absurd (by decide +kernel) c)⟩
  refine⟨_,rfl,p,_,_,.ref p3,rfl,rfl,SqT.of hp,rfl,p3,rfl,⟨_,SqT.of hp3⟩,?_⟩
  refine fv (xs:=us) (fun i H v=>∀d,fs[i]?=some d->bz K H v (foT d)) (fun i H H' v e h d hd=>(h d hd).same e) hp3 (by omega) ?_ ?_
  ·intro i u H3 N B hu s3 hN
   obtain⟨t,ht,hat⟩:=hus.get hu
   obtain⟨fo,hk0,rfl⟩:=dE ht
   obtain⟨hf1,hf2⟩:=hfo fo (List.mem_of_getElem? hk0)
   obtain⟨a,ys,rfl,ha,hs⟩:=DAt.tup (show DAt H3 u (.t [.s fo.1,fo.2.d]) from hat.same s3)
   obtain⟨y1,_,rfl,g1,hs⟩:=hs.one
   obtain⟨y2,_,rfl,g2,hs⟩:=hs.one
   cases hs.none
   cases g1.str
   refine⟨rfl,aY ⟨_,rfl,a,_,_,.str fo.1,rfl,rfl,SqT.of ha,rfl,(sz 1),fun p1 hp1=>?_⟩⟩
   have s1:=ae hp1 (.tup [.str fo.1])
   refine⟨_,rfl,a,_,_,y2,rfl,rfl,SqT.of (s1 _ _ ha),rfl,y2,some fo.2,rfl,g2.same s1,hf2,fun H4 v4 s4 hv4=>?_⟩
   obtain⟨b,ws,rfl,hb,hws⟩:=bz.node (show bz K H4 v4 (.n fo.2.ts) from hv4)
   have wl:=hws.length
   have wl2:fo.2.ts.length=fo.2.rows.length+1:=by
    show(_::fo.2.rows.map rwT).length=_
    rw [lc0,lm0]
   have r4:=hf2.2.1
   refine gB (s4 _ _ ad) hb (by simp) (by show 1+ws.length<=1000;omega) fun H5 p5 s5 h5=>hN _ _ (s1.trans (s4.trans s5)) fun d hd=>?_
   rw [hk0] at hd
   cases hd
   exact .n h5 (.cons (.w _) (hws.same s5))
  ·intro zs H3 D s3 hl hzz hD
   have hzs:aJ K H3 zs (fs.map foT):=eQ (by rw [hl,ul,lm0]) fun i v d hv hd=>by
    obtain⟨k0,hk0,rfl⟩:=dE hd
    exact hzz i v hv k0 hk0
   have sD:=ae hD (.lst zs)
   refine⟨D,zs,rfl,.inl ⟨SqL.of ad,fun l hl'=>?_⟩⟩
   have sl':=ae hl' (.tup zs)
   have s0:=s3.trans (sD.trans sl')
   refine⟨_,rfl,_,rfl,_,rfl,p,_,_,x4,rfl,rfl,SqT.of (s0 _ _ hp),rfl,x4,sl,rfl,h4.same s0,hsl,fun H1 v1 s1 hv1=>⟨(sz 4),fun p2 hp2=>?_⟩⟩
   have s2:=ae hp2 (.tup [.str "maker",.str z,.ref l,v1])
   have s02:=s0.trans (s1.trans s2)
   refine⟨_,rfl,p,_,_,x5,rfl,rfl,SqT.of (s02 _ _ hp),rfl,x5,is,rfl,h5.same s02,h16,hok,fun H4 v4 s4 hv4=>?_⟩
   obtain⟨a,ys,rfl,ha,hys⟩:=hv4.node
   have yl:=hys.length
   rw [lm0] at yl
   refine gB (s4 _ _ ad) ha (by simp) (by show 4+ys.length<=1000;omega) fun H5 p5 s5 h5'=>?_
   have s15:=s1.trans (s2.trans (s4.trans s5))
   exact q _ _ (s02.trans (s4.trans s5)) (.n h5' (.cons (.w _) (.cons (.w _) (.cons (.n (s15 _ _ ad) (hzs.same (sD.trans (sl'.trans s15)))) (.cons (hv1.same (s2.trans (s4.trans s5))) (hys.same s5))))))
 |made z m ps =>
  obtain⟨hz,hm,p6,hps⟩:=hok
  obtain⟨p,xs,rfl,hp,hs⟩:=DAt.tup (show DAt H x (.t [.s "made",.s z,.s m,.t (ps.map Dd.s)]) from hx)
  obtain⟨x1,_,rfl,h1,hs⟩:=hs.one
  obtain⟨x2,_,rfl,h2,hs⟩:=hs.one
  obtain⟨x3,_,rfl,h3,hs⟩:=hs.one
  obtain⟨x4,_,rfl,h4,hs⟩:=hs.one
  cases hs.none
  cases h1.str
  cases h2.str
  cases h3.str
  obtain⟨p3,us,rfl,hp3,hus⟩:=h4.tup
  have ul:=hus.length
  rw [lm0] at ul
  refine⟨_,rfl,p,_,_,.str "made",rfl,rfl,SqT.of hp,rfl,_,rfl,p,_,_,.str z,rfl,rfl,SqT.of hp,rfl,?_⟩
  refine⟨_,rfl,rfl,_,rfl,aO (fun c=>nK0 c) (fun _=>?_)⟩
  refine⟨_,rfl,rfl,_,rfl,aO (fun c=>nK0 c) (fun _=>?_)⟩
  refine⟨_,rfl,rfl,_,rfl,aO (fun c=>nK0 c) (fun _=>?_)⟩
  refine⟨_,rfl,_,rfl,p,_,_,.str m,rfl,rfl,SqT.of hp,rfl,(sz 3),fun p2 hp2=>?_⟩
  have s2:=ae hp2 (.tup [.str "made",.str z,.str m])
  refine⟨_,rfl,p,_,_,.ref p3,rfl,rfl,SqT.of (s2 _ _ hp),rfl,?_⟩
  refine gB ad (s2 _ _ hp3) (by simp) (by show 3+us.length<=1000;omega) fun H5 p5 s5 h5=>?_
  have hws:aJ K H5 us (ps.map Tr.w):=eQ (by rw [ul,lm0]) fun i v t hv ht=>by
   obtain⟨k0,hk0,rfl⟩:=dE ht
   obtain⟨e,he,hat⟩:=hus.get hv
   rw [xS hk0] at he
   cases he
   cases hat.str
   exact .w _
  exact q _ _ (s2.trans s5) (.n h5 (.cons (.w _) (.cons (.w _) (.cons (.w _) hws))))
theorem pj:ax ["house"] ["house"] (ah dS):=mkS
theorem oV{f fd' fo:Addr}{fd fdd fdo:FuncData} (F:Fun K "house_text" "house_text" dS f fd)
  (GD:aV P w K mg base CX0 36 fd' fdd ["declaration"] (yH K)) (bD:aX K fdd ["declaration"] []) (kD:W.keepIn K (.ref fd')=true) (mD:mg "declaration_tree"=some (.ref fd'))
  (GO:aV P w K mg base CX0 3 fo fdo ["trees"] (rz K)) (bO:aX K fdo ["trees"] []) (kO:W.keepIn K (.ref fo)=true) (mO:mg "text_of"=some (.ref fo)):aV P w K mg base CX0 37 f fd ["house"] (jQ K):=by
 refine F.k0 pj fun cdv A q0 s H vs Q E hr h=>?_
 obtain⟨p,xs,ds,rfl,hp,hxs,hok,sm,q⟩:=h
 have hfl:_<=1000:=Nat.le_trans sm.len (by decide)
 have h2:=sm.count
 rw [lm0] at h2
 have hr3:bq 3 _:=hr.mono (by decide)
 refine⟨_,aj (ao (ai GO hr3 rfl mO kO bO .nil aC (aa (bi (own:=["declaration"]) (eV (pv 0))
  (fun _ _ _ _=>pg0 ["declaration"]) (fun _ _ _ _=>ai GD hr rfl mD kD bD .nil aC (aa (pv 0) ac))) ac))),?_⟩
 have xl:=hxs.length
 rw [lm0] at xl
 have hsum:((aD (ds.map Dc.tr)).map List.length).sum<=26000:=by
  have:=vC (ps:=aD (ds.map Dc.tr)) fun p hp=>(sm.tok p hp).1
  omega
 obtain⟨g1,g2,g3⟩:=we hfl hsum
 refine⟨_,rfl,p,rfl,⟨_,hp⟩,?_⟩
 refine tw (xs:=xs) (fun i H v=>∀d,ds[i]?=some d->bz K H v d.tr) (fun i H H' v e h d hd=>(h d hd).same e) hp (by omega) ?_ ?_
 ·intro i u H3 N B hu s3 hN
  obtain⟨t,ht,hat⟩:=hxs.get hu
  obtain⟨k0,hk0,rfl⟩:=dE ht
  refine⟨rfl,aY ⟨_,rfl,u,k0,rfl,hat.same s3,hok k0 (List.mem_of_getElem? hk0),fun H4 v s4 hv=>hN _ _ s4 fun d hd=>?_⟩⟩
  rw [hk0] at hd
  cases hd
  exact hv
 ·intro zs H3 D s3 hl hzz hD
  have hzs:aJ K H3 zs (ds.map Dc.tr):=eQ (by rw [hl,xl,lm0]) fun i v d hv hd=>by
   obtain⟨k0,hk0,rfl⟩:=dE hd
   exact hzz i v hv k0 hk0
  have sD:=ae hD (.lst zs)
  exact⟨D,zs,_,rfl,SqL.of ad,hzs.same sD,g1,g2,g3,fun H5 z s5 hz=>q _ _ (s3.trans (sD.trans s5)) hz⟩
end
def xc:Tr->Option Row
 |.n [a,b]=>match bo a,kd? b with
  |some s,some k=>some (s,k)
  |_,_=>none
 |_=>none
def jf(ts:List Tr):Option (List Row):=fP (ts.map xc)
def zZ(ts:List Tr):Option (List Kd):=fP (ts.map kd?)
def kq(ts:List Tr):Option (List Str):=fP (ts.map bo)
def si:List Tr->Option Rn
 |a::r=>match bo a,jf r with
  |some s,some rs=>some ⟨s,rs⟩
  |_,_=>none
 |[]=>none
def sl?:Tr->Option (Option Rn)
 |.w z=>if z="bare" then some none else none
 |.n ts=>(si ts).map some
def fo?:Tr->Option Fo
 |.n (a::r)=>match bo a,si r with
  |some s,some f=>some (s,f)
  |_,_=>none
 |_=>none
def AO(ts:List Tr):Option (List Fo):=fP (ts.map fo?)
def nm?{α:Type}(c:Str->α):List Tr->Option α
 |[a]=>(bo a).map c
 |_=>none
def nk?{α:Type}(c:Str->Kd->α):List Tr->Option α
 |[a,b]=>match bo a,kd? b with
  |some s,some k=>some (c s k)
  |_,_=>none
 |_=>none
def Aw:List Tr->Option FI
 |[a,.n ks,b]=>if ks.length<=4 then (match bo a,zZ ks,kd? b with
  |some s,some l,some k=>some (.fn s l k)
  |_,_,_=>none) else none
 |_=>none
def fi?:Tr->Option FI
 |.n (.w z::r)=>if z="hid" then nm? .hid r else if z="told" then nk? .told r else if z="fun" then Aw r else none
 |_=>none
def AJ(ts:List Tr):Option (List FI):=fP (ts.map fi?)
def Ae:List Tr->Option PI
 |[a,.n rs,b,e]=>if rs.length<=4 then (match bo a,jf rs,kd? b,ex? e with
  |some s,some l,some k,some x=>some (.fn s l k x)
  |_,_,_,_=>none) else none
 |_=>none
def pi?:Tr->Option PI
 |.n (.w z::r)=>if z="kind" then nk? .kind r else if z="open" then nm? .opn r else if z="fun" then Ae r else none
 |_=>none
def wD(ts:List Tr):Option (List PI):=fP (ts.map pi?)
def pC:List Tr->Option Dc
 |a::r=>match bo a,AJ r with
  |some s,some l=>some (.face s l)
  |_,_=>none
 |[]=>none
def om:List Tr->Option Dc
 |a::b::r=>match bo a,sl? b,wD r with
  |some s,some f,some l=>some (.part s f l)
  |_,_,_=>none
 |_=>none
def i8:List Tr->Option Dc
 |a::.n fs::b::r=>if 1<=fs.length/\fs.length<=4 then (match bo a,AO fs,sl? b,wD r with
  |some s,some l,some f,some is=>some (.maker s l f is)
  |_,_,_,_=>none) else none
 |_=>none
def ow:List Tr->Option Dc
 |a::b::c::r=>match bo a,bo b,kq (c::r) with
  |some s,some m,some l=>some (.made s m l)
  |_,_,_=>none
 |_=>none
def dc?:Tr->Option Dc
 |.n (.w z::r)=>if z="face" then pC r else if z="part" then om r else if z="maker" then i8 r else if z="made" then ow r else none
 |_=>none
def vE(ts:List Tr):Option (List Dc):=fP (ts.map dc?)
theorem eS{α:Type}{f:Tr->Option α}{g:α->Tr}{p:α->Prop}:∀{ts:List Tr} {l:List α},fP (ts.map f)=some l->(∀t∈ts,∀a,f t=some a->g a=t/\p a)->l.map g=ts/\(∀a∈l,p a)/\l.length=ts.length
 |[],l,h,_=>by cases h;exact⟨rfl,ni,rfl⟩
 |t::ts,l,h,k=>by
  rw [List.map_cons] at h
  cases et:f t with
  |none=>rw [et] at h;cases h
  |some a =>
   rw [et] at h
   obtain⟨r,er,rfl⟩:=Option.map_eq_some_iff.mp h
   obtain⟨h1,h2,h3⟩:=eS er fun u hu=>k u (.tail _ hu)
   obtain⟨g1,g2⟩:=k t (.head _) a et
   exact⟨by rw [List.map_cons,g1,h1],all_cons g2 h2,congrArg (·+1) h3⟩
theorem wA{t:Tr}{k:Kd}(sm:Sm t)(h:kd? t=some k):k.tr=t/\kSm k:=by
 obtain⟨h1,h2⟩:=A9 t k h
 refine⟨h1,h2,?_⟩
 have:=vM k
 rw [h1] at this
 have:=sm.dep
 omega
theorem Cv{t:Tr}{e:Ex}(sm:Sm t)(h:ex? t=some e):e.tr=t/\Dw e:=by
 obtain⟨h1,h2⟩:=BG t e h
 refine⟨h1,h2,?_⟩
 have:=yJ e
 rw [h1] at this
 have:=sm.dep
 omega
theorem Bx{t:Tr}{r:Row}(sm:Sm t)(h:xc t=some r):rwT r=t/\aA r.1=true/\kSm r.2:=by
 match t,h with
 |.n [a,b],h =>
  simp only [xc] at h
  split at h
  ·rename_i s k ea eb
   cases h
   obtain⟨rfl,n1⟩:=cZ ea
   obtain⟨k1,k2⟩:=wA sm.sub.tail.head eb
   exact⟨by show Tr.n [_,k.tr]=_;rw [k1],n1,k2⟩
  ·cases h
theorem uP{ts:List Tr}{rs:List Row}(sm:Sms ts)(h:jf ts=some rs):rs.map rwT=ts/\rH rs:=by
 obtain⟨h1,h2,h3⟩:=eS (g:=rwT) h fun t ht a e=>Bx (sm.mem ht) e
 exact⟨h1,by rw [h3];exact sm.count,h2⟩
theorem yQ{ts:List Tr}{r:Rn}(sm:Sms ts)(h:si ts=some r):r.ts=ts/\r.ok:=by
 match ts,h with
 |a::rs,h =>
  simp only [si] at h
  split at h
  ·rename_i s k ea eb
   cases h
   obtain⟨rfl,n1⟩:=cZ ea
   obtain⟨k1,k2⟩:=uP sm.tail eb
   exact⟨by show Tr.w s::k.map rwT=_;rw [k1],n1,k2⟩
  ·cases h
theorem tZ{t:Tr}{r:Option Rn}(sm:Sm t)(h:sl? t=some r):sF r=t/\rP r:=by
 match t,h with
 |.w z,h =>
  simp only [sl?] at h
  split at h
  ·rename_i c
   cases h
   subst c
   exact⟨rfl,True.intro⟩
  ·cases h
 |.n ts,h =>
  obtain⟨f,ef,rfl⟩:=Option.map_eq_some_iff.mp h
  obtain⟨k1,k2⟩:=yQ sm.sub ef
  exact⟨by show Tr.n f.ts=_;rw [k1],k2⟩
theorem Cy{t:Tr}{f:Fo}(sm:Sm t)(h:fo? t=some f):foT f=t/\Cg f:=by
 match t,h with
 |.n (a::r),h =>
  simp only [fo?] at h
  split at h
  ·rename_i s k ea eb
   cases h
   obtain⟨rfl,n1⟩:=cZ ea
   obtain⟨k1,k2⟩:=yQ sm.sub.tail eb
   exact⟨by show Tr.n (_::k.ts)=_;rw [k1],n1,k2⟩
  ·cases h
theorem AW{α:Type}{c:Str->α}{ts:List Tr}{a:α}(h:nm? c ts=some a):∃s,a=c s/\ts=[.w s]/\aA s=true:=by
 match ts,h with
 |[t],h =>
  obtain⟨s,es,rfl⟩:=Option.map_eq_some_iff.mp h
  obtain⟨rfl,n1⟩:=cZ es
  exact⟨s,rfl,rfl,n1⟩
theorem BM{α:Type}{c:Str->Kd->α}{ts:List Tr}{a:α}(sm:Sms ts)(h:nk? c ts=some a):∃s k,a=c s k/\ts=[.w s,k.tr]/\aA s=true/\kSm k:=by
 match ts,h with
 |[t,u],h =>
  simp only [nk?] at h
  split at h
  ·rename_i s k ea eb
   cases h
   obtain⟨rfl,n1⟩:=cZ ea
   obtain⟨k1,k2⟩:=wA sm.tail.head eb
   exact⟨s,k,rfl,by rw [k1],n1,k2⟩
  ·cases h
theorem CM{t:Tr}{i:FI}(sm:Sm t)(h:fi? t=some i):i.tr=t/\i.ok:=by
 match t,h with
 |.n (.w z::r),h =>
  simp only [fi?] at h
  split at h
  ·rename_i c
   subst c
   obtain⟨s,rfl,rfl,n1⟩:=AW h
   exact⟨rfl,n1⟩
  split at h
  ·rename_i c
   subst c
   obtain⟨s,k,rfl,rfl,n1,k2⟩:=BM sm.sub.tail h
   exact⟨rfl,n1,k2⟩
  split at h
  ·rename_i c
   subst c
   match r,h with
   |[a,.n ks,b],h =>
    simp only [Aw] at h
    split at h
    ·split at h
     ·rename_i s l k ea el ek
      cases h
      obtain⟨rfl,n1⟩:=cZ ea
      obtain⟨k1,k2⟩:=wA sm.sub.tail.tail.tail.head ek
      obtain⟨l1,l2,l3⟩:=eS (g:=Kd.tr) (p:=kSm) el fun t ht a e=>wA (sm.sub.tail.tail.head.sub.mem ht) e
      refine⟨?_,n1,⟨by omega,l2⟩,k2⟩
      show Tr.n [_,_,.n (l.map Kd.tr),k.tr]=_
      rw [l1,k1]
     ·cases h
    ·cases h
  ·cases h
theorem Cl{t:Tr}{i:PI}(sm:Sm t)(h:pi? t=some i):i.tr=t/\i.ok:=by
 match t,h with
 |.n (.w z::r),h =>
  simp only [pi?] at h
  split at h
  ·rename_i c
   subst c
   obtain⟨s,k,rfl,rfl,n1,k2⟩:=BM sm.sub.tail h
   exact⟨rfl,n1,k2⟩
  split at h
  ·rename_i c
   subst c
   obtain⟨s,rfl,rfl,n1⟩:=AW h
   exact⟨rfl,n1⟩
  split at h
  ·rename_i c
   subst c
   match r,h with
   |[a,.n ks,b,e],h =>
    simp only [Ae] at h
    split at h
    ·split at h
     ·rename_i s l k x ea el ek ee
      cases h
      obtain⟨rfl,n1⟩:=cZ ea
      obtain⟨k1,k2⟩:=wA sm.sub.tail.tail.tail.head ek
      obtain⟨x1,x2⟩:=Cv sm.sub.tail.tail.tail.tail.head ee
      obtain⟨l1,l2⟩:=uP sm.sub.tail.tail.head.sub el
      refine⟨?_,n1,l2,k2,x2⟩
      show Tr.n [_,_,.n (l.map rwT),k.tr,x.tr]=_
      rw [l1,k1,x1]
     ·cases h
    ·cases h
  ·cases h
theorem yG{ts:List Tr}{l:List PI}(sm:Sms ts)(h:wD ts=some l):l.map PI.tr=ts/\l.length<=400/\∀i∈l,i.ok:=by
 obtain⟨h1,h2,h3⟩:=eS (g:=PI.tr) (p:=PI.ok) h fun t ht a e=>Cl (sm.mem ht) e
 exact⟨h1,by rw [h3];exact sm.count,h2⟩
theorem CD{t:Tr}{d:Dc}(sm:Sm t)(h:dc? t=some d):d.tr=t/\d.ok:=by
 match t,h with
 |.n (.w z::r),h =>
  have smr:=sm.sub.tail
  simp only [dc?] at h
  split at h
  ·rename_i c
   subst c
   match r,h,smr with
   |a::r,h,smr =>
    simp only [pC] at h
    split at h
    ·rename_i s l ea el
     cases h
     obtain⟨rfl,n1⟩:=cZ ea
     obtain⟨l1,l2,l3⟩:=eS (g:=FI.tr) (p:=FI.ok) el fun t ht a e=>CM (smr.tail.mem ht) e
     exact⟨by show Tr.n (_::_::l.map FI.tr)=_;rw [l1],n1,by rw [l3];exact smr.tail.count,l2⟩
    ·cases h
  split at h
  ·rename_i c
   subst c
   match r,h,smr with
   |a::b::r,h,smr =>
    simp only [om] at h
    split at h
    ·rename_i s f l ea ef el
     cases h
     obtain⟨rfl,n1⟩:=cZ ea
     obtain⟨f1,f2⟩:=tZ smr.tail.head ef
     obtain⟨l1,l2,l3⟩:=yG smr.tail.tail el
     exact⟨by show Tr.n (_::_::sF f::l.map PI.tr)=_;rw [l1,f1],n1,f2,l2,l3⟩
    ·cases h
  split at h
  ·rename_i c
   subst c
   match r,h,smr with
   |a::.n fs::b::r,h,smr =>
    simp only [i8] at h
    split at h
    ·split at h
     ·rename_i s g f l ea eg ef el
      cases h
      obtain⟨rfl,n1⟩:=cZ ea
      obtain⟨f1,f2⟩:=tZ smr.tail.tail.head ef
      obtain⟨l1,l2,l3⟩:=yG smr.tail.tail.tail el
      obtain⟨g1,g2,g3⟩:=eS (g:=foT) (p:=Cg) eg fun t ht a e=>Cy (smr.tail.head.sub.mem ht) e
      refine⟨?_,n1,⟨by omega,g2⟩,f2,l2,l3⟩
      show Tr.n (_::_::.n (g.map foT)::sF f::l.map PI.tr)=_
      rw [g1,l1,f1]
     ·cases h
    ·cases h
  split at h
  ·rename_i c
   subst c
   match r,h,smr with
   |a::b::c::r,h,smr =>
    simp only [ow] at h
    split at h
    ·rename_i s m l ea em el
     cases h
     obtain⟨rfl,n1⟩:=cZ ea
     obtain⟨rfl,m1⟩:=cZ em
     obtain⟨l1,l2,l3⟩:=eS (g:=Tr.w) (p:=fun s=>aA s=true) el fun t ht a e=>⟨(cZ e).1.symm,(cZ e).2⟩
     exact⟨by show Tr.n (_::_::_::l.map Tr.w)=_;rw [l1],n1,m1,by rw [l3];exact smr.tail.tail.count,l2⟩
    ·cases h
  ·cases h
theorem A3{ts:List Tr}{l:List Dc}(sm:Sms ts)(h:vE ts=some l):l.map Dc.tr=ts/\∀i∈l,i.ok:=by
 obtain⟨h1,h2,_⟩:=eS (g:=Dc.tr) (p:=Dc.ok) h fun t ht a e=>CD (sm.mem ht) e
 exact⟨h1,h2⟩
def Ca(P:Program)(w:World)(K:W.Frag)(mg:Str->Option Value)(base:Heap)(C:CXT)(n:Nat)(ps:List Str)(sp:Sp)(nm:Str):Prop :=
 ∃(f:Addr) (fd:FuncData),aV P w K mg base C n f fd ps sp/\aX K fd ps []/\W.keepIn K (.ref f)=true/\mg nm=some (.ref f)
theorem Ca.mk{P:Program}{w:World}{K:W.Frag}{mg:Str->Option Value}{base:Heap}{C:CXT}{n:Nat}{ps:List Str}{sp:Sp}{nm:Str}{f:Addr}{fd:FuncData}(G:aV P w K mg base C n f fd ps sp)(b:aX K fd ps [])(k:W.keepIn K (.ref f)=true)(m:mg nm=some (.ref f)):Ca P w K mg base C n ps sp nm:=⟨f,fd,G,b,k,m⟩
inductive tz{α:Type}(K:W.Frag)(CF:Addr)(f:Tr->Option α)(D:α->Dd):Sp|mk{vs H Q E}(x:V)(t:Tr)(_:vs=[x])(_:bz K H x t)(_:Sm t)(_:(∀a,f t=some a->∀H' v,aM H H'->DAt H' v (D a)->Q v H'))(_:(f t=none->Rf CF E H)):tz K CF f D vs H Q E
inductive tf{α:Type}(K:W.Frag)(CF:Addr)(f:List Tr->Option α)(D:α->Dd):Sp|mk{vs H Q E}(p:Addr)(xs:List V)(ts:List Tr)(_:vs=[.ref p])(_:H p=some (.tup xs))(_:aJ K H xs ts)(_:Sms ts)(_:(∀a,f ts=some a->∀H' v,aM H H'->DAt H' v (D a)->Q v H'))(_:(f ts=none->Rf CF E H)):tf K CF f D vs H Q E
theorem pI{α:Type}{f:Tr->Option α}{ts:List Tr}{t:Tr}(hm:t∈ts)(he:f t=none):fP (ts.map f)=none:=by
 cases e:fP (ts.map f) with
 |none=>rfl
 |some es =>
  obtain⟨i,hi⟩:=List.mem_iff_getElem?.mp hm
  obtain⟨b,_,eb⟩:=(gL e).2 i t hi
  rw [he] at eb
  cases eb
theorem jL{α:Type}{f:Tr->Option α}{ts:List Tr}{i:Nat}{t:Tr}{l:List α}{a:α}(h:fP ((ts.take i).map f)=some l)(ht:ts[i]?=some t)(e:f t=some a):fP ((ts.take (i+1)).map f)=some (l++[a]):=by
 rw [List.take_add_one,ht,ma0]
 exact jE h e
theorem gR{α:Type}{K:W.Frag}{CF:Addr}{E:XK}{H:Hp}{p:Addr}{xs:List V}{ts:List Tr}{f:Tr->Option α}{D:α->Dd}{n:Nat}{κ:List Nat}{g:TG}{te:TE}{σ:St}{Q:VK}
  (hp:H p=some (.tup xs)) (hxs:aJ K H xs ts) (sm:Sms ts)
  (turn:∀(u:V) (t:Tr) (H3:Hp) (N:V->Hp->Prop) (B:Hp->Prop),t∈ts->bz K H3 u t->Sm t->aM H H3->(∀a,f t=some a->∀H4 v,aM H3 H4->DAt H4 v (D a)->N v H4)->(f t=none->Rf CF E H3) ->
   g u (da n κ σ) H3 fun σ4 H4=>σ4.drop n=(da n κ σ).drop n/\j0 σ4 H4 fun b H5=>if b=true then te σ4 H5 N else B H5)
  (no:fP (ts.map f)=none->Rf CF E H)
  (fin:∀l ys H3 A,aM H H3->fP (ts.map f)=some l->eW H3 ys (l.map D)->H3 A=none->Q (.ref A) (upd H3 A (.lst ys))):dX n κ g j0 te σ (Itt K p) H Q:=by
 have xl:=hxs.length
 have cl:=sm.count
 refine cQ (J:=Itt K p) (xs:=xs) (fun i ys H3=>aM H H3/\ys.length=i/\∃l,fP ((ts.take i).map f)=some l/\eW H3 ys (l.map D)) ⟨sr0,rfl,[],rfl,.nil⟩ (de (by omega)) ?_ ?_ ?_ ?_ ?_ ?_
 ·rintro i ys H3 ⟨_,hy,_⟩
  omega
 ·rintro i u ys H3 hu ⟨s3,_⟩
  exact⟨_,_,SqT.of (s3 _ _ hp),hu⟩
 ·rintro i ys u H3 H' hn ⟨s3,_⟩ hy
  exact⟨hy.1,hy.2 _ (SqT.of (s3 _ _ hp))⟩
 ·rintro ys H3 ⟨s3,_⟩
  exact⟨_,SqT.of (s3 _ _ hp),Nat.le_refl _⟩
 ·rintro i u ys H3 N hN hu ⟨s3,hy,l,hl,hat⟩
  obtain⟨t,ht,hu2⟩:=hxs.get hu
  have hm:=List.mem_of_getElem? ht
  refine turn u t H3 (fun v H6=>N (ys++[v]) H6) (fun H5=>N ys H5) hm (hu2.same s3) (sm.mem hm) s3 (fun a ea H4 v s4 hv=>hN _ _ ⟨s3.trans s4,by rw [la0,hy];rfl,l++[a],jL hl ht ea,?_⟩) (fun en=>Rf.same (no (pI hm en)) s3)
  rw [ma0]
  exact(hat.same s4).append (.cons hv .nil)
 ·rintro ys H3 A ⟨s3,_,l,hl,hat⟩ hA
  rw [xl,List.take_length] at hl
  exact fin l ys H3 A s3 hl hat hA
theorem xw{α:Type}{K:W.Frag}{CF:Addr}{E:XK}{H:Hp}{p:Addr}{xs:List V}{ts:List Tr}{f:Tr->Option α}{D:α->Dd}{n:Nat}{κ:List Nat}{g:TG}{te:TE}{σ:St}{Q:VK}
  (hp:H p=some (.lst xs)) (hxs:aJ K H xs ts) (sm:Sms ts)
  (turn:∀(u:V) (t:Tr) (H3:Hp) (N:V->Hp->Prop) (B:Hp->Prop),t∈ts->bz K H3 u t->Sm t->aM H H3->(∀a,f t=some a->∀H4 v,aM H3 H4->DAt H4 v (D a)->N v H4)->(f t=none->Rf CF E H3) ->
   g u (da n κ σ) H3 fun σ4 H4=>σ4.drop n=(da n κ σ).drop n/\j0 σ4 H4 fun b H5=>if b=true then te σ4 H5 N else B H5)
  (no:fP (ts.map f)=none->Rf CF E H)
  (fin:∀l ys H3 A,aM H H3->fP (ts.map f)=some l->eW H3 ys (l.map D)->H3 A=none->Q (.ref A) (upd H3 A (.lst ys))):dX n κ g j0 te σ (Itl K p) H Q:=by
 have xl:=hxs.length
 have cl:=sm.count
 refine cQ (J:=Itl K p) (xs:=xs) (fun i ys H3=>aM H H3/\ys.length=i/\∃l,fP ((ts.take i).map f)=some l/\eW H3 ys (l.map D)) ⟨sr0,rfl,[],rfl,.nil⟩ (de (by omega)) ?_ ?_ ?_ ?_ ?_ ?_
 ·rintro i ys H3 ⟨_,hy,_⟩
  omega
 ·rintro i u ys H3 hu ⟨s3,_⟩
  exact⟨_,_,SqL.of (s3 _ _ hp),hu⟩
 ·rintro i ys u H3 H' hn ⟨s3,_⟩ hy
  exact⟨hy.1,hy.2 _ (SqL.of (s3 _ _ hp))⟩
 ·rintro ys H3 ⟨s3,_⟩
  exact⟨_,SqL.of (s3 _ _ hp),Nat.le_refl _⟩
 ·rintro i u ys H3 N hN hu ⟨s3,hy,l,hl,hat⟩
  obtain⟨t,ht,hu2⟩:=hxs.get hu
  have hm:=List.mem_of_getElem? ht
  refine turn u t H3 (fun v H6=>N (ys++[v]) H6) (fun H5=>N ys H5) hm (hu2.same s3) (sm.mem hm) s3 (fun a ea H4 v s4 hv=>hN _ _ ⟨s3.trans s4,by rw [la0,hy];rfl,l++[a],jL hl ht ea,?_⟩) (fun en=>Rf.same (no (pI hm en)) s3)
  rw [ma0]
  exact(hat.same s4).append (.cons hv .nil)
 ·rintro ys H3 A ⟨s3,_,l,hl,hat⟩ hA
  rw [xl,List.take_length] at hl
  exact fin l ys H3 A s3 hl hat hA
theorem qv{a b:Tr}:xc (.n [a,b])=match bo a,kd? b with|some s,some k=>some (s,k)|_,_=>none:=rfl
theorem wC{ts:List Tr}(h:xc (.n ts)≠none):∃a b,ts=[a,b]:=by
 match ts,h with
 |[a,b],_=>exact⟨a,b,rfl⟩
 |[],h=>exact absurd rfl h
 |[_],h=>exact absurd rfl h
 |_::_::_::_,h=>exact absurd rfl h
abbrev Ax(rs:List Row):Dd:=.t (rs.map rwD)
theorem Sm.dp{t:Tr}(h:Sm t):t.dep < 31:=Nat.lt_succ_of_le h.dep
section
variable{P:Program}{w:World}{K:W.Frag}{mg:Str->Option Value}{base:Heap}{CF:Addr}
abbrev C1(P:Program)(w:World)(K:W.Frag)(mg:Str->Option Value)(base:Heap):=Ca P w K mg base (CX1 P w)
theorem pi:ax ["trees","named","tree"] ["trees"] (ah kc):=mkS
theorem xW{f:Addr}{fd:FuncData} (F:Fun K "named_kinds" "named_kinds" kc f fd) (cB:C1 P w K mg base 1 ["tree","least","most"] (bw K CF) "bracket") (cN:C1 P w K mg base 2 ["tree"] (dn K CF) "name_of_tree") (cK:C1 P w K mg base 34 ["tree"] (js K CF 31) "kind_of_tree")
  (mt:mg "tuple"=none):aV P w K mg base (CX1 P w) 35 f fd ["trees"] (tf K CF jf Ax):=by
 obtain⟨fb,fdb,GB,bB,kB,mB⟩:=cB
 obtain⟨fn,fdn,GN,bN,kN,mN⟩:=cN
 obtain⟨fk,fdk,GK,bK,kK,mK⟩:=cK
 refine F.k1 pi fun cdv A q0 s H vs Q E hr h=>?_
 obtain⟨p,xs,ts,rfl,hp,hxs,sm,q,qE⟩:=h
 have hr1:bq 1 _:=hr.mono (by decide)
 have hr2:bq 2 _:=hr.mono (by decide)
 refine⟨_,af (aS (i:=1) pi.nd (cc ac))
  (af (fg PassesOwn.leaving rfl (cV (pv 0)) (cU (i:=2) pi.nd rfl (Or.inl rfl))
   (af (aU (ai GB hr1 rfl mB kB bB .nil aQ (aa (pv 2) (aa ag (aa ag ac)))))
   (aj (aU (eU PySem.F.plainAttrs_list PySem.F.slot_list_append PySem.F.type_list_append bZ (pv 1) (aa (aE (aa (ai GN hr2 rfl mN kN bN .nil aQ (aa (ix0 au (pv 2) ag) ac)) (aa (ai GK hr rfl mK kK bK .nil aQ (aa (ix0 au (pv 2) ag) ac)) ac))) ac))))))
  (aj (ao (aL aI rfl mt aR (aa (pv 1) ac))))),?_⟩
 have xl:=hxs.length
 have cl:=sm.count
 refine⟨(sz 0),fun l hl=>?_⟩
 have s0:=ae hl (.lst [])
 refine⟨_,rfl,p,rfl,⟨_,SqT.of (s0 _ _ hp)⟩,?_⟩
 refine o7 (K:=K) (xs:=xs) (fun i σ H4=>∃(zs:List V) (v2:Option V) (rs:List Row),σ=[some (.ref p),some (.ref l),v2]/\aM H H4/\H4 l=some (.lst zs)/\zs.length=i/\fP ((ts.take i).map xc)=some rs/\eW H4 zs (rs.map rwD))
  ⟨[],none,[],rfl,s0,ad,rfl,rfl,.nil⟩ ?_ ?_ ?_
 ·rintro i σ H4 _ ⟨zs,v2,rs,rfl,s4,_⟩
  exact SqT.of (s4 _ _ hp)
 ·rintro i y σ H4 hy ⟨zs,v2,rs,rfl,s4,hl4,zl,hrs,hzs⟩
  obtain⟨t,ht,hat⟩:=hxs.get hy
  have hm:=List.mem_of_getElem? ht
  have smt:=sm.mem hm
  have no:xc t=none->Rf CF E H4:=fun e=>Rf.same (qE (pI hm e)) s4
  have hil:i < xs.length:=(List.getElem?_eq_some_iff.mp hy).1
  refine⟨_,rfl,y,t,2,.int 2,rfl,hat.same s4,smt,.inr ⟨2,rfl⟩,?_,fun nb=>no ?_⟩
  ·rintro⟨us,rfl,b1,b2⟩
   have b3:=b2 2 rfl
   obtain⟨a,ys,rfl,ha,hs⟩:=bz.node (hat.same s4)
   match us,b1,b3,hs,smt,no,ht with
   |[],b1,_,_,_,_,_=>exact absurd b1 (by decide)
   |[_],b1,_,_,_,_,_=>exact absurd b1 (by show ¬((2:Int)<=1);decide)
   |_::_::_::_,_,b3,_,_,_,_=>rw [lc0,lc0,lc0] at b3;omega
   |[u1,u2],_,_,hs,smt,no,ht =>
    obtain⟨x1,_,rfl,h1,hs⟩:=hs.one
    obtain⟨x2,_,rfl,h2,hs⟩:=hs.one
    cases hs.none
    refine⟨_,rfl,.inl ⟨rfl,_,SqL.of hl4⟩,_,rfl,a,_,_,x1,rfl,rfl,SqT.of ha,rfl,x1,u1,rfl,h1,smt.sub.head,fun z ez H5 s5=>?_,fun ez=>no (by rw [qv,ez])⟩
    refine⟨_,rfl,a,_,_,x2,rfl,rfl,SqT.of (s5 _ _ ha),rfl,x2,u2,rfl,h2.same s5,smt.sub.tail.head,smt.sub.tail.head.dp,fun k ek H6 v6 s6 hv6=>⟨(sz 2),fun p7 hp7=>?_⟩,fun ek=>Rf.same (no (by rw [qv,ez,ek])) s5⟩
    have s7:=ae hp7 (.tup [.str z,v6])
    have s47:=s5.trans (s6.trans s7)
    have hl7:=s47 _ _ hl4
    have kp:∀a us,upd H6 p7 (.tup [.str z,v6]) a=some (.tup us)->upd (upd H6 p7 (.tup [.str z,v6])) l (.lst (zs++[.ref p7])) a=some (.tup us):=fun a us h=>d9 hl7 h
    refine⟨l,_,_,rfl,rfl,hl7,mid (by omega),zs++[.ref p7],_,rs++[(z,k)],rfl,j7 (s4.trans s47) hl,ad,by rw [la0,zl];rfl,jL hrs ht (by rw [qv,ez,ek]),?_⟩
    rw [ma0]
    exact((hzs.same s47).keep kp).append (.cons (.t (kp _ _ ad) (.cons (.s _) (.cons (((yF hv6).same s7).keep kp) .nil))) .nil)
  ·cases t with
   |w z=>rfl
   |n us =>
    cases e:xc (.n us) with
    |none=>rfl
    |some r =>
     obtain⟨a,b,rfl⟩:=wC (ts:=us) (by rw [e];intro z;cases z)
     exact absurd ⟨_,rfl,by show(2:Int)<=2;decide,fun j e=>by cases e;show(2:Int)<=2;decide⟩ nb
 ·rintro σ H4 ⟨zs,v2,rs,rfl,s4,hl4,zl,hrs,hzs⟩
  rw [xl,List.take_length] at hrs
  exact⟨_,rfl,l,zs,rfl,.inl ⟨SqL.of hl4,fun p5 hp5=>q rs hrs _ _ (s4.trans (ae hp5 _)) (.t ad (hzs.same (ae hp5 _)))⟩⟩
theorem zq:ax ["trees"] ["trees"] (ah ku):=mkS
inductive Ag(K:W.Frag)(CF:Addr):Sp|mk{vs H Q E}(p:Addr)(xs:List V)(a:Tr)(ts:List Tr)(_:vs=[.ref p])(_:H p=some (.tup xs))(_:aJ K H xs (a::ts))(_:Sms (a::ts))(_:(∀r,si (a::ts)=some r->∀H' v,aM H H'->DAt H' v r.d->Q v H'))(_:(si (a::ts)=none->Rf CF E H)):Ag K CF vs H Q E
theorem qJ{a:Tr}{ts:List Tr}:si (a::ts)=match bo a,jf ts with|some s,some rs=>some ⟨s,rs⟩|_,_=>none:=rfl
theorem xz{f:Addr}{fd:FuncData} (F:Fun K "refining_of" "refining_of" ku f fd) (cN:C1 P w K mg base 2 ["tree"] (dn K CF) "name_of_tree") (cM:C1 P w K mg base 35 ["trees"] (tf K CF jf Ax) "named_kinds"):aV P w K mg base (CX1 P w) 36 f fd ["trees"] (Ag K CF):=by
 obtain⟨fn,fdn,GN,bN,kN,mN⟩:=cN
 obtain⟨fm,fdm,GM,bM,kM,mM⟩:=cM
 refine F.k1 zq fun cdv A q0 s H vs Q E hr h=>?_
 obtain⟨p,xs,a,ts,rfl,hp,hxs,sm,q,qE⟩:=h
 have hr2:bq 2 _:=hr.mono (by decide)
 refine⟨_,aj (ao (aE (aa (ai GN hr2 rfl mN kN bN .nil aQ (aa (ix0 au (pv 0) ag) ac)) (aa (ai GM hr rfl mM kM bM .nil aQ (aa (aH cx (pv 0) (aP ag) aT) ac)) ac)))),?_⟩
 obtain⟨x1,ys,rfl,h1,hs⟩:=aJ.one hxs
 refine⟨_,rfl,p,_,_,x1,rfl,rfl,SqT.of hp,at0,x1,a,rfl,h1,sm.head,fun z ez H1 s1=>?_,fun ez=>qE (by rw [qJ,ez])⟩
 refine⟨_,rfl,_,rfl,p,_,rfl,SqT.of (s1 _ _ hp),ba (k:=1) nr0 (by simp),fun p5 hp5=>?_⟩
 have s5:=ae hp5 (.tup (dc (x1::ys) (some 1) none))
 refine⟨p5,ys,ts,rfl,iq 1 H1,hs.same (s1.trans s5),sm.tail,fun rs ers H6 v6 s6 hv6=>⟨(sz 2),fun p7 hp7=>?_⟩,fun ers=>Rf.same (qE (by rw [qJ,ez,ers])) (s1.trans s5)⟩
 have s7:=ae hp7 (.tup [.str z,v6])
 exact q ⟨z,rs⟩ (by rw [qJ,ez,ers]) _ _ (s1.trans (s5.trans (s6.trans s7))) (.t ad (.cons (.s _) (.cons (hv6.same s7) .nil)))
theorem xo:ax ["tree"] ["tree"] (ah iY):=mkS
theorem wa{f:Addr}{fd:FuncData} (F:Fun K "seal_of_tree" "seal_of_tree" iY f fd) (cB:C1 P w K mg base 1 ["tree","least","most"] (bw K CF) "bracket") (cR:C1 P w K mg base 36 ["trees"] (Ag K CF) "refining_of"):aV P w K mg base (CX1 P w) 37 f fd ["tree"] (tz K CF sl? nW):=by
 obtain⟨fb,fdb,GB,bB,kB,mB⟩:=cB
 obtain⟨fr,fdr,GR,bR,kR,mR⟩:=cR
 refine F.k1 xo fun cdv A q0 s H vs Q E hr h=>?_
 obtain⟨x,t,rfl,hx,sm,q,qE⟩:=h
 have hr1:bq 1 _:=hr.mono (by decide)
 refine⟨_,af (aF (am (dY hr.units) (pv 0) ak (av _)) (aj (ao dW)) ar)
  (aj (ao (ai GR hr rfl mR kR bR .nil aQ (aa (ai GB hr1 rfl mB kB bB .nil aQ (aa (pv 0) (aa ag (aa dW ac)))) ac)))),?_⟩
 refine⟨_,rfl,t.dat,.str "bare",hx.dat,.str _,sm.shaped,bc _ (by decide +kernel),?_⟩
 show Wb (V.bl (PyData.eqv t.dat (.str "bare"))) _ _
 rw [oI]
 refine⟨_,rfl,?_⟩
 cases t with
 |w z =>
  refine aO (fun c=>?_) (fun c=>?_)
  ·have:z="bare":=od0 c
   exact q none (if_pos this) _ _ sr0 .o
  ·have n:z≠"bare":=fun e=>c (dt0 e)
   exact⟨_,rfl,x,_,1,.non,rfl,hx,sm,.inl rfl,(fun⟨ts,e,_⟩=>by cases e),fun _=>qE (if_neg n)⟩
 |n ts =>
  refine bx ⟨_,rfl,x,_,1,.non,rfl,hx,sm,.inl rfl,?_,fun nb=>qE ?_⟩
  ·rintro⟨us,e,b1,_⟩
   cases e
   obtain⟨a,xs,rfl,ha,hs⟩:=hx.node
   match ts,b1,hs,sm,q,qE with
   |[],b1,_,_,_,_=>exact absurd b1 (by decide)
   |u::us,_,hs,sm,q,qE =>
    refine⟨a,xs,u,us,rfl,ha,hs,sm.sub,fun r er=>q (some r) (by show(si _).map some=_;rw [er];rfl),fun er=>qE (by show(si _).map some=_;rw [er];rfl)⟩
  ·match ts,nb with
   |[],_=>rfl
   |u::us,nb=>exact absurd ⟨_,rfl,by rw [lc0];omega,fun j e=>by cases e⟩ nb
theorem ti:ax ["tree"] ["tree"] (ah fu):=mkS
theorem uy{a:Tr}{ts:List Tr}:fo? (.n (a::ts))=match bo a,si ts with|some s,some f=>some (s,f)|_,_=>none:=rfl
theorem qh{f:Addr}{fd:FuncData} (F:Fun K "formal_of_tree" "formal_of_tree" fu f fd) (cB:C1 P w K mg base 1 ["tree","least","most"] (bw K CF) "bracket") (cN:C1 P w K mg base 2 ["tree"] (dn K CF) "name_of_tree") (cR:C1 P w K mg base 36 ["trees"] (Ag K CF) "refining_of"):aV P w K mg base (CX1 P w) 37 f fd ["tree"] (tz K CF fo? foD):=by
 obtain⟨fb,fdb,GB,bB,kB,mB⟩:=cB
 obtain⟨fn,fdn,GN,bN,kN,mN⟩:=cN
 obtain⟨fr,fdr,GR,bR,kR,mR⟩:=cR
 refine F.k1 ti fun cdv A q0 s H vs Q E hr h=>?_
 obtain⟨x,t,rfl,hx,sm,q,qE⟩:=h
 have hr1:bq 1 _:=hr.mono (by decide)
 have hr2:bq 2 _:=hr.mono (by decide)
 refine⟨_,af (aU (ai GB hr1 rfl mB kB bB .nil aQ (aa (pv 0) (aa ag (aa dW ac)))))
  (aj (ao (aE (aa (ai GN hr2 rfl mN kN bN .nil aQ (aa (ix0 au (pv 0) ag) ac)) (aa (ai GR hr rfl mR kR bR .nil aQ (aa (aH cx (pv 0) (aP ag) aT) ac)) ac))))),?_⟩
 refine⟨_,rfl,x,t,2,.non,rfl,hx,sm,.inl rfl,?_,fun nb=>qE ?_⟩
 ·rintro⟨us,rfl,b1,_⟩
  obtain⟨p,xs,rfl,hp,hs⟩:=hx.node
  match us,b1,hs,sm,q,qE with
  |[],b1,_,_,_,_=>exact absurd b1 (by decide)
  |[_],b1,_,_,_,_=>exact absurd b1 (by show ¬((2:Int)<=1);decide)
  |a::b::ts,_,hs,sm,q,qE =>
   obtain⟨x1,ys,rfl,h1,hs⟩:=hs.one
   refine⟨_,rfl,p,_,_,x1,rfl,rfl,SqT.of hp,at0,x1,a,rfl,h1,sm.sub.head,fun z ez H1 s1=>?_,fun ez=>qE (by rw [uy,ez])⟩
   refine⟨_,rfl,_,rfl,p,_,rfl,SqT.of (s1 _ _ hp),ba (k:=1) nr0 (by simp),fun p5 hp5=>?_⟩
   have s5:=ae hp5 (.tup (dc (x1::ys) (some 1) none))
   refine⟨p5,ys,b,ts,rfl,iq 1 H1,hs.same (s1.trans s5),sm.sub.tail,fun r er H6 v6 s6 hv6=>⟨(sz 2),fun p7 hp7=>?_⟩,fun er=>Rf.same (qE (by rw [uy,ez,er])) (s1.trans s5)⟩
   have s7:=ae hp7 (.tup [.str z,v6])
   exact q (z,r) (by rw [uy,ez,er]) _ _ (s1.trans (s5.trans (s6.trans s7))) (.t ad (.cons (.s _) (.cons (hv6.same s7) .nil)))
 ·match t,nb with
  |.w z,_=>rfl
  |.n [],_=>rfl
  |.n [a],_=>rw [uy];cases bo a<;>rfl
  |.n (a::b::ts),nb=>exact absurd ⟨_,rfl,by rw [lc0,lc0];omega,fun j e=>by cases e⟩ nb
end
theorem lY{ts:List Tr}{m j:Int}(h:Brk (.n ts) m (.int j)):m<=ts.length/\(ts.length:Int)<=j:=by
 obtain⟨us,e,h1,h2⟩:=h
 cases e
 exact⟨h1,h2 j rfl⟩
theorem wV{ts:List Tr}{m:Int}(h:Brk (.n ts) m .non):m<=ts.length:=by
 obtain⟨us,e,h1,_⟩:=h
 cases e
 exact h1
theorem hV{ts:List Tr}{m j:Int}(h1:m<=ts.length)(h2:(ts.length:Int)<=j):Brk (.n ts) m (.int j):=⟨_,rfl,h1,fun i e=>by cases e;exact h2⟩
theorem rQ{ts:List Tr}{m:Int}(h1:m<=ts.length):Brk (.n ts) m .non:=⟨_,rfl,h1,fun i e=>by cases e⟩
theorem zm{α:Type}{c:Str->α}{ts:List Tr}(h:ts.length≠1):nm? c ts=none:=by
 match ts,h with
 |[],_=>rfl
 |[_],h=>exact absurd rfl h
 |_::_::_,_=>rfl
theorem yX{α:Type}{c:Str->Kd->α}{ts:List Tr}(h:ts.length≠2):nk? c ts=none:=by
 match ts,h with
 |[],_=>rfl
 |[_],_=>rfl
 |[_,_],h=>exact absurd rfl h
 |_::_::_::_,_=>rfl
theorem Aa{ts:List Tr}(h:ts.length≠3):Aw ts=none:=by
 match ts,h with
 |[],_=>rfl
 |[_],_=>rfl
 |[_,.w _],_=>rfl
 |[_,.n _],_=>rfl
 |[_,_,_],h=>exact absurd rfl h
 |_::.w _::_::_::_,_=>rfl
 |_::.n _::_::_::_,_=>rfl
theorem zR{ts:List Tr}(h:ts.length≠4):Ae ts=none:=by
 match ts,h with
 |[],_=>rfl
 |[_],_=>rfl
 |[_,.w _],_=>rfl
 |[_,.n _],_=>rfl
 |[_,.w _,_],_=>rfl
 |[_,.n _,_],_=>rfl
 |[_,_,_,_],h=>exact absurd rfl h
 |_::.w _::_::_::_::_,_=>rfl
 |_::.n _::_::_::_::_,_=>rfl
theorem qP{a b:Tr}{ks:List Tr}:Aw [a,.n ks,b]=if ks.length<=4 then (match bo a,zZ ks,kd? b with|some s,some l,some k=>some (.fn s l k)|_,_,_=>none) else none:=rfl
theorem qY{a b e:Tr}{ks:List Tr}:Ae [a,.n ks,b,e]=if ks.length<=4 then (match bo a,jf ks,kd? b,ex? e with|some s,some l,some k,some x=>some (.fn s l k x)|_,_,_,_=>none) else none:=rfl
theorem uY{α:Type}{c:Str->Kd->α}{a b:Tr}:nk? c [a,b]=match bo a,kd? b with|some s,some k=>some (c s k)|_,_=>none:=rfl
theorem uk{α:Type}{c:Str->α}{a:Tr}:nm? c [a]=(bo a).map c:=rfl
theorem yr{z:Str}{r:List Tr}:fi? (.n (.w z::r))=if z="hid" then nm? .hid r else if z="told" then nk? .told r else if z="fun" then Aw r else none:=rfl
theorem wT{z:Str}{r:List Tr}:pi? (.n (.w z::r))=if z="kind" then nk? .kind r else if z="open" then nm? .opn r else if z="fun" then Ae r else none:=rfl
theorem zM{t:Tr}(h:∀z ts,t≠.n (.w z::ts)):fi? t=none:=by
 match t,h with
 |.w _,_=>rfl
 |.n [],_=>rfl
 |.n (.n _::_),_=>rfl
 |.n (.w z::r),h=>exact absurd rfl (h z r)
theorem Ay{t:Tr}(h:∀z ts,t≠.n (.w z::ts)):pi? t=none:=by
 match t,h with
 |.w _,_=>rfl
 |.n [],_=>rfl
 |.n (.n _::_),_=>rfl
 |.n (.w z::r),h=>exact absurd rfl (h z r)
theorem at3{x y z u:V}{ys:List V}:atI (x::y::z::u::ys) 3=some u:=(cm (j:=3) rfl:atI (x::y::z::u::ys) ((3:Nat):Int)=some u)
theorem at4{x y z u t:V}{ys:List V}:atI (x::y::z::u::t::ys) 4=some t:=(cm (j:=4) rfl:atI (x::y::z::u::t::ys) ((4:Nat):Int)=some t)
section
variable{P:Program}{w:World}{K:W.Frag}{mg:Str->Option Value}{base:Heap}{CF:Addr}{tM:Tok}
theorem Ct:ax ["tree","ahead","kinds"] ["tree"] (ah sFI):=mkS
theorem C5{f:Addr}{fd:FuncData} (F:Fun K "face_item" "face_item" sFI f fd) (cA:C1 P w K mg base 2 ["tree"] (gM K CF) "word_ahead") (cB:C1 P w K mg base 1 ["tree","least","most"] (bw K CF) "bracket") (cN:C1 P w K mg base 2 ["tree"] (dn K CF) "name_of_tree") (cK:C1 P w K mg base 34 ["tree"] (js K CF 31) "kind_of_tree")
  (mM:mg "MOST_ARGUMENTS"=some (.int 4 tM)) (mt:mg "tuple"=none) (mF:mg "NoForm"=some (.ref CF)) (xF:W.excIn K CF o5 "ValueError.__new__"=true):aV P w K mg base (CX1 P w) 35 f fd ["tree"] (tz K CF fi? FI.d):=by
 obtain⟨fa,fda,GA,bA,kA,mA⟩:=cA
 obtain⟨fb,fdb,GB,bB,kB,mB⟩:=cB
 obtain⟨fn,fdn,GN,bN,kN,mN⟩:=cN
 obtain⟨fk,fdk,GK,bK,kK,mK⟩:=cK
 refine F.k1 Ct fun cdv A q0 s H vs Q E hr h=>?_
 obtain⟨x,t,rfl,hx,sm,q,qE⟩:=h
 have hr1:bq 1 _:=hr.mono (by decide)
 have hr2:bq 2 _:=hr.mono (by decide)
 obtain⟨d,m,hdat,hsh,hm⟩:=sm.shown hx
 refine⟨_,af (aS (i:=1) Ct.nd (ai GA hr2 rfl mA kA bA .nil aQ (aa (pv 0) ac)))
  (af (aF (am aZ (pv 1) ak (av _)) (af (aU (ai GB hr1 rfl mB kB bB .nil aQ (aa (pv 0) (aa ag (aa ag ac))))) (aj (ao (aE (aa ak (aa (ai GN hr2 rfl mN kN bN .nil aQ (aa (ix0 au (pv 0) ag) ac)) ac)))))) ar)
  (af (aF (am aZ (pv 1) ak (av _)) (af (aU (ai GB hr1 rfl mB kB bB .nil aQ (aa (pv 0) (aa ag (aa ag ac))))) (aj (ao (aE (aa ak (aa (ai GN hr2 rfl mN kN bN .nil aQ (aa (ix0 au (pv 0) ag) ac)) (aa (ai GK hr rfl mK kK bK .nil aQ (aa (ix0 au (pv 0) ag) ac)) ac))))))) ar)
  (af (aF (am aZ (pv 1) ak (av _)) (af (aU (ai GB hr1 rfl mB kB bB .nil aQ (aa (pv 0) (aa ag (aa ag ac)))))
   (af (aS (i:=2) Ct.nd (aL aI rfl mt aR (aa (fG (own:=["kind"]) (caps:=[]) (κ:=[]) (cl:=[]) ⟨rfl,by decide +kernel,by decide +kernel,rfl,rfl,(fun y hy=>nomatch hy),(fun y hy=>nomatch hy)⟩ rfl (cV (ai GB hr1 rfl mB kB bB .nil aQ (aa (ix0 au (pv 0) ag) (aa ag (aa (cY rfl mM (v:=.int 4) ⟨tM,rfl⟩) ac)))))
    (fun _ _ _ _ _=>pg0 ["kind"]) (fun _ _ _ _ _ hps=>ai GK hr rfl mK kK bK .nil hps (aa (pv 0) ac))) ac)))
   (aj (ao (aE (aa ak (aa (ai GN hr2 rfl mN kN bN .nil aQ (aa (ix0 au (pv 0) ag) ac)) (aa (pv 2) (aa (ai GK hr rfl mK kK bK .nil aQ (aa (ix0 au (pv 0) ag) ac)) ac))))))))) ar)
  (aj (bY rfl mF xF (aa (dC (bf ak (bf (gC hr (pv 0)) fL)) (by decide)) ac)))))),?_⟩
 refine⟨_,rfl,x,t,rfl,hx,sm,fun z r e=>?_,fun e=>qE (zM e)⟩
 subst e
 obtain⟨a,xs,rfl,ha,hxs⟩:=hx.node
 obtain⟨ys,rfl,hys⟩:=dG hxs
 have smr:=sm.sub.tail
 have bl:((Tr.w z::r).length:Int)=(r.length:Int)+1:=by rw [lc0];omega
 rw [yr] at q qE
 refine⟨_,rfl,rfl,_,rfl,aO (fun c=>?_) (fun c=>?_)⟩
 ·have ez:z="hid":=V.str.inj (od0 c)
  rw [if_pos ez] at q qE
  refine⟨_,rfl,.ref a,_,2,.int 2,rfl,hx,sm,.inr ⟨2,rfl⟩,fun b=>?_,fun nb=>qE (zm fun e=>nb (hV (by rw [bl];omega) (by rw [bl];omega)))⟩
  have b':=lY b
  rw [bl] at b'
  have l1:r.length=1:=by omega
  obtain⟨u,y,rfl,rfl,hy⟩:=tk1 l1 hys
  rw [uk] at q qE
  refine⟨_,rfl,a,_,_,y,rfl,rfl,SqT.of ha,at1,y,u,rfl,hy,smr.head,fun s es H1 s1=>⟨(sz 2),fun p hp=>?_⟩,fun es=>qE (by rw [es];rfl)⟩
  exact q (.hid s) (by rw [es];rfl) _ _ (s1.trans (ae hp _)) (.t ad (.cons (.s _) (.cons (.s _) .nil)))
 have n1:z≠"hid":=fun e=>c (dt0 (by rw [e]))
 rw [if_neg n1] at q qE
 refine⟨_,rfl,rfl,_,rfl,aO (fun c2=>?_) (fun c2=>?_)⟩
 ·have ez:z="told":=V.str.inj (od0 c2)
  rw [if_pos ez] at q qE
  refine⟨_,rfl,.ref a,_,3,.int 3,rfl,hx,sm,.inr ⟨3,rfl⟩,fun b=>?_,fun nb=>qE (yX fun e=>nb (hV (by rw [bl];omega) (by rw [bl];omega)))⟩
  have b':=lY b
  rw [bl] at b'
  have l1:r.length=2:=by omega
  obtain⟨u,v,y,y2,rfl,rfl,hy,hy2⟩:=tk2 l1 hys
  rw [uY] at q qE
  refine⟨_,rfl,a,_,_,y,rfl,rfl,SqT.of ha,at1,y,u,rfl,hy,smr.head,fun s es H1 s1=>?_,fun es=>qE (by rw [es])⟩
  refine⟨_,rfl,a,_,_,y2,rfl,rfl,SqT.of (s1 _ _ ha),at2,y2,v,rfl,hy2.same s1,smr.tail.head,smr.tail.head.dp,fun k ek H2 v2 s2 hv2=>⟨(sz 3),fun p hp=>?_⟩,fun ek=>Rf.same (qE (by rw [es,ek])) s1⟩
  have s3:=ae hp (.tup [.str "told",.str s,v2])
  exact q (.told s k) (by rw [es,ek]) _ _ (s1.trans (s2.trans s3)) (.t ad (.cons (.s _) (.cons (.s _) (.cons ((yF hv2).same s3) .nil))))
 have n2:z≠"told":=fun e=>c2 (dt0 (by rw [e]))
 rw [if_neg n2] at q qE
 refine⟨_,rfl,rfl,_,rfl,aO (fun c3=>?_) (fun c3=>?_)⟩
 ·have ez:z="fun":=V.str.inj (od0 c3)
  rw [if_pos ez] at q qE
  refine⟨_,rfl,.ref a,_,4,.int 4,rfl,hx,sm,.inr ⟨4,rfl⟩,fun b=>?_,fun nb=>qE (Aa fun e=>nb (hV (by rw [bl];omega) (by rw [bl];omega)))⟩
  have b':=lY b
  rw [bl] at b'
  have l1:r.length=3:=by omega
  obtain⟨u,v,v2,y,y2,y3,rfl,rfl,hy,hy2,hy3⟩:=tk3 l1 hys
  refine⟨_,rfl,a,_,_,y2,rfl,rfl,SqT.of ha,at2,y2,v,0,.int 4,rfl,hy2,smr.tail.head,.inr ⟨4,rfl⟩,fun b2=>?_,fun nb=>qE ?_⟩
  ·obtain⟨ks,rfl,_⟩:=id b2
   have b3:=lY b2
   have k4:ks.length<=4:=by omega
   rw [qP,if_pos k4] at q qE
   obtain⟨p2,us,rfl,hp2,hus⟩:=hy2.node
   refine⟨p2,rfl,⟨_,SqT.of hp2⟩,?_⟩
   refine gR (CF:=CF) (E:=E) (f:=kd?) (D:=Kd.d) hp2 hus smr.tail.head.sub ?_ (fun e=>qE (by rw [show zZ ks=none from e];cases bo u<;>rfl)) ?_
   ·intro o t H3 N B ht ho smt s3 hN no
    exact⟨rfl,aY ⟨_,rfl,o,t,rfl,ho,smt,smt.dp,fun k ek H4 v4 s4 hv4=>hN k ek _ _ s4 (yF hv4),no⟩⟩
   ·intro l zs H3 D s3 hl hzs hD
    have sD:=ae hD (.lst zs)
    refine⟨D,zs,rfl,.inl ⟨SqL.of ad,fun b5 hb5=>?_⟩⟩
    have s5:=ae hb5 (.tup zs)
    have s0:=s3.trans (sD.trans s5)
    refine⟨_,rfl,a,_,_,y,rfl,rfl,SqT.of (s0 _ _ ha),at1,y,u,rfl,hy.same s0,smr.head,fun s es H6 s6=>?_,fun es=>Rf.same (qE (by rw [es])) s0⟩
    have s06:=s0.trans s6
    refine⟨_,rfl,_,rfl,a,_,_,y3,rfl,rfl,SqT.of (s06 _ _ ha),at3,y3,v2,rfl,hy3.same s06,smr.tail.tail.head,smr.tail.tail.head.dp,fun k ek H7 v7 s7 hv7=>⟨(sz 4),fun p hp=>?_⟩,fun ek=>Rf.same (qE (by rw [es,show zZ ks=some l from hl,ek])) s06⟩
    have s8:=ae hp (.tup [.str "fun",.str s,.ref b5,v7])
    have s68:=s6.trans (s7.trans s8)
    exact q (.fn s l k) (by rw [es,show zZ ks=some l from hl,ek]) _ _ (s0.trans s68) (.t ad (.cons (.s _) (.cons (.s _) (.cons (.t (s68 _ _ ad) (hzs.same (sD.trans (s5.trans s68)))) (.cons ((yF hv7).same s8) .nil)))))
  ·match v,nb with
   |.w _,_=>rfl
   |.n ks,nb =>
    rw [qP,if_neg]
    intro k4
    exact nb (hV (by omega) (by omega))
 have n3:z≠"fun":=fun e=>c3 (dt0 (by rw [e]))
 rw [if_neg n3] at q qE
 exact⟨_,rfl,by decide +kernel,_,rfl,d,m,hdat,hsh,hm,fun y hy=>⟨y,rfl,hy,fun zz _=>⟨r1 zz,qE rfl _ sr0⟩⟩⟩
theorem CC:ax ["tree","ahead","params"] ["tree"] (ah sPI):=mkS
theorem C8{f:Addr}{fd:FuncData} (F:Fun K "part_item" "part_item" sPI f fd) (cA:C1 P w K mg base 2 ["tree"] (gM K CF) "word_ahead") (cB:C1 P w K mg base 1 ["tree","least","most"] (bw K CF) "bracket") (cN:C1 P w K mg base 2 ["tree"] (dn K CF) "name_of_tree") (cK:C1 P w K mg base 34 ["tree"] (js K CF 31) "kind_of_tree") (cR:C1 P w K mg base 35 ["trees"] (tf K CF jf Ax) "named_kinds") (cX:C1 P w K mg base 98 ["tree"] (rD K CF 31) "expression_of_tree")
  (mM:mg "MOST_ARGUMENTS"=some (.int 4 tM)) (mF:mg "NoForm"=some (.ref CF)) (xF:W.excIn K CF o5 "ValueError.__new__"=true):aV P w K mg base (CX1 P w) 99 f fd ["tree"] (tz K CF pi? PI.d):=by
 obtain⟨fa,fda,GA,bA,kA,mA⟩:=cA
 obtain⟨fb,fdb,GB,bB,kB,mB⟩:=cB
 obtain⟨fn,fdn,GN,bN,kN,mN⟩:=cN
 obtain⟨fk,fdk,GK,bK,kK,mK⟩:=cK
 obtain⟨fr,fdr,GR,bR,kR,mR⟩:=cR
 obtain⟨fx,fdx,GX,bX,kX,mX⟩:=cX
 refine F.k1 CC fun cdv A q0 s H vs Q E hr h=>?_
 obtain⟨x,t,rfl,hx,sm,q,qE⟩:=h
 have hr1:bq 1 _:=hr.mono (by decide)
 have hr2:bq 2 _:=hr.mono (by decide)
 have hr34:bq 34 _:=hr.mono (by decide)
 have hr35:bq 35 _:=hr.mono (by decide)
 obtain⟨d,m,hdat,hsh,hm⟩:=sm.shown hx
 refine⟨_,af (aS (i:=1) CC.nd (ai GA hr2 rfl mA kA bA .nil aQ (aa (pv 0) ac)))
  (af (aF (am aZ (pv 1) ak (av _)) (af (aU (ai GB hr1 rfl mB kB bB .nil aQ (aa (pv 0) (aa ag (aa ag ac))))) (aj (ao (aE (aa ak (aa (ai GN hr2 rfl mN kN bN .nil aQ (aa (ix0 au (pv 0) ag) ac)) (aa (ai GK hr34 rfl mK kK bK .nil aQ (aa (ix0 au (pv 0) ag) ac)) ac))))))) ar)
  (af (aF (am aZ (pv 1) ak (av _)) (af (aU (ai GB hr1 rfl mB kB bB .nil aQ (aa (pv 0) (aa ag (aa ag ac))))) (aj (ao (aE (aa ak (aa (ai GN hr2 rfl mN kN bN .nil aQ (aa (ix0 au (pv 0) ag) ac)) ac)))))) ar)
  (af (aF (am aZ (pv 1) ak (av _)) (af (aU (ai GB hr1 rfl mB kB bB .nil aQ (aa (pv 0) (aa ag (aa ag ac)))))
   (af (aS (i:=2) CC.nd (ai GR hr35 rfl mR kR bR .nil aQ (aa (ai GB hr1 rfl mB kB bB .nil aQ (aa (ix0 au (pv 0) ag) (aa ag (aa (cY rfl mM (v:=.int 4) ⟨tM,rfl⟩) ac)))) ac)))
   (aj (ao (aE (aa ak (aa (ai GN hr2 rfl mN kN bN .nil aQ (aa (ix0 au (pv 0) ag) ac)) (aa (pv 2) (aa (ai GK hr34 rfl mK kK bK .nil aQ (aa (ix0 au (pv 0) ag) ac)) (aa (ai GX hr rfl mX kX bX .nil aQ (aa (ix0 au (pv 0) ag) ac)) ac)))))))))) ar)
  (aj (bY rfl mF xF (aa (dC (bf ak (bf (gC hr (pv 0)) fL)) (by decide)) ac)))))),?_⟩
 refine⟨_,rfl,x,t,rfl,hx,sm,fun z r e=>?_,fun e=>qE (Ay e)⟩
 subst e
 obtain⟨a,xs,rfl,ha,hxs⟩:=hx.node
 obtain⟨ys,rfl,hys⟩:=dG hxs
 have smr:=sm.sub.tail
 have bl:((Tr.w z::r).length:Int)=(r.length:Int)+1:=by rw [lc0];omega
 rw [wT] at q qE
 refine⟨_,rfl,rfl,_,rfl,aO (fun c=>?_) (fun c=>?_)⟩
 ·have ez:z="kind":=V.str.inj (od0 c)
  rw [if_pos ez] at q qE
  refine⟨_,rfl,.ref a,_,3,.int 3,rfl,hx,sm,.inr ⟨3,rfl⟩,fun b=>?_,fun nb=>qE (yX fun e=>nb (hV (by rw [bl];omega) (by rw [bl];omega)))⟩
  have b':=lY b
  rw [bl] at b'
  have l1:r.length=2:=by omega
  obtain⟨u,v,y,y2,rfl,rfl,hy,hy2⟩:=tk2 l1 hys
  rw [uY] at q qE
  refine⟨_,rfl,a,_,_,y,rfl,rfl,SqT.of ha,at1,y,u,rfl,hy,smr.head,fun s es H1 s1=>?_,fun es=>qE (by rw [es])⟩
  refine⟨_,rfl,a,_,_,y2,rfl,rfl,SqT.of (s1 _ _ ha),at2,y2,v,rfl,hy2.same s1,smr.tail.head,smr.tail.head.dp,fun k ek H2 v2 s2 hv2=>⟨(sz 3),fun p hp=>?_⟩,fun ek=>Rf.same (qE (by rw [es,ek])) s1⟩
  have s3:=ae hp (.tup [.str "kind",.str s,v2])
  exact q (.kind s k) (by rw [es,ek]) _ _ (s1.trans (s2.trans s3)) (.t ad (.cons (.s _) (.cons (.s _) (.cons ((yF hv2).same s3) .nil))))
 have n1:z≠"kind":=fun e=>c (dt0 (by rw [e]))
 rw [if_neg n1] at q qE
 refine⟨_,rfl,rfl,_,rfl,aO (fun c2=>?_) (fun c2=>?_)⟩
 ·have ez:z="open":=V.str.inj (od0 c2)
  rw [if_pos ez] at q qE
  refine⟨_,rfl,.ref a,_,2,.int 2,rfl,hx,sm,.inr ⟨2,rfl⟩,fun b=>?_,fun nb=>qE (zm fun e=>nb (hV (by rw [bl];omega) (by rw [bl];omega)))⟩
  have b':=lY b
  rw [bl] at b'
  have l1:r.length=1:=by omega
  obtain⟨u,y,rfl,rfl,hy⟩:=tk1 l1 hys
  rw [uk] at q qE
  refine⟨_,rfl,a,_,_,y,rfl,rfl,SqT.of ha,at1,y,u,rfl,hy,smr.head,fun s es H1 s1=>⟨(sz 2),fun p hp=>?_⟩,fun es=>qE (by rw [es];rfl)⟩
  exact q (.opn s) (by rw [es];rfl) _ _ (s1.trans (ae hp _)) (.t ad (.cons (.s _) (.cons (.s _) .nil)))
 have n2:z≠"open":=fun e=>c2 (dt0 (by rw [e]))
 rw [if_neg n2] at q qE
 refine⟨_,rfl,rfl,_,rfl,aO (fun c3=>?_) (fun c3=>?_)⟩
 ·have ez:z="fun":=V.str.inj (od0 c3)
  rw [if_pos ez] at q qE
  refine⟨_,rfl,.ref a,_,5,.int 5,rfl,hx,sm,.inr ⟨5,rfl⟩,fun b=>?_,fun nb=>qE (zR fun e=>nb (hV (by rw [bl];omega) (by rw [bl];omega)))⟩
  have b':=lY b
  rw [bl] at b'
  have l1:r.length=4:=by omega
  obtain⟨u,v,v2,v3,y,y2,y3,y4,rfl,rfl,hy,hy2,hy3,hy4⟩:=tk4 l1 hys
  refine⟨_,rfl,a,_,_,y2,rfl,rfl,SqT.of ha,at2,y2,v,0,.int 4,rfl,hy2,smr.tail.head,.inr ⟨4,rfl⟩,fun b2=>?_,fun nb=>qE ?_⟩
  ·obtain⟨ks,rfl,_⟩:=id b2
   have b3:=lY b2
   have k4:ks.length<=4:=by omega
   rw [qY,if_pos k4] at q qE
   obtain⟨p2,us,rfl,hp2,hus⟩:=hy2.node
   refine⟨p2,us,ks,rfl,hp2,hus,smr.tail.head.sub,fun l hl H5 v5 s5 hv5=>?_,fun e=>qE (by rw [e];cases bo u<;>rfl)⟩
   refine⟨_,rfl,a,_,_,y,rfl,rfl,SqT.of (s5 _ _ ha),at1,y,u,rfl,hy.same s5,smr.head,fun s es H6 s6=>?_,fun es=>Rf.same (qE (by rw [es])) s5⟩
   have s06:=s5.trans s6
   refine⟨_,rfl,_,rfl,a,_,_,y3,rfl,rfl,SqT.of (s06 _ _ ha),at3,y3,v2,rfl,hy3.same s06,smr.tail.tail.head,smr.tail.tail.head.dp,fun k ek H7 v7 s7 hv7=>?_,fun ek=>Rf.same (qE (by rw [es,hl,ek])) s06⟩
   have s07:=s06.trans s7
   refine⟨_,rfl,a,_,_,y4,rfl,rfl,SqT.of (s07 _ _ ha),at4,y4,v3,rfl,hy4.same s07,smr.tail.tail.tail.head,smr.tail.tail.tail.head.dp,fun ex ee H8 v8 s8 hv8=>⟨(sz 5),fun p hp=>?_⟩,fun ee=>Rf.same (qE (by rw [es,hl,ek,ee])) s07⟩
   have s9:=ae hp (.tup [.str "fun",.str s,v5,v7,v8])
   have s89:=s8.trans s9
   exact q (.fn s l k ex) (by rw [es,hl,ek,ee]) _ _ (s07.trans s89) (.t ad (.cons (.s _) (.cons (.s _) (.cons (hv5.same (s6.trans (s7.trans s89))) (.cons ((yF hv7).same s89) (.cons ((Dz hv8).same s9) .nil))))))
  ·match v,nb with
   |.w _,_=>rfl
   |.n ks,nb =>
    rw [qY,if_neg]
    intro k4
    exact nb (hV (by omega) (by omega))
 have n3:z≠"fun":=fun e=>c3 (dt0 (by rw [e]))
 rw [if_neg n3] at q qE
 exact⟨_,rfl,by decide +kernel,_,rfl,d,m,hdat,hsh,hm,fun y hy=>⟨y,rfl,hy,fun zz _=>⟨r1 zz,qE rfl _ sr0⟩⟩⟩
theorem C3:ax ["trees"] ["trees"] (ah AK):=mkS
theorem Bs{f:Addr}{fd:FuncData} (F:Fun K "part_items" "part_items" AK f fd) (cI:C1 P w K mg base 99 ["tree"] (tz K CF pi? PI.d) "part_item") (mt:mg "tuple"=none):aV P w K mg base (CX1 P w) 100 f fd ["trees"] (tf K CF wD fun is=>.t (is.map PI.d)):=by
 obtain⟨fi,fdi,GI,bI,kI,mI⟩:=cI
 refine F.k1 C3 fun cdv A q0 s H vs Q E hr h=>?_
 obtain⟨p,xs,ts,rfl,hp,hxs,sm,q,qE⟩:=h
 refine⟨_,aj (ao (aL aI rfl mt aR (aa (fG (own:=["tree"]) (caps:=[]) (κ:=[]) (cl:=[]) ⟨rfl,by decide +kernel,by decide +kernel,rfl,rfl,(fun y hy=>nomatch hy),(fun y hy=>nomatch hy)⟩ rfl (cV (pv 0))
  (fun _ _ _ _ _=>pg0 ["tree"]) (fun _ _ _ _ _ hps=>ai GI hr rfl mI kI bI .nil hps (aa (pv 0) ac))) ac))),?_⟩
 refine⟨_,rfl,p,rfl,⟨_,SqT.of hp⟩,?_⟩
 refine gR (CF:=CF) (E:=E) (f:=pi?) (D:=PI.d) hp hxs sm ?_ qE ?_
 ·intro o t H3 N B ht ho smt s3 hN no
  exact⟨rfl,aY ⟨_,rfl,o,t,rfl,ho,smt,hN,no⟩⟩
 ·intro l zs H3 D s3 hl hzs hD
  have sD:=ae hD (.lst zs)
  refine⟨D,zs,rfl,.inl ⟨SqL.of ad,fun b5 hb5=>?_⟩⟩
  have s5:=ae hb5 (.tup zs)
  exact q l hl _ _ (s3.trans (sD.trans s5)) (.t ad (hzs.same (sD.trans s5)))
abbrev Ds(is:List PI):Dd:=.t (is.map PI.d)
theorem pL{a:Tr}{r:List Tr}:pC (a::r)=match bo a,AJ r with|some s,some l=>some (.face s l)|_,_=>none:=rfl
theorem pK{a b:Tr}{r:List Tr}:om (a::b::r)=match bo a,sl? b,wD r with|some s,some f,some l=>some (.part s f l)|_,_,_=>none:=rfl
theorem jl{a b:Tr}{fs r:List Tr}:i8 (a::.n fs::b::r)=if 1<=fs.length/\fs.length<=4 then (match bo a,AO fs,sl? b,wD r with|some s,some l,some f,some is=>some (.maker s l f is)|_,_,_,_=>none) else none:=rfl
theorem pN{a b c:Tr}{r:List Tr}:ow (a::b::c::r)=match bo a,bo b,kq (c::r) with|some s,some m,some l=>some (.made s m l)|_,_,_=>none:=rfl
theorem xq{ts:List Tr}(h:ts.length < 2):om ts=none:=by
 match ts,h with
 |[],_=>rfl
 |[_],_=>rfl
 |_::_::_,h=>rw [lc0,lc0] at h;omega
theorem vU{ts:List Tr}(h:ts.length < 3):i8 ts=none:=by
 match ts,h with
 |[],_=>rfl
 |[_],_=>rfl
 |[_,.w _],_=>rfl
 |[_,.n _],_=>rfl
 |_::_::_::_,h=>rw [lc0,lc0,lc0] at h;omega
theorem xR{ts:List Tr}(h:ts.length < 3):ow ts=none:=by
 match ts,h with
 |[],_=>rfl
 |[_],_=>rfl
 |[_,_],_=>rfl
 |_::_::_::_,h=>rw [lc0,lc0,lc0] at h;omega
inductive yB(K:W.Frag)(CF:Addr)(z:Str)(f:List Tr->Option Dc):Sp|mk{vs H Q E}(x:V)(ts:List Tr)(_:vs=[x])(_:bz K H x (.n (.w z::ts)))(_:Sm (.n (.w z::ts)))(_:(∀a,f ts=some a->∀H' v,aM H H'->DAt H' v a.d->Q v H'))(_:(f ts=none->Rf CF E H)):yB K CF z f vs H Q E
theorem xy:ax ["tree"] ["tree"] (ah iK):=mkS
theorem wu{f:Addr}{fd:FuncData} (F:Fun K "face_of_tree" "face_of_tree" iK f fd) (cB:C1 P w K mg base 1 ["tree","least","most"] (bw K CF) "bracket") (cN:C1 P w K mg base 2 ["tree"] (dn K CF) "name_of_tree") (cI:C1 P w K mg base 35 ["tree"] (tz K CF fi? FI.d) "face_item")
  (mt:mg "tuple"=none):aV P w K mg base (CX1 P w) 36 f fd ["tree"] (yB K CF "face" pC):=by
 obtain⟨fb,fdb,GB,bB,kB,mB⟩:=cB
 obtain⟨fn,fdn,GN,bN,kN,mN⟩:=cN
 obtain⟨fi,fdi,GI,bI,kI,mI⟩:=cI
 refine F.k1 xy fun cdv A q0 s H vs Q E hr h=>?_
 obtain⟨x,r,rfl,hx,sm,q,qE⟩:=h
 have hr1:bq 1 _:=hr.mono (by decide)
 have hr2:bq 2 _:=hr.mono (by decide)
 refine⟨_,af (aU (ai GB hr1 rfl mB kB bB .nil aQ (aa (pv 0) (aa ag (aa dW ac)))))
  (aj (ao (aE (aa ak (aa (ai GN hr2 rfl mN kN bN .nil aQ (aa (ix0 au (pv 0) ag) ac)) (aa (aL aI rfl mt aR (aa (fG (own:=["item"]) (caps:=[]) (κ:=[]) (cl:=[]) ⟨rfl,by decide +kernel,by decide +kernel,rfl,rfl,(fun y hy=>nomatch hy),(fun y hy=>nomatch hy)⟩ rfl (cV (aH cx (pv 0) (aP ag) aT))
   (fun _ _ _ _ _=>pg0 ["item"]) (fun _ _ _ _ _ hps=>ai GI hr rfl mI kI bI .nil hps (aa (pv 0) ac))) ac)) ac)))))),?_⟩
 obtain⟨a,xs,rfl,ha,hxs⟩:=hx.node
 obtain⟨ys,rfl,hys⟩:=dG hxs
 have smr:=sm.sub.tail
 have bl:((Tr.w "face"::r).length:Int)=(r.length:Int)+1:=by rw [lc0];omega
 refine⟨_,rfl,.ref a,_,2,.non,rfl,hx,sm,.inl rfl,fun b=>?_,fun nb=>qE ?_⟩
 ·have b':=wV b
  rw [bl] at b'
  match r,b',ys,hys,smr,q,qE with
  |[],b',_,_,_,_,_=>exact absurd b' (by decide)
  |u::us,_,y::zs,.cons hy hzs,smr,q,qE =>
   rw [pL] at q qE
   refine⟨_,rfl,a,_,_,y,rfl,rfl,SqT.of ha,at1,y,u,rfl,hy,smr.head,fun z ez H1 s1=>?_,fun ez=>qE (by rw [ez])⟩
   refine⟨_,rfl,_,rfl,a,_,rfl,SqT.of (s1 _ _ ha),ba (k:=2) (by decide) (by simp),fun p5 hp5=>?_⟩
   have s5:=ae hp5 (.tup (dc (.str "face"::y::zs) (some 2) none))
   have h5:upd H1 p5 (.tup (dc (.str "face"::y::zs) (some 2) none)) p5=some (.tup zs):=iq 2 H1
   have s15:=s1.trans s5
   refine⟨p5,rfl,⟨_,SqT.of h5⟩,?_⟩
   refine gR (CF:=CF) (E:=E) (f:=fi?) (D:=FI.d) h5 (hzs.same s15) smr.tail ?_ (fun e=>Rf.same (qE (by rw [ez,show AJ us=none from e])) s15) ?_
   ·intro o t H3 N B ht ho smt s3 hN no
    exact⟨rfl,aY ⟨_,rfl,o,t,rfl,ho,smt,hN,no⟩⟩
   ·intro l vs H3 D s3 hl hvs hD
    have sD:=ae hD (.lst vs)
    refine⟨D,vs,rfl,.inl ⟨SqL.of ad,fun b6 hb6=>⟨(sz 3),fun p7 hp7=>?_⟩⟩⟩
    have s6:=ae hb6 (.tup vs)
    have s7:=ae hp7 (.tup [.str "face",.str z,.ref b6])
    exact q (.face z l) (by rw [ez,show AJ us=some l from hl]) _ _ (s15.trans (s3.trans (sD.trans (s6.trans s7)))) (.t ad (.cons (.s _) (.cons (.s _) (.cons (.t (s7 _ _ ad) (hvs.same (sD.trans (s6.trans s7)))) .nil))))
 ·match r,nb with
  |[],_=>rfl
  |_::_,nb=>exact absurd (rQ (by rw [lc0,lc0];omega)) nb
theorem xA:ax ["tree"] ["tree"] (ah iA):=mkS
theorem tI{f:Addr}{fd:FuncData} (F:Fun K "part_of_tree" "part_of_tree" iA f fd) (cB:C1 P w K mg base 1 ["tree","least","most"] (bw K CF) "bracket") (cN:C1 P w K mg base 2 ["tree"] (dn K CF) "name_of_tree") (cS:C1 P w K mg base 37 ["tree"] (tz K CF sl? nW) "seal_of_tree") (cI:C1 P w K mg base 100 ["trees"] (tf K CF wD Ds) "part_items"):aV P w K mg base (CX1 P w) 101 f fd ["tree"] (yB K CF "part" om):=by
 obtain⟨fb,fdb,GB,bB,kB,mB⟩:=cB
 obtain⟨fn,fdn,GN,bN,kN,mN⟩:=cN
 obtain⟨fs,fds,GS,bS,kS,mS⟩:=cS
 obtain⟨fi,fdi,GI,bI,kI,mI⟩:=cI
 refine F.k1 xA fun cdv A q0 s H vs Q E hr h=>?_
 obtain⟨x,r,rfl,hx,sm,q,qE⟩:=h
 have hr1:bq 1 _:=hr.mono (by decide)
 have hr2:bq 2 _:=hr.mono (by decide)
 have hr37:bq 37 _:=hr.mono (by decide)
 refine⟨_,af (aU (ai GB hr1 rfl mB kB bB .nil aQ (aa (pv 0) (aa ag (aa dW ac)))))
  (aj (ao (aE (aa ak (aa (ai GN hr2 rfl mN kN bN .nil aQ (aa (ix0 au (pv 0) ag) ac)) (aa (ai GS hr37 rfl mS kS bS .nil aQ (aa (ix0 au (pv 0) ag) ac)) (aa (ai GI hr rfl mI kI bI .nil aQ (aa (aH cx (pv 0) (aP ag) aT) ac)) ac))))))),?_⟩
 obtain⟨a,xs,rfl,ha,hxs⟩:=hx.node
 obtain⟨ys,rfl,hys⟩:=dG hxs
 have smr:=sm.sub.tail
 have bl:((Tr.w "part"::r).length:Int)=(r.length:Int)+1:=by rw [lc0];omega
 refine⟨_,rfl,.ref a,_,3,.non,rfl,hx,sm,.inl rfl,fun b=>?_,fun nb=>qE (xq (Nat.lt_of_not_le fun c=>nb (rQ (by rw [bl];omega))))⟩
 have b':=wV b
 rw [bl] at b'
 obtain⟨u,v,us,rfl⟩:=lg2 (r:=r) (by omega)
 obtain⟨y,ys,rfl,hy,hk⟩:=Jc hys
 obtain⟨y2,zs,rfl,hy2,hzs⟩:=Jc hk
 ·rw [pK] at q qE
  refine⟨_,rfl,a,_,_,y,rfl,rfl,SqT.of ha,at1,y,u,rfl,hy,smr.head,fun z ez H1 s1=>?_,fun ez=>qE (by rw [ez])⟩
  refine⟨_,rfl,a,_,_,y2,rfl,rfl,SqT.of (s1 _ _ ha),at2,y2,v,rfl,hy2.same s1,smr.tail.head,fun sl es H2 v2 s2 hv2=>?_,fun es=>Rf.same (qE (by rw [ez,es])) s1⟩
  have s12:=s1.trans s2
  refine⟨_,rfl,_,rfl,a,_,rfl,SqT.of (s12 _ _ ha),ba (k:=3) (by decide) (by simp),fun p5 hp5=>?_⟩
  have s5:=ae hp5 (.tup (dc (.str "part"::y::y2::zs) (some 3) none))
  have h5:upd H2 p5 (.tup (dc (.str "part"::y::y2::zs) (some 3) none)) p5=some (.tup zs):=iq 3 H2
  have s15:=s12.trans s5
  refine⟨p5,zs,us,rfl,h5,hzs.same s15,smr.tail.tail,fun l hl H6 v6 s6 hv6=>⟨(sz 4),fun p7 hp7=>?_⟩,fun hl=>Rf.same (qE (by rw [ez,es,hl])) s15⟩
  have s7:=ae hp7 (.tup [.str "part",.str z,v2,v6])
  have s27:=s5.trans (s6.trans s7)
  exact q (.part z sl l) (by rw [ez,es,hl]) _ _ (s12.trans s27) (.t ad (.cons (.s _) (.cons (.s _) (.cons (hv2.same s27) (.cons (hv6.same s7) .nil)))))
theorem oX:ax ["tree","formals"] ["tree"] (ah gm):=mkS
theorem sS{f:Addr}{fd:FuncData} (F:Fun K "maker_of_tree" "maker_of_tree" gm f fd) (cB:C1 P w K mg base 1 ["tree","least","most"] (bw K CF) "bracket") (cN:C1 P w K mg base 2 ["tree"] (dn K CF) "name_of_tree") (cS:C1 P w K mg base 37 ["tree"] (tz K CF sl? nW) "seal_of_tree") (cO:C1 P w K mg base 37 ["tree"] (tz K CF fo? foD) "formal_of_tree") (cI:C1 P w K mg base 100 ["trees"] (tf K CF wD Ds) "part_items")
  (mM:mg "MOST_ARGUMENTS"=some (.int 4 tM)) (mt:mg "tuple"=none):aV P w K mg base (CX1 P w) 101 f fd ["tree"] (yB K CF "maker" i8):=by
 obtain⟨fb,fdb,GB,bB,kB,mB⟩:=cB
 obtain⟨fn,fdn,GN,bN,kN,mN⟩:=cN
 obtain⟨fs,fds,GS,bS,kS,mS⟩:=cS
 obtain⟨fo,fdo,GO,bO,kO,mO⟩:=cO
 obtain⟨fi,fdi,GI,bI,kI,mI⟩:=cI
 refine F.k1 oX fun cdv A q0 s H vs Q E hr h=>?_
 obtain⟨x,r,rfl,hx,sm,q,qE⟩:=h
 have hr1:bq 1 _:=hr.mono (by decide)
 have hr2:bq 2 _:=hr.mono (by decide)
 have hr37:bq 37 _:=hr.mono (by decide)
 refine⟨_,af (aU (ai GB hr1 rfl mB kB bB .nil aQ (aa (pv 0) (aa ag (aa dW ac)))))
  (af (aS (i:=1) oX.nd (aL aI rfl mt aR (aa (fG (own:=["formal"]) (caps:=[]) (κ:=[]) (cl:=[]) ⟨rfl,by decide +kernel,by decide +kernel,rfl,rfl,(fun y hy=>nomatch hy),(fun y hy=>nomatch hy)⟩ rfl (cV (ai GB hr1 rfl mB kB bB .nil aQ (aa (ix0 au (pv 0) ag) (aa ag (aa (cY rfl mM (v:=.int 4) ⟨tM,rfl⟩) ac)))))
   (fun _ _ _ _ _=>pg0 ["formal"]) (fun _ _ _ _ _ hps=>ai GO hr37 rfl mO kO bO .nil hps (aa (pv 0) ac))) ac)))
  (aj (ao (aE (aa ak (aa (ai GN hr2 rfl mN kN bN .nil aQ (aa (ix0 au (pv 0) ag) ac)) (aa (pv 1) (aa (ai GS hr37 rfl mS kS bS .nil aQ (aa (ix0 au (pv 0) ag) ac)) (aa (ai GI hr rfl mI kI bI .nil aQ (aa (aH cx (pv 0) (aP ag) aT) ac)) ac))))))))),?_⟩
 obtain⟨a,xs,rfl,ha,hxs⟩:=hx.node
 obtain⟨ys,rfl,hys⟩:=dG hxs
 have smr:=sm.sub.tail
 have bl:((Tr.w "maker"::r).length:Int)=(r.length:Int)+1:=by rw [lc0];omega
 refine⟨_,rfl,.ref a,_,4,.non,rfl,hx,sm,.inl rfl,fun b=>?_,fun nb=>qE (vU (Nat.lt_of_not_le fun c=>nb (rQ (by rw [bl];omega))))⟩
 have b':=wV b
 rw [bl] at b'
 obtain⟨u,v,us,rfl⟩:=lg2 (r:=r) (by omega)
 obtain⟨v2,us,rfl⟩:=lg1 (r:=us) (by rw [lc0,lc0] at b';omega)
 obtain⟨y,ys,rfl,hy,hk⟩:=Jc hys
 obtain⟨y2,ys,rfl,hy2,hk⟩:=Jc hk
 obtain⟨y3,zs,rfl,hy3,hzs⟩:=Jc hk
 ·refine⟨_,rfl,a,_,_,y2,rfl,rfl,SqT.of ha,at2,y2,v,1,.int 4,rfl,hy2,smr.tail.head,.inr ⟨4,rfl⟩,fun b2=>?_,fun nb=>qE ?_⟩
  ·obtain⟨ks,rfl,_⟩:=id b2
   have b3:=lY b2
   rw [jl,if_pos ⟨by omega,by omega⟩] at q qE
   obtain⟨p2,ws,rfl,hp2,hws⟩:=hy2.node
   refine⟨p2,rfl,⟨_,SqT.of hp2⟩,?_⟩
   refine gR (CF:=CF) (E:=E) (f:=fo?) (D:=foD) hp2 hws smr.tail.head.sub ?_ (fun e=>qE (by rw [show AO ks=none from e];cases bo u<;>rfl)) ?_
   ·intro o t H3 N B ht ho smt s3 hN no
    exact⟨rfl,aY ⟨_,rfl,o,t,rfl,ho,smt,hN,no⟩⟩
   ·intro l fs H3 D s3 hl hfs hD
    have hl':AO ks=some l:=hl
    have sD:=ae hD (.lst fs)
    refine⟨D,fs,rfl,.inl ⟨SqL.of ad,fun b6 hb6=>?_⟩⟩
    have s6:=ae hb6 (.tup fs)
    have s0:=s3.trans (sD.trans s6)
    refine⟨_,rfl,a,_,_,y,rfl,rfl,SqT.of (s0 _ _ ha),at1,y,u,rfl,hy.same s0,smr.head,fun z ez H1 s1=>?_,fun ez=>Rf.same (qE (by rw [ez])) s0⟩
    have s01:=s0.trans s1
    refine⟨_,rfl,_,rfl,a,_,_,y3,rfl,rfl,SqT.of (s01 _ _ ha),at3,y3,v2,rfl,hy3.same s01,smr.tail.tail.head,fun sl es H2 w2 s2 hw2=>?_,fun es=>Rf.same (qE (by rw [ez,hl',es])) s01⟩
    have s02:=s01.trans s2
    refine⟨_,rfl,_,rfl,a,_,rfl,SqT.of (s02 _ _ ha),ba (k:=4) (by decide) (by simp),fun p5 hp5=>?_⟩
    have s5:=ae hp5 (.tup (dc (.str "maker"::y::.ref p2::y3::zs) (some 4) none))
    have h5:upd H2 p5 (.tup (dc (.str "maker"::y::.ref p2::y3::zs) (some 4) none)) p5=some (.tup zs):=iq 4 H2
    have s05:=s02.trans s5
    refine⟨p5,zs,us,rfl,h5,hzs.same s05,smr.tail.tail.tail,fun is hi H7 v7 s7 hv7=>⟨(sz 5),fun p8 hp8=>?_⟩,fun hi=>Rf.same (qE (by rw [ez,hl',es,hi])) s05⟩
    have s8:=ae hp8 (.tup [.str "maker",.str z,.ref b6,w2,v7])
    have s28:=s5.trans (s7.trans s8)
    have s18:=s1.trans (s2.trans s28)
    exact q (.maker z l sl is) (by rw [ez,hl',es,hi]) _ _ (s02.trans s28) (.t ad (.cons (.s _) (.cons (.s _) (.cons (.t (s18 _ _ ad) (hfs.same (sD.trans (s6.trans s18)))) (.cons (hw2.same s28) (.cons (hv7.same s8) .nil))))))
  ·match v,nb with
   |.w _,_=>rfl
   |.n ks,nb =>
    rw [jl,if_neg]
    intro k4
    exact nb (hV (by omega) (by omega))
theorem qU:ax ["tree","parts"] ["tree"] (ah iL):=mkS
theorem uE{f:Addr}{fd:FuncData} (F:Fun K "made_of_tree" "made_of_tree" iL f fd) (cB:C1 P w K mg base 1 ["tree","least","most"] (bw K CF) "bracket") (cN:C1 P w K mg base 2 ["tree"] (dn K CF) "name_of_tree")
  (mt:mg "tuple"=none):aV P w K mg base (CX1 P w) 3 f fd ["tree"] (yB K CF "made" ow):=by
 obtain⟨fb,fdb,GB,bB,kB,mB⟩:=cB
 obtain⟨fn,fdn,GN,bN,kN,mN⟩:=cN
 refine F.k1 qU fun cdv A q0 s H vs Q E hr h=>?_
 obtain⟨x,r,rfl,hx,sm,q,qE⟩:=h
 have hr1:bq 1 _:=hr.mono (by decide)
 refine⟨_,af (aU (ai GB hr1 rfl mB kB bB .nil aQ (aa (pv 0) (aa ag (aa dW ac)))))
  (af (aS (i:=1) qU.nd (aL aI rfl mt aR (aa (fG (own:=["part"]) (caps:=[]) (κ:=[]) (cl:=[]) ⟨rfl,by decide +kernel,by decide +kernel,rfl,rfl,(fun y hy=>nomatch hy),(fun y hy=>nomatch hy)⟩ rfl (cV (aH cx (pv 0) (aP ag) aT))
   (fun _ _ _ _ _=>pg0 ["part"]) (fun _ _ _ _ _ hps=>ai GN hr rfl mN kN bN .nil hps (aa (pv 0) ac))) ac)))
  (aj (ao (aE (aa ak (aa (ai GN hr rfl mN kN bN .nil aQ (aa (ix0 au (pv 0) ag) ac)) (aa (ai GN hr rfl mN kN bN .nil aQ (aa (ix0 au (pv 0) ag) ac)) (aa (pv 1) ac)))))))),?_⟩
 obtain⟨a,xs,rfl,ha,hxs⟩:=hx.node
 obtain⟨ys,rfl,hys⟩:=dG hxs
 have smr:=sm.sub.tail
 have bl:((Tr.w "made"::r).length:Int)=(r.length:Int)+1:=by rw [lc0];omega
 refine⟨_,rfl,.ref a,_,4,.non,rfl,hx,sm,.inl rfl,fun b=>?_,fun nb=>qE (xR (Nat.lt_of_not_le fun c=>nb (rQ (by rw [bl];omega))))⟩
 have b':=wV b
 rw [bl] at b'
 obtain⟨u,v,us,rfl⟩:=lg2 (r:=r) (by omega)
 obtain⟨v2,us,rfl⟩:=lg1 (r:=us) (by rw [lc0,lc0] at b';omega)
 obtain⟨y,ys,rfl,hy,hk⟩:=Jc hys
 obtain⟨y2,ys,rfl,hy2,hzs⟩:=Jc hk
 obtain⟨y3,zs,rfl,_,_⟩:=Jc hzs
 ·rw [pN] at q qE
  refine⟨_,rfl,_,rfl,a,_,rfl,SqT.of ha,ba (k:=3) (by decide) (by simp),fun p5 hp5=>?_⟩
  have s5:=ae hp5 (.tup (dc (.str "made"::y::y2::y3::zs) (some 3) none))
  have h5:upd H p5 (.tup (dc (.str "made"::y::y2::y3::zs) (some 3) none)) p5=some (.tup (y3::zs)):=iq 3 H
  refine⟨p5,rfl,⟨_,SqT.of h5⟩,?_⟩
  refine gR (CF:=CF) (E:=E) (f:=bo) (D:=Dd.s) h5 (hzs.same s5) smr.tail.tail ?_ (fun e=>Rf.same (qE (by rw [show kq (v2::us)=none from e];cases bo u<;>cases bo v<;>rfl)) s5) ?_
  ·intro o t H3 N B ht ho smt s3 hN no
   exact⟨rfl,aY ⟨_,rfl,o,t,rfl,ho,smt,fun z ez H4 s4=>hN z ez _ _ s4 (.s _),no⟩⟩
  ·intro l vs H3 D s3 hl hvs hD
   have hl':kq (v2::us)=some l:=hl
   have sD:=ae hD (.lst vs)
   refine⟨D,vs,rfl,.inl ⟨SqL.of ad,fun b6 hb6=>?_⟩⟩
   have s6:=ae hb6 (.tup vs)
   have s0:=s5.trans (s3.trans (sD.trans s6))
   refine⟨_,rfl,a,_,_,y,rfl,rfl,SqT.of (s0 _ _ ha),at1,y,u,rfl,hy.same s0,smr.head,fun z ez H1 s1=>?_,fun ez=>Rf.same (qE (by rw [ez])) s0⟩
   have s01:=s0.trans s1
   refine⟨_,rfl,a,_,_,y2,rfl,rfl,SqT.of (s01 _ _ ha),at2,y2,v,rfl,hy2.same s01,smr.tail.head,fun m em H2 s2=>⟨_,rfl,(sz 4),fun p7 hp7=>?_⟩,fun em=>Rf.same (qE (by rw [ez,em])) s01⟩
   have s7:=ae hp7 (.tup [.str "made",.str z,.str m,.ref b6])
   have s17:=s1.trans (s2.trans s7)
   exact q (.made z m l) (by rw [ez,em,hl']) _ _ (s0.trans s17) (.t ad (.cons (.s _) (.cons (.s _) (.cons (.s _) (.cons (.t (s17 _ _ ad) (hvs.same (sD.trans (s6.trans s17)))) .nil)))))
theorem wX{z:Str}{r:List Tr}:dc? (.n (.w z::r))=if z="face" then pC r else if z="part" then om r else if z="maker" then i8 r else if z="made" then ow r else none:=rfl
theorem Ao{t:Tr}(h:∀z ts,t≠.n (.w z::ts)):dc? t=none:=by
 match t,h with
 |.w _,_=>rfl
 |.n [],_=>rfl
 |.n (.n _::_),_=>rfl
 |.n (.w z::r),h=>exact absurd rfl (h z r)
theorem qt:ax ["tree","ahead"] ["tree"] (ah iM):=mkS
theorem vR{f:Addr}{fd:FuncData} (F:Fun K "declaration_of_tree" "declaration_of_tree" iM f fd) (cA:C1 P w K mg base 2 ["tree"] (gM K CF) "word_ahead") (cF:C1 P w K mg base 36 ["tree"] (yB K CF "face" pC) "face_of_tree") (cP:C1 P w K mg base 101 ["tree"] (yB K CF "part" om) "part_of_tree") (cM:C1 P w K mg base 101 ["tree"] (yB K CF "maker" i8) "maker_of_tree") (cX:C1 P w K mg base 3 ["tree"] (yB K CF "made" ow) "made_of_tree")
  (mF':mg "NoForm"=some (.ref CF)) (xF:W.excIn K CF o5 "ValueError.__new__"=true):aV P w K mg base (CX1 P w) 102 f fd ["tree"] (tz K CF dc? Dc.d):=by
 obtain⟨fa,fda,GA,bA,kA,mA⟩:=cA
 obtain⟨ff,fdf,GF,bF,kF,mF⟩:=cF
 obtain⟨fp,fdp,GP,bP,kP,mP⟩:=cP
 obtain⟨fm,fdm,GM,bM,kM,mM⟩:=cM
 obtain⟨fx,fdx,GX,bX,kX,mX⟩:=cX
 refine F.k1 qt fun cdv A q0 s H vs Q E hr h=>?_
 obtain⟨x,t,rfl,hx,sm,q,qE⟩:=h
 have hr2:bq 2 _:=hr.mono (by decide)
 have hr3:bq 3 _:=hr.mono (by decide)
 have hr36:bq 36 _:=hr.mono (by decide)
 obtain⟨d,m,hdat,hsh,hm⟩:=sm.shown hx
 refine⟨_,af (aS (i:=1) qt.nd (ai GA hr2 rfl mA kA bA .nil aQ (aa (pv 0) ac)))
  (af (aF (am aZ (pv 1) ak (av _)) (aj (ao (ai GF hr36 rfl mF kF bF .nil aQ (aa (pv 0) ac)))) ar)
  (af (aF (am aZ (pv 1) ak (av _)) (aj (ao (ai GP hr rfl mP kP bP .nil aQ (aa (pv 0) ac)))) ar)
  (af (aF (am aZ (pv 1) ak (av _)) (aj (ao (ai GM hr rfl mM kM bM .nil aQ (aa (pv 0) ac)))) ar)
  (af (aF (am aZ (pv 1) ak (av _)) (aj (ao (ai GX hr3 rfl mX kX bX .nil aQ (aa (pv 0) ac)))) ar)
  (aj (bY rfl mF' xF (aa (dC (bf ak (bf (gC hr (pv 0)) fL)) (by decide)) ac))))))),?_⟩
 refine⟨_,rfl,x,t,rfl,hx,sm,fun z r e=>?_,fun e=>qE (Ao e)⟩
 subst e
 rw [wX] at q qE
 have yes:∀{s:Str},decide (V.str z=V.str s)=true->z=s:=fun c=>V.str.inj (od0 c)
 have no:∀{s:Str},¬(decide (V.str z=V.str s)=true)->z≠s:=fun c e=>c (dt0 (by rw [e]))
 refine⟨_,rfl,rfl,_,rfl,aO (fun c=>?_) (fun c=>?_)⟩
 ·rw [if_pos (yes c)] at q qE
  obtain rfl:=yes c
  exact⟨_,rfl,x,r,rfl,hx,sm,q,qE⟩
 rw [if_neg (no c)] at q qE
 refine⟨_,rfl,rfl,_,rfl,aO (fun c=>?_) (fun c=>?_)⟩
 ·rw [if_pos (yes c)] at q qE
  obtain rfl:=yes c
  exact⟨_,rfl,x,r,rfl,hx,sm,q,qE⟩
 rw [if_neg (no c)] at q qE
 refine⟨_,rfl,rfl,_,rfl,aO (fun c=>?_) (fun c=>?_)⟩
 ·rw [if_pos (yes c)] at q qE
  obtain rfl:=yes c
  exact⟨_,rfl,x,r,rfl,hx,sm,q,qE⟩
 rw [if_neg (no c)] at q qE
 refine⟨_,rfl,rfl,_,rfl,aO (fun c=>?_) (fun c=>?_)⟩
 ·rw [if_pos (yes c)] at q qE
  obtain rfl:=yes c
  exact⟨_,rfl,x,r,rfl,hx,sm,q,qE⟩
 rw [if_neg (no c)] at q qE
 exact⟨_,rfl,by decide +kernel,_,rfl,d,m,hdat,hsh,hm,fun y hy=>⟨y,rfl,hy,fun zz _=>⟨r1 zz,qE rfl _ sr0⟩⟩⟩
end
structure xn(z:Str):Prop where
 len:z.length<=20000
 tok:∀p∈Tk.toks (cps z),lK p
 cnt:(Tk.toks (cps z)).length<=400
theorem xn.sms{z:Str}(h:xn z){ts:List Tr}(ho:oks ts)(hf:aD ts=Tk.toks (cps z))(hg:hgt 0 (Tk.toks (cps z))=some 0):Sms ts :=
 ⟨by rw [hf];exact h.tok,by rw [hf];exact h.cnt,u8 ho (by rw [hf];exact hg)⟩
inductive jS(K:W.Frag)(CF CT:Addr):Sp|mk{vs H Q E}(z:Str)(_:vs=[.str z])(_:xn z)(_:(hgt 0 (Tk.toks (cps z))≠some 0->Rf CT E H))(_:(hgt 0 (Tk.toks (cps z))=some 0->∀ts,oks ts->aD ts=Tk.toks (cps z)->(∀ds,vE ts=some ds->∀H' (l:Addr) xs,aM H H'->H' l=some (.lst xs)->eW H' xs (ds.map Dc.d)->Q (.ref l) H')/\(vE ts=none->Rf CF E H))):jS K CF CT vs H Q E
def A2:Option Str->V
 |some y=>.str y
 |none=>.non
def Res(z h0:Str)(o:Option Str):Prop:=(hgt 0 (Tk.toks (cps z))≠some 0/\h0="tree"/\o=none) \/
 (hgt 0 (Tk.toks (cps z))=some 0/\∃ts,oks ts/\aD ts=Tk.toks (cps z)/\(((vE ts).isSome=true/\h0=""/\∃y,o=some y/\cps y=fO ts)\/(vE ts=none/\h0="form"/\o=none)))
inductive uo(K:W.Frag):Sp|mk{vs H Q E}(z h0:Str)(o:Option Str)(_:vs=[.str z])(_:xn z)(_:Res z h0 o)(_:∀H' (p:Addr),aM H H'->H' p=some (.tup [.str h0,A2 o])->Q (.ref p) H'):uo K vs H Q E
inductive gW(K:W.Frag)(b:Tr->Bool):Sp|mk{vs H Q E}(x:V)(t:Tr)(_:vs=[x])(_:bz K H x t)(_:Sm t)(_:∀H',aM H H'->Q (.bl (b t)) H'):gW K b vs H Q E
inductive As(K:W.Frag)(b:List Tr->Bool):Sp|mk{vs H Q E}(p:Addr)(xs:List V)(ts:List Tr)(_:vs=[.ref p])(_:H p=some (.tup xs))(_:aJ K H xs ts)(_:Sms ts)(_:∀H',aM H H'->Q (.bl (b ts)) H'):As K b vs H Q E
def BV:List Stmt->List ExceptHandler
 |.Try _ hs _ _ _::_=>hs
 |_=>[]
abbrev C0(P:Program)(w:World)(K:W.Frag)(mg:Str->Option Value)(base:Heap):=Ca P w K mg base CX0
section
variable{P:Program}{w:World}{K:W.Frag}{mg:Str->Option Value}{base:Heap}{CF CT:Addr}
theorem qe:ax ["text"] ["text"] (ah dU):=mkS
theorem oF{f:Addr}{fd:FuncData} (F:Fun K "read_house" "read_house" dU f fd) (cT:C1 P w K mg base 2 ["text"] (uN K CT) "trees_of") (cD:C1 P w K mg base 102 ["tree"] (tz K CF dc? Dc.d) "declaration_of_tree"):aV P w K mg base (CX1 P w) 103 f fd ["text"] (jS K CF CT):=by
 obtain⟨ft,fdt,GT,bT,kT,mT⟩:=cT
 obtain⟨fk,fdk,GK,bK,kK,mK⟩:=cD
 refine F.k1 qe fun cdv A q0 s H vs Q E hr h=>?_
 obtain⟨z,rfl,hz,qT,q⟩:=h
 have hr2:bq 2 _:=hr.mono (by decide)
 refine⟨_,aj (ao (fG (own:=["tree"]) (caps:=[]) (κ:=[]) (cl:=[]) ⟨rfl,by decide +kernel,by decide +kernel,rfl,rfl,(fun y hy=>nomatch hy),(fun y hy=>nomatch hy)⟩ rfl (eV (ai GT hr2 rfl mT kT bT .nil aQ (aa (pv 0) ac)))
  (fun _ _ _ _ _=>pg0 ["tree"]) (fun _ _ _ _ _ hps=>ai GK hr rfl mK kK bK .nil hps (aa (pv 0) ac)))),?_⟩
 refine⟨_,rfl,z,rfl,Nat.le_trans hz.len (by decide),qT,fun hg H1 l xs ts s1 _ hl1 hts hok hf=>?_⟩
 have sm:=hz.sms hok hf hg
 obtain⟨q1,q2⟩:=q hg ts hok hf
 refine⟨l,rfl,⟨_,SqL.of hl1⟩,?_⟩
 refine xw (CF:=CF) (E:=E) (f:=dc?) (D:=Dc.d) hl1 hts sm ?_ (fun e=>Rf.same (q2 e) s1) ?_
 ·intro o t H3 N B ht ho smt s3 hN no
  exact⟨rfl,aY ⟨_,rfl,o,t,rfl,ho,smt,hN,no⟩⟩
 ·intro ds ys H3 D s3 hd hys hD
  have sD:=ae hD (.lst ys)
  exact q1 ds hd _ D ys (s1.trans (s3.trans sD)) ad (hys.same sD)
abbrev rdN:List Str:=["_law_text","_law_found","_law_refused"]
theorem kG:ax rdN ["_law_text"] (ah oK):=mkS
theorem zp{f:Addr}{fd:FuncData} (F:Fun K "_law_read" "_law_read" oK f fd) (cK:C1 P w K mg base 103 ["text"] (jS K CF CT) "read_house") (cX:C0 P w K mg base 37 ["house"] (jQ K) "house_text")
  (mF:mg "NoForm"=some (.ref CF)) (mT:mg "NoTree"=some (.ref CT)) (x1:W.exmOne K (.ref CF) (.ref CF)=some true) (x2:W.exmOne K (.ref CT) (.ref CF)=some false) (x3:W.exmOne K (.ref CT) (.ref CT)=some true):aV P w K mg base CX0 104 f fd ["_law_text"] (uo K):=by
 obtain⟨fk,fdk,GK,bK,kK,mK⟩:=cK
 obtain⟨fx,fdx,GX,bX,kX,mX⟩:=cX
 refine F.k0 kG fun cdv A q0 s H vs Q E hr h=>?_
 obtain⟨z,h0,o,rfl,hz,res,q⟩:=h
 have hr37:bq 37 _:=hr.mono (by decide)
 obtain⟨th,hh,hW,hN⟩:∃th,PH (dP CX0 P w K mg base rdN "_law_read" (ah oK) f cdv A q0 s H E).nox (BV (List.drop 2 (ap oK))) th /\
   (∀D e H',H' e=none->(∀H2,aM H' H2->D.nx [some (.str z),some .non,some (.str "form")] H2)->th D (.ref CF) none e [some (.str z),some .non,some (.str "")] H') /\
   (∀D e H',H' e=none->(∀H2,aM H' H2->D.nx [some (.str z),some .non,some (.str "tree")] H2)->th D (.ref CT) none e [some (.str z),some .non,some (.str "")] H'):=by
  refine⟨_,qj rfl mF (fun e=>aj (aS (i:=2) kG.nd ak)) (qj rfl mT (fun e=>aj (aS (i:=2) kG.nd ak)) yW),?_,?_⟩
  ·intro D e H' he q
   exact⟨true,x1,bU (q _ sr0)⟩
  ·intro D e H' he q
   exact⟨false,x2,bx ⟨true,x3,bU (q _ sr0)⟩⟩
 refine⟨_,af (aS (i:=1) kG.nd dW) (af (aS (i:=2) kG.nd ak)
  (af (yK fun kb D=>aj (aS (i:=1) kG.nd (ai GX hr37 (by rfl) mX kX bX .nil aC (aa (rE GK hr (by rfl) mK kK bK .nil (BB rfl rfl hh) (aa (pv 0) ac)) ac))))
  (aj (ao (aE (aa (pv 2) (aa (pv 1) ac))))))),?_⟩
 refine⟨_,rfl,z,rfl,hz,fun bad H1 s1 a ha=>hN _ a H1 ha fun H2 s2=>?_,fun good ts hok hf=>⟨fun ds ed H1 l xs s1 hl hxs=>?_,fun ed H1 s1 a ha=>hW _ a H1 ha fun H2 s2=>?_⟩⟩
 ·rcases res with ⟨_,rfl,rfl⟩|⟨good,_⟩
  ·exact⟨_,rfl,_,rfl,(sz 2),fun p hp=>q _ p ((s1.trans s2).trans (ae hp _)) ad⟩
  ·exact absurd good bad
 ·have sm:=hz.sms hok hf good
  obtain⟨e1,e2⟩:=A3 sm ed
  refine⟨l,xs,ds,rfl,SqL.of hl,hxs,e2,by rw [e1];exact sm,fun H2 y s2 hy=>?_⟩
  rw [e1] at hy
  rcases res with ⟨bad,_⟩|⟨_,ts',ho',hf',res⟩
  ·exact absurd good bad
  ·obtain rfl:ts'=ts:=gG ho' hok (by rw [hf',hf])
   rcases res with ⟨_,rfl,y',rfl,ey'⟩|⟨h,_⟩
   ·obtain rfl:y=y':=Tk.lst_inj (hy.trans ey'.symm)
    exact⟨_,rfl,_,rfl,(sz 2),fun p hp=>q _ p ((s1.trans s2).trans (ae hp _)) ad⟩
   ·rw [ed] at h
    cases h
 ·rcases res with ⟨bad,_⟩|⟨_,ts',ho',hf',res⟩
  ·exact absurd good bad
  ·obtain rfl:ts'=ts:=gG ho' hok (by rw [hf',hf])
   rcases res with ⟨h,_⟩|⟨_,rfl,rfl⟩
   ·rw [ed] at h
    cases h
   ·exact⟨_,rfl,_,rfl,(sz 2),fun p hp=>q _ p ((s1.trans s2).trans (ae hp _)) ad⟩
abbrev otN:List Str:=["_law_tree","_law_refused"]
theorem nh:ax otN ["_law_tree"] (ah fV):=mkS
theorem vb{f:Addr}{fd:FuncData} (F:Fun K "_law_of_tree" "_law_of_tree" fV f fd) (cD:C1 P w K mg base 102 ["tree"] (tz K CF dc? Dc.d) "declaration_of_tree")
  (mF:mg "NoForm"=some (.ref CF)) (x1:W.exmOne K (.ref CF) (.ref CF)=some true):aV P w K mg base CX0 103 f fd ["_law_tree"] (gW K fun t=>!(dc? t).isSome):=by
 obtain⟨fk,fdk,GK,bK,kK,mK⟩:=cD
 refine F.k0 nh fun cdv A q0 s H vs Q E hr h=>?_
 obtain⟨x,t,rfl,hx,sm,q⟩:=h
 obtain⟨th,hh,hW⟩:∃th,PH (dP CX0 P w K mg base otN "_law_of_tree" (ah fV) f cdv A q0 s H E).nox (BV (List.drop 1 (ap fV))) th /\
   (∀D e H',H' e=none->(∀H2,aM H' H2->D.nx [some x,some (.bl true)] H2)->th D (.ref CF) none e [some x,some (.bl false)] H'):=by
  refine⟨_,qj rfl mF (fun e=>aj (aS (i:=1) nh.nd fR)) yW,?_⟩
  intro D e H' he q
  exact⟨true,x1,bU (q _ sr0)⟩
 refine⟨_,af (aS (i:=1) nh.nd fR)
  (af (yK fun kb D=>aj (aU (rE GK hr (by rfl) mK kK bK .nil (BB rfl rfl hh) (aa (pv 0) ac))))
  (aj (ao (pv 1)))),?_⟩
 refine⟨_,rfl,x,t,rfl,hx,sm,fun k ek H' v s' hv=>⟨_,rfl,?_⟩,fun ek H' s' a ha=>hW _ a H' ha fun H2 s2=>⟨_,rfl,?_⟩⟩
 ·have:Q (.bl (!(dc? t).isSome)) H':=q H' s'
  rw [ek] at this
  exact this
 ·have:Q (.bl (!(dc? t).isSome)) H2:=q H2 (s'.trans s2)
  rw [ek] at this
  exact this
end
def nmB(t:Tr):Bool:=(bo t).isSome
def kdB(t:Tr):Bool:=(kd? t).isSome
def exB(t:Tr):Bool:=(ex? t).isSome
def rwB(t:Tr):Bool:=(xc t).isSome
def rfB(ts:List Tr):Bool:=(si ts).isSome
def slB(t:Tr):Bool:=(sl? t).isSome
def fiB(t:Tr):Bool:=(fi? t).isSome
def piB(t:Tr):Bool:=(pi? t).isSome
def foB(t:Tr):Bool:=(fo? t).isSome
def dcB(t:Tr):Bool:=(dc? t).isSome
theorem CJ(a b:Tr):rwB (.n [a,b])=(nmB a&&kdB b):=by
 unfold rwB nmB kdB
 rw [qv]
 cases bo a<;>cases kd? b<;>rfl
theorem A7{ts:List Tr}(h:ts.length≠2):rwB (.n ts)=false:=by
 cases e:rwB (.n ts) with
 |false=>rfl
 |true =>
  obtain⟨a,b,rfl⟩:=wC (ts:=ts) fun z=>by unfold rwB at e;rw [z] at e;cases e
  exact absurd rfl h
theorem CY(a:Tr)(r:List Tr):rfB (a::r)=(nmB a&&(r.map rwB).all id):=by
 have e:(jf r).isSome=(r.map rwB).all id:=ck r
 rw [<-e]
 unfold rfB nmB
 rw [qJ]
 cases bo a<;>cases jf r<;>rfl
theorem Cp(a:Tr)(r:List Tr):foB (.n (a::r))=(nmB a&&rfB r):=by
 unfold foB nmB rfB
 rw [uy]
 cases bo a<;>cases si r<;>rfl
def Db:List Tr->Bool
 |[b]=>kdB b
 |_=>false
def ffB:List Tr->Bool
 |[.n ks,b]=>decide (ks.length<=4)&&(kdB b&&(ks.map kdB).all id)
 |_=>false
def pfB:List Tr->Bool
 |[.n ks,b,e]=>decide (ks.length<=4)&&((ks.map rwB).all id&&(kdB b&&exB e))
 |_=>false
def ptB:List Tr->Bool
 |b::r=>slB b&&(r.map piB).all id
 |[]=>false
def mdB:List Tr->Bool
 |b::c::r=>((b::c::r).map nmB).all id
 |_=>false
def mkB:List Tr->Bool
 |.n fs::b::r=>decide (1<=fs.length/\fs.length<=4)&&((fs.map foB).all id&&(slB b&&(r.map piB).all id))
 |_=>false
theorem Ba{α:Type}{c:Str->α}{a:Tr}(h:nmB a=true)(r:List Tr):(nm? c (a::r)).isSome=decide (r.length=0):=by
 match r with
 |[]=>rw [uk,Option.isSome_map];exact h
 |_::_=>rfl
theorem Bv{α:Type}{c:Str->Kd->α}{a:Tr}(h:nmB a=true)(r:List Tr):(nk? c (a::r)).isSome=Db r:=by
 unfold nmB at h
 match r with
 |[]=>rfl
 |[b] =>
  rw [uY]
  show _=(kd? b).isSome
  cases e:bo a with
  |none=>rw [e] at h;cases h
  |some s=>cases kd? b<;>rfl
 |_::_::_=>rfl
theorem DV{a:Tr}(h:nmB a=true)(r:List Tr):(Aw (a::r)).isSome=ffB r:=by
 unfold nmB at h
 match r with
 |[]=>rfl
 |[.w _]=>rfl
 |[.n _]=>rfl
 |[.w _,b]=>rfl
 |[.n ks,b] =>
  rw [qP]
  show _=(decide (ks.length<=4)&&(kdB b&&(ks.map kdB).all id))
  have e2:(zZ ks).isSome=(ks.map kdB).all id:=ck ks
  rw [<-e2]
  unfold kdB
  by_cases k4:ks.length<=4
  ·rw [if_pos k4,dt0 k4]
   cases e:bo a with
   |none=>rw [e] at h;cases h
   |some s=>cases kd? b<;>cases zZ ks<;>rfl
  ·rw [if_neg k4,df0 k4]
   rfl
 |.w _::_::_::_=>rfl
 |.n _::_::_::_=>rfl
theorem DH{a:Tr}(h:nmB a=true)(r:List Tr):(Ae (a::r)).isSome=pfB r:=by
 unfold nmB at h
 match r with
 |[]=>rfl
 |[.w _]=>rfl
 |[.n _]=>rfl
 |[.w _,b]=>rfl
 |[.n _,b]=>rfl
 |[.w _,b,e]=>rfl
 |[.n ks,b,x] =>
  rw [qY]
  show _=(decide (ks.length<=4)&&((ks.map rwB).all id&&(kdB b&&exB x)))
  have e2:(jf ks).isSome=(ks.map rwB).all id:=ck ks
  rw [<-e2]
  unfold kdB exB
  by_cases k4:ks.length<=4
  ·rw [if_pos k4,dt0 k4]
   cases e:bo a with
   |none=>rw [e] at h;cases h
   |some s=>cases kd? b<;>cases jf ks<;>cases ex? x<;>rfl
  ·rw [if_neg k4,df0 k4]
   rfl
 |.w _::_::_::_::_=>rfl
 |.n _::_::_::_::_=>rfl
theorem Cf{u a:Tr}{r:List Tr}(h:nmB a=true):fiB (.n (u::a::r))=if isW u "hid"=true then decide (r.length=0) else if isW u "told"=true then Db r else if isW u "fun"=true then ffB r else false:=by
 match u with
 |.n us=>rfl
 |.w z =>
  unfold fiB isW
  rw [yr]
  by_cases c:z="hid"
  ·rw [if_pos c,if_pos (dt0 c),Ba h]
  rw [if_neg c,if_neg (fun e=>c (od0 e))]
  by_cases c:z="told"
  ·rw [if_pos c,if_pos (dt0 c),Bv h]
  rw [if_neg c,if_neg (fun e=>c (od0 e))]
  by_cases c:z="fun"
  ·rw [if_pos c,if_pos (dt0 c),DV h]
  rw [if_neg c,if_neg (fun e=>c (od0 e))]
  rfl
theorem B5{u a:Tr}{r:List Tr}(h:nmB a=true):piB (.n (u::a::r))=if isW u "open"=true then decide (r.length=0) else if isW u "kind"=true then Db r else if isW u "fun"=true then pfB r else false:=by
 match u with
 |.n us=>rfl
 |.w z =>
  unfold piB isW
  rw [wT]
  by_cases c:z="open"
  ·rw [if_neg (by rw [c];decide +kernel),if_pos c,if_pos (dt0 c),Ba h]
  rw [if_neg (c:=decide (z="open")=true) (fun e=>c (od0 e))]
  by_cases c2:z="kind"
  ·rw [if_pos c2,if_pos (dt0 c2),Bv h]
  rw [if_neg c2,if_neg c,if_neg (c:=decide (z="kind")=true) (fun e=>c2 (od0 e))]
  by_cases c:z="fun"
  ·rw [if_pos c,if_pos (dt0 c),DH h]
  rw [if_neg c,if_neg (fun e=>c (od0 e))]
  rfl
theorem Ah{a:Tr}(h:nmB a=false):bo a=none:=by
 unfold nmB at h
 cases e:bo a with
 |none=>rfl
 |some s=>rw [e] at h;cases h
theorem Df{u a:Tr}{r:List Tr}(h:nmB a=false):fiB (.n (u::a::r))=false:=by
 have e:=Ah h
 match u with
 |.n us=>rfl
 |.w z =>
  unfold fiB
  rw [yr]
  have h1:nm? FI.hid (a::r)=none:=by
   match r with
   |[]=>rw [uk,e];rfl
   |_::_=>rfl
  have h2:nk? FI.told (a::r)=none:=by
   match r with
   |[]=>rfl
   |[b]=>rw [uY,e]
   |_::_::_=>rfl
  have h3:Aw (a::r)=none:=by
   match r with
   |[]=>rfl
   |[.w _]=>rfl
   |[.n _]=>rfl
   |[.w _,b]=>rfl
   |[.n ks,b]=>rw [qP,e];split<;>rfl
   |.w _::_::_::_=>rfl
   |.n _::_::_::_=>rfl
  rw [h1,h2,h3]
  repeat' split
  all_goals rfl
theorem CV{u a:Tr}{r:List Tr}(h:nmB a=false):piB (.n (u::a::r))=false:=by
 have e:=Ah h
 match u with
 |.n us=>rfl
 |.w z =>
  unfold piB
  rw [wT]
  have h1:nm? PI.opn (a::r)=none:=by
   match r with
   |[]=>rw [uk,e];rfl
   |_::_=>rfl
  have h2:nk? PI.kind (a::r)=none:=by
   match r with
   |[]=>rfl
   |[b]=>rw [uY,e]
   |_::_::_=>rfl
  have h3:Ae (a::r)=none:=by
   match r with
   |[]=>rfl
   |[.w _]=>rfl
   |[.n _]=>rfl
   |[.w _,b]=>rfl
   |[.n _,b]=>rfl
   |[.w _,b,_]=>rfl
   |[.n ks,b,_]=>rw [qY,e];split<;>rfl
   |.w _::_::_::_::_=>rfl
   |.n _::_::_::_::_=>rfl
  rw [h1,h2,h3]
  repeat' split
  all_goals rfl
theorem Cu{ts:List Tr}(h:ts.length < 2):fiB (.n ts)=false:=by
 match ts,h with
 |[],_=>rfl
 |[.n _],_=>rfl
 |[.w z],_ =>
  unfold fiB
  rw [yr]
  repeat' split
  all_goals rfl
 |_::_::_,h=>rw [lc0,lc0] at h;omega
theorem Dg{ts:List Tr}(h:ts.length < 2):piB (.n ts)=false:=by
 match ts,h with
 |[],_=>rfl
 |[.n _],_=>rfl
 |[.w z],_ =>
  unfold piB
  rw [wT]
  repeat' split
  all_goals rfl
 |_::_::_,h=>rw [lc0,lc0] at h;omega
theorem CO{ts:List Tr}(h:ts.length < 2):dcB (.n ts)=false:=by
 match ts,h with
 |[],_=>rfl
 |[.n _],_=>rfl
 |[.w z],_ =>
  unfold dcB
  rw [wX]
  repeat' split
  all_goals rfl
 |_::_::_,h=>rw [lc0,lc0] at h;omega
theorem C9{u a:Tr}{r:List Tr}(h:nmB a=false):dcB (.n (u::a::r))=false:=by
 have e:=Ah h
 match u with
 |.n us=>rfl
 |.w z =>
  unfold dcB
  rw [wX]
  have h1:pC (a::r)=none:=by rw [pL,e]
  have h2:om (a::r)=none:=by
   match r with
   |[]=>rfl
   |b::r=>rw [pK,e]
  have h3:i8 (a::r)=none:=by
   match r with
   |[]=>rfl
   |[.w _]=>rfl
   |[.n _]=>rfl
   |.w _::_::_=>rfl
   |.n fs::b::r=>rw [jl,e];split<;>rfl
  have h4:ow (a::r)=none:=by
   match r with
   |[]=>rfl
   |[_]=>rfl
   |b::c::r=>rw [pN,e]
  rw [h1,h2,h3,h4]
  repeat' split
  all_goals rfl
theorem AZ{u a:Tr}{r:List Tr}(h:nmB a=true):dcB (.n (u::a::r))=if isW u "face"=true then (r.map fiB).all id else if isW u "part"=true then ptB r else if isW u "made"=true then mdB r else if isW u "maker"=true then mkB r else false:=by
 match u with
 |.n us=>rfl
 |.w z =>
  obtain⟨s,es⟩:=Option.isSome_iff_exists.mp h
  unfold dcB isW
  rw [wX]
  have ei:∀r,(wD r).isSome=(r.map piB).all id:=fun r=>ck r
  by_cases c1:z="face"
  ·have ef:(AJ r).isSome=(r.map fiB).all id:=ck r
   rw [if_pos c1,if_pos (dt0 c1),pL,es,<-ef]
   cases AJ r<;>rfl
  rw [if_neg c1,if_neg (c:=decide (z="face")=true) (fun e=>c1 (od0 e))]
  by_cases c2:z="part"
  ·rw [if_pos c2,if_pos (dt0 c2)]
   match r with
   |[]=>rfl
   |b::r =>
    show _=(slB b&&(r.map piB).all id)
    rw [pK,es,<-ei]
    unfold slB
    cases sl? b<;>cases wD r<;>rfl
  rw [if_neg c2,if_neg (c:=decide (z="part")=true) (fun e=>c2 (od0 e))]
  by_cases c3:z="made"
  ·rw [if_neg (by rw [c3];decide +kernel),if_pos c3,if_pos (dt0 c3)]
   match r with
   |[]=>rfl
   |[_]=>rfl
   |b::c::r =>
    have en:(kq (c::r)).isSome=((c::r).map nmB).all id:=ck (c::r)
    show _=(nmB b&&((c::r).map nmB).all id)
    rw [pN,es,<-en]
    unfold nmB
    cases bo b<;>cases kq (c::r)<;>rfl
  rw [if_neg (c:=decide (z="made")=true) (fun e=>c3 (od0 e))]
  by_cases c4:z="maker"
  ·rw [if_pos c4,if_pos (dt0 c4)]
   match r with
   |[]=>rfl
   |[.w _]=>rfl
   |[.n _]=>rfl
   |.w _::_::_=>rfl
   |.n fs::b::r =>
    have eo:(AO fs).isSome=(fs.map foB).all id:=ck fs
    show _=(decide (1<=fs.length/\fs.length<=4)&&((fs.map foB).all id&&(slB b&&(r.map piB).all id)))
    rw [jl,es,<-ei,<-eo]
    unfold slB
    by_cases k4:1<=fs.length/\fs.length<=4
    ·rw [if_pos k4,dt0 k4]
     cases AO fs<;>cases sl? b<;>cases wD r<;>rfl
    ·rw [if_neg k4,df0 k4]
     rfl
  rw [if_neg c4,if_neg c3,if_neg (fun e=>c4 (od0 e))]
  rfl
theorem ew(u:Tr)(s:Str):V.bl (PyData.eqv u.dat (.str s))=.bl (isW u s):=congrArg V.bl (oI u s)
theorem nw(u:Tr)(s:Str):V.bl (!PyData.eqv u.dat (.str s))=.bl (!isW u s):=congrArg (fun b=>V.bl (!b)) (oI u s)
theorem dI{K:W.Frag}{H:Hp}{p:Addr}{xs:List V}{ts:List Tr}{b:Tr->Bool}{n:Nat}{κ:List Nat}{g:TG}{te:TE}{σ:St}{Q:VK}
  (hp:H p=some (.tup xs)) (hxs:aJ K H xs ts) (sm:Sms ts)
  (turn:∀(u:V) (t:Tr) (H3:Hp) (N:V->Hp->Prop) (B:Hp->Prop),bz K H3 u t->Sm t->aM H H3->(∀H4,aM H3 H4->N (.bl (b t)) H4) ->
   g u (da n κ σ) H3 fun σ4 H4=>σ4.drop n=(da n κ σ).drop n/\j0 σ4 H4 fun c H5=>if c=true then te σ4 H5 N else B H5)
  (fin:∀H3 A,aM H H3->H3 A=none->Q (.ref A) (upd H3 A (.lst ((ts.map b).map V.bl)))):dX n κ g j0 te σ (Itt K p) H Q:=by
 have xl:=hxs.length
 have cl:=sm.count
 refine cQ (J:=Itt K p) (xs:=xs) (fun i ys H3=>aM H H3/\i<=ts.length/\ys=((ts.take i).map b).map V.bl) ⟨sr0,Nat.zero_le _,rfl⟩ (de (by omega)) ?_ ?_ ?_ ?_ ?_ ?_
 ·rintro i ys H3 ⟨_,hi,rfl⟩
  rw [lm0,lm0,List.length_take]
  omega
 ·rintro i u ys H3 hu ⟨s3,_⟩
  exact⟨_,_,SqT.of (s3 _ _ hp),hu⟩
 ·rintro i ys u H3 H' hn ⟨s3,_⟩ hy
  exact⟨hy.1,hy.2 _ (SqT.of (s3 _ _ hp))⟩
 ·rintro ys H3 ⟨s3,_⟩
  exact⟨_,SqT.of (s3 _ _ hp),Nat.le_refl _⟩
 ·rintro i u ys H3 N hN hu ⟨s3,hi,rfl⟩
  obtain⟨t,ht,hu2⟩:=hxs.get hu
  have hlt:=(List.getElem?_eq_some_iff.mp ht).1
  refine turn u t H3 (fun v H6=>N (((ts.take i).map b).map V.bl++[v]) H6) (fun H5=>N (((ts.take i).map b).map V.bl) H5) (hu2.same s3) (sm.mem (List.mem_of_getElem? ht)) s3 fun H4 s4=>hN _ _ ⟨s3.trans s4,hlt,?_⟩
  rw [List.take_add_one,ht,ma0,ma0]
  rfl
 ·rintro ys H3 A ⟨s3,_,rfl⟩ hA
  have:=fin H3 A s3 hA
  rw [xl,List.take_length]
  exact this
theorem wH{K:W.Frag}{H:Hp}{p:Addr}{xs:List V}{ts:List Tr}{b:Tr->Bool}{n:Nat}{κ:List Nat}{g:TG}{te:TE}{σ:St}{Q:VK}
  (hp:H p=some (.lst xs)) (hxs:aJ K H xs ts) (sm:Sms ts)
  (turn:∀(u:V) (t:Tr) (H3:Hp) (N:V->Hp->Prop) (B:Hp->Prop),bz K H3 u t->Sm t->aM H H3->(∀H4,aM H3 H4->N (.bl (b t)) H4) ->
   g u (da n κ σ) H3 fun σ4 H4=>σ4.drop n=(da n κ σ).drop n/\j0 σ4 H4 fun c H5=>if c=true then te σ4 H5 N else B H5)
  (fin:∀H3 A,aM H H3->H3 A=none->Q (.ref A) (upd H3 A (.lst ((ts.map b).map V.bl)))):dX n κ g j0 te σ (Itl K p) H Q:=by
 have xl:=hxs.length
 have cl:=sm.count
 refine cQ (J:=Itl K p) (xs:=xs) (fun i ys H3=>aM H H3/\i<=ts.length/\ys=((ts.take i).map b).map V.bl) ⟨sr0,Nat.zero_le _,rfl⟩ (de (by omega)) ?_ ?_ ?_ ?_ ?_ ?_
 ·rintro i ys H3 ⟨_,hi,rfl⟩
  rw [lm0,lm0,List.length_take]
  omega
 ·rintro i u ys H3 hu ⟨s3,_⟩
  exact⟨_,_,SqL.of (s3 _ _ hp),hu⟩
 ·rintro i ys u H3 H' hn ⟨s3,_⟩ hy
  exact⟨hy.1,hy.2 _ (SqL.of (s3 _ _ hp))⟩
 ·rintro ys H3 ⟨s3,_⟩
  exact⟨_,SqL.of (s3 _ _ hp),Nat.le_refl _⟩
 ·rintro i u ys H3 N hN hu ⟨s3,hi,rfl⟩
  obtain⟨t,ht,hu2⟩:=hxs.get hu
  have hlt:=(List.getElem?_eq_some_iff.mp ht).1
  refine turn u t H3 (fun v H6=>N (((ts.take i).map b).map V.bl++[v]) H6) (fun H5=>N (((ts.take i).map b).map V.bl) H5) (hu2.same s3) (sm.mem (List.mem_of_getElem? ht)) s3 fun H4 s4=>hN _ _ ⟨s3.trans s4,hlt,?_⟩
  rw [List.take_add_one,ht,ma0,ma0]
  rfl
 ·rintro ys H3 A ⟨s3,_,rfl⟩ hA
  have:=fin H3 A s3 hA
  rw [xl,List.take_length]
  exact this
theorem Aq{K:W.Frag}(vs:List V)(H:Hp)(Q:VK)(E:XK)(h:gW K nmB vs H Q E):gZ K vs H Q E:=by
 obtain⟨x,t,rfl,hx,sm,q⟩:=h
 refine⟨x,rfl,?_⟩
 rcases wo hx sm with ⟨z,rfl,hz,e⟩|⟨p,xs,rfl,hp,e⟩
 ·exact .inl ⟨z,rfl,hz,fun H' s=>by rw [<-e];exact q H' s⟩
 ·exact .inr ⟨p,xs,rfl,hp,by have:=q H sr0;unfold nmB at this;rw [e] at this;exact this⟩
theorem zI{K:W.Frag}(vs:List V)(H:Hp)(Q:VK)(E:XK)(h:gW K kdB vs H Q E):qR K 31 vs H Q E:=by
 obtain⟨x,t,rfl,hx,sm,q⟩:=h
 exact⟨x,t,rfl,hx,sm,sm.dp,q⟩
theorem CN{K:W.Frag}(vs:List V)(H:Hp)(Q:VK)(E:XK)(h:gW K exB vs H Q E):yE K 31 vs H Q E:=by
 obtain⟨x,t,rfl,hx,sm,q⟩:=h
 exact⟨x,t,rfl,hx,sm,sm.dp,q⟩
section
variable{P:Program}{w:World}{K:W.Frag}{mg:Str->Option Value}{base:Heap}
theorem vJ:ax ["_law_tree"] ["_law_tree"] (ah gp):=mkS
theorem sr{f:Addr}{fd:FuncData} (F:Fun K "_law_is_named" "_law_is_named" gp f fd) (cN:C0 P w K mg base 1 ["_law_tree"] (gW K nmB) "_law_is_name") (cK:C0 P w K mg base 34 ["_law_tree"] (gW K kdB) "_law_is_kind")
  (mi:mg "isinstance"=none) (mt:mg "tuple"=none) (ml:mg "len"=none):aV P w K mg base CX0 35 f fd ["_law_tree"] (gW K rwB):=by
 obtain⟨fn,fdn,GN,bN,kN,mN⟩:=cN
 obtain⟨fk,fdk,GK,bK,kK,mK⟩:=cK
 refine F.k0 vJ fun cdv A q0 s H vs Q E hr h=>?_
 obtain⟨x,t,rfl,hx,sm,q⟩:=h
 have hr1:bq 1 _:=hr.mono (by decide)
 refine⟨_,aj (ao (ci (aq bh rfl mi bH (aa (pv 0) (aa (bJ rfl mt aR (v:=.ty "tuple") rfl) ac))) (ci (cv aZ (aq aw rfl ml boot_len (aa (pv 0) ac)) ag (av _)) (ci (ai GN hr1 rfl mN kN bN .nil aC (aa (ix0 au (pv 0) ag) ac)) (dw (ai GK hr rfl mK kK bK .nil aC (aa (ix0 au (pv 0) ag) ac))))))),?_⟩
 cases hx with
 |w z=>exact⟨_,rfl,.str z,"tuple",_,false,rfl,.str _,jH K,false,rfl,bx (q _ sr0)⟩
 |@n a xs ts ha hxs =>
  have xl:=hxs.length
  have smr:=sm.sub
  refine⟨_,rfl,.ref a,"tuple",_,true,rfl,.tup ha,jY K,true,rfl,bU ?_⟩
  refine⟨_,rfl,a,_,rfl,.inr (SqT.of ha),rfl,_,rfl,aO (fun c=>?_) (fun c=>?_)⟩
  ·have c':(xs.length:Int)=2:=V.int.inj (od0 c)
   have l2:ts.length=2:=by omega
   obtain⟨u,v,y,y2,rfl,rfl,hy,hy2⟩:=tk2 l2 hxs
   rw [CJ] at q
   refine⟨_,rfl,a,_,_,y,rfl,rfl,SqT.of ha,at0,y,u,rfl,hy,smr.head,fun H1 s1=>⟨_,rfl,?_⟩⟩
   cases e:nmB u with
   |false=>rw [e] at q;exact bx (q _ s1)
   |true=>rw [e] at q;exact bU ⟨_,rfl,a,_,_,y2,rfl,rfl,SqT.of (s1 _ _ ha),at1,y2,v,rfl,hy2.same s1,smr.tail.head,fun H2 s2=>q _ (s1.trans s2)⟩
  ·have n2:ts.length≠2:=fun e=>c (dt0 (by rw [xl,e];rfl))
   rw [A7 n2] at q
   exact q _ sr0
theorem xH:ax ["_law_trees_here"] ["_law_trees_here"] (ah iU):=mkS
theorem uz{f:Addr}{fd:FuncData} (F:Fun K "_law_is_want" "_law_is_want" iU f fd) (cN:C0 P w K mg base 1 ["_law_tree"] (gW K nmB) "_law_is_name") (cK:C0 P w K mg base 35 ["_law_tree"] (gW K rwB) "_law_is_named")
  (ml:mg "len"=none) (mall:mg "all"=none):aV P w K mg base CX0 36 f fd ["_law_trees_here"] (As K rfB):=by
 obtain⟨fn,fdn,GN,bN,kN,mN⟩:=cN
 obtain⟨fk,fdk,GK,bK,kK,mK⟩:=cK
 refine F.k0 xH fun cdv A q0 s H vs Q E hr h=>?_
 obtain⟨p,xs,ts,rfl,hp,hxs,sm,q⟩:=h
 have hr1:bq 1 _:=hr.mono (by decide)
 refine⟨_,aj (ao (ci (cv gi (aq aw rfl ml boot_len (aa (pv 0) ac)) ag (av _)) (ci (ai GN hr1 rfl mN kN bN .nil aC (aa (ix0 au (pv 0) ag) ac)) (dw (aq (bV rfl) rfl mall dq (aa (bi (own:=["_law_one"]) (cV (aH cx (pv 0) (aP ag) aT))
   (fun _ _ _ _=>pg0 ["_law_one"]) (fun _ _ _ _=>ai GK hr rfl mK kK bK .nil aC (aa (pv 0) ac))) ac)))))),?_⟩
 have xl:=hxs.length
 refine⟨_,rfl,p,_,rfl,.inr (SqT.of hp),_,_,rfl,rfl,_,rfl,aO (fun c=>?_) (fun c=>?_)⟩
 ·have c':(0:Int) < (xs.length:Int):=od0 c
  match ts,xs,hxs,sm,q,hp,xl,c' with
  |[],xs,hxs,_,_,_,xl,c'=>rw [xl] at c';exact absurd c' (by decide)
  |u::us,y::ys,.cons hy hys,sm,q,hp,_,_ =>
   rw [CY] at q
   refine⟨_,rfl,p,_,_,y,rfl,rfl,SqT.of hp,at0,y,u,rfl,hy,sm.head,fun H1 s1=>⟨_,rfl,?_⟩⟩
   cases e:nmB u with
   |false=>rw [e] at q;exact bx (q _ s1)
   |true =>
    rw [e] at q
    refine bU ⟨_,rfl,_,rfl,p,_,rfl,SqT.of (s1 _ _ hp),ba (k:=1) nr0 (by simp),fun p5 hp5=>?_⟩
    have s5:=ae hp5 (.tup (dc (y::ys) (some 1) none))
    have h5:upd H1 p5 (.tup (dc (y::ys) (some 1) none)) p5=some (.tup ys):=iq 1 H1
    have s15:=s1.trans s5
    refine⟨p5,rfl,⟨_,SqT.of h5⟩,?_⟩
    refine dI (b:=rwB) h5 (hys.same s15) sm.tail ?_ fun H3 A s3 hA=>⟨A,us.map rwB,rfl,SqL.of ad,q _ (s15.trans (s3.trans (ae hA _)))⟩
    intro o t H3 N B ho smt s3 hN
    exact⟨rfl,aY ⟨_,rfl,o,t,rfl,ho,smt,hN⟩⟩
 ·have c':¬(0:Int) < (xs.length:Int):=fun z=>c (dt0 z)
  match ts,xl,q with
  |[],_,q=>exact q _ sr0
  |_::_,xl,_=>rw [lc0] at xl;omega
theorem wY:ax ["_law_tree"] ["_law_tree"] (ah il):=mkS
theorem vx{f:Addr}{fd:FuncData} (F:Fun K "_law_is_seal" "_law_is_seal" il f fd) (cW:C0 P w K mg base 36 ["_law_trees_here"] (As K rfB) "_law_is_want")
  (mi:mg "isinstance"=none) (mt:mg "tuple"=none):aV P w K mg base CX0 37 f fd ["_law_tree"] (gW K slB):=by
 obtain⟨fk,fdk,GK,bK,kK,mK⟩:=cW
 refine F.k0 wY fun cdv A q0 s H vs Q E hr h=>?_
 obtain⟨x,t,rfl,hx,sm,q⟩:=h
 refine⟨_,aj (ao (Cz (cv (dY hr.units) (pv 0) ak (av _)) (dw (ci (aq bh rfl mi bH (aa (pv 0) (aa (bJ rfl mt aR (v:=.ty "tuple") rfl) ac))) (dw (ai GK hr rfl mK kK bK .nil aC (aa (pv 0) ac))))))),?_⟩
 refine⟨_,rfl,_,_,hx.dat,.str _,sm.shaped,bc _ (by decide +kernel),_,ew t _,?_⟩
 cases hx with
 |w z =>
  by_cases c:z="bare"
  ·have e:isW (.w z) "bare"=true:=dt0 c
   rw [e]
   refine bU ?_
   have:=q H sr0
   unfold slB at this
   rw [show sl? (.w z)=some none from if_pos c] at this
   exact this
  ·have e:isW (.w z) "bare"=false:=df0 c
   rw [e]
   refine bx ⟨_,rfl,.str z,"tuple",_,false,rfl,.str _,jH K,false,rfl,bx ?_⟩
   have:=q H sr0
   unfold slB at this
   rw [show sl? (.w z)=none from if_neg c] at this
   exact this
 |@n a xs ts ha hxs =>
  refine bx ⟨_,rfl,.ref a,"tuple",_,true,rfl,.tup ha,jY K,true,rfl,bU ⟨_,rfl,a,xs,ts,rfl,ha,hxs,sm.sub,fun H' s'=>?_⟩⟩
  have:=q H' s'
  rw [show slB (.n ts)=rfB ts from Option.isSome_map] at this
  exact this
theorem B0:ax ["_law_tree"] ["_law_tree"] (ah sG):=mkS
theorem AC{f:Addr}{fd:FuncData} (F:Fun K "_law_is_formal" "_law_is_formal" sG f fd) (cN:C0 P w K mg base 1 ["_law_tree"] (gW K nmB) "_law_is_name") (cW:C0 P w K mg base 36 ["_law_trees_here"] (As K rfB) "_law_is_want")
  (mi:mg "isinstance"=none) (mt:mg "tuple"=none) (ml:mg "len"=none):aV P w K mg base CX0 37 f fd ["_law_tree"] (gW K foB):=by
 obtain⟨fn,fdn,GN,bN,kN,mN⟩:=cN
 obtain⟨fk,fdk,GK,bK,kK,mK⟩:=cW
 refine F.k0 B0 fun cdv A q0 s H vs Q E hr h=>?_
 obtain⟨x,t,rfl,hx,sm,q⟩:=h
 have hr1:bq 1 _:=hr.mono (by decide)
 refine⟨_,aj (ao (ci (aq bh rfl mi bH (aa (pv 0) (aa (bJ rfl mt aR (v:=.ty "tuple") rfl) ac))) (ci (cv gi (aq aw rfl ml boot_len (aa (pv 0) ac)) ag (av _)) (ci (ai GN hr1 rfl mN kN bN .nil aC (aa (ix0 au (pv 0) ag) ac)) (dw (ai GK hr rfl mK kK bK .nil aC (aa (aH cx (pv 0) (aP ag) aT) ac))))))),?_⟩
 cases hx with
 |w z=>exact⟨_,rfl,.str z,"tuple",_,false,rfl,.str _,jH K,false,rfl,bx (q _ sr0)⟩
 |@n a xs ts ha hxs =>
  have xl:=hxs.length
  have smr:=sm.sub
  refine⟨_,rfl,.ref a,"tuple",_,true,rfl,.tup ha,jY K,true,rfl,bU ?_⟩
  refine⟨_,rfl,a,_,rfl,.inr (SqT.of ha),_,_,rfl,rfl,_,rfl,aO (fun c=>?_) (fun c=>?_)⟩
  ·have c':(1:Int) < (xs.length:Int):=od0 c
   match ts,xs,hxs,smr,q,ha,xl,c' with
   |[],xs,hxs,_,_,_,xl,c'=>rw [xl] at c';exact absurd c' (by decide)
   |u::us,y::ys,.cons hy hys,smr,q,ha,_,_ =>
    rw [Cp] at q
    refine⟨_,rfl,a,_,_,y,rfl,rfl,SqT.of ha,at0,y,u,rfl,hy,smr.head,fun H1 s1=>⟨_,rfl,?_⟩⟩
    cases e:nmB u with
    |false=>rw [e] at q;exact bx (q _ s1)
    |true =>
     rw [e] at q
     refine bU ⟨_,rfl,_,rfl,a,_,rfl,SqT.of (s1 _ _ ha),ba (k:=1) nr0 (by simp),fun p5 hp5=>?_⟩
     have s5:=ae hp5 (.tup (dc (y::ys) (some 1) none))
     exact⟨p5,ys,us,rfl,iq 1 H1,hys.same (s1.trans s5),smr.tail,fun H6 s6=>q _ (s1.trans (s5.trans s6))⟩
  ·have c':¬(1:Int) < (xs.length:Int):=fun z=>c (dt0 z)
   match ts,xl,q with
   |[],_,q=>exact q _ sr0
   |[u],_,q =>
    have:=q H sr0
    rw [Cp,show rfB []=false from rfl,Bool.and_false] at this
    exact this
   |_::_::_,xl,_=>rw [lc0,lc0] at xl;omega
theorem A8:ax ["_law_item"] ["_law_item"] (ah oq):=mkS
theorem zA{f:Addr}{fd:FuncData} (F:Fun K "_law_is_face_item" "_law_is_face_item" oq f fd) (cN:C0 P w K mg base 1 ["_law_tree"] (gW K nmB) "_law_is_name") (cK:C0 P w K mg base 34 ["_law_tree"] (gW K kdB) "_law_is_kind")
  (mi:mg "isinstance"=none) (mt:mg "tuple"=none) (ms:mg "str"=none) (ml:mg "len"=none) (mall:mg "all"=none):aV P w K mg base CX0 35 f fd ["_law_item"] (gW K fiB):=by
 obtain⟨fn,fdn,GN,bN,kN,mN⟩:=cN
 obtain⟨fk,fdk,GK,bK,kK,mK⟩:=cK
 refine F.k0 A8 fun cdv A q0 s H vs Q E hr h=>?_
 obtain⟨x,t,rfl,hx,sm,q⟩:=h
 have hr1:bq 1 _:=hr.mono (by decide)
 have hu:=hr.units
 obtain⟨t1,d1,k1⟩:∃t1,PSs (dP CX0 P w K mg base ["_law_item"] "_law_is_face_item" (ah oq) f cdv A q0 s H E).nox (List.drop 1 (ap oq)) t1/\∀(a:Addr) (y y1:V) (ys:List V) (u u1:Tr) (r:List Tr) (H1:Hp),H1 a=some (.tup (y::y1::ys))->bz K H1 y u->aJ K H1 ys r->Sm u->Sms r->aM H H1->fiB (.n (u::u1::r))=fiB t->nmB u1=true->t1 { nx:=fun _ H'=>Q .non H',rt:=Q } [some (.ref a)] H1:=by
  refine⟨_,af (aF (am (dY hu) (ix0 au (pv 0) ag) ak (av _)) (aj (ao (cv aZ (aq aw rfl ml boot_len (aa (pv 0) ac)) ag (av _)))) ar)
   (af (aF (am (dY hu) (ix0 au (pv 0) ag) ak (av _)) (aj (ao (ci (cv aZ (aq aw rfl ml boot_len (aa (pv 0) ac)) ag (av _)) (dw (ai GK hr rfl mK kK bK .nil aC (aa (ix0 au (pv 0) ag) ac)))))) ar)
   (af (aF (PW.pt (dl (am (kQ hu) (ix0 au (pv 0) ag) ak (av _)) (dl (am lL (aq aw rfl ml boot_len (aa (pv 0) ac)) ag (av _)) (dl (bt (aq bh rfl mi bH (aa (ix0 au (pv 0) ag) (aa (bJ rfl ms cb (v:=.ty "str") rfl) ac)))) (eC (am gi (aq aw rfl ml boot_len (aa (ix0 au (pv 0) ag) ac)) ag (av _))))))) (aj (ao fR)) ar)
   (aj (ao (ci (ai GK hr rfl mK kK bK .nil aC (aa (ix0 au (pv 0) ag) ac)) (dw (aq (bV rfl) rfl mall dq (aa (bi (own:=["_law_kind_here"]) (cV (ix0 au (pv 0) ag))
    (fun _ _ _ _=>pg0 ["_law_kind_here"]) (fun _ _ _ _=>ai GK hr rfl mK kK bK .nil aC (aa (pv 0) ac))) ac)))))))),?_⟩
  intro a y y1 ys u u1 r H1 ha hy hys smu smr s1 eb hn
  rw [Cf hn] at eb
  have yl:=hys.length
  have lx:((y::y1::ys).length:Int)=(r.length:Int)+2:=by rw [lc0,lc0];omega
  refine⟨_,rfl,a,_,_,y,rfl,rfl,SqT.of ha,at0,_,_,hy.dat,.str _,smu.shaped,bc _ (by decide +kernel),_,ew u _,aO (fun c=>?_) (fun c=>?_)⟩
  ·rw [if_pos c] at eb
   refine⟨_,rfl,a,_,rfl,.inr (SqT.of ha),rfl,?_⟩
   have:=q _ s1
   rw [<-eb] at this
   have e2:decide (V.int ((y::y1::ys).length:Int)=V.int 2)=decide (r.length=0):=by
    by_cases z:r.length=0
    ·rw [dt0 z,dt0 (by rw [lx,z];rfl)]
    ·rw [df0 z,df0 (fun e=>by have:=V.int.inj e;omega)]
   rw [<-e2] at this
   exact this
  rw [if_neg c] at eb
  refine⟨_,rfl,a,_,_,y,rfl,rfl,SqT.of ha,at0,_,_,hy.dat,.str _,smu.shaped,bc _ (by decide +kernel),_,ew u _,aO (fun c=>?_) (fun c=>?_)⟩
  ·rw [if_pos c] at eb
   refine⟨_,rfl,a,_,rfl,.inr (SqT.of ha),rfl,_,rfl,aO (fun c=>?_) (fun c=>?_)⟩
   ·have c':=V.int.inj (od0 c)
    have l1:r.length=1:=by omega
    obtain⟨v,y2,rfl,rfl,hy2⟩:=tk1 l1 hys
    exact⟨_,rfl,a,_,_,y2,rfl,rfl,SqT.of ha,at2,y2,v,rfl,hy2,smr.head,fun H2 s2=>by have:=q _ (s1.trans s2);rw [<-eb] at this;exact this⟩
   ·have n1:r.length≠1:=fun e=>c (dt0 (by rw [lx,e];rfl))
    have:=q _ s1
    rw [<-eb] at this
    match r,n1,this with
    |[],_,this=>exact this
    |[_],n1,_=>exact absurd rfl n1
    |_::_::_,_,this=>exact this
  rw [if_neg c] at eb
  refine⟨_,rfl,a,_,_,y,rfl,rfl,SqT.of ha,at0,_,_,hy.dat,.str _,smu.shaped,bc _ (by decide +kernel),_,nw u _,?_⟩
  cases ew':isW u "fun" with
  |false =>
   rw [ew'] at eb
   have:=q _ s1
   rw [<-eb] at this
   exact bU (bU this)
  |true =>
   rw [ew',if_pos rfl] at eb
   refine bx ⟨_,rfl,a,_,rfl,.inr (SqT.of ha),rfl,_,rfl,aO (fun c=>bU ?_) (fun c=>?_)⟩
   ·have n2:r.length≠2:=fun e=>by rw [lx,e] at c;exact absurd c (by decide)
    have:=q _ s1
    rw [<-eb] at this
    match r,n2,this with
    |[],_,this=>exact this
    |[.w _],_,this=>exact this
    |[.n _],_,this=>exact this
    |[_,_],n2,_=>exact absurd rfl n2
    |.w _::_::_::_,_,this=>exact this
    |.n _::_::_::_,_,this=>exact this
   ·have l2:r.length=2:=by
     have:¬¬(V.int ((y::y1::ys).length:Int)=V.int 4):=fun e=>c (by simpa using e)
     have:=V.int.inj (Classical.not_not.mp this)
     omega
    obtain⟨u0,v,y2,y3,rfl,rfl,hy2,hy3⟩:=tk2 l2 hys
    cases u0 with
    |w z =>
     cases hy2.word
     refine⟨_,rfl,a,_,_,.str z,rfl,rfl,SqT.of ha,at2,.str z,"str",_,true,rfl,.str _,eJ K,true,rfl,bU ?_⟩
     have:=q _ s1
     rw [<-eb] at this
     exact this
    |n ks =>
     obtain⟨p2,zs,rfl,hp2,hzs⟩:=hy2.node
     have zl:=hzs.length
     refine⟨_,rfl,a,_,_,.ref p2,rfl,rfl,SqT.of ha,at2,.ref p2,"str",_,false,rfl,.tup hp2,dZ K,false,rfl,bx ?_⟩
     refine⟨_,rfl,a,_,_,.ref p2,rfl,rfl,SqT.of ha,at2,p2,_,rfl,.inr (SqT.of hp2),_,_,rfl,rfl,_,rfl,aO (fun c=>?_) (fun c=>?_)⟩
     ·have c':(4:Int) < (zs.length:Int):=od0 c
      have:=q _ s1
      rw [<-eb,show ffB [.n ks,v]=(decide (ks.length<=4)&&(kdB v&&(ks.map kdB).all id)) from rfl,df0 (by omega)] at this
      exact this
     ·have c':¬(4:Int) < (zs.length:Int):=fun z=>c (dt0 z)
      have eb':fiB t=(kdB v&&(ks.map kdB).all id):=by
       rw [<-eb]
       show(decide (ks.length<=4)&&_)=_
       rw [dt0 (by omega),Bool.true_and]
      rw [eb'] at q
      refine⟨_,rfl,a,_,_,y3,rfl,rfl,SqT.of ha,at3,y3,v,rfl,hy3,smr.tail.head,fun H2 s2=>⟨_,rfl,?_⟩⟩
      have s12:=s1.trans s2
      cases e:kdB v with
      |false=>rw [e] at q;exact bx (q _ s12)
      |true =>
       rw [e] at q
       refine bU ⟨_,rfl,a,_,_,.ref p2,rfl,rfl,SqT.of (s2 _ _ ha),at2,p2,rfl,⟨_,SqT.of (s2 _ _ hp2)⟩,?_⟩
       refine dI (b:=kdB) (s2 _ _ hp2) (hzs.same s2) smr.head.sub ?_ fun H3 A s3 hA=>⟨A,ks.map kdB,rfl,SqL.of ad,q _ (s12.trans (s3.trans (ae hA _)))⟩
       intro o t H3 N B ho smt s3 hN
       exact⟨rfl,aY ⟨_,rfl,o,t,rfl,ho,smt,hN⟩⟩
 refine⟨_,@af _ _ _ _ _ (aF (PW.pt (dl (dk (bt (aq bh rfl mi bH (aa (pv 0) (aa (bJ rfl mt aR (v:=.ty "tuple") rfl) ac))))) (dl (am ij (aq aw rfl ml boot_len (aa (pv 0) ac)) ag (av _)) (eC (dk (bt (ai GN hr1 rfl mN kN bN .nil aC (aa (ix0 au (pv 0) ag) ac)))))))) (aj (ao fR)) ar) @d1,?_⟩
 cases hx with
 |w z=>exact⟨_,rfl,.str z,"tuple",_,false,rfl,.str _,jH K,false,rfl,bU (bU (q _ sr0))⟩
 |@n a xs ts ha hxs =>
  have xl:=hxs.length
  have smr:=sm.sub
  refine⟨_,rfl,.ref a,"tuple",_,true,rfl,.tup ha,jY K,true,rfl,bx ?_⟩
  refine⟨_,rfl,a,_,rfl,.inr (SqT.of ha),_,_,rfl,rfl,_,rfl,aO (fun c=>bU ?_) (fun c=>?_)⟩
  ·have c':(xs.length:Int) < 2:=od0 c
   rw [Cu (by omega)] at q
   exact q _ sr0
  ·have c':¬(xs.length:Int) < 2:=fun z=>c (dt0 z)
   obtain⟨u,u1,r,rfl⟩:=lg2 (r:=ts) (by omega)
   obtain⟨y,ys,rfl,hy,hk⟩:=Jc hxs
   obtain⟨y1,ys,rfl,hy1,hys⟩:=Jc hk
   ·refine⟨_,rfl,a,_,_,y1,rfl,rfl,SqT.of ha,at1,y1,u1,rfl,hy1,smr.tail.head,fun H1 s1=>⟨_,rfl,?_⟩⟩
    cases e:nmB u1 with
    |false =>
     rw [Df e] at q
     exact bU (q _ s1)
    |true=>exact bx (k1 a y y1 ys u u1 r H1 (s1 _ _ ha) (hy.same s1) (hys.same s1) smr.head smr.tail.tail s1 rfl e)
theorem zi:ax ["_law_item","_law_good"] ["_law_item"] (ah nX):=mkS
theorem zx{f:Addr}{fd:FuncData} (F:Fun K "_law_is_part_item" "_law_is_part_item" nX f fd) (cN:C0 P w K mg base 1 ["_law_tree"] (gW K nmB) "_law_is_name") (cK:C0 P w K mg base 34 ["_law_tree"] (gW K kdB) "_law_is_kind") (cR:C0 P w K mg base 35 ["_law_tree"] (gW K rwB) "_law_is_named") (cX:C0 P w K mg base 35 ["_law_tree"] (gW K exB) "_law_is_expression")
  (mi:mg "isinstance"=none) (mt:mg "tuple"=none) (ms:mg "str"=none) (ml:mg "len"=none) (mall:mg "all"=none):aV P w K mg base CX0 36 f fd ["_law_item"] (gW K piB):=by
 obtain⟨fn,fdn,GN,bN,kN,mN⟩:=cN
 obtain⟨fk,fdk,GK,bK,kK,mK⟩:=cK
 obtain⟨fr,fdr,GR,bR,kR,mR⟩:=cR
 obtain⟨fx,fdx,GX,bX,kX,mX⟩:=cX
 refine F.k0 zi fun cdv A q0 s H vs Q E hr h=>?_
 obtain⟨x,t,rfl,hx,sm,q⟩:=h
 have hr1:bq 1 _:=hr.mono (by decide)
 have hr34:bq 34 _:=hr.mono (by decide)
 have hu:=hr.units
 obtain⟨t1,d1,k1⟩:∃t1,PSs (dP CX0 P w K mg base ["_law_item","_law_good"] "_law_is_part_item" (ah nX) f cdv A q0 s H E).nox (List.drop 1 (ap nX)) t1/\∀(a:Addr) (y y1:V) (ys:List V) (u u1:Tr) (r:List Tr) (H1:Hp),H1 a=some (.tup (y::y1::ys))->bz K H1 y u->aJ K H1 ys r->Sm u->Sms r->aM H H1->piB (.n (u::u1::r))=piB t->nmB u1=true->t1 { nx:=fun _ H'=>Q .non H',rt:=Q } [some (.ref a),none] H1:=by
  refine⟨_,af (aF (am (dY hu) (ix0 au (pv 0) ag) ak (av _)) (aj (ao (cv aZ (aq aw rfl ml boot_len (aa (pv 0) ac)) ag (av _)))) ar)
   (af (aF (am (dY hu) (ix0 au (pv 0) ag) ak (av _)) (aj (ao (ci (cv aZ (aq aw rfl ml boot_len (aa (pv 0) ac)) ag (av _)) (dw (ai GK hr34 rfl mK kK bK .nil aC (aa (ix0 au (pv 0) ag) ac)))))) ar)
   (af (aF (PW.pt (dl (am (kQ hu) (ix0 au (pv 0) ag) ak (av _)) (dl (am lL (aq aw rfl ml boot_len (aa (pv 0) ac)) ag (av _)) (dl (bt (aq bh rfl mi bH (aa (ix0 au (pv 0) ag) (aa (bJ rfl ms cb (v:=.ty "str") rfl) ac)))) (eC (am gi (aq aw rfl ml boot_len (aa (ix0 au (pv 0) ag) ac)) ag (av _))))))) (aj (ao fR)) ar)
   (af (aS (i:=1) zi.nd (aq (bV rfl) rfl mall dq (aa (bi (own:=["_law_one"]) (cV (ix0 au (pv 0) ag))
    (fun _ _ _ _=>pg0 ["_law_one"]) (fun _ _ _ _=>ai GR hr rfl mR kR bR .nil aC (aa (pv 0) ac))) ac)))
   (aj (ao (ci (pv 1) (ci (ai GK hr34 rfl mK kK bK .nil aC (aa (ix0 au (pv 0) ag) ac)) (dw (ai GX hr rfl mX kX bX .nil aC (aa (ix0 au (pv 0) ag) ac)))))))))),?_⟩
  intro a y y1 ys u u1 r H1 ha hy hys smu smr s1 eb hn
  rw [B5 hn] at eb
  have yl:=hys.length
  have lx:((y::y1::ys).length:Int)=(r.length:Int)+2:=by rw [lc0,lc0];omega
  refine⟨_,rfl,a,_,_,y,rfl,rfl,SqT.of ha,at0,_,_,hy.dat,.str _,smu.shaped,bc _ (by decide +kernel),_,ew u _,aO (fun c=>?_) (fun c=>?_)⟩
  ·rw [if_pos c] at eb
   refine⟨_,rfl,a,_,rfl,.inr (SqT.of ha),rfl,?_⟩
   have:=q _ s1
   rw [<-eb] at this
   have e2:decide (V.int ((y::y1::ys).length:Int)=V.int 2)=decide (r.length=0):=by
    by_cases z:r.length=0
    ·rw [dt0 z,dt0 (by rw [lx,z];rfl)]
    ·rw [df0 z,df0 (fun e=>by have:=V.int.inj e;omega)]
   rw [<-e2] at this
   exact this
  rw [if_neg c] at eb
  refine⟨_,rfl,a,_,_,y,rfl,rfl,SqT.of ha,at0,_,_,hy.dat,.str _,smu.shaped,bc _ (by decide +kernel),_,ew u _,aO (fun c=>?_) (fun c=>?_)⟩
  ·rw [if_pos c] at eb
   refine⟨_,rfl,a,_,rfl,.inr (SqT.of ha),rfl,_,rfl,aO (fun c=>?_) (fun c=>?_)⟩
   ·have c':=V.int.inj (od0 c)
    have l1:r.length=1:=by omega
    obtain⟨v,y2,rfl,rfl,hy2⟩:=tk1 l1 hys
    exact⟨_,rfl,a,_,_,y2,rfl,rfl,SqT.of ha,at2,y2,v,rfl,hy2,smr.head,fun H2 s2=>by have:=q _ (s1.trans s2);rw [<-eb] at this;exact this⟩
   ·have n1:r.length≠1:=fun e=>c (dt0 (by rw [lx,e];rfl))
    have:=q _ s1
    rw [<-eb] at this
    match r,n1,this with
    |[],_,this=>exact this
    |[_],n1,_=>exact absurd rfl n1
    |_::_::_,_,this=>exact this
  rw [if_neg c] at eb
  refine⟨_,rfl,a,_,_,y,rfl,rfl,SqT.of ha,at0,_,_,hy.dat,.str _,smu.shaped,bc _ (by decide +kernel),_,nw u _,?_⟩
  cases ew':isW u "fun" with
  |false =>
   rw [ew'] at eb
   have:=q _ s1
   rw [<-eb] at this
   exact bU (bU this)
  |true =>
   rw [ew',if_pos rfl] at eb
   refine bx ⟨_,rfl,a,_,rfl,.inr (SqT.of ha),rfl,_,rfl,aO (fun c=>bU ?_) (fun c=>?_)⟩
   ·have n2:r.length≠3:=fun e=>by rw [lx,e] at c;exact absurd c (by decide)
    have:=q _ s1
    rw [<-eb] at this
    match r,n2,this with
    |[],_,this=>exact this
    |[.w _],_,this=>exact this
    |[.n _],_,this=>exact this
    |[.w _,_],_,this=>exact this
    |[.n _,_],_,this=>exact this
    |[_,_,_],n2,_=>exact absurd rfl n2
    |.w _::_::_::_::_,_,this=>exact this
    |.n _::_::_::_::_,_,this=>exact this
   ·have l2:r.length=3:=by
     have:¬¬(V.int ((y::y1::ys).length:Int)=V.int 5):=fun e=>c (by simpa using e)
     have:=V.int.inj (Classical.not_not.mp this)
     omega
    obtain⟨u0,v,v2,y2,y3,y4,rfl,rfl,hy2,hy3,hy4⟩:=tk3 l2 hys
    cases u0 with
    |w z =>
     cases hy2.word
     refine⟨_,rfl,a,_,_,.str z,rfl,rfl,SqT.of ha,at2,.str z,"str",_,true,rfl,.str _,eJ K,true,rfl,bU ?_⟩
     have:=q _ s1
     rw [<-eb] at this
     exact this
    |n ks =>
     obtain⟨p2,zs,rfl,hp2,hzs⟩:=hy2.node
     have zl:=hzs.length
     refine⟨_,rfl,a,_,_,.ref p2,rfl,rfl,SqT.of ha,at2,.ref p2,"str",_,false,rfl,.tup hp2,dZ K,false,rfl,bx ?_⟩
     refine⟨_,rfl,a,_,_,.ref p2,rfl,rfl,SqT.of ha,at2,p2,_,rfl,.inr (SqT.of hp2),_,_,rfl,rfl,_,rfl,aO (fun c=>?_) (fun c=>?_)⟩
     ·have c':(4:Int) < (zs.length:Int):=od0 c
      have:=q _ s1
      rw [<-eb,show pfB [.n ks,v,v2]=(decide (ks.length<=4)&&((ks.map rwB).all id&&(kdB v&&exB v2))) from rfl,df0 (by omega)] at this
      exact this
     ·have c':¬(4:Int) < (zs.length:Int):=fun z=>c (dt0 z)
      have eb':piB t=((ks.map rwB).all id&&(kdB v&&exB v2)):=by
       rw [<-eb]
       show(decide (ks.length<=4)&&_)=_
       rw [dt0 (by omega),Bool.true_and]
      rw [eb'] at q
      refine⟨_,rfl,a,_,_,.ref p2,rfl,rfl,SqT.of ha,at2,p2,rfl,⟨_,SqT.of hp2⟩,?_⟩
      refine dI (b:=rwB) hp2 hzs smr.head.sub ?_ fun H3 A s3 hA=>⟨A,ks.map rwB,rfl,SqL.of ad,?_⟩
      ·intro o t H3 N B ho smt s3 hN
       exact⟨rfl,aY ⟨_,rfl,o,t,rfl,ho,smt,hN⟩⟩
      have s03:=s3.trans (ae hA (.lst ((ks.map rwB).map V.bl)))
      have s13:=s1.trans s03
      refine⟨_,rfl,_,rfl,?_⟩
      cases e0:(ks.map rwB).all id with
      |false=>rw [e0] at q;exact bx (q _ s13)
      |true =>
       rw [e0] at q
       refine bU ⟨_,rfl,a,_,_,y3,rfl,rfl,SqT.of (s03 _ _ ha),at3,y3,v,rfl,hy3.same s03,smr.tail.head,fun H4 s4=>⟨_,rfl,?_⟩⟩
       have s14:=s13.trans s4
       cases e:kdB v with
       |false=>rw [e] at q;exact bx (q _ s14)
       |true =>
        rw [e] at q
        exact bU ⟨_,rfl,a,_,_,y4,rfl,rfl,SqT.of ((s03.trans s4) _ _ ha),at4,y4,v2,rfl,hy4.same (s03.trans s4),smr.tail.tail.head,fun H5 s5=>q _ (s14.trans s5)⟩
 refine⟨_,@af _ _ _ _ _ (aF (PW.pt (dl (dk (bt (aq bh rfl mi bH (aa (pv 0) (aa (bJ rfl mt aR (v:=.ty "tuple") rfl) ac))))) (dl (am ij (aq aw rfl ml boot_len (aa (pv 0) ac)) ag (av _)) (eC (dk (bt (ai GN hr1 rfl mN kN bN .nil aC (aa (ix0 au (pv 0) ag) ac)))))))) (aj (ao fR)) ar) @d1,?_⟩
 cases hx with
 |w z=>exact⟨_,rfl,.str z,"tuple",_,false,rfl,.str _,jH K,false,rfl,bU (bU (q _ sr0))⟩
 |@n a xs ts ha hxs =>
  have xl:=hxs.length
  have smr:=sm.sub
  refine⟨_,rfl,.ref a,"tuple",_,true,rfl,.tup ha,jY K,true,rfl,bx ?_⟩
  refine⟨_,rfl,a,_,rfl,.inr (SqT.of ha),_,_,rfl,rfl,_,rfl,aO (fun c=>bU ?_) (fun c=>?_)⟩
  ·have c':(xs.length:Int) < 2:=od0 c
   rw [Dg (by omega)] at q
   exact q _ sr0
  ·have c':¬(xs.length:Int) < 2:=fun z=>c (dt0 z)
   obtain⟨u,u1,r,rfl⟩:=lg2 (r:=ts) (by omega)
   obtain⟨y,ys,rfl,hy,hk⟩:=Jc hxs
   obtain⟨y1,ys,rfl,hy1,hys⟩:=Jc hk
   ·refine⟨_,rfl,a,_,_,y1,rfl,rfl,SqT.of ha,at1,y1,u1,rfl,hy1,smr.tail.head,fun H1 s1=>⟨_,rfl,?_⟩⟩
    cases e:nmB u1 with
    |false =>
     rw [CV e] at q
     exact bU (q _ s1)
    |true=>exact bx (k1 a y y1 ys u u1 r H1 (s1 _ _ ha) (hy.same s1) (hys.same s1) smr.head smr.tail.tail s1 rfl e)
theorem qi{u:Tr}{a b:Str}(h:isW u a=true)(ne:a≠b):isW u b=false:=by
 cases u with
 |n us=>rfl
 |w z=>exact df0 fun e=>ne ((od0 h).symm.trans e)
abbrev idN:List Str:=["_law_tree","_law_good"]
theorem yN:ax idN ["_law_tree"] (ah gP):=mkS
theorem zB{f:Addr}{fd:FuncData} (F:Fun K "_law_is_declaration" "_law_is_declaration" gP f fd) (cN:C0 P w K mg base 1 ["_law_tree"] (gW K nmB) "_law_is_name") (cI:C0 P w K mg base 35 ["_law_item"] (gW K fiB) "_law_is_face_item") (cP:C0 P w K mg base 36 ["_law_item"] (gW K piB) "_law_is_part_item") (cS:C0 P w K mg base 37 ["_law_tree"] (gW K slB) "_law_is_seal") (cO:C0 P w K mg base 37 ["_law_tree"] (gW K foB) "_law_is_formal")
  (mi:mg "isinstance"=none) (mt:mg "tuple"=none) (ms:mg "str"=none) (ml:mg "len"=none) (mall:mg "all"=none):aV P w K mg base CX0 38 f fd ["_law_tree"] (gW K dcB):=by
 obtain⟨fn,fdn,GN,bN,kN,mN⟩:=cN
 obtain⟨fi,fdi,GI,bI,kI,mI⟩:=cI
 obtain⟨fp,fdp,GP,bP,kP,mP⟩:=cP
 obtain⟨fs,fds,GS,bS,kS,mS⟩:=cS
 obtain⟨fo,fdo,GO,bO,kO,mO⟩:=cO
 refine F.k0 yN fun cdv A q0 s H vs Q E hr h=>?_
 obtain⟨x,t,rfl,hx,sm,q⟩:=h
 have hr1:bq 1 _:=hr.mono (by decide)
 have hr35:bq 35 _:=hr.mono (by decide)
 have hr36:bq 36 _:=hr.mono (by decide)
 have hu:=hr.units
 obtain⟨t4,d4,k4⟩:∃t4,PSs (dP CX0 P w K mg base idN "_law_is_declaration" (ah gP) f cdv A q0 s H E).nox (List.drop 4 (ap gP)) t4/\∀(a:Addr) (y y1:V) (ys:List V) (u:Tr) (r:List Tr) (H1:Hp),H1 a=some (.tup (y::y1::ys))->bz K H1 y u->aJ K H1 ys r->Sm u->Sms r->aM H H1->dcB t=(if isW u "maker"=true then mkB r else false)->t4 { nx:=fun _ H'=>Q .non H',rt:=Q } [some (.ref a),none] H1:=by
  refine⟨_,af (aF (PW.pt (dl (am (kQ hu) (ix0 au (pv 0) ag) ak (av _)) (dl (am ij (aq aw rfl ml boot_len (aa (pv 0) ac)) ag (av _)) (dl (bt (aq bh rfl mi bH (aa (ix0 au (pv 0) ag) (aa (bJ rfl ms cb (v:=.ty "str") rfl) ac)))) (eC (dk (qL my my ag (aq aw rfl ml boot_len (aa (ix0 au (pv 0) ag) ac)) ag))))))) (aj (ao fR)) ar)
   (af (aS (i:=1) yN.nd (aq (bV rfl) rfl mall dq (aa (bi (own:=["_law_one"]) (cV (ix0 au (pv 0) ag))
    (fun _ _ _ _=>pg0 ["_law_one"]) (fun _ _ _ _=>ai GO hr rfl mO kO bO .nil aC (aa (pv 0) ac))) ac)))
   (aj (ao (ci (pv 1) (ci (ai GS hr rfl mS kS bS .nil aC (aa (ix0 au (pv 0) ag) ac)) (dw (aq (bV rfl) rfl mall dq (aa (bi (own:=["_law_item"]) (cV (aH cx (pv 0) (aP ag) aT))
    (fun _ _ _ _=>pg0 ["_law_item"]) (fun _ _ _ _=>ai GP hr36 rfl mP kP bP .nil aC (aa (pv 0) ac))) ac)))))))),?_⟩
  intro a y y1 ys u r H1 ha hy hys smu smr s1 eb
  have yl:=hys.length
  have lx:((y::y1::ys).length:Int)=(r.length:Int)+2:=by rw [lc0,lc0];omega
  refine⟨_,rfl,a,_,_,y,rfl,rfl,SqT.of ha,at0,_,_,hy.dat,.str _,smu.shaped,bc _ (by decide +kernel),_,nw u _,?_⟩
  cases ew':isW u "maker" with
  |false =>
   rw [ew'] at eb
   rw [eb] at q
   exact bU (bU (q _ s1))
  |true =>
   rw [ew',if_pos rfl] at eb
   rw [eb] at q
   refine bx ⟨_,rfl,a,_,rfl,.inr (SqT.of ha),_,_,rfl,rfl,_,rfl,aO (fun c=>bU ?_) (fun c=>?_)⟩
   ·have c':((y::y1::ys).length:Int) < 4:=od0 c
    rw [lx] at c'
    have l2:r.length < 2:=by omega
    match r,l2,q with
    |[],_,q=>exact q _ s1
    |[.w _],_,q=>exact q _ s1
    |[.n _],_,q=>exact q _ s1
    |_::_::_,l2,_=>rw [lc0,lc0] at l2;omega
   ·have c':¬((y::y1::ys).length:Int) < 4:=fun z=>c (dt0 z)
    rw [lx] at c'
    match r,c',ys,hys,smr,q,ha with
    |[],c',_,_,_,_,_=>exact absurd (by decide) c'
    |[_],c',_,_,_,_,_=>exact absurd (by show(1:Int)+2 < 4;decide) c'
    |.w z::v::r,_,y2::y3::ys,.cons hy2 (.cons hy3 hys),smr,q,ha =>
     cases hy2.word
     exact⟨_,rfl,a,_,_,.str z,rfl,rfl,SqT.of ha,at2,.str z,"str",_,true,rfl,.str _,eJ K,true,rfl,bU (q _ s1)⟩
    |.n ks::v::r,_,y2::y3::ys,.cons hy2 (.cons hy3 hys),smr,q,ha =>
     obtain⟨p2,zs,rfl,hp2,hzs⟩:=hy2.node
     have zl:=hzs.length
     have mk:mkB (.n ks::v::r)=(decide (1<=ks.length/\ks.length<=4)&&((ks.map foB).all id&&(slB v&&(r.map piB).all id))):=rfl
     rw [mk] at q
     refine⟨_,rfl,a,_,_,.ref p2,rfl,rfl,SqT.of ha,at2,.ref p2,"str",_,false,rfl,.tup hp2,dZ K,false,rfl,bx ?_⟩
     refine⟨_,rfl,a,_,_,.ref p2,rfl,rfl,SqT.of ha,at2,p2,_,rfl,.inr (SqT.of hp2),_,_,rfl,rfl,_,rfl,aO (fun c=>?_) (fun c=>?_)⟩
     ·have c1:(1:Int)<=(zs.length:Int):=od0 c
      refine⟨_,_,rfl,rfl,_,rfl,aO (fun c=>?_) (fun c=>?_)⟩
      ·have c2:¬((zs.length:Int)<=4):=fun z=>absurd c (by rw [dt0 z];decide)
       rw [df0 (by omega)] at q
       exact q _ s1
      ·have c2:(zs.length:Int)<=4:=Classical.byContradiction fun z=>c (by rw [df0 z];rfl)
       rw [dt0 (by omega),Bool.true_and] at q
       refine⟨_,rfl,a,_,_,.ref p2,rfl,rfl,SqT.of ha,at2,p2,rfl,⟨_,SqT.of hp2⟩,?_⟩
       refine dI (b:=foB) hp2 hzs smr.head.sub ?_ fun H3 A s3 hA=>⟨A,ks.map foB,rfl,SqL.of ad,?_⟩
       ·intro o t H3 N B ho smt s3 hN
        exact⟨rfl,aY ⟨_,rfl,o,t,rfl,ho,smt,hN⟩⟩
       have s03:=s3.trans (ae hA (.lst ((ks.map foB).map V.bl)))
       have s13:=s1.trans s03
       refine⟨_,rfl,_,rfl,?_⟩
       cases e0:(ks.map foB).all id with
       |false=>rw [e0] at q;exact bx (q _ s13)
       |true =>
        rw [e0] at q
        refine bU ⟨_,rfl,a,_,_,y3,rfl,rfl,SqT.of (s03 _ _ ha),at3,y3,v,rfl,hy3.same s03,smr.tail.head,fun H4 s4=>⟨_,rfl,?_⟩⟩
        have s04:=s03.trans s4
        cases e:slB v with
        |false=>rw [e] at q;exact bx (q _ (s1.trans s04))
        |true =>
         rw [e] at q
         refine bU ⟨_,rfl,_,rfl,a,_,rfl,SqT.of (s04 _ _ ha),ba (k:=4) (by decide) (by simp),fun p5 hp5=>?_⟩
         have s5:=ae hp5 (.tup (dc (y::y1::.ref p2::y3::ys) (some 4) none))
         have h5:upd H4 p5 (.tup (dc (y::y1::.ref p2::y3::ys) (some 4) none)) p5=some (.tup ys):=iq 4 H4
         have s05:=s04.trans s5
         refine⟨p5,rfl,⟨_,SqT.of h5⟩,?_⟩
         refine dI (b:=piB) h5 (hys.same s05) smr.tail.tail ?_ fun H6 A6 s6 hA6=>⟨A6,r.map piB,rfl,SqL.of ad,q _ (s1.trans (s05.trans (s6.trans (ae hA6 _))))⟩
         intro o t H3 N B ho smt s3 hN
         exact⟨rfl,aY ⟨_,rfl,o,t,rfl,ho,smt,hN⟩⟩
     ·have c1:¬(1:Int)<=(zs.length:Int):=fun z=>c (dt0 z)
      rw [df0 (by omega)] at q
      exact⟨_,rfl,bU (q _ s1)⟩
 obtain⟨t3,d3,k3⟩:∃t3,PSs (dP CX0 P w K mg base idN "_law_is_declaration" (ah gP) f cdv A q0 s H E).nox (List.drop 3 (ap gP)) t3/\∀(a:Addr) (y y1:V) (ys:List V) (u:Tr) (r:List Tr) (H1:Hp),H1 a=some (.tup (y::y1::ys))->bz K H1 y u->aJ K H1 ys r->Sm u->Sms r->aM H H1->dcB t=(if isW u "made"=true then mdB r else if isW u "maker"=true then mkB r else false)->t3 { nx:=fun _ H'=>Q .non H',rt:=Q } [some (.ref a),none] H1:=by
  refine⟨_,@af _ _ _ _ _ (aF (PW.pt (cr (am (dY hu) (ix0 au (pv 0) ag) ak (av _)) (cz (am gi (aq aw rfl ml boot_len (aa (pv 0) ac)) ag (av _))))) (aj (ao (aq (bV rfl) rfl mall dq (aa (bi (own:=["_law_word"]) (cV (aH cx (pv 0) (aP ag) aT))
    (fun _ _ _ _=>pg0 ["_law_word"]) (fun _ _ _ _=>ai GN hr1 rfl mN kN bN .nil aC (aa (pv 0) ac))) ac)))) ar) @d4,?_⟩
  intro a y y1 ys u r H1 ha hy hys smu smr s1 eb
  have yl:=hys.length
  have lx:((y::y1::ys).length:Int)=(r.length:Int)+2:=by rw [lc0,lc0];omega
  refine⟨_,rfl,a,_,_,y,rfl,rfl,SqT.of ha,at0,_,_,hy.dat,.str _,smu.shaped,bc _ (by decide +kernel),_,ew u _,aO (fun c=>?_) (fun c=>?_)⟩
  ·have em:isW u "maker"=false:=qi c (by decide +kernel)
   rw [if_pos c] at eb
   refine⟨_,rfl,a,_,rfl,.inr (SqT.of ha),_,_,rfl,rfl,_,rfl,aO (fun c2=>?_) (fun c2=>k4 a y y1 ys u r H1 ha hy hys smu smr s1 ?_)⟩
   ·have c':(3:Int) < ((y::y1::ys).length:Int):=od0 c2
    rw [lx] at c'
    have l2:2<=r.length:=by omega
    have eb':mdB r=(r.map nmB).all id:=by
     match r,l2 with
     |[],l2=>exact absurd l2 (by decide)
     |[_],l2=>exact absurd l2 (by show ¬(2<=1);decide)
     |_::_::_,_=>rfl
    rw [eb,eb'] at q
    refine⟨_,rfl,_,rfl,a,_,rfl,SqT.of ha,ba (k:=2) (by decide) (by simp),fun p5 hp5=>?_⟩
    have s5:=ae hp5 (.tup (dc (y::y1::ys) (some 2) none))
    have h5:upd H1 p5 (.tup (dc (y::y1::ys) (some 2) none)) p5=some (.tup ys):=iq 2 H1
    refine⟨p5,rfl,⟨_,SqT.of h5⟩,?_⟩
    refine dI (b:=nmB) h5 (hys.same s5) smr ?_ fun H6 A6 s6 hA6=>⟨A6,r.map nmB,rfl,SqL.of ad,q _ (s1.trans (s5.trans (s6.trans (ae hA6 _))))⟩
    intro o t H3 N B ho smt s3 hN
    exact⟨rfl,aY ⟨_,rfl,o,t,rfl,ho,smt,hN⟩⟩
   ·have c':¬(3:Int) < ((y::y1::ys).length:Int):=fun z=>c2 (dt0 z)
    rw [lx] at c'
    have l2:r.length < 2:=by omega
    rw [eb,em]
    match r,l2 with
    |[],_=>rfl
    |[_],_=>rfl
    |_::_::_,l2=>rw [lc0,lc0] at l2;omega
  rw [if_neg c] at eb
  exact bx (k4 a y y1 ys u r H1 ha hy hys smu smr s1 eb)
 obtain⟨t2,d2,k2⟩:∃t2,PSs (dP CX0 P w K mg base idN "_law_is_declaration" (ah gP) f cdv A q0 s H E).nox (List.drop 2 (ap gP)) t2/\∀(a:Addr) (y y1:V) (ys:List V) (u:Tr) (r:List Tr) (H1:Hp),H1 a=some (.tup (y::y1::ys))->bz K H1 y u->aJ K H1 ys r->Sm u->Sms r->aM H H1->dcB t=(if isW u "part"=true then ptB r else if isW u "made"=true then mdB r else if isW u "maker"=true then mkB r else false)->t2 { nx:=fun _ H'=>Q .non H',rt:=Q } [some (.ref a),none] H1:=by
  refine⟨_,@af _ _ _ _ _ (aF (PW.pt (cr (am (dY hu) (ix0 au (pv 0) ag) ak (av _)) (cz (am gi (aq aw rfl ml boot_len (aa (pv 0) ac)) ag (av _))))) (aj (ao (ci (ai GS hr rfl mS kS bS .nil aC (aa (ix0 au (pv 0) ag) ac)) (dw (aq (bV rfl) rfl mall dq (aa (bi (own:=["_law_item"]) (cV (aH cx (pv 0) (aP ag) aT))
    (fun _ _ _ _=>pg0 ["_law_item"]) (fun _ _ _ _=>ai GP hr36 rfl mP kP bP .nil aC (aa (pv 0) ac))) ac)))))) ar) @d3,?_⟩
  intro a y y1 ys u r H1 ha hy hys smu smr s1 eb
  have yl:=hys.length
  have lx:((y::y1::ys).length:Int)=(r.length:Int)+2:=by rw [lc0,lc0];omega
  refine⟨_,rfl,a,_,_,y,rfl,rfl,SqT.of ha,at0,_,_,hy.dat,.str _,smu.shaped,bc _ (by decide +kernel),_,ew u _,aO (fun c=>?_) (fun c=>?_)⟩
  ·have em:isW u "maker"=false:=qi c (by decide +kernel)
   have ed:isW u "made"=false:=qi c (by decide +kernel)
   rw [if_pos c] at eb
   refine⟨_,rfl,a,_,rfl,.inr (SqT.of ha),_,_,rfl,rfl,_,rfl,aO (fun c2=>?_) (fun c2=>k3 a y y1 ys u r H1 ha hy hys smu smr s1 ?_)⟩
   ·have c':(2:Int) < ((y::y1::ys).length:Int):=od0 c2
    rw [lx] at c'
    match r,c',ys,hys,smr,eb,ha with
    |[],c',_,_,_,_,_=>exact absurd c' (by decide)
    |v::r,_,y2::ys,.cons hy2 hys,smr,eb,ha =>
     rw [eb,show ptB (v::r)=(slB v&&(r.map piB).all id) from rfl] at q
     refine⟨_,rfl,a,_,_,y2,rfl,rfl,SqT.of ha,at2,y2,v,rfl,hy2,smr.head,fun H4 s4=>⟨_,rfl,?_⟩⟩
     cases e:slB v with
     |false=>rw [e] at q;exact bx (q _ (s1.trans s4))
     |true =>
      rw [e] at q
      refine bU ⟨_,rfl,_,rfl,a,_,rfl,SqT.of (s4 _ _ ha),ba (k:=3) (by decide) (by simp),fun p5 hp5=>?_⟩
      have s5:=ae hp5 (.tup (dc (y::y1::y2::ys) (some 3) none))
      have h5:upd H4 p5 (.tup (dc (y::y1::y2::ys) (some 3) none)) p5=some (.tup ys):=iq 3 H4
      have s05:=s4.trans s5
      refine⟨p5,rfl,⟨_,SqT.of h5⟩,?_⟩
      refine dI (b:=piB) h5 (hys.same s05) smr.tail ?_ fun H6 A6 s6 hA6=>⟨A6,r.map piB,rfl,SqL.of ad,q _ (s1.trans (s05.trans (s6.trans (ae hA6 _))))⟩
      intro o t H3 N B ho smt s3 hN
      exact⟨rfl,aY ⟨_,rfl,o,t,rfl,ho,smt,hN⟩⟩
   ·have c':¬(2:Int) < ((y::y1::ys).length:Int):=fun z=>c2 (dt0 z)
    rw [lx] at c'
    rw [eb,em,ed]
    match r,c' with
    |[],_=>rfl
    |_::_,c'=>rw [lc0] at c';omega
  rw [if_neg c] at eb
  exact bx (k3 a y y1 ys u r H1 ha hy hys smu smr s1 eb)
 obtain⟨t1,d1,k1⟩:∃t1,PSs (dP CX0 P w K mg base idN "_law_is_declaration" (ah gP) f cdv A q0 s H E).nox (List.drop 1 (ap gP)) t1/\∀(a:Addr) (y y1:V) (ys:List V) (u:Tr) (r:List Tr) (H1:Hp),H1 a=some (.tup (y::y1::ys))->bz K H1 y u->aJ K H1 ys r->Sm u->Sms r->aM H H1->(∃u1,dcB t=dcB (.n (u::u1::r))/\nmB u1=true)->t1 { nx:=fun _ H'=>Q .non H',rt:=Q } [some (.ref a),none] H1:=by
  refine⟨_,@af _ _ _ _ _ (aF (am (dY hu) (ix0 au (pv 0) ag) ak (av _)) (aj (ao (aq (bV rfl) rfl mall dq (aa (bi (own:=["_law_item"]) (cV (aH cx (pv 0) (aP ag) aT))
    (fun _ _ _ _=>pg0 ["_law_item"]) (fun _ _ _ _=>ai GI hr35 rfl mI kI bI .nil aC (aa (pv 0) ac))) ac)))) ar) @d2,?_⟩
  rintro a y y1 ys u r H1 ha hy hys smu smr s1 ⟨u1,eb,hn⟩
  rw [AZ hn] at eb
  refine⟨_,rfl,a,_,_,y,rfl,rfl,SqT.of ha,at0,_,_,hy.dat,.str _,smu.shaped,bc _ (by decide +kernel),_,ew u _,aO (fun c=>?_) (fun c=>?_)⟩
  ·rw [if_pos c] at eb
   rw [eb] at q
   refine⟨_,rfl,_,rfl,a,_,rfl,SqT.of ha,ba (k:=2) (by decide) (by simp),fun p5 hp5=>?_⟩
   have s5:=ae hp5 (.tup (dc (y::y1::ys) (some 2) none))
   have h5:upd H1 p5 (.tup (dc (y::y1::ys) (some 2) none)) p5=some (.tup ys):=iq 2 H1
   refine⟨p5,rfl,⟨_,SqT.of h5⟩,?_⟩
   refine dI (b:=fiB) h5 (hys.same s5) smr ?_ fun H6 A6 s6 hA6=>⟨A6,r.map fiB,rfl,SqL.of ad,q _ (s1.trans (s5.trans (s6.trans (ae hA6 _))))⟩
   intro o t H3 N B ho smt s3 hN
   exact⟨rfl,aY ⟨_,rfl,o,t,rfl,ho,smt,hN⟩⟩
  rw [if_neg c] at eb
  exact k2 a y y1 ys u r H1 ha hy hys smu smr s1 eb
 refine⟨_,@af _ _ _ _ _ (aF (PW.pt (dl (dk (bt (aq bh rfl mi bH (aa (pv 0) (aa (bJ rfl mt aR (v:=.ty "tuple") rfl) ac))))) (dl (am ij (aq aw rfl ml boot_len (aa (pv 0) ac)) ag (av _)) (eC (dk (bt (ai GN hr1 rfl mN kN bN .nil aC (aa (ix0 au (pv 0) ag) ac)))))))) (aj (ao fR)) ar) @d1,?_⟩
 cases hx with
 |w z=>exact⟨_,rfl,.str z,"tuple",_,false,rfl,.str _,jH K,false,rfl,bU (bU (q _ sr0))⟩
 |@n a xs ts ha hxs =>
  have xl:=hxs.length
  have smr:=sm.sub
  refine⟨_,rfl,.ref a,"tuple",_,true,rfl,.tup ha,jY K,true,rfl,bx ?_⟩
  refine⟨_,rfl,a,_,rfl,.inr (SqT.of ha),_,_,rfl,rfl,_,rfl,aO (fun c=>bU ?_) (fun c=>?_)⟩
  ·have c':(xs.length:Int) < 2:=od0 c
   rw [CO (by omega)] at q
   exact q _ sr0
  ·have c':¬(xs.length:Int) < 2:=fun z=>c (dt0 z)
   obtain⟨u,u1,r,rfl⟩:=lg2 (r:=ts) (by omega)
   obtain⟨y,ys,rfl,hy,hk⟩:=Jc hxs
   obtain⟨y1,ys,rfl,hy1,hys⟩:=Jc hk
   ·refine⟨_,rfl,a,_,_,y1,rfl,rfl,SqT.of ha,at1,y1,u1,rfl,hy1,smr.tail.head,fun H1 s1=>⟨_,rfl,?_⟩⟩
    cases e:nmB u1 with
    |false =>
     rw [C9 e] at q
     exact bU (q _ s1)
    |true=>exact bx (k1 a y y1 ys u r H1 (s1 _ _ ha) (hy.same s1) (hys.same s1) smr.head smr.tail.tail s1 ⟨u1,rfl,e⟩)
theorem zd{K:W.Frag}{H:Hp}{p:Tr->Prop}:∀{ys:List V},(∀(i:Nat) (v:V),ys[i]?=some v->∃t,bz K H v t/\p t)->∃ts,aJ K H ys ts/\(∀t∈ts,p t)
 |[],_=>⟨[],.nil,fun t h=>nomatch h⟩
 |y::ys,h=>by
  obtain⟨t,ht,pt⟩:=h 0 y rfl
  obtain⟨ts,hts,pts⟩:=zd (ys:=ys) fun i v hv=>h (i+1) v hv
  exact⟨t::ts,.cons ht hts,all_cons pt pts⟩
theorem jo{K:W.Frag}{H:Hp}{m:Nat}(p:Tr->Prop){n:Nat}{κ:List Nat}{g:TG}{te:TE}{σ:St}{Q:VK}(hx:m<=1000)
  (turn:∀(i:Nat) (H3:Hp) (N:V->Hp->Prop) (B:Hp->Prop),i < m->aM H H3->(∀v H4 t,aM H3 H4->bz K H4 v t->p t->N v H4) ->
   g (.int (0+(i:Int))) (da n κ σ) H3 fun σ4 H4=>σ4.drop n=(da n κ σ).drop n/\j0 σ4 H4 fun b H5=>if b=true then te σ4 H5 N else B H5)
  (fin:∀ys ts H3 D,aM H H3->ts.length=m->aJ K H3 ys ts->(∀t∈ts,p t)->H3 D=none->Q (.ref D) (upd H3 D (.lst ys))) :
  dX n κ g j0 te σ (Itr 0 m) H Q:=by
 refine sj (fun _ H v=>∃t,bz K H v t/\p t) (fun i H H' v e ⟨t,h,pt⟩=>⟨t,h.same e,pt⟩) hx (fun i H3 N B hi s3 hN=>turn i H3 N B hi s3 fun v H4 t s4 h pt=>hN v H4 s4 ⟨t,h,pt⟩) ?_
 intro ys H3 D s3 hl hy hD
 obtain⟨ts,hts,pts⟩:=zd hy
 exact fin ys ts H3 D s3 (by rw [<-hts.length,hl]) hts pts hD
theorem B6{ts:List Tr}{l d:Nat}(r:Pz ts l d):Pt (.n ts) (l+2) (d+1):=by
 refine⟨r.ok,fun p hp=>?_,?_,?_⟩
 ·have hp':p∈[40]::(aD ts++[[41]]):=hp
  rcases mc0 hp' with rfl|hp'
  ·exact pJ
  ·rcases List.mem_append.mp hp' with hp'|hp'
   ·exact r.tok p hp'
   ·rw [List.mem_singleton.mp hp']
    exact pX
 ·show([40]::(aD ts++[[41]])).length<=_
  have:=r.len
  rw [lc0,la0]
  show(aD ts).length+1+1<=l+2
  omega
 ·show 1+fF ts<=d+1
  have:=r.dep
  omega
theorem oJ{l d:Nat}:∀{ts:List Tr},(∀t∈ts,Pt t l d)->Pz ts (l*ts.length) d
 |[],_=>dv
 |t::ts,h=>by
  have:=aN (h t (.head _)) (oJ (ts:=ts) fun u hu=>h u (.tail _ hu))
  exact this.le (by rw [lc0,Nat.mul_add];omega) nr0
theorem qd:∀s∈(["bare","hid","told","fun","kind","open","face","part","maker","made","t","x","2","3","two","lit","pair","num"]:List Str),(cps s≠[]/\∀c∈cps s,c≠40/\c≠41/\c≠10/\c≠32)/\s.length<=25/\∀c∈cps s,c < 0x110000:=by decide +kernel
theorem dL{s:Str} (h:s∈(["bare","hid","told","fun","kind","open","face","part","maker","made","t","x","2","3","two","lit","pair","num"]:List Str)):Wd s:=⟨(qd s h).1,(qd s h).2.1,(qd s h).2.2⟩
theorem o0{z:Str}(h:aA z=true):nmB (.w z)=true:=by
 show(if aA z=true then some z else none).isSome=true
 rw [if_pos h]
 rfl
theorem Cq{z:Str}{p:Str × Str}(h:jb z=some p):kdB (.w z)=true:=by
 show((jb z).map _).isSome=true
 rw [h]
 rfl
structure Gk(t:Tr):Prop where
 fit:kdB t=true
 pt:Pt t 8 2
inductive lS(K:W.Frag):Sp|mk{vs H Q E}(c:Int)(_:vs=[.int c])(_:∀H' v t,aM H H'->bz K H' v t->Gk t->Q v H'):lS K vs H Q E
inductive ub(K:W.Frag):Sp|mk{vs H Q E}(c:Int)(_:vs=[.int c])(_:∀H' (p:Addr) xs ts,aM H H'->H' p=some (.tup xs)->aJ K H' xs ts->rfB ts=true->Pz ts 12 3->ts.length<=2->Q (.ref p) H'):ub K vs H Q E
inductive rA(K:W.Frag):Sp|mk{vs H Q E}(c:Int)(m:Nat)(_:vs=[.int c,.int m])(_:m<=6)(_:∀H' (p:Addr) x1 x2 x3 t1 t2 t3,aM H H'->H' p=some (.tup [x1,x2,x3])->bz K H' x1 t1->bz K H' x2 t2->bz K H' x3 t3->piB t1=true->piB t2=true->(m<=4->piB t3=true)->Pt t1 12 3->Pt t2 4 1->Pt t3 (23+11*m) 5->Q (.ref p) H'):rA K vs H Q E
abbrev abS:Str:="abcdef"
theorem yz:∀c∈abS.cps.toList,aA ⟨#[c]⟩=true:=by decide +kernel
abbrev kdN:List Str:=["_law_cell_here","_law_size_here","_law_word"]
theorem pM:ax kdN ["_law_cell_here"] (ah kj):=mkS
theorem wQ{f:Addr}{fd:FuncData} (F:Fun K "_law_kind" "_law_kind" kj f fd) (cN:C0 P w K mg base 1 ["_law_cell_here"] jA "_law_name") (cS:C0 P w K mg base 1 ["_law_cell_here"] vW "_law_size")
  (ms:mg "str"=none):aV P w K mg base CX0 2 f fd ["_law_cell_here"] (lS K):=by
 obtain⟨fn,fdn,GN,bN,kN,mN⟩:=cN
 obtain⟨fs,fds,GS,bS,kS,mS⟩:=cS
 refine F.k0 pM fun cdv A q0 s H vs Q E hr h=>?_
 obtain⟨c,rfl,q⟩:=h
 refine⟨_,af (aS (i:=1) pM.nd (aE (aa ak (aa (aL di rfl ms cb (aa (ai GS hr rfl mS kS bS .nil aC (aa (aB bj (pv 0) ag) ac)) ac)) ac))))
  (af (aS (i:=2) pM.nd (ai GN hr rfl mN kN bN .nil aC (aa (aB bj (pv 0) ag) ac)))
  (aj (ao (ix0 bd (cc (aa (pv 2) (aa (aB bu (aB bu (pv 2) ak) (ai GN hr rfl mN kN bN .nil aC (aa (aB bj (pv 0) ag) ac))) (aa (aE (aa ak (aa (pv 1) (aa (pv 2) ac)))) ac)))) (aB cg (pv 0) ag))))),?_⟩
 refine⟨_,rfl,_,_,rfl,rfl,⟨by decide,by decide⟩,_,rfl,fun m m1 m2=>⟨m,rfl,fU m2,(sz 2),fun p hp=>?_⟩⟩
 have s0:=ae hp (.tup [.str "num",.str (fQ m)])
 refine⟨_,rfl,_,_,rfl,rfl,⟨by decide,by decide⟩,_,rfl,fun H1 z s1 hz=>?_⟩
 have d1:(Str.ofString ".").length=1:=by decide +kernel
 have y2:=(bQ hz).2.1
 refine⟨_,rfl,_,rfl,z,_,rfl,rfl,de (by rw [d1];omega),?_⟩
 refine⟨_,rfl,_,_,rfl,rfl,⟨by decide,by decide⟩,_,rfl,fun H3 z3 s3 hz3=>?_⟩
 have y3:=(bQ hz3).2.1
 refine⟨_,z3,rfl,rfl,de (by rw [dF,d1];omega),_,rfl,_,rfl,(sz 3),fun p4 hp4=>⟨(sz 3),fun l hl=>?_⟩⟩
 have ew:(z++Str.ofString ".")++z3=dQ z z3:=(if_neg (mo hz)).symm
 have s4:=ae hp4 (.tup [.str "pair",.ref p,.str z])
 have s5:=ae hl (.lst [.str z,.str ((z++Str.ofString ".")++z3),.ref p4])
 have S:=s0.trans (s1.trans (s3.trans (s4.trans s5)))
 have gn:Pt (.n [.w "num",.w (fQ m)]) 4 1:=(cG (uR (by decide +kernel)) (aN (d:=0) (bv (BN m2)) dv)).le (by decide) (by decide)
 obtain⟨v,t,hv,ht,gt⟩:∃v t,atI [V.str z,V.str ((z++Str.ofString ".")++z3),V.ref p4] (c%3)=some v/\bz K (upd (upd H3 p4 (.tup [.str "pair",.ref p,.str z])) l (.lst [.str z,.str ((z++Str.ofString ".")++z3),.ref p4])) v t/\Gk t:=by
  have r:c%3=0\/c%3=1\/c%3=2:=by omega
  rcases r with r|r|r<;>rw [r]
  ·exact⟨_,.w z,rfl,.w _,Cq (qS hz),(bv (d:=0) (cw hz)).le (by decide) (by decide)⟩
  ·exact⟨_,.w ((z++Str.ofString ".")++z3),rfl,.w _,by rw [ew];exact Cq (xN hz hz3),by rw [ew];exact(bv (d:=0) (B1 hz hz3)).le (by decide) (by decide)⟩
  ·refine⟨_,.n [.w "pair",.n [.w "num",.w (fQ m)],.w z],rfl,.n (s5 _ _ ad) (.cons (.w _) (.cons (.n ((s1.trans (s3.trans (s4.trans s5))) _ _ ad) (.cons (.w _) (.cons (.w _) .nil))) (.cons (.w _) .nil))),?_,(cG (uR (by decide +kernel)) (aN gn (aN (bv (cw hz)) dv))).le (by decide) (by decide)⟩
   show(kd? _).isSome=true
   rw [uL,dz,wK,dz,zX m1 m2]
   exact Cq (qS hz)
 exact⟨_,rfl,_,_,rfl,rfl,(by show(0:Int) < 3;decide),l,_,_,v,rfl,rfl,SqL.of ad,hv,q _ _ t S ht gt⟩
theorem zO:ax ["_law_cell_here"] ["_law_cell_here"] (ah ke):=mkS
theorem xU{f:Addr}{fd:FuncData} (F:Fun K "_law_want" "_law_want" ke f fd) (cN:C0 P w K mg base 1 ["_law_cell_here"] jA "_law_name") (cK:C0 P w K mg base 2 ["_law_cell_here"] (lS K) "_law_kind"):aV P w K mg base CX0 3 f fd ["_law_cell_here"] (ub K):=by
 obtain⟨fn,fdn,GN,bN,kN,mN⟩:=cN
 obtain⟨fk,fdk,GK,bK,kK,mK⟩:=cK
 refine F.k0 zO fun cdv A q0 s H vs Q E hr h=>?_
 obtain⟨c,rfl,q⟩:=h
 have hr1:bq 1 _:=hr.mono (by decide)
 refine⟨_,aj (ao (aH AA (aE (aa (ai GN hr1 rfl mN kN bN .nil aC (aa (pv 0) ac)) (aa (aE (aa (ai GN hr1 rfl mN kN bN .nil aC (aa (aB bj (pv 0) ag) ac)) (aa (ai GK hr rfl mK kK bK .nil aC (aa (aB bj (pv 0) ag) ac)) ac))) ac))) aT (aP (aB ca ag (aB cg (pv 0) ag))))),?_⟩
 refine⟨_,rfl,_,rfl,fun H1 z1 s1 hz1=>?_⟩
 refine⟨_,rfl,_,_,rfl,rfl,⟨by decide,by decide⟩,_,rfl,fun H2 z2 s2 hz2=>?_⟩
 refine⟨_,rfl,_,_,rfl,rfl,⟨by decide,by decide⟩,_,rfl,fun H3 v t s3 hv gk=>⟨(sz 2),fun p4 hp4=>⟨(sz 2),fun p5 hp5=>?_⟩⟩⟩
 have s4:=ae hp4 (.tup [.str z2,v])
 have s5:=ae hp5 (.tup [.str z1,.ref p4])
 have S:=s1.trans (s2.trans (s3.trans (s4.trans s5)))
 have cutN:∀k:Nat,dc [V.str z1,V.ref p4] none (some (k:Int))=[V.str z1,V.ref p4].take k:=uf _
 refine⟨_,rfl,_,_,rfl,rfl,(by show(0:Int) < 2;decide),_,_,rfl,rfl,_,rfl,p5,_,rfl,SqT.of ad,?_⟩
 have r:c%2=0\/c%2=1:=by omega
 rcases r with r|r<;>rw [r]
 ·refine⟨fun e=>absurd e.2 (by show ¬(HT.sIx 2 2 (some (1+0))=2);decide),fun _ p6 hp6=>?_⟩
  have s6:=ae hp6 (.tup (dc [V.str z1,V.ref p4] none (some (1+0))))
  refine q _ p6 [.str z1] [.w z1] (S.trans s6) (by rw [ad];exact congrArg (fun l=>some (HO.tup l)) (cutN 1)) (.cons (.w _) .nil) ?_ ((aN (d:=3) (bv (cw hz1)) dv).le (by decide) nr0) (by show 1<=2;decide)
  rw [CY,o0 hz1]
  rfl
 ·refine⟨fun _=>?_,fun e=>absurd ⟨by show HT.sIx 2 0 none=0;decide,by show HT.sIx 2 2 (some (1+1))=2;decide⟩ e⟩
  refine q _ p5 [.str z1,.ref p4] [.w z1,.n [.w z2,t]] S ad (.cons (.w _) (.cons (.n (s5 _ _ ad) (.cons (.w _) (.cons (hv.same (s4.trans s5)) .nil))) .nil)) ?_ ((aN (d:=3) (bv (cw hz1)) (aN (cG (cw hz2) (aN gk.pt dv)) dv)).le (by decide) nr0) (by show 2<=2;decide)
  rw [CY,o0 hz1]
  show(rwB (.n [.w z2,t])&&true)=true
  rw [CJ,o0 hz2,gk.fit]
  rfl
abbrev itN:List Str:=["_law_cell_here","_law_many","_law_word","_law_params","_law_item"]
abbrev itP:List Str:=["_law_cell_here","_law_many"]
theorem jp:ax itN itP (ah i3):=mkS
theorem vn{f:Addr}{fd:FuncData} (F:Fun K "_law_items" "_law_items" i3 f fd) (cN:C0 P w K mg base 1 ["_law_cell_here"] jA "_law_name") (cK:C0 P w K mg base 2 ["_law_cell_here"] (lS K) "_law_kind")
  (mt:mg "tuple"=none) (mr:mg "range"=none):aV P w K mg base CX0 3 f fd itP (rA K):=by
 obtain⟨fn,fdn,GN,bN,kN,mN⟩:=cN
 obtain⟨fk,fdk,GK,bK,kK,mK⟩:=cK
 refine F.k0 jp fun cdv A q0 s H vs Q E hr h=>?_
 obtain⟨c,m,rfl,hm,q⟩:=h
 have hr1:bq 1 _:=hr.mono (by decide)
 refine⟨_,af (aS (i:=2) jp.nd (ai GN hr1 rfl mN kN bN .nil aC (aa (aB bj (pv 0) ag) ac)))
  (af (aS (i:=3) jp.nd (aL aI rfl mt aR (aa (jX (own:=["_law_k"]) (caps:=["_law_cell_here"]) (κ:=[0]) rfl ⟨rfl,by decide +kernel,by decide +kernel,rfl,rfl,(fun y hy=>by obtain rfl:=List.mem_singleton.mp hy;rfl),(fun y hy=>by obtain rfl:=List.mem_singleton.mp hy;exact⟨.inl rfl,rfl,.inl rfl⟩)⟩ rfl
   (dN rfl mr (aa (pv 1) ac)) (fun _ _ _ _=>pg0 ["_law_k","_law_cell_here"]) (fun _ _ _ _=>aE (aa (ix0 nP ak (pv 0)) (aa (ai GK hr rfl mK kK bK .nil aC (aa (aB bj (pv 1) (aB ca (pv 0) ag)) ac)) ac)))) ac)))
  (af (aS (i:=4) jp.nd (aE (aa ak (aa (pv 2) (aa (pv 3) (aa (ai GK hr rfl mK kK bK .nil aC (aa (aB bj (pv 0) ag) ac)) (aa (aE (aa ak (aa ak (aa (aE (aa ak (aa ak (aa ak ac)))) ac)))) ac)))))))
  (aj (ao (aE (aa (aE (aa ak (aa (pv 2) (aa (ai GK hr rfl mK kK bK .nil aC (aa (aB bj (pv 0) ag) ac)) ac)))) (aa (aE (aa ak (aa (pv 2) ac))) (aa (pv 4) ac)))))))),?_⟩
 refine⟨_,rfl,_,_,rfl,rfl,⟨by decide,by decide⟩,_,rfl,fun H1 z s1 hz=>?_⟩
 refine⟨_,rfl,m,rfl,by omega,by omega,?_⟩
 rw [Int.toNat_natCast]
 refine jo (K:=K) (fun t=>rwB t=true/\Pt t 11 3) (by omega) ?_ ?_
 ·intro i H3 N B hi s3 hN
  obtain⟨g,eg⟩:=lX (xs:=abS.cps.toList) (i:=(0+(i:Int))) (by omega) (by show 0+(i:Int) < 6;omega)
  have ng:=yz g (jP eg)
  refine⟨rfl,aY ⟨_,rfl,abS,_,g,rfl,rfl,by decide +kernel,eg,_,rfl,_,rfl,_,_,rfl,rfl,_,_,rfl,rfl,⟨by omega,by omega⟩,_,rfl,fun H4 v t s4 hv gk=>⟨(sz 2),fun p5 hp5=>?_⟩⟩⟩
  have s5:=ae hp5 (.tup [.str ⟨#[g]⟩,v])
  refine hN _ _ (.n [.w ⟨#[g]⟩,t]) (s4.trans s5) (.n ad (.cons (.w _) (.cons (hv.same s5) .nil))) ⟨?_,(cG (cw ng) (aN gk.pt dv)).le (by decide) (by decide)⟩
  rw [CJ,o0 ng,gk.fit]
  rfl
 ·intro ys ts H3 D s3 tl hts pts hD
  have sD:=ae hD (.lst ys)
  refine⟨D,ys,rfl,.inl ⟨SqL.of ad,fun b4 hb4=>?_⟩⟩
  have s4:=ae hb4 (.tup ys)
  have S4:=s1.trans (s3.trans (sD.trans s4))
  have hts4:=hts.same (sD.trans s4)
  refine⟨_,rfl,_,rfl,_,rfl,_,_,rfl,rfl,⟨by decide,by decide⟩,_,rfl,fun H5 v5 t5 s5 hv5 g5=>?_⟩
  refine⟨(sz 3),fun p6 hp6=>⟨(sz 3),fun p7 hp7=>⟨(sz 5),fun p8 hp8=>?_⟩⟩⟩
  have s6:=ae hp6 (.tup [.str "lit",.str "2",.str "3"])
  have s7:=ae hp7 (.tup [.str "two",.str "x",.ref p6])
  have s8:=ae hp8 (.tup [.str "fun",.str z,.ref b4,v5,.ref p7])
  refine⟨_,rfl,_,rfl,_,_,rfl,rfl,⟨by decide,by decide⟩,_,rfl,fun H9 v9 t9 s9 hv9 g9=>⟨(sz 3),fun pa hpa=>⟨_,rfl,(sz 2),fun pb hpb=>⟨_,rfl,(sz 3),fun pc hpc=>?_⟩⟩⟩⟩
  have sa:=ae hpa (.tup [.str "kind",.str z,v9])
  have sb:=ae hpb (.tup [.str "open",.str z])
  have sc:=ae hpc (.tup [.ref pa,.ref pb,.ref p8])
  have sac:=sa.trans (sb.trans sc)
  have s8c:=s9.trans sac
  have s6c:=s7.trans (s8.trans s8c)
  have s5c:=s6.trans s6c
  have mB:(ts.map rwB).all id=true:=List.all_eq_true.mpr fun b hb=>by
   obtain⟨t,ht,rfl⟩:=List.mem_map.mp hb
   exact(pts t ht).1
  have exl:exB (.n [.w "two",.w "x",.n [.w "lit",.w "2",.w "3"]])=true:=by decide +kernel
  have pl:Pt (.n [.w "two",.w "x",.n [.w "lit",.w "2",.w "3"]]) 9 2:=(cG (dL (by decide +kernel)) (aN (bv (dL (by decide +kernel))) (aN (cG (d:=0) (dL (by decide +kernel)) (aN (bv (dL (by decide +kernel))) (aN (bv (dL (by decide +kernel))) dv))) dv))).le (by decide) (by decide)
  refine q _ pc _ _ _ (.n [.w "kind",.w z,t9]) (.n [.w "open",.w z]) (.n [.w "fun",.w z,.n ts,t5,.n [.w "two",.w "x",.n [.w "lit",.w "2",.w "3"]]]) (S4.trans (s5.trans s5c)) ad
   (.n ((sb.trans sc) _ _ ad) (.cons (.w _) (.cons (.w _) (.cons (hv9.same sac) .nil)))) (.n (sc _ _ ad) (.cons (.w _) (.cons (.w _) .nil)))
   (.n (s8c _ _ ad) (.cons (.w _) (.cons (.w _) (.cons (.n ((s5.trans s5c) _ _ ad) (hts4.same (s5.trans s5c))) (.cons (hv5.same s5c) (.cons (.n ((s8.trans s8c) _ _ ad) (.cons (.w _) (.cons (.w _) (.cons (.n (s6c _ _ ad) (.cons (.w _) (.cons (.w _) (.cons (.w _) .nil)))) .nil)))) .nil))))))
   ?_ ?_ (fun m4=>?_) ((cG (dL (by decide +kernel)) (aN (bv (cw hz)) (aN g9.pt dv))).le (by decide) (by decide)) ((cG (d:=0) (dL (by decide +kernel)) (aN (bv (cw hz)) dv)).le (by decide) (by decide)) ((cG (dL (by decide +kernel)) (aN (bv (cw hz)) (aN (B6 (oJ fun t ht=>(pts t ht).2)) (aN (g5.pt.le nr0 (by decide)) (aN (pl.le nr0 (by decide)) dv))))).le (by rw [tl];omega) (by decide))
  ·rw [B5 (o0 hz),if_neg (by decide +kernel),if_pos (dz _)]
   exact g9.fit
  ·rw [B5 (o0 hz),if_pos (dz _)]
   rfl
  ·rw [B5 (o0 hz),if_neg (by decide +kernel),if_neg (by decide +kernel),if_pos (dz _)]
   show(decide (ts.length<=4)&&((ts.map rwB).all id&&(kdB t5&&exB _)))=true
   rw [dt0 (by omega),mB,g5.fit,exl]
   rfl
inductive wy(K:W.Frag):Sp|mk{vs H Q E}(c o:Int)(m:Nat)(_:vs=[.int c,.int o,.int m])(_:m<=6)(_:∀H' v t,aM H H'->bz K H' v t->Pt t 160 6->(1<=m->m<=4->dcB t=true)->Q v H'):wy K vs H Q E
theorem sg{b:Tr->Bool}{ts:List Tr}(h:∀t∈ts,b t=true):(ts.map b).all id=true:=List.all_eq_true.mpr fun c hc=>by
 obtain⟨t,ht,rfl⟩:=List.mem_map.mp hc
 exact h t ht
abbrev dlN:List Str:=["_law_cell_here","_law_other","_law_many","_law_word","_law_seal","_law_fun","_law_formals"]
abbrev dlP:List Str:=["_law_cell_here","_law_other","_law_many"]
theorem jF:ax dlN dlP (ah i9):=mkS
theorem xh{f:Addr}{fd:FuncData} (F:Fun K "_law_declaration" "_law_declaration" i9 f fd) (cN:C0 P w K mg base 1 ["_law_cell_here"] jA "_law_name") (cK:C0 P w K mg base 2 ["_law_cell_here"] (lS K) "_law_kind") (cW:C0 P w K mg base 3 ["_law_cell_here"] (ub K) "_law_want") (cI:C0 P w K mg base 3 itP (rA K) "_law_items")
  (mt:mg "tuple"=none) (mr:mg "range"=none):aV P w K mg base CX0 4 f fd dlP (wy K):=by
 obtain⟨fn,fdn,GN,bN,kN,mN⟩:=cN
 obtain⟨fk,fdk,GK,bK,kK,mK⟩:=cK
 obtain⟨fw,fdw,GW,bW,kW,mW⟩:=cW
 obtain⟨fi,fdi,GI,bI,kI,mI⟩:=cI
 refine F.k0 jF fun cdv A q0 s H vs Q E hr h=>?_
 obtain⟨c,o,m,rfl,hm,q⟩:=h
 have hr1:bq 1 _:=hr.mono (by decide)
 have hr2:bq 2 _:=hr.mono (by decide)
 obtain⟨t2,d2,k2⟩:∃t2,PSs (dP CX0 P w K mg base dlN "_law_declaration" (ah i9) f cdv A q0 s H E).nox (List.drop 2 (ap i9)) t2/\∀(z:Str) (v:V) (tS:Tr) (H1:Hp),aM H H1->aA z=true->bz K H1 v tS->slB tS=true->Pt tS 14 4->t2 { nx:=fun _ H'=>Q .non H',rt:=Q } [some (.int c),some (.int o),some (.int m),some (.str z),some v,none,none] H1:=by
  refine⟨_,af (aF (am aZ (aB cg (pv 0) ag) ag (av _))
    (af (aS (i:=5) jF.nd (aE (aa ak (aa (pv 3) (aa (aL aI rfl mt aR (aa (jX (own:=["_law_k"]) (caps:=["_law_other"]) (κ:=[1]) rfl ⟨rfl,by decide +kernel,by decide +kernel,rfl,rfl,(fun y hy=>by obtain rfl:=List.mem_singleton.mp hy;rfl),(fun y hy=>by obtain rfl:=List.mem_singleton.mp hy;exact⟨.inl rfl,rfl,.inl rfl⟩)⟩ rfl
     (dN rfl mr (aa (pv 2) ac)) (fun _ _ _ _=>pg0 ["_law_k","_law_other"]) (fun _ _ _ _=>ai GK hr2 rfl mK kK bK .nil aC (aa (aB bj (pv 1) (aB ca (pv 0) ag)) ac))) ac)) (aa (ai GK hr2 rfl mK kK bK .nil aC (aa (aB bj (pv 1) ag) ac)) ac))))))
    (aj (ao (aE (aa ak (aa (pv 3) (aa (aE (aa ak (aa ak ac))) (aa (aE (aa ak (aa (ai GN hr1 rfl mN kN bN .nil aC (aa (pv 1) ac)) (aa (ai GK hr2 rfl mK kK bK .nil aC (aa (aB bj (pv 1) ag) ac)) ac)))) (aa (pv 5) ac))))))))) ar)
   (af (aF (am aZ (aB cg (pv 0) ag) ag (av _)) (aj (ao (aB cH (aE (aa ak (aa (pv 3) (aa (pv 4) ac)))) (ai GI hr rfl mI kI bI .nil aC (aa (pv 1) (aa (pv 2) ac)))))) ar)
   (af (aF (am aZ (aB cg (pv 0) ag) ag (av _))
    (af (aS (i:=6) jF.nd (aL aI rfl mt aR (aa (jX (own:=["_law_k"]) (caps:=["_law_other"]) (κ:=[1]) rfl ⟨rfl,by decide +kernel,by decide +kernel,rfl,rfl,(fun y hy=>by obtain rfl:=List.mem_singleton.mp hy;rfl),(fun y hy=>by obtain rfl:=List.mem_singleton.mp hy;exact⟨.inl rfl,rfl,.inl rfl⟩)⟩ rfl
     (dN rfl mr (aa (pv 2) ac)) (fun _ _ _ _=>pg0 ["_law_k","_law_other"]) (fun _ _ _ _=>aB (r:=tT K) cH (aE (aa (ix0 nP ak (pv 0)) ac)) (ai GW hr rfl mW kW bW .nil aC (aa (aB bj (pv 1) (aB ca (pv 0) ag)) ac)))) ac)))
    (aj (ao (aB cH (aE (aa ak (aa (pv 3) (aa (pv 6) (aa (pv 4) ac))))) (aH cx (ai GI hr rfl mI kI bI .nil aC (aa (aB bj (pv 1) ag) (aa ag ac))) (aP ag) aT))))) ar)
   (aj (ao (aB cH (aE (aa ak (aa (pv 3) (aa (ai GN hr1 rfl mN kN bN .nil aC (aa (pv 1) ac)) ac)))) (aL aI rfl mt aR (aa (jX (own:=["_law_k"]) (caps:=["_law_other"]) (κ:=[1]) rfl ⟨rfl,by decide +kernel,by decide +kernel,rfl,rfl,(fun y hy=>by obtain rfl:=List.mem_singleton.mp hy;rfl),(fun y hy=>by obtain rfl:=List.mem_singleton.mp hy;exact⟨.inl rfl,rfl,.inl rfl⟩)⟩ rfl
     (dN rfl mr (aa (pv 2) ac)) (fun _ _ _ _=>pg0 ["_law_k","_law_other"]) (fun _ _ _ _=>ai GN hr1 rfl mN kN bN .nil aC (aa (aB bj (pv 1) (aB ca (pv 0) ag)) ac))) ac))))))),?_⟩
  intro z v tS H1 s1 hz hv hS pS
  have mm:(0:Int) < 4:=by decide
  refine⟨_,rfl,_,_,rfl,rfl,mm,rfl,_,rfl,aO (fun _=>?_) (fun _=>?_)⟩
  ·refine⟨_,rfl,_,rfl,m,rfl,by omega,by omega,?_⟩
   rw [Int.toNat_natCast]
   refine jo (K:=K) Gk (by omega) ?_ ?_
   ·intro i H3 N B hi s3 hN
    exact⟨rfl,aY ⟨_,rfl,_,rfl,_,_,rfl,rfl,_,_,rfl,rfl,⟨by omega,by omega⟩,_,rfl,fun H4 v t s4 hv gk=>hN _ _ t s4 hv gk⟩⟩
   ·intro ys ts H3 D s3 tl hts pts hD
    have sD:=ae hD (.lst ys)
    refine⟨D,ys,rfl,.inl ⟨SqL.of ad,fun b4 hb4=>?_⟩⟩
    have s4:=ae hb4 (.tup ys)
    refine⟨_,rfl,_,_,rfl,rfl,⟨by decide,by decide⟩,_,rfl,fun H5 v5 t5 s5 hv5 g5=>⟨(sz 4),fun p6 hp6=>?_⟩⟩
    have s6:=ae hp6 (.tup [.str "fun",.str z,.ref b4,v5])
    refine⟨_,rfl,(sz 2),fun p7 hp7=>?_⟩
    have s7:=ae hp7 (.tup [.str "hid",.str "t"])
    refine⟨_,rfl,_,rfl,fun H8 z8 s8 hz8=>⟨_,rfl,_,_,rfl,rfl,⟨by decide,by decide⟩,_,rfl,fun H9 v9 t9 s9 hv9 g9=>⟨(sz 3),fun pa hpa=>⟨_,rfl,(sz 5),fun pb hpb=>?_⟩⟩⟩⟩
    have sa:=ae hpa (.tup [.str "told",.str z8,v9])
    have sb:=ae hpb (.tup [.str "face",.str z,.ref p7,.ref pa,.ref p6])
    have sab:=sa.trans sb
    have s7b:=s8.trans (s9.trans sab)
    have s6b:=s7.trans s7b
    have s5b:=s6.trans s6b
    have s4b:=s5.trans s5b
    refine q _ _ (.n [.w "face",.w z,.n [.w "hid",.w "t"],.n [.w "told",.w z8,t9],.n [.w "fun",.w z,.n ts,t5]]) (s1.trans (s3.trans (sD.trans (s4.trans s4b))))
     (.n ad (.cons (.w _) (.cons (.w _) (.cons (.n (s7b _ _ ad) (.cons (.w _) (.cons (.w _) .nil))) (.cons (.n (sb _ _ ad) (.cons (.w _) (.cons (.w _) (.cons (hv9.same sab) .nil)))) (.cons (.n (s6b _ _ ad) (.cons (.w _) (.cons (.w _) (.cons (.n (s4b _ _ ad) (hts.same (sD.trans (s4.trans s4b)))) (.cons (hv5.same s5b) .nil))))) .nil))))))
     ((cG (dL (by decide +kernel)) (aN (bv (cw hz)) (aN ((cG (d:=3) (dL (by decide +kernel)) (aN (bv (dL (by decide +kernel))) dv))) (aN (cG (dL (by decide +kernel)) (aN (bv (cw hz8)) (aN (g9.pt.le nr0 (by decide)) dv))) (aN (cG (dL (by decide +kernel)) (aN (bv (cw hz)) (aN (B6 (oJ fun t ht=>(pts t ht).pt)) (aN (g5.pt.le nr0 (by decide)) dv)))) dv))))).le (by rw [tl];omega) (by decide)) (fun _ m4=>?_)
    rw [AZ (o0 hz),if_pos (dz _)]
    refine sg (all_cons ?_ (all_cons ?_ (all_cons ?_ ni)))
    ·decide +kernel
    ·rw [Cf (o0 hz8),if_neg (by decide +kernel),if_pos (dz _)]
     exact g9.fit
    ·rw [Cf (o0 hz),if_neg (by decide +kernel),if_neg (by decide +kernel),if_pos (dz _)]
     show(decide (ts.length<=4)&&(kdB t5&&(ts.map kdB).all id))=true
     rw [dt0 (by omega),g5.fit,sg fun t ht=>(pts t ht).fit]
     rfl
  refine⟨_,rfl,_,_,rfl,rfl,mm,rfl,_,rfl,aO (fun _=>?_) (fun _=>?_)⟩
  ·refine⟨_,rfl,_,rfl,(sz 3),fun p2 hp2=>?_⟩
   have s2:=ae hp2 (.tup [.str "part",.str z,v])
   refine⟨_,rfl,_,rfl,o,m,rfl,hm,fun H3 p3 x1 x2 x3 t1 t2 t3 s3 hp3 hx1 hx2 hx3 b1 b2 b3 p1 p2' p3'=>?_⟩
   refine gB (s3 _ _ ad) hp3 (by simp) (by show 3+3<=1000;decide) fun H4 p4 s4 h4=>?_
   have s24:=s2.trans (s3.trans s4)
   refine q _ _ (.n [.w "part",.w z,tS,t1,t2,t3]) (s1.trans s24) (.n h4 (.cons (.w _) (.cons (.w _) (.cons (hv.same s24) (.cons (hx1.same s4) (.cons (hx2.same s4) (.cons (hx3.same s4) .nil)))))))
    ((cG (d:=5) (dL (by decide +kernel)) (aN (bv (cw hz)) (aN (pS.le nr0 (by decide)) (aN (p1.le nr0 (by decide)) (aN (p2'.le nr0 (by decide)) (aN p3' dv)))))).le (by omega) (by decide)) (fun _ m4=>?_)
   rw [AZ (o0 hz),if_neg (by decide +kernel),if_pos (dz _)]
   show(slB tS&&([t1,t2,t3].map piB).all id)=true
   rw [hS,sg (all_cons b1 (all_cons b2 (all_cons (b3 m4) ni)))]
   rfl
  refine⟨_,rfl,_,_,rfl,rfl,mm,rfl,_,rfl,aO (fun _=>?_) (fun _=>?_)⟩
  ·refine⟨_,rfl,m,rfl,by omega,by omega,?_⟩
   rw [Int.toNat_natCast]
   refine jo (K:=K) (fun t=>foB t=true/\Pt t 15 4) (by omega) ?_ ?_
   ·intro i H3 N B hi s3 hN
    obtain⟨g,eg⟩:=lX (xs:=abS.cps.toList) (i:=(0+(i:Int))) (by omega) (by show 0+(i:Int) < 6;omega)
    have ng:=yz g (jP eg)
    refine⟨rfl,aY ⟨_,rfl,abS,_,g,rfl,rfl,by decide +kernel,eg,(sz 1),fun p4 hp4=>?_⟩⟩
    have s4:=ae hp4 (.tup [.str ⟨#[g]⟩])
    refine⟨_,rfl,_,rfl,_,_,rfl,rfl,_,_,rfl,rfl,⟨by omega,by omega⟩,_,rfl,fun H5 p5 xs ts s5 hp5 hxs hrf pz l2=>?_⟩
    have xl:=hxs.length
    refine gB (s5 _ _ ad) hp5 (by simp) (by show 1+xs.length<=1000;omega) fun H6 p6 s6 h6=>?_
    refine hN _ _ (.n (.w ⟨#[g]⟩::ts)) (s4.trans (s5.trans s6)) (.n h6 (.cons (.w _) (hxs.same s6))) ⟨?_,cG (cw ng) pz⟩
    rw [Cp,o0 ng,hrf]
    rfl
   ·intro ys ts H3 D s3 tl hts pts hD
    have sD:=ae hD (.lst ys)
    refine⟨D,ys,rfl,.inl ⟨SqL.of ad,fun b4 hb4=>?_⟩⟩
    have s4:=ae hb4 (.tup ys)
    refine⟨_,rfl,_,rfl,_,rfl,(sz 4),fun p5 hp5=>?_⟩
    have s5:=ae hp5 (.tup [.str "maker",.str z,.ref b4,v])
    refine⟨_,rfl,_,_,rfl,rfl,⟨by decide,by decide⟩,_,2,rfl,by decide,fun H6 p6 x1 x2 x3 t1 t2 t3 s6 hp6 hx1 hx2 hx3 b1 b2 b3 p1 p2' p3'=>?_⟩
    refine⟨_,rfl,p6,_,rfl,SqT.of hp6,ba (k:=1) nr0 (by simp),fun p7 hp7=>?_⟩
    have s7:=ae hp7 (.tup (dc [x1,x2,x3] (some 1) none))
    have h7:upd H6 p7 (.tup (dc [x1,x2,x3] (some 1) none)) p7=some (.tup [x2,x3]):=iq 1 H6
    refine gB ((s6.trans s7) _ _ ad) h7 (by simp) (by show 4+2<=1000;decide) fun H8 p8 s8 h8=>?_
    have s78:=s7.trans s8
    have s58:=s5.trans (s6.trans s78)
    have S:=s3.trans (sD.trans (s4.trans s58))
    refine q _ _ (.n [.w "maker",.w z,.n ts,tS,t2,t3]) (s1.trans S) (.n h8 (.cons (.w _) (.cons (.w _) (.cons (.n (s58 _ _ ad) (hts.same (sD.trans (s4.trans s58)))) (.cons (hv.same S) (.cons (hx2.same s78) (.cons (hx3.same s78) .nil)))))))
     ((cG (d:=5) (dL (by decide +kernel)) (aN (bv (cw hz)) (aN (B6 (oJ fun t ht=>(pts t ht).2)) (aN (pS.le nr0 (by decide)) (aN (p2'.le nr0 (by decide)) (aN p3' dv)))))).le (by rw [tl];omega) (by decide)) (fun m1 m4=>?_)
    rw [AZ (o0 hz),if_neg (by decide +kernel),if_neg (by decide +kernel),if_neg (by decide +kernel),if_pos (dz _)]
    show(decide (1<=ts.length/\ts.length<=4)&&((ts.map foB).all id&&(slB tS&&([t2,t3].map piB).all id)))=true
    rw [dt0 (by omega),hS,sg fun t ht=>(pts t ht).1,sg (all_cons b2 (all_cons (b3 (by decide)) ni))]
    rfl
  ·refine⟨_,rfl,_,rfl,_,rfl,fun H2 z2 s2 hz2=>⟨(sz 3),fun p3 hp3=>?_⟩⟩
   have s3:=ae hp3 (.tup [.str "made",.str z,.str z2])
   refine⟨_,rfl,m,rfl,by omega,by omega,?_⟩
   rw [Int.toNat_natCast]
   refine jo (K:=K) (fun t=>nmB t=true/\Pt t 1 0) (by omega) ?_ ?_
   ·intro i H3 N B hi s3 hN
    exact⟨rfl,aY ⟨_,rfl,_,rfl,_,_,rfl,rfl,_,_,rfl,rfl,⟨by omega,by omega⟩,_,rfl,fun H4 z s4 hz=>hN _ _ (.w z) s4 (.w _) ⟨o0 hz,bv (cw hz)⟩⟩⟩
   ·intro ys ts H4 D s4 tl hts pts hD
    have sD:=ae hD (.lst ys)
    have yl:=hts.length
    refine⟨D,ys,rfl,.inl ⟨SqL.of ad,fun b5 hb5=>?_⟩⟩
    have s5:=ae hb5 (.tup ys)
    have s45:=s4.trans (sD.trans s5)
    refine gB (s45 _ _ ad) ad (by simp) (by show 3+ys.length<=1000;omega) fun H6 p6 s6 h6=>?_
    refine q _ _ (.n (.w "made"::.w z::.w z2::ts)) (s1.trans (s2.trans (s3.trans (s45.trans s6)))) (.n h6 (.cons (.w _) (.cons (.w _) (.cons (.w _) (hts.same (sD.trans (s5.trans s6)))))))
     ((cG (d:=0) (dL (by decide +kernel)) (aN (bv (cw hz)) (aN (bv (cw hz2)) (oJ fun t ht=>(pts t ht).2)))).le (by rw [tl];omega) (by decide)) (fun m1 m4=>?_)
    rw [AZ (o0 hz),if_neg (by decide +kernel),if_neg (by decide +kernel),if_pos (dz _)]
    match ts,tl,pts with
    |[],tl,_=>rw [<-tl] at m1;exact absurd m1 (by decide)
    |t::ts,_,pts=>exact sg (all_cons (o0 hz2) fun t ht=>(pts t ht).1)
 refine⟨_,@af _ _ _ _ _ (aS (i:=3) jF.nd (ai GN hr1 rfl mN kN bN .nil aC (aa (aB bj (pv 0) ag) ac)))
  (@af _ _ _ _ _ (aS (i:=4) jF.nd (ix0 bd (cc (aa ak (aa (ai GW hr rfl mW kW bW .nil aC (aa (aB bj (pv 1) ag) ac)) ac))) (aB cg (pv 1) ag))) @d2),?_⟩
 refine⟨_,rfl,_,_,rfl,rfl,⟨by decide,by decide⟩,_,rfl,fun H1 z s1 hz=>?_⟩
 refine⟨_,rfl,_,_,rfl,rfl,⟨by decide,by decide⟩,_,rfl,fun H2 p2 xs ts s2 hp2 hxs hrf pz l2=>⟨(sz 2),fun l hl=>?_⟩⟩
 have s3:=ae hl (.lst [.str "bare",.ref p2])
 obtain⟨v,t,hv,ht,b,pt⟩:∃v t,atI [V.str "bare",V.ref p2] (o%2)=some v/\bz K (upd H2 l (.lst [.str "bare",.ref p2])) v t/\slB t=true/\Pt t 14 4:=by
  have r:o%2=0\/o%2=1:=by omega
  rcases r with r|r<;>rw [r]
  ·exact⟨_,.w "bare",rfl,.w _,by decide +kernel,(bv (d:=0) (dL (by decide +kernel))).le (by decide) (by decide)⟩
  ·exact⟨_,.n ts,rfl,.n (s3 _ _ hp2) (hxs.same s3),(show((si ts).map some).isSome=true by rw [Option.isSome_map];exact hrf),B6 pz⟩
 exact⟨_,rfl,_,_,rfl,rfl,(by show(0:Int) < 2;decide),l,_,_,v,rfl,rfl,SqL.of ad,hv,k2 z v t _ (s1.trans (s2.trans s3)) hz ht b pt⟩
theorem Bl:∀(ps:List (List Nat)) (b:Bool) (c:Nat),c∈w1 b ps->c=32\/∃p∈ps,c∈p
 |[],_,c,h=>by cases h
 |p::r,b,c,h=>by
  rw [w1] at h
  rcases List.mem_append.mp h with h|h
  ·rcases List.mem_append.mp h with h|h
   ·split at h
    ·cases h
    ·exact .inl (List.mem_singleton.mp h)
   ·exact .inr ⟨p,.head _,h⟩
  ·rcases Bl r _ c h with h|⟨q,hq,hc⟩
   ·exact .inl h
   ·exact .inr ⟨q,.tail _ hq,hc⟩
theorem qc{t:Tr}(h:t.ok)(tok:∀p∈t.flat,lK p):∀c∈t.text,c < 0x110000:=fun c hc=>by
 rw [<-uW h] at hc
 rcases Bl _ _ c hc with rfl|⟨p,hp,hcp⟩
 ·decide
 ·exact(tok p hp).2.2 c hcp
theorem qV:∀{ts:List Tr},oks ts->(∀p∈aD ts,lK p)->∀c∈fO ts,c < 0x110000
 |[],_,_,c,hc=>nomatch hc
 |[t],h,tok,c,hc=>qc h.1 (fun p hp=>tok p (hJ (.head _) p hp)) c hc
 |t::u::r,h,tok,c,hc=>by
  rcases List.mem_append.mp (show c∈t.text++10::fO (u::r) from hc) with hc|hc
  ·exact qc h.1 (fun p hp=>tok p (hJ (.head _) p hp)) c hc
  ·rcases mc0 hc with rfl|hc
   ·decide
   ·exact qV (ts:=u::r) h.2 (fun p hp=>tok p (List.mem_append_right _ hp)) c hc
theorem wL:∀{ts:List Tr} {t:Tr},oks ts->t∈ts->t.ok
 |u::r,t,h,hm=>by
  rcases mc0 hm with rfl|z
  ·exact h.1
  ·exact wL h.2 z
theorem zb{y:Str}{l:List Nat}(h:∀c∈l,c < 0x110000)(e:cps y=l):PyData.strOk y=true:=(mJ y).mpr fun c hc=>h c (by rw [<-e];exact hc)
theorem gS{t:Tr}(h:(∀p∈t.flat,lK p)):t.text.length<=28*t.flat.length:=by
 have h1:=iW t
 have h2:=vC (ps:=t.flat) fun p hp=>(h p hp).1
 have h3:=qg t
 omega
def ge(a:Str)(o:Option Str):PyData:=.tuple [.str a,match o with|some y=>.str y|none=>.none]
theorem hX(a:Str)(o:Option Str):PyData.eqv (ge a o) (ge a o)=true:=by
 unfold ge
 cases o with
 |none=>simp [PyData.eqv,PyData.eqvAll]
 |some y=>simp [PyData.eqv,PyData.eqvAll]
theorem mx{a:Str}{o:Option Str}(ha:PyData.strOk a=true)(ho:∀y,o=some y->PyData.strOk y=true):SeqAt.shaped (ge a o)=true:=by
 unfold SeqAt.shaped ge
 cases o with
 |none=>simp [PyData.canLay0,PyData.canLayAll0,ha,PyData.depth,PyData.depthAll]
 |some y=>simp [PyData.canLay0,PyData.canLayAll0,ha,ho y rfl,PyData.depth,PyData.depthAll]
theorem eR{K:W.Frag}{H:Hp}{p:Addr}{a:Str}{o:Option Str}(h:H p=some (.tup [.str a,A2 o])):Dat K H (.ref p) (ge a o):=by
 cases o with
 |none=>exact .tup (SqT.of h) (.cons (.str a) (.cons .non .nil))
 |some y=>exact .tup (SqT.of h) (.cons (.str a) (.cons (.str y) .nil))
theorem qZ{n:Nat}(h:n<=1000000):n<=sizeLine:=Nat.le_of_lt (mid h)
structure nv(us:List Str)(n:Nat):Prop where
 len:us.length<=n
 tok:∀s∈us,pH s
 hg:hgt 0 (us.map cps)=some 0
theorem nv.tokc{us:List Str}{n:Nat}(h:nv us n):∀p∈us.map cps,lK p:=fun p hp=>by
 obtain⟨s,hs,rfl⟩:=List.mem_map.mp hp
 have:=h.tok s hs
 exact⟨by rw [bG];exact this.1,this.2⟩
theorem nv.sms{us:List Str}{n:Nat}(h:nv us n)(hn:n<=400){ts:List Tr}(ho:oks ts)(hf:aD ts=us.map cps):Sms ts :=
 ⟨by rw [hf];exact h.tokc,by rw [hf,lm0];have:=h.len;omega,u8 ho (by rw [hf];exact h.hg)⟩
theorem nv.tx{us:List Str}{n:Nat}(h:nv us n)(hn:n<=400){z:Str}(hz:Tk.toks (cps z)=us.map cps)(hl:z.length<=20000):xn z :=
 ⟨hl,by rw [hz];exact h.tokc,by rw [hz,lm0];have:=h.len;omega⟩
theorem CG{ws:List Str}{t:Tr}(e:ws.map cps=t.flat)(tok:∀p∈t.flat,lK p):∀s∈ws,pH s:=fun s hs=>by
 have:=tok (cps s) (by rw [<-e];exact List.mem_map_of_mem hs)
 exact⟨by rw [<-bG];exact this.1,this.2⟩
theorem nv.app{us ws:List Str}{n m:Nat}(h:nv us n)(r:nv ws m):nv (us++ws) (n+m):=by
 refine⟨by rw [la0];exact Nat.add_le_add h.len r.len,fun s hs=>?_,?_⟩
 ·rcases List.mem_append.mp hs with hs|hs
  ·exact h.tok s hs
  ·exact r.tok s hs
 ·rw [ma0,iF,h.hg]
  exact r.hg
structure TrL(H:Hp)(p:Addr)(ws:List Str)(t:Tr):Prop where
 pl:H p=some (.lst (ws.map V.str))
 fl:ws.map cps=t.flat
 pt:Pt t 160 6
theorem TrL.same{H H':Hp}{p:Addr}{ws:List Str}{t:Tr}(g:TrL H p ws t)(s:aM H H'):TrL H' p ws t:=⟨s _ _ g.pl,g.fl,g.pt⟩
theorem TrL.tk{H:Hp}{p:Addr}{ws:List Str}{t:Tr}(g:TrL H p ws t):nv ws 160/\Bal 6 (ws.map cps)/\1<=ws.length:=by
 have hb:Bal 6 (ws.map cps):=by rw [g.fl];exact(xf g.pt.ok).monos g.pt.dep
 have hl:ws.length=t.flat.length:=by rw [<-g.fl,lm0]
 exact⟨⟨by rw [hl];exact g.pt.len,CG g.fl g.pt.tok,hb.hgt (by decide)⟩,hb,by rw [hl];exact lD t⟩
theorem BD(ts:List Tr):(vE ts).isSome=(ts.map dcB).all id:=ck ts
def AT(t0:Tr)(us:List Str)(h0:Str)(o:Option Str):Prop:=∃ts,oks ts/\aD ts=us.map cps/\(((vE (t0::ts)).isSome=true/\h0=""/\∃y,o=some y/\cps y=fO (t0::ts))\/(vE (t0::ts)=none/\h0="form"/\o=none))
inductive AE(K:W.Frag):Sp|mk{vs H Q E}(p1 p2:Addr)(ws us:List Str)(t0:Tr)(_:vs=[.ref p1,.ref p2])(_:TrL H p1 ws t0)(_:dcB t0=true)(_:H p2=some (.lst (us.map V.str)))(_:nv us 162)(_:∀H' (p:Addr) h0 o,aM H H'->H' p=some (.tup [.str h0,A2 o])->AT t0 us h0 o->Q (.ref p) H'):AE K vs H Q E
abbrev duN:List Str:=["_law_first","_law_tokens_here","_law_trees_here"]
abbrev duP:List Str:=["_law_first","_law_tokens_here"]
theorem Br:ax duN duP (ah AR):=mkS
theorem A4{f:Addr}{fd:FuncData} (F:Fun K "_law_due" "_law_due" AR f fd) (cT:C0 P w K mg base 1 ["_law_tokens_here"] (nr K) "_law_trees") (cD:C0 P w K mg base 38 ["_law_tree"] (gW K dcB) "_law_is_declaration") (cW:C0 P w K mg base 1 ["_law_tokens_here"] (hZ K) "_law_written") (cO:C0 P w K mg base 31 ["_law_tree"] (mZ K 31) "_law_tokens")
  (mall:mg "all"=none):aV P w K mg base CX0 39 f fd duP (AE K):=by
 obtain⟨ft,fdt,GT,bT,kT,mT⟩:=cT
 obtain⟨fk,fdk,GK,bK,kK,mK⟩:=cD
 obtain⟨fw,fdw,GW,bW,kW,mW⟩:=cW
 obtain⟨fo,fdo,GO,bO,kO,mO⟩:=cO
 refine F.k0 Br fun cdv A q0 s H vs Q E hr h=>?_
 obtain⟨p1,p2,ws,us,t0,rfl,G,d0,hp2,T,q⟩:=h
 have hr1:bq 1 _:=hr.mono (by decide)
 have hr31:bq 31 _:=hr.mono (by decide)
 refine⟨_,af (aS (i:=2) Br.nd (ai GT hr1 rfl mT kT bT .nil aC (aa (pv 1) ac)))
  (af (aF (dk (bt (aq (bV rfl) rfl mall dq (aa (bi (own:=["_law_tree"]) (eV (pv 2))
   (fun _ _ _ _=>pg0 ["_law_tree"]) (fun _ _ _ _=>ai GK hr rfl mK kK bK .nil aC (aa (pv 0) ac))) ac)))) (aj (ao (aE (aa ak (aa dW ac))))) ar)
  (aj (ao (aE (aa ak (aa (eU PySem.F.plainAttrs_str PySem.F.slot_str_join PySem.F.type_str_join o6 ak (aa (aB du (cc (aa (ai GW hr1 rfl mW kW bW .nil aC (aa (pv 0) ac)) ac)) (bi (own:=["_law_tree"]) (eV (pv 2))
   (fun _ _ _ _=>pg0 ["_law_tree"]) (fun _ _ _ _=>ai GW hr1 rfl mW kW bW .nil aC (aa (ai GO hr31 rfl mO kO bO .nil aC (aa (pv 0) ac)) ac)))) ac)) ac)))))),?_⟩
 have ul:=T.len
 obtain⟨gk,_,_⟩:=G.tk
 have wl:=gk.len
 refine⟨_,rfl,p2,us,rfl,SqL.of hp2,by omega,T.tok,T.hg,fun H2 px xs ts s2 hpx hxs ho hf=>?_⟩
 have sm:=T.sms (by decide) ho hf
 have xl:=hxs.length
 have cl:=sm.count
 have eB:(vE (t0::ts)).isSome=(ts.map dcB).all id:=by
  rw [BD]
  show(dcB t0&&(ts.map dcB).all id)=_
  rw [d0,Bool.true_and]
 refine⟨_,rfl,px,rfl,⟨_,SqL.of hpx⟩,?_⟩
 refine wH (b:=dcB) hpx hxs sm ?_ fun H3 A s3 hA=>⟨A,ts.map dcB,rfl,SqL.of ad,_,rfl,?_⟩
 ·intro o t H3 N B ho smt s3 hN
  exact⟨rfl,aY ⟨_,rfl,o,t,rfl,ho,smt,hN⟩⟩
 have s03:=s2.trans (s3.trans (ae hA (.lst ((ts.map dcB).map V.bl))))
 have s23:=s3.trans (ae hA (.lst ((ts.map dcB).map V.bl)))
 cases e:(ts.map dcB).all id with
 |false =>
  refine bU ⟨(sz 2),fun p5 hp5=>q _ p5 "form" none (s03.trans (ae hp5 _)) ad ⟨ts,ho,hf,.inr ⟨?_,rfl,rfl⟩⟩⟩
  rw [e] at eB
  cases e2:vE (t0::ts) with
  |none=>rfl
  |some d=>rw [e2] at eB;cases eB
 |true =>
  rw [e] at eB
  have G3:=G.same s03
  have tx0:=gS G.pt.tok
  have tl0:=G.pt.len
  refine bx ⟨rfl,_,rfl,p1,ws,t0,rfl,SqL.of G3.pl,G3.fl,G3.pt.ok,by omega,by omega,fun zf ezf=>⟨(sz 1),fun l1 hl1=>?_⟩⟩
  have s4:=ae hl1 (.lst [.str zf])
  have s24:=s23.trans s4
  refine⟨_,rfl,px,rfl,⟨_,SqL.of (s24 _ _ hpx)⟩,?_⟩
  have hpx4:=s24 _ _ hpx
  have hxs4:=hxs.same s24
  have fl:(aD ts).length<=162:=by rw [hf,lm0];exact ul
  refine cQ (J:=Itl K px) (xs:=xs) (fun n ys H5=>aM _ H5/\∃zs:List Str,ys=zs.map V.str/\zs.length=n/\zs.map cps=(ts.take n).map Tr.text) ⟨sr0,[],rfl,rfl,rfl⟩ (de (by omega)) ?_ ?_ ?_ ?_ ?_ ?_
  ·rintro n ys H5 ⟨_,zs,rfl,h,_⟩
   rw [lm0]
   exact Nat.le_of_eq h
  ·rintro n u ys H5 hu ⟨s5,_⟩
   exact⟨_,_,SqL.of (s5 _ _ hpx4),hu⟩
  ·rintro n ys u H5 H' hn ⟨s5,_⟩ hy
   exact⟨hy.1,hy.2 _ (SqL.of (s5 _ _ hpx4))⟩
  ·rintro ys H5 ⟨s5,_⟩
   exact⟨_,SqL.of (s5 _ _ hpx4),Nat.le_refl _⟩
  ·rintro n u ys H5 N hN hu ⟨s5,zs,rfl,hz,hzs⟩
   obtain⟨t,ht,hat⟩:=hxs4.get hu
   have hm:=List.mem_of_getElem? ht
   have smt:=sm.mem hm
   have ft:=(gO hm).1
   have tx:=gS smt.tok
   refine⟨rfl,aY ⟨_,rfl,u,t,rfl,hat.same s5,smt.dp,by omega,fun H6 l6 w6 s6 _ hl6 hw6=>?_⟩⟩
   have w6l:w6.length=t.flat.length:=by rw [<-hw6,lm0]
   refine⟨l6,w6,t,rfl,SqL.of hl6,hw6,wL ho hm,by omega,by omega,fun z ez=>hN _ _ ⟨s5.trans s6,zs++[z],?_,?_,?_⟩⟩
   ·rw [ma0]
    rfl
   ·rw [la0,hz]
    rfl
   ·rw [ma0,hzs,List.take_add_one,ht,ma0]
    exact congrArg (_++[·]) ez
  ·rintro ys H5 D ⟨s5,zs,rfl,hz,hzs⟩ hD
   rw [xl,List.take_length] at hzs
   have sD:=ae hD (.lst (zs.map V.str))
   have zl:zs.length=ts.length:=by rw [hz,xl]
   refine⟨l1,D,_,_,rfl,rfl,(s5.trans sD) _ _ ad,ad,de (by show 1+(zs.map V.str).length<=1000;rw [lm0];omega),fun l6 hl6=>?_⟩
   have s6:=ae hl6 (.lst ([.str zf]++zs.map V.str))
   have e1:(Str.ofString "\n").length=1:=by decide +kernel
   have zt:(zf::zs).map cps=(t0::ts).map Tr.text:=by rw [List.map_cons,List.map_cons,hzs,ezf]
   have sm2:((zf::zs).map (·.length)).sum=(((t0::ts).map Tr.text).map List.length).sum:=by
    rw [<-zt,List.map_map]
    congr 1
   have big:∀l:List Tr,(∀t∈l,t.text.length<=20000)->((l.map Tr.text).map List.length).sum<=20000*l.length:=fun l hl=>by
    induction l with
    |nil=>exact Nat.le_refl _
    |cons t l ih =>
     have h1:=hl t (.head _)
     have h2:=ih fun u hu=>hl u (.tail _ hu)
     show t.text.length+((l.map Tr.text).map List.length).sum<=20000*(l.length+1)
     omega
   have b2:=big (t0::ts) (all_cons (by omega) fun t ht=>by have:=gS (sm.mem ht).tok;have:=(sm.mem ht).len;omega)
   have cl2:(t0::ts).length=ts.length+1:=rfl
   refine⟨_,l6,zf::zs,rfl,rfl,SqL.of ad,?_,(sz 2),fun p7 hp7=>?_⟩
   ·rw [sm2,e1,lc0,zl]
    omega
   ·refine q _ p7 "" (some (Txt.join "\n" (zf::zs))) (s03.trans (s4.trans (s5.trans (sD.trans (s6.trans (ae hp7 _)))))) ad ⟨ts,ho,hf,.inl ⟨eB,rfl,_,rfl,?_⟩⟩
    rw [mf,zt]
    exact iE (t0::ts)
inductive yi(K:W.Frag):Sp|mk{vs H Q E}(a:Addr)(ns:List Int)(_:vs=[.ref a])(_:SqL K H a (ns.map V.int))(_:ns.length<=63)(_:∀H',Q (.bl true) H'):yi K vs H Q E
theorem uK{t0:Tr}{us:List Str}{h0 z:Str}{o:Option Str}(d:AT t0 us h0 o)(ok:t0.ok)(hz:Tk.toks (cps z)=t0.flat++us.map cps)(hg:hgt 0 (Tk.toks (cps z))=some 0):Res z h0 o:=by
 obtain⟨ts,ho,hf,h⟩:=d
 exact .inr ⟨hg,t0::ts,⟨ok,ho⟩,by rw [hz,<-hf];rfl,h⟩
theorem yC{t0:Tr}{us:List Str}{h0:Str}{o:Option Str}(d:AT t0 us h0 o)(pt:Pt t0 160 6)(T:nv us 162):SeqAt.shaped (ge h0 o)=true:=by
 obtain⟨ts,ho,hf,h⟩:=d
 have tok:∀p∈aD (t0::ts),lK p:=fun p hp=>by
  rcases List.mem_append.mp (show p∈t0.flat++aD ts from hp) with hp|hp
  ·exact pt.tok p hp
  ·rw [hf] at hp
   exact T.tokc p hp
 rcases h with ⟨_,rfl,y,rfl,ey⟩|⟨_,rfl,rfl⟩
 ·exact mx (by decide +kernel) fun y' e=>by cases e;exact zb (qV (ts:=t0::ts) ⟨pt.ok,ho⟩ tok) ey
 ·exact mx (by decide +kernel) fun y' e=>by cases e
abbrev lwN:List Str:=["_law_script","_law_many","_law_first","_law_good","_law_tokens_here","_law_k","_law_cell_here","_law_tree","_law_text","_law_due_here","_law_unspoiled"]
theorem jj:ax lwN ["_law_script"] (ah rp):=mkS
abbrev lwX(P:Program)(w:World)(K:W.Frag)(mg:Str->Option Value)(base:Heap)(f:Addr)(cdv:Value)(A:Around)(q0:List Env)(s:Shared)(H:Hp)(E:XK):Cx:=(dP CX0 P w K mg base lwN "law" (ah rp) f cdv A q0 s H E).nox
structure Gx(K:W.Frag)(H:Hp)(a:Addr)(ns:List Int)(pf pg:Addr)(wf wg:List Str)(t0 tg:Tr):Prop where
 sc:SqL K H a (ns.map V.int)
 f:TrL H pf wf t0
 g:TrL H pg wg tg
 d:dcB t0=true
theorem Gx.same{H H':Hp}{a:Addr}{ns:List Int}{pf pg:Addr}{wf wg:List Str}{t0 tg:Tr}(G:Gx K H a ns pf pg wf wg t0 tg)(s:aM H H'):Gx K H' a ns pf pg wf wg t0 tg:=⟨s.seq G.sc,G.f.same s,G.g.same s,G.d⟩
theorem C4{f:Addr}{cdv:Value}{A:Around}{q0:List Env}{s:Shared}{H:Hp}{E:XK}{Q:VK}(hr:bq 104 (lwX P w K mg base f cdv A q0 s H E).A)
  (cR:C0 P w K mg base 104 ["_law_text"] (uo K) "_law_read") (cD:C0 P w K mg base 39 duP (AE K) "_law_due") (cW:C0 P w K mg base 1 ["_law_tokens_here"] (hZ K) "_law_written")
  (q:∀H',Q (.bl true) H'):∃t,PSs (lwX P w K mg base f cdv A q0 s H E) (List.drop 7 (ap rp)) t /\
   ∀(H1:Hp) (a:Addr) (ns:List Int) (v1 v5 v6 v7:Option V) (pf pg pt pd:Addr) (wf wg us:List Str) (t0 tg:Tr) (z h0:Str) (o:Option Str),Gx K H1 a ns pf pg wf wg t0 tg->nv us 162->Tk.toks (cps z)=(wf++us).map cps->z.length<=12000->H1 pd=some (.tup [.str h0,A2 o])->AT t0 us h0 o ->
    t { nx:=fun _ H'=>Q .non H',rt:=Q } [some (.ref a),v1,some (.ref pf),some (.ref pg),some (.ref pt),v5,v6,v7,some (.str z),some (.ref pd),none] H1:=by
 obtain⟨fr,fdr,GR,bR,kR,mR⟩:=cR
 obtain⟨fd',fdd,GD,bD,kD,mD⟩:=cD
 obtain⟨fw,fdw,GW,bW,kW,mW⟩:=cW
 have hr1:bq 1 (lwX P w K mg base f cdv A q0 s H E).A:=hr.mono (by decide)
 have hr39:bq 39 (lwX P w K mg base f cdv A q0 s H E).A:=hr.mono (by decide)
 have hu:=hr.units
 have one1:(Str.ofString "(").length=1:=by decide +kernel
 have one2:(Str.ofString " )").length=2:=by decide +kernel
 have one3:(Str.ofString "\n").length=1:=by decide +kernel
 obtain⟨t8,d8,k8⟩:∃t,PSs (lwX P w K mg base f cdv A q0 s H E) (List.drop 8 (ap rp)) t /\
   ∀(H1:Hp) (a:Addr) (ns:List Int) (v1 v5 v6 v7:Option V) (pf pg pt pd:Addr) (wf wg us:List Str) (t0 tg:Tr) (z h0:Str) (o:Option Str),Gx K H1 a ns pf pg wf wg t0 tg->xn z->Res z h0 o->H1 pd=some (.tup [.str h0,A2 o])->SeqAt.shaped (ge h0 o)=true ->
    t { nx:=fun _ H'=>Q .non H',rt:=Q } [some (.ref a),v1,some (.ref pf),some (.ref pg),some (.ref pt),v5,v6,v7,some (.str z),some (.ref pd),none] H1:=by
  refine⟨_,af (aS (i:=10) jj.nd (aB bu (aB bu (ai GW hr1 rfl mW kW bW .nil aC (aa (pv 2) ac)) ak) (ai GW hr1 rfl mW kW bW .nil aC (aa (pv 3) ac))))
   (af (aF (PW.pt (dl (am (kQ hu) (ai GR hr rfl mR kR bR .nil aC (aa (pv 10) ac)) (ai GD hr39 rfl mD kD bD .nil aC (aa (pv 2) (aa (pv 3) ac))) (av _)) (eC (am (kQ hu) (ai GR hr rfl mR kR bR .nil aC (aa (ai GW hr1 rfl mW kW bW .nil aC (aa (pv 2) ac)) ac)) (aE (aa ak (aa (ai GW hr1 rfl mW kW bW .nil aC (aa (pv 2) ac)) ac))) (av _))))) (aj (ao fR)) ar)
   (aj (ao (cv (dY hu) (ai GR hr rfl mR kR bR .nil aC (aa (pv 8) ac)) (pv 9) (av _))))),?_⟩
  intro H1 a ns v1 v5 v6 v7 pf pg pt pd wf wg us t0 tg z h0 o G txz res hd shd
  have pf0:=G.f.pt
  have pg0:=G.g.pt
  obtain⟨kf,_,_⟩:=G.f.tk
  obtain⟨kg,_,_⟩:=G.g.tk
  have wfl:=kf.len
  have wgl:=kg.len
  have lf:=gS pf0.tok
  have lg:=gS pg0.tok
  have nf:=pf0.len
  have ng:=pg0.len
  refine⟨_,rfl,pf,wf,t0,rfl,SqL.of G.f.pl,G.f.fl,pf0.ok,by omega,by omega,fun zf ezf=>?_⟩
  have lzf:zf.length=t0.text.length:=by rw [<-bG,ezf]
  refine⟨zf,_,rfl,rfl,qZ (by rw [one3];omega),?_⟩
  refine⟨_,rfl,pg,wg,tg,rfl,SqL.of G.g.pl,G.g.fl,pg0.ok,by omega,by omega,fun zg ezg=>?_⟩
  have lzg:zg.length=tg.text.length:=by rw [<-bG,ezg]
  refine⟨_,zg,rfl,rfl,qZ (by rw [dF,one3];omega),?_⟩
  have cu:cps ((zf++Str.ofString "\n")++zg)=fO [t0,tg]:=by
   rw [dg,dg,ezf,ezg]
   show(t0.text++[10])++tg.text=t0.text++10::tg.text
   rw [List.append_assoc]
   rfl
  have tu:Tk.toks (cps ((zf++Str.ofString "\n")++zg))=t0.flat++wg.map cps:=by
   rw [cu,lp (ts:=[t0,tg]) ⟨pf0.ok,pg0.ok,True.intro⟩,G.g.fl]
   show t0.flat++(tg.flat++[])=_
   rw [List.append_nil]
  have tu':Tk.toks (cps ((zf++Str.ofString "\n")++zg))=(wf++wg).map cps:=by rw [tu,ma0,G.f.fl]
  have gu:hgt 0 (Tk.toks (cps ((zf++Str.ofString "\n")++zg)))=some 0:=by rw [tu'];exact(kf.app kg).hg
  have kg2:nv wg 162:=⟨by omega,kg.tok,kg.hg⟩
  obtain⟨h1,o1,d1⟩:∃h1 o1,AT t0 wg h1 o1:=by
   have hf:aD [tg]=wg.map cps:=by
    rw [G.g.fl]
    show tg.flat++[]=_
    rw [List.append_nil]
   cases e:vE (t0::[tg]) with
   |none=>exact⟨"form",none,[tg],⟨pg0.ok,True.intro⟩,hf,.inr ⟨e,rfl,rfl⟩⟩
   |some d=>exact⟨"",some ((zf++Str.ofString "\n")++zg),[tg],⟨pg0.ok,True.intro⟩,hf,.inl ⟨by rw [e];rfl,rfl,_,rfl,cu⟩⟩
  have uniq:∀h2 o2,AT t0 wg h2 o2->h2=h1/\o2=o1:=fun h2 o2 d2=>by
   obtain⟨ts,ho,hf,h⟩:=d1
   obtain⟨ts',ho',hf',h'⟩:=d2
   obtain rfl:ts'=ts:=gG ho' ho (by rw [hf',hf])
   rcases h with ⟨e,rfl,y,rfl,ey⟩|⟨e,rfl,rfl⟩<;>rcases h' with ⟨e',rfl,y',rfl,ey'⟩|⟨e',rfl,rfl⟩
   ·exact⟨rfl,by rw [Tk.lst_inj (ey'.trans ey.symm)]⟩
   ·rw [e'] at e;cases e
   ·rw [e] at e';cases e'
   ·exact⟨rfl,rfl⟩
  refine⟨_,rfl,_,h1,o1,rfl,(kf.app kg).tx (by decide) tu' (by rw [dF,dF,one3];omega),uK d1 pf0.ok tu gu,fun H2 p2 s2 hp2=>?_⟩
  refine⟨_,rfl,_,rfl,pf,pg,wf,wg,t0,rfl,(G.same s2).f,G.d,(G.same s2).g.pl,kg2,fun H3 p3 h3 o3 s3 hp3 d3=>?_⟩
  obtain⟨rfl,rfl⟩:=uniq h3 o3 d3
  have sh1:=yC d1 pf0 kg2
  refine⟨_,_,eR (s3 _ _ hp2),eR hp3,sh1,sh1,?_⟩
  show Wb (V.bl (!PyData.eqv (ge _ _) (ge _ _))) _ _
  rw [hX]
  refine⟨_,rfl,bx ?_⟩
  have s23:=s2.trans s3
  have G3:=G.same s23
  refine⟨_,rfl,pf,wf,t0,rfl,SqL.of G3.f.pl,G3.f.fl,pf0.ok,by omega,by omega,fun y ey=>?_⟩
  have e4:y=zf:=Tk.lst_inj (ey.trans ezf.symm)
  subst e4
  have ty:Tk.toks (cps y)=t0.flat:=by rw [ey];exact fW pf0.ok
  have res0:Res y "" (some y):=by
   refine .inr ⟨by rw [ty,<-G.f.fl];exact kf.hg,[t0],⟨pf0.ok,True.intro⟩,by rw [ty,fB],.inl ⟨?_,rfl,y,rfl,ey⟩⟩
   rw [BD]
   show(dcB t0&&true)=true
   rw [G.d]
   rfl
  refine⟨_,"",some y,rfl,kf.tx (by decide) (by rw [ty,G.f.fl]) (by omega),res0,fun H4 p4 s4 hp4=>?_⟩
  have G4:=G3.same s4
  refine⟨_,rfl,pf,wf,t0,rfl,SqL.of G4.f.pl,G4.f.fl,pf0.ok,by omega,by omega,fun y4 ey4=>⟨(sz 2),fun p5 hp5=>?_⟩⟩
  have e4:y4=y:=Tk.lst_inj (ey4.trans ey.symm)
  subst e4
  have s5:=ae hp5 (.tup [.str "",.str y4])
  have sh5:SeqAt.shaped (ge "" (some y4))=true:=mx (by decide +kernel) fun y e=>by cases e;exact zb (qc pf0.ok pf0.tok) ey
  refine⟨_,_,eR (o:=some y4) (s5 _ _ hp4),eR (o:=some y4) ad,sh5,sh5,?_⟩
  show Wb (V.bl (!PyData.eqv (ge "" (some y4)) (ge "" (some y4)))) _ _
  rw [hX]
  refine⟨_,rfl,bx ?_⟩
  have S5:=s23.trans (s4.trans s5)
  refine⟨_,rfl,z,h0,o,rfl,txz,res,fun H6 p6 s6 hp6=>⟨_,rfl,_,_,eR hp6,eR ((S5.trans s6) _ _ hd),shd,shd,?_⟩⟩
  show Q (.bl (PyData.eqv (ge h0 o) (ge h0 o))) H6
  rw [hX]
  exact q _
 refine⟨_,@af _ _ _ _ _ (aF (PW.pt (dl (am (kQ hu) (ai GR hr rfl mR kR bR .nil aC (aa (pv 8) ac)) (pv 9) (av _)) (dl (am lL (ix0 au (ai GR hr rfl mR kR bR .nil aC (aa (aB bu (pv 8) ak) ac)) ag) ak (av _)) (eC (am lL (ix0 au (ai GR hr rfl mR kR bR .nil aC (aa (aB bu (pv 8) ak) ac)) ag) ak (av _)))))) (aj (ao fR)) ar) @d8,?_⟩
 intro H1 a ns v1 v5 v6 v7 pf pg pt pd wf wg us t0 tg z h0 o G T hz hzl hd due
 obtain⟨kf,_,_⟩:=G.f.tk
 have T2:=kf.app T
 have txz:xn z:=T2.tx (by decide) hz (by omega)
 have hgz:hgt 0 (Tk.toks (cps z))=some 0:=by rw [hz];exact T2.hg
 have res:Res z h0 o:=uK due G.f.pt.ok (by rw [hz,ma0,G.f.fl]) hgz
 have shd:=yC due G.f.pt T
 have cnt:=txz.cnt
 have tlen:=T2.len
 have tz1:Tk.toks (cps (z++Str.ofString "("))=(wf++us).map cps++[[40]]:=by
  rw [dg,<-hz]
  show Tk.toks (cps z++40::[])=_
  rw [Tk.toks_op]
  rfl
 have tz2:Tk.toks (cps (z++Str.ofString " )"))=(wf++us).map cps++[[41]]:=by
  rw [dg,<-hz]
  show Tk.toks (cps z++32::([]++41::[]))=_
  rw [Tk.toks_sp,Tk.toks_cl]
  rfl
 have bad1:hgt 0 (Tk.toks (cps (z++Str.ofString "(")))≠some 0:=by
  rw [tz1,iF,T2.hg]
  decide
 have bad2:hgt 0 (Tk.toks (cps (z++Str.ofString " )")))≠some 0:=by
  rw [tz2,iF,T2.hg]
  decide
 have tok2:∀b,lK b->∀p∈(wf++us).map cps++[b],lK p:=fun b hb p hp=>by
  rcases List.mem_append.mp hp with hp|hp
  ·exact T2.tokc p hp
  ·rw [List.mem_singleton.mp hp]
   exact hb
 have cnt2:∀b:List Nat,((wf++us).map cps++[b]).length<=400:=fun b=>by
  rw [la0,lm0]
  show _+1<=400
  omega
 have tx1:xn (z++Str.ofString "("):=⟨by rw [dF,one1];omega,by rw [tz1];exact tok2 _ pJ,by rw [tz1];exact cnt2 _⟩
 have tx2:xn (z++Str.ofString " )"):=⟨by rw [dF,one2];omega,by rw [tz2];exact tok2 _ pX,by rw [tz2];exact cnt2 _⟩
 refine⟨_,rfl,z,h0,o,rfl,txz,res,fun H2 p2 s2 hp2=>⟨_,rfl,_,_,eR hp2,eR (s2 _ _ hd),shd,shd,?_⟩⟩
 show Wb (V.bl (!PyData.eqv (ge h0 o) (ge h0 o))) _ _
 rw [hX]
 refine⟨_,rfl,bx ?_⟩
 refine⟨_,rfl,z,_,rfl,rfl,qZ (by rw [one1];omega),_,"tree",none,rfl,tx1,.inl ⟨bad1,rfl,rfl⟩,fun H6 p6 s6 hp6=>?_⟩
 refine⟨p6,_,_,.str "tree",rfl,rfl,SqT.of hp6,at0,rfl,_,rfl,aO (fun c=>nK0 c) (fun _=>?_)⟩
 refine⟨_,rfl,z,_,rfl,rfl,qZ (by rw [one2];omega),_,"tree",none,rfl,tx2,.inl ⟨bad2,rfl,rfl⟩,fun H7 p7 s7 hp7=>?_⟩
 refine⟨p7,_,_,.str "tree",rfl,rfl,SqT.of hp7,at0,rfl,_,rfl,aO (fun c=>nK0 c) (fun _=>?_)⟩
 have S:=s2.trans (s6.trans s7)
 exact k8 H7 a ns v1 v5 v6 v7 pf pg pt pd wf wg us t0 tg z h0 o (G.same S) txz res (S _ _ hd) shd
theorem By{f:Addr}{fd:FuncData} (F:Fun K "law" "law" rp f fd) (cC:C0 P w K mg base 1 ["_law_script","_law_k"] (yI K) "_law_cell") (cB:C0 P w K mg base 4 dlP (wy K) "_law_declaration") (cTo:C0 P w K mg base 31 ["_law_tree"] (mZ K 31) "_law_tokens") (cS:C0 P w K mg base 1 slP (uZ K) "_law_spoiled") (cT:C0 P w K mg base 1 ["_law_tokens_here"] (nr K) "_law_trees") (cO:C0 P w K mg base 103 ["_law_tree"] (gW K fun t=>!(dc? t).isSome) "_law_of_tree") (cI:C0 P w K mg base 38 ["_law_tree"] (gW K dcB) "_law_is_declaration") (cL:C0 P w K mg base 1 ["_law_tokens_here","_law_cell_here"] (uS K) "_law_loose") (cR:C0 P w K mg base 104 ["_law_text"] (uo K) "_law_read") (cD:C0 P w K mg base 39 duP (AE K) "_law_due") (cW:C0 P w K mg base 1 ["_law_tokens_here"] (hZ K) "_law_written")
  (mr:mg "range"=none):aV P w K mg base CX0 105 f fd ["_law_script"] (yi K):=by
 obtain⟨fc,fdc,GC,bC,kC,mC⟩:=cC
 obtain⟨fb,fdb,GB,bB,kB,mB⟩:=cB
 obtain⟨fto,fdto,GTo,bTo,kTo,mTo⟩:=cTo
 obtain⟨fs,fds,GS,bS,kS,mS⟩:=cS
 obtain⟨ft,fdt,GT,bT,kT,mT⟩:=cT
 obtain⟨fo,fdo,GO,bO,kO,mO⟩:=cO
 obtain⟨fi,fdi,GI,bI,kI,mI⟩:=cI
 obtain⟨fl,fdl,GL,bL,kL,mL⟩:=cL
 have cD':=cD
 obtain⟨fd',fdd,GD,bD,kD,mD⟩:=cD'
 refine F.k0 jj fun cdv A q0 s H vs Q E hr h=>?_
 obtain⟨a,ns,rfl,hsc,h63,q⟩:=h
 have hr1:bq 1 _:=hr.mono (by decide)
 have hr4:bq 4 _:=hr.mono (by decide)
 have hr31:bq 31 _:=hr.mono (by decide)
 have hr38:bq 38 _:=hr.mono (by decide)
 have hr39:bq 39 _:=hr.mono (by decide)
 have hr103:bq 103 _:=hr.mono (by decide)
 obtain⟨t7,d7,k7⟩:=C4 (K:=K) (Q:=Q) (s:=s) (H:=H) (E:=E) (cdv:=cdv) (A:=A) (q0:=q0) (f:=f) hr cR cD cW q
 obtain⟨t5,d5,k5⟩:∃t,PSs (lwX P w K mg base f cdv A q0 s H E) (List.drop 5 (ap rp)) t /\
   ∀(H1:Hp) (v1 v5 v6 v7:Option V) (pf pg pt:Addr) (wf wg us:List Str) (t0 tg:Tr),Gx K H1 a ns pf pg wf wg t0 tg->nv us 162->H1 pt=some (.lst (us.map V.str)) ->
    t { nx:=fun _ H'=>Q .non H',rt:=Q } [some (.ref a),v1,some (.ref pf),some (.ref pg),some (.ref pt),v5,v6,v7,none,none,none] H1:=by
  refine⟨_,@af _ _ _ _ _ (aS (i:=8) jj.nd (ai GL hr1 rfl mL kL bL .nil aC (aa (aB du (pv 2) (pv 4)) (aa (ai GC hr1 rfl mC kC bC .nil aC (aa (pv 0) (aa ag ac))) ac))))
   (@af _ _ _ _ _ (aS (i:=9) jj.nd (ai GD hr39 rfl mD kD bD .nil aC (aa (pv 2) (aa (pv 4) ac)))) @d7),?_⟩
  intro H1 v1 v5 v6 v7 pf pg pt wf wg us t0 tg G T hpt
  obtain⟨kf,_,_⟩:=G.f.tk
  have T2:=kf.app T
  have tl:=T2.len
  have ll:wf.length<=160:=kf.len
  have ul:=T.len
  refine⟨_,rfl,_,rfl,pf,pt,_,_,rfl,rfl,G.f.pl,hpt,de (by rw [lm0,lm0];omega),fun l2 n2=>?_⟩
  have z2:=ae n2 (.lst (wf.map V.str++us.map V.str))
  have h2:upd H1 l2 (.lst (wf.map V.str++us.map V.str)) l2=some (.lst ((wf++us).map V.str)):=by rw [ad,ma0]
  refine⟨_,rfl,a,ns,3,rfl,z2.seq G.sc,h63,by decide,by decide,fun c=>?_⟩
  refine⟨l2,wf++us,c,rfl,SqL.of h2,by omega,T2.tok,fun H3 z s3 hz hzl=>?_⟩
  have s23:=z2.trans s3
  have G3:=G.same s23
  refine⟨_,rfl,_,rfl,pf,pt,wf,us,t0,rfl,G3.f,G.d,s23 _ _ hpt,T,fun H4 pd h0 o s4 hpd due=>?_⟩
  exact k7 H4 a ns v1 v5 v6 v7 pf pg pt pd wf wg us t0 tg z h0 o (G3.same s4) T hz hzl hpd due
 obtain⟨t4,d4,k4⟩:∃t,PSs (lwX P w K mg base f cdv A q0 s H E) (List.drop 4 (ap rp)) t /\
   ∀(H1:Hp) (v1:Option V) (pf pg:Addr) (wf wg:List Str) (t0 tg:Tr),Gx K H1 a ns pf pg wf wg t0 tg ->
    t { nx:=fun _ H'=>Q .non H',rt:=Q } [some (.ref a),v1,some (.ref pf),some (.ref pg),some (.ref pg),none,none,none,none,none,none] H1:=by
  refine⟨_,@af _ _ _ _ _ (fg PassesOwn.never rfl (dN rfl mr (aa ag ac)) (cU (i:=5) jj.nd rfl (Or.inl rfl))
   (af (aS (i:=6) jj.nd (ai GC hr1 rfl mC kC bC .nil aC (aa (pv 0) (aa (aB ca ag (pv 5)) ac))))
   (af (aS (i:=4) jj.nd (ai GS hr1 rfl mS kS bS .nil aC (aa (pv 3) (aa (aB cg (pv 6) ag) (aa (aB bj (pv 6) ag) ac)))))
   (aj (fg PassesOwn.never rfl (eV (ai GT hr1 rfl mT kT bT .nil aC (aa (pv 4) ac))) (cU (i:=7) jj.nd rfl (Or.inl rfl))
    (aj (aF (am aZ (ai GO hr103 rfl mO kO bO .nil aC (aa (pv 7) ac)) (ai GI hr38 rfl mI kI bI .nil aC (aa (pv 7) ac)) (av _)) (aj (ao fR)) ar))))))) @d5,?_⟩
  intro H1 v1 pf pg wf wg t0 tg G
  obtain⟨gk,gb,gl⟩:=G.g.tk
  refine⟨6,rfl,by decide,by decide,gX (lo:=0) (n:=(6:Int).toNat) (fun i σ H3=>∃(x5 x6 x7:Option V) (pt:Addr) (us:List Str),σ=[some (.ref a),v1,some (.ref pf),some (.ref pg),some (.ref pt),x5,x6,x7,none,none,none]/\aM H1 H3/\nv us 162/\H3 pt=some (.lst (us.map V.str)))
   ⟨_,_,_,pg,wg,rfl,sr0,⟨by have:=gk.len;omega,gk.tok,gk.hg⟩,G.g.pl⟩ ?_ ?_⟩
  ·rintro i σ H3 hi ⟨x5,x6,x7,pt,us,rfl,s3,T,hpt⟩
   have hi6:i < 6:=hi
   refine⟨_,rfl,_,rfl,_,_,rfl,rfl,a,ns,_,rfl,(G.same s3).sc,h63,by omega,by omega,fun c=>?_⟩
   refine⟨_,rfl,_,rfl,_,_,rfl,rfl,(by show(0:Int) < 8;decide),_,rfl,_,_,rfl,rfl,⟨by decide,by decide⟩,pg,wg,_,_,6,rfl,(G.same s3).g.pl,gl,by have:=gk.len;omega,gk.tok,gb,fun H4 l4 us4 s4 hl4 ul4 tk4 bal4=>?_⟩
   have T4:nv us4 162:=⟨by have:=gk.len;omega,tk4,bal4.hgt (by decide)⟩
   refine⟨_,rfl,l4,us4,rfl,SqL.of hl4,by have:=T4.len;omega,tk4,T4.hg,fun H5 px xs ts s5 hpx hxs ho hf=>?_⟩
   have sm:=T4.sms (by decide) ho hf
   have s34:=s3.trans (s4.trans s5)
   refine⟨px,rfl,⟨_,SqL.of hpx⟩,mQ (K:=K) (xs:=xs) (fun j σ H6=>∃(y7:Option V),σ=[some (.ref a),v1,some (.ref pf),some (.ref pg),some (.ref l4),some (.int (0+(i:Int))),some (.int c),y7,none,none,none]/\aM H5 H6)
    ⟨_,rfl,sr0⟩ ?_ ?_ ?_⟩
   ·rintro j σ H6 _ ⟨y7,rfl,s6⟩
    exact SqL.of (s6 _ _ hpx)
   ·rintro j x σ H6 hj ⟨y7,rfl,s6⟩
    obtain⟨t,ht,hxt⟩:=hxs.get hj
    have smt:=sm.mem (List.mem_of_getElem? ht)
    refine⟨_,rfl,x,t,rfl,hxt.same s6,smt,fun H7 s7=>?_⟩
    refine⟨_,rfl,x,t,rfl,hxt.same (s6.trans s7),smt,fun H8 s8=>⟨rfl,_,rfl,aO (fun e=>?_) (fun _=>⟨_,rfl,s6.trans (s7.trans s8)⟩)⟩⟩
    have e':(!(dc? t).isSome)=(dc? t).isSome:=V.bl.inj (od0 e)
    cases h:(dc? t).isSome<;>rw [h] at e'<;>cases e'
   ·rintro σ H6 ⟨y7,rfl,s6⟩
    exact⟨_,_,_,l4,us4,rfl,s34.trans s6,T4,s6 _ _ (s5 _ _ hl4)⟩
  ·rintro σ H3 ⟨x5,x6,x7,pt,us,rfl,s3,T,hpt⟩
   exact k5 H3 v1 x5 x6 x7 pf pg pt wf wg us t0 tg (G.same s3) T hpt
 refine⟨_,@af _ _ _ _ _ (aS (i:=1) jj.nd (aB cg (ai GC hr1 rfl mC kC bC .nil aC (aa (pv 0) (aa ag ac))) ag))
  (@af _ _ _ _ _ (aS (i:=2) jj.nd (ai GTo hr31 rfl mTo kTo bTo .nil aC (aa (ai GB hr4 rfl mB kB bB .nil aC (aa (ai GC hr1 rfl mC kC bC .nil aC (aa (pv 0) (aa ag ac))) (aa (ai GC hr1 rfl mC kC bC .nil aC (aa (pv 0) (aa ag ac))) (aa (aB ca ag (aB cg (pv 1) ag)) ac)))) ac)))
  (@af _ _ _ _ _ (aS (i:=3) jj.nd (ai GTo hr31 rfl mTo kTo bTo .nil aC (aa (ai GB hr4 rfl mB kB bB .nil aC (aa (ai GC hr1 rfl mC kC bC .nil aC (aa (pv 0) (aa ag ac))) (aa (ai GC hr1 rfl mC kC bC .nil aC (aa (pv 0) (aa ag ac))) (aa (pv 1) ac)))) ac)))
  (@af _ _ _ _ _ (aS (i:=4) jj.nd (pv 3)) @d4))),?_⟩
 refine⟨_,rfl,a,ns,2,rfl,hsc,h63,by decide,by decide,fun c2=>⟨_,_,rfl,rfl,(by show(0:Int) < 7;decide),?_⟩⟩
 have m0:0<=c2%7:=Int.emod_nonneg _ (by decide)
 have m7:c2%7 < 7:=Int.emod_lt_of_pos _ (by decide)
 obtain⟨m,em⟩:∃m:Nat,c2%7=(m:Int):=⟨_,(Int.toNat_of_nonneg m0).symm⟩
 rw [em] at m7
 refine⟨_,rfl,a,ns,4,rfl,hsc,h63,by decide,by decide,fun c4=>⟨_,rfl,a,ns,5,rfl,hsc,h63,by decide,by decide,fun c5=>?_⟩⟩
 refine⟨_,rfl,_,_,rfl,rfl,(by show(0:Int) < 4;decide),_,_,rfl,rfl,c4,c5,1+m%4,congrArg (fun x=>[V.int c4,V.int c5,V.int x]) (show(1:Int)+c2%7%4=((1+m%4:Nat):Int) by omega),by omega,fun H1 v t0 s1 hv pt0 fit0=>?_⟩
 have d0:=fit0 (by omega) (by omega)
 have l0:=pt0.len
 have p0:=pt0.dep
 refine⟨v,t0,rfl,hv,by omega,by omega,fun H2 pf wf s2 _ hpf hwf=>?_⟩
 have s12:=s1.trans s2
 refine⟨_,rfl,a,ns,0,rfl,s12.seq hsc,h63,by decide,by decide,fun c0=>⟨_,rfl,a,ns,1,rfl,s12.seq hsc,h63,by decide,by decide,fun c1=>?_⟩⟩
 refine⟨_,rfl,c0,c1,m,congrArg (fun x=>[V.int c0,V.int c1,V.int x]) em,by omega,fun H3 v3 tg s3 hv3 ptg _=>?_⟩
 have lg:=ptg.len
 have pg':=ptg.dep
 refine⟨v3,tg,rfl,hv3,by omega,by omega,fun H4 pg wg s4 _ hpg hwg=>?_⟩
 have s34:=s3.trans s4
 exact⟨_,rfl,k4 H4 _ pf pg wf wg t0 tg ⟨(s12.trans s34).seq hsc,⟨s34 _ _ hpf,hwf,pt0⟩,⟨hpg,hwg,ptg⟩,d0⟩⟩
end
end K19
namespace L2
open PySem PyProof.Rows
theorem Fun.bb{K:W.Frag}{x qual:Str}{st:Stmt}{f:Addr}{fd:FuncData}{ps:List Str}(F:Fun K x qual st f fd)
  (h:∀kV doc pm an cdv ct (us:List Value),us.length=ps.length->bindArgs (W.fnOf x qual (ay st) (ap st) (ah st) .none kV doc pm an cdv ct) ⟨us,[]⟩=pure (ps.zip us):=by first|exact(fun _ _ _ _ _ _ us hl=>by obtain⟨a,rfl⟩:=List.length_eq_one_iff.mp hl;rfl)|exact(fun _ _ _ _ _ _ us hl=>by obtain⟨a,b,rfl⟩:=K19.le2 hl;rfl)|exact(fun _ _ _ _ _ _ us hl=>by obtain⟨a,b,c,rfl⟩:=K19.le3 hl;rfl)):aX K fd ps []:=F.binds h
end L2
namespace PySem.W.Fast
def tw12267042804069696217:=()
def tw11584764777590265789:=()
def tw15619701565515356236:=()
def tw4536025667397675623:=()
def tw11073320189522917565:=()
def tw10803215500170210979:=()
def tw15449708986275215296:=()
def tw86877813959146671:=()
def tw9837586089100554788:=()
def tw10975425225527336442:=()
def tw16365070108638059356:=()
def tw8043982761338016049:=()
def tw18105151190546823054:=()
def tw15690399624762153939:=()
def tw3435317393276591127:=()
def tw16143052118128898272:=()
def tw14769049363379109558:=()
def tw15792994022462984581:=()
def tw13502162705647941417:=()
def tw140109969198010116:=()
def tw8560082064481191104:=()
def tw222447175790874634:=()
def tw9534286151002497552:=()
def tw17535049790220378:=()
def tw2923666162736034571:=()
def tw3028820958397609691:=()
def tw4902009250042253803:=()
def tw8990551496999673339:=()
def tw14599978610119026165:=()
def tw1642898580923494797:=()
def tw3544215837902689510:=()
def tw9750737507157274553:=()
def tw14690545877356633612:=()
def tw652730838811457371:=()
def tw5981945990143972758:=()
def tw16515724514393577842:=()
def tw6656093358014699324:=()
def tw5170503899025655338:=()
def tw16181196109225695653:=()
def tw5207668035561849721:=()
def tw17823463599481384227:=()
def tw14183747522925064249:=()
def tw143693863319565563:=()
def tw12962013741051756471:=()
def tw18064893687513026106:=()
def tw16300189802428852377:=()
def tw2501416149790994810:=()
def tw9779089716062100113:=()
def tw6991009190103141173:=()
def tw18052832744335394930:=()
def tw1409224035906792434:=()
def tw3122614697750184586:=()
def tw1720774606509671533:=()
def tw6721607145933380020:=()
def tw8803133317483302593:=()
def tw14413195753010392637:=()
def tw3690863385404473085:=()
def tw6515649567442384152:=()
def tw15049000693276838070:=()
def tw11171401415273195419:=()
def tw10000167721870877397:=()
def tw5603865216313280320:=()
def tw8250856471018864862:=()
def tw4782440312490090464:=()
def tw18215229234013151784:=()
def tw17727986227819358521:=()
def tw17555908021860448530:=()
def tw9247199103511500065:=()
def tw3685122425524992724:=()
def tw15589635843706768225:=()
def tw13295681702020503205:=()
def tw6099717821069885127:=()
def tw5454126890803656541:=()
def tw2829508385779649598:=()
def tw1978002434529414412:=()
def tw15798737366040124473:=()
def tw14616424551967177528:=()
def tw6839815973096419374:=()
def tw12530652162146725178:=()
def tw10442202270495399256:=()
def tw986485793582799518:=()
def tw10633504506990614151:=()
def tw8259172700503048177:=()
def tw18400391832720773718:=()
def tw18367565665424361047:=()
def tw11192624758428026441:=()
def tw10228320639685865871:=()
def tw2940421705138486684:=()
def tw2791692447550903051:=()
def tw11944394293758075588:=()
def tw11385424582719542324:=()
def tw11241270216899220415:=()
def tw13814990359701333527:=()
def tw5889849421255336980:=()
def tw4372977194075463477:=()
def tw3120086890658004573:=()
def tw3104783839287086083:=()
def tw12840045727165894309:=()
def tw12559203156786341567:=()
def tw8895447524028050136:=()
def tw5158564165351889413:=()
def tw12794587150853722960:=()
def tw11195696272097813569:=()
def tw9926780785308518996:=()
def tw2105033998516389152:=()
def tw16778898104620332314:=()
def tw15643786897944868346:=()
def tw15226541934434727907:=()
def tw16969499419721459090:=()
def tw10992371500333234094:=()
def tw17004635410896000095:=()
def tw13014055931623829760:=()
def tw11694400292287308678:=()
def tw2089164161522537130:=()
def tw16432066846625281789:=()
def tw13127238832882782375:=()
def tw16056540657902546918:=()
def tw13133079402826739793:=()
def tw10112249134355173690:=()
def tw11238485934764433669:=()
def tw11884125130152243400:=()
def tw1559520430074227369:=()
def tw17096605000297608472:=()
def tw6996279913401461441:=()
def tw11423808696390168249:=()
def tw5663502344864621477:=()
def tw2752857018354239085:=()
def tw2168192684921411134:=()
def tw7751493848430096928:=()
def tw3193224566345632921:=()
def tw14833802685725974185:=()
def tw13049885978823883934:=()
def tw13527156637324634415:=()
def tw8096793066201251154:=()
def tw3276373714457805629:=()
def tw5211898978737039728:=()
def tw17166680270104880032:=()
def tw15124546390155550863:=()
def tw15443817540292612442:=()
def tw5279875710483336412:=()
def tw17944352625056483122:=()
def tw9330998096082488135:=()
def tw9793430941730678041:=()
def tw9638179868486985840:=()
def tw2055803023038628906:=()
def tw7754108159269697946:=()
def tw5863145026555814539:=()
def tw4457668101888468669:=()
def tw13499311511207094512:=()
def tw7648022433538656239:=()
def tw3268221036033422906:=()
def tw6226226619786453209:=()
def tw5921915152024410203:=()
def tw11340785103009708239:=()
def tw14051356817564075402:=()
def tw14735957661536751774:=()
def tw9445398335459877244:=()
def tw17379027361823261594:=()
def tw10359085349810863895:=()
def tw12766120002356230246:=()
def tw8091357868497764700:=()
def tw5301018717515644361:=()
def tw4538455150140319590:=()
def tw16408012425248916097:=()
def tw14798989536925908186:=()
def tw2850730515550058667:=()
def tw17077704783352655174:=()
def tw16319528881947309952:=()
def tw14255225886476873757:=()
def tw6753050832995201762:=()
def tw6720113359715709012:=()
def tw17945331516873540535:=()
def tw1516852935609813200:=()
def tw13915671698656310990:=()
def tw13813093437352651155:=()
def tw7091697792417199862:=()
def tw14432166337482656525:=()
def tw1243496253676436345:=()
def tw17943884497014066293:=()
def tw14369808070974815295:=()
def tw10511228876855105590:=()
def tw4550125853239469556:=()
def tw7356534548806142059:=()
def tw1555036942023111672:=()
def tw6097029537969895569:=()
def tw2393593556249873748:=()
def tw15652714950485842919:=()
def tw9949876909048203951:=()
def tw9913186377950039143:=()
def tw986322398721527018:=()
def tw14893584838284361531:=()
def tw2445705024419767469:=()
def tw3960401175938156167:=()
def tw15660846303170441925:=()
def tw11253727302084920268:=()
def tw10974575553689075865:=()
def tw11012968081539119682:=()
def tw8922433430562581474:=()
def tw9951914069876117851:=()
def tw2761060066415735565:=()
def tw14713506296985871588:=()
def tw2745570097579653073:=()
def tw11321422456003074589:=()
def tw4953169751994060721:=()
def tw10714773899642519987:=()
def tw1932100722294139870:=()
def tw401431295555311391:=()
def tw5219324744276995746:=()
def tw9775513631161523580:=()
def tw13061198097513299710:=()
def tw7882711964828588589:=()
def tw13552638796828138008:=()
def tw13989751104591490453:=()
def tw447475641822661098:=()
def tw9799705283424207829:=()
def tw3640378691520915752:=()
def tw6052587773457426810:=()
def tw1431563501527443769:=()
def tw2572702965894473261:=()
def tw2057197509034336314:=()
def tw5725722411732665973:=()
def tw5904919112063882144:=()
def tw11800190117861419003:=()
def tw7992887162902179456:=()
def tw2057369740081668510:=()
def tw1676546769640947777:=()
def tw15678925164359422506:=()
def tw8444315361727658560:=()
def tw6227955577717692041:=()
def tw5499163432892463001:=()
def tw8769674230981635765:=()
def tw357201179865718641:=()
def tw17098771661937278614:=()
def tw17659664410489499965:=()
def tw6591046831228171332:=()
def tw13787816494130648717:=()
def tw18306960250116491343:=()
def tw1640406618283027010:=()
def tw8306131838662808638:=()
def tw17405412699771776748:=()
def tw5998919323551056613:=()
def tw3745337734124063593:=()
def tw11624000410513472814:=()
def tw10858310215405227300:=()
def tw5084921489075394019:=()
def tw6601936031589580355:=()
def tw5988231092592781378:=()
def tw8324743035506897067:=()
def tw10626793274035862365:=()
def tw12174552321738392658:=()
def tw324997335933021759:=()
def tw13439126221500654418:=()
def tw9615057161881178668:=()
def tw10428585432285140513:=()
def tw8600187809889884296:=()
def tw16181149523951402497:=()
def tw13671801617563135576:=()
def tw4547766498667702456:=()
def tw1097280154938893495:=()
def tw17419614344303611644:=()
def tw9440509760362380876:=()
def tw11091868867114669518:=()
def tw8345083081691936554:=()
def tw4813496625127651453:=()
def tw13218480355054276052:=()
def tw12690898473542526495:=()
def tw14550388985497390036:=()
def tw16698067271703164540:=()
def tw4797112428044733060:=()
def tw9275109161695521947:=()
def tw3969036601200655475:=()
def tw10307060516038367282:=()
def tw6474772248604101432:=()
def tw4484877797471983706:=()
def tw10141027528104409637:=()
def tw7058102158662919398:=()
def tw7341981697736681311:=()
def tw7720530094338443980:=()
def tw13484819729201024425:=()
def tw6183798390173951798:=()
def tw9157209968284413380:=()
def tw9398490494644716322:=()
def tw14011900747813264048:=()
def tw11075298248881679061:=()
def tw12446277239323398285:=()
def tw14902333059493539239:=()
def tw14198930227320392860:=()
def tw8470276146793644170:=()
def tw2711440109414626790:=()
def tw13502888235390380068:=()
def tw8843193471830706065:=()
def tw8497279072583422203:=()
def tw3654395150435938752:=()
def tw18203869321676310372:=()
def tw5116000454975945958:=()
def tw6186442222067658295:=()
def tw9156260415075871983:=()
def tw6251324411135415008:=()
def tw9465828107031422209:=()
def tw2671531386064787941:=()
def tw7691306537677804826:=()
def tw17885076741901188923:=()
def tw5324048765658305112:=()
def tw15874820090950872785:=()
def tw1860319705484852715:=()
def tw12642044500387702790:=()
def tw3234204123007136701:=()
def tw10807759914227863682:=()
def tw2698067727078455003:=()
def tw10207391075335644936:=()
def tw14721053784482902635:=()
def tw4845574559858613314:=()
def tw14957446974371916195:=()
def tw16731066704698269987:=()
def tw2051542895957490031:=()
def tw3331679937124234612:=()
def tw14641254837641644738:=()
def tw14390814819120649981:=()
def tw10773910600741609513:=()
def tw16610784585769392997:=()
def tw3876098793109643619:=()
def tw4930445516772611678:=()
def tw274678832363144022:=()
def tw16221342398207353136:=()
def tw14987469199835453058:=()
def tw14826047294944643529:=()
def tw9989168353883960210:=()
def tw10270917134983326018:=()
def tw16858575921361148186:=()
def tw17613384046823189682:=()
def tw8794833709554833576:=()
def tw7575560195439959060:=()
def tw15271725961506641608:=()
def tw2447912666708507005:=()
def tw16092918436333626673:=()
def tw6998014665910222023:=()
def tw5862808432791273652:=()
def tw12976393794297972821:=()
def tw8645208735800963652:=()
def tw10793958313714172434:=()
end PySem.W.Fast
namespace L2
open PySem
theorem rK{α β:Type}[BEq α][LawfulBEq α]{a:α}{b:β}:∀{l:List (α × β)},l.lookup a=some b->(a,b)∈l
 |[],h=>by cases h
 |p::r,h=>by
  obtain⟨c,d⟩:=p
  rw [List.lookup_cons] at h
  by_cases e:(a==c)=true
  ·rw [e] at h
   have h':d=b:=Option.some.inj h
   rw [eq_of_beq e,h']
   exact .head _
  ·rw [Bool.not_eq_true] at e
   rw [e] at h
   exact .tail _ (rK h)
theorem walk_z{q:Program}{loose:List Str}{XP:(Str->Option Value)->Heap->Prop}{r:W.RowW}{d:DefRec}{kwd:List (Str × Expr)}{run:Value->List Value->Sem Value}{K:Params->W.Frag}{as:List Addr}{n t:Nat}
  (hl:∀p:Params,as=(K p).map (·.1)) (h:W.WalkO q loose XP (fun w h=>(K w.params).In h) r d kwd run):W.WalkX q loose XP (W.X.obsZ as) (W.X.valZ K n t) r d kwd run:=by
 intro w s₀ s₁ mg mb G y a o pm cd doc dV kV ho hd hcd hD hmg hg args vals as' L hpre hlay hrd hwl hlo
 refine h w s₀ s₁ mg mb G (fun b ob hb=>?_) a o pm cd doc dV kV ho hd hcd hD hmg hg args vals as' hpre hlay hrd hwl hlo
 have e1:as.map s₀.heap.get?=(K w.params).map fun p=>some p.2:=congrArg Prod.fst y
 rw [hl w.params,List.map_map] at e1
 have e2:s₀.heap.get? b=some ob:=List.map_inj_left.mp e1 (b,ob) (rK hb)
 exact L.keeps b ob e2
end L2
namespace K19
open PySem L2
set_option autoImplicit true in
set_option relaxedAutoImplicit true in
theorem all_mk{l:W.OpenLaw}{w:World}{K:W.Frag}{h:Heap}{mg:Str->Option Value}{fa f1 f2 f3 f4 f5 f6 f7 f8 f9 f10 f11 f12 f13 f14 f15 f16 f17 f18 f19 f20 f21 f22 f23 f24 f25 f26 f27 f28 f29 f30 f31 f32 f33 f34 f35 f36 f37 f38 f39 f40 f41 f42 f43 f44 f45 f46 f47 f48 f49 f50 f51 f52 f53 f54 f55 f56 f57 f58 f59 f60 f61 f62 f63 f64 f65 f66 f67 f68 f69 f70 f71 f72 f73:Addr}(X:K.In h)(G:h.Ns mainGlobals mg) (hfa:mg "law"=some (.ref fa))
  {CT CF:Addr}
  {pT:Addr} {tk tL tN tF tM tG:Tok}
  {oT:Option Addr} {sT:Array (Option Value)} {nT:Nat} {t1 t2 t3 t4 t5 t6 t7 t8 t9:Tok}
  {pO pTs pB pA:Addr} {tA:Tok}
  {oO oE:Option Addr} {sO sE:Array (Option Value)} {nO nE nB nA:Nat} {u1 u2 u3 u4 u5:Tok}
  {b1 b2 b3 b4 d1 d2 d3 d4:Tok}
  {g1 g2 g3 g4 g5 g6 g7 g8 h1 h2 h3 h4 h5 h6 h7 h8:Tok}
  (a1:W.nsIn K mainGlobals "trees_of"=some (some (.ref f1))) (l1:K.lookup f1=some ⟨oc1,od1,.func (W.fnOf "trees_of" "trees_of" (ay ko) (ap ko) (ah ko) .none kV1 dc1 pm1 an1 cd1 ct1),sl1⟩) (c1:W.codeIn K cd1 "trees_of"=true) (k1:W.keepIn K (.ref f1)=true)
  (a2:W.nsIn K mainGlobals "pieces_of"=some (some (.ref f2))) (l2:K.lookup f2=some ⟨oc2,od2,.func (W.fnOf "pieces_of" "pieces_of" (ay fz) (ap fz) (ah fz) .none kV2 dc2 pm2 an2 cd2 ct2),sl2⟩) (c2:W.codeIn K cd2 "pieces_of"=true) (k2:W.keepIn K (.ref f2)=true)
  (a3:W.nsIn K mainGlobals "text_of"=some (some (.ref f3))) (l3:K.lookup f3=some ⟨oc3,od3,.func (W.fnOf "text_of" "text_of" (ay iX) (ap iX) (ah iX) .none kV3 dc3 pm3 an3 cd3 ct3),sl3⟩) (c3:W.codeIn K cd3 "text_of"=true) (k3:W.keepIn K (.ref f3)=true)
  (a4:W.nsIn K mainGlobals "tree_text"=some (some (.ref f4))) (l4:K.lookup f4=some ⟨oc4,od4,.func (W.fnOf "tree_text" "tree_text" (ay eY) (ap eY) (ah eY) .none kV4 dc4 pm4 an4 cd4 ct4),sl4⟩) (c4:W.codeIn K cd4 "tree_text"=true) (k4:W.keepIn K (.ref f4)=true)
  (a5:W.nsIn K mainGlobals "bracket_pieces"=some (some (.ref f5))) (l5:K.lookup f5=some ⟨oc5,od5,.func (W.fnOf "bracket_pieces" "bracket_pieces" (ay iI) (ap iI) (ah iI) .none kV5 dc5 pm5 an5 cd5 ct5),sl5⟩) (c5:W.codeIn K cd5 "bracket_pieces"=true) (k5:W.keepIn K (.ref f5)=true)
  (a6:W.nsIn K mainGlobals "is_name"=some (some (.ref f6))) (l6:K.lookup f6=some ⟨oc6,od6,.func (W.fnOf "is_name" "is_name" (ay oy) (ap oy) (ah oy) .none kV6 dc6 pm6 an6 cd6 ct6),sl6⟩) (c6:W.codeIn K cd6 "is_name"=true) (k6:W.keepIn K (.ref f6)=true)
  (a7:W.nsIn K mainGlobals "is_number"=some (some (.ref f7))) (l7:K.lookup f7=some ⟨oc7,od7,.func (W.fnOf "is_number" "is_number" (ay AQ) (ap AQ) (ah AQ) .none kV7 dc7 pm7 an7 cd7 ct7),sl7⟩) (c7:W.codeIn K cd7 "is_number"=true) (k7:W.keepIn K (.ref f7)=true)
  (a8:W.nsIn K mainGlobals "read_house"=some (some (.ref f8))) (l8:K.lookup f8=some ⟨oc8,od8,.func (W.fnOf "read_house" "read_house" (ay dU) (ap dU) (ah dU) .none kV8 dc8 pm8 an8 cd8 ct8),sl8⟩) (c8:W.codeIn K cd8 "read_house"=true) (k8:W.keepIn K (.ref f8)=true)
  (a9:W.nsIn K mainGlobals "bracket"=some (some (.ref f9))) (l9:K.lookup f9=some ⟨oc9,od9,.func (W.fnOf "bracket" "bracket" (ay gj) (ap gj) (ah gj) .none kV9 dc9 pm9 an9 cd9 ct9),sl9⟩) (c9:W.codeIn K cd9 "bracket"=true) (k9:W.keepIn K (.ref f9)=true)
  (a10:W.nsIn K mainGlobals "word_ahead"=some (some (.ref f10))) (l10:K.lookup f10=some ⟨oc10,od10,.func (W.fnOf "word_ahead" "word_ahead" (ay ki) (ap ki) (ah ki) .none kV10 dc10 pm10 an10 cd10 ct10),sl10⟩) (c10:W.codeIn K cd10 "word_ahead"=true) (k10:W.keepIn K (.ref f10)=true)
  (a11:W.nsIn K mainGlobals "name_of_tree"=some (some (.ref f11))) (l11:K.lookup f11=some ⟨oc11,od11,.func (W.fnOf "name_of_tree" "name_of_tree" (ay iB) (ap iB) (ah iB) .none kV11 dc11 pm11 an11 cd11 ct11),sl11⟩) (c11:W.codeIn K cd11 "name_of_tree"=true) (k11:W.keepIn K (.ref f11)=true)
  (a12:W.nsIn K mainGlobals "number_of_tree"=some (some (.ref f12))) (l12:K.lookup f12=some ⟨oc12,od12,.func (W.fnOf "number_of_tree" "number_of_tree" (ay fE) (ap fE) (ah fE) .none kV12 dc12 pm12 an12 cd12 ct12),sl12⟩) (c12:W.codeIn K cd12 "number_of_tree"=true) (k12:W.keepIn K (.ref f12)=true)
  (a13:W.nsIn K mainGlobals "size_of_tree"=some (some (.ref f13))) (l13:K.lookup f13=some ⟨oc13,od13,.func (W.fnOf "size_of_tree" "size_of_tree" (ay ix) (ap ix) (ah ix) .none kV13 dc13 pm13 an13 cd13 ct13),sl13⟩) (c13:W.codeIn K cd13 "size_of_tree"=true) (k13:W.keepIn K (.ref f13)=true)
  (a14:W.nsIn K mainGlobals "near_or_far"=some (some (.ref f14))) (l14:K.lookup f14=some ⟨oc14,od14,.func (W.fnOf "near_or_far" "near_or_far" (ay gy) (ap gy) (ah gy) .none kV14 dc14 pm14 an14 cd14 ct14),sl14⟩) (c14:W.codeIn K cd14 "near_or_far"=true) (k14:W.keepIn K (.ref f14)=true)
  (a15:W.nsIn K mainGlobals "kind_of_tree"=some (some (.ref f15))) (l15:K.lookup f15=some ⟨oc15,od15,.func (W.fnOf "kind_of_tree" "kind_of_tree" (ay ik) (ap ik) (ah ik) .none kV15 dc15 pm15 an15 cd15 ct15),sl15⟩) (c15:W.codeIn K cd15 "kind_of_tree"=true) (k15:W.keepIn K (.ref f15)=true)
  (a16:W.nsIn K mainGlobals "expression_of_tree"=some (some (.ref f16))) (l16:K.lookup f16=some ⟨oc16,od16,.func (W.fnOf "expression_of_tree" "expression_of_tree" (ay sZ) (ap sZ) (ah sZ) .none kV16 dc16 pm16 an16 cd16 ct16),sl16⟩) (c16:W.codeIn K cd16 "expression_of_tree"=true) (k16:W.keepIn K (.ref f16)=true)
  (a17:W.nsIn K mainGlobals "expressions_of"=some (some (.ref f17))) (l17:K.lookup f17=some ⟨oc17,od17,.func (W.fnOf "expressions_of" "expressions_of" (ay kr) (ap kr) (ah kr) .none kV17 dc17 pm17 an17 cd17 ct17),sl17⟩) (c17:W.codeIn K cd17 "expressions_of"=true) (k17:W.keepIn K (.ref f17)=true)
  (a18:W.nsIn K mainGlobals "literal_of_tree"=some (some (.ref f18))) (l18:K.lookup f18=some ⟨oc18,od18,.func (W.fnOf "literal_of_tree" "literal_of_tree" (ay kd) (ap kd) (ah kd) .none kV18 dc18 pm18 an18 cd18 ct18),sl18⟩) (c18:W.codeIn K cd18 "literal_of_tree"=true) (k18:W.keepIn K (.ref f18)=true)
  (a19:W.nsIn K mainGlobals "call_of_tree"=some (some (.ref f19))) (l19:K.lookup f19=some ⟨oc19,od19,.func (W.fnOf "call_of_tree" "call_of_tree" (ay iR) (ap iR) (ah iR) .none kV19 dc19 pm19 an19 cd19 ct19),sl19⟩) (c19:W.codeIn K cd19 "call_of_tree"=true) (k19:W.keepIn K (.ref f19)=true)
  (a20:W.nsIn K mainGlobals "declaration_of_tree"=some (some (.ref f20))) (l20:K.lookup f20=some ⟨oc20,od20,.func (W.fnOf "declaration_of_tree" "declaration_of_tree" (ay iM) (ap iM) (ah iM) .none kV20 dc20 pm20 an20 cd20 ct20),sl20⟩) (c20:W.codeIn K cd20 "declaration_of_tree"=true) (k20:W.keepIn K (.ref f20)=true)
  (a21:W.nsIn K mainGlobals "face_of_tree"=some (some (.ref f21))) (l21:K.lookup f21=some ⟨oc21,od21,.func (W.fnOf "face_of_tree" "face_of_tree" (ay iK) (ap iK) (ah iK) .none kV21 dc21 pm21 an21 cd21 ct21),sl21⟩) (c21:W.codeIn K cd21 "face_of_tree"=true) (k21:W.keepIn K (.ref f21)=true)
  (a22:W.nsIn K mainGlobals "part_of_tree"=some (some (.ref f22))) (l22:K.lookup f22=some ⟨oc22,od22,.func (W.fnOf "part_of_tree" "part_of_tree" (ay iA) (ap iA) (ah iA) .none kV22 dc22 pm22 an22 cd22 ct22),sl22⟩) (c22:W.codeIn K cd22 "part_of_tree"=true) (k22:W.keepIn K (.ref f22)=true)
  (a23:W.nsIn K mainGlobals "maker_of_tree"=some (some (.ref f23))) (l23:K.lookup f23=some ⟨oc23,od23,.func (W.fnOf "maker_of_tree" "maker_of_tree" (ay gm) (ap gm) (ah gm) .none kV23 dc23 pm23 an23 cd23 ct23),sl23⟩) (c23:W.codeIn K cd23 "maker_of_tree"=true) (k23:W.keepIn K (.ref f23)=true)
  (a24:W.nsIn K mainGlobals "made_of_tree"=some (some (.ref f24))) (l24:K.lookup f24=some ⟨oc24,od24,.func (W.fnOf "made_of_tree" "made_of_tree" (ay iL) (ap iL) (ah iL) .none kV24 dc24 pm24 an24 cd24 ct24),sl24⟩) (c24:W.codeIn K cd24 "made_of_tree"=true) (k24:W.keepIn K (.ref f24)=true)
  (a25:W.nsIn K mainGlobals "formal_of_tree"=some (some (.ref f25))) (l25:K.lookup f25=some ⟨oc25,od25,.func (W.fnOf "formal_of_tree" "formal_of_tree" (ay fu) (ap fu) (ah fu) .none kV25 dc25 pm25 an25 cd25 ct25),sl25⟩) (c25:W.codeIn K cd25 "formal_of_tree"=true) (k25:W.keepIn K (.ref f25)=true)
  (a26:W.nsIn K mainGlobals "seal_of_tree"=some (some (.ref f26))) (l26:K.lookup f26=some ⟨oc26,od26,.func (W.fnOf "seal_of_tree" "seal_of_tree" (ay iY) (ap iY) (ah iY) .none kV26 dc26 pm26 an26 cd26 ct26),sl26⟩) (c26:W.codeIn K cd26 "seal_of_tree"=true) (k26:W.keepIn K (.ref f26)=true)
  (a27:W.nsIn K mainGlobals "refining_of"=some (some (.ref f27))) (l27:K.lookup f27=some ⟨oc27,od27,.func (W.fnOf "refining_of" "refining_of" (ay ku) (ap ku) (ah ku) .none kV27 dc27 pm27 an27 cd27 ct27),sl27⟩) (c27:W.codeIn K cd27 "refining_of"=true) (k27:W.keepIn K (.ref f27)=true)
  (a28:W.nsIn K mainGlobals "named_kinds"=some (some (.ref f28))) (l28:K.lookup f28=some ⟨oc28,od28,.func (W.fnOf "named_kinds" "named_kinds" (ay kc) (ap kc) (ah kc) .none kV28 dc28 pm28 an28 cd28 ct28),sl28⟩) (c28:W.codeIn K cd28 "named_kinds"=true) (k28:W.keepIn K (.ref f28)=true)
  (a29:W.nsIn K mainGlobals "face_item"=some (some (.ref f29))) (l29:K.lookup f29=some ⟨oc29,od29,.func (W.fnOf "face_item" "face_item" (ay sFI) (ap sFI) (ah sFI) .none kV29 dc29 pm29 an29 cd29 ct29),sl29⟩) (c29:W.codeIn K cd29 "face_item"=true) (k29:W.keepIn K (.ref f29)=true)
  (a30:W.nsIn K mainGlobals "part_items"=some (some (.ref f30))) (l30:K.lookup f30=some ⟨oc30,od30,.func (W.fnOf "part_items" "part_items" (ay AK) (ap AK) (ah AK) .none kV30 dc30 pm30 an30 cd30 ct30),sl30⟩) (c30:W.codeIn K cd30 "part_items"=true) (k30:W.keepIn K (.ref f30)=true)
  (a31:W.nsIn K mainGlobals "part_item"=some (some (.ref f31))) (l31:K.lookup f31=some ⟨oc31,od31,.func (W.fnOf "part_item" "part_item" (ay sPI) (ap sPI) (ah sPI) .none kV31 dc31 pm31 an31 cd31 ct31),sl31⟩) (c31:W.codeIn K cd31 "part_item"=true) (k31:W.keepIn K (.ref f31)=true)
  (a32:W.nsIn K mainGlobals "within"=some (some (.ref f32))) (l32:K.lookup f32=some ⟨oc32,od32,.func (W.fnOf "within" "within" (ay iZ) (ap iZ) (ah iZ) .none kV32 dc32 pm32 an32 cd32 ct32),sl32⟩) (c32:W.codeIn K cd32 "within"=true) (k32:W.keepIn K (.ref f32)=true)
  (a33:W.nsIn K mainGlobals "house_text"=some (some (.ref f33))) (l33:K.lookup f33=some ⟨oc33,od33,.func (W.fnOf "house_text" "house_text" (ay dS) (ap dS) (ah dS) .none kV33 dc33 pm33 an33 cd33 ct33),sl33⟩) (c33:W.codeIn K cd33 "house_text"=true) (k33:W.keepIn K (.ref f33)=true)
  (a34:W.nsIn K mainGlobals "near_or_far_word"=some (some (.ref f34))) (l34:K.lookup f34=some ⟨oc34,od34,.func (W.fnOf "near_or_far_word" "near_or_far_word" (ay fA) (ap fA) (ah fA) .none kV34 dc34 pm34 an34 cd34 ct34),sl34⟩) (c34:W.codeIn K cd34 "near_or_far_word"=true) (k34:W.keepIn K (.ref f34)=true)
  (a35:W.nsIn K mainGlobals "kind_tree"=some (some (.ref f35))) (l35:K.lookup f35=some ⟨oc35,od35,.func (W.fnOf "kind_tree" "kind_tree" (ay eZ) (ap eZ) (ah eZ) .none kV35 dc35 pm35 an35 cd35 ct35),sl35⟩) (c35:W.codeIn K cd35 "kind_tree"=true) (k35:W.keepIn K (.ref f35)=true)
  (a36:W.nsIn K mainGlobals "expression_tree"=some (some (.ref f36))) (l36:K.lookup f36=some ⟨oc36,od36,.func (W.fnOf "expression_tree" "expression_tree" (ay iH) (ap iH) (ah iH) .none kV36 dc36 pm36 an36 cd36 ct36),sl36⟩) (c36:W.codeIn K cd36 "expression_tree"=true) (k36:W.keepIn K (.ref f36)=true)
  (a37:W.nsIn K mainGlobals "words_ahead"=some (some (.ref f37))) (l37:K.lookup f37=some ⟨oc37,od37,.func (W.fnOf "words_ahead" "words_ahead" (ay kJ) (ap kJ) (ah kJ) .none kV37 dc37 pm37 an37 cd37 ct37),sl37⟩) (c37:W.codeIn K cd37 "words_ahead"=true) (k37:W.keepIn K (.ref f37)=true)
  (a38:W.nsIn K mainGlobals "declaration_tree"=some (some (.ref f38))) (l38:K.lookup f38=some ⟨oc38,od38,.func (W.fnOf "declaration_tree" "declaration_tree" (ay fC) (ap fC) (ah fC) .none kV38 dc38 pm38 an38 cd38 ct38),sl38⟩) (c38:W.codeIn K cd38 "declaration_tree"=true) (k38:W.keepIn K (.ref f38)=true)
  (a39:W.nsIn K mainGlobals "seal_tree"=some (some (.ref f39))) (l39:K.lookup f39=some ⟨oc39,od39,.func (W.fnOf "seal_tree" "seal_tree" (ay fh) (ap fh) (ah fh) .none kV39 dc39 pm39 an39 cd39 ct39),sl39⟩) (c39:W.codeIn K cd39 "seal_tree"=true) (k39:W.keepIn K (.ref f39)=true)
  (a40:W.nsIn K mainGlobals "named_trees"=some (some (.ref f40))) (l40:K.lookup f40=some ⟨oc40,od40,.func (W.fnOf "named_trees" "named_trees" (ay gq) (ap gq) (ah gq) .none kV40 dc40 pm40 an40 cd40 ct40),sl40⟩) (c40:W.codeIn K cd40 "named_trees"=true) (k40:W.keepIn K (.ref f40)=true)
  (a41:W.nsIn K mainGlobals "face_item_tree"=some (some (.ref f41))) (l41:K.lookup f41=some ⟨oc41,od41,.func (W.fnOf "face_item_tree" "face_item_tree" (ay r6) (ap r6) (ah r6) .none kV41 dc41 pm41 an41 cd41 ct41),sl41⟩) (c41:W.codeIn K cd41 "face_item_tree"=true) (k41:W.keepIn K (.ref f41)=true)
  (a42:W.nsIn K mainGlobals "part_item_trees"=some (some (.ref f42))) (l42:K.lookup f42=some ⟨oc42,od42,.func (W.fnOf "part_item_trees" "part_item_trees" (ay kY) (ap kY) (ah kY) .none kV42 dc42 pm42 an42 cd42 ct42),sl42⟩) (c42:W.codeIn K cd42 "part_item_trees"=true) (k42:W.keepIn K (.ref f42)=true)
  (a43:W.nsIn K mainGlobals "part_item_tree"=some (some (.ref f43))) (l43:K.lookup f43=some ⟨oc43,od43,.func (W.fnOf "part_item_tree" "part_item_tree" (ay sI) (ap sI) (ah sI) .none kV43 dc43 pm43 an43 cd43 ct43),sl43⟩) (c43:W.codeIn K cd43 "part_item_tree"=true) (k43:W.keepIn K (.ref f43)=true)
  (a44:W.nsIn K mainGlobals "_law_cell"=some (some (.ref f44))) (l44:K.lookup f44=some ⟨oc44,od44,.func (W.fnOf "_law_cell" "_law_cell" (ay ss) (ap ss) (ah ss) .none kV44 dc44 pm44 an44 cd44 ct44),sl44⟩) (c44:W.codeIn K cd44 "_law_cell"=true) (k44:W.keepIn K (.ref f44)=true)
  (a45:W.nsIn K mainGlobals "_law_name"=some (some (.ref f45))) (l45:K.lookup f45=some ⟨oc45,od45,.func (W.fnOf "_law_name" "_law_name" (ay ka) (ap ka) (ah ka) .none kV45 dc45 pm45 an45 cd45 ct45),sl45⟩) (c45:W.codeIn K cd45 "_law_name"=true) (k45:W.keepIn K (.ref f45)=true)
  (a46:W.nsIn K mainGlobals "_law_size"=some (some (.ref f46))) (l46:K.lookup f46=some ⟨oc46,od46,.func (W.fnOf "_law_size" "_law_size" (ay kx) (ap kx) (ah kx) .none kV46 dc46 pm46 an46 cd46 ct46),sl46⟩) (c46:W.codeIn K cd46 "_law_size"=true) (k46:W.keepIn K (.ref f46)=true)
  (a47:W.nsIn K mainGlobals "_law_kind"=some (some (.ref f47))) (l47:K.lookup f47=some ⟨oc47,od47,.func (W.fnOf "_law_kind" "_law_kind" (ay kj) (ap kj) (ah kj) .none kV47 dc47 pm47 an47 cd47 ct47),sl47⟩) (c47:W.codeIn K cd47 "_law_kind"=true) (k47:W.keepIn K (.ref f47)=true)
  (a48:W.nsIn K mainGlobals "_law_want"=some (some (.ref f48))) (l48:K.lookup f48=some ⟨oc48,od48,.func (W.fnOf "_law_want" "_law_want" (ay ke) (ap ke) (ah ke) .none kV48 dc48 pm48 an48 cd48 ct48),sl48⟩) (c48:W.codeIn K cd48 "_law_want"=true) (k48:W.keepIn K (.ref f48)=true)
  (a49:W.nsIn K mainGlobals "_law_items"=some (some (.ref f49))) (l49:K.lookup f49=some ⟨oc49,od49,.func (W.fnOf "_law_items" "_law_items" (ay i3) (ap i3) (ah i3) .none kV49 dc49 pm49 an49 cd49 ct49),sl49⟩) (c49:W.codeIn K cd49 "_law_items"=true) (k49:W.keepIn K (.ref f49)=true)
  (a50:W.nsIn K mainGlobals "_law_declaration"=some (some (.ref f50))) (l50:K.lookup f50=some ⟨oc50,od50,.func (W.fnOf "_law_declaration" "_law_declaration" (ay i9) (ap i9) (ah i9) .none kV50 dc50 pm50 an50 cd50 ct50),sl50⟩) (c50:W.codeIn K cd50 "_law_declaration"=true) (k50:W.keepIn K (.ref f50)=true)
  (a51:W.nsIn K mainGlobals "_law_tokens"=some (some (.ref f51))) (l51:K.lookup f51=some ⟨oc51,od51,.func (W.fnOf "_law_tokens" "_law_tokens" (ay iu) (ap iu) (ah iu) .none kV51 dc51 pm51 an51 cd51 ct51),sl51⟩) (c51:W.codeIn K cd51 "_law_tokens"=true) (k51:W.keepIn K (.ref f51)=true)
  (a52:W.nsIn K mainGlobals "_law_written"=some (some (.ref f52))) (l52:K.lookup f52=some ⟨oc52,od52,.func (W.fnOf "_law_written" "_law_written" (ay gr) (ap gr) (ah gr) .none kV52 dc52 pm52 an52 cd52 ct52),sl52⟩) (c52:W.codeIn K cd52 "_law_written"=true) (k52:W.keepIn K (.ref f52)=true)
  (a53:W.nsIn K mainGlobals "_law_loose"=some (some (.ref f53))) (l53:K.lookup f53=some ⟨oc53,od53,.func (W.fnOf "_law_loose" "_law_loose" (ay lm) (ap lm) (ah lm) .none kV53 dc53 pm53 an53 cd53 ct53),sl53⟩) (c53:W.codeIn K cd53 "_law_loose"=true) (k53:W.keepIn K (.ref f53)=true)
  (a54:W.nsIn K mainGlobals "_law_spoiled"=some (some (.ref f54))) (l54:K.lookup f54=some ⟨oc54,od54,.func (W.fnOf "_law_spoiled" "_law_spoiled" (ay dh) (ap dh) (ah dh) .none kV54 dc54 pm54 an54 cd54 ct54),sl54⟩) (c54:W.codeIn K cd54 "_law_spoiled"=true) (k54:W.keepIn K (.ref f54)=true)
  (a55:W.nsIn K mainGlobals "_law_trees"=some (some (.ref f55))) (l55:K.lookup f55=some ⟨oc55,od55,.func (W.fnOf "_law_trees" "_law_trees" (ay iz) (ap iz) (ah iz) .none kV55 dc55 pm55 an55 cd55 ct55),sl55⟩) (c55:W.codeIn K cd55 "_law_trees"=true) (k55:W.keepIn K (.ref f55)=true)
  (a56:W.nsIn K mainGlobals "_law_is_name"=some (some (.ref f56))) (l56:K.lookup f56=some ⟨oc56,od56,.func (W.fnOf "_law_is_name" "_law_is_name" (ay io) (ap io) (ah io) .none kV56 dc56 pm56 an56 cd56 ct56),sl56⟩) (c56:W.codeIn K cd56 "_law_is_name"=true) (k56:W.keepIn K (.ref f56)=true)
  (a57:W.nsIn K mainGlobals "_law_is_far"=some (some (.ref f57))) (l57:K.lookup f57=some ⟨oc57,od57,.func (W.fnOf "_law_is_far" "_law_is_far" (ay km) (ap km) (ah km) .none kV57 dc57 pm57 an57 cd57 ct57),sl57⟩) (c57:W.codeIn K cd57 "_law_is_far"=true) (k57:W.keepIn K (.ref f57)=true)
  (a58:W.nsIn K mainGlobals "_law_number"=some (some (.ref f58))) (l58:K.lookup f58=some ⟨oc58,od58,.func (W.fnOf "_law_number" "_law_number" (ay oi) (ap oi) (ah oi) .none kV58 dc58 pm58 an58 cd58 ct58),sl58⟩) (c58:W.codeIn K cd58 "_law_number"=true) (k58:W.keepIn K (.ref f58)=true)
  (a59:W.nsIn K mainGlobals "_law_is_size"=some (some (.ref f59))) (l59:K.lookup f59=some ⟨oc59,od59,.func (W.fnOf "_law_is_size" "_law_is_size" (ay iN) (ap iN) (ah iN) .none kV59 dc59 pm59 an59 cd59 ct59),sl59⟩) (c59:W.codeIn K cd59 "_law_is_size"=true) (k59:W.keepIn K (.ref f59)=true)
  (a60:W.nsIn K mainGlobals "_law_is_kind"=some (some (.ref f60))) (l60:K.lookup f60=some ⟨oc60,od60,.func (W.fnOf "_law_is_kind" "_law_is_kind" (ay iy) (ap iy) (ah iy) .none kV60 dc60 pm60 an60 cd60 ct60),sl60⟩) (c60:W.codeIn K cd60 "_law_is_kind"=true) (k60:W.keepIn K (.ref f60)=true)
  (a61:W.nsIn K mainGlobals "_law_rest"=some (some (.ref f61))) (l61:K.lookup f61=some ⟨oc61,od61,.func (W.fnOf "_law_rest" "_law_rest" (ay gA) (ap gA) (ah gA) .none kV61 dc61 pm61 an61 cd61 ct61),sl61⟩) (c61:W.codeIn K cd61 "_law_rest"=true) (k61:W.keepIn K (.ref f61)=true)
  (a62:W.nsIn K mainGlobals "_law_is_expression"=some (some (.ref f62))) (l62:K.lookup f62=some ⟨oc62,od62,.func (W.fnOf "_law_is_expression" "_law_is_expression" (ay rW) (ap rW) (ah rW) .none kV62 dc62 pm62 an62 cd62 ct62),sl62⟩) (c62:W.codeIn K cd62 "_law_is_expression"=true) (k62:W.keepIn K (.ref f62)=true)
  (a63:W.nsIn K mainGlobals "_law_is_named"=some (some (.ref f63))) (l63:K.lookup f63=some ⟨oc63,od63,.func (W.fnOf "_law_is_named" "_law_is_named" (ay gp) (ap gp) (ah gp) .none kV63 dc63 pm63 an63 cd63 ct63),sl63⟩) (c63:W.codeIn K cd63 "_law_is_named"=true) (k63:W.keepIn K (.ref f63)=true)
  (a64:W.nsIn K mainGlobals "_law_is_want"=some (some (.ref f64))) (l64:K.lookup f64=some ⟨oc64,od64,.func (W.fnOf "_law_is_want" "_law_is_want" (ay iU) (ap iU) (ah iU) .none kV64 dc64 pm64 an64 cd64 ct64),sl64⟩) (c64:W.codeIn K cd64 "_law_is_want"=true) (k64:W.keepIn K (.ref f64)=true)
  (a65:W.nsIn K mainGlobals "_law_is_seal"=some (some (.ref f65))) (l65:K.lookup f65=some ⟨oc65,od65,.func (W.fnOf "_law_is_seal" "_law_is_seal" (ay il) (ap il) (ah il) .none kV65 dc65 pm65 an65 cd65 ct65),sl65⟩) (c65:W.codeIn K cd65 "_law_is_seal"=true) (k65:W.keepIn K (.ref f65)=true)
  (a66:W.nsIn K mainGlobals "_law_is_face_item"=some (some (.ref f66))) (l66:K.lookup f66=some ⟨oc66,od66,.func (W.fnOf "_law_is_face_item" "_law_is_face_item" (ay oq) (ap oq) (ah oq) .none kV66 dc66 pm66 an66 cd66 ct66),sl66⟩) (c66:W.codeIn K cd66 "_law_is_face_item"=true) (k66:W.keepIn K (.ref f66)=true)
  (a67:W.nsIn K mainGlobals "_law_is_part_item"=some (some (.ref f67))) (l67:K.lookup f67=some ⟨oc67,od67,.func (W.fnOf "_law_is_part_item" "_law_is_part_item" (ay nX) (ap nX) (ah nX) .none kV67 dc67 pm67 an67 cd67 ct67),sl67⟩) (c67:W.codeIn K cd67 "_law_is_part_item"=true) (k67:W.keepIn K (.ref f67)=true)
  (a68:W.nsIn K mainGlobals "_law_is_formal"=some (some (.ref f68))) (l68:K.lookup f68=some ⟨oc68,od68,.func (W.fnOf "_law_is_formal" "_law_is_formal" (ay sG) (ap sG) (ah sG) .none kV68 dc68 pm68 an68 cd68 ct68),sl68⟩) (c68:W.codeIn K cd68 "_law_is_formal"=true) (k68:W.keepIn K (.ref f68)=true)
  (a69:W.nsIn K mainGlobals "_law_is_declaration"=some (some (.ref f69))) (l69:K.lookup f69=some ⟨oc69,od69,.func (W.fnOf "_law_is_declaration" "_law_is_declaration" (ay gP) (ap gP) (ah gP) .none kV69 dc69 pm69 an69 cd69 ct69),sl69⟩) (c69:W.codeIn K cd69 "_law_is_declaration"=true) (k69:W.keepIn K (.ref f69)=true)
  (a70:W.nsIn K mainGlobals "_law_read"=some (some (.ref f70))) (l70:K.lookup f70=some ⟨oc70,od70,.func (W.fnOf "_law_read" "_law_read" (ay oK) (ap oK) (ah oK) .none kV70 dc70 pm70 an70 cd70 ct70),sl70⟩) (c70:W.codeIn K cd70 "_law_read"=true) (k70:W.keepIn K (.ref f70)=true)
  (a71:W.nsIn K mainGlobals "_law_of_tree"=some (some (.ref f71))) (l71:K.lookup f71=some ⟨oc71,od71,.func (W.fnOf "_law_of_tree" "_law_of_tree" (ay fV) (ap fV) (ah fV) .none kV71 dc71 pm71 an71 cd71 ct71),sl71⟩) (c71:W.codeIn K cd71 "_law_of_tree"=true) (k71:W.keepIn K (.ref f71)=true)
  (a72:W.nsIn K mainGlobals "_law_due"=some (some (.ref f72))) (l72:K.lookup f72=some ⟨oc72,od72,.func (W.fnOf "_law_due" "_law_due" (ay AR) (ap AR) (ah AR) .none kV72 dc72 pm72 an72 cd72 ct72),sl72⟩) (c72:W.codeIn K cd72 "_law_due"=true) (k72:W.keepIn K (.ref f72)=true)
  (a73:W.nsIn K mainGlobals "law"=some (some (.ref f73))) (l73:K.lookup f73=some ⟨oc73,od73,.func (W.fnOf "law" "law" (ay rp) (ap rp) (ah rp) .none kV73 dc73 pm73 an73 cd73 ct73),sl73⟩) (c73:W.codeIn K cd73 "law"=true) (k73:W.keepIn K (.ref f73)=true)
  (eT:W.nsIn K mainGlobals "NoTree"=some (some (.ref CT)))
  (eFo:W.nsIn K mainGlobals "NoForm"=some (some (.ref CF)))
  (xT:W.excIn K CT o5 "ValueError.__new__"=true)
  (xF:W.excIn K CF o5 "ValueError.__new__"=true)
  (x1:W.exmOne K (.ref CF) (.ref CF)=some true)
  (x2:W.exmOne K (.ref CT) (.ref CF)=some false)
  (x3:W.exmOne K (.ref CT) (.ref CT)=some true)
  (eD:W.nsIn K mainGlobals "DEEPEST"=some (some (.int 30 tk)))
  (eL:W.nsIn K mainGlobals "LETTERS"=some (some (.str "abcdefghijklmnopqrstuvwxyz" tL)))
  (eN:W.nsIn K mainGlobals "LONGEST_NAME"=some (some (.int 12 tN)))
  (eF:W.nsIn K mainGlobals "FIGURES"=some (some (.str "0123456789" tF)))
  (eM:W.nsIn K mainGlobals "LONGEST_NUMBER"=some (some (.int 19 tM)))
  (eG:W.nsIn K mainGlobals "GREATEST"=some (some (.int 1000000000000000000 tG)))
  (eP:W.nsIn K mainGlobals "NO_NAMES"=some (some (.ref pT)))
  (lT:K.lookup pT=some ⟨.type "tuple",oT,.seq #[.str "num" t1,.str "pair" t2,.str "lit" t3,.str "as" t4,.str "if" t5,.str "let" t6,.str "two" t7,.str "first" t8,.str "second" t9] nT,sT⟩)
  (eA:W.nsIn K mainGlobals "MOST_ARGUMENTS"=some (some (.int 4 tA)))
  (eO:W.nsIn K mainGlobals "OPERATORS"=some (some (.ref pO)))
  (lO:K.lookup pO=some ⟨.type "tuple",oO,.seq #[.str "+" u1,.str "-" u2,.str "*" u3] nO,sO⟩)
  (eE:W.nsIn K mainGlobals "TESTS"=some (some (.ref pTs)))
  (lE:K.lookup pTs=some ⟨.type "tuple",oE,.seq #[.str "=" u4,.str "<" u5] nE,sE⟩)
  (eB:W.nsIn K mainGlobals "BRANCHES"=some (some (.ref pB)))
  (lB:K.lookup pB=some ⟨.type "dict",none,.dict #[⟨hashStr w "if",.str "if" b1,.int 3 d1⟩,⟨hashStr w "two",.str "two" b2,.int 2 d2⟩,⟨hashStr w "first",.str "first" b3,.int 1 d3⟩,⟨hashStr w "second",.str "second" b4,.int 1 d4⟩] nB,#[]⟩)
  (qB:(pB==sysModules)=false)
  (eH:W.nsIn K mainGlobals "AHEAD"=some (some (.ref pA)))
  (lH:K.lookup pA=some ⟨.type "dict",none,.dict #[⟨hashStr w "op",.str "op" g1,.int 3 h1⟩,⟨hashStr w "test",.str "test" g2,.int 2 h2⟩,⟨hashStr w "as",.str "as" g3,.int 2 h3⟩,⟨hashStr w "let",.str "let" g4,.int 2 h4⟩,⟨hashStr w "if",.str "if" g5,.int 1 h5⟩,⟨hashStr w "two",.str "two" g6,.int 1 h6⟩,⟨hashStr w "first",.str "first" g7,.int 1 h7⟩,⟨hashStr w "second",.str "second" g8,.int 1 h8⟩] nA,#[]⟩)
  (qH:(pA==sysModules)=false)
  (z1:W.nsIn K mainGlobals "len"=some none)
  (z2:W.nsIn K mainGlobals "range"=some none)
  (z3:W.nsIn K mainGlobals "isinstance"=some none)
  (z4:W.nsIn K mainGlobals "tuple"=some none)
  (z5:W.nsIn K mainGlobals "str"=some none)
  (z6:W.nsIn K mainGlobals "reversed"=some none)
  (z7:W.nsIn K mainGlobals "enumerate"=some none)
  (z8:W.nsIn K mainGlobals "int"=some none)
  (z9:W.nsIn K mainGlobals "list"=some none)
  (z10:W.nsIn K mainGlobals "all"=some none) :
  ∃fd:FuncData,(∀(s:Shared) (v:Value),BindsTo s fd ⟨[v],[]⟩ [("_law_script",v)])/\∀base:Heap,K.In base->base.Ns mainGlobals mg->aV l.prog w K mg base CX0 105 fa fd ["_law_script"] (yi K):=by
 have e:=hfa.symm.trans (W.mg_of X G a73)
 cases e
 have n1:=W.mg_none_of X G z1
 have n2:=W.mg_none_of X G z2
 have n3:=W.mg_none_of X G z3
 have n4:=W.mg_none_of X G z4
 have n5:=W.mg_none_of X G z5
 have n6:=W.mg_none_of X G z6
 have n7:=W.mg_none_of X G z7
 have n8:=W.mg_none_of X G z8
 have n9:=W.mg_none_of X G z9
 have n10:=W.mg_none_of X G z10
 have m1:=W.mg_of X G a1
 have m2:=W.mg_of X G a2
 have m3:=W.mg_of X G a3
 have m4:=W.mg_of X G a4
 have m5:=W.mg_of X G a5
 have m6:=W.mg_of X G a6
 have m7:=W.mg_of X G a7
 have m8:=W.mg_of X G a8
 have m9:=W.mg_of X G a9
 have m10:=W.mg_of X G a10
 have m11:=W.mg_of X G a11
 have m12:=W.mg_of X G a12
 have m13:=W.mg_of X G a13
 have m14:=W.mg_of X G a14
 have m15:=W.mg_of X G a15
 have m16:=W.mg_of X G a16
 have m17:=W.mg_of X G a17
 have m18:=W.mg_of X G a18
 have m19:=W.mg_of X G a19
 have m20:=W.mg_of X G a20
 have m21:=W.mg_of X G a21
 have m22:=W.mg_of X G a22
 have m23:=W.mg_of X G a23
 have m24:=W.mg_of X G a24
 have m25:=W.mg_of X G a25
 have m26:=W.mg_of X G a26
 have m27:=W.mg_of X G a27
 have m28:=W.mg_of X G a28
 have m29:=W.mg_of X G a29
 have m30:=W.mg_of X G a30
 have m31:=W.mg_of X G a31
 have m32:=W.mg_of X G a32
 have m33:=W.mg_of X G a33
 have m34:=W.mg_of X G a34
 have m35:=W.mg_of X G a35
 have m36:=W.mg_of X G a36
 have m37:=W.mg_of X G a37
 have m38:=W.mg_of X G a38
 have m39:=W.mg_of X G a39
 have m40:=W.mg_of X G a40
 have m41:=W.mg_of X G a41
 have m42:=W.mg_of X G a42
 have m43:=W.mg_of X G a43
 have m44:=W.mg_of X G a44
 have m45:=W.mg_of X G a45
 have m46:=W.mg_of X G a46
 have m47:=W.mg_of X G a47
 have m48:=W.mg_of X G a48
 have m49:=W.mg_of X G a49
 have m50:=W.mg_of X G a50
 have m51:=W.mg_of X G a51
 have m52:=W.mg_of X G a52
 have m53:=W.mg_of X G a53
 have m54:=W.mg_of X G a54
 have m55:=W.mg_of X G a55
 have m56:=W.mg_of X G a56
 have m57:=W.mg_of X G a57
 have m58:=W.mg_of X G a58
 have m59:=W.mg_of X G a59
 have m60:=W.mg_of X G a60
 have m61:=W.mg_of X G a61
 have m62:=W.mg_of X G a62
 have m63:=W.mg_of X G a63
 have m64:=W.mg_of X G a64
 have m65:=W.mg_of X G a65
 have m66:=W.mg_of X G a66
 have m67:=W.mg_of X G a67
 have m68:=W.mg_of X G a68
 have m69:=W.mg_of X G a69
 have m70:=W.mg_of X G a70
 have m71:=W.mg_of X G a71
 have m72:=W.mg_of X G a72
 have m73:=W.mg_of X G a73
 have F1:=aG (st:=ko) l1 c1 k1
 have F2:=aG (st:=fz) l2 c2 k2
 have F3:=aG (st:=iX) l3 c3 k3
 have F4:=aG (st:=eY) l4 c4 k4
 have F5:=aG (st:=iI) l5 c5 k5
 have F6:=aG (st:=oy) l6 c6 k6
 have F7:=aG (st:=AQ) l7 c7 k7
 have F8:=aG (st:=dU) l8 c8 k8
 have F9:=aG (st:=gj) l9 c9 k9
 have F10:=aG (st:=ki) l10 c10 k10
 have F11:=aG (st:=iB) l11 c11 k11
 have F12:=aG (st:=fE) l12 c12 k12
 have F13:=aG (st:=ix) l13 c13 k13
 have F14:=aG (st:=gy) l14 c14 k14
 have F15:=aG (st:=ik) l15 c15 k15
 have F16:=aG (st:=sZ) l16 c16 k16
 have F17:=aG (st:=kr) l17 c17 k17
 have F18:=aG (st:=kd) l18 c18 k18
 have F19:=aG (st:=iR) l19 c19 k19
 have F20:=aG (st:=iM) l20 c20 k20
 have F21:=aG (st:=iK) l21 c21 k21
 have F22:=aG (st:=iA) l22 c22 k22
 have F23:=aG (st:=gm) l23 c23 k23
 have F24:=aG (st:=iL) l24 c24 k24
 have F25:=aG (st:=fu) l25 c25 k25
 have F26:=aG (st:=iY) l26 c26 k26
 have F27:=aG (st:=ku) l27 c27 k27
 have F28:=aG (st:=kc) l28 c28 k28
 have F29:=aG (st:=sFI) l29 c29 k29
 have F30:=aG (st:=AK) l30 c30 k30
 have F31:=aG (st:=sPI) l31 c31 k31
 have F32:=aG (st:=iZ) l32 c32 k32
 have F33:=aG (st:=dS) l33 c33 k33
 have F34:=aG (st:=fA) l34 c34 k34
 have F35:=aG (st:=eZ) l35 c35 k35
 have F36:=aG (st:=iH) l36 c36 k36
 have F37:=aG (st:=kJ) l37 c37 k37
 have F38:=aG (st:=fC) l38 c38 k38
 have F39:=aG (st:=fh) l39 c39 k39
 have F40:=aG (st:=gq) l40 c40 k40
 have F41:=aG (st:=r6) l41 c41 k41
 have F42:=aG (st:=kY) l42 c42 k42
 have F43:=aG (st:=sI) l43 c43 k43
 have F44:=aG (st:=ss) l44 c44 k44
 have F45:=aG (st:=ka) l45 c45 k45
 have F46:=aG (st:=kx) l46 c46 k46
 have F47:=aG (st:=kj) l47 c47 k47
 have F48:=aG (st:=ke) l48 c48 k48
 have F49:=aG (st:=i3) l49 c49 k49
 have F50:=aG (st:=i9) l50 c50 k50
 have F51:=aG (st:=iu) l51 c51 k51
 have F52:=aG (st:=gr) l52 c52 k52
 have F53:=aG (st:=lm) l53 c53 k53
 have F54:=aG (st:=dh) l54 c54 k54
 have F55:=aG (st:=iz) l55 c55 k55
 have F56:=aG (st:=io) l56 c56 k56
 have F57:=aG (st:=km) l57 c57 k57
 have F58:=aG (st:=oi) l58 c58 k58
 have F59:=aG (st:=iN) l59 c59 k59
 have F60:=aG (st:=iy) l60 c60 k60
 have F61:=aG (st:=gA) l61 c61 k61
 have F62:=aG (st:=rW) l62 c62 k62
 have F63:=aG (st:=gp) l63 c63 k63
 have F64:=aG (st:=iU) l64 c64 k64
 have F65:=aG (st:=il) l65 c65 k65
 have F66:=aG (st:=oq) l66 c66 k66
 have F67:=aG (st:=nX) l67 c67 k67
 have F68:=aG (st:=sG) l68 c68 k68
 have F69:=aG (st:=gP) l69 c69 k69
 have F70:=aG (st:=oK) l70 c70 k70
 have F71:=aG (st:=fV) l71 c71 k71
 have F72:=aG (st:=AR) l72 c72 k72
 have F73:=aG (st:=rp) l73 c73 k73
 have b1:=F1.bb (ps:=["text"])
 have b2:=F2.bb (ps:=["text"])
 have b3:=F3.bb (ps:=["trees"])
 have b4:=F4.bb (ps:=["tree"])
 have b5:=F5.bb (ps:=["trees"])
 have b6:=F6.bb (ps:=["word"])
 have b7:=F7.bb (ps:=["word"])
 have b8:=F8.bb (ps:=["text"])
 have b9:=F9.bb (ps:=["tree","least","most"])
 have b10:=F10.bb (ps:=["tree"])
 have b11:=F11.bb (ps:=["tree"])
 have b12:=F12.bb (ps:=["tree","least","most"])
 have b13:=F13.bb (ps:=["tree"])
 have b14:=F14.bb (ps:=["word"])
 have b15:=F15.bb (ps:=["tree"])
 have b16:=F16.bb (ps:=["tree"])
 have b17:=F17.bb (ps:=["trees"])
 have b18:=F18.bb (ps:=["tree"])
 have b19:=F19.bb (ps:=["tree"])
 have b20:=F20.bb (ps:=["tree"])
 have b21:=F21.bb (ps:=["tree"])
 have b22:=F22.bb (ps:=["tree"])
 have b23:=F23.bb (ps:=["tree"])
 have b24:=F24.bb (ps:=["tree"])
 have b25:=F25.bb (ps:=["tree"])
 have b26:=F26.bb (ps:=["tree"])
 have b27:=F27.bb (ps:=["trees"])
 have b28:=F28.bb (ps:=["trees"])
 have b29:=F29.bb (ps:=["tree"])
 have b30:=F30.bb (ps:=["trees"])
 have b31:=F31.bb (ps:=["tree"])
 have b32:=F32.bb (ps:=["expression"])
 have b33:=F33.bb (ps:=["house"])
 have b34:=F34.bb (ps:=["part","name"])
 have b35:=F35.bb (ps:=["kind"])
 have b36:=F36.bb (ps:=["expression"])
 have b37:=F37.bb (ps:=["expression"])
 have b38:=F38.bb (ps:=["declaration"])
 have b39:=F39.bb (ps:=["seal"])
 have b40:=F40.bb (ps:=["named"])
 have b41:=F41.bb (ps:=["item"])
 have b42:=F42.bb (ps:=["items"])
 have b43:=F43.bb (ps:=["item"])
 have b44:=F44.bb (ps:=["_law_script","_law_k"])
 have b45:=F45.bb (ps:=["_law_cell_here"])
 have b46:=F46.bb (ps:=["_law_cell_here"])
 have b47:=F47.bb (ps:=["_law_cell_here"])
 have b48:=F48.bb (ps:=["_law_cell_here"])
 have b49:=F49.bb (ps:=["_law_cell_here","_law_many"])
 have b50:=F50.bb (ps:=["_law_cell_here","_law_other","_law_many"])
 have b51:=F51.bb (ps:=["_law_tree"])
 have b52:=F52.bb (ps:=["_law_tokens_here"])
 have b53:=F53.bb (ps:=["_law_tokens_here","_law_cell_here"])
 have b54:=F54.bb (ps:=["_law_tokens_here","_law_turn_of","_law_cell_here"])
 have b55:=F55.bb (ps:=["_law_tokens_here"])
 have b56:=F56.bb (ps:=["_law_tree"])
 have b57:=F57.bb (ps:=["_law_tree"])
 have b58:=F58.bb (ps:=["_law_tree"])
 have b59:=F59.bb (ps:=["_law_tree"])
 have b60:=F60.bb (ps:=["_law_tree"])
 have b61:=F61.bb (ps:=["_law_head","_law_rest_here"])
 have b62:=F62.bb (ps:=["_law_tree"])
 have b63:=F63.bb (ps:=["_law_tree"])
 have b64:=F64.bb (ps:=["_law_trees_here"])
 have b65:=F65.bb (ps:=["_law_tree"])
 have b66:=F66.bb (ps:=["_law_item"])
 have b67:=F67.bb (ps:=["_law_item"])
 have b68:=F68.bb (ps:=["_law_tree"])
 have b69:=F69.bb (ps:=["_law_tree"])
 have b70:=F70.bb (ps:=["_law_text"])
 have b71:=F71.bb (ps:=["_law_tree"])
 have b72:=F72.bb (ps:=["_law_first","_law_tokens_here"])
 refine⟨W.fnOf "law" "law" (ay rp) (ap rp) (ah rp) .none kV73 dc73 pm73 an73 cd73 ct73,fun s v=>.of_eq rfl,fun base _ _=>?_⟩
 have hT:∀H,SqT K H pT dM:=fun H=>.inr ⟨_,_,_,lT,rfl,rfl,(show(9:Nat)<=sizeLine by decide),.cons ⟨_,rfl⟩ (.cons ⟨_,rfl⟩ (.cons ⟨_,rfl⟩ (.cons ⟨_,rfl⟩ (.cons ⟨_,rfl⟩ (.cons ⟨_,rfl⟩ (.cons ⟨_,rfl⟩ (.cons ⟨_,rfl⟩ (.cons ⟨_,rfl⟩ .nil))))))))⟩
 have hO:∀H,SqT K H pO sW:=fun H=>.inr ⟨_,_,_,lO,rfl,rfl,(show(3:Nat)<=sizeLine by decide),.cons ⟨_,rfl⟩ (.cons ⟨_,rfl⟩ (.cons ⟨_,rfl⟩ .nil))⟩
 have hE:∀H,SqT K H pTs wW:=fun H=>.inr ⟨_,_,_,lE,rfl,rfl,(show(2:Nat)<=sizeLine by decide),.cons ⟨_,rfl⟩ (.cons ⟨_,rfl⟩ .nil)⟩
 have hB:DKt K w pB brs:=yv lB qB (.cons rfl (.cons rfl (.cons rfl (.cons rfl .nil)))) (by decide +kernel)
 have hA:DKt K w pA ahs:=yv lH qH (.cons rfl (.cons rfl (.cons rfl (.cons rfl (.cons rfl (.cons rfl (.cons rfl (.cons rfl .nil)))))))) (by decide +kernel)
 have GP:=uO (P:=l.prog) (w:=w) (base:=base) (mg:=mg) F5 n7
 have GX:=p9 F4 GP b5 k5 m5 n1 n3 n5 n6
 have GO:=vt F3 GX b4 k4 m4
 have GI:=Bb (P:=l.prog) (w:=w) (base:=base) (mg:=mg) F2
 have GT:=xZ F1 GI b2 k2 m2 (W.mg_of X G eD) (W.mg_of X G eT) xT n1 n4
 have GNa:=zE (P:=l.prog) (w:=w) (base:=base) (mg:=mg) F6 n1 n10 (W.mg_of X G eL) (W.mg_of X G eN) (W.mg_of X G eP) hT
 have GNu:=BU (P:=l.prog) (w:=w) (base:=base) (mg:=mg) F7 n1 n10 (W.mg_of X G eF) (W.mg_of X G eM)
 have GBr:=sv (P:=l.prog) (w:=w) (base:=base) (mg:=mg) F9 n1 n3 n4 (W.mg_of X G eFo) xF
 have GAh:=wR F10 GBr b9 k9 m9 n3 n5 (W.mg_of X G eFo) xF
 have GNm:=vy F11 GNa b6 k6 m6 n3 n5 (W.mg_of X G eFo) xF
 have GNo:=qa F12 GNu b7 k7 m7 n3 n5 n8 (W.mg_of X G eFo) xF
 have GSz:=ww F13 GNo b12 k12 m12 (W.mg_of X G eG)
 have GNf:=sB F14 GNa b6 k6 m6 n1 (W.mg_of X G eFo) xF
 have GKo:=oA F15 b15 k15 m15 GNf b14 k14 m14 GAh b10 k10 m10 GBr b9 k9 m9 GSz b13 k13 m13 n3 n5 (W.mg_of X G eFo) xF 31
 have GLi:=yf F18 GBr b9 k9 m9 GSz b13 k13 m13 GNo b12 k12 m12
 have GEx:=uj F16 b16 k16 m16 GNm b11 k11 m11 GAh b10 k10 m10 GBr b9 k9 m9 GSz b13 k13 m13 GLi b18 k18 m18 (fun n GG=>yq F17 GG b16 k16 m16 n4) b17 k17 m17 (fun n GG=>um (m:=3*n+4) F19 GNf b14 k14 m14 GAh b10 k10 m10 GBr b9 k9 m9 GG b17 k17 m17 (W.mg_of X G eA)) b19 k19 m19 (W.mg_of X G eO) hO (W.mg_of X G eE) hE (W.mg_of X G eB) hB n3 n5 31
 have cB:=Ca.mk GBr b9 k9 m9
 have cA:=Ca.mk GAh b10 k10 m10
 have cN:=Ca.mk GNm b11 k11 m11
 have cK:=Ca.mk GKo b15 k15 m15
 have cX:=Ca.mk GEx b16 k16 m16
 have cR:=Ca.mk (xW F28 cB cN cK n4) b28 k28 m28
 have cRf:=Ca.mk (xz F27 cN cR) b27 k27 m27
 have cSe:=Ca.mk (wa F26 cB cRf) b26 k26 m26
 have cFo:=Ca.mk (qh F25 cB cN cRf) b25 k25 m25
 have cFi:=Ca.mk (C5 F29 cA cB cN cK (W.mg_of X G eA) n4 (W.mg_of X G eFo) xF) b29 k29 m29
 have cPi:=Ca.mk (C8 F31 cA cB cN cK cR cX (W.mg_of X G eA) (W.mg_of X G eFo) xF) b31 k31 m31
 have cPs:=Ca.mk (Bs F30 cPi n4) b30 k30 m30
 have cFa:=Ca.mk (wu F21 cB cN cFi n4) b21 k21 m21
 have cPa:=Ca.mk (tI F22 cB cN cSe cPs) b22 k22 m22
 have cMk:=Ca.mk (sS F23 cB cN cSe cFo cPs (W.mg_of X G eA) n4) b23 k23 m23
 have cMd:=Ca.mk (uE F24 cB cN n4) b24 k24 m24
 have cDc:=Ca.mk (vR F20 cA cFa cPa cMk cMd (W.mg_of X G eFo) xF) b20 k20 m20
 have cRh:=Ca.mk (oF F8 (Ca.mk GT b1 k1 m1) cDc) b8 k8 m8
 have GWi:=ud (P:=l.prog) (w:=w) (base:=base) (mg:=mg) F32 (W.mg_of X G eH) hA
 have GNw:=pZ (P:=l.prog) (w:=w) (base:=base) (mg:=mg) F34
 have GWo:=xK F37 GNw b34 k34 m34 n5
 have GTr:=nH F36 b36 k36 m36 GWo b37 k37 m37 GWi b32 k32 m32 n9 n4 31
 have GKt:=jO F35 b35 k35 m35 GNw b34 k34 m34 n5 31
 have GNt:=rT F40 GKt b35 k35 m35 n4
 have GSt:=tQ F39 GNt b40 k40 m40
 have GFt:=zL F41 GKt b35 k35 m35 n4
 have GPt:=AG F43 GKt b35 k35 m35 GNt b40 k40 m40 GTr b36 k36 m36
 have GPst:=xt F42 GPt b43 k43 m43 n4
 have GDt:=zN F38 GFt b41 k41 m41 GSt b39 k39 m39 GPst b42 k42 m42 n4
 have GHt:=oV F33 GDt b38 k38 m38 GO b3 k3 m3
 have GC:=An (P:=l.prog) (w:=w) (base:=base) (mg:=mg) F44 n1
 have GNl:=ye (P:=l.prog) (w:=w) (base:=base) (mg:=mg) F45 n2
 have GSl:=yo (P:=l.prog) (w:=w) (base:=base) (mg:=mg) F46
 have cNl:=Ca.mk GNl b45 k45 m45
 have cKl:=Ca.mk (wQ F47 cNl (Ca.mk GSl b46 k46 m46) n5) b47 k47 m47
 have cWl:=Ca.mk (xU F48 cNl cKl) b48 k48 m48
 have cIl:=Ca.mk (vn F49 cNl cKl n4 n2) b49 k49 m49
 have cDl:=Ca.mk (xh F50 cNl cKl cWl cIl n4 n2) b50 k50 m50
 have GTo:=oY (P:=l.prog) (w:=w) (base:=base) (mg:=mg) F51 b51 k51 m51 n3 n5 31
 have GW:=sQ (P:=l.prog) (w:=w) (base:=base) (mg:=mg) F52 n1 n2
 have GL:=ya (P:=l.prog) (w:=w) (base:=base) (mg:=mg) F53 n1 n2
 have GSp:=yt (P:=l.prog) (w:=w) (base:=base) (mg:=mg) F54 n1
 have GTl:=tO (P:=l.prog) (w:=w) (base:=base) (mg:=mg) F55 n4
 have GIn:=uv (P:=l.prog) (w:=w) (base:=base) (mg:=mg) F56 n1 n10 n3 n5
 have GIf:=xi F57 GIn b56 k56 m56 n1 n10 n3 n5
 have GNn:=Ac (P:=l.prog) (w:=w) (base:=base) (mg:=mg) F58 n1 n3 n5 n8
 have GIs:=vK F59 GNn b58 k58 m58
 have GIk:=nK F60 b60 k60 m60 GIf b57 k57 m57 GIs b59 k59 m59 n3 n5 n1 31
 have GRs:=zv F61 GIf b57 k57 m57 GIs b59 k59 m59 GNn b58 k58 m58 GIn b56 k56 m56 n1 n8
 have GIe:=u7 F62 b62 k62 m62 GRs b61 k61 m61 GIn b56 k56 m56 n3 n5 n1 n10 31
 have bN:=Ca.mk (GIn.imp Aq) b56 k56 m56
 have bK:=Ca.mk (GIk.imp zI) b60 k60 m60
 have bX:=Ca.mk (GIe.imp CN) b62 k62 m62
 have bR:=Ca.mk (sr F63 bN bK n3 n4 n1) b63 k63 m63
 have bW:=Ca.mk (uz F64 bN bR n1 n10) b64 k64 m64
 have bS:=Ca.mk (vx F65 bW n3 n4) b65 k65 m65
 have bF:=Ca.mk (zA F66 bN bK n3 n4 n5 n1 n10) b66 k66 m66
 have bP:=Ca.mk (zx F67 bN bK bR bX n3 n4 n5 n1 n10) b67 k67 m67
 have bO:=Ca.mk (AC F68 bN bW n3 n4 n1) b68 k68 m68
 have bD:=Ca.mk (zB F69 bN bF bP bS bO n3 n4 n5 n1 n10) b69 k69 m69
 have cRd:=Ca.mk (zp F70 cRh (Ca.mk GHt b33 k33 m33) (W.mg_of X G eFo) (W.mg_of X G eT) x1 x2 x3) b70 k70 m70
 have cOt:=Ca.mk (vb F71 cDc (W.mg_of X G eFo) x1) b71 k71 m71
 have cTl:=Ca.mk GTl b55 k55 m55
 have cWr:=Ca.mk GW b52 k52 m52
 have cTo:=Ca.mk GTo b51 k51 m51
 have cDu:=Ca.mk (A4 F72 cTl bD cWr cTo n10) b72 k72 m72
 exact By F73 (Ca.mk GC b44 k44 m44) cDl cTo (Ca.mk GSp b54 k54 m54) cTl cOt bD (Ca.mk GL b53 k53 m53) cRd cDu cWr n2
theorem walk{l:W.OpenLaw}{q:Program}{loose:List Str}{XP:(Str->Option Value)->Heap->Prop}{YP:World->Heap->Prop}{d:DefRec}{K:Params->W.Frag}(hn:l.most=some 63)(hdf:d.params.defaults=[])
  (hY:∀(w:World) (h:Heap),YP w h->(K w.params).In h)
  (F:∀(w:World) (mg:Str->Option Value) (fa:Addr) (h:Heap),(K w.params).In h->h.Ns mainGlobals mg->mg d.name=some (.ref fa) ->
   ∃fd:FuncData,(∀(s:Shared) (u:Value),BindsTo s fd ⟨[u],[]⟩ [("_law_script",u)])/\∀base:Heap,(K w.params).In base->base.Ns mainGlobals mg->aV l.prog w (K w.params) mg base CX0 105 fa fd ["_law_script"] (yi (K w.params))) :
  W.WalkO q loose XP YP l.row.toRowW d [] (fun f vs=>PySem.call f vs) :=
 L2.walk_of (n:=63) (k:=105) (x:="_law_script") (CX:=fun _=>CX0) (sp:=fun w=>yi (K w.params)) hn (by decide) hdf ⟨rfl,by decide,by decide,rfl⟩ hY F (fun _ _ a ns hl _ hS=>⟨a,ns,rfl,hS,hl,fun _=>rfl⟩) fun _ _ _ _ _ z=>z
end K19
open PySem PySem.W PyProof.Rows
set_option maxRecDepth 100000 in
theorem PySem.Challenge.cw_sealhouse_k19_no_declaration_holds : PySem.Challenge.rw_sealhouse_k19_no_declaration.Holds := by
 w_on;o_law;z_head;(case hw=>w_witness2)
 k_fill
 refine L2.walk_z (fun _=>rfl) ?_
 refine K19.walk (l:=PySem.Challenge.rw_sealhouse_k19_no_declaration) rfl rfl (fun w h Y=>Y) ?F
 case F =>
  intro w mg fa h KX G hmg
  refine' K19.all_mk KX G hmg ?a1 ?l1 ?c1 ?k1 ?a2 ?l2 ?c2 ?k2 ?a3 ?l3 ?c3 ?k3 ?a4 ?l4 ?c4 ?k4 ?a5 ?l5 ?c5 ?k5 ?a6 ?l6 ?c6 ?k6 ?a7 ?l7 ?c7 ?k7 ?a8 ?l8 ?c8 ?k8 ?a9 ?l9 ?c9 ?k9 ?a10 ?l10 ?c10 ?k10 ?a11 ?l11 ?c11 ?k11 ?a12 ?l12 ?c12 ?k12 ?a13 ?l13 ?c13 ?k13 ?a14 ?l14 ?c14 ?k14 ?a15 ?l15 ?c15 ?k15 ?a16 ?l16 ?c16 ?k16 ?a17 ?l17 ?c17 ?k17 ?a18 ?l18 ?c18 ?k18 ?a19 ?l19 ?c19 ?k19 ?a20 ?l20 ?c20 ?k20 ?a21 ?l21 ?c21 ?k21 ?a22 ?l22 ?c22 ?k22 ?a23 ?l23 ?c23 ?k23 ?a24 ?l24 ?c24 ?k24 ?a25 ?l25 ?c25 ?k25 ?a26 ?l26 ?c26 ?k26 ?a27 ?l27 ?c27 ?k27 ?a28 ?l28 ?c28 ?k28 ?a29 ?l29 ?c29 ?k29 ?a30 ?l30 ?c30 ?k30 ?a31 ?l31 ?c31 ?k31 ?a32 ?l32 ?c32 ?k32 ?a33 ?l33 ?c33 ?k33 ?a34 ?l34 ?c34 ?k34 ?a35 ?l35 ?c35 ?k35 ?a36 ?l36 ?c36 ?k36 ?a37 ?l37 ?c37 ?k37 ?a38 ?l38 ?c38 ?k38 ?a39 ?l39 ?c39 ?k39 ?a40 ?l40 ?c40 ?k40 ?a41 ?l41 ?c41 ?k41 ?a42 ?l42 ?c42 ?k42 ?a43 ?l43 ?c43 ?k43 ?a44 ?l44 ?c44 ?k44 ?a45 ?l45 ?c45 ?k45 ?a46 ?l46 ?c46 ?k46 ?a47 ?l47 ?c47 ?k47 ?a48 ?l48 ?c48 ?k48 ?a49 ?l49 ?c49 ?k49 ?a50 ?l50 ?c50 ?k50 ?a51 ?l51 ?c51 ?k51 ?a52 ?l52 ?c52 ?k52 ?a53 ?l53 ?c53 ?k53 ?a54 ?l54 ?c54 ?k54 ?a55 ?l55 ?c55 ?k55 ?a56 ?l56 ?c56 ?k56 ?a57 ?l57 ?c57 ?k57 ?a58 ?l58 ?c58 ?k58 ?a59 ?l59 ?c59 ?k59 ?a60 ?l60 ?c60 ?k60 ?a61 ?l61 ?c61 ?k61 ?a62 ?l62 ?c62 ?k62 ?a63 ?l63 ?c63 ?k63 ?a64 ?l64 ?c64 ?k64 ?a65 ?l65 ?c65 ?k65 ?a66 ?l66 ?c66 ?k66 ?a67 ?l67 ?c67 ?k67 ?a68 ?l68 ?c68 ?k68 ?a69 ?l69 ?c69 ?k69 ?a70 ?l70 ?c70 ?k70 ?a71 ?l71 ?c71 ?k71 ?a72 ?l72 ?c72 ?k72 ?a73 ?l73 ?c73 ?k73 ?eT ?eFo ?xT ?xF ?x1 ?x2 ?x3 ?eD ?eL ?eN ?eF ?eM ?eG ?eP ?lT ?eA ?eO ?lO ?eE ?lE ?eB ?lB ?qB ?eH ?lH ?qH ?z1 ?z2 ?z3 ?z4 ?z5 ?z6 ?z7 ?z8 ?z9 ?z10
  (case a1|l1|c1|k1|a2|l2|c2|k2|a3|l3|c3|k3|a4|l4|c4|k4|a5|l5|c5|k5|a6|l6|c6|k6|a7|l7|c7|k7|a8|l8|c8|k8|a9|l9|c9|k9|a10|l10|c10|k10|a11|l11|c11|k11|a12|l12|c12|k12|a13|l13|c13|k13|a14|l14|c14|k14|a15|l15|c15|k15|a16|l16|c16|k16|a17|l17|c17|k17|a18|l18|c18|k18|a19|l19|c19|k19|a20|l20|c20|k20|a21|l21|c21|k21|a22|l22|c22|k22|a23|l23|c23|k23|a24|l24|c24|k24|a25|l25|c25|k25|a26|l26|c26|k26|a27|l27|c27|k27|a28|l28|c28|k28|a29|l29|c29|k29|a30|l30|c30|k30|a31|l31|c31|k31|a32|l32|c32|k32|a33|l33|c33|k33|a34|l34|c34|k34|a35|l35|c35|k35|a36|l36|c36|k36|a37|l37|c37|k37|a38|l38|c38|k38|a39|l39|c39|k39|a40|l40|c40|k40|a41|l41|c41|k41|a42|l42|c42|k42|a43|l43|c43|k43|a44|l44|c44|k44|a45|l45|c45|k45|a46|l46|c46|k46|a47|l47|c47|k47|a48|l48|c48|k48|a49|l49|c49|k49|a50|l50|c50|k50|a51|l51|c51|k51|a52|l52|c52|k52|a53|l53|c53|k53|a54|l54|c54|k54|a55|l55|c55|k55|a56|l56|c56|k56|a57|l57|c57|k57|a58|l58|c58|k58|a59|l59|c59|k59|a60|l60|c60|k60|a61|l61|c61|k61|a62|l62|c62|k62|a63|l63|c63|k63|a64|l64|c64|k64|a65|l65|c65|k65|a66|l66|c66|k66|a67|l67|c67|k67|a68|l68|c68|k68|a69|l69|c69|k69|a70|l70|c70|k70|a71|l71|c71|k71|a72|l72|c72|k72|a73|l73|c73|k73|eT|eFo=>k_is)
  (case xT|xF=>with_unfolding_all exact rfl)
  (case x1|x2|x3=>exact rfl)
  (case eD|eL|eN|eF|eM|eG|eP|lT|eA|eO|lO|eE|lE|eB=>k_is)
  (case lB=>with_unfolding_all exact rfl)
  (case qB=>exact rfl)
  (case eH=>k_is)
  (case lH=>with_unfolding_all exact rfl)
  (case qH=>exact rfl)
  (case z1|z2|z3|z4|z5|z6|z7|z8|z9|z10=>k_is)
#print axioms PySem.Challenge.cw_sealhouse_k19_no_declaration_holds
