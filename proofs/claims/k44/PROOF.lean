import PyProof.Rows.All
import Wide.All
import OpenK.AllK
import Wide.FinOn
import Lean
import PyProof.EqAt
import PyProof.EqKinds
import PyProof.TupleCall
import PySem.Challenge.RW_sealhouse_k44_makers
set_option maxHeartbeats 0
set_option Elab.async false
set_option linter.all false
set_option genInjectivity false
set_option genSizeOf false
set_option genSizeOfSpec false
set_option maxRecDepth 100000
namespace L2
open PySem PySem.Spec PyProof.Rows
abbrev Key:=Sum Int Str
def pG:Key->Value->Bool
 |.inl k,v=>Value.isInt k v
 |.inr x,v=>Value.isStrOf x v
def CH(w:World):Key->Int
 |.inl k=>hashInt k
 |.inr x=>hashStr w x
theorem ca:∀{k:Key} {v:Value},pG k v=true->(∃i t,k=Sum.inl i/\v=Value.int i t)\/(∃x t,k=Sum.inr x/\v=Value.str x t)
 |.inl i,v,h=>by
  obtain⟨t,e⟩:=Value.isInt_shape (k:=i) (v:=v) h
  exact .inl ⟨i,t,rfl,e⟩
 |.inr x,v,h=>by
  obtain⟨t,e⟩:=Value.isStrOf_shape (x:=x) (v:=v) h
  exact .inr ⟨x,t,rfl,e⟩
theorem uM(i:Int)(t:Tok):pG (.inl i) (.int i t)=true:=by simp [pG,Value.isInt]
theorem vC(x:Str)(t:Tok):pG (.inr x) (.str x t)=true:=by simp [pG,Value.isStrOf]
theorem zL(a b:Int):decide ((Sum.inl a:Key)=Sum.inl b)=(a==b):=by
 by_cases e:a=b
 ·subst e;simp
 ·have h:¬(Sum.inl a:Key)=Sum.inl b:=λq=>e (Sum.inl.inj q)
  rw [decide_eq_false h]
  exact(beq_eq_false_iff_ne.mpr e).symm
theorem AE(a b:Str):decide ((Sum.inr a:Key)=Sum.inr b)=decide (a=b):=by
 by_cases e:a=b
 ·subst e;simp
 ·have h:¬(Sum.inr a:Key)=Sum.inr b:=λq=>e (Sum.inr.inj q)
  rw [decide_eq_false h,decide_eq_false e]
theorem A5(a:Int)(b:Str):decide ((Sum.inl a:Key)=Sum.inr b)=false:=decide_eq_false (λq=>nomatch q)
theorem AB(a:Str)(b:Int):decide ((Sum.inr a:Key)=Sum.inl b)=false:=decide_eq_false (λq=>nomatch q)
def bf(prog:Program)(w:World):PySem.KeyKind prog w Key where
 is:=pG
 hash:=CH w
 inj:=λv a b ha hb=>by
  rcases ca ha with ⟨i,t,rfl,rfl⟩|⟨x,t,rfl,rfl⟩
  ·rcases ca hb with ⟨j,u,rfl,e⟩|⟨y,u,rfl,e⟩
   ·injection e with e1 _;rw [e1]
   ·exact nomatch e
  ·rcases ca hb with ⟨j,u,rfl,e⟩|⟨y,u,rfl,e⟩
   ·exact nomatch e
   ·injection e with e1 _;rw [e1]
 byValue:=λk v h=>by
  rcases ca h with ⟨i,t,rfl,rfl⟩|⟨x,t,rfl,rfl⟩<;>rfl
 pyHash:=λhv h=>by
  rcases ca hv with ⟨i,t,rfl,rfl⟩|⟨x,t,rfl,rfl⟩
  ·exact wpAny_pyHash_int h
  ·exact wpAny_pyHash_str h
 eqBool:=λhu hv h=>by
  rcases ca hu with ⟨i,t,rfl,rfl⟩|⟨x,t,rfl,rfl⟩
  ·rcases ca hv with ⟨j,u,rfl,rfl⟩|⟨y,u,rfl,rfl⟩
   ·rw [zL] at h;exact wpAny_eqBool_int h
   ·rw [A5] at h;exact SeqAt.EqAt.int_str i t y u _ _ _ _ h
  ·rcases ca hv with ⟨j,u,rfl,rfl⟩|⟨y,u,rfl,rfl⟩
   ·rw [AB] at h;exact SeqAt.EqAt.str_int x t j u _ _ _ _ h
   ·rw [AE] at h;exact wpAny_eqBool_str h
 «strs»:=λk x t v h=>by
  rcases ca h with ⟨i,u,rfl,e⟩|⟨y,u,rfl,e⟩
  ·exact nomatch e
  ·injection e with e1 _
   subst e1
   cases v<;>rfl
theorem sf(prog:Program)(w:World)(k:Key)(v:Value):(bf prog w).is k v=pG k v:=rfl
theorem pT(prog:Program)(w:World)(i:Int)(t:Tok):(bf prog w).is (.inl i) (.int i t)=true:=uM i t
theorem pB(prog:Program)(w:World)(x:Str)(t:Tok):(bf prog w).is (.inr x) (.str x t)=true:=vC x t
set_option genInjectivity true in
inductive V where
 |non|bl (b:Bool)|int (i:Int)|str (x:Str)|byt (b:Array UInt8)|flt (b:UInt64)|ref (a:Addr)|ty (n:String)
 deriving DecidableEq
def cy:V->Value->Prop
 |.non,u=>u=Value.none
 |.bl b,u=>u=Value.bool b
 |.int i,u=>∃t,u=Value.int i t
 |.str x,u=>∃t,u=Value.str x t
 |.byt b,u=>∃t,u=Value.bytes b t
 |.flt b,u=>∃t,u=Value.float b t
 |.ref a,u=>u=Value.ref a
 |.ty n,u=>u=Value.type n
abbrev cr:List V->List Value->Prop:=Paired cy
theorem cr.length{xs:List V}{us:List Value}(r:cr xs us):xs.length=us.length:=Paired.length r
theorem cr.get:∀{xs:List V} {us:List Value} {i:Nat} {x:V},cr xs us->xs[i]?=some x->∃u,us[i]?=some u/\cy x u
 |_,_,_,_,.nil,e=>by simp at e
 |_,_,0,_,.cons r _,e=>by simp at e;subst e;exact⟨_,rfl,r⟩
 |_,_,i+1,x,.cons _ t,e=>by
  obtain⟨u,h1,h2⟩:=cr.get (i:=i) (x:=x) t (by simpa using e)
  exact⟨u,by simpa using h1,h2⟩
theorem cr.append:∀{xs ys:List V} {us ws:List Value},cr xs us->cr ys ws->cr (xs++ys) (us++ws)
 |_,_,_,_,.nil,s=>s
 |_,_,_,_,.cons r t,s=>.cons r (cr.append t s)
theorem cr.take:∀{xs:List V} {us:List Value} (n:Nat),cr xs us->cr (xs.take n) (us.take n)
 |_,_,0,_=>.nil
 |_,_,_+1,.nil=>.nil
 |_,_,n+1,.cons r t=>.cons r (cr.take n t)
theorem cr.drop:∀{xs:List V} {us:List Value} (n:Nat),cr xs us->cr (xs.drop n) (us.drop n)
 |_,_,0,r=>r
 |_,_,_+1,.nil=>.nil
 |_,_,n+1,.cons _ t=>cr.drop n t
def nG:Option V->Option Value->Prop
 |some v,some u=>cy v u
 |none,none=>True
 |_,_=>False
def KV{κ:Type}:List (κ × V)->List (κ × Value)->Prop:=Paired fun(p:κ × V) (q:κ × Value)=>p.1=q.1/\cy p.2 q.2
def kV:Key->V
 |.inl i=>.int i
 |.inr x=>.str x
inductive HO where
 |lst (xs:List V)
 |tup (xs:List V)
 |dK (kvs:List (Key × V))|dT (kvs:List (List Key × V))
 |set (S:Int->Bool) (n:Nat)
 |ins (C dx:Addr) (fs:List (Str × V))
 |own (x:Addr)
 |xd (fs:List (Str × V))
 |met (f x:Addr)
 |rng (lo hi:Int)
 |frz (o:Obj) (u:HO)
 |tbl (ps:Array Value)
 |ext (φ:Heap->Prop)
abbrev Hp:=Addr->Option HO
def upd(H:Hp)(a:Addr)(o:HO):Hp:=λb=>if b=a then some o else H b
theorem aa{H:Hp}{a:Addr}{o:HO}:upd H a o a=some o:=by unfold upd;rw [if_pos rfl]
theorem ah{H:Hp}{a b:Addr}{o:HO}(h:b≠a):upd H a o b=H b:=by unfold upd;rw [if_neg h]
theorem ji{H:Hp}{a:Addr}{o u:HO}:upd (upd H a o) a u=upd H a u:=by
 funext b;unfold upd;split<;>rfl
theorem yK{H:Hp}{a b:Addr}{o u:HO}(h:H a=some o)(h':H b=some u)(d:o≠u):a≠b:=by
 intro e;subst e;rw [h] at h';exact d (Option.some.inj h')
theorem aw{H:Hp}{a b:Addr}{o:HO}(h:H a=some o)(h':H b=none):a≠b:=by
 intro e;subst e;rw [h] at h';cases h'
section
variable(P:Program)(w:World)
def dl(H:Hp)(h:Heap)(a:Addr):HO->Prop
 |.lst xs=>xs.length<=sizeLine/\∃(its:List Value) (n:Nat),cr xs its/\h.get? a=some { cls:=.type "list",data:=.seq its.toArray n }
 |.tup xs=>xs.length<=sizeLine/\∃its:List Value,cr xs its/\IsTup h a its.toArray
 |.dK kvs=>kvs.length<=sizeLine/\(a==sysModules)=false/\∃vs,KV kvs vs/\h.DictOf (bf P w) a vs
 |.dT kvs=>kvs.length<=sizeLine/\(a==sysModules)=false/\∃xs:List (List Key × Addr × Value),
   Paired (fun(p:List Key × V) (q:List Key × Addr × Value)=>p.1=q.1/\H q.2.1=some (.tup (p.1.map kV))/\cy p.2 q.2.2) kvs xs /\
   ∃o es ep,h.get? a=some o/\o.ExactDict/\o.data=.dict es ep/\es.toList=xs.map (entryOfKey (tupleKind (bf P w)))/\(xs.map (·.1)).Nodup
 |.set S n=>h.SetOf (intKind P w) a S n
 |.ins C dx fs=>H dx=some (.own a)/\fs.length<=1000/\dx≠a/\h.get? a=some (W.instObj C dx) /\
   ∃mA,h.Ns1 dx mA/\(∀f,nG (fs.lookup f) (mA f))/\PySem.Within mA (fs.map (·.1))
 |.own _=>∃o,h.get? a=some o
 |.xd fs=>∃mA,h.Ns1 a mA/\∀f,nG (fs.lookup f) (mA f)
 |.rng lo hi=>∃t u v,h.get? a=some { cls:=.type "range",data:=.fields #[.int lo t,.int hi u,.int 1 v] }
 |.frz o u=>h.get? a=some o/\dl H h a u
 |.tbl ps=>h.get? a=some { cls:=.none,data:=.fields ps }
 |.met f x=>h.get? a=some (W.methodObj (.ref f) (.ref x))
 |.ext φ=>φ h/\(∃o,h.get? a=some o)/\∀h1 h2:Heap,φ h1->(∀o,h1.get? a=some o->h2.get? a=some o)->φ h2
def HOk(H:Hp)(h:Heap):Prop:=∀a o,H a=some o->dl P w H h a o
end
section
variable{P:Program}{w:World}{H H':Hp}{h h':Heap}{a:Addr}{o:HO}
theorem dl.lt(x:dl P w H h a o):a < h.objs.size:=by
 cases o with
 |lst xs=>obtain⟨_,_,_,_,e⟩:=x;exact Heap.lt_size e
 |tup xs=>obtain⟨_,_,_,p⟩:=x;exact p.lt
 |dK kvs=>obtain⟨_,_,_,_,o,_,_,e,_⟩:=x;exact Heap.lt_size e
 |dT kvs=>obtain⟨_,_,_,_,o,_,_,e,_⟩:=x;exact Heap.lt_size e
 |set S n=>obtain⟨o,_,_,_,e,_⟩:=x;exact Heap.lt_size e
 |ins C dx fs=>obtain⟨_,_,_,e,_⟩:=x;exact Heap.lt_size e
 |own y=>obtain⟨_,e⟩:=x;exact Heap.lt_size e
 |xd fs=>obtain⟨_,⟨_,_,_,e,_⟩,_⟩:=x;exact Heap.lt_size e
 |rng lo hi=>obtain⟨_,_,_,e⟩:=x;exact Heap.lt_size e
 |frz ob u=>obtain⟨e,_⟩:=x;exact Heap.lt_size e
 |tbl ps=>exact Heap.lt_size (show h.get? a=some _ from x)
 |met f y=>exact Heap.lt_size (show h.get? a=some _ from x)
 |ext φ=>obtain⟨_,⟨_,e⟩,_⟩:=x;exact Heap.lt_size e
theorem Paired.mapP{α β:Type}{F G:α->β->Prop}:∀{l₁:List α} {l₂:List β},Paired F l₁ l₂->(∀a b,F a b->G a b)->Paired G l₁ l₂
 |_,_,.nil,_=>.nil
 |_,_,.cons r t,f=>.cons (f _ _ r) (Paired.mapP t f)
theorem Paired.imp'{α β:Type}{F G:α->β->Prop}(f:∀a b,F a b->G a b){l₁:List α}{l₂:List β}(r:Paired F l₁ l₂):Paired G l₁ l₂:=Paired.mapP r f
theorem dl.stay(x:dl P w H h a o)(k:∀b u,(b=a\/H b=some (.own a))->h.get? b=some u->h'.get? b=some u)
  (ho:∀b,H b=some (.own a)->H' b=some (.own a)) (ht:∀b xs,H b=some (.tup xs)->H' b=some (.tup xs)):dl P w H' h' a o:=by
 induction o with
 |lst xs=>obtain⟨z,its,n,r,e⟩:=x;exact⟨z,its,n,r,k _ _ (.inl rfl) e⟩
 |tup xs=>obtain⟨z,its,r,ob,e,c⟩:=x;exact⟨z,its,r,ob,k _ _ (.inl rfl) e,c⟩
 |dK kvs=>obtain⟨z,y,vs,r,ob,es,ep,e,c⟩:=x;exact⟨z,y,vs,r,ob,es,ep,k _ _ (.inl rfl) e,c⟩
 |dT kvs =>
  obtain⟨z,y,xs,r,ob,es,ep,e,c⟩:=x
  exact⟨z,y,xs,Paired.mapP r λp q z=>⟨z.1,ht _ _ z.2.1,z.2.2⟩,ob,es,ep,k _ _ (.inl rfl) e,c⟩
 |set S n=>obtain⟨ob,es,ep,t,e,c⟩:=x;exact⟨ob,es,ep,t,k _ _ (.inl rfl) e,c⟩
 |ins C dx fs =>
  obtain⟨d,z,ne,e,mA,⟨od,es,ep,e2,c⟩,r⟩:=x
  exact⟨ho _ d,z,ne,k _ _ (.inl rfl) e,mA,⟨od,es,ep,k _ _ (.inr d) e2,c⟩,r⟩
 |own y=>obtain⟨ob,e⟩:=x;exact⟨ob,k _ _ (.inl rfl) e⟩
 |xd fs=>obtain⟨mA,⟨od,es,ep,e,c⟩,r⟩:=x;exact⟨mA,⟨od,es,ep,k _ _ (.inl rfl) e,c⟩,r⟩
 |rng lo hi=>obtain⟨t,u,v,e⟩:=x;exact⟨t,u,v,k _ _ (.inl rfl) e⟩
 |frz ob u ih=>obtain⟨e,q⟩:=x;exact⟨k _ _ (.inl rfl) e,ih q⟩
 |tbl ps =>
  have e:h.get? a=some { cls:=.none,data:=.fields ps }:=x
  show h'.get? a=some { cls:=.none,data:=.fields ps }
  exact k a _ (.inl rfl) e
 |met f y =>
  have e:h.get? a=some (W.methodObj (.ref f) (.ref y)):=x
  show h'.get? a=some (W.methodObj (.ref f) (.ref y))
  exact k a _ (.inl rfl) e
 |ext φ=>obtain⟨p,⟨o,e⟩,st⟩:=x;exact⟨st _ _ p λo q=>k _ _ (.inl rfl) q,⟨o,k _ _ (.inl rfl) e⟩,st⟩
theorem HOk.lt(x:HOk P w H h)(e:H a=some o):a < h.objs.size:=(x a o e).lt
theorem HOk.fresh(x:HOk P w H h)(e:h.objs.size<=a):H a=none:=by
 cases q:H a with
 |none=>rfl
 |some u=>exact absurd (Nat.lt_of_lt_of_le (x.lt q) e) (Nat.lt_irrefl _)
theorem HOk.kept(x:HOk P w H h)(k:∀b u,h.get? b=some u->h'.get? b=some u):HOk P w H h':=λa o e =>
 (x a o e).stay (λb u _ q=>k b u q) (λ_ q=>q) λ_ _ q=>q
theorem HOk.laid(x:HOk P w H h)(k:∀b u,h.get? b=some u->h'.get? b=some u)(hp:h.objs.size<=a)(new:dl P w (upd H a o) h' a o):HOk P w (upd H a o) h':=λb u e=>by
 have hn:=x.fresh hp
 by_cases hb:b=a
 ·subst hb;rw [aa] at e;cases e;exact new
 ·rw [ah hb] at e
  exact(x b u e).stay (λc v _ q=>k c v q) (λc q=>by rw [ah (aw q hn)];exact q) λc xs q=>by rw [ah (aw q hn)];exact q
end
def Rd(H:Hp)(a:Addr)(u:HO):Prop:=H a=some u\/∃o,H a=some (.frz o u)
theorem Rd.ok{P:Program}{w:World}{H:Hp}{h:Heap}{a:Addr}{u:HO}(r:Rd H a u)(x:HOk P w H h):dl P w H h a u:=by
 rcases r with r|⟨o,r⟩
 ·exact x a u r
 ·obtain⟨_,q⟩:=x a _ r
  exact q
def Mut:Option HO->Prop
 |some (.lst _)=>True
 |some (.dK _)=>True
 |some (.dT _)=>True
 |some (.set _ _)=>True
 |some (.ins _ _ _)=>True
 |some (.ext _)=>True
 |_=>False
section
variable{P:Program}{w:World}{H:Hp}{h h':Heap}{x e:Addr}{o':HO}
theorem HOk.write(ok:HOk P w H h)(mu:Mut (H x))(he:e=x\/H e=some (.own x))(k:∀b u,b≠e->h.get? b=some u->h'.get? b=some u)(heo:∃u,h'.get? e=some u)
  (new:dl P w (upd H x o') h' x o'):HOk P w (upd H x o') h':=λb u q=>by
 have nown:∀c y,H c=some (.own y)->c≠x:=λc y r z=>by subst z;rw [r] at mu;exact mu
 have ntup:∀c xs,H c=some (.tup xs)->c≠x:=λc xs r z=>by subst z;rw [r] at mu;exact mu
 by_cases hb:b=x
 ·subst hb;rw [aa] at q;cases q;exact new
 ·rw [ah hb] at q
  by_cases hbe:b=e
  ·have q':H b=some (.own x):=by
    rcases he with z|z
    ·exact absurd (hbe.trans z) hb
    ·rw [hbe];exact z
   rw [q] at q';cases q'
   obtain⟨v,hv⟩:=heo
   exact⟨v,by rw [hbe];exact hv⟩
  ·refine(ok b u q).stay (λc v hc r=>k c v ?_ r) (λc r=>by rw [ah (nown c b r)];exact r) λc xs r=>by rw [ah (ntup c xs r)];exact r
   rcases hc with rfl|hc
   ·exact hbe
   ·rintro rfl
    rcases he with z|z
    ·exact nown c b hc z
    ·rw [hc] at z;cases z;exact hb rfl
end
structure Un(fs ex:List Addr)(H H':Hp)(h h':Heap):Prop where
 keep:∀b o,h.get? b=some o->H b=none->b∉fs->b∉ex->h'.get? b=some o
 slot:∀b o,h.get? b=some o->H b=none->b∈fs->b∉ex->∃sl,h'.get? b=some { o with slots:=sl }
 free:∀b o,h.get? b=some o->H b=none->b∉ex->H' b=none
 there:∀b o,h.get? b=some o->b∉ex->∃o',h'.get? b=some o'
 tups:∀b xs,H b=some (.tup xs)->H' b=some (.tup xs)
 frzs:∀b o u,H b=some (.frz o u)->H' b=some (.frz o u)
 tbls:∀b ps,H b=some (.tbl ps)->∃more,H' b=some (.tbl (ps++more))
section
variable{fs fs' ex ex':List Addr}{H H1 H2:Hp}{h h1 h2 h':Heap}{a x e:Addr}{o:HO}
theorem Un.any(u:Un fs ex H H1 h h1){b:Addr}{ob:Obj}(q:h.get? b=some ob)(n:H b=none)(hx:b∉ex):∃sl,h1.get? b=some { ob with slots:=sl }:=by
 by_cases hb:b∈fs
 ·exact u.slot b ob q n hb hx
 ·exact⟨ob.slots,u.keep b ob q n hb hx⟩
theorem Un.kept(k:∀b u,h.get? b=some u->h'.get? b=some u):Un fs ex H H h h' :=
 ⟨λb ob q _ _ _=>k b ob q,λb ob q _ _ _=>⟨ob.slots,k b ob q⟩,λ_ _ _ n _=>n,λb ob q _=>⟨ob,k b ob q⟩,λ_ _ q=>q,λ_ _ _ q=>q,λ_ ps q=>⟨#[],by rw [q];simp⟩⟩
theorem Un.refl:Un fs ex H H h h:=Un.kept λ_ _ q=>q
theorem Un.laid(k:∀b u,h.get? b=some u->h'.get? b=some u)(hp:h.objs.size<=a)(hn:H a=none):Un fs ex H (upd H a o) h h' where
 keep:=λb u q _ _ _=>k b u q
 slot:=λb u q _ _ _=>⟨u.slots,k b u q⟩
 free:=λb u q n _=>by rw [ah (Nat.ne_of_lt (Nat.lt_of_lt_of_le (Heap.lt_size q) hp))];exact n
 there:=λb u q _=>⟨u,k b u q⟩
 tups:=λb xs q=>by rw [ah (aw q hn)];exact q
 frzs:=λb u xs q=>by rw [ah (aw q hn)];exact q
 tbls:=λb ps q=>⟨#[],by rw [ah (aw q hn),q];simp⟩
theorem Un.write(mu:Mut (H x))(he:e=x\/H e=some (.own x))(k:∀b u,b≠e->h.get? b=some u->h'.get? b=some u)(heo:∃u,h'.get? e=some u):Un fs ex H (upd H x o) h h':=by
 have hx:∀b,H b=none->b≠x:=λb n z=>by subst z;rw [n] at mu;exact mu
 have hb:∀b,H b=none->b≠e:=λb n z=>by
  subst z
  rcases he with r|r
  ·exact hx b n r
  ·rw [n] at r;cases r
 have hm:∀b u,H b=some u->¬Mut (some u)->b≠x:=λb u q nm z=>by subst z;rw [q] at mu;exact nm mu
 refine⟨λb u q n _ _=>k b u (hb b n) q,λb u q n _ _=>⟨u.slots,k b u (hb b n) q⟩,λb u q n _=>by rw [ah (hx b n)];exact n,λb u q _=>?_,
  λb xs q=>by rw [ah (hm b _ q λz=>z)];exact q,λb u xs q=>by rw [ah (hm b _ q λz=>z)];exact q,λb ps q=>⟨#[],by rw [ah (hm b _ q λz=>z),q];simp⟩⟩
 by_cases hbe:b=e
 ·subst hbe;exact heo
 ·exact⟨u,k b u hbe q⟩
end
def trk(h:Heap)(H:Hp):List Addr:=(List.range h.objs.size).filter λa=>(H a).isSome
def vS(h:Heap)(H:Hp):Heap:=W.hideAll h (trk h H)
theorem uC(h:Heap)(H:Hp):(vS h H).objs.size=h.objs.size:=W.hideAll_size _ _
theorem vT{h:Heap}{H:Hp}{b:Addr}{o:Obj}(e:h.get? b=some o)(n:H b=none):(vS h H).get? b=some o :=
 W.hideAll_get _ e λhm=>by
  have q:(H b).isSome=true:=(List.mem_filter.mp hm).2
  rw [n] at q;simp at q
theorem xV{h:Heap}{H:Hp}{b:Addr}{o:Obj}(e:(vS h H).get? b=some o):h.get? b=some o/\H b=none:=by
 have e':h.get? b=some o:=W.of_hideAll (trk h H) e
 refine⟨e',?_⟩
 cases q:H b with
 |none=>rfl
 |some x =>
  have hm:b∈trk h H:=List.mem_filter.mpr ⟨List.mem_range.mpr (Heap.lt_size e'),by simp [q]⟩
  have z:(vS h H).get? b=none:=W.hideAll_none (trk h H) hm
  rw [z] at e;cases e
def yR(g h:Heap)(L:Addr):List (Addr × Obj):=(List.range h.objs.size).filterMap λa=>if a=L\/(g.get? a).isSome=true then none else (h.get? a).map λo=>(a,o)
def rest(g h:Heap)(L d:Addr):List (Addr × Obj):=(yR g h L).filter λp=>decide (p.1≠d)
structure Mod(K:W.Frag)(mg:Str->Option Value)(base:Heap):Prop where
 kin:K.In base
 glob:base.Ns mainGlobals mg
 blt:∃mb,base.Ns builtinsNs mb/\∀x:Str,x≠"__name__"->mb x=bootBuiltins x
 nolimit:base.NoLimit
structure Cx where
 prog:Program
 w:World
 K:W.Frag
 mg:Str->Option Value
 base:Heap
 A:Around
 N:List Str
 s₀:Shared
 H₀:Hp
 env:Env
 outer:List Env
 stack:List Env
 ex:List Addr
 fn:Str->Bool
 calm:Bool
 pn:List (Addr × Obj)
 xe:Value->Shared->Prop
def frs(l:List Env):List Addr:=l.filterMap (·.frame)
abbrev Cx.fs(X:Cx):List Addr:=frs X.outer
def Vis(sc:Scope)(x:Str):Prop:=sc.names.lookup x=some .local\/sc.names.lookup x=some .cell\/sc.names.lookup x=some .free
def Loc(sc:Scope)(x:Str):Prop:=sc.names.lookup x=some .local\/sc.names.lookup x=some .cell
def CI(env:Env)(h:Heap)(m:Str->Option Value)(x:Str)(u:Value):Prop :=
 (env.kindOf x=some .local/\m x=some u)\/((env.kindOf x=some .cell\/env.kindOf x=some .free)/\∃c,env.cells.lookup x=some c/\h.IsCell c (some u))
structure Cx.Ok(X:Cx):Prop where
 mod:Mod X.K X.mg X.base
 kind:X.env.scope.kind=.function
 glob:X.env.globals=mainGlobals
 blt:X.env.builtins=builtinsNs
 above:X.s₀.heap.objs.size<=X.env.locals
 inj:∀x y c,X.env.cells.lookup x=some c->X.env.cells.lookup y=some c->x=y
 has:∀x,(X.env.kindOf x=some .cell\/X.env.kindOf x=some .free)->∃c,X.env.cells.lookup x=some c
 cab:∀x c,X.fn x=true->X.env.cells.lookup x=some c->X.s₀.heap.objs.size<=c
 hd:X.calm=true->X.A.handled=none
 frames:X.A.frames=some X.stack
 stk:X.stack=X.outer\/(X.stack=X.env::X.outer/\X.env.frame=some X.env.locals)
 exf:∀b∈X.ex,b≠X.env.locals/\∀x c,X.env.cells.lookup x=some c->c≠b
 bs:∀b o,X.base.get? b=some o->X.s₀.heap.get? b=some o/\X.H₀ b=none
 bsz:X.base.objs.size<=X.s₀.heap.objs.size
 noex:∀b o,X.base.get? b=some o->b∉X.ex
 exfs:∀b∈X.ex,b∉X.fs
 funs:X.s₀.heap.FunFrames X.base X.outer
 frf:∀b∈X.fs,X.H₀ b=none
structure Inv(X:Cx)(pins:List (Addr × Obj))(σ:List (Option V))(H:Hp)(s:Shared):Prop where
 ok:X.Ok
 os:s.os=X.s₀.os
 bare:AllBare s.gens
 base:Un X.fs X.ex X.H₀ H X.s₀.heap s.heap
 loc:∃m,s.heap.Ns X.env.locals m/\∀(i:Nat) (x:Str) (v:V),X.N[i]?=some x->σ[i]?=some (some v)->Vis X.env.scope x->∃u,cy v u/\CI X.env s.heap m x u
 cell:∀x c,X.env.cells.lookup x=some c->∃v,s.heap.IsCell c v
 free:H X.env.locals=none
 freeC:∀x c,X.env.cells.lookup x=some c->H c=none
 pin:∀p∈X.pn++pins,s.heap.get? p.1=some p.2/\H p.1=none/\p.1≠X.env.locals/\p.1∉X.fs/\∀v,p.2.data≠.cell v
 hok:HOk X.prog X.w H s.heap
 len:σ.length=X.N.length
section
variable{X:Cx}{pins:List (Addr × Obj)}{σ:List (Option V)}{H H':Hp}{s:Shared}{h':Heap}
theorem Cx.Ok.nofr(ok:X.Ok){b:Addr}{o:Obj}(e:X.base.get? b=some o):b∉X.fs:=λhb=>by
 have:=(ok.funs.mem hb).1
 rw [e] at this;cases this
theorem Inv.bs(I:Inv X pins σ H s):∀b o,X.base.get? b=some o->s.heap.get? b=some o/\H b=none:=λb o e =>
 ⟨I.base.keep b o (I.ok.bs b o e).1 (I.ok.bs b o e).2 (I.ok.nofr e) (I.ok.noex b o e),I.base.free b o (I.ok.bs b o e).1 (I.ok.bs b o e).2 (I.ok.noex b o e)⟩
theorem Inv.bk(I:Inv X pins σ H s):∀b o,X.base.get? b=some o->s.heap.get? b=some o:=λb o e=>(I.bs b o e).1
theorem Inv.mod(I:Inv X pins σ H s):Mod X.K X.mg X.base:=I.ok.mod
theorem Inv.kIn(I:Inv X pins σ H s):X.K.In s.heap:=I.ok.mod.kin.keeps I.bk
theorem Inv.lt(I:Inv X pins σ H s):X.env.locals < s.heap.objs.size:=let ⟨_,hn,_⟩:=I.loc;hn.lt
theorem Inv.sz(I:Inv X pins σ H s):X.s₀.heap.objs.size<=s.heap.objs.size:=Nat.le_trans I.ok.above (Nat.le_of_lt I.lt)
theorem Inv.nofs(I:Inv X pins σ H s){a:Addr}(h:s.heap.objs.size<=a):a∉X.fs:=λhb=>by
 obtain⟨_,o,ho,_⟩:=I.ok.funs.mem hb
 exact absurd (Nat.lt_of_lt_of_le (Heap.lt_size ho) (Nat.le_trans I.sz h)) (Nat.lt_irrefl _)
theorem Inv.cne(I:Inv X pins σ H s):∀x c,X.env.cells.lookup x=some c->c≠X.env.locals:=λx c e z=>by
 obtain⟨v,o,ho,hd⟩:=I.cell x c e
 obtain⟨m,⟨o',es,ep,ho',hd',_⟩,_⟩:=I.loc
 rw [z,ho'] at ho;cases ho;rw [hd'] at hd;cases hd
theorem Inv.funs(I:Inv X pins σ H s):s.heap.FunFrames X.base X.outer:=by
 have all:∀(l:List Env),(∀b∈frs l,b∈X.fs)->X.s₀.heap.FunFrames X.base l->s.heap.FunFrames X.base l:=by
  intro l
  induction l with
  |nil=>intro _ _;trivial
  |cons env r ih =>
   intro hs hl
   obtain⟨hk,⟨L,o,hf,hn,ho,hd⟩,hr⟩:=hl
   have hL:L∈X.fs:=hs L (by unfold frs;rw [List.filterMap_cons,hf];exact List.mem_cons_self)
   obtain⟨sl,e⟩:=I.base.slot L o ho (I.ok.frf L hL) hL λz=>I.ok.exfs L z hL
   exact⟨hk,⟨L,_,hf,hn,e,hd⟩,ih (λb hb=>hs b (by unfold frs;rw [List.filterMap_cons,hf];exact List.mem_cons_of_mem _ hb)) hr⟩
 exact all X.outer (λ_ hb=>hb) I.ok.funs
theorem Inv.stack(I:Inv X pins σ H s):s.heap.FunFrames X.base X.stack:=by
 rcases I.ok.stk with e|⟨e,hf⟩
 ·rw [e];exact I.funs
 ·rw [e]
  obtain⟨m,hn,_⟩:=I.loc
  refine .cons (by rw [I.ok.kind];decide) hf hn ?_ I.funs
  exact Heap.get?_none_of_le (Nat.le_trans I.ok.bsz I.ok.above)
theorem Inv.stkSub(I:Inv X pins σ H s):∀b∈frs X.stack,b∈X.env.locals::X.fs:=λb hb=>by
 rcases I.ok.stk with e|⟨e,hf⟩
 ·rw [e] at hb;exact List.mem_cons_of_mem _ hb
 ·rw [e] at hb
  unfold frs at hb
  rw [List.filterMap_cons,hf] at hb
  exact hb
theorem Inv.stkFree(I:Inv X pins σ H s):∀b∈frs X.stack,H b=none:=λb hb=>by
 rcases List.mem_cons.mp (I.stkSub b hb) with e|hb
 ·rw [e];exact I.free
 ·obtain⟨_,o,ho,_⟩:=I.ok.funs.mem hb
  exact I.base.free b o ho (I.ok.frf b hb) λz=>I.ok.exfs b z hb
theorem Inv.step{g':Array GenState}{t':Nat}{d':Drawn}{ch:List Addr}(I:Inv X pins σ H s)
  (hch:∀b∈ch,(b∈X.ex\/X.s₀.heap.objs.size<=b)/\b≠X.env.locals/\(∀x c,X.env.cells.lookup x=some c->c≠b)/\∀p∈X.pn++pins,p.1≠b)
  (keep:∀b o,b≠X.env.locals->b∉X.fs->b∉ch->s.heap.get? b=some o->H b=none->h'.get? b=some o)
  (slot:∀b o,b≠X.env.locals->b∈X.fs->b∉ch->s.heap.get? b=some o->H b=none->∃sl,h'.get? b=some { o with slots:=sl }) (free:∀b o,b∉ch->s.heap.get? b=some o->H b=none->H' b=none)
  (there:∀b o,b∉ch->s.heap.get? b=some o->∃o',h'.get? b=some o')
  (tups:∀b xs,H b=some (.tup xs)->H' b=some (.tup xs)) (frzs:∀b o u,H b=some (.frz o u)->H' b=some (.frz o u)) (tbls:∀b ps,H b=some (.tbl ps)->∃more,H' b=some (.tbl (ps++more)))
  (ns:∀m,s.heap.Ns X.env.locals m->h'.Ns X.env.locals m) (hok:HOk X.prog X.w H' h') (hg:AllBare g') :
  Inv X pins σ H' { s with heap:=h',gens:=g',drawn:=d',toks:=t' }:=by
 have neL:∀b o,X.s₀.heap.get? b=some o->b≠X.env.locals:=λb o e=>Nat.ne_of_lt (Nat.lt_of_lt_of_le (Heap.lt_size e) I.ok.above)
 have neC:∀b o,X.s₀.heap.get? b=some o->b∉X.ex->b∉ch:=λb o e hx hb=>by
  rcases (hch b hb).1 with z|z
  ·exact hx z
  ·exact absurd (Nat.lt_of_lt_of_le (Heap.lt_size e) z) (Nat.lt_irrefl _)
 have cellK:∀x c,X.env.cells.lookup x=some c->∀v,s.heap.IsCell c v->h'.IsCell c v:=λx c e v ⟨o,ho,hd⟩=>by
  have nch:c∉ch:=λz=>(hch c z).2.2.1 x c e rfl
  by_cases hc:c∈X.fs
  ·obtain⟨sl,q⟩:=slot c o (I.cne x c e) hc nch ho (I.freeC x c e)
   exact⟨_,q,hd⟩
  ·exact⟨o,keep c o (I.cne x c e) hc nch ho (I.freeC x c e),hd⟩
 refine⟨I.ok,I.os,hg,⟨λb o e n hb hx=>?_,λb o e n hb hx=>?_,λb o e n hx=>?_,λb o e hx=>?_,λb xs e=>tups b xs (I.base.tups b xs e),λb o xs e=>frzs b o xs (I.base.frzs b o xs e),λb ps e=>?_⟩,?_,λx c e=>?_,?_,λx c e=>?_,λp hp=>?_,hok,I.len⟩
 ·exact keep b o (neL b o e) hb (neC b o e hx) (I.base.keep b o e n hb hx) (I.base.free b o e n hx)
 ·obtain⟨sl,e1⟩:=I.base.slot b o e n hb hx
  obtain⟨sl',e2⟩:=slot b _ (neL b o e) hb (neC b o e hx) e1 (I.base.free b o e n hx)
  exact⟨sl',e2⟩
 ·obtain⟨o',e1⟩:=I.base.there b o e hx
  exact free b o' (neC b o e hx) e1 (I.base.free b o e n hx)
 ·obtain⟨o',e1⟩:=I.base.there b o e hx
  exact there b o' (neC b o e hx) e1
 ·obtain⟨m1,e1⟩:=I.base.tbls b ps e
  obtain⟨m2,e2⟩:=tbls b _ e1
  exact⟨m1++m2,by rw [e2,Array.append_assoc]⟩
 ·obtain⟨m,hn,hl⟩:=I.loc
  refine⟨m,ns m hn,λi x v e1 e2 e3=>?_⟩
  obtain⟨u,r,l⟩:=hl i x v e1 e2 e3
  refine⟨u,r,?_⟩
  rcases l with l|⟨k,c,e,z⟩
  ·exact .inl l
  ·exact .inr ⟨k,c,e,cellK x c e _ z⟩
 ·obtain⟨v,z⟩:=I.cell x c e
  exact⟨v,cellK x c e v z⟩
 ·obtain⟨m,⟨o,_,_,ho,_⟩,_⟩:=I.loc
  exact free _ o (λz=>(hch _ z).2.1 rfl) ho I.free
 ·obtain⟨v,o,ho,hd⟩:=I.cell x c e
  exact free c o (λz=>(hch c z).2.2.1 x c e rfl) ho (I.freeC x c e)
 ·obtain⟨e,n,ne,nf,d⟩:=I.pin p hp
  have nch:p.1∉ch:=λz=>(hch p.1 z).2.2.2 p hp rfl
  exact⟨keep p.1 p.2 ne nf nch e n,free p.1 p.2 nch e n,ne,nf,d⟩
theorem Inv.un{t':Nat}(I:Inv X pins σ H s)(u:Un X.fs [] H H' s.heap h')(hok:HOk X.prog X.w H' h'):Inv X pins σ H' { s with heap:=h',toks:=t' }:=by
 obtain⟨m,⟨o,es,ep,ho,r⟩,_⟩:=id I.loc
 obtain⟨sl,hL⟩:=u.any ho I.free (by simp)
 exact I.step (g':=s.gens) (d':=s.drawn) (ch:=[]) (λ_ z=>nomatch z) (λb o _ hb _ e n=>u.keep b o e n hb (by simp)) (λb o _ hb _ e n=>u.slot b o e n hb (by simp)) (λb o _ e n=>u.free b o e n (by simp)) (λb o _ e=>u.there b o e (by simp)) u.tups u.frzs u.tbls (λm' hm=>by
  obtain⟨o',es',ep',ho',r'⟩:=hm
  rw [ho] at ho';cases ho'
  exact⟨_,es',ep',hL,r'⟩) hok I.bare
theorem Inv.call{g':Array GenState}{t':Nat}{d':Drawn}{ch:List Addr}(I:Inv X pins σ H s)(u:Un (frs X.stack) ch H H' s.heap h')(hok:HOk X.prog X.w H' h')(hg:AllBare g')
  (hch:∀b∈ch,(b∈X.ex\/X.s₀.heap.objs.size<=b)/\b≠X.env.locals/\(∀x c,X.env.cells.lookup x=some c->c≠b)/\∀p∈X.pn++pins,p.1≠b) :
  Inv X pins σ H' { s with heap:=h',gens:=g',drawn:=d',toks:=t' }:=by
 obtain⟨m,⟨o,es,ep,ho,r⟩,_⟩:=id I.loc
 obtain⟨sl,hL⟩:=u.any ho I.free λz=>(hch _ z).2.1 rfl
 exact I.step (ch:=ch) hch (λb o hL hb hc e n=>u.keep b o e n (λz=>(List.mem_cons.mp (I.stkSub b z)).elim hL hb) hc) (λb o _ _ hc e n=>u.any e n hc) (λb o hc e n=>u.free b o e n hc) (λb o hc e=>u.there b o e hc) u.tups u.frzs u.tbls (λm' hm=>by
  obtain⟨o',es',ep',ho',r'⟩:=hm
  rw [ho] at ho';cases ho'
  exact⟨_,es',ep',hL,r'⟩) hok hg
theorem Inv.turned{t':Nat}{it:Addr}(I:Inv X pins σ H s)(k:∀b o,b≠it->s.heap.get? b=some o->h'.get? b=some o)(hn:H it=none)(hL:it≠X.env.locals)
  (h1:it∈X.ex\/X.s₀.heap.objs.size<=it) (h2:∀x c,X.env.cells.lookup x=some c->c≠it) (h3:∀p∈X.pn++pins,p.1≠it):Inv X pins σ H { s with heap:=h',toks:=t' }:=by
 have nit:∀b u,H b=some u->b≠it:=λb u e z=>by rw [z,hn] at e;cases e
 refine I.step (g':=s.gens) (d':=s.drawn) (ch:=[it]) (λb hb=>?_) (λb o _ _ hc e _=>k b o (λz=>hc (by simp [z])) e) (λb o _ _ hc e _=>⟨o.slots,k b o (λz=>hc (by simp [z])) e⟩) (λ_ _ _ _ n=>n)
  (λb o hc e=>⟨o,k b o (λz=>hc (by simp [z])) e⟩) (λ_ _ e=>e) (λ_ _ _ e=>e) (λb ps e=>⟨#[],by rw [e];simp⟩) (λm hm=>?_) (λb u e=>?_) I.bare
 ·have e:b=it:=by simpa using hb
  subst e
  exact⟨h1,hL,h2,h3⟩
 ·obtain⟨o,es,ep,ho,r⟩:=hm
  exact⟨o,es,ep,k _ o (Ne.symm hL) ho,r⟩
 ·refine(I.hok b u e).stay (λc v hc q=>k c v ?_ q) (λ_ q=>q) λ_ _ q=>q
  rcases hc with z|z
  ·rw [z];exact nit b u e
  ·exact nit c _ z
theorem Inv.tok(I:Inv X pins σ H s)(t:Nat):Inv X pins σ H { s with toks:=t }:=I.un (h':=s.heap) (t':=t) Un.refl I.hok
theorem Inv.kept{t':Nat}(I:Inv X pins σ H s)(k:∀b u,s.heap.get? b=some u->h'.get? b=some u):Inv X pins σ H { s with heap:=h',toks:=t' }:=I.un (Un.kept k) (I.hok.kept k)
theorem Inv.laid{a:Addr}{o:HO}{t':Nat}(I:Inv X pins σ H s)(k:∀b u,s.heap.get? b=some u->h'.get? b=some u)(hp:s.heap.objs.size<=a)(new:dl X.prog X.w (upd H a o) h' a o) :
  Inv X pins σ (upd H a o) { s with heap:=h',toks:=t' }:=I.un (Un.laid k hp (I.hok.fresh hp)) (I.hok.laid k hp new)
theorem Inv.write{x e:Addr}{o:HO}{t':Nat}(I:Inv X pins σ H s)(mu:Mut (H x))(he:e=x\/H e=some (.own x))(k:∀b u,b≠e->s.heap.get? b=some u->h'.get? b=some u)(heo:∃u,h'.get? e=some u)
  (new:dl X.prog X.w (upd H x o) h' x o):Inv X pins σ (upd H x o) { s with heap:=h',toks:=t' }:=I.un (Un.write mu he k heo) (I.hok.write mu he k heo new)
theorem Inv.weak{σ':List (Option V)}(I:Inv X pins σ H s)(hl:σ'.length=σ.length)(w:∀(i:Nat) v,σ'[i]?=some (some v)->σ[i]?=some (some v)):Inv X pins σ' H s :=
 ⟨I.ok,I.os,I.bare,I.base,let ⟨m,hn,hl'⟩:=I.loc;⟨m,hn,λi x v e1 e2 e3=>hl' i x v e1 (w i v e2) e3⟩,I.cell,I.free,I.freeC,I.pin,I.hok,hl.trans I.len⟩
theorem Inv.pins_of{pins':List (Addr × Obj)}(I:Inv X pins σ H s)(h:∀p∈pins',s.heap.get? p.1=some p.2/\H p.1=none/\p.1≠X.env.locals/\p.1∉X.fs/\∀v,p.2.data≠.cell v):Inv X pins' σ H s :=
 ⟨I.ok,I.os,I.bare,I.base,I.loc,I.cell,I.free,I.freeC,λp hp=>(List.mem_append.mp hp).elim (λz=>I.pin p (List.mem_append_left _ z)) (h p),I.hok,I.len⟩
theorem qJ{N:List Str}(hN:N.Nodup){i j:Nat}{x:Str}(a:N[i]?=some x)(b:N[j]?=some x):i=j:=by
 obtain⟨h1,e1⟩:=List.getElem?_eq_some_iff.mp a
 obtain⟨h2,e2⟩:=List.getElem?_eq_some_iff.mp b
 exact(List.getElem_inj hN).mp (e1.trans e2.symm)
theorem oC{M:Model}{A:Around}{E:Value->Shared->Prop}{i:Nat}{x:Str}{v:V}{u:Value}{Q:Unit->Shared->Prop}(I:Inv X pins σ H s)(hN:X.N.Nodup)(hi:X.N[i]?=some x)(hx:Loc X.env.scope x)(r:cy v u)
  (h:∀s',Inv X pins (σ.set i (some v)) H s'->(∃a,Heap.SameBut a s.heap s'.heap/\(a=X.env.locals\/X.env.cells.lookup x=some a))->Q () s') (hf:X.fn x=true\/X.env.scope.names.lookup x=some .local:=by first|exact .inl rfl|exact .inr rfl|assumption):wpAny M A (storeName X.env x u) Q E s:=by
 obtain⟨m,hn,hl⟩:=id I.loc
 have hcls:(X.env.scope.kind==.class||(X.env.scope.kind==.module&&X.env.locals != X.env.globals))=false:=by rw [I.ok.kind];rfl
 have hiσ:i < σ.length:=by rw [I.len];exact(List.getElem?_eq_some_iff.mp hi).1
 have cne:=I.cne
 have tracked:∀{a:Addr} {h':Heap},(∃o,s.heap.get? a=some o/\H a=none)->Heap.SameBut a s.heap h'->HOk X.prog X.w H h':=λ{a h'} ha hs b ob e=>by
  obtain⟨_,_,hfree⟩:=ha
  refine(I.hok b ob e).stay (λc w' hc q=>(hs.2 c ?_).trans q) (λ_ q=>q) λ_ _ q=>q
  rintro rfl
  rcases hc with rfl|hc
  ·rw [hfree] at e;cases e
  ·rw [hfree] at hc;cases hc
 rcases hx with hk|hk
 ·refine wpAny_storeName_local hk hn (λh' hn' hs=>?_) hcls
  obtain⟨oL,_,_,hoL,_⟩:=id hn
  refine h _ ⟨I.ok,I.os,I.bare,⟨λb o e n hb hx=>?_,λb o e n hb hx=>?_,I.base.free,λb o e hx=>?_,I.base.tups,I.base.frzs,I.base.tbls⟩,⟨_,hn',λj y v' e1 e2 e3=>?_⟩,λy c e=>?_,I.free,I.freeC,λp hp=>?_,tracked ⟨oL,hoL,I.free⟩ hs,by simpa using I.len⟩ ⟨_,hs,.inl rfl⟩
  ·exact(hs.2 b (Nat.ne_of_lt (Nat.lt_of_lt_of_le (Heap.lt_size e) I.ok.above))).trans (I.base.keep b o e n hb hx)
  ·obtain⟨sl,e1⟩:=I.base.slot b o e n hb hx
   exact⟨sl,(hs.2 b (Nat.ne_of_lt (Nat.lt_of_lt_of_le (Heap.lt_size e) I.ok.above))).trans e1⟩
  ·obtain⟨o',e1⟩:=I.base.there b o e hx
   exact⟨o',(hs.2 b (Nat.ne_of_lt (Nat.lt_of_lt_of_le (Heap.lt_size e) I.ok.above))).trans e1⟩
  ·by_cases hj:j=i
   ·subst hj
    rw [hi] at e1;cases e1
    rw [List.getElem?_set_self hiσ] at e2
    cases e2
    exact⟨u,r,.inl ⟨hk,by simp⟩⟩
   ·rw [List.getElem?_set_ne (Ne.symm hj)] at e2
    obtain⟨u',r',q⟩:=hl j y v' e1 e2 e3
    refine⟨u',r',?_⟩
    rcases q with ⟨k,e⟩|⟨k,c,e,z⟩
    ·refine .inl ⟨k,?_⟩
     have:y≠x:=λe=>hj (qJ hN e1 (e▸hi))
     simp [this,e]
    ·exact .inr ⟨k,c,e,z.sameBut hs (cne y c e)⟩
  ·obtain⟨w',z⟩:=I.cell y c e
   exact⟨w',z.sameBut hs (cne y c e)⟩
  ·obtain⟨e,n,ne,nf,d⟩:=I.pin p hp
   exact⟨(hs.2 p.1 ne).trans e,n,ne,nf,d⟩
 ·have hfn:X.fn x=true:=by
   rcases hf with z|z
   ·exact z
   ·rw [z] at hk;cases hk
  obtain⟨c,hc⟩:=I.ok.has x (.inl hk)
  obtain⟨w',z⟩:=I.cell x c hc
  refine wpAny_storeName_cell I.ok.kind hk hc z (λh' hc' hs=>?_)
  obtain⟨oc,hoc,hocd⟩:=id z
  refine h { s with heap:=h' } ⟨I.ok,I.os,I.bare,⟨λb o e n hb hx=>?_,λb o e n hb hx=>?_,I.base.free,λb o e hx=>?_,I.base.tups,I.base.frzs,I.base.tbls⟩,⟨m,hn.sameBut hs (Ne.symm (cne x c hc)),λj y v' e1 e2 e3=>?_⟩,λy c' e=>?_,I.free,I.freeC,λp hp=>?_,tracked ⟨oc,hoc,I.freeC x c hc⟩ hs,by simpa using I.len⟩ ⟨c,hs,.inr hc⟩
  ·exact(hs.2 b (Nat.ne_of_lt (Nat.lt_of_lt_of_le (Heap.lt_size e) (I.ok.cab x c hfn hc)))).trans (I.base.keep b o e n hb hx)
  ·obtain⟨sl,e1⟩:=I.base.slot b o e n hb hx
   exact⟨sl,(hs.2 b (Nat.ne_of_lt (Nat.lt_of_lt_of_le (Heap.lt_size e) (I.ok.cab x c hfn hc)))).trans e1⟩
  ·obtain⟨o',e1⟩:=I.base.there b o e hx
   exact⟨o',(hs.2 b (Nat.ne_of_lt (Nat.lt_of_lt_of_le (Heap.lt_size e) (I.ok.cab x c hfn hc)))).trans e1⟩
  ·by_cases hj:j=i
   ·subst hj
    rw [hi] at e1;cases e1
    rw [List.getElem?_set_self hiσ] at e2
    cases e2
    exact⟨u,r,.inr ⟨.inl hk,c,hc,hc'⟩⟩
   ·rw [List.getElem?_set_ne (Ne.symm hj)] at e2
    obtain⟨u',r',q⟩:=hl j y v' e1 e2 e3
    refine⟨u',r',?_⟩
    rcases q with q|⟨k,c',e,z'⟩
    ·exact .inl q
    ·refine .inr ⟨k,c',e,z'.sameBut hs ?_⟩
     rintro rfl
     exact hj (qJ hN e1 (I.ok.inj _ _ _ e hc▸hi))
  ·by_cases hcc:c'=c
   ·subst hcc;exact⟨_,hc'⟩
   ·obtain⟨w2,z2⟩:=I.cell y c' e
    exact⟨w2,z2.sameBut hs hcc⟩
  ·obtain⟨e,n,ne,nf,d⟩:=I.pin p hp
   refine⟨(hs.2 p.1 ?_).trans e,n,ne,nf,d⟩
   intro q
   rw [q,hoc] at e
   have q':oc=p.2:=Option.some.inj e
   exact d w' (by rw [<-q'];exact hocd)
theorem mn{M:Model}{A:Around}{E:Value->Shared->Prop}{i:Nat}{x:Str}{v:V}{u:Value}{Q:Unit->Shared->Prop}(I:Inv X pins σ H s)(hN:X.N.Nodup)(hi:X.N[i]?=some x)(hx:Loc X.env.scope x)(r:cy v u)
  (h:∀s',Inv X pins (σ.set i (some v)) H s'->Q () s') (hf:X.fn x=true\/X.env.scope.names.lookup x=some .local:=by first|exact .inl rfl|exact .inr rfl|assumption):wpAny M A (storeName X.env x u) Q E s :=
 oC I hN hi hx r (λs' I' _=>h s' I') hf
theorem Inv.call'{s':Shared}{ch:List Addr}(I:Inv X pins σ H s)(ho:s'.os=s.os)(u:Un (frs X.stack) ch H H' s.heap s'.heap)(hok:HOk X.prog X.w H' s'.heap)(hg:AllBare s'.gens)
  (hch:∀b∈ch,(b∈X.ex\/X.s₀.heap.objs.size<=b)/\b≠X.env.locals/\(∀x c,X.env.cells.lookup x=some c->c≠b)/\∀p∈X.pn++pins,p.1≠b):Inv X pins σ H' s':=by
 obtain⟨h',g',d',t',o'⟩:=s'
 have e:o'=s.os:=ho
 subst e
 exact I.call (g':=g') (t':=t') (d':=d') u hok hg hch
end
abbrev XK:=Value->Option Addr->Hp->Prop
abbrev St:=List (Option V)
abbrev VK:=V->Hp->Prop
abbrev TE:=St->Hp->VK->Prop
abbrev TT:=St->Hp->(Bool->Hp->Prop)->Prop
abbrev TA:=St->Hp->(List V->Hp->Prop)->Prop
structure gZ where
 nx:St->Hp->Prop
 rt:VK
 bk:St->Hp->Prop:=λ_ _=>False
 ct:St->Hp->Prop:=λ_ _=>False
abbrev TS:=gZ->St->Hp->Prop
def EP(X:Cx)(pins:List (Addr × Obj))(σ:St)(Q:VK)(u:Value)(s':Shared):Prop:=∃v H',Inv X pins σ H' s'/\cy v u/\Q v H'
def TP(X:Cx)(pins:List (Addr × Obj))(σ:St)(Q:Bool->Hp->Prop)(b:Bool)(s':Shared):Prop:=∃H',Inv X pins σ H' s'/\Q b H'
def AP(X:Cx)(pins:List (Addr × Obj))(σ:St)(Q:List V->Hp->Prop)(us:List Value)(s':Shared):Prop:=∃vs H',Inv X pins σ H' s'/\cr vs us/\Q vs H'
def SP(X:Cx)(pins:List (Addr × Obj))(D:gZ)(f:Flow)(s':Shared):Prop :=
 match f with
 |.next=>∃σ' H',Inv X pins σ' H' s'/\D.nx σ' H'
 |.brk=>∃σ' H',Inv X pins σ' H' s'/\D.bk σ' H'
 |.cont=>∃σ' H',Inv X pins σ' H' s'/\D.ct σ' H'
 |.ret u=>∃v σ' H',Inv X pins σ' H' s'/\cy v u/\D.rt v H'
def PE(X:Cx)(e:Expr)(t:TE):Prop :=
 ∀(pins:List (Addr × Obj)) (s:Shared) (σ:St) (H:Hp) (Q:VK),Inv X pins σ H s->t σ H Q->wpAny (model X.prog X.w) X.A (eval e X.env) (EP X pins σ Q) X.xe s
def PT(X:Cx)(e:Expr)(t:TT):Prop :=
 ∀(pins:List (Addr × Obj)) (s:Shared) (σ:St) (H:Hp) (Q:Bool->Hp->Prop),Inv X pins σ H s->t σ H Q->wpAny (model X.prog X.w) X.A (isTrue e X.env (eval e X.env)) (TP X pins σ Q) X.xe s
def PW(X:Cx)(e:Expr)(t:TT):Prop :=
 ∀(whole:Sem Value) (pins:List (Addr × Obj)) (s:Shared) (σ:St) (H:Hp) (Q:Bool->Hp->Prop),Inv X pins σ H s->t σ H Q->wpAny (model X.prog X.w) X.A (isTrue e X.env whole) (TP X pins σ Q) X.xe s
theorem PW.pt{X:Cx}{e:Expr}{t:TT}(h:PW X e t):PT X e t:=h _
def PA(X:Cx)(es:List Expr)(t:TA):Prop :=
 ∀(pos:Pos) (pins:List (Addr × Obj)) (s:Shared) (σ:St) (H:Hp) (Q:List V->Hp->Prop),Inv X pins σ H s->t σ H Q->wpAny (model X.prog X.w) X.A (spliced (backTo pos (starEach es X.env))) (AP X pins σ Q) X.xe s
def PS(X:Cx)(st:Stmt)(t:TS):Prop :=
 ∀(pins:List (Addr × Obj)) (s:Shared) (σ:St) (H:Hp) (D:gZ),Inv X pins σ H s->t D σ H->wpAny (model X.prog X.w) X.A (exec st X.env) (SP X pins D) X.xe s
def PSs(X:Cx)(st:List Stmt)(t:TS):Prop :=
 ∀(pins:List (Addr × Obj)) (s:Shared) (σ:St) (H:Hp) (D:gZ),Inv X pins σ H s->t D σ H->wpAny (model X.prog X.w) X.A (execs st X.env) (SP X pins D) X.xe s
theorem thn{α:Type}{t:Sem α}{Q Q':α->Shared->Prop}{M:Model}{A:Around}{E:Value->Shared->Prop}{s:Shared}(h:wpAny M A t Q E s)(hQ:∀a s,Q a s->Q' a s):wpAny M A t Q' E s:=wpAny_mono h hQ λ_ _ x=>x
section
variable{X:Cx}
inductive Wi (i:Nat) (σ:St) (H:Hp) (Q:VK):Prop
 |mk (v:V) (h:σ[i]?=some (some v)) (q:Q v H)
def Ch(i:Nat):TE:=λσ H Q=>Wi i σ H Q
def tC(v:V):TE:=λ_ H Q=>Q v H
theorem AI{i:Nat}{x:Str}{pos:Pos}(hN:X.N[i]?=some x)(hv:Vis X.env.scope x) (hd:(x==("__debug__":Str))=false:=by decide) (hcd:(x==("__classdict__":Str))=false:=by decide):PE X (.Name x pos) (Ch i):=by
 intro pins s σ H Q I h
 obtain⟨v,e,h⟩:=h
 obtain⟨m,hn,hl⟩:=I.loc
 obtain⟨u,r,l⟩:=hl i x v hN e hv
 have fin:EP X pins σ Q u s:=⟨v,H,I,r,h⟩
 rcases l with ⟨hk,hm⟩|⟨hk,c,hc,hcell⟩
 ·exact wpAny_Name (wpAny_loadName_local I.ok.kind hk hn hm fin) hd
 ·rcases hk with hk|hk
  ·exact wpAny_Name (wpAny_loadName_cell I.ok.kind hk hc hcell fin) hd
  ·exact wpAny_Name (wpAny_loadName_free I.ok.kind hk hc hcell fin hcd) hd
theorem ag{i j pos}:PE X (.Constant (.int i) j pos) (tC (.int i)):=λ_ _ _ H _ I h=>wpAny_Constant_int ⟨.int i,H,I.tok _,⟨_,rfl⟩,h⟩
theorem ou{b j pos}:PE X (.Constant (.bool b) j pos) (tC (.bl b)):=λ_ _ _ H _ I h=>Constant_bool ⟨.bl b,H,I,rfl,h⟩
theorem ju{j pos}:PE X (.Constant .none j pos) (tC .non):=λ_ _ _ H _ I h=>Constant_none ⟨.non,H,I,rfl,h⟩
theorem aJ{x j pos}:PE X (.Constant (.str x) j pos) (tC (.str x)):=λ_ _ _ H _ I h=>Calls.Constant_str ⟨.str x,H,I.tok _,⟨_,rfl⟩,h⟩
def Gl(X:Cx)(x:Str):Prop:=X.env.kindOf x=some .globalImplicit
theorem pV{E:Value->Shared->Prop}{pins:List (Addr × Obj)}{s:Shared}{σ:St}{H:Hp}{x:Str}{u:Value}{pos:Pos}{Q:Value->Shared->Prop}(I:Inv X pins σ H s)(hg:Gl X x)(hm:X.mg x=some u)(h:Q u s)
  (hd:(x==("__debug__":Str))=false:=by decide):wpAny (model X.prog X.w) X.A (eval (.Name x pos) X.env) Q E s :=
 Calls.Name_function_global I.ok.kind hg (Calls.loadGlobal_global (by rw [I.ok.glob];exact I.mod.glob.keeps I.bk) hm h) hd
theorem nN{E:Value->Shared->Prop}{pins:List (Addr × Obj)}{s:Shared}{σ:St}{H:Hp}{x:Str}{u:Value}{pos:Pos}{Q:Value->Shared->Prop}(I:Inv X pins σ H s)(hg:Gl X x)(hm:X.mg x=none)(hv:bootBuiltins x=some u)(h:Q u s)
  (hn:x≠"__name__":=by decide) (hd:(x==("__debug__":Str))=false:=by decide):wpAny (model X.prog X.w) X.A (eval (.Name x pos) X.env) Q E s:=by
 obtain⟨mb,h1,h2⟩:=I.mod.blt
 exact Calls.Name_function_global I.ok.kind hg (Calls.loadGlobal_builtin (by rw [I.ok.glob];exact I.mod.glob.keeps I.bk) hm (by rw [I.ok.blt];exact h1.keeps I.bk) ((h2 x hn).trans hv) h) hd
theorem yH{x:Str}{v:V}{u:Value}{pos:Pos}(hg:Gl X x)(hm:X.mg x=some u)(r:cy v u) (hd:(x==("__debug__":Str))=false:=by decide):PE X (.Name x pos) (tC v) :=
 λ_ _ _ H _ I h=>pV I hg hm ⟨v,H,I,r,h⟩ hd
theorem fC{x:Str}{v:V}{u:Value}{pos:Pos}(hg:Gl X x)(hm:X.mg x=none)(hv:bootBuiltins x=some u)(r:cy v u) (hn:x≠"__name__":=by decide) (hd:(x==("__debug__":Str))=false:=by decide):PE X (.Name x pos) (tC v) :=
 λ_ _ _ H _ I h=>nN I hg hm hv ⟨v,H,I,r,h⟩ hn hd
variable{a b:Expr}{ta tb:TE}{pos:Pos}
def PC(X:Cx)(op:CmpOp)(a b:Expr)(t:TE):Prop :=
 ∀(pins:List (Addr × Obj)) (s:Shared) (σ:St) (H:Hp) (Q:VK),Inv X pins σ H s->t σ H Q ->
  wpAny (model X.prog X.w) X.A (eval a X.env) (λv s₁=>wpAny (model X.prog X.w) X.A (eval b X.env) (λu s₂=>wpAny (model X.prog X.w) X.A (compareOp op v u) (EP X pins σ Q) X.xe s₂) X.xe s₁) X.xe s
inductive Wb (x:V) (H:Hp) (Q:Bool->Hp->Prop):Prop
 |mk (c:Bool) (h:x=.bl c) (q:Q c H)
def tB(t:TE):TT:=λσ H Q=>t σ H λx H1=>Wb x H1 Q
theorem jT{op:CmpOp}{t:TE}(h:PC X op a b t)(h1:behindInMarks op b=false:=by first|exact nobehind _ (by decide) (by decide)|rfl):PT X (.Compare a [op] [b] pos) (tB t):=by
 intro pins s σ H Q I hw
 refine wpAny_isTrue_Compare1 (thn (h pins s σ H _ I hw) λv s1 h1=>thn h1 λu s2 h2=>thn h2 λc s3 zz=>?_) h1
 obtain⟨x,H1,I1,r1,q1⟩:=zz
 obtain⟨d,rfl,q⟩:=q1
 cases r1
 exact wpAny_truthy_bool ⟨H1,I1,q⟩
theorem pt_val{e:Expr}{t:TE}(h:PE X e t)(he:∀whole,isTrue e X.env whole=(do let v <-whole;standAt e.pos;holding [v] (truthy v)):=by intro _;rfl):PT X e (tB t):=by
 intro pins s σ H Q I hw
 refine isTrue_plain (thn (h pins s σ H _ I hw) λv s1 zz=>?_) (he _)
 obtain⟨x,H1,I1,r1,q1⟩:=zz
 obtain⟨d,rfl,q⟩:=q1
 cases r1
 exact wpAny_truthy_bool ⟨H1,I1,q⟩
variable{tA tB':TT}{rest:List Expr}
def CC(t u:TT):TT:=λσ H Q=>t σ H λc H1=>if c=true then u σ H1 Q else Q false H1
def tOr(t u:TT):TT:=λσ H Q=>t σ H λc H1=>if c=true then Q true H1 else u σ H1 Q
def Cm(t:TT):TT:=λσ H Q=>t σ H λc H1=>Q (!c) H1
theorem yW(ha:PT X a tA):PW X (.BoolOp .And [a] pos) tA:=by
 intro wh pins s σ H Q I h
 refine isTrue_and (thn (ha pins s σ H Q I h) λc s1 e=>?_)
 cases c with
 |true=>exact isTrue_and_nil e
 |false=>exact e
theorem rD(ha:PT X a tA):PW X (.BoolOp .Or [a] pos) tA:=by
 intro wh pins s σ H Q I h
 refine isTrue_or (thn (ha pins s σ H Q I h) λc s1 e=>?_)
 cases c with
 |false=>exact isTrue_or_nil e
 |true=>exact e
theorem zF(ha:PT X a tA)(hb:PW X (.BoolOp .And (b::rest) pos) tB'):PW X (.BoolOp .And (a::b::rest) pos) (CC tA tB'):=by
 intro wh pins s σ H Q I h
 refine isTrue_and (thn (ha pins s σ H _ I h) λc s1 zz=>?_)
 obtain⟨H1,I1,q1⟩:=zz
 cases c with
 |true=>exact hb wh pins s1 σ H1 Q I1 q1
 |false=>exact⟨H1,I1,q1⟩
theorem sM(ha:PT X a tA)(hb:PW X (.BoolOp .Or (b::rest) pos) tB'):PW X (.BoolOp .Or (a::b::rest) pos) (tOr tA tB'):=by
 intro wh pins s σ H Q I h
 refine isTrue_or (thn (ha pins s σ H _ I h) λc s1 zz=>?_)
 obtain⟨H1,I1,q1⟩:=zz
 cases c with
 |true=>exact⟨H1,I1,q1⟩
 |false=>exact hb wh pins s1 σ H1 Q I1 q1
theorem iJ(ha:PT X a tA):PT X (.UnaryOp .Not a pos) (Cm tA):=by
 intro pins s σ H Q I h
 exact isTrue_not (ha pins s σ H (λc H1=>Q (!c) H1) I h)
def Bw(ta tb:TE):TE:=λσ H Q=>ta σ H λx H1=>∃c,x=.bl c/\if c=true then tb σ H1 Q else Q (.bl false) H1
def BJ(ta:TE):TE:=λσ H Q=>ta σ H λx H1=>∃c,x=.bl c/\Q (.bl (!c)) H1
theorem nW{op}{t:TE}(h:PE X a t):PE X (.BoolOp op [a] pos) t:=λpins s σ H Q I hw=>BoolOp_one (h pins s σ H Q I hw)
theorem jy(ha:PE X a ta)(hb:PE X (.BoolOp .And (b::rest) pos) tb):PE X (.BoolOp .And (a::b::rest) pos) (Bw ta tb):=by
 intro pins s σ H Q I h
 refine BoolOp_and (thn (ha pins s σ H _ I h) λv s1 zz=>?_)
 obtain⟨x,H1,I1,r1,q1⟩:=zz
 obtain⟨c,rfl,q1⟩:=q1
 cases r1
 refine wpAny_truthy_bool ?_
 cases c with
 |true=>exact hb pins s1 σ H1 Q I1 q1
 |false=>exact⟨.bl false,H1,I1,rfl,q1⟩
theorem AX(ha:PE X a ta):PE X (.UnaryOp .Not a pos) (BJ ta):=by
 intro pins s σ H Q I h
 refine UnaryOp_ (thn (ha pins s σ H _ I h) λv s1 zz=>?_)
 obtain⟨x,H1,I1,r1,q1⟩:=zz
 obtain⟨c,rfl,q1⟩:=q1
 cases r1
 exact not_of (wpAny_truthy_bool ⟨.bl (!c),H1,I1,rfl,q1⟩)
end
def SqL(K:W.Frag)(H:Hp)(a:Addr)(xs:List V):Prop :=
 Rd H a (.lst xs) \/
  ∃(o:Obj) (its:Array Value) (n:Nat),K.lookup a=some o/\o.cls=.type "list"/\o.dict=none/\o.data=.seq its n/\its.size<=sizeLine/\cr xs its.toList
def SqT(K:W.Frag)(H:Hp)(a:Addr)(xs:List V):Prop :=
 Rd H a (.tup xs) \/
  ∃(o:Obj) (its:Array Value) (n:Nat),K.lookup a=some o/\o.cls=.type "tuple"/\o.data=.seq its n/\its.size<=sizeLine/\cr xs its.toList
def C0:Value->Option V
 |.none=>some .non
 |.bool b=>some (.bl b)
 |.int i _=>some (.int i)
 |.str x _=>some (.str x)
 |.bytes b _=>some (.byt b)
 |.float b _=>some (.flt b)
 |.ref a=>some (.ref a)
 |.type n=>some (.ty n)
 |_=>none
theorem cy.abs{x:V}{u:Value}(r:cy x u):C0 u=some x:=by
 cases x with
 |non=>cases r;rfl
 |bl _=>cases r;rfl
 |int _=>obtain⟨t,rfl⟩:=r;rfl
 |str _=>obtain⟨t,rfl⟩:=r;rfl
 |byt _=>obtain⟨t,rfl⟩:=r;rfl
 |flt _=>obtain⟨t,rfl⟩:=r;rfl
 |ref _=>cases r;rfl
 |ty _=>cases r;rfl
theorem cy.inj{x y:V}{u:Value}(r:cy x u)(q:cy y u):x=y:=Option.some.inj (r.abs.symm.trans q.abs)
theorem cr.inj{xs ys:List V}{us:List Value}(h:cr xs us)(g:cr ys us):xs=ys:=by
 induction h generalizing ys with
 |nil=>cases g;rfl
 |cons r _ i=>cases g with|cons r' t=>rw [r.inj r',i t]
section
variable{X:Cx}{pins:List (Addr × Obj)}{σ:St}{H:Hp}{s:Shared}{a:Addr}{xs ys:List V}
theorem SqL.of{K:W.Frag}(h:H a=some (.lst xs)):SqL K H a xs:=.inl (.inl h)
theorem SqT.of{K:W.Frag}(h:H a=some (.tup xs)):SqT K H a xs:=.inl (.inl h)
theorem Inv.list(I:Inv X pins σ H s)(h:SqL X.K H a xs):∃its:List Value,cr xs its/\PlainL s.heap a its.toArray/\xs.length<=sizeLine:=by
 rcases h with h|⟨o,its,n,hk,hc,hd,hs,hz,r⟩
 ·obtain⟨z,its,n,r,e⟩:=h.ok I.hok
  exact⟨its,r,⟨_,n,e,rfl,rfl,rfl⟩,z⟩
 ·refine⟨its.toList,r,⟨o,n,I.kIn a o hk,hc,hd,by simpa using hs⟩,?_⟩
  have e:=r.length
  simp only [Array.length_toList] at e
  omega
theorem Inv.tuple(I:Inv X pins σ H s)(h:SqT X.K H a xs):∃its:List Value,cr xs its/\IsTup s.heap a its.toArray/\xs.length<=sizeLine:=by
 rcases h with h|⟨o,its,n,hk,hc,hs,hz,r⟩
 ·obtain⟨z,its,r,p⟩:=h.ok I.hok
  exact⟨its,r,p,z⟩
 ·refine⟨its.toList,r,⟨o,I.kIn a o hk,hc,n,by simpa using hs⟩,?_⟩
  have e:=r.length
  simp only [Array.length_toList] at e
  omega
theorem Inv.list_inj(I:Inv X pins σ H s)(h:SqL X.K H a xs)(h':SqL X.K H a ys):xs=ys:=by
 obtain⟨its,r,⟨o,n,e,_,_,d⟩,_⟩:=I.list h
 obtain⟨its',r',⟨o',n',e',_,_,d'⟩,_⟩:=I.list h'
 rw [e] at e';cases e'
 rw [d] at d'
 injection d' with d1 _
 have:its=its':=by simpa using congrArg Array.toList d1
 subst this
 exact r.inj r'
theorem Inv.tuple_inj(I:Inv X pins σ H s)(h:SqT X.K H a xs)(h':SqT X.K H a ys):xs=ys:=by
 obtain⟨its,r,⟨o,e,_,n,d⟩,_⟩:=I.tuple h
 obtain⟨its',r',⟨o',e',_,n',d'⟩,_⟩:=I.tuple h'
 rw [e] at e';cases e'
 rw [d] at d'
 injection d' with d1 _
 have:its=its':=by simpa using congrArg Array.toList d1
 subst this
 exact r.inj r'
end
abbrev Cx.wish(X:Cx)(E:Value->Shared->Prop):Cx:={ X with xe:=E }
abbrev Cx.nox(X:Cx):Cx:=X.wish λ_ _=>False
theorem Cx.Ok.wish{X:Cx}(ok:X.Ok)(E:Value->Shared->Prop):(X.wish E).Ok :=
 ⟨ok.mod,ok.kind,ok.glob,ok.blt,ok.above,ok.inj,ok.has,ok.cab,ok.hd,ok.frames,ok.stk,ok.exf,ok.bs,ok.bsz,ok.noex,ok.exfs,ok.funs,ok.frf⟩
theorem Cx.Ok.unwish{X:Cx}{E:Value->Shared->Prop}(ok:(X.wish E).Ok):X.Ok :=
 ⟨ok.mod,ok.kind,ok.glob,ok.blt,ok.above,ok.inj,ok.has,ok.cab,ok.hd,ok.frames,ok.stk,ok.exf,ok.bs,ok.bsz,ok.noex,ok.exfs,ok.funs,ok.frf⟩
section
variable{X:Cx}{pins:List (Addr × Obj)}{σ:St}{H:Hp}{s:Shared}{E:Value->Shared->Prop}
theorem Inv.wish(I:Inv X pins σ H s)(E:Value->Shared->Prop):Inv (X.wish E) pins σ H s:=⟨I.ok.wish E,I.os,I.bare,I.base,I.loc,I.cell,I.free,I.freeC,I.pin,I.hok,I.len⟩
theorem Inv.unwish(I:Inv (X.wish E) pins σ H s):Inv X pins σ H s:=⟨I.ok.unwish,I.os,I.bare,I.base,I.loc,I.cell,I.free,I.freeC,I.pin,I.hok,I.len⟩
theorem SP.unwish{D:gZ}{f:Flow}{s':Shared}(h:SP (X.wish E) pins D f s'):SP X pins D f s':=by
 cases f with
 |next=>obtain⟨σ',H',I,q⟩:=h;exact⟨σ',H',I.unwish,q⟩
 |brk=>obtain⟨σ',H',I,q⟩:=h;exact⟨σ',H',I.unwish,q⟩
 |cont=>obtain⟨σ',H',I,q⟩:=h;exact⟨σ',H',I.unwish,q⟩
 |ret u=>obtain⟨v,σ',H',I,r,q⟩:=h;exact⟨v,σ',H',I.unwish,r,q⟩
theorem PSs.nox{st:List Stmt}{t:TS}(h:PSs X.nox st t):PSs X st t:=λpins s σ H D I hw =>
 wpAny_mono (h pins s σ H D (I.wish _) hw) (λ_ _ q=>q.unwish) λ_ _ z=>False.elim z
end
section
variable{X:Cx}{st:Stmt}{rest:List Stmt}{t u:TS}{e:Expr}{te:TE}{pos:Pos}
def BW:TS:=λD σ H=>D.nx σ H
def CO(t u:TS):TS:=λD σ H=>t { D with nx:=u D } σ H
theorem aX:PSs X [] BW:=λ_ _ σ H _ I h=>wpAny_execs_nil ⟨σ,H,I,h⟩
theorem pss_cons(h1:PS X st t)(h2:PSs X rest u):PSs X (st::rest) (CO t u):=by
 intro pins s σ H D I h
 refine wpAny_execs_cons (thn (h1 pins s σ H { D with nx:=u D } I h) λf s1 q=>?_)
 cases f with
 |next =>
  obtain⟨σ',H',I',q⟩:=q
  exact h2 pins s1 σ' H' D I' q
 |ret v=>exact q
 |brk=>exact q
 |cont=>exact q
theorem ai(h1:PS X st t):PSs X [st] t:=by
 intro pins s σ H D I h
 refine wpAny_execs_cons (thn (h1 pins s σ H D I h) λf s1 q=>?_)
 cases f with
 |next=>exact wpAny_execs_nil q
 |ret v=>exact q
 |brk=>exact q
 |cont=>exact q
theorem Inv.quiet{pins:List (Addr × Obj)}{σ:St}{H:Hp}{s:Shared}(I:Inv X pins σ H s):interactive X.env=false:=by simp [interactive,I.ok.kind]
def BG(te:TE):TS:=λD σ H=>te σ H λ_ H1=>D.nx σ H1
theorem bh(he:PE X e te)(hs:swapsWith e none pos.line X.env=pure false:=by rfl):PS X (.Expr e pos) (BG te):=by
 intro pins s σ H D I h
 exact wpAny_Expr_any (thn (he pins s σ H _ I h) λv s1 ⟨x,H1,I1,r1,q1⟩=>⟨σ,H1,I1,q1⟩) I.quiet hs
def CD(te:TE):TS:=λD σ H=>te σ H D.rt
theorem aP(he:PE X e te):PS X (.Return (some e) pos) (CD te):=by
 intro pins s σ H D I h
 exact wpAny_Return_some (thn (he pins s σ H _ I h) λv s1 ⟨x,H1,I1,r1,q1⟩=>⟨x,σ,H1,I1,r1,q1⟩)
def CS(c:TT)(t u:TS):TS:=λD σ H=>c σ H λb H1=>if b=true then t D σ H1 else u D σ H1
theorem ce{c:Expr}{a b:List Stmt}{tc:TT}(hc:PT X c tc)(ha:PSs X a t)(hb:PSs X b u):PS X (.If c a b pos) (CS tc t u):=by
 intro pins s σ H D I h
 refine wpAny_If (thn (hc pins s σ H _ I h) λd s1 zz=>?_)
 obtain⟨H1,I1,q1⟩:=zz
 cases d with
 |true=>exact ha pins s1 σ H1 D I1 q1
 |false=>exact hb pins s1 σ H1 D I1 q1
end
abbrev TG:=V->St->Hp->(St->Hp->Prop)->Prop
abbrev TGs:=List V->St->Hp->(St->Hp->Prop)->Prop
def PG(X:Cx)(target:Expr)(t:TG):Prop :=
 ∀(pins:List (Addr × Obj)) (s:Shared) (σ:St) (H:Hp) (v:V) (u:Value) (Q:St->Hp->Prop),Inv X pins σ H s->cy v u->t v σ H Q ->
  wpAny (model X.prog X.w) X.A (assign target X.env u) (λ_ s'=>∃σ' H',Inv X pins σ' H' s'/\Q σ' H') X.xe s
def PGs(X:Cx)(ts:List Expr)(t:TGs):Prop :=
 ∀(pins:List (Addr × Obj)) (s:Shared) (σ:St) (H:Hp) (vs:List V) (us:List Value) (Q:St->Hp->Prop),Inv X pins σ H s->cr vs us->t vs σ H Q ->
  wpAny (model X.prog X.w) X.A (assignInOrder ((assignEach ts X.env).map (·.2)) us) (λ_ s'=>∃σ' H',Inv X pins σ' H' s'/\Q σ' H') X.xe s
abbrev TIp:=V->V->Hp->VK->Prop
def PIp(X:Cx)(op:Operator)(t:TIp):Prop :=
 ∀(pins:List (Addr × Obj)) (s:Shared) (σ:St) (H:Hp) (x y:V) (v u:Value) (Q:VK),Inv X pins σ H s->cy x v->cy y u->t x y H Q ->
  wpAny (model X.prog X.w) X.A (inplaceOp op v u) (EP X pins σ Q) X.xe s
section
variable{X:Cx}{pos:Pos}
def jm(i:Nat):TG:=λv σ H Q=>Q (σ.set i (some v)) H
theorem ar{i:Nat}{x:Str}(hN:X.N.Nodup)(hi:X.N[i]?=some x)(hx:Loc X.env.scope x)(hf:X.fn x=true\/X.env.scope.names.lookup x=some .local:=by first|exact .inl rfl|exact .inr rfl|assumption):PG X (.Name x pos) (jm i):=by
 intro pins s σ H v u Q I r h
 exact wpAny_assign_Name (mn I hN hi hx r (λs' I'=>⟨_,H,I',h⟩) hf)
def Bb:TGs:=λvs σ H Q=>vs=[]/\Q σ H
inductive Wc (t:TG) (u:TGs) (vs:List V) (σ:St) (H:Hp) (Q:St->Hp->Prop):Prop
 |mk (v:V) (r:List V) (h:vs=v::r) (q:t v σ H λσ' H'=>u r σ' H' Q)
def qf(t:TG)(u:TGs):TGs:=λvs σ H Q=>Wc t u vs σ H Q
theorem bC:PGs X [] Bb:=by
 intro pins s σ H vs us Q I r h
 obtain⟨e,h⟩:=h
 subst e
 cases r
 exact assignInOrder_nil ⟨σ,H,I,h⟩
theorem ap{e:Expr}{es:List Expr}{t:TG}{u:TGs}(h1:PG X e t)(h2:PGs X es u)
  (hs:(assignEach (e::es) X.env).map (·.2)=assign e X.env::(assignEach es X.env).map (·.2):=by rfl):PGs X (e::es) (qf t u):=by
 intro pins s σ H vs us Q I r h
 obtain⟨v,vr,e1,h⟩:=h
 subst e1
 cases r with
 |cons r rr =>
  rw [hs]
  refine assignInOrder_cons (thn (h1 pins s σ H _ _ _ I r h) λ_ s1 zz=>?_)
  obtain⟨σ1,H1,I1,q1⟩:=zz
  exact h2 pins s1 σ1 H1 _ _ Q I1 rr q1
def Be(K:W.Frag)(n:Nat)(t:TGs):TG:=λv σ H Q=>∃a xs,v=.ref a/\SqT K H a xs/\xs.length=n/\t xs σ H Q
theorem cC{es:List Expr}{k:Nat}{t:TGs}{n:Nat}(hc:X.calm=true)(h:PGs X es t)
  (hn:(assignEach es X.env).length=n:=by rfl) (hst:(assignEach es X.env).findIdx? (·.1)=none:=by rfl):PG X (.Tuple es k pos) (Be X.K n t):=by
 intro pins s σ H v u Q I r hw
 obtain⟨a,xs,e1,hq,hl,hw⟩:=hw
 subst e1
 cases r
 obtain⟨its,rv,ht,hz⟩:=I.tuple hq
 refine assign_Tuple_tuple (I.ok.hd hc) ht (by simp [hn,<-hl,rv.length]) hst λh' hx=>?_
 have I1:Inv X pins σ H { s with heap:=h' }:=I.kept (t':=s.toks) λb o e=>hx b o (Nat.ne_of_lt (Heap.lt_size e)) e
 exact h pins _ σ H xs _ Q I1 (by simpa using rv) hw
def zn(te:TE)(g:TG):TS:=λD σ H=>te σ H λx H1=>g x σ H1 D.nx
theorem kR{tg e:Expr}{te:TE}{g:TG}(he:PE X e te)(hg:PG X tg g)(hs:swapsWithSole [tg] e pos.line X.env=pure false:=by rfl)(hw:swappedStores [tg] e X.env=pure none:=by rfl)
  (h1:(assignEach [tg] X.env).map (·.2)=[assign tg X.env]:=by rfl):PS X (.Assign [tg] e pos) (zn te g):=by
 intro pins s σ H D I h
 refine wpAny_Assign_stores (thn (he pins s σ H _ I h) λv s1 zz=>?_) hs hw
 obtain⟨x,H1,I1,r1,q1⟩:=zz
 rw [h1]
 exact thn (hg pins s1 σ H1 x v _ I1 r1 q1) λ_ s2 q=>q
theorem lE{i:Nat}{x:Str}{e:Expr}{te:TE}{pos':Pos}(hN:X.N.Nodup)(hi:X.N[i]?=some x)(hx:Loc X.env.scope x)(he:PE X e te)(hs:swapsWith e (some (.Name x pos')) pos.line X.env=pure false:=by rfl)(hf:X.fn x=true\/X.env.scope.names.lookup x=some .local:=by first|exact .inl rfl|exact .inr rfl|assumption) :
  PS X (.Assign [.Name x pos'] e pos) (zn te (jm i)):=by
 intro pins s σ H D I h
 refine wpAny_Assign_Name (thn (he pins s σ H _ I h) λv s1 zz=>?_) hs
 obtain⟨y,H1,I1,r1,q1⟩:=zz
 exact mn I1 hN hi hx r1 (λs2 I2=>⟨_,H1,I2,q1⟩) hf
def Cq(i:Nat)(te:TE)(ti:TIp):TS:=λD σ H=>∃x,σ[i]?=some (some x)/\te σ H λy H1=>ti x y H1 λz H2=>D.nx (σ.set i (some z)) H2
theorem At{i:Nat}{x:Str}{e:Expr}{te:TE}{op:Operator}{ti:TIp}{pos':Pos}(hN:X.N.Nodup)(hi:X.N[i]?=some x)(hx:Loc X.env.scope x)(he:PE X e te)(ho:PIp X op ti)(hf:X.fn x=true\/X.env.scope.names.lookup x=some .local:=by first|exact .inl rfl|exact .inr rfl|assumption) :
  PS X (.AugAssign (.Name x pos') op e pos) (Cq i te ti):=by
 intro pins s σ H D I h
 obtain⟨v,e1,h⟩:=h
 obtain⟨m,hn,hl⟩:=I.loc
 have vis:Vis X.env.scope x:=by rcases hx with k|k;exact .inl k;exact .inr (.inl k)
 obtain⟨u,r,l⟩:=hl i x v hi e1 vis
 refine wpAny_AugAssign_Name ?_
 have go:wpAny (model X.prog X.w) X.A (eval e X.env) (λw s₂=>wpAny (model X.prog X.w) X.A (inplaceOp op u w) (λr s₃=>wpAny (model X.prog X.w) X.A (storeName X.env x r) (λ_=>SP X pins D .next) X.xe s₃) X.xe s₂) X.xe s:=by
  refine thn (he pins s σ H _ I h) λw s1 zz=>?_
  obtain⟨y,H1,I1,r1,q1⟩:=zz
  refine thn (ho pins s1 σ H1 v y u w _ I1 r r1 q1) λz s2 zz=>?_
  obtain⟨zv,H2,I2,r2,q2⟩:=zz
  exact mn I2 hN hi hx r2 (λs3 I3=>⟨_,H2,I3,q2⟩) hf
 rcases l with ⟨hk,hm⟩|⟨hk,c,hc,hcell⟩
 ·exact wpAny_loadName_local I.ok.kind hk hn hm go
 ·rcases hk with hk|hk
  ·exact wpAny_loadName_cell I.ok.kind hk hc hcell go
  ·rcases hx with k|k
   ·have:X.env.scope.names.lookup x=some .free:=hk
    rw [k] at this;cases this
   ·have:X.env.scope.names.lookup x=some .free:=hk
    rw [k] at this;cases this
def ipI(f:Int->Int->Int):TIp:=λx y H Q=>∃i j,x=.int i/\y=.int j/\Q (.int (f i j)) H
theorem AW:PIp X .Add (ipI λi j=>i+j):=by
 intro pins s σ H x y v u Q I r1 r2 h
 obtain⟨i,j,e1,e2,q⟩:=h
 subst e1;subst e2
 obtain⟨t,rfl⟩:=r1
 obtain⟨t',rfl⟩:=r2
 exact iadd_int ⟨.int _,H,I.tok _,⟨_,rfl⟩,q⟩
def uk(c:TT)(tb:TS):TS:=λD σ H=>∃W:Nat->St->Hp->Prop,(∃m,W m σ H)/\∀m σ H,W m σ H ->
 c σ H λb H1=>if b=true then ∃N:St->Hp->Prop,(∀σ' H',N σ' H'->∃m',m' < m/\W m' σ' H')/\tb { D with nx:=N,ct:=N,bk:=D.nx } σ H1 else D.nx σ H1
theorem rq{c:Expr}{body:List Stmt}{tc:TT}{tb:TS}(hp:PassesOwn (model X.prog X.w) X.A X.env X.xe)(hc:PT X c tc)(hb:PSs X body tb):PS X (.While c body [] pos) (uk tc tb):=by
 intro pins s σ H D I h
 obtain⟨W,⟨m0,w0⟩,turn⟩:=h
 refine wpAny_While (codeAny_whileLoop (λn s'=>∃σ' H',Inv X pins σ' H' s'/\W n σ' H') ?_ m0 ⟨σ,H,I,w0⟩)
 rintro n s1 ⟨σ1,H1,I1,w1⟩
 refine wpAny_passesOwn hp (thn (hc pins s1 σ1 H1 _ I1 (turn n σ1 H1 w1)) λb s2 zz=>?_)
 obtain⟨H2,I2,q2⟩:=zz
 cases b with
 |true =>
  obtain⟨N,hN,q2⟩:=q2
  rw [if_pos rfl]
  refine wpAny_passesOwn hp (thn (hb pins s2 σ1 H2 _ I2 q2) λf s3 q3=>?_)
  cases f with
  |next =>
   obtain⟨σ3,H3,I3,n3⟩:=q3
   obtain⟨m',hm,w3⟩:=hN σ3 H3 n3
   exact⟨m',hm,σ3,H3,I3,w3⟩
  |cont =>
   obtain⟨σ3,H3,I3,n3⟩:=q3
   obtain⟨m',hm,w3⟩:=hN σ3 H3 n3
   exact⟨m',hm,σ3,H3,I3,w3⟩
  |brk=>exact q3
  |ret v=>exact q3
 |false =>
  rw [if_neg Bool.false_ne_true]
  exact wpAny_execs_nil ⟨σ1,H2,I2,q2⟩
end
structure It where
 go:Nat->Hp->Prop
 yld:Nat->Hp->V->Hp->Prop
 stop:Nat->Hp->Prop
def oY(X:Cx)(pins:List (Addr × Obj))(H:Hp)(b:Addr):Prop :=
 H b=none/\b≠X.env.locals/\b∉X.fs/\(b∈X.ex\/X.s₀.heap.objs.size<=b)/\(∀x c,X.env.cells.lookup x=some c->c≠b)/\∀p∈X.pn++pins,p.1≠b
theorem Inv.fpOk{X:Cx}{pins:List (Addr × Obj)}{σ:St}{H H':Hp}{s:Shared}{b:Addr}(I:Inv X pins σ H s)(hb:s.heap.objs.size<=b)(hn:H' b=none):oY X pins H' b:=by
 refine⟨hn,Nat.ne_of_gt (Nat.lt_of_lt_of_le I.lt hb),I.nofs hb,.inr (Nat.le_trans I.sz hb),λx c e z=>?_,λp hp z=>?_⟩
 ·obtain⟨v,q⟩:=I.cell x c e
  exact absurd (Nat.lt_of_lt_of_le q.lt (by rw [z];exact hb)) (Nat.lt_irrefl _)
 ·exact absurd (Nat.lt_of_lt_of_le (Heap.lt_size (I.pin p hp).1) (by rw [z];exact hb)) (Nat.lt_irrefl _)
structure xM(P:Program)(w:World)(K:W.Frag)(tg:Expr)(J:It)(fp:List Addr)(it:Addr)(tn:Nat->Heap->Prop):Prop where
 mem:it∈fp
 obj:∀i h,tn i h->∀b∈fp,∃o,h.get? b=some o/\∀v,o.data≠.cell v
 keep:∀i h h',tn i h->(∀b∈fp,∀o,h.get? b=some o->h'.get? b=some o)->tn i h'
 item:∀(X:Cx),X.prog=P->X.w=w->X.K=K->X.calm=true->∀(i:Nat) (pins:List (Addr × Obj)) (s:Shared) (σ:St) (H:Hp) (E:Value->Shared->Prop),Inv X pins σ H s->(∀b∈fp,oY X pins H b)->tn i s.heap->J.go i H ->
  wpAny (model P w) X.A (pyNext (.ref it)) (λr s1=>∃u,r=some u /\
   wpAny (model P w) X.A (letOwnedTupleGo tg (.ref it) u) (λ_ s2=>∃x H',Inv X pins σ H' s2/\cy x u/\J.yld i H x H'/\tn (i+1) s2.heap/\∀b∈fp,H' b=none) E s1) E s
 done:∀(X:Cx),X.prog=P->X.w=w->X.K=K->X.calm=true->∀(i:Nat) (pins:List (Addr × Obj)) (s:Shared) (σ:St) (H:Hp) (E:Value->Shared->Prop),Inv X pins σ H s->(∀b∈fp,oY X pins H b)->tn i s.heap->J.stop i H ->
  wpAny (model P w) X.A (pyNext (.ref it)) (λr s1=>r=none/\Inv X pins σ H s1) E s
 self:∀(A:Around) (i:Nat) (s:Shared) (Q:Value->Shared->Prop) (E:Value->Shared->Prop),tn i s.heap->Q (.ref it) s->wpAny (model P w) A (pyIter (.ref it)) Q E s
abbrev TI:=St->Hp->(It->Hp->Prop)->Prop
def PIE(X:Cx)(pins:List (Addr × Obj))(σ:St)(tg:Expr)(R:It->Hp->Prop)(itv:Value)(s2:Shared):Prop :=
 ∃(it:Addr) (fp:List Addr) (tn:Nat->Heap->Prop) (J:It) (H':Hp),itv=.ref it/\Inv X pins σ H' s2/\xM X.prog X.w X.K tg J fp it tn/\tn 0 s2.heap/\(∀b∈fp,oY X pins H' b)/\R J H'
def PI(X:Cx)(tg iter:Expr)(wi:TI):Prop :=
 ∀(pins:List (Addr × Obj)) (s:Shared) (σ:St) (H:Hp) (R:It->Hp->Prop),Inv X pins σ H s->wi σ H R ->
  wpAny (model X.prog X.w) X.A (eval iter X.env) (λv s1=>wpAny (model X.prog X.w) X.A (pyIter v) (PIE X pins σ tg R) X.xe s1) X.xe s
theorem uz{M:Model}{A:Around}{E:Value->Shared->Prop}{s:Shared}{tg:Expr}{it:Addr}{u:Value}{o:Obj}{n:String}{vs:Array Value}{Q:Unit->Shared->Prop}(ho:s.heap.get? it=some o)(hc:o.cls=.type n)(hd:o.data=.fields vs)
    (hn:["enumerate","zip","dict_itemiterator","dict_reverseitemiterator","odict_iterator","itertools.zip_longest","itertools.pairwise"].contains n=false) (hQ:Q () s):wpAny M A (letOwnedTupleGo tg (.ref it) u) Q E s:=by
  unfold letOwnedTupleGo
  cases tg<;>first
    | exact wpAny_pure hQ
    | (cases u<;>first
        | exact wpAny_pure hQ
        | (refine wpAny_bind (wpAny_load ho ?_)
           rw [hc,hd]
           show wpAny M A (if (["enumerate","zip","dict_itemiterator","dict_reverseitemiterator","odict_iterator","itertools.zip_longest","itertools.pairwise"].contains n&&vs[0]?==some (rawInt _))=true then _ else _) Q E s
           rw [if_neg (by intro h;rw [hn,Bool.false_and] at h;cases h)]
           exact wpAny_pure hQ))
def Itl(K:W.Frag)(a:Addr):It :=
 ⟨λi H=>∃xs x,SqL K H a xs/\xs[i]?=some x,λi H x H'=>H'=H/\∀xs,SqL K H a xs->xs[i]?=some x,λi H=>∃xs,SqL K H a xs/\xs.length<=i⟩
def Itt(K:W.Frag)(a:Addr):It :=
 ⟨λi H=>∃xs x,SqT K H a xs/\xs[i]?=some x,λi H x H'=>H'=H/\∀xs,SqT K H a xs->xs[i]?=some x,λi H=>∃xs,SqT K H a xs/\xs.length<=i⟩
def Itr(lo:Int)(n:Nat):It:=⟨λi _=>i < n,λi H x H'=>H'=H/\x=.int (lo+i),λi _=>n<=i⟩
theorem uK{P:Program}{w:World}{K:W.Frag}{tg:Expr}(a it:Addr):xM P w K tg (Itl K a) [it] it (λi h=>h.IsListIter it a i) where
 mem:=by simp
 obj:=λi h st b hb=>by
  have e:b=it:=by simpa using hb
  subst e
  obtain⟨o,e,c,d⟩:=st
  exact⟨o,e,λv z=>by rw [d] at z;cases z⟩
 keep:=λi h h' st k=>st.at λo e=>k it (by simp) o e
 item:=by
  intro X hP hw hK hc i pins s σ H E I hf st hg
  subst hP hw hK
  obtain⟨xs,x,hq,hx⟩:=hg
  obtain⟨its,rv,p,hz⟩:=I.list hq
  obtain⟨u,hu,ru⟩:=rv.get hx
  obtain⟨f0,f1,f2,f3,f4,f5⟩:=hf it (by simp)
  refine wpAny_pyNext_list_item st p.isList (x:=u) (by simpa using hu) λh' st' sb=>?_
  have I1:Inv X pins σ H { s with heap:=h' }:=I.turned (t':=s.toks) (λb o hb e=>(sb.2 b hb).trans e) f0 f1 f3 f4 f5
  obtain⟨o,e,c,d⟩:=id st'
  exact⟨u,rfl,uz (s:={ s with heap:=h' }) e c d (by decide) ⟨x,H,I1,ru,⟨rfl,λys hy=>by rw [I.list_inj hy hq];exact hx⟩,st',λb hb=>(hf b hb).1⟩⟩
 done:=by
  intro X hP hw hK hc i pins s σ H E I hf st hg
  subst hP hw hK
  obtain⟨xs,hq,hx⟩:=hg
  obtain⟨its,rv,p,hz⟩:=I.list hq
  obtain⟨f0,f1,f2,f3,f4,f5⟩:=hf it (by simp)
  have hl:=rv.length
  exact wpAny_pyNext_list_end (I.ok.hd hc) st p.isList (by simp;omega) λh' eb=>⟨rfl,I.turned (t':=s.toks) (λb o hb e=>eb b o hb e) f0 f1 f3 f4 f5⟩
 self:=λ_ _ _ _ _ st h=>wpAny_pyIter_listiter st h
theorem sN{P:Program}{w:World}{K:W.Frag}{tg:Expr}(a it:Addr):xM P w K tg (Itt K a) [it] it (λi h=>h.IsTupleIter it a i) where
 mem:=by simp
 obj:=λi h st b hb=>by
  have e:b=it:=by simpa using hb
  subst e
  obtain⟨o,e,c,d⟩:=st
  exact⟨o,e,λv z=>by rw [d] at z;cases z⟩
 keep:=λi h h' st k=>st.at λo e=>k it (by simp) o e
 item:=by
  intro X hP hw hK hc i pins s σ H E I hf st hg
  subst hP hw hK
  obtain⟨xs,x,hq,hx⟩:=hg
  obtain⟨its,rv,p,hz⟩:=I.tuple hq
  obtain⟨u,hu,ru⟩:=rv.get hx
  obtain⟨f0,f1,f2,f3,f4,f5⟩:=hf it (by simp)
  refine wpAny_pyNext_tuple_item st (show s.heap.IsTuple a its.toArray from p) (x:=u) (by simpa using hu) λh' st' sb=>?_
  have I1:Inv X pins σ H { s with heap:=h' }:=I.turned (t':=s.toks) (λb o hb e=>(sb.2 b hb).trans e) f0 f1 f3 f4 f5
  obtain⟨o,e,c,d⟩:=id st'
  exact⟨u,rfl,uz (s:={ s with heap:=h' }) e c d (by decide) ⟨x,H,I1,ru,⟨rfl,λys hy=>by rw [I.tuple_inj hy hq];exact hx⟩,st',λb hb=>(hf b hb).1⟩⟩
 done:=by
  intro X hP hw hK hc i pins s σ H E I hf st hg
  subst hP hw hK
  obtain⟨xs,hq,hx⟩:=hg
  obtain⟨its,rv,p,hz⟩:=I.tuple hq
  obtain⟨f0,f1,f2,f3,f4,f5⟩:=hf it (by simp)
  have hl:=rv.length
  exact wpAny_pyNext_tuple_end (I.ok.hd hc) st (show s.heap.IsTuple a its.toArray from p) (by simp;omega) λh' eb=>⟨rfl,I.turned (t':=s.toks) (λb o hb e=>eb b o hb e) f0 f1 f3 f4 f5⟩
 self:=λ_ _ _ _ _ st h=>wpAny_pyIter_tupleiter st h
theorem sY{P:Program}{w:World}{K:PySem.W.Frag}{tg:Expr}(it:Addr)(lo:Int)(n:Nat):xM P w K tg (Itr lo n) [it] it (λi h=>IsRangeIter h it (lo+(i:Nat)*1) ((n:Int) - (i:Nat)) 1) where
 mem:=by simp
 obj:=λi h st b hb=>by
  have e:b=it:=by simpa using hb
  subst e
  exact⟨_,st,λv z=>by
   have z':Data.fields _=Data.cell v:=z
   cases z'⟩
 keep:=λi h h' st k=>k it (by simp) _ st
 item:=by
  intro X hP hw hK hc i pins s σ H E I hf st hg
  subst hP hw hK
  obtain⟨f0,f1,f2,f3,f4,f5⟩:=hf it (by simp)
  have W:=Walks.range (prog:=X.prog) (w:=X.w) (I.ok.hd hc) it lo 1 n
  refine W.item i s _ _ hg st λv h' tk hv st' kk=>?_
  obtain⟨t,rfl⟩:=hv
  have I1:Inv X pins σ H { s with heap:=h',toks:=tk }:=I.turned (λb o hb e=>kk b o (by simpa using hb) e) f0 f1 f3 f4 f5
  refine⟨_,rfl,uz (s:={ s with heap:=h',toks:=tk }) (n:="range_iterator") st' rfl rfl (by decide) ⟨.int (lo+i),H,I1,⟨t,?_⟩,⟨rfl,rfl⟩,st',λb hb=>(hf b hb).1⟩⟩
  rw [Int.mul_one]
 done:=by
  intro X hP hw hK hc i pins s σ H E I hf st hg
  subst hP hw hK
  obtain⟨f0,f1,f2,f3,f4,f5⟩:=hf it (by simp)
  exact wpAny_pyNext_range_end (I.ok.hd hc) st (by have:n<=i:=hg;omega) λh' eb=>⟨rfl,I.turned (t':=s.toks) (λb o hb e=>eb b o hb e) f0 f1 f3 f4 f5⟩
 self:=λ_ _ _ _ _ st h=>wpAny_pyIter_rangeiter st h
section
variable{X:Cx}{tg:Expr}
def BN(K:W.Frag)(tl:TE):TI:=λσ H R=>tl σ H λx H1=>∃a,x=.ref a/\(∃xs,SqL K H1 a xs)/\R (Itl K a) H1
def Cw(K:W.Frag)(tl:TE):TI:=λσ H R=>tl σ H λx H1=>∃a,x=.ref a/\(∃xs,SqT K H1 a xs)/\R (Itt K a) H1
theorem cQ{l:Expr}{tl:TE}(hl:PE X l tl):PI X tg l (BN X.K tl):=by
 intro pins s σ H R I h
 refine thn (hl pins s σ H _ I h) λv s1 zz=>?_
 obtain⟨x,H1,I1,r1,q1⟩:=zz
 obtain⟨a,e,⟨xs,hq⟩,q⟩:=q1
 subst e
 cases r1
 obtain⟨its,rv,p,hz⟩:=I1.list hq
 refine wpAny_pyIter_list p.isList ?_
 refine⟨s1.heap.objs.size,[s1.heap.objs.size],_,_,H1,rfl,I1.kept (t':=s1.toks) λb o e=>Heap.get?_push_of_some _ e,uK a _,⟨_,Heap.get?_push_size _ rfl,rfl,rfl⟩,λb hb=>?_,q⟩
 have e:b=s1.heap.objs.size:=by simpa using hb
 subst e
 exact I1.fpOk (Nat.le_refl _) (I1.hok.fresh (Nat.le_refl _))
theorem jP{l:Expr}{tl:TE}(hl:PE X l tl):PI X tg l (Cw X.K tl):=by
 intro pins s σ H R I h
 refine thn (hl pins s σ H _ I h) λv s1 zz=>?_
 obtain⟨x,H1,I1,r1,q1⟩:=zz
 obtain⟨a,e,⟨xs,hq⟩,q⟩:=q1
 subst e
 cases r1
 obtain⟨its,rv,p,hz⟩:=I1.tuple hq
 refine wpAny_pyIter_tuple (show s1.heap.IsTuple a its.toArray from p) ?_
 refine⟨s1.heap.objs.size,[s1.heap.objs.size],_,_,H1,rfl,I1.kept (t':=s1.toks) λb o e=>Heap.get?_push_of_some _ e,sN a _,⟨_,Heap.get?_push_size _ rfl,rfl,rfl⟩,λb hb=>?_,q⟩
 have e:b=s1.heap.objs.size:=by simpa using hb
 subst e
 exact I1.fpOk (Nat.le_refl _) (I1.hok.fresh (Nat.le_refl _))
theorem wE{pins:List (Addr × Obj)}{σ:St}{H:Hp}{s:Shared}{R:It->Hp->Prop}{E:Value->Shared->Prop}{lo hi:Int}{t u v:Tok}{tk:Nat}(I:Inv X pins σ H s)(h1:-(2 ^ 62)<=lo)(h2:lo < 2 ^ 62)(h3:-(2 ^ 62)<=hi)(h4:hi < 2 ^ 62)
  (q:R (Itr lo (hi - lo).toNat) H):wpAny (model X.prog X.w) X.A (pyIter (.ref s.heap.objs.size)) (PIE X pins σ tg R) E { s with heap:=s.heap.push { cls:=.type "range",data:=.fields #[.int lo t,.int hi u,.int 1 v] },toks:=tk }:=by
 refine wpAny_pyIter_range (IsRange.new ..) (small_one h1 h2 h3 h4) ?_
 have I1:Inv X pins σ H { s with heap:=s.heap.push { cls:=.type "range",data:=.fields #[.int lo t,.int hi u,.int 1 v] },toks:=tk }:=I.kept λb o e=>Heap.get?_push_of_some _ e
 refine⟨(s.heap.push { cls:=.type "range",data:=.fields #[.int lo t,.int hi u,.int 1 v] }).objs.size,[(s.heap.push { cls:=.type "range",data:=.fields #[.int lo t,.int hi u,.int 1 v] }).objs.size],_,_,H,rfl,
  I1.kept (t':=tk) λb o e=>Heap.get?_push_of_some _ e,sY _ lo (hi - lo).toNat,?_,λb hb=>?_,q⟩
 ·have e1:lo+((0:Nat):Int)*1=lo:=by simp
  have e2:(((hi - lo).toNat:Nat):Int) - ((0:Nat):Int)=Builtin.Range.rangeSize lo hi 1:=by rw [rangeSize_one];split<;>omega
  show IsRangeIter _ _ (lo+((0:Nat):Int)*1) ((((hi - lo).toNat:Nat):Int) - ((0:Nat):Int)) 1
  rw [e1,e2]
  exact Heap.get?_push_size _ rfl
 ·have e:b=(s.heap.push { cls:=.type "range",data:=.fields #[.int lo t,.int hi u,.int 1 v] }).objs.size:=by simpa using hb
  subst e
  exact I1.fpOk (Nat.le_refl _) (I1.hok.fresh (Nat.le_refl _))
def Bz(ta:TA):TI:=λσ H R=>ta σ H λvs H1=>∃j:Int,vs=[.int j]/\-(2 ^ 62)<=j/\j < 2 ^ 62/\R (Itr 0 j.toNat) H1
theorem cj{a:Expr}{ta:TA}{p pos:Pos} (hg:Gl X "range") (hm:X.mg "range"=none) (ha:PA X [a] ta) (hs:starEach [a] X.env=[(false,eval a X.env)]:=by rfl):PI X tg (.Call (.Name "range" p) [a] [] pos) (Bz ta):=by
 intro pins s σ H R I h
 refine Call_ (nN I hg hm boot_range (PyProof.Rows.callWith_type1 (thn (ha pos pins s σ H _ I h) λus s1 zz=>?_) hs rfl))
 obtain⟨vs,H1,I1,r1,q1⟩:=zz
 obtain⟨j,e,q1,q2,q⟩:=q1
 subst e
 cases r1 with
 |cons r rr =>
  cases rr
  obtain⟨t,rfl⟩:=r
  exact call_range_1 (wE I1 (by omega) (by omega) q1 q2 (by simpa using q))
def CB(wi:TI)(g:TG)(tb:TS):TS:=λD σ H=>wi σ H λJ H1=>∃W:Nat->Nat->St->Hp->Prop,(∃m,W 0 m σ H1)/\∀i m σ H,W i m σ H ->
 (J.stop i H/\D.nx σ H)\/(J.go i H/\∃N:St->Hp->Prop,(∀σ' H',N σ' H'->∃m',m' < m/\W (i+1) m' σ' H')/\∀x H',J.yld i H x H'->g x σ H' λσ2 H2=>tb { D with nx:=N,ct:=N,bk:=D.nx } σ2 H2)
def lD(fp:List Addr)(h:Heap):List (Addr × Obj):=fp.filterMap λb=>(h.get? b).map λo=>(b,o)
theorem gI{fp:List Addr}{h:Heap}{b:Addr}{o:Obj}(hb:b∈fp)(e:h.get? b=some o):(b,o)∈lD fp h:=List.mem_filterMap.mpr ⟨b,hb,by rw [e];rfl⟩
theorem tU{fp:List Addr}{h:Heap}{p:Addr × Obj}(hp:p∈lD fp h):p.1∈fp/\h.get? p.1=some p.2:=by
 obtain⟨b,hb,e⟩:=List.mem_filterMap.mp hp
 cases q:h.get? b with
 |none=>rw [q] at e;cases e
 |some o =>
  rw [q] at e
  have e':(b,o)=p:=Option.some.inj e
  subst e'
  exact⟨hb,q⟩
theorem Inv.pinned{pins:List (Addr × Obj)}{σ:St}{H:Hp}{s:Shared}{fp:List Addr}(I:Inv X pins σ H s)(hf:∀b∈fp,oY X pins H b)(ho:∀b∈fp,∃o,s.heap.get? b=some o/\∀v,o.data≠.cell v):Inv X (pins++lD fp s.heap) σ H s :=
 I.pins_of λp hp=>(List.mem_append.mp hp).elim (λz=>I.pin p (List.mem_append_right _ z)) λz=>by
  obtain⟨hb,e⟩:=tU z
  obtain⟨f0,f1,f2,_⟩:=hf p.1 hb
  obtain⟨o,e',d⟩:=ho p.1 hb
  rw [e] at e';cases e'
  exact⟨e,f0,f1,f2,d⟩
theorem Inv.unpinned{pins pl:List (Addr × Obj)}{σ:St}{H:Hp}{s:Shared}(I:Inv X (pins++pl) σ H s):Inv X pins σ H s:=I.pins_of λp hp=>I.pin p (List.mem_append_right _ (List.mem_append_left _ hp))
theorem bY{iter:Expr}{body:List Stmt}{wi:TI}{g:TG}{tb:TS}{pos:Pos}(hp:PassesOwn (model X.prog X.w) X.A X.env X.xe)(hc:X.calm=true)(hi:PI X tg iter wi)(hg:PG X tg g)(hb:PSs X body tb)
  (hs:∀x,foldedSetIterable iter X.env x=pure x:=by intro _;rfl):PS X (.For tg iter body [] pos) (CB wi g tb):=by
 intro pins s σ H D I h
 refine wpAny_For (thn (hi pins s σ H _ I h) λv s1 h1=>thn h1 λitv s2 h2=>?_) hs
 obtain⟨it,fp,tn,J,H2,e,I2,T,st2,f2,W,⟨m0,w0⟩,turn⟩:=h2
 subst e
 have stat:∀{H':Hp},(∀b∈fp,H' b=none)->∀b∈fp,oY X pins H' b:=λhn b hb=>⟨hn b hb,(f2 b hb).2⟩
 refine codeAny_forLoop_any (λn s'=>∃i σ' H',Inv X pins σ' H' s'/\tn i s'.heap/\(∀b∈fp,H' b=none)/\W i n σ' H') ?_ m0 ⟨0,σ,H2,I2,st2,λb hb=>(f2 b hb).1,w0⟩
 rintro n s3 ⟨i,σ3,H3,I3,st3,fr3,w3⟩
 rcases turn i n σ3 H3 w3 with ⟨stop,qn⟩|⟨go,N,hN,step⟩
 ·refine wpAny_passesOwn hp (thn (T.done X rfl rfl rfl hc i pins s3 σ3 H3 X.xe I3 (stat fr3) st3 stop) λr s4 ⟨hr,I4⟩=>?_)
  subst hr
  exact wpAny_execs_nil ⟨σ3,H3,I4,qn⟩
 ·refine wpAny_passesOwn hp (thn (T.item X rfl rfl rfl hc i pins s3 σ3 H3 X.xe I3 (stat fr3) st3 go) λr s4 zz=>?_)
  obtain⟨u,hr,h4⟩:=zz
  subst hr
  refine wpAny_passesOwn hp (thn h4 λ_ s5 zz=>?_)
  obtain⟨x,H5,I5,r5,y5,st5,fr5⟩:=zz
  have I5':=I5.pinned (stat fr5) (T.obj _ _ st5)
  refine wpAny_passesOwn hp (thn (hg _ s5 σ3 H5 x u _ I5' r5 (step x H5 y5)) λ_ s6 zz=>?_)
  obtain⟨σ6,H6,I6,q6⟩:=zz
  refine wpAny_passesOwn hp (thn (hb _ s6 σ6 H6 _ I6 q6) λf s7 q7=>?_)
  have again:∀{σ7:St} {H7:Hp},Inv X (pins++lD fp s5.heap) σ7 H7 s7->N σ7 H7->∃m,m < n/\∃i σ' H',Inv X pins σ' H' s7/\tn i s7.heap/\(∀b∈fp,H' b=none)/\W i m σ' H':=λ{σ7 H7} I7 n7=>by
   obtain⟨m',hm,w7⟩:=hN σ7 H7 n7
   refine⟨m',hm,i+1,σ7,H7,I7.unpinned,T.keep _ _ _ st5 λb hb o e=>(I7.pin (b,o) (List.mem_append_right _ (List.mem_append_right _ (gI hb e)))).1,λb hb=>?_,w7⟩
   obtain⟨o,e,d⟩:=T.obj _ _ st5 b hb
   exact(I7.pin (b,o) (List.mem_append_right _ (List.mem_append_right _ (gI hb e)))).2.1
  cases f with
  |next=>obtain⟨σ7,H7,I7,n7⟩:=q7;exact again I7 n7
  |cont=>obtain⟨σ7,H7,I7,n7⟩:=q7;exact again I7 n7
  |brk=>obtain⟨σ7,H7,I7,q7⟩:=q7;exact⟨σ7,H7,I7.unpinned,q7⟩
  |ret v=>obtain⟨x7,σ7,H7,I7,r7,q7⟩:=q7;exact⟨x7,σ7,H7,I7.unpinned,r7,q7⟩
end
theorem eF{K:PySem.W.Frag}{a:Addr}{xs:List V}{g:TG}{tb:TS}{D:gZ}{σ:St}{H:Hp}(Pv:Nat->St->Hp->Prop)(h0:Pv 0 σ H)(hl:∀i σ H,i<=xs.length->Pv i σ H->SqL K H a xs)
  (hs:∀i x σ H,xs[i]?=some x->Pv i σ H->g x σ H λσ2 H2=>tb { D with nx:=Pv (i+1),ct:=Pv (i+1),bk:=D.nx } σ2 H2) (hd:∀σ H,Pv xs.length σ H->D.nx σ H) :
  ∃W:Nat->Nat->St->Hp->Prop,(∃m,W 0 m σ H)/\∀i m σ H,W i m σ H ->
   ((Itl K a).stop i H/\D.nx σ H)\/((Itl K a).go i H/\∃N:St->Hp->Prop,(∀σ' H',N σ' H'->∃m',m' < m/\W (i+1) m' σ' H')/\∀x H',(Itl K a).yld i H x H'->g x σ H' λσ2 H2=>tb { D with nx:=N,ct:=N,bk:=D.nx } σ2 H2):=by
 refine⟨λi m σ H=>m=xs.length - i/\i<=xs.length/\Pv i σ H,⟨xs.length,by simp,Nat.zero_le _,h0⟩,?_⟩
 rintro i m σ H ⟨rfl,hi,p⟩
 have q:=hl i σ H hi p
 by_cases hlt:i < xs.length
 ·refine .inr ⟨⟨xs,xs[i],q,by simp [hlt]⟩,Pv (i+1),λσ' H' p'=>⟨xs.length - (i+1),by omega,rfl,hlt,p'⟩,λx H' y=>?_⟩
  obtain⟨e,y⟩:=y
  subst e
  exact hs i x σ _ (y xs q) p
 ·have e:i=xs.length:=by omega
  subst e
  exact .inl ⟨⟨xs,q,Nat.le_refl _⟩,hd σ H p⟩
theorem p9{K:PySem.W.Frag}{a:Addr}{xs:List V}{g:TG}{tb:TS}{D:gZ}{σ:St}{H:Hp}(Pv:Nat->St->Hp->Prop)(h0:Pv 0 σ H)(hl:∀i σ H,i<=xs.length->Pv i σ H->SqT K H a xs)
  (hs:∀i x σ H,xs[i]?=some x->Pv i σ H->g x σ H λσ2 H2=>tb { D with nx:=Pv (i+1),ct:=Pv (i+1),bk:=D.nx } σ2 H2) (hd:∀σ H,Pv xs.length σ H->D.nx σ H) :
  ∃W:Nat->Nat->St->Hp->Prop,(∃m,W 0 m σ H)/\∀i m σ H,W i m σ H ->
   ((Itt K a).stop i H/\D.nx σ H)\/((Itt K a).go i H/\∃N:St->Hp->Prop,(∀σ' H',N σ' H'->∃m',m' < m/\W (i+1) m' σ' H')/\∀x H',(Itt K a).yld i H x H'->g x σ H' λσ2 H2=>tb { D with nx:=N,ct:=N,bk:=D.nx } σ2 H2):=by
 refine⟨λi m σ H=>m=xs.length - i/\i<=xs.length/\Pv i σ H,⟨xs.length,by simp,Nat.zero_le _,h0⟩,?_⟩
 rintro i m σ H ⟨rfl,hi,p⟩
 have q:=hl i σ H hi p
 by_cases hlt:i < xs.length
 ·refine .inr ⟨⟨xs,xs[i],q,by simp [hlt]⟩,Pv (i+1),λσ' H' p'=>⟨xs.length - (i+1),by omega,rfl,hlt,p'⟩,λx H' y=>?_⟩
  obtain⟨e,y⟩:=y
  subst e
  exact hs i x σ _ (y xs q) p
 ·have e:i=xs.length:=by omega
  subst e
  exact .inl ⟨⟨xs,q,Nat.le_refl _⟩,hd σ H p⟩
theorem eN{lo:Int}{n:Nat}{g:TG}{tb:TS}{D:gZ}{σ:St}{H:Hp}(Pv:Nat->St->Hp->Prop)(h0:Pv 0 σ H)
  (hs:∀i σ H,i < n->Pv i σ H->g (.int (lo+i)) σ H λσ2 H2=>tb { D with nx:=Pv (i+1),ct:=Pv (i+1),bk:=D.nx } σ2 H2) (hd:∀σ H,Pv n σ H->D.nx σ H) :
  ∃W:Nat->Nat->St->Hp->Prop,(∃m,W 0 m σ H)/\∀i m σ H,W i m σ H ->
   ((Itr lo n).stop i H/\D.nx σ H)\/((Itr lo n).go i H/\∃N:St->Hp->Prop,(∀σ' H',N σ' H'->∃m',m' < m/\W (i+1) m' σ' H')/\∀x H',(Itr lo n).yld i H x H'->g x σ H' λσ2 H2=>tb { D with nx:=N,ct:=N,bk:=D.nx } σ2 H2):=by
 refine⟨λi m σ H=>m=n - i/\i<=n/\Pv i σ H,⟨n,by simp,Nat.zero_le _,h0⟩,?_⟩
 rintro i m σ H ⟨rfl,hi,p⟩
 by_cases hlt:i < n
 ·refine .inr ⟨hlt,Pv (i+1),λσ' H' p'=>⟨n - (i+1),by omega,rfl,hlt,p'⟩,λx H' y=>?_⟩
  obtain⟨e,y⟩:=y
  subst e y
  exact hs i σ _ hlt p
 ·have e:i=n:=by omega
  subst e
  exact .inl ⟨Nat.le_refl _,hd σ H p⟩
theorem vO{c:TT}{tb:TS}{D:gZ}{σ:St}{H:Hp}(Pv:St->Hp->Prop)(μ:St->Hp->Nat)(h0:Pv σ H)
  (hs:∀σ H,Pv σ H->c σ H λb H1=>if b=true then tb { D with nx:=λσ' H'=>Pv σ' H'/\μ σ' H' < μ σ H,ct:=λσ' H'=>Pv σ' H'/\μ σ' H' < μ σ H,bk:=D.nx } σ H1 else D.nx σ H1)
  (mono:∀σ H Q Q',(∀b H1,Q b H1->Q' b H1)->c σ H Q->c σ H Q'):uk c tb D σ H:=by
 refine⟨λm σ H=>m=μ σ H/\Pv σ H,⟨_,rfl,h0⟩,?_⟩
 rintro m σ H ⟨rfl,p⟩
 refine mono σ H _ _ (λb H1 q=>?_) (hs σ H p)
 cases b with
 |true=>exact⟨_,λσ' H' ⟨p',l⟩=>⟨_,l,rfl,p'⟩,q⟩
 |false=>exact q
abbrev R2:=V->V->Hp->VK->Prop
def OpR(X:Cx)(f:Value->Value->Sem Value)(r:R2):Prop :=
 ∀(pins:List (Addr × Obj)) (s:Shared) (σ:St) (H:Hp) (x y:V) (v u:Value) (Q:VK),Inv X pins σ H s->cy x v->cy y u->r x y H Q ->
  wpAny (model X.prog X.w) X.A (f v u) (EP X pins σ Q) X.xe s
def UnR(X:Cx)(f:Value->Sem Value)(r:V->Hp->VK->Prop):Prop :=
 ∀(pins:List (Addr × Obj)) (s:Shared) (σ:St) (H:Hp) (x:V) (v:Value) (Q:VK),Inv X pins σ H s->cy x v->r x H Q ->
  wpAny (model X.prog X.w) X.A (f v) (EP X pins σ Q) X.xe s
def gU(X:Cx)(f:Value)(r:List V->Hp->VK->Prop):Prop :=
 ∀(pins:List (Addr × Obj)) (s:Shared) (σ:St) (H:Hp) (xs:List V) (us:List Value) (Q:VK),Inv X pins σ H s->cr xs us->r xs H Q ->
  wpAny (model X.prog X.w) X.A (call f us) (EP X pins σ Q) X.xe s
def tOp(r:R2)(ta tb:TE):TE:=λσ H Q=>ta σ H λx H1=>tb σ H1 λy H2=>r x y H2 Q
def tUn(r:V->Hp->VK->Prop)(ta:TE):TE:=λσ H Q=>ta σ H λx H1=>r x H1 Q
inductive Wd (C:Int->Int->Prop) (g:Int->Int->V) (x y:V) (H:Hp) (Q:VK):Prop
 |mk (i j:Int) (a:x=.int i) (b:y=.int j) (c:C i j) (q:Q (g i j) H)
def rI(C:Int->Int->Prop)(g:Int->Int->V):R2:=λx y H Q=>Wd C g x y H Q
inductive We (g:Int->Int->V) (x y:V) (H:Hp) (Q:VK):Prop
 |mk (i j:Int) (a:x=.int i) (b:y=.int j) (q:Q (g i j) H)
def rI0(g:Int->Int->V):R2:=λx y H Q=>We g x y H Q
def rU(g:Int->V):V->Hp->VK->Prop:=λx H Q=>∃i,x=.int i/\Q (g i) H
section
variable{X:Cx}{a b c:Expr}{ta tb tc:TE}{pos:Pos}
theorem Bu(ha:PE X a ta)(hb:PE X b tb){pins:List (Addr × Obj)}{s:Shared}{σ:St}{H:Hp}{R:V->V->Hp->Prop}(I:Inv X pins σ H s)
  (h:ta σ H λx H1=>tb σ H1 λy H2=>R x y H2) {Q:Value->Shared->Prop} {f:Value->Value->Sem Value}
  (hf:∀v u s2 x y H2,Inv X pins σ H2 s2->cy x v->cy y u->R x y H2->wpAny (model X.prog X.w) X.A (f v u) Q X.xe s2) :
  wpAny (model X.prog X.w) X.A (eval a X.env) (λv s₁=>wpAny (model X.prog X.w) X.A (eval b X.env) (λu s₂=>wpAny (model X.prog X.w) X.A (f v u) Q X.xe s₂) X.xe s₁) X.xe s:=by
 refine thn (ha pins s σ H _ I h) λv s1 zz=>?_
 obtain⟨x,H1,I1,r1,q1⟩:=zz
 refine thn (hb pins s1 σ H1 _ I1 q1) λu s2 zz=>?_
 obtain⟨y,H2,I2,r2,q2⟩:=zz
 exact hf v u s2 x y H2 I2 r1 r2 q2
theorem aH{op:Operator}{r:R2}(ho:OpR X (binaryOp op) r)(ha:PE X a ta)(hb:PE X b tb):PE X (.BinOp a op b pos) (tOp r ta tb):=by
 intro pins s σ H Q I h
 exact wpAny_BinOp (Bu ha hb I h λv u s2 x y H2 I2 rx ry q=>ho pins s2 σ H2 x y v u Q I2 rx ry q)
theorem Bo{op:UnaryOp}{r:V->Hp->VK->Prop}(ho:UnR X (unaryOp op) r)(ha:PE X a ta):PE X (.UnaryOp op a pos) (tUn r ta):=by
 intro pins s σ H Q I h
 exact UnaryOp_ (thn (ha pins s σ H _ I h) λv s1 ⟨x,H1,I1,r1,q1⟩=>ho pins s1 σ H1 x v Q I1 r1 q1)
theorem opI{f:Value->Value->Sem Value}{C:Int->Int->Prop}{g:Int->Int->Int}
  (rule:∀(i j:Int) (t u:Tok) (s:Shared) (Q:Value->Shared->Prop) (E:Value->Shared->Prop),C i j->Q (.int (g i j) s.toks) { s with toks:=s.toks+1 }->wpAny (model X.prog X.w) X.A (f (.int i t) (.int j u)) Q E s) :
  OpR X f (rI C λi j=>.int (g i j)):=by
 intro pins s σ H x y v u Q I rx ry h
 obtain⟨i,j,rfl,rfl,hc,q⟩:=h
 obtain⟨t,rfl⟩:=rx
 obtain⟨t',rfl⟩:=ry
 exact rule i j t t' s _ _ hc ⟨.int (g i j),H,I.tok _,⟨_,rfl⟩,q⟩
theorem CP{f:Value->Value->Sem Value}{g:Int->Int->Int}
  (rule:∀(i j:Int) (t u:Tok) (s:Shared) (Q:Value->Shared->Prop) (E:Value->Shared->Prop),Q (.int (g i j) s.toks) { s with toks:=s.toks+1 }->wpAny (model X.prog X.w) X.A (f (.int i t) (.int j u)) Q E s) :
  OpR X f (rI0 λi j=>.int (g i j)):=by
 intro pins s σ H x y v u Q I rx ry h
 obtain⟨i,j,rfl,rfl,q⟩:=h
 obtain⟨t,rfl⟩:=rx
 obtain⟨t',rfl⟩:=ry
 exact rule i j t t' s _ _ ⟨.int (g i j),H,I.tok _,⟨_,rfl⟩,q⟩
theorem Bg{f:Value->Value->Sem Value}{g:Int->Int->Bool}
  (rule:∀(i j:Int) (t u:Tok) (s:Shared) (Q:Value->Shared->Prop) (E:Value->Shared->Prop),Q (.bool (g i j)) s->wpAny (model X.prog X.w) X.A (f (.int i t) (.int j u)) Q E s) :
  OpR X f (rI0 λi j=>.bl (g i j)):=by
 intro pins s σ H x y v u Q I rx ry h
 obtain⟨i,j,rfl,rfl,q⟩:=h
 obtain⟨t,rfl⟩:=rx
 obtain⟨t',rfl⟩:=ry
 exact rule i j t t' s _ _ ⟨.bl (g i j),H,I,rfl,q⟩
def Cr(i j:Int):Prop:=0 < j/\j < 1073741824
def CQ(i j:Int):Prop:=0<=j/\j<=1000000/\i.natAbs < 2 ^ 64
def BE(i j:Int):Prop:=(-(2 ^ 64) < i/\i < 2 ^ 64)\/(-(2 ^ 64) < j/\j < 2 ^ 64)
theorem BE.ok{i j:Int}(h:BE i j):IntMulOk i j:=by
 rcases h with ⟨h1,h2⟩|⟨h1,h2⟩
 ·exact .of_left (intBits_le_64 h1 h2)
 ·exact .of_right (intBits_le_64 h1 h2)
theorem bv:OpR X (binaryOp .Add) (rI0 λi j=>.int (i+j)):=CP λ_ _ _ _ _ _ _ q=>add_int q
theorem gL:OpR X (binaryOp .Mult) (rI BE λi j=>.int (i*j)):=opI λ_ _ _ _ _ _ _ hc q=>mul_int q hc.ok
theorem cT:OpR X (binaryOp .FloorDiv) (rI Cr λi j=>.int (i / j)):=opI λi j _ _ _ _ _ hc q=>by
 have h1:(0:Int) < j:=hc.1
 have h2:j < 1073741824:=hc.2
 exact floordiv_int (by omega) (by rw [Int.fdiv_eq_ediv_of_nonneg i (by omega)];exact q) (.inl (PyProof.noPylong_small (by omega)))
theorem ck:OpR X (binaryOp .Mod) (rI (λ_ j=>0 < j) λi j=>.int (i%j)):=opI λi j _ _ _ _ _ hc q=>by
 have h1:(0:Int) < j:=hc
 exact mod_int' (by omega) (by rw [Int.fmod_eq_emod_of_nonneg i (by omega)];exact q)
theorem xR:OpR X (binaryOp .Pow) (rI CQ λi j=>.int (i ^ j.toNat)):=opI λ_ _ _ _ _ _ _ hc q=>pow_int_small hc.1 hc.2.1 hc.2.2 q
theorem unI{f:Value->Sem Value}{g:Int->Int}
  (rule:∀(i:Int) (t:Tok) (s:Shared) (Q:Value->Shared->Prop) (E:Value->Shared->Prop),Q (.int (g i) s.toks) { s with toks:=s.toks+1 }->wpAny (model X.prog X.w) X.A (f (.int i t)) Q E s) :
  UnR X f (rU λi=>.int (g i)):=by
 intro pins s σ H x v Q I rx h
 obtain⟨i,rfl,q⟩:=h
 obtain⟨t,rfl⟩:=rx
 exact rule i t s _ _ ⟨.int (g i),H,I.tok _,⟨_,rfl⟩,q⟩
theorem A2:UnR X (unaryOp .USub) (rU λi=>.int (-i)):=unI λ_ _ _ _ _ q=>neg_int q
def Cc:V->V->Bool
 |.non,.non=>true|.non,.int _=>true|.int _,.non=>true|.non,.bl _=>true|.bl _,.non=>true|.non,.str _=>true|.str _,.non=>true
 |.int _,.int _=>true|.bl _,.bl _=>true|.str _,.str _=>true|.byt _,.byt _=>true
 |.int _,.str _=>true|.str _,.int _=>true|.bl _,.str _=>true|.str _,.bl _=>true
 |_,_=>false
def rEq:R2:=λx y H Q=>Cc x y=true/\Q (.bl (decide (x=y))) H
def rNe:R2:=λx y H Q=>Cc x y=true/\Q (.bl (!decide (x=y))) H
theorem tT{i j:Int}:decide (V.int i=V.int j)=(i==j):=by
 rw [Bool.eq_iff_iff]
 simp
theorem xB{i j:Bool}:decide (V.bl i=V.bl j)=(i==j):=by
 rw [Bool.eq_iff_iff]
 simp
theorem vA{i j:Str}:decide (V.str i=V.str j)=(i==j):=by
 rw [Bool.eq_iff_iff]
 simp
theorem ui{i j:Array UInt8}:decide (V.byt i=V.byt j)=(i.toList==j.toList):=by
 rw [Bool.eq_iff_iff]
 cases i
 cases j
 simp
theorem bQ{pins:List (Addr × Obj)}{σ:St}{H:Hp}{s:Shared}{Q:VK}{k k':Bool}(I:Inv X pins σ H s)(q:Q (.bl k) H)(e:k=k'):EP X pins σ Q (.bool k') s:=by
 subst e
 exact⟨.bl k,H,I,rfl,q⟩
theorem gi:OpR X (compareOp .Eq) rEq:=by
 intro pins s σ H x y v u Q I rx ry h
 obtain⟨hs,q⟩:=h
 cases x with
 |non =>
  cases rx
  cases y with
  |non=>cases ry;exact PySem.EqNone.eq_none_none (bQ I q (by simp))
  |bl j=>cases ry;exact PySem.EqNone.eq_none_bool (bQ I q (by simp))
  |int j=>obtain⟨t',rfl⟩:=ry;exact PySem.EqNone.eq_none_int (bQ I q (by simp))
  |str j=>obtain⟨t',rfl⟩:=ry;exact PySem.EqNone.eq_none_str (bQ I q (by simp))
  |_=>exact absurd (show false=true from hs) Bool.false_ne_true
 |bl i =>
  cases rx
  cases y with
  |non=>cases ry;exact PySem.EqNone.eq_bool_none (bQ I q (by simp))
  |bl j=>cases ry;exact eq_bool (bQ I q xB)
  |str j=>obtain⟨t',rfl⟩:=ry;exact PySem.EqMixed.eq_bool_str (bQ I q (by simp))
  |_=>exact absurd (show false=true from hs) Bool.false_ne_true
 |int i =>
  obtain⟨t,rfl⟩:=rx
  cases y with
  |non=>cases ry;exact PySem.EqNone.eq_int_none (bQ I q (by simp))
  |int j=>obtain⟨t',rfl⟩:=ry;exact eq_int (bQ I q tT)
  |str j=>obtain⟨t',rfl⟩:=ry;exact PySem.EqMixed.eq_int_str (bQ I q (by simp))
  |_=>exact absurd (show false=true from hs) Bool.false_ne_true
 |str i =>
  obtain⟨t,rfl⟩:=rx
  cases y with
  |non=>cases ry;exact PySem.EqNone.eq_str_none (bQ I q (by simp))
  |bl j=>cases ry;exact PySem.EqMixed.eq_str_bool (bQ I q (by simp))
  |int j=>obtain⟨t',rfl⟩:=ry;exact PySem.EqMixed.eq_str_int (bQ I q (by simp))
  |str j=>obtain⟨t',rfl⟩:=ry;exact eq_str (bQ I q vA)
  |_=>exact absurd (show false=true from hs) Bool.false_ne_true
 |byt i =>
  obtain⟨t,rfl⟩:=rx
  cases y with
  |byt j=>obtain⟨t',rfl⟩:=ry;exact W.eq_bytes (bQ I q ui)
  |_=>exact absurd (show false=true from hs) Bool.false_ne_true
 |_=>cases y<;>exact absurd (show false=true from hs) Bool.false_ne_true
theorem vV:OpR X (compareOp .NotEq) rNe:=by
 intro pins s σ H x y v u Q I rx ry h
 obtain⟨hs,q⟩:=h
 cases x with
 |non =>
  cases rx
  cases y with
  |non=>cases ry;exact PySem.EqNone.ne_none_none (bQ I q (by simp))
  |bl j=>cases ry;exact PySem.EqNone.ne_none_bool (bQ I q (by simp))
  |int j=>obtain⟨t',rfl⟩:=ry;exact PySem.EqNone.ne_none_int (bQ I q (by simp))
  |str j=>obtain⟨t',rfl⟩:=ry;exact PySem.EqNone.ne_none_str (bQ I q (by simp))
  |_=>exact absurd (show false=true from hs) Bool.false_ne_true
 |bl i =>
  cases rx
  cases y with
  |non=>cases ry;exact PySem.EqNone.ne_bool_none (bQ I q (by simp))
  |bl j=>cases ry;exact ne_bool (bQ I q (congrArg not xB))
  |str j=>obtain⟨t',rfl⟩:=ry;exact PySem.EqMixed.ne_bool_str (bQ I q (by simp))
  |_=>exact absurd (show false=true from hs) Bool.false_ne_true
 |int i =>
  obtain⟨t,rfl⟩:=rx
  cases y with
  |non=>cases ry;exact PySem.EqNone.ne_int_none (bQ I q (by simp))
  |int j=>obtain⟨t',rfl⟩:=ry;exact ne_int (bQ I q (congrArg not tT))
  |str j=>obtain⟨t',rfl⟩:=ry;exact PySem.EqMixed.ne_int_str (bQ I q (by simp))
  |_=>exact absurd (show false=true from hs) Bool.false_ne_true
 |str i =>
  obtain⟨t,rfl⟩:=rx
  cases y with
  |non=>cases ry;exact PySem.EqNone.ne_str_none (bQ I q (by simp))
  |bl j=>cases ry;exact PySem.EqMixed.ne_str_bool (bQ I q (by simp))
  |int j=>obtain⟨t',rfl⟩:=ry;exact PySem.EqMixed.ne_str_int (bQ I q (by simp))
  |str j=>obtain⟨t',rfl⟩:=ry;exact ne_str (bQ I q (congrArg not vA))
  |_=>exact absurd (show false=true from hs) Bool.false_ne_true
 |byt i =>
  obtain⟨t,rfl⟩:=rx
  cases y with
  |byt j=>obtain⟨t',rfl⟩:=ry;exact W.ne_bytes (bQ I q (congrArg not ui))
  |_=>exact absurd (show false=true from hs) Bool.false_ne_true
 |_=>cases y<;>exact absurd (show false=true from hs) Bool.false_ne_true
theorem Am:OpR X (compareOp .Lt) (rI0 λi j=>.bl (decide (i < j))):=Bg λ_ _ _ _ _ _ _ q=>lt_int q
theorem uR:OpR X (compareOp .Gt) (rI0 λi j=>.bl (decide (j < i))):=Bg λ_ _ _ _ _ _ _ q=>gt_int q
theorem BM:OpR X (compareOp .GtE) (rI0 λi j=>.bl (decide (j<=i))):=Bg λ_ _ _ _ _ _ _ q=>ge_int q
theorem oW:OpR X (compareOp .Is) (λx y H Q=>y=.non/\Q (.bl (decide (x=.non))) H):=by
 intro pins s σ H x y v u Q I rx ry h
 obtain⟨rfl,q⟩:=h
 cases ry
 refine is_none_gen (bQ I q ?_)
 cases x<;>first
  |(cases rx;rfl)
  |(obtain⟨t,rfl⟩:=rx;rfl)
theorem bd(b:Expr){op:CmpOp}(h:op≠.In:=by decide)(h2:op≠.NotIn:=by decide):behindInMarks op b=false:=by
 have e1:(op==CmpOp.In)=false:=by cases op<;>first|rfl|exact absurd rfl h
 have e2:(op==CmpOp.NotIn)=false:=by cases op<;>first|rfl|exact absurd rfl h2
 cases b<;>simp [behindInMarks,e1,e2]
theorem jg{op:CmpOp}{r:R2}(ho:OpR X (compareOp op) r)(ha:PE X a ta)(hb:PE X b tb)(hm:behindInMarks op b=false):PE X (.Compare a [op] [b] pos) (tOp r ta tb):=by
 intro pins s σ H Q I h
 exact wpAny_Compare1 (Bu ha hb I h λv u s2 x y H2 I2 rx ry q=>ho pins s2 σ H2 x y v u Q I2 rx ry q) hm
def Bi(t:TE):TT:=λσ H Q=>t σ H λx H'=>Wb x H' Q
theorem aW{op:CmpOp}{r:R2}(ho:OpR X (compareOp op) r)(ha:PE X a ta)(hb:PE X b tb)(hm:behindInMarks op b=false):PT X (.Compare a [op] [b] pos) (Bi (tOp r ta tb)):=by
 intro pins s σ H Q I h
 refine wpAny_isTrue_Compare1 (thn (ha pins s σ H _ I h) λv s1 ⟨x,H1,I1,r1,q1⟩=>thn (hb pins s1 σ H1 _ I1 q1) λu s2 ⟨y,H2,I2,r2,q2⟩ =>
  thn (ho pins s2 σ H2 x y v u _ I2 r1 r2 q2) λc s3 ⟨z,H3,I3,r3,k,e,q3⟩=>?_) hm
 subst e
 cases r3
 exact wpAny_truthy_bool ⟨H3,I3,q3⟩
theorem qP:(sizeLine:Nat) < 2 ^ 63:=by rw [sizeLine_eq];decide
theorem rV:OpR X (binaryOp .Add) (λx y H Q=>∃i j,x=.str i/\y=.str j/\i.length+j.length<=sizeLine/\Q (.str (i++j)) H):=by
 intro pins s σ H x y v u Q I rx ry h
 obtain⟨i,j,rfl,rfl,hz,q⟩:=h
 obtain⟨t,rfl⟩:=rx
 obtain⟨t',rfl⟩:=ry
 exact add_str (λt' tk=>⟨.str (i++j),H,I.tok _,⟨_,rfl⟩,q⟩) hz
theorem kJ{x:V}{us:List Value}(r:cr [x] us):∃u,us=[u]/\cy x u:=by
 cases r with
 |cons r1 r2=>cases r2;exact⟨_,rfl,r1⟩
theorem Bv{x y:V}{us:List Value}(r:cr [x,y] us):∃u w',us=[u,w']/\cy x u/\cy y w':=by
 cases r with
 |cons r1 r2 =>
  cases r2 with
  |cons r3 r4=>cases r4;exact⟨_,_,rfl,r1,r3⟩
theorem nX:gU X (.type "int") (λxs H Q=>(∃i,xs=[.int i]/\Q (.int i) H)\/∃k,xs=[.bl k]/\Q (.int (if k then 1 else 0)) H):=by
 intro pins s σ H xs us Q I r h
 rcases h with ⟨i,rfl,q⟩|⟨k,rfl,q⟩
 ·obtain⟨u,rfl,t,rfl⟩:=kJ r
  exact call_int_int ⟨.int i,H,I,⟨_,rfl⟩,q⟩
 ·obtain⟨u,rfl,r1⟩:=kJ r
  cases r1
  exact call_int_bool ⟨.int (if k then 1 else 0),H,I.tok _,⟨_,rfl⟩,q⟩
end
structure ye(h:Heap)(x dx C:Addr)(mA:Str->Option Value):Prop where
 obj:h.get? x=some (W.instObj C dx)
 ns:h.Ns1 dx mA
 ne:dx≠x
theorem tW{h:Heap}{dx:Addr}{mA:Str->Option Value}(n:h.Ns1 dx mA):∃od,h.get? dx=some od/\∀name,W.lookIn name od=some (mA name):=by
 obtain⟨o,es,ep,ho,hd,hk,_,hm⟩:=n
 refine⟨o,ho,λname=>?_⟩
 have e:=hm name
 unfold nsFind findBy at e
 rw [<-Array.find?_toList] at e
 unfold W.lookIn
 rw [hd]
 dsimp only
 split
 ·rename_i y q
  rw [q] at e
  exact congrArg some e
 ·rename_i q
  rw [q] at e
  have a:es.toList.any (·.refKey)=false:=by
   rw [List.any_eq_false]
   intro y hy
   obtain⟨z,t,hkey⟩:=hk y (Array.mem_toList_iff.mp hy)
   simp [DictEntry.refKey,hkey]
  have a':¬es.toList.any (·.refKey)=true:=by rw [a];exact Bool.false_ne_true
  rw [if_neg a']
  exact congrArg some e
theorem ye.look{h:Heap}{x dx C:Addr}{mA:Str->Option Value}(I:ye h x dx C mA):∃od,W.InstAt h x (W.instObj C dx) C (some od)/\∀name,W.lookIn name od=some (mA name) :=
 let ⟨od,ho,hl⟩:=tW I.ns
 ⟨od,⟨I.obj,rfl,rfl,ho⟩,hl⟩
section
variable{prog:Program}{w:World}{A:Around}{E:Value->Shared->Prop}{s:Shared}{K:W.Frag}{x dx C f:Addr}{mA:Str->Option Value}{name:Str}{v:Value}
theorem yf{expr:Bool}{Q:Value->Shared->Prop}(X:K.In s.heap)(I:ye s.heap x dx C mA)(hg:W.plainGet K C name=true)(hh:W.hasDictIn K C=true)
  (ha:W.findIn K (.ref C) name=some none) (hv:mA name=some v) (hv':W.handedIn v=true) (h:Q v { s with toks:=s.toks+1 }) :
  wpAny (model prog w) A (getAttr (.ref x) name expr) Q E s:=by
 obtain⟨od,J,hl⟩:=I.look
 exact W.get_value X J (W.plainGet_of hg).1 (W.findObj_own hh ha rfl (by rw [hl,hv])) hv' h
theorem wm{pl:Sem Bool}{Q:Value × List Value->Shared->Prop}(X:K.In s.heap)(I:ye s.heap x dx C mA)(hg:W.plainGet K C name=true)
  (hf:W.findIn K (.ref C) name=some (some (.ref f))) (ht:W.isFn K (.ref f)=true) (hv:mA name=none) (h:Q (.ref f,[.ref x]) s) :
  wpAny (model prog w) A (getMethod (.ref x) name pl) Q E s:=by
 obtain⟨od,J,hl⟩:=I.look
 exact W.method_fn X J (W.plainGet_of hg).1 (W.plainGet_of hg).2 hf (beq_iff_eq.mp ht) (by show(W.lookIn name od).map (·.isSome)=some false;rw [hl,hv];rfl) h
theorem yu{ns:List Str}{Q:Unit->Shared->Prop}(X:K.In s.heap)(I:ye s.heap x dx C mA)
  (hs:W.findIn K (.ref C) "__setattr__"=some (some (.builtin "object.__setattr__"))) (hp:W.plainOver K C=true) (ht:W.takerIn K C name=some none) (hh:W.hasDictIn K C=true)
  (hw:PySem.Within mA ns) (hsz:ns.length<=sizeLine)
  (h:∀h',ye h' x dx C (λy=>if y=name then some v else mA y)->Heap.SameBut dx s.heap h'->Q () { s with heap:=h',toks:=s.toks+2 }) :
  wpAny (model prog w) A (setAttr (.ref x) name v) Q E s:=by
 obtain⟨od,J,hl⟩:=I.look
 refine W.set_plain X J hs (W.osa_open (s:={ s with toks:=s.toks+1 }) (r:=none) X J hp ht λb=>?_)
 obtain⟨cd,hc,hd'⟩:=W.any_some hh
 have hx:s.heap.get? x=some ⟨.ref C,some dx,.plain,#[]⟩:=I.obj
 refine wpAny_bind (wpAny_pure (wpAny_bind (wpAny_bind (wpAny_loadPart hx (wpAny_bind (W.Looks.here (s:={ s with toks:=s.toks+1 }) (W.looks_clsIn X hc) ?_))))))
 rw [hd']
 refine wpAny_pure (a:=some dx) (wpAny_bind (wpAny_pure (wpAny_bind ?_)))
 refine wpAny_nsSet1 (s:={ s with toks:=s.toks+1 }) I.ns λh' hn2 hs2=>?_
 obtain⟨oD,esD,epD,hoD,hdD,hcD⟩:=hn2.count (PySem.Within.cons name v hw)
 refine wpAny_bind (wpAny_lookBehind hoD (by rw [hdD];exact pastItsLine_dict (Nat.le_trans hcD (by rw [List.length_cons];omega))) ?_)
 exact wpAny_pure (h _ ⟨(hs2.2 _ (Ne.symm I.ne)).trans I.obj,hn2,I.ne⟩ hs2)
theorem wc{R:Result->Shared->Prop}{vs:List Value}{kw:List (Str × Value)}(X:K.In s.heap)(hm:W.makesIn K C=true)
  (hi:W.findIn K (.ref C) "__init__"=some (some (.ref f))) (hf:W.typeIn K (.ref f)=some (.type "function"))
  (h:codeAny (model prog w) (A.under (.builtin "type.__call__" ⟨.ref C::vs,kw⟩)) (.call (.ref f) ⟨.ref (s.heap.objs.size+1)::vs,kw⟩) (W.InitBack (s.heap.objs.size+1) R)
   { s with heap:=(s.heap.push W.emptyDict).push (W.instObj C s.heap.objs.size) }) :
  codeAny (model prog w) A (.call (.ref C) ⟨vs,kw⟩) R s:=by
 obtain⟨hh,g,d,t,os⟩:=s
 exact W.make_core (W.makes_of X hm) (W.looks_findIn X hi) (λself=>W.bind_fn X self hf) (.inl rfl) h
end
def mJ(f:Str)(v:V):List (Str × V)->List (Str × V)
 |[]=>[(f,v)]
 |(g,x)::r=>if g=f then (g,v)::r else (g,x)::mJ f v r
theorem bz(f g:Str)(v:V):∀fs:List (Str × V),(mJ f v fs).lookup g=if g=f then some v else fs.lookup g
 |[]=>by
  show List.lookup g [(f,v)]=_
  by_cases h:g=f
  ·have hb:(g==f)=true:=beq_iff_eq.mpr h
   simp only [List.lookup,hb,if_pos h]
  ·have hb:(g==f)=false:=beq_eq_false_iff_ne.mpr h
   simp only [List.lookup,hb,if_neg h]
 |(k,x)::r=>by
  have ih:=bz f g v r
  rw [show mJ f v ((k,x)::r)=(if k=f then (k,v)::r else (k,x)::mJ f v r) from rfl]
  by_cases hk:k=f
  ·rw [if_pos hk]
   by_cases h:g=k
   ·have hb:(g==k)=true:=beq_iff_eq.mpr h
    simp only [List.lookup,hb,if_pos (h.trans hk)]
   ·have hb:(g==k)=false:=beq_eq_false_iff_ne.mpr h
    simp only [List.lookup,hb,if_neg (λe:g=f=>h (e.trans hk.symm))]
  ·rw [if_neg hk]
   by_cases h:g=k
   ·have hb:(g==k)=true:=beq_iff_eq.mpr h
    simp only [List.lookup,hb,if_neg (λe:g=f=>hk (h.symm.trans e))]
   ·have hb:(g==k)=false:=beq_eq_false_iff_ne.mpr h
    simp only [List.lookup,hb]
    exact ih
theorem jL(f:Str)(v:V):∀fs:List (Str × V),f∈(mJ f v fs).map (·.1)/\∀g,g∈fs.map (·.1)->g∈(mJ f v fs).map (·.1)
 |[]=>⟨by simp [mJ],λg h=>by simp at h⟩
 |(k,x)::r=>by
  obtain⟨i1,i2⟩:=jL f v r
  rw [show mJ f v ((k,x)::r)=(if k=f then (k,v)::r else (k,x)::mJ f v r) from rfl]
  by_cases hk:k=f
  ·rw [if_pos hk]
   subst hk
   exact⟨by simp,λg h=>by simpa using h⟩
  ·rw [if_neg hk]
   refine⟨?_,λg h=>?_⟩
   ·rw [List.map_cons]
    exact List.mem_cons_of_mem _ i1
   ·rw [List.map_cons] at h ⊢
    rcases List.mem_cons.mp h with e|e
    ·exact List.mem_cons.mpr (.inl e)
    ·exact List.mem_cons_of_mem _ (i2 g e)
theorem ka(f:Str)(v:V):∀fs:List (Str × V),(mJ f v fs).length<=fs.length+1
 |[]=>by simp [mJ]
 |(k,x)::r=>by
  have ih:=ka f v r
  rw [show mJ f v ((k,x)::r)=(if k=f then (k,v)::r else (k,x)::mJ f v r) from rfl]
  by_cases hk:k=f
  ·rw [if_pos hk,List.length_cons,List.length_cons];omega
  ·rw [if_neg hk,List.length_cons,List.length_cons];omega
theorem nG.some_of{v:V}{o:Option Value}(r:nG (some v) o):∃u,o=some u/\cy v u:=by
 cases o with
 |none=>exact(show False from r).elim
 |some u=>exact⟨u,rfl,r⟩
theorem nG.none_of{o:Option Value}(r:nG none o):o=none:=by
 cases o with
 |none=>rfl
 |some u=>exact(show False from r).elim
theorem vw{v:V}{u:Value}(r:cy v u):W.handedIn u=true:=by
 cases v with
 |non=>cases (show u=Value.none from r);rfl
 |bl b=>cases (show u=Value.bool b from r);rfl
 |int i=>obtain⟨t,e⟩:=(show ∃t,u=Value.int i t from r);cases e;rfl
 |str x=>obtain⟨t,e⟩:=(show ∃t,u=Value.str x t from r);cases e;rfl
 |byt b=>obtain⟨t,e⟩:=(show ∃t,u=Value.bytes b t from r);cases e;rfl
 |flt b=>obtain⟨t,e⟩:=(show ∃t,u=Value.float b t from r);cases e;rfl
 |ref a=>cases (show u=Value.ref a from r);rfl
 |ty n=>cases (show u=Value.type n from r);rfl
section
variable{P:Program}{w:World}{H H':Hp}{h h':Heap}{a C dx:Addr}{fs fs':List (Str × V)}
theorem ny(hok:HOk P w H h)(e:H a=some (.ins C dx fs)):∃mA,ye h a dx C mA/\(∀f,nG (fs.lookup f) (mA f))/\PySem.Within mA (fs.map (·.1))/\fs.length<=1000/\H dx=some (.own a):=by
 obtain⟨d,z,ne,ob,mA,n,r,q⟩:=(show dl P w H h a (.ins C dx fs) from hok a _ e)
 exact⟨mA,⟨ob,n,ne⟩,r,q,z,d⟩
end
structure Cls(K:W.Frag)(C:Addr):Prop where
 pg:W.plainGet K C Str.empty=true
 hd:W.hasDictIn K C=true
 po:W.plainOver K C=true
 sa:W.findIn K (.ref C) "__setattr__"=some (some (.builtin "object.__setattr__"))
theorem Cls.get{K:W.Frag}{C:Addr}(c:Cls K C)(f:Str):W.plainGet K C f=true:=c.pg
def aZ(K:W.Frag)(C:Addr)(f:Str):Prop:=W.findIn K (.ref C) f=some none
theorem aZ.taker{K:W.Frag}{C:Addr}{f:Str}(n:aZ K C f):W.takerIn K C f=some none:=by
 unfold W.takerIn
 rw [show W.findIn K (.ref C) f=some none from n]
 rfl
structure Con(K:W.Frag)(C:Addr)(f:Str)(v:V)(u:Value):Prop where
 at_:W.findIn K (.ref C) f=some (some u)
 rel:cy v u
 get:W.specialIn K u "__get__"=some none
 cp:W.copiedNames.contains f=false
structure vK(K:W.Frag)(C:Addr)(m:Str)(f:Addr):Prop where
 at_:W.findIn K (.ref C) m=some (some (.ref f))
 fn:W.isFn K (.ref f)=true
 kp:W.keepIn K (.ref f)=true
section
variable{X:Cx}{pins:List (Addr × Obj)}{σ:St}{H:Hp}{s:Shared}{a C dx:Addr}{fs:List (Str × V)}{f:Str}{v:V}{A:Around}{E:Value->Shared->Prop}
theorem sI{b:Bool}{Q:Value->Shared->Prop}(I:Inv X pins σ H s)(e:H a=some (.ins C dx fs))(c:Cls X.K C)(n:aZ X.K C f)(l:fs.lookup f=some v)
  (h:∀u s',Inv X pins σ H s'->cy v u->Q u s'):wpAny (model X.prog X.w) A (getAttr (.ref a) f b) Q E s:=by
 obtain⟨mA,O,r,_,_,_⟩:=ny I.hok e
 obtain⟨u,hu,ru⟩:=nG.some_of (v:=v) (o:=mA f) (by rw [<-l];exact r f)
 exact yf I.kIn O (c.get f) c.hd n hu (vw ru) (h u _ (I.tok _) ru)
theorem lj{m:Str}{g:Addr}{pl:Sem Bool}{Q:Value × List Value->Shared->Prop}(I:Inv X pins σ H s)(e:H a=some (.ins C dx fs))(c:Cls X.K C)(k:vK X.K C m g)(l:fs.lookup m=none)
  (h:Q (.ref g,[.ref a]) s):wpAny (model X.prog X.w) A (getMethod (.ref a) m pl) Q E s:=by
 obtain⟨mA,O,r,_,_,_⟩:=ny I.hok e
 have hn:mA m=none:=nG.none_of (by rw [<-l];exact r m)
 exact wm I.kIn O (c.get m) k.at_ k.fn hn h
theorem rX{y:V}{u:Value}{Q:Unit->Shared->Prop}(I:Inv X pins σ H s)(e:H a=some (.ins C dx fs))(c:Cls X.K C)(n:aZ X.K C f)(hl:fs.length < 1000)(ry:cy y u)
  (h:∀s',Inv X pins σ (upd H a (.ins C dx (mJ f y fs))) s'->Q () s'):wpAny (model X.prog X.w) A (setAttr (.ref a) f u) Q E s:=by
 obtain⟨mA,O,r,wi,_,ho⟩:=ny I.hok e
 have hz:(fs.map (·.1)).length<=sizeLine:=by rw [List.length_map,sizeLine_eq];omega
 refine yu I.kIn O c.sa c.po n.taker c.hd wi hz λh' O' sb=>h _ ?_
 have hd:∃o,h'.get? dx=some o:=let ⟨o,_,_,e',_⟩:=O'.ns;⟨o,e'⟩
 refine I.write (x:=a) (e:=dx) (by rw [e];exact True.intro) (.inr ho) (λb q hb z=>(sb.2 b hb).trans z) hd ?_
 refine⟨by rw [ah O.ne];exact ho,?_,O.ne,O'.obj,_,O'.ns,λg=>?_,λg hg=>?_⟩
 ·have:=ka f y fs;omega
 ·show nG ((mJ f y fs).lookup g) (if g=f then some u else mA g)
  rw [bz]
  by_cases q:g=f
  ·rw [if_pos q,if_pos q];exact ry
  ·rw [if_neg q,if_neg q];exact r g
 ·by_cases q:g=f
  ·rw [q];exact(jL f y fs).1
  ·refine(jL f y fs).2 g (wi g λz=>hg ?_)
   show(if g=f then some u else mA g)=none
   rw [if_neg q];exact z
theorem Inv.made(I:Inv X pins σ H s):Inv X pins σ (upd (upd H s.heap.objs.size (.own (s.heap.objs.size+1))) (s.heap.objs.size+1) (.ins C s.heap.objs.size []))
  { s with heap:=(s.heap.push W.emptyDict).push (W.instObj C s.heap.objs.size) }:=by
 have e1:(s.heap.push W.emptyDict).get? s.heap.objs.size=some W.emptyDict:=Heap.get?_push_size s.heap rfl
 have e2:((s.heap.push W.emptyDict).push (W.instObj C s.heap.objs.size)).get? (s.heap.objs.size+1)=some (W.instObj C s.heap.objs.size):=by
  have:=Heap.get?_push_size (s.heap.push W.emptyDict) (o:=W.instObj C s.heap.objs.size) rfl
  rwa [Heap.size_push] at this
 have e3:(s.heap.push W.emptyDict).Ns s.heap.objs.size (λ_=>none):=⟨W.emptyDict,#[],_,e1,rfl,(λe he=>absurd he (by simp)),λ_=>rfl⟩
 have I1:=I.laid (a:=s.heap.objs.size) (o:=.own (s.heap.objs.size+1)) (h':=s.heap.push W.emptyDict) (t':=s.toks) (λb u q=>Heap.get?_push_of_some _ q) (Nat.le_refl _) ⟨_,e1⟩
 refine I1.laid (a:=s.heap.objs.size+1) (o:=.ins C s.heap.objs.size []) (t':=s.toks) (λb u q=>Heap.get?_push_of_some _ q) (Nat.le_of_eq (Heap.size_push _ _)) ?_
 have ne:s.heap.objs.size≠s.heap.objs.size+1:=Nat.ne_of_lt (Nat.lt_succ_self _)
 refine⟨by rw [ah ne,aa],Nat.zero_le _,ne,e2,λ_=>none,(Heap.Ns1.of_empty e3).at λo q=>Heap.get?_push_of_some _ q,λ_=>True.intro,λy hy=>absurd rfl hy⟩
theorem yy{prog:Program}{w:World}{env:Env}{e:Expr}{f:Str}{pos:Pos}{s:Shared}{Q:Value->Shared->Prop}(hb:attributeBase e f env (eval e env)=eval e env)
  (h:wpAny (model prog w) A (eval e env) (λo s₁=>wpAny (model prog w) A (getAttr o f true) Q E s₁) E s):wpAny (model prog w) A (eval (.Attribute e f pos) env) Q E s :=
 Attribute_any_ h (by rw [arm_eval_Attribute,hb])
end
def BS(K:W.Frag)(ta:TE)(f:Str):TE:=λσ H Q=>ta σ H λx H1=>∃a C dx fs v,x=.ref a/\H1 a=some (.ins C dx fs)/\Cls K C/\aZ K C f/\fs.lookup f=some v/\Q v H1
def Cn(K:W.Frag)(ta tv:TE)(f:Str):TS:=λD σ H=>tv σ H λy H1=>ta σ H1 λx H2=>∃a C dx fs,x=.ref a/\H2 a=some (.ins C dx fs)/\Cls K C/\aZ K C f/\fs.length < 1000 /\
 D.nx σ (upd H2 a (.ins C dx (mJ f y fs)))
section
variable{X:Cx}{o e value:Expr}{f:Str}{pos pos' tpos:Pos}{ta tv:TE}
theorem bn(he:PE X e ta)(hb:attributeBase e f X.env (eval e X.env)=eval e X.env):PE X (.Attribute e f pos) (BS X.K ta f):=by
 intro pins s σ H Q I h
 refine yy hb (thn (he pins s σ H _ I h) λu s1 zz=>?_)
 obtain⟨x,H1,I1,rx,a,C,dx,fs,v,ex,ea,c,n,l,q⟩:=zz
 subst ex
 obtain rfl:u=Value.ref a:=rx
 exact sI I1 ea c n l λu' s2 I2 ru=>⟨v,H1,I2,ru,q⟩
theorem qy(ha:PE X o ta)(hv:PE X value tv)(hs:swapsWith value (some (.Attribute o f pos')) pos.line X.env=pure false):PS X (.Assign [.Attribute o f pos'] value pos) (Cn X.K ta tv f):=by
 intro pins s σ H D I h
 refine plainObj_wpAny_Assign_Attribute (thn (hv pins s σ H _ I h) λu s1 ⟨y,H1,I1,ry,q⟩=>thn (ha pins s1 σ H1 _ I1 q) λov s2 zz=>?_) hs
 obtain⟨x,H2,I2,rx,a,C,dx,fs,ex,ea,c,n,l,q2⟩:=zz
 subst ex
 obtain rfl:ov=Value.ref a:=rx
 exact rX I2 ea c n l ry λs3 I3=>⟨σ,_,I3,q2⟩
end
section
variable{X:Cx}{pins:List (Addr × Obj)}{σ:St}{H:Hp}{s:Shared}{A:Around}{E:Value->Shared->Prop}{Q:Value->Shared->Prop}{c:Value}{b:Bool}
inductive qO (K:W.Frag) (H:Hp):V->Value->Prop where
 |non:qO K H .non (.type "NoneType")
 |bl (x:Bool):qO K H (.bl x) (.type "bool")
 |int (i:Int):qO K H (.int i) (.type "int")
 |str (x:Str):qO K H (.str x) (.type "str")
 |flt (x:UInt64):qO K H (.flt x) (.type "float")
 |lst {a:Addr} {xs:List V} (e:H a=some (.lst xs)):qO K H (.ref a) (.type "list")
 |frz {a:Addr} {o:Obj} {xs:List V} (e:H a=some (.frz o (.lst xs))):qO K H (.ref a) (.type "list")
 |tup {a:Addr} {xs:List V} (e:H a=some (.tup xs)):qO K H (.ref a) (.type "tuple")
 |dK {a:Addr} {kvs:List (Key × V)} (e:H a=some (.dK kvs)):qO K H (.ref a) (.type "dict")
 |dT {a:Addr} {kvs:List (List Key × V)} (e:H a=some (.dT kvs)):qO K H (.ref a) (.type "dict")
 |ins {a C dx:Addr} {fs:List (Str × V)} (e:H a=some (.ins C dx fs)) (cl:Cls K C) (ha:W.findIn K (.ref C) "__class__"=some (some (.builtin "object.__class__")))
   (hn:W.specialIn K (.builtin "object.__class__") "__get__"=some (some (.builtin "getset_descriptor.__get__"))) (htk:W.takesIn K (.builtin "object.__class__")=some true)
   (hm:W.mroIn K C (.type "object")=some true):qO K H (.ref a) (.ref C)
theorem iD{x:V}{u t:Value}(I:Inv X pins σ H s)(rx:cy x u)(ty:qO X.K H x t)(e:W.kitOne X.K t c=some b)(h:∀tk,Q (.bool b) { s with toks:=tk }) :
  wpAny (model X.prog X.w) A (call (.builtin "isinstance") [u,c]) Q E s:=by
 cases ty with
 |non=>cases (show u=Value.none from rx);exact W.kia_one W.kitx_none I.kIn True.intro e (λz=>nomatch z) h
 |bl y=>cases (show u=Value.bool y from rx);exact W.kia_one W.kitx_bool I.kIn True.intro e (λz=>nomatch z) h
 |int i=>obtain⟨t,q⟩:=(show ∃t,u=Value.int i t from rx);cases q;exact W.kia_one W.kitx_int I.kIn True.intro e (λz=>nomatch z) h
 |str y=>obtain⟨t,q⟩:=(show ∃t,u=Value.str y t from rx);cases q;exact W.kia_one W.kitx_str I.kIn True.intro e (λz=>nomatch z) h
 |flt y=>obtain⟨t,q⟩:=(show ∃t,u=Value.float y t from rx);cases q;exact W.kia_one W.kitx_float I.kIn True.intro e (λz=>nomatch z) h
 |@lst a xs ea =>
  cases (show u=Value.ref a from rx)
  obtain⟨_,_,n,_,h1⟩:=(show dl X.prog X.w H s.heap a (.lst xs) from I.hok a _ ea)
  exact W.kia_one W.kitx_list I.kIn ⟨_,h1,rfl⟩ e (λz=>nomatch z) h
 |@frz a ob xs ea =>
  cases (show u=Value.ref a from rx)
  obtain⟨_,_,_,n,_,h1⟩:=(show dl X.prog X.w H s.heap a (.frz ob (.lst xs)) from I.hok a _ ea)
  exact W.kia_one W.kitx_list I.kIn ⟨_,h1,rfl⟩ e (λz=>nomatch z) h
 |@tup a xs ea =>
  cases (show u=Value.ref a from rx)
  obtain⟨_,_,_,p⟩:=(show dl X.prog X.w H s.heap a (.tup xs) from I.hok a _ ea)
  obtain⟨o,h1,h2,_⟩:=p
  exact W.kia_one W.kitx_tuple I.kIn ⟨o,h1,h2⟩ e (λz=>nomatch z) h
 |@dK a kvs ea =>
  cases (show u=Value.ref a from rx)
  obtain⟨_,_,vs,_,p⟩:=(show dl X.prog X.w H s.heap a (.dK kvs) from I.hok a _ ea)
  obtain⟨o,es,ep,h1,h2,_⟩:=p
  exact W.kia_one W.kitx_dict I.kIn ⟨o,h1,h2.1⟩ e (λz=>nomatch z) h
 |@dT a kvs ea =>
  cases (show u=Value.ref a from rx)
  obtain⟨_,_,xs,_,o,es,ep,h1,h2,_⟩:=(show dl X.prog X.w H s.heap a (.dT kvs) from I.hok a _ ea)
  exact W.kia_one W.kitx_dict I.kIn ⟨o,h1,h2.1⟩ e (λz=>nomatch z) h
 |@ins a C dx fs ea cl ha hn htk hm =>
  cases (show u=Value.ref a from rx)
  obtain⟨mA,O,_⟩:=ny I.hok ea
  obtain⟨od,J,_⟩:=O.look
  exact W.kia_one (W.kitx_own (cl.get _) cl.hd ha hn htk hm) I.kIn J e (λz=>nomatch z) h
end
structure bZ(k:Nat)(A:Around):Prop where
 hd:A.handled=none
 dp:A.depth+3*k+5 < recursionLimit
 un:A.units+16*k+200 < cLine
 gd:A.guards=some []
theorem bZ.mono{j k:Nat}{A:Around}(r:bZ k A)(h:j<=k):bZ j A:=⟨r.hd,by have:=r.dp;omega,by have:=r.un;omega,r.gd⟩
theorem bZ.deeper{k:Nat}{A:Around}(r:bZ (k+1) A)(env:Env):bZ k (A.deeper env) :=
 ⟨r.hd,by have:=r.dp;show A.depth+1+3*k+5 < _;omega,by have:=r.un;show A.units+3+16*k+200 < _;omega,r.gd⟩
theorem sG{A:Around}{C:Addr}{us:List Value}{kw:List (Str × Value)}:(A.under (.builtin "type.__call__" ⟨.ref C::us,kw⟩)).depth=A.depth+1:=by
 first|rfl|simp [Around.under,Code.weight,Code.isCreation,Code.isGuard,Code.isCaller,Code.frames,Code.isFrame,guardIds]
theorem sP{A:Around}{C:Addr}{us:List Value}{kw:List (Str × Value)}:(A.under (.builtin "type.__call__" ⟨.ref C::us,kw⟩)).units=A.units+1:=by
 first|rfl|simp [Around.under,Code.cUnits,Code.frames,Code.isFrame]
theorem qe{A:Around}{C:Addr}{us:List Value}{kw:List (Str × Value)}:(A.under (.builtin "type.__call__" ⟨.ref C::us,kw⟩)).guards=A.guards:=by
 first|rfl|simp [Around.under,Code.guards,Code.isGuard,guardIds,pushGuards]
theorem bZ.make{k:Nat}{A:Around}(r:bZ (k+1) A)(C:Addr)(us:List Value)(kw:List (Str × Value)):bZ k (A.under (.builtin "type.__call__" ⟨.ref C::us,kw⟩)) :=
 ⟨r.hd,by have:=r.dp;rw [sG];omega,by have:=r.un;rw [sP];omega,qe.trans r.gd⟩
theorem bZ.depth{k:Nat}{A:Around}(r:bZ k A):A.depth < recursionLimit:=by have:=r.dp;omega
theorem bZ.units{k:Nat}{A:Around}(r:bZ k A):A.units+64 < cLine:=by have:=r.un;omega
def Cj:TA:=λ_ H Q=>Q [] H
def Bn(ta:TE)(tr:TA):TA:=λσ H Q=>ta σ H λx H1=>tr σ H1 λxs H2=>Q (x::xs) H2
section
variable{X:Cx}{e:Expr}{es:List Expr}{te:TE}{t:TA}{pos:Pos}
theorem ad:PA X [] Cj:=λ_ _ _ _ H Q I h=>Calls.spliced_nil ⟨[],H,I,.nil,h⟩
theorem pa_cons(ha:PE X e te)(hr:PA X es t)(hs:starEach (e::es) X.env=(false,eval e X.env)::starEach es X.env:=by rfl):PA X (e::es) (Bn te t):=by
 intro pos pins s σ H Q I h
 rw [hs]
 show wpAny _ _ (spliced ((false,eval e X.env)::backTo pos (starEach es X.env))) _ _ s
 refine Calls.spliced_cons (thn (ha pins s σ H _ I h) λu s1 zz=>?_)
 obtain⟨x,H1,I1,r1,q1⟩:=zz
 exact thn (hr pos pins s1 σ H1 _ I1 q1) λus s2 ⟨xs,H2,I2,r2,q2⟩=>⟨x::xs,H2,I2,.cons r1 r2,q2⟩
structure Wf(o:List V->HO)(xs:List V)(H:Hp)(Q:VK):Prop where
 h:xs.length<=sizeLine
 q:∀p,H p=none->Q (.ref p) (upd H p (o xs))
def CL(t:TA):TE:=λσ H Q=>t σ H λxs H1=>Wf .tup xs H1 Q
def Ct(t:TA):TE:=λσ H Q=>t σ H λxs H1=>Wf .lst xs H1 Q
theorem az{x1}(h:PA X es t):PE X (.Tuple es x1 pos) (CL t):=by
 intro pins s σ H Q I hq
 refine wpAny_Tuple_spliced (thn (h pos pins s σ H _ I hq) λus s1 ⟨xs,H1,I1,r,z,q⟩=>⟨by rw [<-r.length];exact z,?_⟩)
 have hf:H1 s1.heap.objs.size=none:=I1.hok.fresh (Nat.le_refl _)
 refine⟨.ref s1.heap.objs.size,upd H1 s1.heap.objs.size (.tup xs),I1.laid (t':=s1.toks) (λb u e=>Heap.get?_push_of_some _ e) (Nat.le_refl _) ?_,rfl,q _ hf⟩
 exact⟨z,us,r,⟨_,Heap.get?_push_size _ rfl,rfl,_,rfl⟩⟩
theorem bT(h:PA X es t):PE X (.List es pos) (Ct t):=by
 intro pins s σ H Q I hq
 refine wpAny_List_spliced (thn (h pos pins s σ H _ I hq) λus s1 ⟨xs,H1,I1,r,z,q⟩=>⟨by rw [<-r.length];exact z,?_⟩)
 have hf:H1 s1.heap.objs.size=none:=I1.hok.fresh (Nat.le_refl _)
 refine⟨.ref s1.heap.objs.size,upd H1 s1.heap.objs.size (.lst xs),I1.laid (t':=s1.toks) (λb u e=>Heap.get?_push_of_some _ e) (Nat.le_refl _) ?_,rfl,q _ hf⟩
 exact⟨z,us,0,r,Heap.get?_push_size _ rfl⟩
end
abbrev Sp:=List V->Hp->VK->XK->Prop
abbrev CXT:=List Env->Hp->Shared->XK->Value->Shared->Prop
structure yw(P:Program)(w:World)(K:W.Frag)(mg:Str->Option Value)(base:Heap)(A:Around)(outer:List Env)(s:Shared)(H:Hp):Prop where
 frames:A.frames=some outer
 mod:Mod K mg base
 bs:∀b o,base.get? b=some o->s.heap.get? b=some o/\H b=none
 bsz:base.objs.size<=s.heap.objs.size
 funs:s.heap.FunFrames base outer
 frf:∀b∈frs outer,H b=none
 hok:HOk P w H s.heap
 bare:AllBare s.gens
def CE(outer:List Env)(P:Program)(w:World)(H:Hp)(s:Shared)(Q:VK)(u:Value)(s':Shared):Prop :=
 ∃v H',s'.os=s.os/\AllBare s'.gens/\Un (frs outer) [] H H' s.heap s'.heap/\HOk P w H' s'.heap/\cy v u/\Q v H'
def CR(CX:CXT)(outer:List Env)(P:Program)(w:World)(H:Hp)(s:Shared)(Q:VK)(E:XK)(r:Result)(s':Shared):Prop :=
 match r with
 |.ok (.ret u)=>CE outer P w H s Q u s'
 |.ok _=>False
 |.error e=>CX outer H s E e s'
structure cE(P:Program)(w:World)(K:W.Frag)(mg:Str->Option Value)(base:Heap)(CX:CXT)(k:Nat)(f:Addr)(fd:FuncData)(ps:List Str)(sp:Sp):Prop where
 len:∀vs H Q E,sp vs H Q E->vs.length=ps.length
 run:∀(A:Around) (outer:List Env) (s:Shared) (H:Hp) (args:Args) (us:List Value) (vs:List V) (Q:VK) (E:XK),bZ k A->yw P w K mg base A outer s H->BindsTo s fd args (ps.zip us)->cr vs us->sp vs H Q E ->
  codeAny (model P w) A (.call (.ref f) args) (CR CX outer P w H s Q E) s
theorem yw.make{P:Program}{w:World}{K:W.Frag}{mg:Str->Option Value}{base:Heap}{A:Around}{outer:List Env}{s:Shared}{H:Hp}(e:yw P w K mg base A outer s H)(C:Addr)(us:List Value)(kw:List (Str × Value)) :
  yw P w K mg base (A.under (.builtin "type.__call__" ⟨.ref C::us,kw⟩)) outer s H:=⟨by first|exact e.frames|(simpa [Around.under,Code.envs,Code.isFrame,pushEnvs] using e.frames),e.mod,e.bs,e.bsz,e.funs,e.frf,e.hok,e.bare⟩
section
variable{X:Cx}{pins:List (Addr × Obj)}{σ:St}{H:Hp}{s s':Shared}
theorem Inv.env0(I:Inv X pins σ H s):yw X.prog X.w X.K X.mg X.base X.A X.stack s H :=
 ⟨I.ok.frames,I.ok.mod,I.bs,Nat.le_trans I.ok.bsz I.sz,I.stack,I.stkFree,I.hok,I.bare⟩
theorem Inv.after{Q:VK}{u:Value}(I:Inv X pins σ H s)(h:CE X.stack X.prog X.w H s Q u s'):EP X pins σ Q u s':=by
 obtain⟨v,H',os,bare,un,hok,r,q⟩:=h
 obtain⟨hh,g,d,t,os'⟩:=s'
 obtain rfl:os'=s.os:=os
 exact⟨v,H',I.call (h':=hh) (g':=g) (d':=d) (t':=t) (ch:=[]) un hok bare (λb z=>absurd z (by simp)),r,q⟩
end
def zW(sp:Sp)(dvs:List V)(E:XK)(t:TA):TE:=λσ H Q=>t σ H λvs H1=>sp (vs++dvs) H1 Q E
def zY(C:Addr)(m:Str)(sp:Sp)(dvs:List V)(E:XK)(ta:TE)(t:TA):TE:=λσ H Q=>ta σ H λx H1=>∃a dx fs,x=.ref a/\H1 a=some (.ins C dx fs)/\fs.lookup m=none /\
 t σ H1 λvs H2=>sp (x::(vs++dvs)) H2 Q E
def BL(C:Addr)(sp:Sp)(dvs:List V)(E:XK)(t:TA):TE:=λσ H Q=>t σ H λvs H1=>∀x dx,H1 x=none->H1 dx=none->dx≠x ->
 sp (.ref x::(vs++dvs)) (upd (upd H1 dx (.own x)) x (.ins C dx [])) (λv H2=>v=.non/\Q (.ref x) H2) E
def cU(K:W.Frag)(fd:FuncData)(ps:List Str)(ds:List Value):Prop :=
 ∀(s:Shared) (us:List Value),K.In s.heap->(us++ds).length=ps.length->BindsTo s fd ⟨us,[]⟩ (ps.zip (us++ds))
theorem cU.all{K:W.Frag}{fd:FuncData}{ps:List Str}(h:∀us:List Value,us.length=ps.length->bindArgs fd ⟨us,[]⟩=pure (ps.zip us)):cU K fd ps []:=λs us _ hl=>by
 rw [List.append_nil] at hl ⊢
 exact .of_eq (h us hl)
def ko(CX:CXT)(X:Cx)(E:XK):Prop:=∀(pins:List (Addr × Obj)) (σ:St) (H:Hp) (s:Shared) (e:Value) (s':Shared),Inv X pins σ H s->CX X.stack H s E e s'->X.xe e s'
section
variable{X:Cx}{CX:CXT}{k:Nat}{f C:Addr}{fd:FuncData}{ps:List Str}{sp:Sp}{dvs:List V}{ds:List Value}{E:XK}{x m:Str}{p pos apos:Pos}{e o:Expr}{es:List Expr}{ta:TE}{t:TA}
theorem vg{pins:List (Addr × Obj)}{σ:St}{H:Hp}{s:Shared}{Q:VK}{us:List Value}{vs:List V}(F:cE X.prog X.w X.K X.mg X.base CX k f fd ps sp)(hr:bZ k X.A)(hb:cU X.K fd ps ds)(hd:cr dvs ds)(hx:ko CX X E)
  (I:Inv X pins σ H s) (r:cr vs us) (h:sp (vs++dvs) H Q E):wpAny (model X.prog X.w) X.A (call (.ref f) us) (EP X pins σ Q) X.xe s:=by
 have r2:cr (vs++dvs) (us++ds):=r.append hd
 have hl:(us++ds).length=ps.length:=by rw [<-r2.length];exact F.len _ _ _ _ h
 refine wpAny_call (codeAny_mono (F.run X.A X.stack s H ⟨us,[]⟩ (us++ds) (vs++dvs) Q E hr I.env0 (hb s us I.kIn hl) r2 h) λr s' hq=>?_)
 cases r with
 |error e=>exact hx pins σ H s e s' I hq
 |ok fl =>
  cases fl with
  |ret u=>exact I.after hq
  |next=>exact False.elim hq
  |brk=>exact False.elim hq
  |cont=>exact False.elim hq
theorem fF(F:cE X.prog X.w X.K X.mg X.base CX k f fd ps sp)(hr:bZ k X.A)(hg:Gl X x)(hm:X.mg x=some (.ref f))(hk:W.keepIn X.K (.ref f)=true)(hb:cU X.K fd ps ds)(hd:cr dvs ds)(hx:ko CX X E)
  (ha:PA X (e::es) t) (hdb:(x==("__debug__":Str))=false:=by decide) (he:starEach (e::es) X.env=(false,eval e X.env)::starEach es X.env:=by rfl) (hpl:(backTo pos (starEach es X.env)).any (·.1)=false:=by rfl) :
  PE X (.Call (.Name x p) (e::es) [] pos) (zW sp dvs E t):=by
 intro pins s σ H Q I h
 refine wpAny_Call_Name_kw (pV I hg hm ?_ hdb)
 refine W.callWith_K (h₀:=X.base) I.ok.mod.kin hk (thn (ha pos pins s σ H _ I h) λus s1 ⟨vs,H1,I1,r,q⟩=>⟨I1.kIn,?_⟩) he hpl
 exact vg F hr hb hd hx I1 r q
theorem yl{pl:Sem Bool}(he:PE X o ta)(c:Cls X.K C)(hm:vK X.K C m f)(F:cE X.prog X.w X.K X.mg X.base CX k f fd ps sp)(hr:bZ k X.A)(hb:cU X.K fd ps ds)(hd:cr dvs ds)(hx:ko CX X E)(ha:PA X (e::es) t)
  (hst:starEach (e::es) X.env=(false,eval e X.env)::starEach es X.env:=by rfl) (hpl:(backTo pos (starEach es X.env)).any (·.1)=false:=by rfl)
  (ht:eval (.Call (.Attribute o m apos) (e::es) [] pos) X.env=(do
   let ov <-eval o X.env
   standAt apos.atName
   let (f,first) <-holding [ov] (getMethod ov m pl)
   callWith pos f first (backTo pos (starEach (e::es) X.env)) (backToKw pos (keywordEach [] X.env))):=by rfl) :
  PE X (.Call (.Attribute o m apos) (e::es) [] pos) (zY C m sp dvs E ta t):=by
 intro pins s σ H Q I h
 refine W.methodCall_KW (pl:=pl) (thn (he pins s σ H _ I h) λu s1 zz=>?_) ht
 obtain⟨x,H1,I1,rx,a,dx,fs,ex,ea,l,q⟩:=zz
 subst ex
 obtain rfl:u=Value.ref a:=rx
 refine lj I1 ea c hm l ?_
 refine W.callWith_K (first:=[.ref a]) (h₀:=X.base) I.ok.mod.kin hm.kp (thn (ha pos pins s1 σ H1 _ I1 q) λus s2 ⟨vs,H2,I2,r,q2⟩=>⟨I2.kIn,?_⟩) hst hpl
 exact vg (us:=.ref a::us) (vs:=.ref a::vs) F hr hb hd hx I2 (.cons rfl r) q2
theorem mK{pl:Sem Bool}(he:PE X o ta)(c:Cls X.K C)(hm:vK X.K C m f)(F:cE X.prog X.w X.K X.mg X.base CX k f fd ps sp)(hr:bZ k X.A)(hb:cU X.K fd ps ds)(hd:cr dvs ds)(hx:ko CX X E)
  (ht:eval (.Call (.Attribute o m apos) [] [] pos) X.env=(do
   let ov <-eval o X.env
   standAt apos.atName
   let (f,first) <-holding [ov] (getMethod ov m pl)
   callWith pos f first (backTo pos (starEach [] X.env)) (backToKw pos (keywordEach [] X.env))):=by rfl) :
  PE X (.Call (.Attribute o m apos) [] [] pos) (zY C m sp dvs E ta Cj):=by
 intro pins s σ H Q I h
 refine W.methodCall_KW (pl:=pl) (thn (he pins s σ H _ I h) λu s1 zz=>?_) ht
 obtain⟨x,H1,I1,rx,a,dx,fs,ex,ea,l,q⟩:=zz
 subst ex
 obtain rfl:u=Value.ref a:=rx
 refine lj I1 ea c hm l ?_
 exact W.callWith_K0 (first:=[.ref a]) I1.kIn hm.kp (vg (us:=[.ref a]) (vs:=[.ref a]) F hr hb hd hx I1 (.cons rfl .nil) q)
structure Mk(K:W.Frag)(C f:Addr):Prop where
 makes:W.makesIn K C=true
 init:W.findIn K (.ref C) "__init__"=some (some (.ref f))
 fn:W.isFn K (.ref f)=true
 kp:W.keepIn K (.ref C)=true
theorem vY{pins:List (Addr × Obj)}{σ:St}{H:Hp}{s:Shared}{Q:VK}{us:List Value}{vs:List V}(M:Mk X.K C f)(F:cE X.prog X.w X.K X.mg X.base CX k f fd ps sp)(hr:bZ (k+1) X.A)(hb:cU X.K fd ps ds)(hd:cr dvs ds)
  (hx:ko CX X E) (I:Inv X pins σ H s) (r:cr vs us)
  (h:∀x dx,H x=none->H dx=none->dx≠x->sp (.ref x::(vs++dvs)) (upd (upd H dx (.own x)) x (.ins C dx [])) (λv H2=>v=.non/\Q (.ref x) H2) E) :
  wpAny (model X.prog X.w) X.A (call (.ref C) us) (EP X pins σ Q) X.xe s:=by
 have hq:=h (s.heap.objs.size+1) s.heap.objs.size (I.hok.fresh (Nat.le_succ _)) (I.hok.fresh (Nat.le_refl _)) (Nat.ne_of_lt (Nat.lt_succ_self _))
 have I2:=Inv.made (C:=C) I
 have r2:cr (V.ref (s.heap.objs.size+1)::(vs++dvs)) (Value.ref (s.heap.objs.size+1)::(us++ds)):=.cons rfl (r.append hd)
 have hl:(Value.ref (s.heap.objs.size+1)::us++ds).length=ps.length:=by
  have e:=r2.length
  rw [F.len _ _ _ _ hq] at e
  exact e.symm
 refine wpAny_call (wc (f:=f) I.kIn M.makes M.init (beq_iff_eq.mp M.fn) (codeAny_mono (F.run _ X.stack _ _ ⟨Value.ref (s.heap.objs.size+1)::us,[]⟩ (Value.ref (s.heap.objs.size+1)::(us++ds)) _ _ E (hr.make C us [])
  (I2.env0.make C us []) (hb _ (Value.ref (s.heap.objs.size+1)::us) I2.kIn hl) r2 hq) λr s' hq'=>?_))
 cases r with
 |error e=>exact hx pins σ _ _ e s' I2 hq'
 |ok fl =>
  cases fl with
  |ret u =>
   obtain⟨v,H',I3,rv,ev,q3⟩:=I2.after hq'
   subst ev
   exact⟨rv,⟨V.ref (s.heap.objs.size+1),H',I3,rfl,q3⟩⟩
  |next=>exact False.elim hq'
  |brk=>exact False.elim hq'
  |cont=>exact False.elim hq'
theorem eO(M:Mk X.K C f)(F:cE X.prog X.w X.K X.mg X.base CX k f fd ps sp)(hr:bZ (k+1) X.A)(hg:Gl X x)(hm:X.mg x=some (.ref C))(hb:cU X.K fd ps ds)(hd:cr dvs ds)(hx:ko CX X E)
  (ha:PA X (e::es) t) (hdb:(x==("__debug__":Str))=false:=by decide) (he:starEach (e::es) X.env=(false,eval e X.env)::starEach es X.env:=by rfl) (hpl:(backTo pos (starEach es X.env)).any (·.1)=false:=by rfl) :
  PE X (.Call (.Name x p) (e::es) [] pos) (BL C sp dvs E t):=by
 intro pins s σ H Q I h
 refine wpAny_Call_Name_kw (pV I hg hm ?_ hdb)
 refine W.callWith_K (h₀:=X.base) I.ok.mod.kin M.kp (thn (ha pos pins s σ H _ I h) λus s1 ⟨vs,H1,I1,r,q⟩=>⟨I1.kIn,?_⟩) he hpl
 exact vY M F hr hb hd hx I1 r q
end
section
variable{X:Cx}{CX:CXT}{k:Nat}{f C:Addr}{fd:FuncData}{ps ks:List Str}{sp:Sp}{E:XK}{x m:Str}{p pos apos kpos:Pos}{e o:Expr}{es:List Expr}{kws:List Keyword}{te ta:TE}{t tk:TA}{nm:Option Str}
structure Ci(K:W.Frag)(fd:FuncData)(ps ks:List Str)(g:List Value->List Value->List Value)(gV:List V->List V->List V):Prop where
 to:∀(s:Shared) (us ws:List Value),K.In s.heap->(g us ws).length=ps.length->BindsTo s fd ⟨us,ks.zip ws⟩ (ps.zip (g us ws))
 rel:∀{vs:List V} {us:List Value} {zs:List V} {ws:List Value},cr vs us->cr zs ws->cr (gV vs zs) (g us ws)
variable{g:List Value->List Value->List Value}{gV:List V->List V->List V}
end
structure aG(N P:List Str)(sc:Scope):Prop where
 kind:sc.kind=.function
 co:sc.isCoroutine=false
 gen:sc.isGenerator=false
 nd:N.Nodup
 pre:N.take P.length=P
 par:∀x∈P,sc.names.lookup x=some .local\/sc.names.lookup x=some .cell
 nofree:∀y∈sc.names,y.2≠.free
theorem nQ{kindOf:Str->Option NameKind}{x:Str}:∀{binds:List (Str × Value)} {m:Str->Option Value},(∀v,(x,v)∉binds)->bindL kindOf binds m x=m x
 |[],_,_=>rfl
 |(n,v)::r,m,h=>by
  unfold bindL
  rw [nQ λw hw=>h w (List.mem_cons_of_mem _ hw)]
  split
  ·have:x≠n:=by rintro rfl;exact h v List.mem_cons_self
   simp [this]
  ·rfl
theorem oF{kindOf:Str->Option NameKind}{x:Str}:∀{binds:List (Str × Value)} {m:Str->Option Value},(∀v,(x,v)∉binds)->bindC kindOf binds m x=m x
 |[],_,_=>rfl
 |(n,v)::r,m,h=>by
  unfold bindC
  rw [oF λw hw=>h w (List.mem_cons_of_mem _ hw)]
  split
  ·rfl
  ·have:x≠n:=by rintro rfl;exact h v List.mem_cons_self
   simp [this]
theorem oP{kindOf:Str->Option NameKind}{x:Str}{v:Value}:∀{P:List Str} {vs:List Value} {i:Nat} {m:Str->Option Value},P.Nodup->P[i]?=some x->vs[i]?=some v->kindOf x=some .local ->
  bindL kindOf (P.zip vs) m x=some v
 |[],_,_,_,_,h,_,_=>by simp at h
 |_::_,[],_,_,_,_,h,_=>by simp at h
 |p::P,w::vs,0,m,nd,h1,h2,hk=>by
  simp at h1 h2;subst h1;subst h2
  show bindL kindOf ((p,w)::P.zip vs) m p=_
  unfold bindL
  rw [nQ λv hv=>(List.nodup_cons.mp nd).1 (List.of_mem_zip hv).1,if_pos hk]
  simp
 |p::P,w::vs,i+1,m,nd,h1,h2,hk=>by
  show bindL kindOf ((p,w)::P.zip vs) m x=_
  unfold bindL
  exact oP (i:=i) (List.nodup_cons.mp nd).2 (by simpa using h1) (by simpa using h2) hk
theorem nH{kindOf:Str->Option NameKind}{x:Str}{v:Value}:∀{P:List Str} {vs:List Value} {i:Nat} {m:Str->Option Value},P.Nodup->P[i]?=some x->vs[i]?=some v->kindOf x≠some .local ->
  bindC kindOf (P.zip vs) m x=some v
 |[],_,_,_,_,h,_,_=>by simp at h
 |_::_,[],_,_,_,_,h,_=>by simp at h
 |p::P,w::vs,0,m,nd,h1,h2,hk=>by
  simp at h1 h2;subst h1;subst h2
  show bindC kindOf ((p,w)::P.zip vs) m p=_
  unfold bindC
  rw [oF λv hv=>(List.nodup_cons.mp nd).1 (List.of_mem_zip hv).1,if_neg hk]
  simp
 |p::P,w::vs,i+1,m,nd,h1,h2,hk=>by
  show bindC kindOf ((p,w)::P.zip vs) m x=_
  unfold bindC
  exact nH (i:=i) (List.nodup_cons.mp nd).2 (by simpa using h1) (by simpa using h2) hk
def start(N:List Str)(vs:List V):St:=vs.map some++List.replicate (N.length - vs.length) none
def i6(CX:CXT)(P:Program)(w:World)(K:W.Frag)(mg:Str->Option Value)(base:Heap)(N:List Str)(qual:Str)(scope:Scope)(f:Addr)(cd:Value)(A:Around)(outer:List Env)(s:Shared)(H:Hp)(E:XK):Cx where
 prog:=P
 w:=w
 K:=K
 mg:=mg
 base:=base
 A:=A.deeper (envOfC qual scope s.heap.objs.size f cd)
 N:=N
 s₀:=s
 H₀:=H
 env:=envOfC qual scope s.heap.objs.size f cd
 outer:=outer
 stack:=envOfC qual scope s.heap.objs.size f cd::outer
 ex:=[]
 calm:=true
 fn:=λ_=>true
 pn:=[]
 xe:=λe s'=>wpAny (model P w) (A.deeper (envOfC qual scope s.heap.objs.size f cd)) (leaving (envOfC qual scope s.heap.objs.size f cd) e) (λ_ s''=>CX outer H s E e s'') (λe' s''=>CX outer H s E e' s'') s'
theorem qz{sc:Scope}{n:Nat}{x:Str}(h:sc.names.lookup x=some .cell):∃c,(cellsFrom n sc.names []).lookup x=some c:=by
 have q:=W.cellsFrom_some sc.names n [] (.inl h)
 exact Option.isSome_iff_exists.mp q
theorem uU{CX:CXT}{P:Program}{w:World}{K:W.Frag}{mg:Str->Option Value}{base:Heap}{N ps:List Str}{qual:Str}{scope:Scope}{f:Addr}{cd:Value}{A:Around}{outer:List Env}{s s1:Shared}{H:Hp}{E:XK}{us:List Value}{vs:List V}
  (S:aG N ps scope) (hd:A.handled=none) (e0:yw P w K mg base A outer s H) (hl:vs.length=ps.length) (r:cr vs us)
  (x:InCallC s s.heap.objs.size (bindL (envOfC qual scope s.heap.objs.size f cd).kindOf (ps.zip us) λ_=>none) (cellsFrom (s.heap.objs.size+1) scope.names []) (bindC (envOfC qual scope s.heap.objs.size f cd).kindOf (ps.zip us) λ_=>none) s1) :
  Inv (i6 CX P w K mg base N qual scope f cd A outer s H E) [] (start N vs) H s1:=by
 have hpl:ps.length<=N.length:=by have:=congrArg List.length S.pre;rw [List.length_take] at this;omega
 obtain⟨h1,tk,rfl,hk⟩:=x.done
 have noA:∀b:Addr,b∉(i6 CX P w K mg base N qual scope f cd A outer s H E).ex:=λb z=>absurd (show b∈([]:List Addr) from z) (by simp)
 refine⟨⟨e0.mod,S.kind,rfl,rfl,Nat.le_refl _,λy z c h1 h2=>?_,λy hy=>?_,λy c _ h=>?_,λ_=>hd,Around.frames_deeper e0.frames,.inr ⟨rfl,rfl⟩,λb z=>absurd z (noA b),e0.bs,e0.bsz,λb _ _=>noA b,λb z=>absurd z (noA b),e0.funs,e0.frf⟩,
  rfl,e0.bare,Un.kept hk,⟨_,x.toInCall.ns,λi y v h1 h2 h3=>?_⟩,λy c h=>⟨_,x.cell y c h⟩,e0.hok.fresh (Nat.le_refl _),λy c h=>?_,λp hp=>absurd (show p∈([]:List (Addr × Obj)) from hp) (by simp),e0.hok.kept hk,?_⟩
 ·exact name_of_addr x.apart (PySem.mem_of_lookup h1) (PySem.mem_of_lookup h2)
 ·have hy:scope.names.lookup y=some .cell\/scope.names.lookup y=some .free:=hy
  rcases hy with hy|hy
  ·exact qz hy
  ·exact absurd rfl (S.nofree _ (PySem.mem_of_lookup hy))
 ·exact Nat.le_of_lt (x.above y c (PySem.mem_of_lookup h))
 ·have hi:i < vs.length:=by
   unfold start at h2
   by_cases hi:i < vs.length
   ·exact hi
   ·rw [List.getElem?_append_right (by simpa using hi)] at h2
    rw [List.getElem?_replicate] at h2
    split at h2<;>cases h2
  have ha:vs[i]?=some v:=by
   unfold start at h2
   rw [List.getElem?_append_left (by simpa using hi),List.getElem?_map] at h2
   cases e:vs[i]? with
   |none=>rw [e] at h2;cases h2
   |some a=>rw [e] at h2;cases h2;rfl
  obtain⟨u,hu,rv⟩:=r.get ha
  have hp:ps[i]?=some y:=by
   rw [<-S.pre,List.getElem?_take_of_lt (by omega)];exact h1
  have ndP:ps.Nodup:=by rw [<-S.pre];exact S.nd.sublist (List.take_sublist _ _)
  refine⟨u,rv,?_⟩
  rcases S.par y (List.mem_of_getElem? hp) with k|k
  ·exact .inl ⟨k,oP ndP hp hu k⟩
  ·obtain⟨c,e⟩:=qz (n:=s.heap.objs.size+1) k
   refine .inr ⟨.inl k,c,e,?_⟩
   have q:=x.cell y c e
   rw [nH ndP hp hu (by show scope.names.lookup y≠_;rw [k];decide)] at q
   exact q
 ·exact e0.hok.fresh (Nat.le_of_lt (x.above y c (PySem.mem_of_lookup h)))
 ·unfold start
  show _=N.length
  rw [List.length_append,List.length_map,List.length_replicate]
  omega
theorem Ai{CX:CXT}{P:Program}{w:World}{K:W.Frag}{mg:Str->Option Value}{base:Heap}{k:Nat}{f:Addr}{name qual:Str}{params:Arguments}{body:List Stmt}{scope:Scope}{dV kV doc pm cdv ct oc:Value}{an od:Option Addr}
  {osl:Array (Option Value)} {N ps:List Str} {sp:Sp} (lk:K.lookup f=some ⟨oc,od,.func (W.fnOf name qual params body scope dV kV doc pm an cdv ct),osl⟩) (hcd:W.codeIn K cdv qual=true) (S:aG N ps scope)
  (len:∀vs H Q E,sp vs H Q E->vs.length=ps.length)
  (hbody:∀(A:Around) (outer:List Env) (s:Shared) (H:Hp) (vs:List V) (Q:VK) (E:XK),bZ k (A.deeper (envOfC qual scope s.heap.objs.size f cdv))->sp vs H Q E ->
   ∃t,PSs (i6 CX P w K mg base N qual scope f cdv A outer s H E) body t/\t { nx:=λ_ H'=>Q .non H',rt:=Q } (start N vs) H) :
  cE P w K mg base CX (k+1) f (W.fnOf name qual params body scope dV kV doc pm an cdv ct) ps sp:=by
 refine⟨len,λA outer s H args us vs Q E hr e0 hb r hsp=>?_⟩
 have hl:=len _ _ _ _ hsp
 have KX:K.In s.heap:=e0.mod.kin.keeps λb o e=>(e0.bs b o e).1
 have lim:s.heap.NoLimit:=e0.mod.nolimit.keeps λb o e=>(e0.bs b o e).1
 have hkind:∀y∈ps.zip us,scope.names.lookup y.1=some .local\/(scope.names.lookup y.1=some .cell/\((cellsFrom (s.heap.objs.size+1) scope.names []).lookup y.1).isSome=true):=fun⟨n,v⟩ hy=>by
  rcases S.par n (List.of_mem_zip hy).1 with q|q
  ·exact .inl q
  ·exact .inr ⟨q,W.cellsFrom_some _ _ _ (.inl q)⟩
 refine codeAny_call_function hr.depth (KX _ _ lk) rfl S.co S.gen rfl (W.codeRec_of KX hcd) (hb _ _ _ _ ?_)
 refine wpAny_newFunctionEnv_cells S.kind hkind λenv he s1 x=>?_
 subst he
 refine⟨lim.keeps x.toInCall.keep,codeAny_func ?_⟩
 obtain⟨t,ht,hq⟩:=hbody A outer s H vs Q E (hr.deeper _) hsp
 have I:Inv (i6 CX P w K mg base N qual scope f cdv A outer s H E) [] (start N vs) H s1:=uU S hr.hd e0 hl r x
 refine wpAny_mono (ht [] s1 (start N vs) H _ I hq) (λfl s' hs=>?_) λe s' hs=>hs
 have fin:∀{σ':St} {H':Hp} {v:V} {u:Value},Inv (i6 CX P w K mg base N qual scope f cdv A outer s H E) [] σ' H' s'->cy v u->Q v H'->CE outer P w H s Q u s' :=
  λ{σ' H' v u} J rv q=>⟨v,H',J.os,J.bare,J.base,J.hok,rv,q⟩
 cases fl with
 |ret u =>
  obtain⟨v,σ',H',J,rv,q⟩:=hs
  exact fin J rv q
 |next =>
  obtain⟨σ',H',J,q⟩:=hs
  exact fin (v:=V.non) (u:=Value.none) J rfl q
 |brk =>
  obtain⟨_,_,_,q⟩:=hs
  exact False.elim q
 |cont =>
  obtain⟨_,_,_,q⟩:=hs
  exact False.elim q
section
variable{X:Cx}{x:Str}{p pos:Pos}{e:Expr}{es:List Expr}{t:TA}{id T:String}{r:List V->Hp->VK->Prop}
def tCB(r:List V->Hp->VK->Prop)(t:TA):TE:=λσ H Q=>t σ H λvs H1=>r vs H1 Q
theorem aT(hc:gU X (.builtin id) r)(hg:Gl X x)(hm:X.mg x=none)(hv:bootBuiltins x=some (.builtin id))(ha:PA X (e::es) t) (hn:x≠"__name__":=by decide) (hdb:(x==("__debug__":Str))=false:=by decide)
  (he:starEach (e::es) X.env=(false,eval e X.env)::starEach es X.env:=by rfl) (hpl:(backTo pos (starEach es X.env)).any (·.1)=false:=by rfl):PE X (.Call (.Name x p) (e::es) [] pos) (tCB r t):=by
 intro pins s σ H Q I h
 refine wpAny_Call_Name_kw (nN I hg hm hv ?_ hn hdb)
 exact PyProof.Rows.callWith_builtin1 (thn (ha pos pins s σ H _ I h) λus s1 ⟨vs,H1,I1,r1,q1⟩=>hc pins s1 σ H1 vs us Q I1 r1 q1) he hpl
theorem aQ(hc:gU X (.type T) r)(hg:Gl X x)(hm:X.mg x=none)(hv:bootBuiltins x=some (.type T))(ha:PA X (e::es) t) (hn:x≠"__name__":=by decide) (hdb:(x==("__debug__":Str))=false:=by decide)
  (he:starEach (e::es) X.env=(false,eval e X.env)::starEach es X.env:=by rfl) (hpl:(backTo pos (starEach es X.env)).any (·.1)=false:=by rfl):PE X (.Call (.Name x p) (e::es) [] pos) (tCB r t):=by
 intro pins s σ H Q I h
 refine wpAny_Call_Name_kw (nN I hg hm hv ?_ hn hdb)
 exact PyProof.Rows.callWith_type1 (thn (ha pos pins s σ H _ I h) λus s1 ⟨vs,H1,I1,r1,q1⟩=>hc pins s1 σ H1 vs us Q I1 r1 q1) he hpl
end
end L2
namespace HT
open PySem PyProof.Rows
section
open PySem.SeqAt
open PySem.AutoSeq1 (wpAny_loadPart')
open PySem.MeetsSeq PySem.MeetsSeq2 PySem.MeetsSeq3
end
section
variable{prog:Program}{w:World}{A:Around}{E:Value->Shared->Prop}{s:Shared}
theorem cat_tup{t b:Addr}{vs ws:List Value}{Q:Value->Shared->Prop}(ht:IsTup s.heap t vs.toArray)(hb:IsTup s.heap b ws.toArray)(hv:vs≠[])
  (h1:ws=[]->Q (.ref t) s) (h2:ws≠[]->Q (.ref s.heap.objs.size) { s with heap:=s.heap.push { cls:=.type "tuple",data:=.seq (vs++ws).toArray } })
  (hsz:vs.length+ws.length<=sizeLine):wpAny (model prog w) A (binaryOp .Add (.ref t) (.ref b)) Q E s:=by
 obtain⟨⟨cls,dd,data,sl⟩,ho,hc,n,hd⟩:=id ht
 obtain⟨⟨cls2,dd2,data2,sl2⟩,ho2,hc2,n2,hd2⟩:=id hb
 simp only at hc hd hc2 hd2
 subst hc hd hc2 hd2
 have e:vs.toArray++ws.toArray=(vs++ws).toArray:=by simp
 by_cases hw:ws=[]
 ·exact concat_meets ⟨_,ho,rfl⟩ ⟨_,ho2,rfl⟩ noFill_tuple_add seq_tuple_add PySem.F.slot_tuple_add PySem.F.entry_tuple_add (PySem.F.args_tuple_add_2 _ _)
   (tuple_addW1 t b vs.toArray ws.toArray n n2 dd dd2 sl sl2 (by simpa using hv) (by simp [hw])) ⟨ho,ho2,h1 hw⟩
 ·refine concat_meets ⟨_,ho,rfl⟩ ⟨_,ho2,rfl⟩ noFill_tuple_add seq_tuple_add PySem.F.slot_tuple_add PySem.F.entry_tuple_add (PySem.F.args_tuple_add_2 _ _)
   (tuple_addW2 t b vs.toArray ws.toArray n n2 dd dd2 sl sl2 (by simpa using hv) (by simpa using hw) (by rw [List.size_toArray,List.size_toArray];exact hsz)) ⟨ho,ho2,?_⟩
  rw [e]
  exact h2 hw
def sIx(n d:Nat):Option Int->Nat
 |none=>d
 |some v=>if v < 0 then (v+(n:Int)).toNat else min v.toNat n
theorem sIx_none(n d:Nat):sIx n d none=d:=rfl
theorem sIx_nat(n d k:Nat):sIx n d (some (k:Int))=min k n:=by
 show(if (k:Int) < 0 then ((k:Int)+(n:Int)).toNat else min (k:Int).toNat n)=min k n
 rw [if_neg (by omega),Int.toNat_natCast]
end
end HT
namespace L2
open PySem PySem.Spec PyProof.Rows
abbrev TO:=St->Hp->(Option Int->Hp->Prop)->Prop
def PO(X:Cx)(e:Option Expr)(t:TO):Prop :=
 ∀(pins:List (Addr × Obj)) (s:Shared) (σ:St) (H:Hp) (Q:Option Int->Hp->Prop),Inv X pins σ H s->t σ H Q ->
  wpAny (model X.prog X.w) X.A (evalPart e X.env) (λu s'=>∃o H',Inv X pins σ H' s'/\IsPart u o/\Q o H') X.xe s
def yA:TO:=λ_ H Q=>Q none H
def Bm(t:TE):TO:=λσ H Q=>t σ H λx H1=>∃i,x=.int i/\Q (some i) H1
section
variable{X:Cx}{e:Expr}{te:TE}{lo hi:Option Expr}{tl th:TO}{pos p2:Pos}
theorem ud:PO X none yA:=by
 intro pins s σ H Q I h
 rw [evalPart_none]
 exact wpAny_pure ⟨none,H,I,.none,h⟩
theorem uf(h:PE X e te):PO X (some e) (Bm te):=by
 intro pins s σ H Q I hw
 rw [evalPart_some]
 refine thn (h pins s σ H _ I hw) λu s1 zz=>?_
 obtain⟨x,H1,I1,r1,q1⟩:=zz
 obtain⟨i,rfl,q⟩:=q1
 obtain⟨t,rfl⟩:=r1
 exact⟨some i,H1,I1,.int i t,q⟩
def SlR(X:Cx)(r:V->Option Int->Option Int->Hp->VK->Prop):Prop :=
 ∀(pins:List (Addr × Obj)) (s:Shared) (σ:St) (H:Hp) (x:V) (v vl vu:Value) (lo hi:Option Int) (sl:Addr) (Q:VK),Inv X pins σ H s->cy x v->s.heap.IsSliceOf sl vl vu .none->IsPart vl lo->IsPart vu hi->r x lo hi H Q ->
  ∃T id,typeLookup (.type T) "__getitem__"=pure (some (.builtin id))/\s.TypeIs v T/\wpAny (model X.prog X.w) X.A (getItem v (.ref sl)) (EP X pins σ Q) X.xe s
def tSl(r:V->Option Int->Option Int->Hp->VK->Prop)(te:TE)(tl th:TO):TE:=λσ H Q=>te σ H λx H1=>tl σ H1 λl H2=>th σ H2 λu H3=>r x l u H3 Q
theorem rC{r:V->Option Int->Option Int->Hp->VK->Prop}(hr:SlR X r)(he:PE X e te)(hl:PO X lo tl)(hu:PO X hi th):PE X (.Subscript e (.Slice lo hi none p2) pos) (tSl r te tl th):=by
 intro pins s σ H Q I h
 refine Subscript_ (thn (he pins s σ H _ I h) λv s1 zz=>?_)
 obtain⟨x,H1,I1,r1,q1⟩:=zz
 refine wpAny_Slice (thn (hl pins s1 σ H1 _ I1 q1) λvl s2 ⟨l,H2,I2,pl,q2⟩=>thn (hu pins s2 σ H2 _ I2 q2) λvu s3 zz=>?_)
 obtain⟨u,H3,I3,pu,q3⟩:=zz
 rw [evalPart_none]
 refine wpAny_pure ?_
 have I4:Inv X pins σ H3 { s3 with heap:=s3.heap.push { cls:=.type "slice",data:=.fields #[vl,vu,.none] } }:=I3.kept (t':=s3.toks) λb ob q=>Heap.get?_push_of_some _ q
 obtain⟨T,id,hT,ht,hg⟩:=hr pins { s3 with heap:=s3.heap.push { cls:=.type "slice",data:=.fields #[vl,vu,.none] } } σ H3 x v vl vu l u s3.heap.objs.size Q I4 r1 (Heap.IsSliceOf.new ..) pl pu q3
 show wpAny (model X.prog X.w) X.A (subscriptTail e (.Slice lo hi none p2) v (.ref s3.heap.objs.size)) (EP X pins σ Q) X.xe { s3 with heap:=s3.heap.push { cls:=.type "slice",data:=.fields #[vl,vu,.none] } }
 exact tail_any (ops:=[.ref s3.heap.objs.size,v]) ht hT hg (by with_unfolding_all rfl)
def xJ(xs:List V)(lo hi:Option Int):List V:=(xs.drop (HT.sIx xs.length 0 lo)).take (HT.sIx xs.length xs.length hi - HT.sIx xs.length 0 lo)
theorem pP(xs:List V)(lo hi:Option Int):(xJ xs lo hi).length<=xs.length:=by
 unfold xJ
 rw [List.length_take,List.length_drop]
 omega
def By(K:W.Frag):R2:=λx y H Q=>∃a b xs ys,x=.ref a/\y=.ref b/\SqT K H a xs/\SqT K H b ys/\xs≠[]/\xs.length+ys.length<=sizeLine /\
 (ys=[]->Q (.ref a) H)/\(ys≠[]->∀p,H p=none->Q (.ref p) (upd H p (.tup (xs++ys))))
theorem cr.nil_iff{xs:List V}{us:List Value}(r:cr xs us):us=[]↔xs=[]:=by
 cases r with
 |nil=>simp
 |cons _ _=>simp
theorem x2:OpR X (binaryOp .Add) (By X.K):=by
 intro pins s σ H x y v u Q I rx ry h
 obtain⟨a,b,xs,ys,rfl,rfl,ha,hb,hx,hz,q1,q2⟩:=h
 cases rx
 cases ry
 obtain⟨its,r1,p1,_⟩:=I.tuple ha
 obtain⟨its2,r2,p2,_⟩:=I.tuple hb
 refine HT.cat_tup p1 p2 (λz=>hx (r1.nil_iff.mp z)) (λz=>⟨.ref a,H,I,rfl,q1 (r2.nil_iff.mp z)⟩) (λz=>?_) (by rw [<-r1.length,<-r2.length];exact hz)
 refine⟨.ref s.heap.objs.size,_,I.laid (t':=s.toks) (o:=.tup (xs++ys)) (λb ob q=>Heap.get?_push_of_some _ q) (Nat.le_refl _) ?_,rfl,q2 (λw=>z (r2.nil_iff.mpr w)) _ (I.hok.fresh (Nat.le_refl _))⟩
 exact⟨by rw [List.length_append];exact hz,_,r1.append r2,IsTup.new _ _⟩
end
def ixN(n:Nat)(i:Int):Option Nat:=if 0<=i then (if i < n then some i.toNat else none) else if -(n:Int)<=i then some (i+n).toNat else none
def atI{α:Type}(xs:List α)(i:Int):Option α:=(ixN xs.length i).bind λj=>xs[j]?
theorem xZ{n:Nat}{i:Int}{j:Nat}(h:ixN n i=some j):seqIndex? i n=some j/\j < n/\-(n:Int)<=i/\i < n:=by
 unfold ixN at h
 by_cases h0:0<=i
 ·rw [if_pos h0] at h
  by_cases h1:i < n
  ·rw [if_pos h1] at h
   have e:i.toNat=j:=Option.some.inj h
   exact⟨by rw [seqIndex_of h0 h1,e],by omega,by omega,h1⟩
  ·rw [if_neg h1] at h;cases h
 ·rw [if_neg h0] at h
  by_cases h1:-(n:Int)<=i
  ·rw [if_pos h1] at h
   have e:(i+n).toNat=j:=Option.some.inj h
   exact⟨by rw [seqIndex_neg (by omega) h1,e],by omega,h1,by omega⟩
  ·rw [if_neg h1] at h;cases h
theorem pH{α:Type}{xs:List α}{i:Int}{v:α}(h:atI xs i=some v):∃j,seqIndex? i xs.length=some j/\xs[j]?=some v/\j < xs.length/\-(xs.length:Int)<=i/\i < xs.length:=by
 unfold atI at h
 cases e:ixN xs.length i with
 |none=>rw [e] at h;cases h
 |some j =>
  rw [e] at h
  obtain⟨h1,h2,h3,h4⟩:=xZ e
  exact⟨j,h1,h,h2,h3,h4⟩
theorem bE{α:Type}{xs:List α}{j:Nat}{v:α}(h:xs[j]?=some v):atI xs (j:Int)=some v:=by
 have hj:j < xs.length:=(List.getElem?_eq_some_iff.mp h).1
 have e:ixN xs.length (j:Int)=some j:=by
  unfold ixN
  rw [if_pos (by omega),if_pos (by omega)];simp
 unfold atI;rw [e];exact h
def uX(b:Expr):Prop:=∀o i,subscripted b false o i=operate [o,i] (getItem o i)
def IxR(X:Cx)(r:R2):Prop :=
 ∀(value slice:Expr) (pins:List (Addr × Obj)) (s:Shared) (σ:St) (H:Hp) (x y:V) (v u:Value) (Q:VK),Inv X pins σ H s->cy x v->cy y u->r x y H Q ->
  subscripted slice false v u=operate [v,u] (getItem v u)->wpAny (model X.prog X.w) X.A (subscriptTail value slice v u) (EP X pins σ Q) X.xe s
def MtR(X:Cx)(id:String)(r:V->List V->Hp->VK->Prop):Prop :=
 ∀(pins:List (Addr × Obj)) (s:Shared) (σ:St) (H:Hp) (x:V) (xs:List V) (v:Value) (us:List Value) (Q:VK),Inv X pins σ H s->cy x v->cr xs us->r x xs H Q ->
  wpAny (model X.prog X.w) X.A (call (.builtin id) (v::us)) (EP X pins σ Q) X.xe s
section
variable{X:Cx}{a b:Expr}{ta tb:TE}{pos:Pos}
theorem aN{r:R2}(hr:IxR X r)(ha:PE X a ta)(hb:PE X b tb)(hs:uX b):PE X (.Subscript a b pos) (tOp r ta tb):=by
 intro pins s σ H Q I h
 exact Subscript_ (Bu ha hb I h λv u s2 x y H2 I2 rx ry q=>hr a b pins s2 σ H2 x y v u Q I2 rx ry q (hs _ _))
inductive Wg (S:W.Frag->Hp->Addr->List V->Prop) (K:W.Frag) (x y:V) (H:Hp) (Q:VK):Prop
 |mk (p:Addr) (xs:List V) (i:Int) (v:V) (a:x=.ref p) (b:y=.int i) (c:S K H p xs) (d:atI xs i=some v) (q:Q v H)
def CJ(K:W.Frag):R2:=λx y H Q=>Wg SqL K x y H Q
def sS(K:W.Frag):R2:=λx y H Q=>Wg SqT K x y H Q
def Cs:R2:=λx y H Q=>∃z i c,x=.str z/\y=.int i/\z.length<=sizeLine/\atI z.cps.toList i=some c/\Q (.str ⟨#[c]⟩) H
theorem aO:IxR X (CJ X.K):=by
 intro value slice pins s σ H x y v u Q I rx ry h hs
 obtain⟨p,xs,i,z,rfl,rfl,hq,he,q⟩:=h
 cases rx
 obtain⟨t,rfl⟩:=ry
 obtain⟨its,r,pl,hz⟩:=I.list hq
 obtain⟨j,h1,h2,h3,h4,h5⟩:=pH he
 obtain⟨w,ew,rw'⟩:=r.get h2
 have hl:=r.length
 have hn:=qP
 have fin:EP X pins σ Q w s:=⟨z,H,I,rw',q⟩
 by_cases h0:0<=i
 ·have hj:i.toNat=j:=by
   rw [seqIndex_of h0 h5] at h1
   exact Option.some.inj h1
  exact item_listR pl.isList h0 (by omega) (by rw [hj];simpa using ew) fin hs
 ·have hj:(i+(its.toArray.size:Int)).toNat=j:=by
   rw [seqIndex_neg (by omega) h4] at h1
   rw [List.size_toArray,<-hl]
   exact Option.some.inj h1
  exact subscriptTail_builtinR (x:=w) pl.isList.typeIs slot_list_getitem.lookup
   (wpAny_getItem_list_neg (Q:=λr s'=>r=w/\EP X pins σ Q r s') pl.isList (by omega) (by rw [List.size_toArray]<;>omega) (by omega) (by rw [hj];simpa using ew) ⟨rfl,fin⟩) hs
theorem ak:IxR X (sS X.K):=by
 intro value slice pins s σ H x y v u Q I rx ry h hs
 obtain⟨p,xs,i,z,rfl,rfl,hq,he,q⟩:=h
 cases rx
 obtain⟨t,rfl⟩:=ry
 obtain⟨its,r,pl,hz⟩:=I.tuple hq
 obtain⟨j,h1,h2,h3,h4,h5⟩:=pH he
 obtain⟨w,ew,rw'⟩:=r.get h2
 have hl:=r.length
 have hn:=qP
 have fin:EP X pins σ Q w s:=⟨z,H,I,rw',q⟩
 exact subscriptTail_builtinR (x:=w) pl.typeIs slot_tuple_getitem.lookup
  (getItem_tuple (j:=j) (Q:=λr s'=>r=w/\EP X pins σ Q r s') pl (by omega) (by omega) (by rw [List.size_toArray,<-hl];exact h1) (by simpa using ew) ⟨rfl,fin⟩) hs
theorem xu:IxR X Cs:=by
 intro value slice pins s σ H x y v u Q I rx ry h hs
 obtain⟨z,i,c,rfl,rfl,hz,he,q⟩:=h
 obtain⟨t,rfl⟩:=rx
 obtain⟨t',rfl⟩:=ry
 obtain⟨j,h1,h2,h3,h4,h5⟩:=pH he
 have hl:z.cps.toList.length=z.length:=by simp [Str.length]
 rw [hl] at h1 h4 h5
 have hn:=qP
 exact tail_any (typeIs_str s z t) slot_str_getitem.lookup (getItem_str (c:=c) (by
  have e1:decide (i < -(2 ^ 63:Int))=false:=decide_eq_false (by omega)
  have e2:decide (i≥2 ^ 63)=false:=decide_eq_false (by omega)
  rw [e1,e2,Bool.or_false]) (by rw [h1];simpa using h2) ⟨.str ⟨#[c]⟩,H,I.tok _,⟨_,rfl⟩,q⟩) hs
theorem oh(lo hi:Option Int)(n:Nat):(sliceBounds lo hi none n).1=((HT.sIx n 0 lo:Nat):Int)/\(sliceBounds lo hi none n).2.1=((HT.sIx n n hi:Nat):Int)/\(sliceBounds lo hi none n).2.2=1:=by
 refine⟨?_,?_,rfl⟩
 ·cases lo with
  |none=>simp [sliceBounds,HT.sIx]
  |some i =>
   simp only [sliceBounds,HT.sIx,Option.getD_none,show(1:Int) > 0 by decide,if_true]
   by_cases h:i < 0
   ·simp only [h,if_true]<;>omega
   ·simp only [h,if_false]<;>omega
 ·cases hi with
  |none=>simp [sliceBounds,HT.sIx]
  |some i =>
   simp only [sliceBounds,HT.sIx,Option.getD_none,show(1:Int) > 0 by decide,if_true]
   by_cases h:i < 0
   ·simp only [h,if_true]<;>omega
   ·simp only [h,if_false]<;>omega
theorem lY(its:List Value)(lo hi:Option Int):slicePick its.toArray lo hi none=((its.drop (HT.sIx its.length 0 lo)).take (HT.sIx its.length its.length hi - HT.sIx its.length 0 lo)).toArray:=by
 obtain⟨h1,h2,h3⟩:=oh lo hi its.toArray.size
 unfold slicePick
 rw [h1,h2,h3]
 simp only [sliceRange_one,pick_run,List.size_toArray]<;>rfl
def CG(K:W.Frag):V->Option Int->Option Int->Hp->VK->Prop:=λx lo hi H Q=>∃a xs,x=.ref a/\SqL K H a xs/\∀p,H p=none->Q (.ref p) (upd H p (.lst (xJ xs lo hi)))
theorem vz:SlR X (CG X.K):=by
 intro pins s σ H x v vl vu lo hi sl Q I rx hs pl pu h
 obtain⟨a,xs,rfl,hx,q⟩:=h
 cases rx
 obtain⟨its,r,ht,hz⟩:=I.list hx
 have hlen:=r.length
 refine⟨"list",_,slot_list_getitem.lookup,ht.isList.typeIs,?_⟩
 refine wpAny_getItem_list_slice ht.isList hs pl pu .none (by simp) ?_ (by rw [List.size_toArray]<;>omega)
 rw [lY,<-hlen]
 refine⟨.ref s.heap.objs.size,_,I.laid (t':=s.toks) (o:=.lst (xJ xs lo hi)) (λb ob q=>Heap.get?_push_of_some _ q) (Nat.le_refl _) ?_,rfl,q _ (I.hok.fresh (Nat.le_refl _))⟩
 exact⟨Nat.le_trans (pP xs lo hi) hz,_,0,(r.drop (HT.sIx xs.length 0 lo)).take (HT.sIx xs.length xs.length hi - HT.sIx xs.length 0 lo),Heap.get?_push_size _ rfl⟩
def mZ:V->Bool
 |.non=>true
 |.bl _=>true
 |.int _=>true
 |.str _=>true
 |_=>false
def eqV:V->V->Bool
 |.non,.non=>true
 |.bl a,.bl b=>a==b
 |.bl a,.int b=>(if a then 1 else 0)==b
 |.int a,.bl b=>a==(if b then 1 else 0)
 |.int a,.int b=>a==b
 |.str a,.str b=>a==b
 |_,_=>false
theorem zN{A:Around}{s:Shared}{y x:V}{u v:Value}(ry:cy y u)(rx:cy x v)(fy:mZ y=true)(fx:mZ x=true):SeqAt.EqAt A s u v (eqV y x):=by
 cases y with
 |non =>
  cases ry
  cases x with
  |non=>cases rx;exact SeqAt.EqAt.same _
  |bl b=>cases rx;exact SeqAt.EqAt.none_bool b
  |int b=>obtain⟨t,rfl⟩:=rx;exact SeqAt.EqAt.none_int b t
  |str b=>obtain⟨t,rfl⟩:=rx;exact SeqAt.EqAt.none_str b t
  |_=>exact absurd (show false=true from fx) Bool.false_ne_true
 |bl a =>
  cases ry
  cases x with
  |non=>cases rx;exact SeqAt.EqAt.bool_none a
  |bl b=>cases rx;exact SeqAt.EqAt.bool_bool a b
  |int b=>obtain⟨t,rfl⟩:=rx;exact SeqAt.EqAt.bool_int a b t
  |str b=>obtain⟨t,rfl⟩:=rx;exact SeqAt.EqAt.bool_str a b t
  |_=>exact absurd (show false=true from fx) Bool.false_ne_true
 |int a =>
  obtain⟨t',rfl⟩:=ry
  cases x with
  |non=>cases rx;exact SeqAt.EqAt.int_none a t'
  |bl b=>cases rx;exact SeqAt.EqAt.int_bool a t' b
  |int b=>obtain⟨t,rfl⟩:=rx;exact SeqAt.EqAt.int_int a t' b t
  |str b=>obtain⟨t,rfl⟩:=rx;exact SeqAt.EqAt.int_str a t' b t
  |_=>exact absurd (show false=true from fx) Bool.false_ne_true
 |str a =>
  obtain⟨t',rfl⟩:=ry
  cases x with
  |non=>cases rx;exact SeqAt.EqAt.str_none a t'
  |bl b=>cases rx;exact SeqAt.EqAt.str_bool a t' b
  |int b=>obtain⟨t,rfl⟩:=rx;exact SeqAt.EqAt.str_int a t' b t
  |str b=>obtain⟨t,rfl⟩:=rx;exact SeqAt.EqAt.str_str a t' b t
  |_=>exact absurd (show false=true from fx) Bool.false_ne_true
 |_=>exact absurd (show false=true from fy) Bool.false_ne_true
def eqU(x:V)(u:Value):Bool:=match u with
 |.none=>eqV .non x
 |.bool b=>eqV (.bl b) x
 |.int i _=>eqV (.int i) x
 |.str z _=>eqV (.str z) x
 |_=>false
theorem xy{x y:V}{u:Value}(r:cy y u)(f:mZ y=true):eqU x u=eqV y x:=by
 cases y with
 |non=>cases r;rfl
 |bl b=>cases r;rfl
 |int i=>obtain⟨t,rfl⟩:=r;rfl
 |str z=>obtain⟨t,rfl⟩:=r;rfl
 |_=>exact absurd (show false=true from f) Bool.false_ne_true
theorem o8{x:V}:∀{xs:List V} {us:List Value},cr xs us->xs.all mZ=true->us.any (eqU x)=xs.any λy=>eqV y x
 |_,_,.nil,_=>rfl
 |y::xs,u::us,.cons r t,f=>by
  rw [List.all_cons,Bool.and_eq_true] at f
  rw [List.any_cons,List.any_cons,xy r f.1,o8 t f.2]
theorem mh{A:Around}{s:Shared}{x:V}{v:Value}(rx:cy x v)(fx:mZ x=true):∀{xs:List V} {us:List Value},cr xs us->xs.all mZ=true->∀u∈us,SeqAt.EqAt A s u v (eqU x u)
 |_,_,.nil,_=>λu hu=>by cases hu
 |y::xs,u::us,.cons r t,f=>λu' hu=>by
  rw [List.all_cons,Bool.and_eq_true] at f
  rcases List.mem_cons.mp hu with rfl|hu
  ·rw [xy r f.1];exact zN r rx f.1 fx
  ·exact mh rx fx t f.2 u' hu
def inV(x:V)(xs:List V):Bool:=xs.any λy=>eqV y x
def rIn(K:W.Frag)(neg:Bool):R2:=λx y H Q=>∃p xs,y=.ref p/\(SqL K H p xs\/SqT K H p xs)/\mZ x=true/\xs.all mZ=true/\Q (.bl (if neg then !inV x xs else inV x xs)) H
theorem oM:OpR X (compareOp .NotIn) (rIn X.K true):=by
 intro pins s σ H x y v u Q I rx ry h
 obtain⟨p,xs,rfl,hq,fx,fs,q⟩:=h
 cases ry
 rcases hq with hq|hq
 ·obtain⟨its,r,pl,hz⟩:=I.list hq
  refine SeqAt.notIn_listAt (eqU x) pl.isList (λw hw=>mh rx fx r fs w (by simpa using hw)) ⟨.bl _,H,I,rfl,?_⟩
  rw [show its.toArray.any (eqU x)=its.any (eqU x) by simp,o8 r fs]
  exact q
 ·obtain⟨its,r,pl,hz⟩:=I.tuple hq
  refine SeqAt.notIn_tupleAt (eqU x) pl (λw hw=>mh rx fx r fs w (by simpa using hw)) ⟨.bl _,H,I,rfl,?_⟩
  rw [show its.toArray.any (eqU x)=its.any (eqU x) by simp,o8 r fs]
  exact q
theorem aK:gU X (.builtin "len") (λxs H Q=>∃p ys,xs=[.ref p]/\(SqL X.K H p ys\/SqT X.K H p ys)/\Q (.int ys.length) H):=by
 intro pins s σ H xs us Q I r h
 obtain⟨p,ys,rfl,hq,q⟩:=h
 obtain⟨u,rfl,rx⟩:=kJ r
 cases rx
 have hn:=qP
 rcases hq with hq|hq
 ·obtain⟨its,r',pl,hz⟩:=I.list hq
  have hlen:=r'.length
  exact Calls.call_len_list pl.isList (by simp only [List.size_toArray]<;>omega) ⟨.int ys.length,H,I.tok _,⟨s.toks+1,by rw [List.size_toArray,hlen]⟩,q⟩
 ·obtain⟨its,r',pl,hz⟩:=I.tuple hq
  have hlen:=r'.length
  exact len_tuple pl (by simp only [List.size_toArray]<;>omega) ⟨.int ys.length,H,I.tok _,⟨s.toks+1,by rw [List.size_toArray,hlen]⟩,q⟩
theorem bj:gU X (.type "tuple") (λxs H Q=>∃p ys,xs=[.ref p]/\((SqL X.K H p ys/\∀l,H l=none->Q (.ref l) (upd H l (.tup ys)))\/(SqT X.K H p ys/\Q (.ref p) H))):=by
 intro pins s σ H xs us Q I r h
 obtain⟨p,ys,rfl,h⟩:=h
 obtain⟨u,rfl,rx⟩:=kJ r
 cases rx
 rcases h with ⟨hq,q⟩|⟨hq,q⟩
 ·obtain⟨its,r',pl,hz⟩:=I.list hq
  have hlen:=r'.length
  refine call_tuple_list pl.isList (λh' kp=>?_) (by simp only [List.size_toArray]<;>omega)
  have I1:Inv X pins σ H { s with heap:=h' }:=I.kept (t':=s.toks) kp
  have I2:Inv X pins σ (upd H h'.objs.size (.tup ys)) { s with heap:=h'.push { cls:=.type "tuple",data:=.seq its.toArray } } :=
   I1.laid (t':=s.toks) (λb o e=>Heap.get?_push_of_some _ e) (Nat.le_refl _) (show dl X.prog X.w _ _ _ (.tup ys) from⟨hz,its,r',IsTup.new _ _⟩)
  exact⟨.ref h'.objs.size,_,I2,rfl,q _ (I1.hok.fresh (Nat.le_refl _))⟩
 ·obtain⟨its,r',pl,hz⟩:=I.tuple hq
  exact call_tuple_same pl ⟨.ref p,H,I,rfl,q⟩
def tyV(K:W.Frag)(T:String)(x:V)(H:Hp):Prop:=match x with
 |.str _=>T="str"
 |.int _=>T="int"
 |.ref p=>(T="list"/\∃xs,SqL K H p xs)\/(T="tuple"/\∃o,K.lookup p=some o/\o.cls=.type "tuple"/\o.dict=none) \/
   (T="dict"/\((∃kvs,H p=some (.dK kvs))\/∃kvs,H p=some (.dT kvs)))\/(T="set"/\∃S n,H p=some (.set S n))
 |_=>False
theorem qR{pins:List (Addr × Obj)}{σ:St}{H:Hp}{s:Shared}{T:String}{x:V}{v:Value}(I:Inv X pins σ H s)(r:cy x v)(ty:tyV X.K T x H) :
  s.TypeIs v T/\∀a,v=.ref a->∃ob,s.heap.get? a=some ob/\ob.dict=none:=by
 cases x with
 |str z =>
  obtain⟨t,rfl⟩:=r
  cases (show T="str" from ty)
  exact⟨typeIs_str s z t,λ_ e=>nomatch e⟩
 |int i =>
  obtain⟨t,rfl⟩:=r
  cases (show T="int" from ty)
  exact⟨typeIs_int s i t,λ_ e=>nomatch e⟩
 |ref p =>
  cases r
  rcases ty with ⟨rfl,xs,hq⟩|⟨rfl,o,hk,hc,hd⟩|⟨rfl,hk⟩|⟨rfl,S,n,hk⟩
  ·obtain⟨its,_,pl,_⟩:=I.list hq
   refine⟨pl.isList.typeIs,λa e=>?_⟩
   cases e
   obtain⟨o,n,e,c,hd,_⟩:=pl
   exact⟨o,e,hd⟩
  ·refine⟨⟨o,I.kIn p o hk,hc⟩,λa e=>?_⟩
   cases e
   exact⟨o,I.kIn _ o hk,hd⟩
  ·have z:∃o,s.heap.get? p=some o/\o.ExactDict:=by
    rcases hk with ⟨kvs,hk⟩|⟨kvs,hk⟩
    ·obtain⟨_,_,_,_,o,_,_,e,ex,_⟩:=I.hok p _ hk
     exact⟨o,e,ex⟩
    ·obtain⟨_,_,_,_,o,_,_,e,ex,_⟩:=I.hok p _ hk
     exact⟨o,e,ex⟩
   obtain⟨o,e,ex⟩:=z
   refine⟨⟨o,e,ex.1⟩,λa e2=>?_⟩
   cases e2
   exact⟨o,e,ex.2.1⟩
  ·obtain⟨o,_,_,_,e,ex,_⟩:=I.hok p _ hk
   refine⟨⟨o,e,ex.1⟩,λa e2=>?_⟩
   cases e2
   exact⟨o,e,ex.2.1⟩
 |_=>exact False.elim ty
def CY(K:W.Frag)(T:String)(r:V->List V->Hp->VK->Prop)(to:TE):TE:=λσ H Q=>to σ H λx H1=>tyV K T x H1/\r x [] H1 Q
structure Wh(K:W.Frag)(T:String)(r:V->List V->Hp->VK->Prop)(t:TA)(x:V)(σ:St)(H:Hp)(Q:VK):Prop where
 h:tyV K T x H
 q:t σ H λxs H2=>r x xs H2 Q
def tBM(K:W.Frag)(T:String)(r:V->List V->Hp->VK->Prop)(to:TE)(t:TA):TE:=λσ H Q=>to σ H λx H1=>Wh K T r t x σ H1 Q
variable{o e:Expr}{es:List Expr}{to:TE}{t:TA}{name:Str}{apos cpos:Pos}{T id:String}{r:V->List V->Hp->VK->Prop}
theorem jr(pa:PlainAttrs T)(slot:Slot T name id) (hty:typeOf (.builtin id)=pure (.type "method_descriptor")) (hm:MtR X id r) (ho:PE X o to)
  (hbase:attributeBase o name X.env (eval o X.env)=eval o X.env:=by rfl) (hline:(apos.endLine==cpos.line)=true:=by rfl):PE X (.Call (.Attribute o name apos) [] [] cpos) (CY X.K T r to):=by
 intro pins s σ H Q I h
 refine wpAny_Call_method0_late hbase hline (thn (ho pins s σ H _ I h) λv s1 zz=>?_)
 obtain⟨x,H1,I1,r1,ty,q1⟩:=zz
 obtain⟨h1,h2⟩:=qR I1 r1 ty
 exact⟨T,id,pa,slot,hty,h1,h2,Calls.callWith_builtin rfl (PySem.evalArgs_none (hm pins s1 σ H1 x [] v [] Q I1 r1 .nil q1))⟩
theorem gX(pa:PlainAttrs T)(slot:Slot T name id) (hty:typeOf (.builtin id)=pure (.type "method_descriptor")) (hm:MtR X id r) (ho:PE X o to) (ha:PA X (e::es) t)
  (hbase:attributeBase o name X.env (eval o X.env)=eval o X.env:=by rfl)
  (hfew:((backTo cpos (starEach (e::es) X.env)).all (λx=>!x.1)&&(backToKw cpos (keywordEach [] X.env)).all (λx=>x.1.isSome)
   && decide ((e::es).length+([]:List Keyword).length+(if ([]:List Keyword).isEmpty then 0 else 1) < 30))=true:=by rfl)
  (hline:(apos.endLine==cpos.line)=true:=by rfl) (hs:starEach (e::es) X.env=(false,eval e X.env)::starEach es X.env:=by rfl) (hplain:(backTo cpos (starEach es X.env)).any (·.1)=false:=by rfl) :
  PE X (.Call (.Attribute o name apos) (e::es) [] cpos) (tBM X.K T r to t):=by
 intro pins s σ H Q I h
 refine wpAny_Call_method_late hbase hfew hline rfl (thn (ho pins s σ H _ I h) λv s1 zz=>?_)
 obtain⟨x,H1,I1,r1,ty,q1⟩:=zz
 obtain⟨h1,h2⟩:=qR I1 r1 ty
 refine⟨T,id,pa,slot,hty,h1,h2,?_⟩
 have hA:=ha cpos pins s1 σ H1 _ I1 q1
 rw [hs] at hA ⊢
 refine Calls.callWith_builtin (by show(false||(backTo cpos (starEach es X.env)).any (·.1))=false;rw [hplain]<;>rfl) (Calls.evalArgs_plain ?_)
 exact thn hA λus s2 ⟨vs,H2,I2,r2,q2⟩=>hm pins s2 σ H2 x vs v us Q I2 r1 r2 q2
end
def MtM(X:Cx)(id:String)(r:V->List V->Hp->VK->Prop):Prop :=
 ∀(pins:List (Addr × Obj)) (s:Shared) (σ:St) (H:Hp) (x:V) (xs:List V) (v:Value) (us:List Value) (Q:VK),Inv X pins σ H s->cy x v->cr xs us->r x xs H Q ->
  wpAny (model X.prog X.w) X.A (call (.builtin id) (v::us)) (EP X pins σ Q) X.xe s
theorem lo{n:Nat}{us:List Value}(h:us.length=n+1):∃a r,us=a::r/\r.length=n:=by cases us with|nil=>cases h|cons a r=>exact⟨a,r,rfl,by simpa using h⟩
theorem cr.one{x:V}{us:List Value}(h:cr [x] us):∃u,us=[u]/\cy x u:=by cases h with|cons r h=>cases h;exact⟨_,rfl,r⟩
theorem cr.two{x y:V}{us:List Value}(h:cr [x,y] us):∃u v,us=[u,v]/\cy x u/\cy y v:=by cases h with|cons r h=>cases h with|cons q h=>cases h;exact⟨_,_,rfl,r,q⟩
theorem cr.zero:∀{us:List Value},cr [] us->us=[]
 |_,.nil=>rfl
theorem cr.dropLast{xs:List V}{us:List Value}(h:cr xs us):cr xs.dropLast us.dropLast:=by
 induction h with
 |nil=>exact .nil
 |cons r t ih =>
  cases t with
  |nil=>exact .nil
  |cons q t'=>exact .cons r ih
theorem si{α:Type}(l:List α):l.eraseIdx (l.length - 1)=l.dropLast:=by
 induction l with
 |nil=>rfl
 |cons a r ih =>
  cases r with
  |nil=>rfl
  |cons b r =>
   have e:(a::b::r).length - 1=((b::r).length - 1)+1:=by
    have h1:(a::b::r).length=r.length+2:=rfl
    have h2:(b::r).length=r.length+1:=rfl
    omega
   rw [e,List.eraseIdx_cons_succ,ih]
   all_goals rfl
section
variable{X:Cx}{pins:List (Addr × Obj)}{σ:St}{H:Hp}{s:Shared}{l b:Addr}{xs ys zs:List V}
theorem Inv.lset{its its':List Value}{n:Nat}{f:Array Value->Array Value}{t':Nat}(I:Inv X pins σ H s)(hH:H l=some (.lst xs))
  (e:s.heap.get? l=some { cls:=.type "list",data:=.seq its.toArray n }) (hf:f its.toArray=its'.toArray) (hv:cr ys its') (hz:ys.length<=sizeLine) :
  Inv X pins σ (upd H l (.lst ys)) { s with heap:=s.heap.update l (Obj.mapSeq f),toks:=t' }:=by
 have q:=PySem.IsL.update e f
 rw [hf] at q
 refine I.write (x:=l) (e:=l) (by rw [hH];exact trivial) (.inl rfl) (λb' u hb hu=>(Heap.get?_update_other s.heap (Obj.mapSeq f) (Ne.symm hb)).trans hu) ⟨_,q⟩ ?_
 exact⟨hz,its',_,hv,q⟩
theorem Inv.lnew{its:List Value}{t':Nat}(I:Inv X pins σ H s)(hv:cr ys its)(hz:ys.length<=sizeLine) :
  Inv X pins σ (upd H s.heap.objs.size (.lst ys)) { s with heap:=s.heap.push { cls:=.type "list",data:=.seq its.toArray },toks:=t' } :=
 I.laid (λ_ _ q=>Heap.get?_push_of_some _ q) (Nat.le_refl _) ⟨hz,its,0,hv,Heap.get?_push_size _ rfl⟩
theorem Inv.fresh(I:Inv X pins σ H s):H s.heap.objs.size=none:=I.hok.fresh (Nat.le_refl _)
theorem Inv.lstM(I:Inv X pins σ H s)(hH:H l=some (.lst xs)):xs.length<=sizeLine/\∃(its:List Value) (n:Nat),cr xs its/\xs.length=its.length/\s.heap.get? l=some { cls:=.type "list",data:=.seq its.toArray n }:=by
 obtain⟨z,its,n,r,e⟩:=I.hok l _ hH
 exact⟨z,its,n,r,r.length,e⟩
end
section
variable{X:Cx}
def yM:V->List V->Hp->VK->Prop:=λx vs H Q=>∃l xs y,x=.ref l/\vs=[y]/\H l=some (.lst xs)/\xs.length < sizeLine/\Q .non (upd H l (.lst (xs++[y])))
theorem bO:MtM X "list.append" yM:=by
 intro pins s σ H x vs v us Q I rx rv h
 obtain⟨l,xs,y,rfl,rfl,hH,hz,q⟩:=h
 cases rx
 obtain⟨u,rfl,ru⟩:=rv.one
 obtain⟨z,its,n,r,hl,e⟩:=I.lstM hH
 refine call_meets F.slot_list_append ⟨_,e,rfl⟩ F.entry_list_append (F.args_list_append_2 _ _) (PySem.list_append l its.toArray n u (by rw [List.size_toArray];omega)) ⟨e,?_⟩
 refine⟨.non,_,I.lset (its':=its++[u]) hH e (by simp) (r.append (.cons ru .nil)) ?_,rfl,q⟩
 rw [List.length_append,List.length_singleton]
 omega
def Cz:V->List V->Hp->VK->Prop:=λx vs H Q=>∃l xs y,x=.ref l/\vs=[]/\H l=some (.lst xs)/\xs[xs.length - 1]?=some y/\Q y (upd H l (.lst xs.dropLast))
theorem xN:MtM X "list.pop" Cz:=by
 intro pins s σ H x vs v us Q I rx rv h
 obtain⟨l,xs,y,rfl,rfl,hH,hy,q⟩:=h
 cases rx
 have hus:=rv.zero
 subst hus
 obtain⟨z,its,n,r,hl,e⟩:=I.lstM hH
 obtain⟨u,hu,ru⟩:=r.get hy
 have hy':its.toArray[its.toArray.size - 1]?=some u:=by
  show its.toArray[its.length - 1]?=some u
  rw [<-Array.getElem?_toList,<-hl]
  exact hu
 refine call_meets F.slot_list_pop ⟨_,e,rfl⟩ F.entry_list_pop (F.args_list_pop_1 _) (MeetsSeq.list_pop_last l its.toArray n u hy' (by rw [List.size_toArray];omega)) ⟨e,?_⟩
 refine⟨y,_,I.lset (its':=its.dropLast) hH e ?_ r.dropLast ?_,ru,q⟩
 ·show its.toArray.eraseIdxIfInBounds (its.toArray.size - 1)=its.dropLast.toArray
  rw [List.size_toArray,List.eraseIdxIfInBounds_toArray,si]
 ·rw [List.length_dropLast]
  omega
def A4:V->List V->Hp->VK->Prop:=λx vs H Q=>∃l xs,x=.ref l/\vs=[]/\H l=some (.lst xs)/\Q .non (upd H l (.lst []))
theorem wN:MtM X "list.clear" A4:=by
 intro pins s σ H x vs v us Q I rx rv h
 obtain⟨l,xs,rfl,rfl,hH,q⟩:=h
 cases rx
 have hus:=rv.zero
 subst hus
 obtain⟨z,its,n,r,hl,e⟩:=I.lstM hH
 refine call_meets F.slot_list_clear ⟨_,e,rfl⟩ F.entry_list_clear (F.args_list_clear_1 _) (AutoSeq1.list_clear_list_0 l its.toArray n (by rw [List.size_toArray];omega)) ⟨e,?_⟩
 exact⟨.non,_,I.lset (its':=[]) (ys:=[]) hH e rfl .nil (Nat.zero_le _),rfl,q⟩
def CU:R2:=λx y H Q=>∃l b xs zs,x=.ref l/\y=.ref b/\H l=some (.lst xs)/\H b=some (.lst zs)/\xs.length+zs.length<=sizeLine/\∀p,H p=none->Q (.ref p) (upd H p (.lst (xs++zs)))
theorem iG:OpR X (binaryOp .Add) CU:=by
 intro pins s σ H x y v u Q I rx ry h
 obtain⟨l,b,xs,zs,rfl,rfl,hH,hB,hz,q⟩:=h
 cases rx
 cases ry
 obtain⟨z,its,n,r,hl,e⟩:=I.lstM hH
 obtain⟨z2,its2,n2,r2,hl2,e2⟩:=I.lstM hB
 refine PySem.P.add_list e e2 ?_ (by rw [List.size_toArray,List.size_toArray];omega)
 have ea:its.toArray++its2.toArray=(its++its2).toArray:=by simp
 rw [ea]
 exact⟨.ref _,_,I.lnew (t':=s.toks) (r.append r2) (by rw [List.length_append];omega),rfl,q _ I.fresh⟩
end
section
variable{prog:Program}{w:World}{A:Around}{E:Value->Shared->Prop}{s:Shared}
end
section
variable{κ:Type}[DecidableEq κ]
def dC(kvs:List (κ × V))(k:κ):Option V:=(kvs.find? λkv=>decide (kv.1=k)).map (·.2)
def cI(kvs:List (κ × V))(k:κ)(v:V):List (κ × V) :=
 if (kvs.any λkv=>decide (kv.1=k))=true then kvs.map (λkv=>if kv.1=k then (kv.1,v) else kv) else kvs++[(k,v)]
theorem cR{p:κ × V}{r:List (κ × V)}{k:κ}(e:p.1=k):dC (p::r) k=some p.2:=by simp [dC,List.find?_cons,e]
theorem dA{p:κ × V}{r:List (κ × V)}{k:κ}(e:¬p.1=k):dC (p::r) k=dC r k:=by simp [dC,List.find?_cons,e]
theorem iA(k:κ):∀kvs:List (κ × V),(kvs.any λkv=>decide (kv.1=k))=(dC kvs k).isSome
 |[]=>rfl
 |p::r=>by
  rw [List.any_cons]
  by_cases e:p.1=k
  ·simp only [cR e,decide_eq_true e,Bool.true_or,Option.isSome_some]
  ·rw [dA e,decide_eq_false e,Bool.false_or];exact iA k r
theorem qM(k j:κ)(y:V):∀kvs:List (κ × V),dC (kvs.map λkv=>if kv.1=k then (kv.1,y) else kv) j=(dC kvs j).map λx=>if j=k then y else x
 |[]=>rfl
 |p::r=>by
  have ih:=qM k j y r
  rw [List.map_cons]
  by_cases h:p.1=k
  ·rw [if_pos h]
   by_cases e:p.1=j
   ·rw [cR (p:=(p.1,y)) e,cR e,Option.map_some,if_pos (e.symm.trans h)]
   ·rw [dA (p:=(p.1,y)) e,dA e,ih]
  ·rw [if_neg h]
   by_cases e:p.1=j
   ·rw [cR (p:=p) e,cR e,Option.map_some,if_neg (λz=>h (e.trans z))]
   ·rw [dA (p:=p) e,dA e,ih]
theorem nU(k j:κ)(y:V):∀kvs:List (κ × V),dC kvs k=none->dC (kvs++[(k,y)]) j=if j=k then some y else dC kvs j
 |[],_=>by
  by_cases e:k=j
  ·rw [if_pos e.symm];exact cR (p:=(k,y)) e
  ·rw [if_neg (λz=>e z.symm)];exact dA (p:=(k,y)) e
 |p::r,hn=>by
  rw [List.cons_append]
  have hk:¬p.1=k:=λz=>by rw [cR z] at hn;cases hn
  rw [dA hk] at hn
  have ih:=nU k j y r hn
  by_cases e:p.1=j
  ·rw [cR e,cR e,if_neg (λz=>hk (e.trans z))]
  ·rw [dA e,dA e,ih]
theorem gC(kvs:List (κ × V))(k j:κ)(y:V):dC (cI kvs k y) j=if j=k then some y else dC kvs j:=by
 unfold cI
 by_cases a:(kvs.any λkv=>decide (kv.1=k))=true
 ·rw [if_pos a,qM]
  rw [iA] at a
  by_cases e:j=k
  ·obtain⟨x,hx⟩:=Option.isSome_iff_exists.mp a
   rw [if_pos e,e,hx,Option.map_some,if_pos rfl]
  ·rw [if_neg e]
   cases dC kvs j with
   |none=>rfl
   |some x=>rw [Option.map_some,if_neg e]
 ·rw [if_neg a]
  refine nU k j y kvs ?_
  rw [iA] at a
  cases q:dC kvs k with
  |none=>rfl
  |some x=>rw [q] at a;exact(a rfl).elim
theorem cN(kvs:List (κ × V))(k:κ)(v:V):(cI kvs k v).length<=kvs.length+1:=by
 unfold cI
 split
 ·rw [List.length_map];omega
 ·rw [List.length_append,List.length_cons,List.length_nil];omega
theorem iL{kvs:List (κ × V)}{k:κ}(v:V)(h:dC kvs k=none):cI kvs k v=kvs++[(k,v)]:=by
 unfold cI
 rw [iA,h]
 exact if_neg (by decide)
theorem nG.isSome_eq{o:Option V}{u:Option Value}(r:nG o u):o.isSome=u.isSome:=by
 cases o with
 |none=>cases u with
  |none=>rfl
  |some _=>exact(show False from r).elim
 |some _=>cases u with
  |none=>exact(show False from r).elim
  |some _=>rfl
theorem nG.getD{o:Option V}{u:Option Value}{d:V}{d':Value}(r:nG o u)(rd:cy d d'):cy (o.getD d) (u.getD d'):=by
 cases o with
 |none=>cases u with
  |none=>exact rd
  |some _=>exact(show False from r).elim
 |some _=>cases u with
  |none=>exact(show False from r).elim
  |some _=>exact r
theorem KV.val{kvs:List (κ × V)}{vs:List (κ × Value)}(r:KV kvs vs)(k:κ):nG (dC kvs k) (valueAt vs k):=by
 unfold KV at r
 induction r with
 |nil=>exact True.intro
 |@cons p q ps qs h t ih =>
  obtain⟨h1,h2⟩:=h
  by_cases e:p.1=k
  ·have e':q.1=k:=h1.symm.trans e
   have b:valueAt (q::qs) k=some q.2:=by simp [valueAt,List.find?_cons,e']
   rw [cR e,b];exact h2
  ·have e':¬q.1=k:=λz=>e (h1.trans z)
   have b:valueAt (q::qs) k=valueAt qs k:=by simp [valueAt,List.find?_cons,e']
   rw [dA e,b];exact ih
theorem KV.any{kvs:List (κ × V)}{vs:List (κ × Value)}(r:KV kvs vs)(k:κ):(kvs.any λkv=>decide (kv.1=k))=vs.any λkv=>decide (kv.1=k):=by
 unfold KV at r
 induction r with
 |nil=>rfl
 |cons h t ih=>rw [List.any_cons,List.any_cons,ih,h.1]
theorem KV.repl{kvs:List (κ × V)}{vs:List (κ × Value)}(r:KV kvs vs)(k:κ){y:V}{u:Value}(ry:cy y u) :
  KV (kvs.map λkv=>if kv.1=k then (kv.1,y) else kv) (vs.map λkv=>if kv.1=k then (kv.1,u) else kv):=by
 unfold KV at r ⊢
 induction r with
 |nil=>exact .nil
 |@cons p q ps qs h t ih =>
  rw [List.map_cons,List.map_cons]
  refine .cons ?_ ih
  obtain⟨h1,h2⟩:=h
  by_cases e:p.1=k
  ·rw [if_pos e,if_pos (h1.symm.trans e)];exact⟨h1,ry⟩
  ·rw [if_neg e,if_neg (λz=>e (h1.trans z))];exact⟨h1,h2⟩
theorem KV.put{kvs:List (κ × V)}{vs:List (κ × Value)}(r:KV kvs vs)(k:κ){y:V}{u:Value}(ry:cy y u):KV (cI kvs k y) (stored vs k u):=by
 unfold cI stored
 rw [r.any k]
 by_cases e:(vs.any λkv=>decide (kv.1=k))=true
 ·rw [if_pos e,if_pos e];exact r.repl k ry
 ·rw [if_neg e,if_neg e];exact Paired.snoc r ⟨rfl,ry⟩
theorem KV.length{kvs:List (κ × V)}{vs:List (κ × Value)}(r:KV kvs vs):kvs.length=vs.length:=Paired.length r
end
theorem mo{P:Program}{w:World}{k:Key}{u:Value}(r:cy (kV k) u):(bf P w).is k u=true:=by
 cases k with
 |inl i=>obtain⟨t,e⟩:=(show ∃t,u=Value.int i t from r);subst e;exact pT P w i t
 |inr x=>obtain⟨t,e⟩:=(show ∃t,u=Value.str x t from r);subst e;exact pB P w x t
theorem nY{P:Program}{w:World}:∀{ks:List Key} {us:List Value},cr (ks.map kV) us->ItemsAre (bf P w) ks us
 |[],_,r=>by rw [List.map_nil] at r;cases r;exact .nil
 |k::ks,_,r=>by
  rw [List.map_cons] at r
  cases r with
  |cons h t=>exact .cons (mo h) (nY t)
abbrev KT(H:Hp):List (List Key × V)->List (List Key × Addr × Value)->Prop:=Paired λp q=>p.1=q.1/\H q.2.1=some (.tup (p.1.map kV))/\cy p.2 q.2.2
theorem KT.val{H:Hp}{kvs:List (List Key × V)}{xs:List (List Key × Addr × Value)}(r:KT H kvs xs)(k:List Key):nG (dC kvs k) ((atKey xs k).map (·.2)):=by
 induction r with
 |nil=>exact True.intro
 |@cons p q ps qs h t ih =>
  obtain⟨h1,_,h2⟩:=h
  by_cases e:p.1=k
  ·have e':q.1=k:=h1.symm.trans e
   have b:atKey (q::qs) k=some q.2:=by simp [atKey,List.find?_cons,e']
   rw [cR e,b];exact h2
  ·have e':¬q.1=k:=λz=>e (h1.trans z)
   have b:atKey (q::qs) k=atKey qs k:=by simp [atKey,List.find?_cons,e']
   rw [dA e,b];exact ih
theorem KT.repl{H:Hp}{kvs:List (List Key × V)}{xs:List (List Key × Addr × Value)}(r:KT H kvs xs)(k:List Key){y:V}{u:Value}(ry:cy y u) :
  KT H (kvs.map λkv=>if kv.1=k then (kv.1,y) else kv) (xs.map (putAt k u)):=by
 induction r with
 |nil=>exact .nil
 |@cons p q ps qs h t ih =>
  rw [List.map_cons,List.map_cons]
  refine .cons ?_ ih
  obtain⟨h1,h2,h3⟩:=h
  unfold putAt
  by_cases e:p.1=k
  ·rw [if_pos e,if_pos (h1.symm.trans e)];exact⟨h1,h2,ry⟩
  ·rw [if_neg e,if_neg (λz=>e (h1.trans z))];exact⟨h1,h2,h3⟩
theorem KT.put{H:Hp}{kvs:List (List Key × V)}{xs:List (List Key × Addr × Value)}(r:KT H kvs xs)(k:List Key){b:Addr}{y:V}{u:Value}(hb:H b=some (.tup (k.map kV)))(ry:cy y u) :
  KT H (cI kvs k y) (storedH xs k b u):=by
 have e:(kvs.any λkv=>decide (kv.1=k))=(atKey xs k).isSome:=by
  rw [iA,(r.val k).isSome_eq,Option.isSome_map]
 unfold cI storedH
 rw [e]
 by_cases q:(atKey xs k).isSome=true
 ·rw [if_pos q,if_pos q];exact r.repl k ry
 ·rw [if_neg q,if_neg q];exact Paired.snoc r ⟨rfl,hb,ry⟩
theorem KT.keeps{H H':Hp}{kvs:List (List Key × V)}{xs:List (List Key × Addr × Value)}(r:KT H kvs xs)(ht:∀b ys,H b=some (.tup ys)->H' b=some (.tup ys)):KT H' kvs xs :=
 Paired.mapP r λ_ _ z=>⟨z.1,ht _ _ z.2.1,z.2.2⟩
section
variable{P:Program}{w:World}{H:Hp}{h:Heap}{a:Addr}
theorem A3{u:HO}(ok:HOk P w H h)(e:Rd H a u):dl P w H h a u:=e.ok ok
theorem oI{kvs:List (Key × V)}(ok:HOk P w H h)(e:Rd H a (.dK kvs)):kvs.length<=sizeLine/\(a==sysModules)=false/\∃vs,KV kvs vs/\h.DictOf (bf P w) a vs :=
 show dl P w H h a (.dK kvs) from A3 ok e
theorem kG{kvs:List (Key × V)}(ok:HOk P w H h)(e:H a=some (.dK kvs)):kvs.length<=sizeLine/\(a==sysModules)=false/\∃vs,KV kvs vs/\h.DictOf (bf P w) a vs:=oI ok (.inl e)
theorem jx{ks:List Key}(ok:HOk P w H h)(e:H a=some (.tup (ks.map kV))):(tupleKind (bf P w)).is h ks a:=by
 obtain⟨_,its,r,o,h1,h2,n,h3⟩:=(show dl P w H h a (.tup (ks.map kV)) from ok a _ e)
 exact⟨o,its.toArray,n,h1,h2,h3,by simpa using nY r⟩
theorem oB{kvs:List (List Key × V)}(ok:HOk P w H h)(e:Rd H a (.dT kvs)):kvs.length<=sizeLine/\(a==sysModules)=false /\
  ∃xs,KT H kvs xs/\h.DictOfH (tupleKind (bf P w)) a xs:=by
 obtain⟨z,y,xs,r,o,es,ep,h1,h2,h3,h4,h5⟩:=(show dl P w H h a (.dT kvs) from A3 ok e)
 refine⟨z,y,xs,r,o,es,ep,h1,h2,h3,h4,λx hx=>?_,h5⟩
 have all:∀{l:List (List Key × V)} {m:List (List Key × Addr × Value)},KT H l m->∀x∈m,(tupleKind (bf P w)).is h x.1 x.2.1:=by
  intro l m q
  induction q with
  |nil=>intro x hx;exact nomatch hx
  |@cons p q ps qs hq t ih =>
   intro x hx
   rcases List.mem_cons.mp hx with e|hx
   ·subst e
    exact jx ok (by rw [<-hq.1];exact hq.2.1)
   ·exact ih x hx
 exact all r x hx
theorem zZ{kvs:List (List Key × V)}(ok:HOk P w H h)(e:H a=some (.dT kvs)):kvs.length<=sizeLine/\(a==sysModules)=false /\
  ∃xs,KT H kvs xs/\h.DictOfH (tupleKind (bf P w)) a xs:=oB ok (.inl e)
end
def gj(H:Hp)(a:Addr)(y:V)(r:Option V):Prop :=
 (∃kvs k,Rd H a (.dK kvs)/\y=kV k/\r=dC kvs k)\/∃kvs k b,Rd H a (.dT kvs)/\y=.ref b/\H b=some (.tup (k.map kV))/\r=dC kvs k
def kH(H:Hp)(a:Addr)(y v:V)(H':Hp):Prop :=
 (∃kvs k,H a=some (.dK kvs)/\y=kV k/\kvs.length < sizeLine/\H'=upd H a (.dK (cI kvs k v))) \/
 ∃kvs k b,H a=some (.dT kvs)/\y=.ref b/\H b=some (.tup (k.map kV))/\kvs.length < sizeLine/\H'=upd H a (.dT (cI kvs k v))
theorem gj.k{H:Hp}{a:Addr}{kvs:List (Key × V)}{k:Key}(e:H a=some (.dK kvs)):gj H a (kV k) (dC kvs k):=.inl ⟨kvs,k,.inl e,rfl,rfl⟩
theorem gj.t{H:Hp}{a b:Addr}{kvs:List (List Key × V)}{k:List Key}(e:H a=some (.dT kvs))(eb:H b=some (.tup (k.map kV))):gj H a (.ref b) (dC kvs k):=.inr ⟨kvs,k,b,.inl e,rfl,eb,rfl⟩
theorem kH.k{H:Hp}{a:Addr}{kvs:List (Key × V)}{k:Key}{v:V}(e:H a=some (.dK kvs))(hl:kvs.length < sizeLine):kH H a (kV k) v (upd H a (.dK (cI kvs k v))):=.inl ⟨kvs,k,e,rfl,hl,rfl⟩
theorem kH.t{H:Hp}{a b:Addr}{kvs:List (List Key × V)}{k:List Key}{v:V}(e:H a=some (.dT kvs))(eb:H b=some (.tup (k.map kV)))(hl:kvs.length < sizeLine) :
  kH H a (.ref b) v (upd H a (.dT (cI kvs k v))):=.inr ⟨kvs,k,b,e,rfl,eb,hl,rfl⟩
section
variable{X:Cx}{pins:List (Addr × Obj)}{σ:St}{H:Hp}{s:Shared}{a:Addr}{y v:V}{u r:Value}{o:Option V}{A:Around}{E:Value->Shared->Prop}
theorem Inv.big(I:Inv X pins σ H s):sysModules < s.heap.objs.size:=by
 have h:mainGlobals < s.heap.objs.size:=(I.mod.glob.keeps I.bk).lt
 exact Nat.lt_trans (by decide) h
theorem tP{Q:Value->Shared->Prop}(hu:A.units+1 < cLine)(I:Inv X pins σ H s)(g:gj H a y (some v))(ry:cy y u)(h:∀w' s',Inv X pins σ H s'->cy v w'->Q w' s') :
  wpAny (model X.prog X.w) A (getItem (.ref a) u) Q E s:=by
 rcases g with ⟨kvs,k,e,ey,l⟩|⟨kvs,k,b,e,ey,eb,l⟩
 ·subst ey
  obtain⟨z,hd,vs,rel,dd⟩:=oI I.hok e
  obtain⟨w',hw,rw'⟩:=nG.some_of (v:=v) (o:=valueAt vs k) (by rw [l];exact rel.val k)
  exact wpAny_getItem_of (mo ry) dd.mapOf hw (h w' _ (I.tok _) rw')
 ·subst ey
  cases (show u=Value.ref b from ry)
  obtain⟨z,hd,xs,rel,dd⟩:=oB I.hok e
  obtain⟨w',hw,rw'⟩:=nG.some_of (v:=v) (o:=(atKey xs k).map (·.2)) (by rw [l];exact rel.val k)
  obtain⟨p,hp,hp2⟩:=Option.map_eq_some_iff.mp hw
  refine wpAny_getItem_heap (tupleKind_room_in1 hu) (jx I.hok eb) dd hp ?_
  rw [hp2]
  exact h w' _ (I.tok _) rw'
theorem Cl{Q:Value->Shared->Prop}(hu:A.units+1 < cLine)(I:Inv X pins σ H s)(g:gj H a y o)(ry:cy y u)(h:∀s',Inv X pins σ H s'->Q (.bool o.isSome) s') :
  wpAny (model X.prog X.w) A (compareOp .In u (.ref a)) Q E s:=by
 rcases g with ⟨kvs,k,e,ey,l⟩|⟨kvs,k,b,e,ey,eb,l⟩
 ·subst ey
  obtain⟨z,hd,vs,rel,dd⟩:=oI I.hok e
  refine wpAny_in_of (mo ry) hd dd.mapOf ?_
  rw [<-(rel.val k).isSome_eq,<-l]
  exact h _ (I.tok _)
 ·subst ey
  cases (show u=Value.ref b from ry)
  obtain⟨z,hd,xs,rel,dd⟩:=oB I.hok e
  refine wpAny_in_heap (tupleKind_room_in1 hu) (jx I.hok eb) hd dd ?_
  have q:=(rel.val k).isSome_eq
  rw [Option.isSome_map] at q
  rw [<-q,<-l]
  exact h _ (I.tok _)
theorem yP{Q:Value->Shared->Prop}(hu:A.units+1 < cLine)(I:Inv X pins σ H s)(g:gj H a y o)(ry:cy y u)(h:∀s',Inv X pins σ H s'->Q (.bool (!o.isSome)) s') :
  wpAny (model X.prog X.w) A (compareOp .NotIn u (.ref a)) Q E s:=by
 rcases g with ⟨kvs,k,e,ey,l⟩|⟨kvs,k,b,e,ey,eb,l⟩
 ·subst ey
  obtain⟨z,hd,vs,rel,dd⟩:=oI I.hok e
  refine wpAny_notIn_of (mo ry) hd dd.mapOf ?_
  rw [<-(rel.val k).isSome_eq,<-l]
  exact h _ (I.tok _)
 ·subst ey
  cases (show u=Value.ref b from ry)
  obtain⟨z,hd,xs,rel,dd⟩:=oB I.hok e
  refine wpAny_notIn_heap (tupleKind_room_in1 hu) (jx I.hok eb) hd dd ?_
  have q:=(rel.val k).isSome_eq
  rw [Option.isSome_map] at q
  rw [<-q,<-l]
  exact h _ (I.tok _)
theorem jn{h':Heap}{t':Nat}{ob:HO}(I:Inv X pins σ H s)(mu:Mut (H a))(hs:Heap.SameBut a s.heap h')(he:∃q,h'.get? a=some q)(new:dl X.prog X.w (upd H a ob) h' a ob) :
  Inv X pins σ (upd H a ob) { s with heap:=h',toks:=t' } :=
 I.write (x:=a) (e:=a) mu (.inl rfl) (λb q hb z=>(hs.2 b hb).trans z) he new
theorem ql{P:Program}{w:World}{H':Hp}{h':Heap}{kvs:List (Key × V)}{vs:List (Key × Value)}(z:kvs.length<=sizeLine)(hd:(a==sysModules)=false)(rel:KV kvs vs)(dd:h'.DictOf (bf P w) a vs) :
  dl P w H' h' a (.dK kvs):=⟨z,hd,vs,rel,dd⟩
theorem tK{H':Hp}{Q:Unit->Shared->Prop}(hu:A.units+1 < cLine)(I:Inv X pins σ H s)(g:kH H a y v H')(ry:cy y u)(rv:cy v r)(h:∀s',Inv X pins σ H' s'->Q () s') :
  wpAny (model X.prog X.w) A (setItem (.ref a) u r) Q E s:=by
 rcases g with ⟨kvs,k,e,ey,l,eH⟩|⟨kvs,k,b,e,ey,eb,l,eH⟩
 ·subst ey eH
  obtain⟨z,hd,vs,rel,dd⟩:=kG I.hok e
  have hz:vs.length<=sizeLine:=by rw [<-rel.length];exact z
  have hl:(cI kvs k v).length<=sizeLine:=by have:=cN kvs k v;omega
  refine wpAny_setItem_pairs (hsz:=hz) (mo ry) dd λh' dd' hs=>h _ ?_
  have he:∃q,h'.get? a=some q:=let ⟨q,_,_,hq,_⟩:=dd';⟨q,hq⟩
  exact jn I (by rw [e];exact True.intro) hs he (ql hl hd (rel.put k rv) dd')
 ·subst ey eH
  cases (show u=Value.ref b from ry)
  obtain⟨z,hd,xs,rel,dd⟩:=zZ I.hok e
  have hz:xs.length<=sizeLine:=by rw [<-Paired.length rel];exact z
  have hl:(cI kvs k v).length<=sizeLine:=by have:=cN kvs k v;omega
  refine wpAny_setItem_heap (hsz:=hz) (tupleKind_room_in1 hu) (jx I.hok eb) dd λh' dd' hs=>h _ ?_
  obtain⟨q,es,ep,hq,h2,h3,h4,_,h5⟩:=dd'
  refine jn I (by rw [e];exact True.intro) hs ⟨q,hq⟩ ⟨hl,hd,_,(rel.put k eb rv).keeps λc ys ec=>?_,q,es,ep,hq,h2,h3,h4,h5⟩
  rw [ah (yK ec e (λz=>nomatch z))]
  exact ec
end
section
variable{X:Cx}{pins:List (Addr × Obj)}{σ:St}{H:Hp}{s:Shared}{a:Addr}{kvs:List (Key × V)}{k:Key}{u:Value}{A:Around}{E:Value->Shared->Prop}
theorem yT{Q:Value->Shared->Prop}(I:Inv X pins σ H s)(e:H a=some (.dK kvs))(h:∀s',Inv X pins σ (upd H a (.dK [])) s'->Q .none s'):wpAny (model X.prog X.w) A (call (.builtin "dict.clear") [.ref a]) Q E s:=by
 obtain⟨z,hd,vs,rel,dd⟩:=kG I.hok e
 refine call_meetsIn PySem.F.slot_dict_clear dd.typeIs PySem.F.entry_dict_clear (PySem.F.args_dict_clear_1 _) (meets_dict_clear (bf X.prog X.w) a) ⟨vs,dd,by rw [<-rel.length];exact z,λh' dd' hs=>h _ ?_⟩
 have he:∃q,h'.get? a=some q:=let ⟨q,_,_,hq,_⟩:=dd';⟨q,hq⟩
 exact jn (t':=s.toks) I (by rw [e];exact True.intro) hs he (ql (Nat.zero_le _) hd .nil dd')
end
def B8(i:Expr):Prop:=∀ov iv,subscripted i false ov iv=operate [ov,iv] (getItem ov iv)
theorem yE{prog:Program}{w:World}{A:Around}{E:Value->Shared->Prop}{s:Shared}{env:Env}{value slice:Expr}{pos:Pos}{T id:String}{Q:Value->Shared->Prop}
  (hl:typeLookup (.type T) "__getitem__"=pure (some (.builtin id))) (hs:B8 slice)
  (h:wpAny (model prog w) A (eval value env) (λo s₁=>wpAny (model prog w) A (eval slice env) (λi s₂=>s₂.TypeIs o T/\wpAny (model prog w) A (getItem o i) Q E s₂) E s₁) E s) :
  wpAny (model prog w) A (eval (.Subscript value slice pos) env) Q E s:=by
 refine Subscript_ (wpAny_mono h (λo s₁ h₁=>wpAny_mono h₁ (λi s₂ h₂=>?_) λ_ _ x=>x) λ_ _ x=>x)
 obtain⟨hT,h₂⟩:=h₂
 unfold subscriptTail
 refine wpAny_bind ?_
 rw [getitemInPython_of_ne hT.not_modules]
 refine wpAny_bind (wpAny_specialOf hT hl ?_)
 have fin:wpAny (model prog w) A (subscripted slice false o i) (λr s₃=>wpAny (model prog w) A (letTemporaryGo value o r >>= λ_=>pure r) Q E s₃) E s₂:=by
  rw [hs o i]
  exact wpAny_operating (wpAny_mono h₂ (λr s₃ h₃=>wpAny_bind (wpAny_letTemporaryGo (wpAny_pure h₃))) λ_ _ x=>x)
 first
  |exact wpAny_pure (wpAny_bind fin)
  |exact wpAny_bind (wpAny_pure (wpAny_bind fin))
  |exact wpAny_bind fin
theorem qd{X:Cx}{pins:List (Addr × Obj)}{σ:St}{H:Hp}{s:Shared}{a:Addr}{y:V}{o:Option V}(I:Inv X pins σ H s)(g:gj H a y o):s.TypeIs (.ref a) "dict":=by
 rcases g with ⟨kvs,k,e,_,_⟩|⟨kvs,k,b,e,_,_,_⟩
 ·obtain⟨_,_,vs,_,dd⟩:=oI I.hok e
  exact dd.typeIs
 ·obtain⟨_,_,xs,_,dd⟩:=oB I.hok e
  exact dd.typeIs
def BP(td ty:TE):TE:=λσ H Q=>td σ H λx H1=>ty σ H1 λy H2=>∃a v,x=.ref a/\gj H2 a y (some v)/\Q v H2
def Cu(ty td:TE):TE:=λσ H Q=>ty σ H λy H1=>td σ H1 λx H2=>∃a o,x=.ref a/\gj H2 a y o/\Q (.bl o.isSome) H2
def yQ(ty td:TE):TE:=λσ H Q=>ty σ H λy H1=>td σ H1 λx H2=>∃a o,x=.ref a/\gj H2 a y o/\Q (.bl (!o.isSome)) H2
def BV(td ty tv:TE):TS:=λD σ H=>tv σ H λv H1=>td σ H1 λx H2=>ty σ H2 λy H3=>∃a H4,x=.ref a/\kH H3 a y v H4/\D.nx σ H4
section
variable{X:Cx}{o i e value:Expr}{pos pos' tpos:Pos}{td ty tv:TE}
theorem cV(hu:X.A.units+1 < cLine)(ho:PE X o td)(hi:PE X i ty)(hs:B8 i):PE X (.Subscript o i pos) (BP td ty):=by
 intro pins s σ H Q I h
 refine yE PySem.F.slot_dict_getitem.lookup hs (thn (ho pins s σ H _ I h) λu s1 ⟨x,H1,I1,rx,q1⟩=>thn (hi pins s1 σ H1 _ I1 q1) λiv s2 zz=>?_)
 obtain⟨y,H2,I2,ry,a,v,ex,g,q2⟩:=zz
 subst ex
 obtain rfl:u=Value.ref a:=rx
 exact⟨qd I2 g,tP hu I2 g ry λw' s3 I3 rw'=>⟨v,H2,I3,rw',q2⟩⟩
theorem uQ(hu:X.A.units+1 < cLine)(hi:PE X i ty)(ho:PE X o td):PC X .In i o (Cu ty td):=by
 intro pins s σ H Q I h
 refine thn (hi pins s σ H _ I h) λiv s1 ⟨y,H1,I1,ry,q1⟩=>thn (ho pins s1 σ H1 _ I1 q1) λu s2 zz=>?_
 obtain⟨x,H2,I2,rx,a,ov,ex,g,q2⟩:=zz
 subst ex
 obtain rfl:u=Value.ref a:=rx
 exact Cl hu I2 g ry λs3 I3=>⟨.bl ov.isSome,H2,I3,rfl,q2⟩
theorem ib(hu:X.A.units+1 < cLine)(hi:PE X i ty)(ho:PE X o td):PC X .NotIn i o (yQ ty td):=by
 intro pins s σ H Q I h
 refine thn (hi pins s σ H _ I h) λiv s1 ⟨y,H1,I1,ry,q1⟩=>thn (ho pins s1 σ H1 _ I1 q1) λu s2 zz=>?_
 obtain⟨x,H2,I2,rx,a,ov,ex,g,q2⟩:=zz
 subst ex
 obtain rfl:u=Value.ref a:=rx
 exact yP hu I2 g ry λs3 I3=>⟨.bl (!ov.isSome),H2,I3,rfl,q2⟩
theorem dj(hu:X.A.units+1 < cLine)(ho:PE X o td)(hi:PE X i ty)(hv:PE X value tv)(hs:swapsWith value (some (.Subscript o i pos')) pos.line X.env=pure false) :
  PS X (.Assign [.Subscript o i pos'] value pos) (BV td ty tv):=by
 intro pins s σ H D I h
 refine wpAny_Assign_Subscript (thn (hv pins s σ H _ I h) λr s1 ⟨v,H1,I1,rv,q1⟩=>thn (ho pins s1 σ H1 _ I1 q1) λu s2 ⟨x,H2,I2,rx,q2⟩=>thn (hi pins s2 σ H2 _ I2 q2) λiv s3 zz=>?_) hs
 obtain⟨y,H3,I3,ry,a,H4,ex,g,q3⟩:=zz
 subst ex
 obtain rfl:u=Value.ref a:=rx
 exact tK hu I3 g ry rv λs4 I4=>⟨σ,H4,I4,q3⟩
end
theorem mT{P:Program}{w:World}{H:Hp}(h:Heap)(hb:sysModules < h.objs.size):dl P w H (h.push { cls:=.type "dict",data:=.dict #[] }) h.objs.size (.dK []) :=
 ⟨Nat.zero_le _,beq_eq_false_iff_ne.mpr (Ne.symm (Nat.ne_of_lt hb)),[],.nil,Heap.DictOf.new h⟩
theorem rB{P:Program}{w:World}{H:Hp}(h:Heap)(hb:sysModules < h.objs.size):dl P w H (h.push { cls:=.type "dict",data:=.dict #[] }) h.objs.size (.dT []) :=
 ⟨Nat.zero_le _,beq_eq_false_iff_ne.mpr (Ne.symm (Nat.ne_of_lt hb)),[],.nil,_,#[],0,Heap.get?_push_size _ rfl,⟨rfl,rfl,rfl⟩,rfl,rfl,List.nodup_nil⟩
def AZ:TE:=λ_ H Q=>∀p,H p=none->Q (.ref p) (upd H p (.dK []))
def Ab:TE:=λ_ H Q=>∀p,H p=none->Q (.ref p) (upd H p (.dT []))
section
variable{X:Cx}{pos:Pos}
theorem fY:PE X (.Dict [] [] pos) AZ:=λpins s σ H Q I h =>
 wpAny_Dict_empty ⟨.ref s.heap.objs.size,_,I.laid (a:=s.heap.objs.size) (o:=.dK []) (t':=s.toks) (λ_ _ q=>Heap.get?_push_of_some _ q) (Nat.le_refl _) (mT s.heap I.big),rfl,h _ (I.hok.fresh (Nat.le_refl _))⟩
theorem eB:PE X (.Dict [] [] pos) Ab:=λpins s σ H Q I h =>
 wpAny_Dict_empty ⟨.ref s.heap.objs.size,_,I.laid (a:=s.heap.objs.size) (o:=.dT []) (t':=s.toks) (λ_ _ q=>Heap.get?_push_of_some _ q) (Nat.le_refl _) (rB s.heap I.big),rfl,h _ (I.hok.fresh (Nat.le_refl _))⟩
end
def uA:List (TE × TE)->St->Hp->(List (V × V)->Hp->Prop)->Prop
 |[],_,H,Q=>Q [] H
 |(tk,tv)::r,σ,H,Q=>tk σ H λx H1=>tv σ H1 λy H2=>uA r σ H2 λps H3=>Q ((x,y)::ps) H3
abbrev VV:List (V × V)->List (Value × Value)->Prop:=Paired λp q=>cy p.1 q.1/\cy p.2 q.2
def PPs(X:Cx)(pos:Pos)(keys:List (Option Expr))(values:List Expr)(trs:List (TE × TE)):Prop :=
 ∀(pins:List (Addr × Obj)) (s:Shared) (σ:St) (H:Hp) (Q:List (V × V)->Hp->Prop),Inv X pins σ H s->uA trs σ H Q ->
  wpAny (model X.prog X.w) X.A (evalPairs (pairTrees keys values X.env pos)) (λvs s'=>∃ps H',Inv X pins σ H' s'/\VV ps vs/\Q ps H') X.xe s
theorem uc{X:Cx}{pos:Pos}:PPs X pos [] [] []:=λpins s σ H Q I h=>pairTrees_nil_walk ⟨[],H,I,.nil,h⟩
theorem nw{X:Cx}{pos:Pos}{k v:Expr}{ks:List (Option Expr)}{vs:List Expr}{tk tv:TE}{trs:List (TE × TE)}(hk:PE X k tk)(hv:PE X v tv)(hr:PPs X pos ks vs trs) :
  PPs X pos (some k::ks) (v::vs) ((tk,tv)::trs):=λpins s σ H Q I h =>
 pairTrees_cons_walk (thn (hk pins s σ H _ I h) λu s1 ⟨x,H1,I1,rx,q1⟩=>thn (hv pins s1 σ H1 _ I1 q1) λw2 s2 ⟨y,H2,I2,ry,q2⟩ =>
  thn (hr pins s2 σ H2 _ I2 q2) λws s3 ⟨ps,H3,I3,rel,q3⟩=>⟨(x,y)::ps,H3,I3,.cons ⟨rx,ry⟩ rel,q3⟩)
def gp(kvs more:List (Key × V)):List (Key × V):=more.foldl (λacc kv=>cI acc kv.1 kv.2) kvs
theorem KV.merge:∀{more:List (Key × V)} {rs:List (Key × Value)} {kvs:List (Key × V)} {vs:List (Key × Value)},KV more rs->KV kvs vs->KV (gp kvs more) (merged vs rs):=by
 intro more rs kvs vs r
 unfold KV at r
 induction r generalizing kvs vs with
 |nil=>intro q;exact q
 |@cons p q ps qs h t ih =>
  intro r0
  have e:KV (cI kvs p.1 p.2) (stored vs q.1 q.2):=by
   have:=r0.put p.1 h.2
   rw [<-h.1];exact this
  exact ih e
theorem iP:∀(more kvs:List (Key × V)),(gp kvs more).length<=kvs.length+more.length
 |[],kvs=>by show kvs.length<=kvs.length+0;omega
 |p::r,kvs=>by
  have h1:=iP r (cI kvs p.1 p.2)
  have h2:=cN kvs p.1 p.2
  show(gp (cI kvs p.1 p.2) r).length<=_
  rw [List.length_cons];omega
theorem lM{P:Program}{w:World}:∀{kvs:List (Key × V)} {ws:List (Value × Value)},VV (kvs.map λkv=>(kV kv.1,kv.2)) ws->∃rs,Carries (bf P w) ws rs/\KV kvs rs
 |[],_,r=>by rw [List.map_nil] at r;cases r;exact⟨[],True.intro,.nil⟩
 |p::kvs,_,r=>by
  rw [List.map_cons] at r
  cases r with
  |@cons a b as bs h t =>
   obtain⟨rs,c,q⟩:=lM (P:=P) (w:=w) t
   obtain⟨b1,b2⟩:=b
   exact⟨(p.1,b2)::rs,⟨mo h.1,rfl,c⟩,.cons ⟨rfl,h.2⟩ q⟩
def BQ(trs:List (TE × TE)):TE:=λσ H Q=>∀p,H p=none->uA trs σ (upd H p (.dK [])) λps H2=>H2 p=some (.dK [])/\∃kvs:List (Key × V),ps=kvs.map (λkv=>(kV kv.1,kv.2))/\kvs.length<=15/\Q (.ref p) (upd H2 p (.dK (gp [] kvs)))
theorem uh{X:Cx}{pos:Pos}{keys:List (Option Expr)}{values:List Expr}{trs:List (TE × TE)}(h:PPs X pos keys values trs)(hall:keys.all (·.isSome)=true)(hl:keys.length=values.length)(h0:keys≠[])
  (h15:keys.length<=15):PE X (.Dict keys values pos) (BQ trs):=by
 intro pins s σ H Q I q
 have hn:=I.hok.fresh (Nat.le_refl s.heap.objs.size)
 have I1:=I.laid (a:=s.heap.objs.size) (o:=.dK []) (h':=s.heap.push { cls:=.type "dict",data:=.dict #[] }) (t':=s.toks) (λ_ _ q=>Heap.get?_push_of_some _ q) (Nat.le_refl _) (mT s.heap I.big)
 refine wpAny_Dict_walk (knd:=bf X.prog X.w) hall hl h0 h15 (thn (h pins _ σ _ _ I1 (q _ hn)) λws s2 zz=>?_)
 obtain⟨ps,H2,I2,rel,e,kvs,ep,lk,q2⟩:=zz
 subst ep
 obtain⟨rs,c,rk⟩:=lM (P:=X.prog) (w:=X.w) rel
 obtain⟨z,hd,vs0,r0,dd⟩:=kG I2.hok e
 cases r0
 refine⟨rs,c,dd,λh' dd' hs=>⟨.ref s.heap.objs.size,_,?_,rfl,q2⟩⟩
 have hz:(gp [] kvs).length<=sizeLine:=by
  have h1:=iP kvs []
  rw [List.length_nil] at h1
  rw [sizeLine_eq];omega
 have he:∃q,h'.get? s.heap.objs.size=some q:=let ⟨q,_,_,hq,_⟩:=dd';⟨q,hq⟩
 exact jn I2 (by rw [e];exact True.intro) hs he (ql hz hd (rk.merge .nil) dd')
structure M1(X:Cx)(o:Expr)(m:Str)(apos:Pos)(e:Expr)(cpos:Pos):Prop where
 base:attributeBase o m X.env (eval o X.env)=eval o X.env
 few:((backTo cpos (starEach [e] X.env)).all (λx=>!x.1)&&(backToKw cpos (keywordEach [] X.env)).all (λx=>x.1.isSome)
  && decide (([e]:List Expr).length+([]:List Keyword).length+(if ([]:List Keyword).isEmpty then 0 else 1) < 30))=true
 line:(apos.endLine==cpos.line)=true
 trees:backTo cpos (starEach [e] X.env)=[(false,eval e X.env)]
structure M2(X:Cx)(o:Expr)(m:Str)(apos:Pos)(e f:Expr)(cpos:Pos):Prop where
 base:attributeBase o m X.env (eval o X.env)=eval o X.env
 few:((backTo cpos (starEach [e,f] X.env)).all (λx=>!x.1)&&(backToKw cpos (keywordEach [] X.env)).all (λx=>x.1.isSome)
  && decide (([e,f]:List Expr).length+([]:List Keyword).length+(if ([]:List Keyword).isEmpty then 0 else 1) < 30))=true
 line:(apos.endLine==cpos.line)=true
 trees:backTo cpos (starEach [e,f] X.env)=[(false,eval e X.env),(false,eval f X.env)]
def IsD(H:Hp)(a:Addr):Prop:=(∃kvs,Rd H a (.dK kvs))\/∃kvs,Rd H a (.dT kvs)
theorem xA{X:Cx}{pins:List (Addr × Obj)}{σ:St}{H:Hp}{s:Shared}{a:Addr}(I:Inv X pins σ H s)(d:IsD H a) :
  s.TypeIs (.ref a) "dict"/\(∀b,Value.ref a=.ref b->∃ob,s.heap.get? b=some ob/\ob.dict=none)/\(a==sysModules)=false:=by
 rcases d with ⟨kvs,e⟩|⟨kvs,e⟩
 ·obtain⟨_,hd,vs,_,dd⟩:=oI I.hok e
  refine⟨dd.typeIs,λb q=>?_,hd⟩
  cases q
  obtain⟨ob,_,_,h1,h2,_⟩:=dd
  exact⟨ob,h1,h2.2.1⟩
 ·obtain⟨_,hd,xs,_,dd⟩:=oB I.hok e
  refine⟨dd.typeIs,λb q=>?_,hd⟩
  cases q
  obtain⟨ob,_,_,h1,h2,_⟩:=dd
  exact⟨ob,h1,h2.2.1⟩
section
variable{X:Cx}{pins:List (Addr × Obj)}{σ:St}{H:Hp}{s:Shared}{a:Addr}{y d:V}{u r:Value}{o:Option V}{A:Around}{E:Value->Shared->Prop}
theorem Aw{Q:Value->Shared->Prop}(hu:A.units+1 < cLine)(I:Inv X pins σ H s)(g:gj H a y o)(ry:cy y u)(h:∀w' s',Inv X pins σ H s'->cy (o.getD .non) w'->Q w' s') :
  wpAny (model X.prog X.w) A (call (.builtin "dict.get") [.ref a,u]) Q E s:=by
 rcases g with ⟨kvs,k,e,ey,l⟩|⟨kvs,k,b,e,ey,eb,l⟩
 ·subst ey
  obtain⟨z,hd,vs,rel,dd⟩:=oI I.hok e
  refine call_meetsIn PySem.F.slot_dict_get dd.typeIs PySem.F.entry_dict_get (PySem.F.args_dict_get_2 _ _) (meets_dict_get (bf X.prog X.w) a (mo ry) hd) ⟨_,dd.mapOf,h _ _ (I.tok _) ?_⟩
  rw [l]
  exact(rel.val k).getD rfl
 ·subst ey
  cases (show u=Value.ref b from ry)
  obtain⟨z,hd,xs,rel,dd⟩:=oB I.hok e
  refine call_meetsIn PySem.F.slot_dict_get dd.typeIs PySem.F.entry_dict_get (PySem.F.args_dict_get_2 _ _) (meetsH_dict_get (tupleKind (bf X.prog X.w)) a b hd) ⟨tupleKind_room_in1 hu,k,xs,jx I.hok eb,dd,h _ _ (I.tok _) ?_⟩
  rw [l]
  exact(rel.val k).getD rfl
theorem AC{Q:Value->Shared->Prop}(hu:A.units+1 < cLine)(I:Inv X pins σ H s)(g:gj H a y o)(ry:cy y u)(rd:cy d r)(h:∀w' s',Inv X pins σ H s'->cy (o.getD d) w'->Q w' s') :
  wpAny (model X.prog X.w) A (call (.builtin "dict.get") [.ref a,u,r]) Q E s:=by
 rcases g with ⟨kvs,k,e,ey,l⟩|⟨kvs,k,b,e,ey,eb,l⟩
 ·subst ey
  obtain⟨z,hd,vs,rel,dd⟩:=oI I.hok e
  refine call_meetsIn PySem.F.slot_dict_get dd.typeIs PySem.F.entry_dict_get (PySem.F.args_dict_get_3 _ _ _) (meets_dict_get_default (bf X.prog X.w) a (mo ry) hd r) ⟨_,dd.mapOf,h _ _ (I.tok _) ?_⟩
  rw [l]
  exact(rel.val k).getD rd
 ·subst ey
  cases (show u=Value.ref b from ry)
  obtain⟨z,hd,xs,rel,dd⟩:=oB I.hok e
  refine call_meetsIn PySem.F.slot_dict_get dd.typeIs PySem.F.entry_dict_get (PySem.F.args_dict_get_3 _ _ _) (meetsH_dict_get_default (tupleKind (bf X.prog X.w)) a b hd r) ⟨tupleKind_room_in1 hu,k,xs,jx I.hok eb,dd,h _ _ (I.tok _) ?_⟩
  rw [l]
  exact(rel.val k).getD rd
end
def A7(td ty:TE):TE:=λσ H Q=>td σ H λx H1=>∃a,x=.ref a/\IsD H1 a/\ty σ H1 λy H2=>∃o,gj H2 a y o/\Q (o.getD .non) H2
def Aj(td ty tx:TE):TE:=λσ H Q=>td σ H λx H1=>∃a,x=.ref a/\IsD H1 a/\ty σ H1 λy H2=>tx σ H2 λz H3=>∃o,gj H3 a y o/\Q (o.getD z) H3
section
variable{X:Cx}{o e f:Expr}{apos cpos:Pos}{td ty tx:TE}
theorem xh(hu:X.A.units+1 < cLine)(ho:PE X o td)(he:PE X e ty) (m:M1 X o "get" apos e cpos):PE X (.Call (.Attribute o "get" apos) [e] [] cpos) (A7 td ty):=by
 intro pins s σ H Q I h
 refine wpAny_Call_method m.base m.few m.line PySem.F.plainAttrs_dict PySem.F.slot_dict_get PySem.F.type_dict_get (thn (ho pins s σ H _ I h) λu s1 zz=>?_)
 obtain⟨x,H1,I1,rx,a,ex,d,q1⟩:=zz
 subst ex
 obtain rfl:u=Value.ref a:=rx
 obtain⟨t1,t2,_⟩:=xA I1 d
 refine⟨t1,t2,?_⟩
 rw [m.trees]
 refine Calls.callWith_builtin rfl (Calls.evalArgs_plain (Calls.spliced_cons (thn (he pins s1 σ H1 _ I1 q1) λiv s2 ⟨y,H2,I2,ry,ov,g,q2⟩=>Calls.spliced_nil ?_)))
 exact Aw hu I2 g ry λw' s3 I3 rw'=>⟨_,H2,I3,rw',q2⟩
theorem vQ(hu:X.A.units+1 < cLine)(ho:PE X o td)(he:PE X e ty)(hf:PE X f tx) (m:M2 X o "get" apos e f cpos):PE X (.Call (.Attribute o "get" apos) [e,f] [] cpos) (Aj td ty tx):=by
 intro pins s σ H Q I h
 refine wpAny_Call_method m.base m.few m.line PySem.F.plainAttrs_dict PySem.F.slot_dict_get PySem.F.type_dict_get (thn (ho pins s σ H _ I h) λu s1 zz=>?_)
 obtain⟨x,H1,I1,rx,a,ex,d,q1⟩:=zz
 subst ex
 obtain rfl:u=Value.ref a:=rx
 obtain⟨t1,t2,_⟩:=xA I1 d
 refine⟨t1,t2,?_⟩
 rw [m.trees]
 refine Calls.callWith_builtin rfl (Calls.evalArgs_plain (Calls.spliced_cons (thn (he pins s1 σ H1 _ I1 q1) λiv s2 ⟨y,H2,I2,ry,q2⟩ =>
  Calls.spliced_cons (thn (hf pins s2 σ H2 _ I2 q2) λfv s3 ⟨z,H3,I3,rz,ov,g,q3⟩=>Calls.spliced_nil ?_))))
 exact AC hu I3 g ry rz λw' s4 I4 rw'=>⟨_,H3,I4,rw',q3⟩
end
section
variable{X:Cx}{pins:List (Addr × Obj)}{σ:St}{H:Hp}{s:Shared}{a:Addr}{kvs:List (Key × V)}{A:Around}{E:Value->Shared->Prop}
end
section
variable{X:Cx}{pins:List (Addr × Obj)}{σ:St}{H:Hp}{s:Shared}{a:Addr}{y:V}{u:Value}{A:Around}{E:Value->Shared->Prop}
end
end L2
namespace Att
open PySem PySem.W PySem.Calls PyProof.Rows
theorem jQ{P:Params}{h:Heap}:∀(ns:List Int) (vs:List Value),WellAll P h vs (ns.map WData.int)->IntsAre vs ns:=by
 intro ns
 induction ns with
 |nil =>
  intro vs w
  rw [List.map_nil] at w
  cases w
  exact .nil
 |cons n ns ih =>
  intro vs w
  rw [List.map_cons] at w
  cases w with
  |cons a b =>
   cases a
   exact .cons _ _ (ih _ b)
theorem vH{l:OpenLaw}{n:Nat}(hn:l.most=some n){P:Params}{h:Heap}{args:List WData}{vals:List Value}
  (hpre:l.row.toRowW.claim.pre args=true) (hwl:WellAll P h vals args) :
  ∃a vs ns,vals=[Value.ref a]/\args=[WData.list (ns.map WData.int)]/\h.get? a=some { cls:=.type "list",data:=.seq vs.toArray }/\IntsAre vs ns/\ns.length<=n:=by
 have hsh:WShape.hasAll [] args [.list .int]=true:=(pre_splitW hpre).1
 have hc:l.pre.holds [] { args:=args }=true:=(pre_splitW hpre).2
 obtain⟨d,r,rfl,h1,h2⟩:=hasAllW_cons hsh
 obtain rfl:=hasAllW_nil h2
 obtain⟨xs,rfl,h3⟩:=hasW_list h1
 obtain⟨ns,rfl⟩:=items_int h3
 have hlen:ns.length<=n:=by
  unfold OpenLaw.pre at hc
  have h4:(WTm.not (.lt (.lit (.int (n:Int))) (.len (.arg 0)))).holds [] { args:=[.list (ns.map .int)] }=true:=by
   have h4:=(holds_andW hc).1
   rw [hn] at h4
   exact h4
  have h5:=condW_of h4 (w_not (w_lt w_lit (w_len_list (w_arg rfl))))
  rw [List.length_map] at h5
  refine Nat.le_of_not_lt λq=>?_
  have q':(n:Int) < ((ns.length:Nat):Int):=by omega
  first
   |(rw [decide_eq_true q'] at h5;exact absurd h5 (by decide))
   |(simp at h5;omega)
 cases hwl with
 |cons w1 w2 =>
  cases w2
  cases w1 with
  |list ho hall=>exact⟨_,_,ns,rfl,rfl,ho,jQ ns _ hall,hlen⟩
theorem uj(l:OpenLaw)(args:List WData):l.row.toRowW.claim.post args (.bool true) args=true :=
 postW_of (r:=l.row.toRowW) (X:=(true==true))
  (show WShape.has [] (.bool true) .bool=true by first|rfl|decide|simp [WShape.has,WShape.arms,WShape.armsAll])
  (show(WTm.eq .res (.lit (.bool true))).value [] { args:=args,res:=some (.bool true),after:=args }=some (.bool (true==true)) from w_eq_bool (w_res rfl) w_lit) rfl
theorem attach_call{l:OpenLaw}{n:Nat}{q:Program}{loose:List Str}{XP:(Str->Option Value)->Heap->Prop}{YP:World->Heap->Prop}{d:DefRec}
  (hn:l.most=some n) (hdf:d.params.defaults=[])
  (call:∀(w:World) (s₀ s₁:Shared) (mg mb:Str->Option Value) (fa:Addr) (o:Obj) (pm cd doc:Value) (a:Addr) (vs:List Value) (ns:List Int),
   Ground q loose [] XP w s₀ mg mb s₁.heap->YP w s₁.heap ->
   s₁.heap.get? fa=some o->o.data=.func (docDef d.name d.params d.body d.scope pm cd doc)->s₁.heap.CodeRec cd d.name->mg d.name=some (.ref fa) ->
   s₁.heap.get? a=some { cls:=.type "list",data:=.seq vs.toArray }->IntsAre vs ns->ns.length<=n->s₁.gens=#[] ->
   codeAny (model l.prog w) callerA (.call (.ref fa) ⟨[.ref a],[]⟩) (λr s'=>r=.ok (.ret (.bool true))/\OldK s₁.heap s'.heap/\s'.os=s₁.os/\AllBare s'.gens) s₁) :
  WalkO q loose XP YP l.row.toRowW d [] (λf vs=>PySem.call f vs):=by
 intro w s₀ s₁ mg mb G Y fa o pm cd doc dV kV ho hd hcd hD hmg hg args vals as hpre hlay hrd hwl hlo
 obtain rfl:dV=.none:=Dflts.none hD hdf
 obtain rfl:kV=.none:=Dflts.noKw hD
 obtain⟨a,vs,ns,rfl,rfl,hobj,hints,hlen⟩:=vH hn hpre hwl
 refine enter_call (codeAny_mono (call w s₀ s₁ mg mb fa o pm cd doc a vs ns G Y ho (fd_plain hd) hcd hmg hobj hints hlen hg) λr s' hq=>?_)
 obtain⟨rfl,h2,h3,h4⟩:=hq
 exact⟨.inl ⟨.bool true,.bool true,[],rfl,λ_=>rfl,.bool true,uj l _,λ_=>⟨List.Pairwise.nil,λ_ hm=>(nomatch hm)⟩⟩,h2,h3,h4⟩
section
variable{prog:Program}{w:World}{A:Around}{E:Value->Shared->Prop}{s:Shared}{K:Frag}
def BY(h:Heap)(L d:Addr):List (Addr × Obj):=(List.range h.objs.size).filterMap λa=>if a=L\/a=d then none else (h.get? a).map λo=>(a,o)
end
end Att
namespace L2
open PySem PySem.Spec PyProof.Rows
theorem nM:∀{vs:List Value} {ns:List Int},IntsAre vs ns->cr (ns.map V.int) vs
 |_,_,.nil=>.nil
 |_,_,.cons n t h=>.cons ⟨t,rfl⟩ (nM h)
def Br(H:Hp):Prop:=∀b,H b=none\/∃o xs,H b=some (.frz o (.lst xs))
theorem wW{P:Program}{w:World}{K:W.Frag}{mg mb:Str->Option Value}{CX:CXT}{k:Nat}{fa a:Addr}{fd:FuncData}{x:Str}{sp:Sp}{s₁:Shared}{vs:List Value}{ns:List Int}
  (KX:K.In s₁.heap) (hns:s₁.heap.Ns mainGlobals mg) (hb:s₁.heap.Ns builtinsNs mb) (hbb:∀x:Str,x≠"__name__"->mb x=bootBuiltins x) (hlim:s₁.heap.NoLimit) (hg:s₁.gens=#[])
  (ha:s₁.heap.get? a=some { cls:=.type "list",data:=.seq vs.toArray }) (hi:IntsAre vs ns) (hl:ns.length<=sizeLine) (hr:bZ k callerA)
  (F:∀base:Heap,K.In base->base.Ns mainGlobals mg->cE P w K mg base CX k fa fd [x] sp) (hbind:∀(s:Shared) (u:Value),BindsTo s fd ⟨[u],[]⟩ [(x,u)])
  (hsp:∀H:Hp,Br H->SqL K H a (ns.map V.int)->sp [.ref a] H (λv _=>v=.bl true) λ_ _ _=>False)
  (hCX:∀H e s',CX [] H s₁ (λ_ _ _=>False) e s'->False) :
  codeAny (model P w) callerA (.call (.ref fa) ⟨[.ref a],[]⟩) (λr s'=>r=.ok (.ret (.bool true))/\OldK s₁.heap s'.heap/\s'.os=s₁.os/\AllBare s'.gens) s₁:=by
 have rv:=nM hi
 have lenV:=hi.length
 have core:∀H:Hp,Br H->SqL K H a (ns.map V.int)->HOk P w H s₁.heap->(∀b,H b≠none->b=a)->(H a≠none->K.lookup a=none) ->
   codeAny (model P w) callerA (.call (.ref fa) ⟨[.ref a],[]⟩) (λr s'=>r=.ok (.ret (.bool true))/\OldK s₁.heap s'.heap/\s'.os=s₁.os/\AllBare s'.gens) s₁:=by
  intro H hO hS hok hA hK
  have base_of:∀{b:Addr} {o:Obj},s₁.heap.get? b=some o->H b=none->(vS s₁.heap H).get? b=some o:=λe n=>vT e n
  have noA:∀{b:Addr} {o:Obj} {es:Array DictEntry} {ep:Nat},s₁.heap.get? b=some o->o.data=.dict es ep->H b=none:=λ{b o es ep} e d=>by
   cases q:H b with
   |none=>rfl
   |some u =>
    have e':b=a:=hA b (by rw [q];simp)
    subst e'
    rw [ha] at e;cases e
    have d':Data.seq vs.toArray _=Data.dict es ep:=d
    cases d'
  have nsK:∀{b:Addr} {m:Str->Option Value},s₁.heap.Ns b m->(vS s₁.heap H).Ns b m:=λ{b m} ⟨o,es,ep,e,d,r⟩=>⟨o,es,ep,base_of e (noA e d),d,r⟩
  have hKb:K.In (vS s₁.heap H):=λb o e=>base_of (KX b o e) (by
   cases q:H b with
   |none=>rfl
   |some u =>
    have e':b=a:=hA b (by rw [q];simp)
    subst e'
    rw [hK (by rw [q];simp)] at e;cases e)
  have hM:Mod K mg (vS s₁.heap H):=⟨hKb,nsK hns,⟨mb,nsK hb,hbb⟩,let ⟨mc,h1,h2⟩:=hlim;⟨mc,nsK h1,h2⟩⟩
  have e0:yw P w K mg (vS s₁.heap H) callerA [] s₁ H:=⟨rfl,hM,λb o e=>xV e,Nat.le_of_eq (uC _ _),trivial,λb hb=>absurd (show b∈([]:List Addr) from hb) (by simp),hok,.of_eq hg⟩
  refine codeAny_mono ((F _ hKb (nsK hns)).run callerA [] s₁ H ⟨[.ref a],[]⟩ [.ref a] [.ref a] _ _ hr e0 (hbind s₁ (.ref a)) (.cons rfl .nil) (hsp H hO hS)) λr s' h=>?_
  cases r with
  |error e=>exact(hCX H e s' h).elim
  |ok fl =>
   cases fl with
   |next=>exact False.elim h
   |brk=>exact False.elim h
   |cont=>exact False.elim h
   |ret u =>
    obtain⟨v,H',os,bare,un,hok',r',q⟩:=h
    have q':v=.bl true:=q
    subst q'
    obtain rfl:u=Value.bool true:=r'
    refine⟨rfl,OldK.of_keep λb o e=>?_,os,bare⟩
    cases q:H b with
    |none=>exact un.keep b o e q (by intro z;exact absurd (show b∈([]:List Addr) from z) (by simp)) (by simp)
    |some u =>
     rcases hO b with z|⟨ob,xs,z⟩
     ·rw [q] at z;cases z
     ·have z2:=un.frzs b ob _ z
      obtain⟨e1,_⟩:=hok b _ z
      obtain⟨e2,_⟩:=hok' b _ z2
      rw [e] at e1;cases e1
      exact e2
 cases hk:K.lookup a with
 |some o =>
  have e:=KX a o hk
  rw [ha] at e
  cases e
  refine core (λ_=>none) (λ_=>.inl rfl) (.inr ⟨_,vs.toArray,_,hk,rfl,rfl,rfl,by rw [List.size_toArray,lenV];exact hl,by simpa using rv⟩) (λb u z=>by have z':(none:Option HO)=some u:=z;cases z') (λb z=>absurd rfl z) λz=>absurd rfl z
 |none =>
  refine core (λb=>if b=a then some (.frz { cls:=.type "list",data:=.seq vs.toArray } (.lst (ns.map V.int))) else none) (λb=>?_) (.inl (.inr ⟨{ cls:=.type "list",data:=.seq vs.toArray },if_pos rfl⟩)) (λb u z=>?_) (λb z=>?_) λ_=>hk
  ·by_cases hb:b=a
   ·exact .inr ⟨_,_,if_pos hb⟩
   ·exact .inl (if_neg hb)
  ·by_cases hb:b=a
   ·have z':=(if_pos hb).symm.trans z
    cases z'
    subst hb
    exact⟨ha,by rw [List.length_map];exact hl,vs,_,rv,ha⟩
   ·have z':=(if_neg hb).symm.trans z
    cases z'
  ·by_cases hb:b=a
   ·exact hb
   ·exact absurd (if_neg hb) z
abbrev KOf{K:W.Frag}{h:Heap}(_:K.In h):W.Frag:=K
theorem walk_of{l:W.OpenLaw}{n k:Nat}{q:Program}{loose:List Str}{XP:(Str->Option Value)->Heap->Prop}{YP:World->Heap->Prop}{d:DefRec}{K:Params->W.Frag}{CX:World->CXT}{sp:World->Sp}{x:Str}
  (hn:l.most=some n) (hn2:n<=sizeLine) (hdf:d.params.defaults=[]) (hr:bZ k callerA)
  (hY:∀(w:World) (h:Heap),YP w h->(K w.params).In h)
  (F:∀(w:World) (mg:Str->Option Value) (fa:Addr) (h:Heap),(K w.params).In h->h.Ns mainGlobals mg->mg d.name=some (.ref fa) ->
   ∃fd:FuncData,(∀(s:Shared) (u:Value),BindsTo s fd ⟨[u],[]⟩ [(x,u)]) /\
    ∀base:Heap,(K w.params).In base->base.Ns mainGlobals mg->cE l.prog w (K w.params) mg base (CX w) k fa fd [x] (sp w))
  (hsp:∀(w:World) (H:Hp) (a:Addr) (ns:List Int),ns.length<=n->Br H->SqL (K w.params) H a (ns.map V.int)->sp w [.ref a] H (λv _=>v=.bl true) λ_ _ _=>False)
  (hCX:∀(w:World) (H:Hp) (s:Shared) (e:Value) (s':Shared),CX w [] H s (λ_ _ _=>False) e s'->False) :
  W.WalkO q loose XP YP l.row.toRowW d [] (λf vs=>PySem.call f vs):=by
 refine Att.attach_call hn hdf λw s₀ s₁ mg mb fa o pm cd doc a vs ns G Y ho hd hcd hmg hobj hints hlen hg=>?_
 have KX:=hY w _ Y
 obtain⟨fd,hb,hF⟩:=F w mg fa _ KX G.T.g hmg
 exact wW KX G.T.g G.T.b G.T.builtins G.T.nolimit hg hobj hints (Nat.le_trans hlen hn2) hr hF hb (λH hO hS=>hsp w H a ns hlen hO hS) λH e s'=>hCX w H s₁ e s'
def mq(s:Stmt)(j:Nat):Stmt:=match s with
 |.ClassDef _ _ _ body _ _ _ _ _ _ _=>body.getD j (.Pass ⟨0,0,0,0⟩)
 |_=>.Pass ⟨0,0,0,0⟩
def aA(s:Stmt):Arguments:=match s with
 |.FunctionDef _ a _ _ _ _ _ _ _ _=>a
 |_=>{ posonlyargs:=[],args:=[],vararg:=none,kwonlyargs:=[],kw_defaults:=[],kwarg:=none,defaults:=[] }
def aj(s:Stmt):List Stmt:=match s with
 |.FunctionDef _ _ b _ _ _ _ _ _ _=>b
 |_=>[]
def ae(s:Stmt):Scope:=match s with
 |.FunctionDef _ _ _ _ _ _ sc _ _ _=>sc
 |_=>{ kind:=.function,names:=[],isGenerator:=false,isCoroutine:=false }
abbrev CX0:CXT:=λ_ _ _ _ _ _=>False
abbrev E0:XK:=λ_ _ _=>False
theorem d9{X:Cx}:ko CX0 X E0:=λ_ _ _ _ _ _ _ h=>h.elim
structure Fun(K:W.Frag)(x qual:Str)(st:Stmt)(f:Addr)(fd:FuncData):Prop where
 ex:∃(oc:Value) (od:Option Addr) (kV doc pm:Value) (an:Option Addr) (cdv ct:Value) (osl:Array (Option Value)),
  fd=W.fnOf x qual (aA st) (aj st) (ae st) .none kV doc pm an cdv ct/\K.lookup f=some ⟨oc,od,.func fd,osl⟩/\W.codeIn K cdv qual=true
 kp:W.keepIn K (.ref f)=true
section
variable{P:Program}{w:World}{K:W.Frag}{mg:Str->Option Value}{base:Heap}
theorem Fun.ok{x qual:Str}{st:Stmt}{f:Addr}{fd:FuncData}{N ps:List Str}{k:Nat}{sp:Sp}(F:Fun K x qual st f fd)(S:aG N ps (ae st))(len:∀vs H Q E,sp vs H Q E->vs.length=ps.length)
  (hbody:∀(cdv:Value) (A:Around) (outer:List Env) (s:Shared) (H:Hp) (vs:List V) (Q:VK) (E:XK),bZ k (A.deeper (envOfC qual (ae st) s.heap.objs.size f cdv))->sp vs H Q E ->
   ∃t,PSs (i6 CX0 P w K mg base N qual (ae st) f cdv A outer s H E).nox (aj st) t/\t { nx:=λ_ H'=>Q .non H',rt:=Q } (start N vs) H):cE P w K mg base CX0 (k+1) f fd ps sp:=by
 obtain⟨oc,od,kV,doc,pm,an,cdv,ct,osl,rfl,lk,hcd⟩:=F.ex
 refine Ai lk hcd S len λA outer s H vs Q E hr hsp=>?_
 obtain⟨t,h,q⟩:=hbody cdv A outer s H vs Q E hr hsp
 exact⟨t,h.nox,q⟩
theorem Fun.binds{x qual:Str}{st:Stmt}{f:Addr}{fd:FuncData}{ps:List Str}(F:Fun K x qual st f fd)
  (h:∀(kV doc pm:Value) (an:Option Addr) (cdv ct:Value) (us:List Value),us.length=ps.length->bindArgs (W.fnOf x qual (aA st) (aj st) (ae st) .none kV doc pm an cdv ct) ⟨us,[]⟩=pure (ps.zip us)):cU K fd ps []:=by
 obtain⟨oc,od,kV,doc,pm,an,cdv,ct,osl,rfl,lk,hcd⟩:=F.ex
 exact .all (h kV doc pm an cdv ct)
theorem bi{x qual:Str}{st:Stmt}{f:Addr}{oc:Value}{od an:Option Addr}{osl:Array (Option Value)}{kV doc pm cdv ct:Value}(l:K.lookup f=some ⟨oc,od,.func (W.fnOf x qual (aA st) (aj st) (ae st) .none kV doc pm an cdv ct),osl⟩)
  (c:W.codeIn K cdv qual=true) (k:W.keepIn K (.ref f)=true):Fun K x qual st f (W.fnOf x qual (aA st) (aj st) (ae st) .none kV doc pm an cdv ct):=⟨⟨oc,od,kV,doc,pm,an,cdv,ct,osl,rfl,l,c⟩,k⟩
end
theorem dM{A:Around}{k:Nat}(hr:bZ k A):A.units+1 < cLine:=Nat.lt_of_le_of_lt (Nat.add_le_add_left (by decide:1<=64) _) hr.units
theorem cX{n:Nat}(h:n<=1000):n < sizeLine:=Nat.lt_of_le_of_lt h (by decide)
section
variable{X:Cx}
theorem pv(i:Nat){x:Str}{pos:Pos}(hN:X.N[i]?=some x:=by rfl)(hv:Vis X.env.scope x:=by first|exact Or.inl rfl|exact Or.inr (Or.inl rfl)|exact Or.inr (Or.inr rfl)) (hd:(x==("__debug__":Str))=false:=by decide)
  (hcd:(x==("__classdict__":Str))=false:=by decide):PE X (.Name x pos) (Ch i):=AI hN hv hd hcd
theorem nA{A B:Prop}(h:B):if false=true then A else B:=by
 rw [if_neg Bool.false_ne_true]
 exact h
theorem oZ{A B:Prop}(h:A):if true=true then A else B:=by
 rw [if_pos rfl]
 exact h
theorem dE{c A B:Prop}[Decidable c](h1:c->A)(h2:¬c->B):if c then A else B:=by
 by_cases h:c
 ·rw [if_pos h]
  exact h1 h
 ·rw [if_neg h]
  exact h2 h
def ao(H H':Hp):Prop:=∀b o,H b=some o->H' b=some o
theorem ao.refl(H:Hp):ao H H:=λ_ _ h=>h
theorem ao.trans{H H1 H2:Hp}(a:ao H H1)(b:ao H1 H2):ao H H2:=λc o h=>b c o (a c o h)
theorem ao.free{H H':Hp}(e:ao H H'){l:Addr}(h:H' l=Option.none):H l=Option.none:=by
 cases q:H l with
 |none=>rfl
 |some o =>
  rw [e l o q] at h
  cases h
theorem ao.seq{K:W.Frag}{H H':Hp}{a:Addr}{xs:List V}(e:ao H H')(h:SqL K H a xs):SqL K H' a xs:=by
 rcases h with (h|⟨o,h⟩)|h
 ·exact .inl (.inl (e _ _ h))
 ·exact .inl (.inr ⟨o,e _ _ h⟩)
 ·exact .inr h
end
section
variable{κ:Type}[DecidableEq κ]
end
section
variable{X:Cx}{tg:Expr}
end
abbrev blk(X:Cx)(N':List Str)(sc:Scope)(cl:List (Str × Addr))(s₀:Shared)(H₀:Hp)(C:Addr)(ex:List Addr):Cx :=
 { X with N:=N',s₀:=s₀,H₀:=H₀,env:=compEnvC sc cl C X.env,outer:=X.stack,ex:=ex,fn:=λ_=>false,xe:=λ_ _=>False }
structure jB(X:Cx)(caps:List Str)(sc:Scope)(cl:List (Str × Addr)):Prop where
 kind:sc.kind=.function
 nocell:∀y∈sc.names,y.2≠.cell
 names:∀y∈sc.names,y.2=.local->sc.names.lookup y.1=some .local
 clos:closureFor sc X.env=pure cl
 has:(sc.names.all λy=>y.2 != .free||(cl.lookup y.1).isSome)=true
 sub:∀y∈cl,X.env.cells.lookup y.1=some y.2
 caps:∀x∈caps,(X.env.kindOf x=some .cell\/X.env.kindOf x=some .free)/\(cl.lookup x).isSome=true/\((relabel sc X.env).names.lookup x=some .cell\/(relabel sc X.env).names.lookup x=some .free)
theorem gQ{env:Env}:∀{names:List (Str × NameKind)} {x:Str} {k:NameKind},(names.map fun(n,k)=>if (k==NameKind.free&&env.scope.kind==.function&&env.kindOf n==some .cell) then (n,NameKind.cell) else (n,k)).lookup x=some k ->
  ∃k',(x,k')∈names/\(k'=k\/k'=.free)
 |[],_,_,h=>by simp at h
 |(n,k0)::r,x,k,h=>by
  have h':List.lookup x ((if (k0==NameKind.free&&env.scope.kind==.function&&env.kindOf n==some .cell)=true then (n,NameKind.cell) else (n,k0))::(r.map fun(n,k)=>if (k==NameKind.free&&env.scope.kind==.function&&env.kindOf n==some .cell) then (n,NameKind.cell) else (n,k)))=some k:=h
  by_cases hx:x=n
  ·subst hx
   refine⟨k0,List.mem_cons_self,?_⟩
   by_cases hc:(k0==NameKind.free&&env.scope.kind==.function&&env.kindOf x==some .cell)=true
   ·have hf:(k0==NameKind.free)=true:=by
     rw [Bool.and_eq_true,Bool.and_eq_true] at hc
     exact hc.1.1
    exact .inr (by cases k0<;>first|rfl|exact absurd hf (by decide))
   ·rw [if_neg hc,List.lookup_cons_self] at h'
    exact .inl (Option.some.inj h')
  ·have hb:(x==n)=false:=beq_eq_false_iff_ne.mpr hx
   have h2:(r.map fun(n,k)=>if (k==NameKind.free&&env.scope.kind==.function&&env.kindOf n==some .cell) then (n,NameKind.cell) else (n,k)).lookup x=some k:=by
    split at h'<;>simpa [List.lookup_cons,hb] using h'
   obtain⟨k',hm,hk⟩:=gQ h2
   exact⟨k',List.mem_cons_of_mem _ hm,hk⟩
theorem jB.hasc{X:Cx}{caps:List Str}{sc:Scope}{cl:List (Str × Addr)}(S:jB X caps sc cl){x:Str}(h:(relabel sc X.env).names.lookup x=some .cell\/(relabel sc X.env).names.lookup x=some .free):∃c,cl.lookup x=some c:=by
 have key:(x,NameKind.free)∈sc.names:=by
  rcases h with h|h
  ·obtain⟨k',hm,hk⟩:=gQ h
   rcases hk with rfl|rfl
   ·exact absurd rfl (S.nocell _ hm)
   ·exact hm
  ·obtain⟨k',hm,hk⟩:=gQ h
   rcases hk with rfl|rfl<;>exact hm
 have q:=List.all_eq_true.mp S.has _ key
 have q2:(cl.lookup x).isSome=true:=by simpa using q
 exact Option.isSome_iff_exists.mp q2
theorem jB.subc{X:Cx}{caps:List Str}{sc:Scope}{cl:List (Str × Addr)}(S:jB X caps sc cl){x:Str}{c:Addr}(h:cl.lookup x=some c):X.env.cells.lookup x=some c:=S.sub _ (PySem.mem_of_lookup h)
def dO(n:Nat)(κ:List Nat)(σ:St):St:=List.replicate n none++κ.map λk=>(σ[k]?).join
def gT(n:Nat)(κ:List Nat)(g:TG)(tc:TT)(te:TE)(σ:St)(J:It)(H1:Hp)(Q:VK):Prop :=
 ∃W:Nat->Nat->List V->Hp->Prop,(∃m,W 0 m [] H1)/\∀i m ys H2,W i m ys H2 ->
  (J.stop i H2/\∀D,H2 D=none->Q (.ref D) (upd H2 D (.lst ys))) \/
  (J.go i H2/\ys.length < sizeLine/\∀x H3,J.yld i H2 x H3->g x (dO n κ σ) H3 λσ4 H4=>σ4.drop n=(dO n κ σ).drop n /\
   tc σ4 H4 λb H5=>if b=true then te σ4 H5 λv H6=>∃m',m' < m/\W (i+1) m' (ys++[v]) H6 else ∃m',m' < m/\W (i+1) m' ys H5)
def pA(n:Nat)(κ:List Nat)(wi:TI)(g:TG)(tc:TT)(te:TE):TE:=λσ H Q=>wi σ H λJ H1=>gT n κ g tc te σ J H1 Q
def Bf:TT:=λ_ H Q=>Q true H
theorem di{σ:St}{H:Hp}{A B:Hp->Prop}(h:A H):Bf σ H λb H5=>if b=true then A H5 else B H5:=by
 show(if true=true then A H else B H)
 rw [if_pos rfl]
 exact h
section
variable{X:Cx}{pins:List (Addr × Obj)}{σ:St}{H:Hp}{s:Shared}
theorem Inv.block{caps:List Str}{own:List Str}{κ:List Nat}{sc:Scope}{cl:List (Str × Addr)}{fp:List Addr}{h₁:Heap}{tk:Nat}(S:jB X caps sc cl)(hκ:κ.map (λk=>X.N[k]?)=caps.map some)(I:Inv X pins σ H s)
  (f2:∀b∈fp,oY X pins H b) (hfp:∀b∈fp,b < s.heap.objs.size)
  {hp:Heap} {ol:Obj} (ehp:hp=s.heap.push ol) (hns:h₁.Ns hp.objs.size λ_=>none) (old:∀b o,hp.get? b=some o->h₁.get? b=some o) :
  Inv (blk X (own++caps) sc cl { s with heap:=hp } H hp.objs.size (s.heap.objs.size::fp)) pins (dO own.length κ σ) H { s with heap:=h₁,toks:=tk }:=by
 have hsz:hp.objs.size=s.heap.objs.size+1:=by rw [ehp,Heap.size_push]
 have up:∀b o,s.heap.get? b=some o->hp.get? b=some o:=λb o e=>by rw [ehp];exact Heap.get?_push_of_some _ e
 have I3:Inv X pins σ H { s with heap:=hp }:=I.kept (t':=s.toks) up
 have stk:∀b,b≠X.env.locals->b∉X.fs->b∉frs X.stack:=λb h1 h2 z=>(List.mem_cons.mp (I.stkSub b z)).elim h1 h2
 have dD:s.heap.objs.size≠X.env.locals:=Nat.ne_of_gt I.lt
 have cellLt:∀x c,X.env.cells.lookup x=some c->c < s.heap.objs.size:=λx c e=>by
  obtain⟨v,q⟩:=I.cell x c e
  exact q.lt
 have ltC:∀b,b < s.heap.objs.size->b≠hp.objs.size:=λb hb=>by rw [hsz];exact Nat.ne_of_lt (Nat.lt_succ_of_lt hb)
 have cellK:∀c v,s.heap.IsCell c v->h₁.IsCell c v:=λc v ⟨o,ho,hd⟩=>⟨o,old _ _ (up _ _ ho),hd⟩
 refine⟨⟨I.ok.mod,?_,I.ok.glob,I.ok.blt,Nat.le_refl _,λx y c h1 h2=>I.ok.inj x y c (S.subc h1) (S.subc h2),λx h=>S.hasc h,λ_ _ z=>absurd z Bool.false_ne_true,I.ok.hd,I.ok.frames,.inl rfl,λb hb=>?_,λb o e=>⟨up _ _ (I.bs b o e).1,(I.bs b o e).2⟩,
   Nat.le_trans (Nat.le_trans I.ok.bsz I.sz) (by show s.heap.objs.size<=hp.objs.size;rw [hsz];exact Nat.le_succ _),λb o e hb=>?_,λb hb=>?_,I3.stack,I.stkFree⟩,
  rfl,I.bare,Un.kept old,⟨_,hns,λi x v e1 e2 e3=>?_⟩,λx c h=>?_,I.hok.fresh (by rw [hsz];exact Nat.le_succ _),λx c h=>I.freeC x c (S.subc h),λp hp'=>?_,I.hok.kept λb u e=>old _ _ (up _ _ e),?_⟩
 ·show(relabel sc X.env).kind=.function
  exact S.kind
 ·show b≠hp.objs.size/\∀x c,cl.lookup x=some c->c≠b
  rcases List.mem_cons.mp hb with rfl|hb
  ·exact⟨by rw [hsz];exact Nat.ne_of_lt (Nat.lt_succ_self _),λx c h=>Nat.ne_of_lt (cellLt x c (S.subc h))⟩
  ·exact⟨ltC b (hfp b hb),λx c h=>(f2 b hb).2.2.2.2.1 x c (S.subc h)⟩
 ·have hlt:b < X.s₀.heap.objs.size:=Nat.lt_of_lt_of_le (Heap.lt_size e) I.ok.bsz
  rcases List.mem_cons.mp hb with rfl|hb
  ·exact absurd (Nat.lt_of_lt_of_le hlt I.sz) (Nat.lt_irrefl _)
  ·rcases (f2 b hb).2.2.2.1 with z|z
   ·exact I.ok.noex b o e z
   ·exact absurd (Nat.lt_of_lt_of_le hlt z) (Nat.lt_irrefl _)
 ·rcases List.mem_cons.mp hb with rfl|hb
  ·exact stk _ dD (I.nofs (Nat.le_refl _))
  ·exact stk _ (f2 b hb).2.1 (f2 b hb).2.2.1
 ·have e1':(own++caps)[i]?=some x:=e1
  have hlen:(List.replicate own.length (none:Option V)).length=own.length:=List.length_replicate
  have hge:own.length<=i:=by
   refine Nat.le_of_not_lt λhlt=>?_
   unfold dO at e2
   rw [List.getElem?_append_left (by rw [hlen];exact hlt),List.getElem?_replicate,if_pos hlt] at e2
   cases e2
  unfold dO at e2
  rw [List.getElem?_append_right (by rw [hlen];exact hge),hlen,List.getElem?_map] at e2
  rw [List.getElem?_append_right hge] at e1'
  cases ek:κ[i - own.length]? with
  |none=>rw [ek] at e2;cases e2
  |some k =>
   rw [ek] at e2
   have e2':(σ[k]?).join=some v:=Option.some.inj e2
   have e4:σ[k]?=some (some v):=by
    cases eσ:σ[k]? with
    |none=>rw [eσ] at e2';cases e2'
    |some w=>rw [eσ] at e2';exact congrArg some e2'
   have e5:X.N[k]?=some x:=by
    have z:=congrArg (λl=>l[i - own.length]?) hκ
    simp only [List.getElem?_map,ek,e1',Option.map_some] at z
    exact Option.some.inj z
   obtain⟨c1,c2,c3⟩:=S.caps x (List.mem_of_getElem? e1')
   obtain⟨m,hn,hl⟩:=I.loc
   obtain⟨u,r,l⟩:=hl k x v e5 e4 (c1.elim (λz=>.inr (.inl z)) λz=>.inr (.inr z))
   refine⟨u,r,?_⟩
   rcases l with ⟨hk,_⟩|⟨_,c,hc,hcell⟩
   ·rcases c1 with z|z<;>(rw [hk] at z;cases z)
   ·obtain⟨c',hc'⟩:=Option.isSome_iff_exists.mp c2
    have ecc:c'=c:=Option.some.inj ((S.subc hc').symm.trans hc)
    subst ecc
    exact .inr ⟨c3,c',hc',cellK _ _ hcell⟩
 ·obtain⟨v,q⟩:=I.cell x c (S.subc h)
  exact⟨v,cellK c v q⟩
 ·obtain⟨e,n,ne,nf,d⟩:=I.pin p hp'
  exact⟨old _ _ (up _ _ e),n,ltC _ (Heap.lt_size e),stk _ ne nf,d⟩
 ·show(dO own.length κ σ).length=(own++caps).length
  have z:=congrArg List.length hκ
  rw [List.length_map,List.length_map] at z
  unfold dO
  rw [List.length_append,List.length_append,List.length_replicate,List.length_map,z]
theorem Inv.unblock{own caps:List Str}{sc:Scope}{cl:List (Str × Addr)}{fp:List Addr}{H':Hp}{s4:Shared}{σ':St}{pins':List (Addr × Obj)}{hp h':Heap}{ol:Obj}{ys:List V}{its:List Value}{cap:Nat}(I:Inv X pins σ H s)
  (f2:∀b∈fp,oY X pins H b) (ehp:hp=s.heap.push ol)
  (J:Inv (blk X (own++caps) sc cl { s with heap:=hp } H hp.objs.size (s.heap.objs.size::fp)) pins' σ' H' s4)
  (hD:s4.heap.get? s.heap.objs.size=some { cls:=.type "list",data:=.seq its.toArray cap }) (nD:H' s.heap.objs.size=none) (r:cr ys its) (hz:ys.length<=sizeLine) (sb:Heap.SameBut hp.objs.size s4.heap h') :
  Inv X pins σ (upd H' s.heap.objs.size (.lst ys)) { s4 with heap:=h' }:=by
 have hsz:hp.objs.size=s.heap.objs.size+1:=by rw [ehp,Heap.size_push]
 have up:∀b o,s.heap.get? b=some o->hp.get? b=some o:=λb o e=>by rw [ehp];exact Heap.get?_push_of_some _ e
 have nDs:H s.heap.objs.size=none:=I.hok.fresh (Nat.le_refl _)
 have neD:∀b o,s.heap.get? b=some o->b≠s.heap.objs.size:=λb o e=>Nat.ne_of_lt (Heap.lt_size e)
 have neC:∀b o,s.heap.get? b=some o->b≠hp.objs.size:=λb o e=>by rw [hsz];exact Nat.ne_of_lt (Nat.lt_succ_of_lt (Heap.lt_size e))
 have nex:∀b o,s.heap.get? b=some o->b∉fp->b∉s.heap.objs.size::fp:=λb o e hb z=>(List.mem_cons.mp z).elim (neD b o e) hb
 have u:=J.base
 have hDC:s.heap.objs.size≠hp.objs.size:=by rw [hsz];exact Nat.ne_of_lt (Nat.lt_succ_self _)
 have eD:h'.get? s.heap.objs.size=some { cls:=.type "list",data:=.seq its.toArray cap }:=(sb.2 _ hDC).trans hD
 refine I.call' (ch:=fp) J.os ⟨λb o e n hb hx=>?_,λb o e n hb hx=>?_,λb o e n hx=>?_,λb o e hx=>?_,λb xs e=>?_,λb o x e=>?_,λb ps e=>?_⟩ (λb o e=>?_) J.bare λb hb=>?_
 ·exact(sb.2 b (neC b o e)).trans (u.keep b o (up _ _ e) n hb (nex b o e hx))
 ·obtain⟨sl,q⟩:=u.slot b o (up _ _ e) n hb (nex b o e hx)
  exact⟨sl,(sb.2 b (neC b o e)).trans q⟩
 ·rw [ah (neD b o e)]
  exact u.free b o (up _ _ e) n (nex b o e hx)
 ·obtain⟨o',q⟩:=u.there b o (up _ _ e) (nex b o e hx)
  exact⟨o',(sb.2 b (neC b o e)).trans q⟩
 ·rw [ah (aw e nDs)]
  exact u.tups b xs e
 ·rw [ah (aw e nDs)]
  exact u.frzs b o x e
 ·rw [ah (aw e nDs)]
  exact u.tbls b ps e
 ·by_cases hb:b=s.heap.objs.size
  ·subst hb
   rw [aa] at e
   cases e
   exact⟨hz,its,cap,r,eD⟩
  ·rw [ah hb] at e
   have nC:∀c w,H' c=some w->c≠hp.objs.size:=λc w q=>aw q J.free
   refine(J.hok b o e).stay (λc v hc q=>(sb.2 c ?_).trans q) (λc q=>by rw [ah (aw q nD)];exact q) λc xs q=>by rw [ah (aw q nD)];exact q
   rcases hc with rfl|hc
   ·exact nC c o e
   ·exact nC c _ hc
 ·obtain⟨_,f1,_,f3,f4,f5⟩:=f2 b hb
  exact⟨f3,f1,f4,f5⟩
end
section
variable{X:Cx}
theorem ri{tg elt iter:Expr}{ifs:List Expr}{own caps:List Str}{κ:List Nat}{sc:Scope}{cl:List (Str × Addr)}{pos:Pos}{wi:TI}{g:TG}{tc:TT}{te:TE}(hcalm:X.calm=true)(S:jB X caps sc cl)(hκ:κ.map (λk=>X.N[k]?)=caps.map some)
  (hi:PI X tg iter wi) (hg:∀s₀ H₀ C ex,PG (blk X (own++caps) sc cl s₀ H₀ C ex) tg g)
  (hc:∀s₀ H₀ C ex (pins:List (Addr × Obj)) (s:Shared) (σ:St) (H:Hp) (Q:Bool->Hp->Prop),Inv (blk X (own++caps) sc cl s₀ H₀ C ex) pins σ H s->tc σ H Q ->
   wpAny (model X.prog X.w) X.A (forIn ifs true λc r=>if r=true then do let ok <-isTrue c (compEnvC sc cl C X.env) (eval c (compEnvC sc cl C X.env));pure (ForInStep.yield ok) else pure (ForInStep.yield r)) (TP (blk X (own++caps) sc cl s₀ H₀ C ex) pins σ Q) (λ_ _=>False) s)
  (he:∀s₀ H₀ C ex,PE (blk X (own++caps) sc cl s₀ H₀ C ex) elt te)
  (hs:∀x,foldedSetIterable iter X.env x=pure x:=by intro _;rfl):PE X (.ListComp elt [⟨tg,iter,ifs,0⟩] sc pos) (pA own.length κ wi g tc te):=by
 intro pins s σ H Q I h
 rw [eval_ListComp]
 refine wpAny_comprehension_free (use:=none) rfl hs S.clos S.kind S.names (thn (hi pins s σ H _ I h) λv s1 h1=>thn h1 λitv s2 h2=>?_)
 obtain⟨it,fp,tn,J,H2,e,I2,T,st2,f2,W,⟨m0,w0⟩,turn⟩:=h2
 subst e
 have hfp:∀b∈fp,b < s2.heap.objs.size:=λb hb=>by
  obtain⟨o,e,_⟩:=T.obj _ _ st2 b hb
  exact Heap.lt_size e
 refine wpAny_newObj_type (wpAny_newFunctionEnv S.nocell (λy hy=>nomatch hy) (λh₁ hns hsb=>?_) S.kind)
 generalize ehp:s2.heap.push { cls:=.type "list",dict:=none,data:=.seq ([]:List Value).toArray }=hp at hns hsb ⊢
 have hsz:hp.objs.size=s2.heap.objs.size+1:=by rw [<-ehp,Heap.size_push]
 have hDC:s2.heap.objs.size≠hp.objs.size:=by rw [hsz];exact Nat.ne_of_lt (Nat.lt_succ_self _)
 have old:∀b o,hp.get? b=some o->h₁.get? b=some o:=λb o e=>(hsb.2 b (Nat.ne_of_lt (Heap.lt_size e))).trans (Heap.get?_push_of_some _ e)
 have eD:h₁.get? s2.heap.objs.size=some { cls:=.type "list",data:=.seq ([]:List Value).toArray }:=old _ _ (by rw [<-ehp];exact Heap.get?_push_size _ rfl)
 have I0:=Inv.block (own:=own) (h₁:=h₁) (tk:=s2.toks+([]:List (Str × Value)).length) S hκ I2 f2 hfp ehp.symm hns old
 have stkD:s2.heap.objs.size∉frs X.stack:=λz=>(List.mem_cons.mp (I2.stkSub _ z)).elim (Nat.ne_of_gt I2.lt) (I2.nofs (Nat.le_refl _))
 have cellD:∀x c,cl.lookup x=some c->c≠s2.heap.objs.size:=λx c q=>by
  obtain⟨v,z⟩:=I2.cell x c (S.subc q)
  exact Nat.ne_of_lt z.lt
 have pinD:∀p∈X.pn++pins,p.1≠s2.heap.objs.size:=λp hp=>Nat.ne_of_lt (Heap.lt_size (I2.pin p hp).1)
 have stkF:∀b∈fp,b∉frs X.stack:=λb hb z=>(List.mem_cons.mp (I2.stkSub _ z)).elim (f2 b hb).2.1 (f2 b hb).2.2.1
 have loop:codeAny (model X.prog X.w) X.A (.compLoop (.ListComp elt [⟨tg,iter,ifs,0⟩] sc pos) 0 (.ref it) (.ref s2.heap.objs.size) (compEnvC sc cl hp.objs.size X.env))
   (compPost (model X.prog X.w) X.A X.xe none (EP X pins σ Q) (.ref s2.heap.objs.size) hp.objs.size) { s2 with heap:=h₁,toks:=s2.toks+([]:List (Str × Value)).length }:=by
  refine codeAny_loop rfl (λn s'=>∃(i:Nat) (ys:List V) (its:List Value) (cap:Nat) (H':Hp),Inv (blk X (own++caps) sc cl { s2 with heap:=hp } H2 hp.objs.size (s2.heap.objs.size::fp)) pins (dO own.length κ σ) H' s'/\tn i s'.heap/\(∀b∈fp,H' b=none) /\
   s'.heap.get? s2.heap.objs.size=some { cls:=.type "list",data:=.seq its.toArray cap }/\H' s2.heap.objs.size=none/\cr ys its/\ys.length<=sizeLine/\W i n ys H') (λn s3 hI=>?_) m0
   ⟨0,[],[],0,H2,I0,T.keep _ _ _ st2 λb hb o e=>old _ _ (by rw [<-ehp];exact Heap.get?_push_of_some _ e),λb hb=>(f2 b hb).1,eD,I2.hok.fresh (Nat.le_refl _),.nil,Nat.zero_le _,w0⟩
  obtain⟨i,ys,its,cap,H3,I3,st3,fr3,eD3,nD3,rv,hz,w3⟩:=hI
  show wpAny _ X.A ((compTurn (.ListComp elt [⟨tg,iter,ifs,0⟩] sc pos) 0 (.ref it) (.ref s2.heap.objs.size) (compEnvC sc cl hp.objs.size X.env)).onRaise λx=>do noteFrame x (compEnvC sc cl hp.objs.size X.env);theTreesLotGoes x) _ _ s3
  refine wpAny_noted ?_
  rw [compTurn_list]
  have I3':Inv (blk X (own++caps) sc cl { s2 with heap:=hp } H2 hp.objs.size (s2.heap.objs.size::fp)) (pins++[(s2.heap.objs.size,{ cls:=.type "list",data:=.seq its.toArray cap })]) (dO own.length κ σ) H3 s3:=by
   refine I3.pins_of λp hp=>(List.mem_append.mp hp).elim (λz=>I3.pin p (List.mem_append_right _ z)) λz=>?_
   obtain rfl:=List.mem_singleton.mp z
   exact⟨eD3,nD3,hDC,stkD,λv q=>by cases q⟩
  have fpk:∀{H':Hp},(∀b∈fp,H' b=none)->∀b∈fp,oY (blk X (own++caps) sc cl { s2 with heap:=hp } H2 hp.objs.size (s2.heap.objs.size::fp)) (pins++[(s2.heap.objs.size,{ cls:=.type "list",data:=.seq its.toArray cap })]) H' b:=λ{H'} hn b hb =>
   ⟨hn b hb,by show b≠hp.objs.size;rw [hsz];exact Nat.ne_of_lt (Nat.lt_succ_of_lt (hfp b hb)),stkF b hb,.inl (List.mem_cons_of_mem _ hb),λx c q=>(f2 b hb).2.2.2.2.1 x c (S.subc q),λp hp=>by
    rw [<-List.append_assoc] at hp
    rcases List.mem_append.mp hp with z|z
    ·exact(f2 b hb).2.2.2.2.2 p z
    ·obtain rfl:=List.mem_singleton.mp z
     exact Nat.ne_of_gt (hfp b hb)⟩
  rcases turn i n ys H3 w3 with ⟨stop,fin⟩|⟨go,hlt,step⟩
  ·refine wpAny_bind (wpAny_standAt (wpAny_bind (thn (T.done (blk X (own++caps) sc cl { s2 with heap:=hp } H2 hp.objs.size (s2.heap.objs.size::fp)) rfl rfl rfl hcalm i _ s3 _ H3 _ I3' (fpk fr3) st3 stop) λr s4 ⟨hr,I4⟩=>?_)))
   subst hr
   refine wpAny_pure ?_
   obtain⟨m,hm,_⟩:=I4.loc
   refine⟨m,hm,λh' sb=>?_⟩
   have eD4:=(I4.pin (s2.heap.objs.size,{ cls:=.type "list",data:=.seq its.toArray cap }) (List.mem_append_right _ (List.mem_append_right _ (List.mem_singleton.mpr rfl)))).1
   exact⟨.ref s2.heap.objs.size,_,Inv.unblock I2 f2 ehp.symm I4 eD4 nD3 rv hz sb,rfl,fin _ nD3⟩
  ·refine wpAny_bind (wpAny_standAt (wpAny_bind (thn (T.item (blk X (own++caps) sc cl { s2 with heap:=hp } H2 hp.objs.size (s2.heap.objs.size::fp)) rfl rfl rfl hcalm i _ s3 _ H3 _ I3' (fpk fr3) st3 go) λr s4 zz=>?_)))
   obtain⟨u,hr,h4⟩:=zz
   subst hr
   refine wpAny_bind (thn h4 λ_ s5 zz=>?_)
   obtain⟨x,H5,I5,r5,y5,st5,fr5⟩:=zz
   have I5':=I5.pinned (fpk fr5) (T.obj _ _ st5)
   refine wpAny_bind (wpAny_mono (hg _ _ _ _ _ s5 _ H5 x u _ I5' r5 (step x H5 y5)) (λ_ s6 ⟨σ6,H6,I6,eσ,q6⟩=>?_) λ_ _ z=>z.elim)
   refine wpAny_bind (wpAny_mono (hc _ _ _ _ _ s6 σ6 H6 _ I6 q6) (λok s7 ⟨H7,I7,q7⟩=>?_) λ_ _ z=>z.elim)
   have back:∀{s8:Shared} {H8:Hp},Inv (blk X (own++caps) sc cl { s2 with heap:=hp } H2 hp.objs.size (s2.heap.objs.size::fp)) ((pins++[(s2.heap.objs.size,{ cls:=.type "list",data:=.seq its.toArray cap })])++lD fp s5.heap) σ6 H8 s8 ->
     Inv (blk X (own++caps) sc cl { s2 with heap:=hp } H2 hp.objs.size (s2.heap.objs.size::fp)) pins (dO own.length κ σ) H8 s8/\tn (i+1) s8.heap/\(∀b∈fp,H8 b=none)/\s8.heap.get? s2.heap.objs.size=some { cls:=.type "list",data:=.seq its.toArray cap }/\H8 s2.heap.objs.size=none:=by
    intro s8 H8 I8
    have pk:∀b∈fp,∀o,s5.heap.get? b=some o->s8.heap.get? b=some o/\H8 b=none:=λb hb o e=>by
     have z:=I8.pin (b,o) (List.mem_append_right _ (List.mem_append_right _ (gI hb e)))
     exact⟨z.1,z.2.1⟩
    have zD:=I8.pin (s2.heap.objs.size,{ cls:=.type "list",data:=.seq its.toArray cap }) (List.mem_append_right _ (List.mem_append_left _ (List.mem_append_right _ (List.mem_singleton.mpr rfl))))
    refine⟨(I8.pins_of λp hp=>I8.pin p (List.mem_append_right _ (List.mem_append_left _ (List.mem_append_left _ hp)))).weak ?_ λj v e=>?_,T.keep _ _ _ st5 λb hb o e=>(pk b hb o e).1,λb hb=>?_,zD.1,zD.2.1⟩
    ·exact I3.len.trans I8.len.symm
    ·have hge:own.length<=j:=by
      refine Nat.le_of_not_lt λq=>?_
      unfold dO at e
      rw [List.getElem?_append_left (by rw [List.length_replicate];exact q),List.getElem?_replicate,if_pos q] at e
      cases e
     have z:=congrArg (λl=>l[j - own.length]?) eσ
     simp only [List.getElem?_drop] at z
     rw [show own.length+(j - own.length)=j by omega] at z
     rw [z]
     exact e
    ·obtain⟨o,e,_⟩:=T.obj _ _ st5 b hb
     exact(pk b hb o e).2
   cases ok with
   |false =>
    obtain⟨m',hm,w7⟩:=(if_neg Bool.false_ne_true)▸q7
    obtain⟨I8,st8,fr8,e8,n8⟩:=back I7
    exact wpAny_pure ⟨rfl,m',hm,i+1,ys,its,cap,H7,I8,st8,fr8,e8,n8,rv,hz,w7⟩
   |true =>
    have q7':=(if_pos rfl)▸q7
    refine wpAny_bind (wpAny_bind (wpAny_mono (he _ _ _ _ _ s7 σ6 H7 _ I7 q7') (λy s8 ⟨v8,H8,I8,r8,m',hm,w8⟩=>?_) λ_ _ z=>z.elim))
    obtain⟨I9,st9,fr9,e9,n9⟩:=back I8
    have hl:=rv.length
    refine wpAny_bind (wpAny_list_append_plain (items:=its.toArray) ⟨cap,e9⟩ (λh' hl' sb=>?_) (by rw [List.size_toArray,<-hl];exact hz))
    obtain⟨cap',e'⟩:=hl'
    refine wpAny_pure (wpAny_pure ⟨rfl,m',hm,i+1,ys++[v8],its++[y],cap',H8,?_,?_,fr9,?_,n9,cr.append rv (.cons r8 .nil),?_,w8⟩)
    ·exact I9.turned (t':=s8.toks) (λb o hb e=>(sb.2 b hb).trans e) n9 hDC (.inl List.mem_cons_self) cellD pinD
    ·exact T.keep _ _ _ st9 λb hb o e=>(sb.2 b (Nat.ne_of_lt (hfp b hb))).trans e
    ·rw [e']
     congr 3
     simp
    ·rw [List.length_append]
     exact hlt
 exact codeAny_compStart_list loop (T.self _ 0 _ _ _ (T.keep _ _ _ st2 λb hb o e=>old _ _ (by rw [<-ehp];exact Heap.get?_push_of_some _ e)) loop)
theorem fE{tg elt iter:Expr}{own caps:List Str}{κ:List Nat}{sc:Scope}{cl:List (Str × Addr)}{pos:Pos}{wi:TI}{g:TG}{te:TE}(hcalm:X.calm=true)(S:jB X caps sc cl)(hκ:κ.map (λk=>X.N[k]?)=caps.map some)
  (hi:PI X tg iter wi) (hg:∀s₀ H₀ C ex,PG (blk X (own++caps) sc cl s₀ H₀ C ex) tg g) (he:∀s₀ H₀ C ex,PE (blk X (own++caps) sc cl s₀ H₀ C ex) elt te)
  (hs:∀x,foldedSetIterable iter X.env x=pure x:=by intro _;rfl):PE X (.ListComp elt [⟨tg,iter,[],0⟩] sc pos) (pA own.length κ wi g Bf te) :=
 ri hcalm S hκ hi hg (λs₀ H₀ C ex pins s σ H Q I h=>wpAny_tests_nil ⟨H,I,h⟩) he hs
theorem iW{tg elt iter c:Expr}{own caps:List Str}{κ:List Nat}{sc:Scope}{cl:List (Str × Addr)}{pos:Pos}{wi:TI}{g:TG}{tc:TT}{te:TE}(hcalm:X.calm=true)(S:jB X caps sc cl)(hκ:κ.map (λk=>X.N[k]?)=caps.map some)
  (hi:PI X tg iter wi) (hg:∀s₀ H₀ C ex,PG (blk X (own++caps) sc cl s₀ H₀ C ex) tg g) (hc:∀s₀ H₀ C ex,PT (blk X (own++caps) sc cl s₀ H₀ C ex) c tc) (he:∀s₀ H₀ C ex,PE (blk X (own++caps) sc cl s₀ H₀ C ex) elt te)
  (hs:∀x,foldedSetIterable iter X.env x=pure x:=by intro _;rfl):PE X (.ListComp elt [⟨tg,iter,[c],0⟩] sc pos) (pA own.length κ wi g tc te) :=
 ri hcalm S hκ hi hg (λs₀ H₀ C ex pins s σ H Q I h=>wpAny_tests_one (hc s₀ H₀ C ex pins s σ H Q I h)) he hs
theorem yX:bootBuiltins "all"=some (.builtin "all"):=by decide +kernel
theorem yh:bootBuiltins "str"=some (.type "str"):=by decide +kernel
theorem eh:bootBuiltins "isinstance"=some (.builtin "isinstance"):=by decide +kernel
theorem rE:∀{bs:List Bool} {us:List Value},cr (bs.map V.bl) us->LSm.BoolsAre us bs
 |[],_,r=>by cases r;exact .nil
 |b::bs,_,r=>by
  cases r with
  |cons r1 r2 =>
   cases r1
   exact .cons b (rE r2)
theorem tJ(hc:X.calm=true):gU X (.builtin "all") (λxs H Q=>∃(p:Addr) (bs:List Bool),xs=[.ref p]/\SqL X.K H p (bs.map V.bl)/\Q (.bl (bs.all id)) H):=by
 intro pins s σ H xs us Q I r h
 obtain⟨p,bs,rfl,hq,q⟩:=h
 obtain⟨u,rfl,rx⟩:=kJ r
 cases rx
 obtain⟨its,rv,pl,hz⟩:=I.list hq
 have hb:=rE rv
 have hlt:p < s.heap.objs.size:=by obtain⟨_,e,_⟩:=pl.isList;exact Heap.lt_size e
 refine call_all_walk (wpAny_pyIter_list pl.isList ?_)
 refine⟨s.heap.objs.size,[s.heap.objs.size,p],[s.heap.objs.size],its.toArray.size,_,_,λi=>(bs[i]?).getD true,rfl,Walks.list (A:=X.A.in1) (I.ok.hd hc) _ p (Nat.ne_of_lt hlt) its.toArray,
  ⟨⟨_,Heap.get?_push_size _ rfl,rfl,rfl⟩,pl.isList.push _⟩,λi v s' Q' E' hP hQ=>?_,λh' tk hk=>?_⟩
 ·obtain⟨b,e,rfl⟩:=hb.get i v (by simpa using hP)
  have hQ':Q' ((bs[i]?).getD true) s':=hQ
  rw [e] at hQ'
  exact wpAny_truthy_bool hQ'
 ·have e:((List.range its.toArray.size).all λi=>(bs[i]?).getD true)=bs.all id:=by
   rw [List.size_toArray,hb.length]
   exact LSm.range_all bs
  rw [e]
  exact⟨.bl (bs.all id),H,I.kept (LSm.kept_iter hk),rfl,q⟩
theorem hV{J:It}{xs:List V}{n:Nat}{κ:List Nat}{g:TG}{tc:TT}{te:TE}{σ:St}{H:Hp}{Q:VK}(Pv:Nat->List V->Hp->Prop)(h0:Pv 0 [] H)(hz:xs.length<=sizeLine)(hlen:∀i ys H2,Pv i ys H2->ys.length<=i)
  (hgo:∀i x ys H2,xs[i]?=some x->Pv i ys H2->J.go i H2) (hyl:∀i ys x H2 H',i < xs.length->Pv i ys H2->J.yld i H2 x H'->H'=H2/\xs[i]?=some x) (hst:∀ys H2,Pv xs.length ys H2->J.stop xs.length H2)
  (hs:∀i x ys H2 (N:List V->Hp->Prop),(∀ys' H',Pv (i+1) ys' H'->N ys' H')->xs[i]?=some x->Pv i ys H2->g x (dO n κ σ) H2 λσ4 H4=>σ4.drop n=(dO n κ σ).drop n/\tc σ4 H4 λb H5=>if b=true then te σ4 H5 λv H6=>N (ys++[v]) H6 else N ys H5)
  (hQ:∀ys H2 D,Pv xs.length ys H2->H2 D=none->Q (.ref D) (upd H2 D (.lst ys))) :
  gT n κ g tc te σ J H Q:=by
 refine⟨λi m ys H2=>m=xs.length - i/\i<=xs.length/\Pv i ys H2,⟨xs.length,rfl,Nat.zero_le _,h0⟩,?_⟩
 rintro i m ys H2 ⟨rfl,hi,p⟩
 by_cases hlt:i < xs.length
 ·have e:xs[i]?=some xs[i]:=List.getElem?_eq_getElem hlt
  refine .inr ⟨hgo i _ ys H2 e p,Nat.lt_of_le_of_lt (hlen i ys H2 p) (Nat.lt_of_lt_of_le hlt hz),λx H3 y=>?_⟩
  obtain⟨rfl,ex⟩:=hyl i ys x H2 H3 hlt p y
  exact hs i x ys _ (λys' H'=>∃m',m' < xs.length - i/\m'=xs.length - (i+1)/\i+1<=xs.length/\Pv (i+1) ys' H') (λys' H' p'=>⟨xs.length - (i+1),by omega,rfl,hlt,p'⟩) ex p
 ·obtain rfl:i=xs.length:=by omega
  exact .inl ⟨hst ys H2 p,λD hD=>hQ ys H2 D p hD⟩
def jq(lo:Int)(n:Nat):List V:=(List.range n).map λi=>V.int (lo+(i:Nat))
theorem dJ(lo:Int)(n:Nat):(jq lo n).length=n:=by simp [jq]
theorem gx{lo:Int}{n i:Nat}{x:V}:(jq lo n)[i]?=some x↔i < n/\x=.int (lo+i):=by
 unfold jq
 rw [List.getElem?_map]
 by_cases h:i < n
 ·rw [List.getElem?_range h]
  simp [h,eq_comm]
 ·rw [List.getElem?_eq_none (by simp;omega)]
  simp [h]
theorem xC{lo:Int}{n:Nat}{H:Hp}{i:Nat}{x:V}(h:(jq lo n)[i]?=some x):(Itr lo n).go i H:=(gx.mp h).1
theorem qt{lo:Int}{n:Nat}{H H':Hp}{i:Nat}{x:V}(hi:i < n)(h:(Itr lo n).yld i H x H'):H'=H/\(jq lo n)[i]?=some x:=⟨h.1,gx.mpr ⟨hi,h.2⟩⟩
end
mutual
inductive Dat (K:W.Frag) (H:Hp):V->PyData->Prop
 |non:Dat K H .non .none
 |bl (b:Bool):Dat K H (.bl b) (.bool b)
 |int (i:Int):Dat K H (.int i) (.int i)
 |str (x:Str):Dat K H (.str x) (.str x)
 |tup {a:Addr} {xs:List V} {ds:List PyData}:SqT K H a xs->kB K H xs ds->Dat K H (.ref a) (.tuple ds)
 |lst {a:Addr} {xs:List V} {ds:List PyData}:SqL K H a xs->kB K H xs ds->Dat K H (.ref a) (.list ds)
inductive kB (K:W.Frag) (H:Hp):List V->List PyData->Prop
 |nil:kB K H [] []
 |cons {x:V} {d:PyData} {xs:List V} {ds:List PyData}:Dat K H x d->kB K H xs ds->kB K H (x::xs) (d::ds)
end
theorem ao.tup{K:W.Frag}{H H':Hp}{a:Addr}{xs:List V}(e:ao H H')(h:SqT K H a xs):SqT K H' a xs:=by
 rcases h with (h|⟨o,h⟩)|h
 ·exact .inl (.inl (e _ _ h))
 ·exact .inl (.inr ⟨o,e _ _ h⟩)
 ·exact .inr h
mutual
theorem Dat.same{K:W.Frag}{H H':Hp}(e:ao H H'):∀{x:V} {d:PyData},Dat K H x d->Dat K H' x d
 |_,_,.non=>.non
 |_,_,.bl b=>.bl b
 |_,_,.int i=>.int i
 |_,_,.str x=>.str x
 |_,_,.tup h r=>.tup (e.tup h) (kB.same e r)
 |_,_,.lst h r=>.lst (e.seq h) (kB.same e r)
theorem kB.same{K:W.Frag}{H H':Hp}(e:ao H H'):∀{xs:List V} {ds:List PyData},kB K H xs ds->kB K H' xs ds
 |_,_,.nil=>.nil
 |_,_,.cons h r=>.cons (Dat.same e h) (kB.same e r)
end
section
variable{X:Cx}{pins:List (Addr × Obj)}{σ:St}{H:Hp}{s:Shared}
mutual
theorem Dat.reads(I:Inv X pins σ H s):∀{x:V} {d:PyData} {v:Value},Dat X.K H x d->cy x v->∃as,Reads s.heap v d as
 |_,_,_,.non,r=>by cases r;exact⟨_,.none⟩
 |_,_,_,.bl b,r=>by cases r;exact⟨_,.bool b⟩
 |_,_,_,.int i,r=>by obtain⟨t,rfl⟩:=r;exact⟨_,.int i t⟩
 |_,_,_,.str x,r=>by obtain⟨t,rfl⟩:=r;exact⟨_,.str x t⟩
 |_,_,_,.tup hq ds,r=>by
  cases r
  obtain⟨its,rv,p,_⟩:=I.tuple hq
  obtain⟨as,q⟩:=kB.reads I ds rv
  obtain⟨o,e,c,n,dt⟩:=p
  exact⟨as,.tuple e c dt (by simpa using q)⟩
 |_,_,_,.lst hq ds,r=>by
  cases r
  obtain⟨its,rv,p,_⟩:=I.list hq
  obtain⟨as,q⟩:=kB.reads I ds rv
  obtain⟨o,n,e,c,_,dt⟩:=p
  exact⟨_,.list e c dt (by simpa using q)⟩
theorem kB.reads(I:Inv X pins σ H s):∀{xs:List V} {ds:List PyData} {vs:List Value},kB X.K H xs ds->cr xs vs->∃as,ReadsAll s.heap vs ds as
 |_,_,_,.nil,r=>by cases r;exact⟨_,.nil⟩
 |_,_,_,.cons h t,r=>by
  cases r with
  |cons r1 r2 =>
   obtain⟨as,q⟩:=Dat.reads I h r1
   obtain⟨bs,q2⟩:=kB.reads I t r2
   exact⟨_,.cons q q2⟩
end
end
section
variable{X:Cx}
def Ba(K:W.Frag)(neg:Bool):R2:=λx y H Q=>∃dx dy,Dat K H x dx/\Dat K H y dy/\SeqAt.shaped dx=true/\SeqAt.shaped dy=true/\Q (.bl (if neg then !PyData.eqv dx dy else PyData.eqv dx dy)) H
theorem xS(hu:X.A.units+64 < cLine):OpR X (compareOp .Eq) (Ba X.K false):=by
 intro pins s σ H x y v u Q I rx ry h
 obtain⟨dx,dy,hx,hy,sx,sy,q⟩:=h
 obtain⟨as,ra⟩:=Dat.reads I hx rx
 obtain⟨bs,rb⟩:=Dat.reads I hy ry
 exact eq_dataH ra rb sx sy hu ⟨.bl _,H,I,rfl,q⟩
theorem AL(hu:X.A.units+64 < cLine):OpR X (compareOp .NotEq) (Ba X.K true):=by
 intro pins s σ H x y v u Q I rx ry h
 obtain⟨dx,dy,hx,hy,sx,sy,q⟩:=h
 obtain⟨as,ra⟩:=Dat.reads I hx rx
 obtain⟨bs,rb⟩:=Dat.reads I hy ry
 exact ne_dataH ra rb sx sy hu ⟨.bl _,H,I,rfl,q⟩
open Classical in
end
def qj(h:Heap)(d:Addr)(es:Array DictEntry)(ep:Nat):Prop:=∃o,h.get? d=some o/\o.ExactDict/\o.data=.dict es ep
theorem qj.at{h h':Heap}{d:Addr}{es:Array DictEntry}{ep:Nat}(x:qj h d es ep)(k:∀o,h.get? d=some o->h'.get? d=some o):qj h' d es ep:=let ⟨o,e,r⟩:=x;⟨o,k _ e,r⟩
theorem qj.lt{h:Heap}{d:Addr}{es:Array DictEntry}{ep:Nat}(x:qj h d es ep):d < h.objs.size:=let ⟨_,e,_⟩:=x;Heap.lt_size e
section
variable{prog:Program}{w:World}{A:Around}{E:Value->Shared->Prop}{s:Shared}
theorem qk{d:Addr}{es:Array DictEntry}{ep:Nat}{Q:Value->Shared->Prop}(hd:(d==sysModules)=false)(hm:qj s.heap d es ep)
  (hQ:Q (.ref s.heap.objs.size) { s with heap:=s.heap.push { cls:=.type "dict_keyiterator",data:=.fields #[.ref d,.int 0 0,.int es.size 0,.int ep 0] } }):wpAny (model prog w) A (pyIter (.ref d)) Q E s:=by
 obtain⟨o,ho,hx,hdat⟩:=hm
 have tyD:s.TypeIs (.ref d) "dict":=⟨o,ho,hx.1⟩
 refine wpAny_pyIter_slot tyD F.slot_dict_iter (wpAny_call_entry F.slot_dict_iter tyD F.entry_dict_iter ?_ (F.args_dict_iter_1 _))
 unfold Builtin.«dict.__iter__» Builtin.Dict.dictSlotNone
 refine wpAny_bind (wpAny_bind (wpAny_notOrdered_dict tyD ?_))
 refine wpAny_pure (show wpAny _ _ (Builtin.Dict.showsAll d >>= _) _ _ s from ?_)
 unfold Builtin.Dict.showsAll
 rw [if_neg (λz=>Bool.false_ne_true (hd.symm.trans z))]
 refine wpAny_bind (wpAny_pure (wpAny_bind (wpAny_dictEntries ho hdat (wpAny_bind (wpAny_dictEpoch ho hdat ?_)))))
 exact wpAny_bind (wpAny_newObj_type (wpAny_pure ⟨_,rfl,"dict_keyiterator",_,⟨_,Heap.get?_push_size _ rfl,rfl⟩,F.slot_dict_keyiterator_next.lookup,hQ⟩))
theorem qp{it d:Addr}{i ep:Nat}{es:Array DictEntry}{Q:Option Value->Shared->Prop}(hit:s.heap.IsKeyIter it d i es.size ep)(hm:qj s.heap d es ep)(hi:i < es.size)
  (hQ:∀h',h'.IsKeyIter it d (i+1) es.size ep->Heap.SameBut it s.heap h'->Q (some es[i].key) { s with heap:=h' }):wpAny (model prog w) A (pyNext (.ref it)) Q E s:=by
 have tyI:=hit.typeIs
 obtain⟨oi,hoi,hci,hdi⟩:=id hit
 obtain⟨od,hod,_,hdd⟩:=hm
 unfold pyNext
 refine wpAny_bind (wpAny_attempt (wpAny_callSpecial?_slot (name:=Str.ofString "__next__") tyI F.slot_dict_keyiterator_next (wpAny_call_entry F.slot_dict_keyiterator_next tyI F.entry_dict_keyiterator_next ?_ (F.args_dict_keyiterator_next_1 _))))
 refine wpAny_bind (wpAny_pure (wpAny_bind (wpAny_bind ?_)))
 first|refine wpAny_bind (wpAny_typeNameOfWhole_keyiter tyI (wpAny_pure ?_))|refine wpAny_bind (wpAny_typeNameOf_keyiter tyI (wpAny_pure ?_))
 refine wpAny_bind (wpAny_fieldsOf hoi hdi ?_)
 simp only [show Builtin.Dict_items.ownsTuple "dict_keyiterator"=false from by decide,Bool.false_eq_true,if_false]
 show wpAny _ _ (if (Value.ref d==.none)=true then _ else _) _ _ s
 have ne0:¬((Value.ref d==Value.none)=true):=λz=>Bool.false_ne_true z
 rw [if_neg ne0]
 refine wpAny_bind (wpAny_pure (wpAny_bind (wpAny_dictEntries hod hdd ?_)))
 rw [if_neg (by simp)]
 refine wpAny_bind (wpAny_pure (wpAny_bind (wpAny_dictEpoch hod hdd ?_)))
 rw [if_neg (by simp)]
 refine wpAny_pure ?_
 simp only [show ¬((i:Int) < 0) from Int.not_lt.mpr (Int.natCast_nonneg i),if_false,Int.toNat_natCast,Array.getElem?_eq_getElem hi]
 refine wpAny_bind ?_
 first|refine wpAny_bind (wpAny_typeNameOfWhole_keyiter tyI (wpAny_pure ?_))|refine wpAny_bind (wpAny_typeNameOf_keyiter tyI (wpAny_pure ?_))
 refine wpAny_bind (wpAny_isOneOf_keyiter tyI ?_)
 refine(show wpAny _ _ (setField (.ref it) 1 (rawInt ((i:Int)+1)) >>= _) _ _ s from wpAny_bind (wpAny_setField hoi hdi (by simp) ?_))
 have new:(s.heap.update it (Obj.mapFields (·.setIfInBounds 1 (rawInt ((i:Int)+1))))).IsKeyIter it d (i+1) es.size ep :=
  ⟨_,Heap.get?_update_self _ hoi (Obj.isFreed_of_fields (Obj.data_mapFields hdi _)),(Obj.cls_mapFields ..).trans hci,by rw [Obj.data_mapFields hdi];simp [rawInt]⟩
 refine wpAny_bind (wpAny_holding (wpAny_bind (wpAny_isOneOf_keyiter (s:={ s with heap:=s.heap.update it (Obj.mapFields (·.setIfInBounds 1 (rawInt ((i:Int)+1)))) }) new.typeIs ?_)))
 exact(show wpAny _ _ (pure es[i].key) _ _ _ from wpAny_pure (wpAny_pure ⟨_,rfl,wpAny_pure (hQ _ new (Heap.SameBut.update ..))⟩))
theorem vh{it d:Addr}{i ep:Nat}{es:Array DictEntry}{Q:Option Value->Shared->Prop}(hh:A.handled=none)(hit:s.heap.IsKeyIter it d i es.size ep)(hm:qj s.heap d es ep)(hi:es.size<=i)
  (hF:∀h',Heap.ExtBut it s.heap h'->Q none { s with heap:=h' }):wpAny (model prog w) A (pyNext (.ref it)) Q E s:=by
 have tyI:=hit.typeIs
 obtain⟨oi,hoi,hci,hdi⟩:=id hit
 obtain⟨od,hod,_,hdd⟩:=hm
 unfold pyNext
 refine wpAny_bind (wpAny_attempt (wpAny_callSpecial?_slot (name:=Str.ofString "__next__") tyI F.slot_dict_keyiterator_next (wpAny_call_entry F.slot_dict_keyiterator_next tyI F.entry_dict_keyiterator_next ?_ (F.args_dict_keyiterator_next_1 _))))
 refine wpAny_bind (wpAny_pure (wpAny_bind (wpAny_bind ?_)))
 first|refine wpAny_bind (wpAny_typeNameOfWhole_keyiter tyI (wpAny_pure ?_))|refine wpAny_bind (wpAny_typeNameOf_keyiter tyI (wpAny_pure ?_))
 refine wpAny_bind (wpAny_fieldsOf hoi hdi ?_)
 simp only [show Builtin.Dict_items.ownsTuple "dict_keyiterator"=false from by decide,Bool.false_eq_true,if_false]
 show wpAny _ _ (if (Value.ref d==.none)=true then _ else _) _ _ s
 have ne0:¬((Value.ref d==Value.none)=true):=λz=>Bool.false_ne_true z
 rw [if_neg ne0]
 refine wpAny_bind (wpAny_pure (wpAny_bind (wpAny_dictEntries hod hdd ?_)))
 rw [if_neg (by simp)]
 refine wpAny_bind (wpAny_pure (wpAny_bind (wpAny_dictEpoch hod hdd ?_)))
 rw [if_neg (by simp)]
 refine wpAny_pure ?_
 simp only [show ¬((i:Int) < 0) from Int.not_lt.mpr (Int.natCast_nonneg i),if_false,Int.toNat_natCast,Array.getElem?_eq_none hi]
 refine wpAny_bind ?_
 first|refine wpAny_bind (wpAny_typeNameOfWhole_keyiter tyI (wpAny_pure ?_))|refine wpAny_bind (wpAny_typeNameOf_keyiter tyI (wpAny_pure ?_))
 refine(show wpAny _ _ (setField (.ref it) 0 .none >>= _) _ _ s from wpAny_bind (wpAny_setField hoi hdi (by simp) ?_))
 refine(show wpAny _ _ (newExc (.type "StopIteration") [] >>= _) _ _ _ from wpAny_bind ?_)
 simp only [newExc,newTuple]
 refine wpAny_bind (wpAny_newObj_type (dict:=none) ?_ (by size_fits))
 refine wpAny_bind (m:=firstArgMember _ _) (wpAny_of_eq (a:=Value.none) (by first|rfl|(simp only [firstArgMember];rfl)) (wpAny_newObj_type ?_ (by size_fits)))
 simp only [raiseNew]
 refine wpAny_bind (m:=_) (wpAny_handled ?_)
 rw [(show A.in1.handled=none from hh)]
 refine wpAny_bind (wpAny_pure (wpAny_throw (wpAny_bind ?_)))
 refine wpAny_isInstance (b:=true) (T:="StopIteration") ⟨_,Heap.get?_push_size _ rfl,rfl⟩ isSubtype_stop ?_
 exact wpAny_pure (hF _ (((Heap.SameBut.update ..).extBut.push _).push _))
theorem Walks.raw(hh:A.handled=none)(I d:Addr)(hne:d≠I)(es:Array DictEntry)(ep:Nat) :
  Walks prog w A I [I,d] [I] es.size (λi v=>∃e,es[i]?=some e/\v=e.key) (λi h=>h.IsKeyIter I d i es.size ep/\qj h d es ep) where
 sub:=λb hb=>List.mem_cons.mpr (.inl (List.mem_singleton.mp hb))
 frame:=λ_ _ _ st hk=>⟨st.1.at λo e=>hk I List.mem_cons_self o e,st.2.at λo e=>hk d (List.mem_cons_of_mem _ List.mem_cons_self) o e⟩
 item:=λi s Q E hi st hQ=>qp st.1 st.2 hi λh' new sb=>hQ _ h' s.toks ⟨es[i],Array.getElem?_eq_getElem hi,rfl⟩ ⟨new,st.2.at λo e=>sb.extBut d o hne e⟩ λb o hb e=>sb.extBut b o (λz=>hb (List.mem_singleton.mpr z)) e
 done:=λs Q E st hQ=>vh hh st.1 st.2 (Nat.le_refl _) λh' eb=>hQ h' s.toks λb o hb e=>eb b o (λz=>hb (List.mem_singleton.mpr z)) e
 self:=λ_ _ _ _ st q=>wpAny_pyIter_keyiter st.1 q
theorem uv{d:Addr}{es:Array DictEntry}{ep:Nat}(lo:(d==sysModules)=false):W.KdlSrc prog w "dict" d d es.size (λi v=>∃e,es[i]?=some e/\v=e.key) (λh=>qj h d es ep) where
 type:=λ_ hm=>let ⟨o,e,x,_⟩:=hm;⟨o,e,x.1⟩
 there:=λ_ hm=>⟨hm.lt,hm.lt⟩
 keep:=λ_ _ hm hk=>hm.at λo e=>hk d (.inl rfl) o e
 notList:=by decide
 notTuple:=by decide
 hint:=λ_ _ _ _ hm hq=>W.kdl_hint_dict (let ⟨o,e,x,_⟩:=hm;⟨o,e,x.1⟩) hq
 iter:=λ_ _ hh hm=>⟨_,_,(λ_ _ hq=>qk lo hm hq),Walks.raw hh _ d (Nat.ne_of_lt hm.lt) es ep,⟨⟨_,Heap.get?_push_size _ rfl,rfl,rfl⟩,hm.at λo e=>Heap.get?_push_of_some _ e⟩⟩
end
section
variable{X:Cx}
theorem og(hc:X.calm=true):gU X (.type "list") (λxs H Q=>∃a kvs,xs=[.ref a]/\H a=some (.dT kvs) /\
  ∀(ks:List Addr) l,H l=none->Paired (fun(p:List Key × V) (k:Addr)=>H k=some (.tup (p.1.map kV))) kvs ks->Q (.ref l) (upd H l (.lst (ks.map V.ref)))):=by
 intro pins s σ H xs us Q I r h
 obtain⟨a,kvs,rfl,ha,q⟩:=h
 obtain⟨u,rfl,ru⟩:=kJ r
 cases ru
 obtain⟨z,hd,ys,rel,o,es,ep,e,ex,dt,eqs,_⟩:=I.hok a _ ha
 have hlen:es.size=ys.length:=by
  have:=congrArg List.length eqs
  rw [List.length_map] at this
  simpa using this
 have hl2:kvs.length=ys.length:=Paired.length rel
 refine W.kdl_call (uv hd) (I.ok.hd hc) ⟨o,e,ex,dt⟩ (by rw [hlen,<-hl2];exact z) λh' tk acc' c' hk hD hacc=>?_
 have eacc:acc'.toList=ys.map λy=>Value.ref y.2.1:=by
  apply List.ext_getElem?
  intro j
  rw [List.getElem?_map]
  by_cases hj:j < ys.length
  ·have hj2:j < acc'.size:=by rw [hacc.1,hlen];exact hj
   obtain⟨en,hen,hv⟩:=hacc.2 j acc'[j] (Array.getElem?_eq_getElem hj2)
   have e1:es.toList[j]?=some en:=by rw [<-hen];simp
   rw [eqs,List.getElem?_map,List.getElem?_eq_getElem hj] at e1
   have e2:=Option.some.inj e1
   rw [show acc'.toList[j]?=some acc'[j] by simp [hj2],hv,<-e2,List.getElem?_eq_getElem hj]
   rfl
  ·rw [List.getElem?_eq_none (by rw [Array.length_toList,hacc.1,hlen];omega),List.getElem?_eq_none (by omega)]
   rfl
 have rk:∀{kvs:List (List Key × V)} {ys:List (List Key × Addr × Value)},Paired (fun(p:List Key × V) (q:List Key × Addr × Value)=>p.1=q.1/\H q.2.1=some (.tup (p.1.map kV))/\cy p.2 q.2.2) kvs ys ->
   Paired (fun(p:List Key × V) (k:Addr)=>H k=some (.tup (p.1.map kV))) kvs (ys.map λy=>y.2.1):=λ{kvs ys} p=>by
  induction p with
  |nil=>exact .nil
  |cons h _ ih=>exact .cons h.2.1 ih
 have vr:∀ks:List Addr,cr (ks.map V.ref) (ks.map Value.ref):=λks=>by
  induction ks with
  |nil=>exact .nil
  |cons k ks ih=>exact .cons rfl ih
 refine⟨.ref s.heap.objs.size,_,I.laid (o:=.lst ((ys.map λy=>y.2.1).map V.ref)) hk (Nat.le_refl _) ?_,rfl,q _ _ (I.hok.fresh (Nat.le_refl _)) (rk rel)⟩
 refine⟨by rw [List.length_map,List.length_map,<-hl2];exact z,_,c',vr _,?_⟩
 rw [hD,show acc'=((ys.map λy=>y.2.1).map Value.ref).toArray from by rw [List.map_map,<-Array.toArray_toList (xs:=acc'),eacc];rfl]
end
end L2
namespace Kk
open PySem L2
set_option genInjectivity true in
inductive Kd where
 |num (n:Int)
 |name (q t:Str)
 |pair (a b:Kd)
 deriving DecidableEq
def Kd.words:Kd->Nat
 |.num _=>1
 |.name _ _=>1
 |.pair a b=>1+a.words+b.words
def Kd.leaves:Kd->List Kd
 |.num n=>[.num n]
 |.name q t=>[.name q t]
 |.pair a b=>a.leaves++b.leaves
def Kd.leaf:Kd->Bool
 |.pair _ _=>false
 |_=>true
theorem cz:∀k:Kd,k.words+1=2*k.leaves.length
 |.num _=>rfl
 |.name _ _=>rfl
 |.pair a b=>by
  have h1:=cz a
  have h2:=cz b
  show 1+a.words+b.words+1=2*(a.leaves++b.leaves).length
  rw [List.length_append]
  omega
theorem gG:∀k:Kd,0 < k.leaves.length
 |.num _=>Nat.zero_lt_one
 |.name _ _=>Nat.zero_lt_one
 |.pair a b=>by
  have h1:=gG a
  show 0 < (a.leaves++b.leaves).length
  rw [List.length_append]
  omega
theorem fG{k:Kd}(h:k.leaf=true):k.leaves=[k]:=by
 cases k with
 |num _=>rfl
 |name _ _=>rfl
 |pair _ _=>cases h
inductive bK (K:W.Frag) (H:Hp):V->Kd->Prop
 |num {a:Addr} {n:Int}:SqT K H a [.str "num",.int n]->bK K H (.ref a) (.num n)
 |name {a:Addr} {q t:Str}:SqT K H a [.str "name",.str q,.str t]->bK K H (.ref a) (.name q t)
 |pair {a:Addr} {x y:V} {k l:Kd}:SqT K H a [.str "pair",x,y]->bK K H x k->bK K H y l->bK K H (.ref a) (.pair k l)
theorem bK.same{K:W.Frag}{H H':Hp}(e:ao H H'):∀{x:V} {k:Kd},bK K H x k->bK K H' x k
 |_,_,.num h=>.num (e.tup h)
 |_,_,.name h=>.name (e.tup h)
 |_,_,.pair h a b=>.pair (e.tup h) (a.same e) (b.same e)
inductive bU (K:W.Frag) (H:Hp):List V->List Kd->Prop
 |nil:bU K H [] []
 |cons {x:V} {k:Kd} {xs:List V} {ks:List Kd}:bK K H x k->bU K H xs ks->bU K H (x::xs) (k::ks)
theorem bU.same{K:W.Frag}{H H':Hp}(e:ao H H'):∀{xs:List V} {ks:List Kd},bU K H xs ks->bU K H' xs ks
 |_,_,.nil=>.nil
 |_,_,.cons a b=>.cons (a.same e) (b.same e)
theorem bU.length{K:W.Frag}{H:Hp}:∀{xs:List V} {ks:List Kd},bU K H xs ks->xs.length=ks.length
 |_,_,.nil=>rfl
 |_,_,.cons _ b=>congrArg (·+1) b.length
theorem bU.append{K:W.Frag}{H:Hp}:∀{xs ys:List V} {ks ls:List Kd},bU K H xs ks->bU K H ys ls->bU K H (xs++ys) (ks++ls)
 |_,_,_,_,.nil,h=>h
 |_,_,_,_,.cons a b,h=>.cons a (b.append h)
theorem bU.get{K:W.Frag}{H:Hp}:∀{xs:List V} {ks:List Kd} {i:Nat} {x:V},bU K H xs ks->xs[i]?=some x->∃k,ks[i]?=some k/\bK K H x k
 |_,_,_,_,.nil,e=>by simp at e
 |_,_,0,_,.cons a _,e=>by
  obtain rfl:=Option.some.inj e
  exact⟨_,rfl,a⟩
 |_,_,i+1,x,.cons _ b,e=>bU.get (i:=i) b e
end Kk
namespace L2
open PySem PySem.Spec PyProof.Rows
section
variable{α β:Type}{P:Shared->Prop}
variable{x:Addr}{d:Option Addr}
end
section
variable{P:Program}{w:World}
structure Fly(P:Program)(w:World)(outer:List Env)(H:Hp)(s:Shared)(x:Addr)(cls:Value)(H':Hp)(s':Shared):Prop where
 os:s'.os=s.os
 bare:AllBare s'.gens
 un:Un (frs outer) [] H H' s.heap s'.heap
 hok:HOk P w H' s'.heap
 fl:∃B a0,Heap.FlyingW B outer x cls a0 s'.heap/\(∀b o,H' b=some o->∃u,B.get? b=some u)/\∀b o,s.heap.get? b=some o->b∉frs outer->∃u,B.get? b=some u
 free:H' x=none
end
section
variable{X:Cx}{pins:List (Addr × Obj)}{σ:St}{H H':Hp}{s s':Shared}{x:Addr}{cls:Value}{E:Value->Shared->Prop}{Q:Unit->Shared->Prop}
end
section
variable{P:Program}{w:World}{K:W.Frag}{mg:Str->Option Value}{base:Heap}{N:List Str}{qual:Str}{scope:Scope}{f:Addr}{cd:Value}{A:Around}{outer:List Env}{s:Shared}{H:Hp}{E:XK}
end
abbrev Cg:List Value:=[.type "ValueError",.type "Exception",.type "BaseException",.type "object"]
section
variable{P:Program}{w:World}{K:W.Frag}{mg:Str->Option Value}{base:Heap}
end
section
variable{X:Cx}{pins:List (Addr × Obj)}{σ:St}{H H':Hp}{s s':Shared}{x:Addr}{cls:Value}
end
abbrev Cx.inE(X:Cx)(e:Addr):Cx:={ X with A:=X.A.mark (some (.ref e)),calm:=false }
section
variable{X:Cx}{pins:List (Addr × Obj)}{σ:St}{H:Hp}{s:Shared}
end
def CK(X:Cx)(hs:List ExceptHandler)(pins:List (Addr × Obj))(D:gZ):Value->Shared->Prop:=λe s1 =>
 wpAny (model X.prog X.w) X.A (noteFrame e X.env) (λ_ s2=>wpAny (model X.prog X.w) X.A (setFlight e none) (λ_ s3=>wpAny (model X.prog X.w) X.A (handleBy e X.env hs) (SP X pins D) X.xe s3) X.xe s2) X.xe s1
abbrev Cx.tryIn(X:Cx)(hs:List ExceptHandler)(pins:List (Addr × Obj))(D:gZ):Cx:={ X with pn:=X.pn++pins,xe:=CK X hs pins D }
section
variable{X:Cx}{hs:List ExceptHandler}{pins pins':List (Addr × Obj)}{D D':gZ}{σ:St}{H:Hp}{s:Shared}
end
section
variable{X:Cx}{CX:CXT}{k:Nat}{f C:Addr}{fd:FuncData}{ps:List Str}{sp:Sp}{dvs:List V}{ds:List Value}{E:St->XK}{x m:Str}{p pos apos:Pos}{e o:Expr}{es:List Expr}{ta:TE}{t:TA}
end
section
variable{X:Cx}{pos:Pos}{e:Expr}{es:List Expr}{te:TE}
end
section
variable{prog:Program}{w:World}{A:Around}{s:Shared}{E:Value->Shared->Prop}{K:Type}[DecidableEq K]{knd:KeyKind prog w K}
end
section
variable{X:Cx}
theorem d5:gU X (.type "dict") (λxs H Q=>∃a kvs,xs=[.ref a]/\H a=some (.dK kvs)/\∀l,H l=none->Q (.ref l) (upd H l (.dK kvs))):=by
 intro pins s σ H xs us Q I r h
 obtain⟨a,kvs,rfl,ha,q⟩:=h
 obtain⟨u,rfl,ru⟩:=kJ r
 cases ru
 obtain⟨z,hd,vs,rel,dd⟩:=kG I.hok ha
 refine PySem.kt_call_dict hd dd (by rw [<-rel.length];exact z) λh' dd' hs=>?_
 have keep:∀b o,s.heap.get? b=some o->h'.get? b=some o:=λb o e=>(hs.2 b (Nat.ne_of_lt (Heap.lt_size e))).trans (Heap.get?_push_of_some _ e)
 refine⟨.ref s.heap.objs.size,_,I.laid (o:=.dK kvs) (t':=s.toks) keep (Nat.le_refl _) ⟨z,beq_eq_false_iff_ne.mpr (Ne.symm (Nat.ne_of_lt I.big)),vs,rel,dd'⟩,rfl,q _ (I.hok.fresh (Nat.le_refl _))⟩
end
structure Ce(K:W.Frag)(D:Addr):Prop where
 is:(match K.lookup D with|some ⟨_,_,.cls _,_⟩=>true|_=>false)=true
 ga:W.findIn K (.ref D) "__getattribute__"=some (some (.builtin "BaseException.__getattribute__"))
 gh:W.findIn K (.ref D) "__getattr__"=some none
 cl:W.findIn K (.ref D) "__class__"=some (some (.builtin "object.__class__"))
 sp:W.specialIn K (.builtin "object.__class__") "__get__"=some (some (.builtin "getset_descriptor.__get__"))
 tk:W.takesIn K (.builtin "object.__class__")=some true
 ob:W.mroIn K D (.type "object")=some true
 be:W.mroIn K D (.type "BaseException")=some true
section
variable{prog:Program}{w:World}{A:Around}{E:Value->Shared->Prop}{s:Shared}{K:W.Frag}{x D:Addr}
end
section
variable{X:Cx}{pins:List (Addr × Obj)}{σ:St}{H H':Hp}{s s':Shared}{x:Addr}{cls:Value}
def gZ.gone(D:gZ)(i:Nat):gZ:={ nx:=λσ H=>D.nx (σ.set i none) H,rt:=D.rt,bk:=λσ H=>D.bk (σ.set i none) H,ct:=λσ H=>D.ct (σ.set i none) H }
end
structure jU(K:W.Frag)(x qual:Str)(st:Stmt)(dV:Value)(f:Addr)(fd:FuncData):Prop where
 ex:∃(oc:Value) (od:Option Addr) (kV doc pm:Value) (an:Option Addr) (cdv ct:Value) (osl:Array (Option Value)),
  fd=W.fnOf x qual (aA st) (aj st) (ae st) dV kV doc pm an cdv ct/\K.lookup f=some ⟨oc,od,.func fd,osl⟩/\W.codeIn K cdv qual=true
 kp:W.keepIn K (.ref f)=true
section
variable{P:Program}{w:World}{K:W.Frag}{mg:Str->Option Value}{base:Heap}
theorem jU.binds{x qual:Str}{st:Stmt}{T:Addr}{f:Addr}{fd:FuncData}{ps:List Str}{oT:Value}{dT:Option Addr}{its:Array Value}{nT:Nat}{sT:Array (Option Value)}{ds:List Value}(F:jU K x qual st (.ref T) f fd)(lT:K.lookup T=some ⟨oT,dT,.seq its nT,sT⟩)
  (h:∀(kV doc pm:Value) (an:Option Addr) (cdv ct:Value) (us:List Value),(us++ds).length=ps.length->∃k:Option (Array Value)->Sem (List (Str × Value)),
   bindArgs (W.fnOf x qual (aA st) (aj st) (ae st) (.ref T) kV doc pm an cdv ct) ⟨us,[]⟩=seqItems? (.ref T) >>= k/\k (some its)=pure (ps.zip (us++ds))):cU K fd ps ds:=by
 obtain⟨oc,od,kV,doc,pm,an,cdv,ct,osl,rfl,lk,hcd⟩:=F.ex
 intro s us kin hl
 obtain⟨k,h1,h2⟩:=h kV doc pm an cdv ct us hl
 exact BindsTo.of_defaults rfl (kin _ _ lT) rfl h1 h2
end
section
variable{X:Cx}
theorem rh{i0:Nat}{y0:Str}{py0 spos:Pos}{tg elt iter:Expr}{ifs:List Expr}{own caps:List Str}{κ:List Nat}{sc:Scope}{cl:List (Str × Addr)}{pos:Pos}{wi:TI}{g:TG}{tc:TT}{te:TE}(hN:X.N.Nodup)(hi0:X.N[i0]?=some y0)(hy0:Loc X.env.scope y0)(hcalm:X.calm=true)(S:jB X caps sc cl)(hκ:κ.map (λk=>X.N[k]?)=caps.map some)
  (hi:PI X tg iter wi) (hg:∀s₀ H₀ C ex,PG (blk X (own++caps) sc cl s₀ H₀ C ex) tg g)
  (hc:∀s₀ H₀ C ex (pins:List (Addr × Obj)) (s:Shared) (σ:St) (H:Hp) (Q:Bool->Hp->Prop),Inv (blk X (own++caps) sc cl s₀ H₀ C ex) pins σ H s->tc σ H Q ->
   wpAny (model X.prog X.w) X.A (forIn ifs true λc r=>if r=true then do let ok <-isTrue c (compEnvC sc cl C X.env) (eval c (compEnvC sc cl C X.env));pure (ForInStep.yield ok) else pure (ForInStep.yield r)) (TP (blk X (own++caps) sc cl s₀ H₀ C ex) pins σ Q) (λ_ _=>False) s)
  (he:∀s₀ H₀ C ex,PE (blk X (own++caps) sc cl s₀ H₀ C ex) elt te)
  (hs:∀x,foldedSetIterable iter X.env x=pure x:=by intro _;rfl) (hsw:swapsWith (.ListComp elt [⟨tg,iter,ifs,0⟩] sc pos) (some (.Name y0 py0)) spos.line X.env=pure true:=by rfl)
  (hf0:X.fn y0=true\/X.env.scope.names.lookup y0=some .local:=by first|exact .inl rfl|exact .inr rfl|assumption) :
  PS X (.Assign [.Name y0 py0] (.ListComp elt [⟨tg,iter,ifs,0⟩] sc pos) spos) (zn (pA own.length κ wi g tc te) (jm i0)):=by
 intro pins s σ H D0 I h
 rw [exec_Assign_Name_used _ _ _ _ hsw]
 refine wpAny_bind (wpAny_standAt (wpAny_bind ?_))
 show wpAny _ X.A (do let _ <-comprehension (.ListComp elt [⟨tg,iter,ifs,0⟩] sc pos) sc X.env _ (newList []) false (eval iter X.env) (some (assign (.Name y0 py0) X.env))) _ _ s
 refine wpAny_bind (wpAny_mono (wpAny_comprehension_free (use:=some (assign (.Name y0 py0) X.env)) (Q:=λ_ s'=>SP X pins D0 .next s') rfl hs S.clos S.kind S.names (thn (hi pins s σ H _ I h) λv s1 h1=>thn h1 λitv s2 h2=>?_))
  (λ_ s' hq=>wpAny_pure (wpAny_pure hq)) λ_ _ e=>e)
 obtain⟨it,fp,tn,J,H2,e,I2,T,st2,f2,W,⟨m0,w0⟩,turn⟩:=h2
 subst e
 have hfp:∀b∈fp,b < s2.heap.objs.size:=λb hb=>by
  obtain⟨o,e,_⟩:=T.obj _ _ st2 b hb
  exact Heap.lt_size e
 refine wpAny_newObj_type (wpAny_newFunctionEnv S.nocell (λy hy=>nomatch hy) (λh₁ hns hsb=>?_) S.kind)
 generalize ehp:s2.heap.push { cls:=.type "list",dict:=none,data:=.seq ([]:List Value).toArray }=hp at hns hsb ⊢
 have hsz:hp.objs.size=s2.heap.objs.size+1:=by rw [<-ehp,Heap.size_push]
 have hDC:s2.heap.objs.size≠hp.objs.size:=by rw [hsz];exact Nat.ne_of_lt (Nat.lt_succ_self _)
 have old:∀b o,hp.get? b=some o->h₁.get? b=some o:=λb o e=>(hsb.2 b (Nat.ne_of_lt (Heap.lt_size e))).trans (Heap.get?_push_of_some _ e)
 have eD:h₁.get? s2.heap.objs.size=some { cls:=.type "list",data:=.seq ([]:List Value).toArray }:=old _ _ (by rw [<-ehp];exact Heap.get?_push_size _ rfl)
 have I0:=Inv.block (own:=own) (h₁:=h₁) (tk:=s2.toks+([]:List (Str × Value)).length) S hκ I2 f2 hfp ehp.symm hns old
 have stkD:s2.heap.objs.size∉frs X.stack:=λz=>(List.mem_cons.mp (I2.stkSub _ z)).elim (Nat.ne_of_gt I2.lt) (I2.nofs (Nat.le_refl _))
 have cellD:∀x c,cl.lookup x=some c->c≠s2.heap.objs.size:=λx c q=>by
  obtain⟨v,z⟩:=I2.cell x c (S.subc q)
  exact Nat.ne_of_lt z.lt
 have pinD:∀p∈X.pn++pins,p.1≠s2.heap.objs.size:=λp hp=>Nat.ne_of_lt (Heap.lt_size (I2.pin p hp).1)
 have stkF:∀b∈fp,b∉frs X.stack:=λb hb z=>(List.mem_cons.mp (I2.stkSub _ z)).elim (f2 b hb).2.1 (f2 b hb).2.2.1
 have loop:codeAny (model X.prog X.w) X.A (.compLoop (.ListComp elt [⟨tg,iter,ifs,0⟩] sc pos) 0 (.ref it) (.ref s2.heap.objs.size) (compEnvC sc cl hp.objs.size X.env))
   (compPost (model X.prog X.w) X.A X.xe (some (assign (.Name y0 py0) X.env)) (λ_ s'=>SP X pins D0 .next s') (.ref s2.heap.objs.size) hp.objs.size) { s2 with heap:=h₁,toks:=s2.toks+([]:List (Str × Value)).length }:=by
  refine codeAny_loop rfl (λn s'=>∃(i:Nat) (ys:List V) (its:List Value) (cap:Nat) (H':Hp),Inv (blk X (own++caps) sc cl { s2 with heap:=hp } H2 hp.objs.size (s2.heap.objs.size::fp)) pins (dO own.length κ σ) H' s'/\tn i s'.heap/\(∀b∈fp,H' b=none) /\
   s'.heap.get? s2.heap.objs.size=some { cls:=.type "list",data:=.seq its.toArray cap }/\H' s2.heap.objs.size=none/\cr ys its/\ys.length<=sizeLine/\W i n ys H') (λn s3 hI=>?_) m0
   ⟨0,[],[],0,H2,I0,T.keep _ _ _ st2 λb hb o e=>old _ _ (by rw [<-ehp];exact Heap.get?_push_of_some _ e),λb hb=>(f2 b hb).1,eD,I2.hok.fresh (Nat.le_refl _),.nil,Nat.zero_le _,w0⟩
  obtain⟨i,ys,its,cap,H3,I3,st3,fr3,eD3,nD3,rv,hz,w3⟩:=hI
  show wpAny _ X.A ((compTurn (.ListComp elt [⟨tg,iter,ifs,0⟩] sc pos) 0 (.ref it) (.ref s2.heap.objs.size) (compEnvC sc cl hp.objs.size X.env)).onRaise λx=>do noteFrame x (compEnvC sc cl hp.objs.size X.env);theTreesLotGoes x) _ _ s3
  refine wpAny_noted ?_
  rw [compTurn_list]
  have I3':Inv (blk X (own++caps) sc cl { s2 with heap:=hp } H2 hp.objs.size (s2.heap.objs.size::fp)) (pins++[(s2.heap.objs.size,{ cls:=.type "list",data:=.seq its.toArray cap })]) (dO own.length κ σ) H3 s3:=by
   refine I3.pins_of λp hp=>(List.mem_append.mp hp).elim (λz=>I3.pin p (List.mem_append_right _ z)) λz=>?_
   obtain rfl:=List.mem_singleton.mp z
   exact⟨eD3,nD3,hDC,stkD,λv q=>by cases q⟩
  have fpk:∀{H':Hp},(∀b∈fp,H' b=none)->∀b∈fp,oY (blk X (own++caps) sc cl { s2 with heap:=hp } H2 hp.objs.size (s2.heap.objs.size::fp)) (pins++[(s2.heap.objs.size,{ cls:=.type "list",data:=.seq its.toArray cap })]) H' b:=λ{H'} hn b hb =>
   ⟨hn b hb,by show b≠hp.objs.size;rw [hsz];exact Nat.ne_of_lt (Nat.lt_succ_of_lt (hfp b hb)),stkF b hb,.inl (List.mem_cons_of_mem _ hb),λx c q=>(f2 b hb).2.2.2.2.1 x c (S.subc q),λp hp=>by
    rw [<-List.append_assoc] at hp
    rcases List.mem_append.mp hp with z|z
    ·exact(f2 b hb).2.2.2.2.2 p z
    ·obtain rfl:=List.mem_singleton.mp z
     exact Nat.ne_of_gt (hfp b hb)⟩
  rcases turn i n ys H3 w3 with ⟨stop,fin⟩|⟨go,hlt,step⟩
  ·refine wpAny_bind (wpAny_standAt (wpAny_bind (thn (T.done (blk X (own++caps) sc cl { s2 with heap:=hp } H2 hp.objs.size (s2.heap.objs.size::fp)) rfl rfl rfl hcalm i _ s3 _ H3 _ I3' (fpk fr3) st3 stop) λr s4 ⟨hr,I4⟩=>?_)))
   subst hr
   refine wpAny_pure ?_
   obtain⟨m,hm,_⟩:=I4.loc
   have eD4:=(I4.pin (s2.heap.objs.size,{ cls:=.type "list",data:=.seq its.toArray cap }) (List.mem_append_right _ (List.mem_append_right _ (List.mem_singleton.mpr rfl)))).1
   have I5:Inv X pins σ (upd H3 s2.heap.objs.size (.lst ys)) { s4 with heap:=s4.heap }:=Inv.unblock I2 f2 ehp.symm I4 eD4 nD3 rv hz (Heap.SameBut.refl ..)
   have neL:hp.objs.size≠X.env.locals:=by rw [hsz];exact Nat.ne_of_gt (Nat.lt_succ_of_lt I2.lt)
   have neC:∀x c,X.env.cells.lookup x=some c->c≠hp.objs.size:=λx c q=>by
    obtain⟨v,z⟩:=I2.cell x c q
    rw [hsz]
    exact Nat.ne_of_lt (Nat.lt_succ_of_lt z.lt)
   have frC:upd H3 s2.heap.objs.size (.lst ys) hp.objs.size=none:=by rw [ah (Ne.symm hDC)];exact I4.free
   show wpAny (model X.prog X.w) X.A (assign (.Name y0 py0) X.env (.ref s2.heap.objs.size)) _ X.xe s4
   refine wpAny_assign_Name (oC (v:=.ref s2.heap.objs.size) I5 hN hi0 hy0 rfl (λs5 I6 zz=>?_) hf0)
   obtain⟨a,sb,ha⟩:=zz
   have hCa:hp.objs.size≠a:=by
    rcases ha with ha|ha
    ·rw [ha];exact neL
    ·exact Ne.symm (neC _ _ ha)
   refine⟨m,hm.sameBut sb hCa,λh' sb'=>⟨_,_,I6.turned (t':=s5.toks) (λb o hb e=>(sb'.2 b hb).trans e) frC neL (.inr ?_) neC (λp hp'=>?_),fin _ nD3⟩⟩
   ·exact Nat.le_trans I2.sz (by rw [hsz];exact Nat.le_succ _)
   ·have:=Heap.lt_size (I2.pin p hp').1
    rw [hsz]
    exact Nat.ne_of_lt (Nat.lt_succ_of_lt this)
  ·refine wpAny_bind (wpAny_standAt (wpAny_bind (thn (T.item (blk X (own++caps) sc cl { s2 with heap:=hp } H2 hp.objs.size (s2.heap.objs.size::fp)) rfl rfl rfl hcalm i _ s3 _ H3 _ I3' (fpk fr3) st3 go) λr s4 zz=>?_)))
   obtain⟨u,hr,h4⟩:=zz
   subst hr
   refine wpAny_bind (thn h4 λ_ s5 zz=>?_)
   obtain⟨x,H5,I5,r5,y5,st5,fr5⟩:=zz
   have I5':=I5.pinned (fpk fr5) (T.obj _ _ st5)
   refine wpAny_bind (wpAny_mono (hg _ _ _ _ _ s5 _ H5 x u _ I5' r5 (step x H5 y5)) (λ_ s6 ⟨σ6,H6,I6,eσ,q6⟩=>?_) λ_ _ z=>z.elim)
   refine wpAny_bind (wpAny_mono (hc _ _ _ _ _ s6 σ6 H6 _ I6 q6) (λok s7 ⟨H7,I7,q7⟩=>?_) λ_ _ z=>z.elim)
   have back:∀{s8:Shared} {H8:Hp},Inv (blk X (own++caps) sc cl { s2 with heap:=hp } H2 hp.objs.size (s2.heap.objs.size::fp)) ((pins++[(s2.heap.objs.size,{ cls:=.type "list",data:=.seq its.toArray cap })])++lD fp s5.heap) σ6 H8 s8 ->
     Inv (blk X (own++caps) sc cl { s2 with heap:=hp } H2 hp.objs.size (s2.heap.objs.size::fp)) pins (dO own.length κ σ) H8 s8/\tn (i+1) s8.heap/\(∀b∈fp,H8 b=none)/\s8.heap.get? s2.heap.objs.size=some { cls:=.type "list",data:=.seq its.toArray cap }/\H8 s2.heap.objs.size=none:=by
    intro s8 H8 I8
    have pk:∀b∈fp,∀o,s5.heap.get? b=some o->s8.heap.get? b=some o/\H8 b=none:=λb hb o e=>by
     have z:=I8.pin (b,o) (List.mem_append_right _ (List.mem_append_right _ (gI hb e)))
     exact⟨z.1,z.2.1⟩
    have zD:=I8.pin (s2.heap.objs.size,{ cls:=.type "list",data:=.seq its.toArray cap }) (List.mem_append_right _ (List.mem_append_left _ (List.mem_append_right _ (List.mem_singleton.mpr rfl))))
    refine⟨(I8.pins_of λp hp=>I8.pin p (List.mem_append_right _ (List.mem_append_left _ (List.mem_append_left _ hp)))).weak ?_ λj v e=>?_,T.keep _ _ _ st5 λb hb o e=>(pk b hb o e).1,λb hb=>?_,zD.1,zD.2.1⟩
    ·exact I3.len.trans I8.len.symm
    ·have hge:own.length<=j:=by
      refine Nat.le_of_not_lt λq=>?_
      unfold dO at e
      rw [List.getElem?_append_left (by rw [List.length_replicate];exact q),List.getElem?_replicate,if_pos q] at e
      cases e
     have z:=congrArg (λl=>l[j - own.length]?) eσ
     simp only [List.getElem?_drop] at z
     rw [show own.length+(j - own.length)=j by omega] at z
     rw [z]
     exact e
    ·obtain⟨o,e,_⟩:=T.obj _ _ st5 b hb
     exact(pk b hb o e).2
   cases ok with
   |false =>
    obtain⟨m',hm,w7⟩:=(if_neg Bool.false_ne_true)▸q7
    obtain⟨I8,st8,fr8,e8,n8⟩:=back I7
    exact wpAny_pure ⟨rfl,m',hm,i+1,ys,its,cap,H7,I8,st8,fr8,e8,n8,rv,hz,w7⟩
   |true =>
    have q7':=(if_pos rfl)▸q7
    refine wpAny_bind (wpAny_bind (wpAny_mono (he _ _ _ _ _ s7 σ6 H7 _ I7 q7') (λy s8 ⟨v8,H8,I8,r8,m',hm,w8⟩=>?_) λ_ _ z=>z.elim))
    obtain⟨I9,st9,fr9,e9,n9⟩:=back I8
    have hl:=rv.length
    refine wpAny_bind (wpAny_list_append_plain (items:=its.toArray) ⟨cap,e9⟩ (λh' hl' sb=>?_) (by rw [List.size_toArray,<-hl];exact hz))
    obtain⟨cap',e'⟩:=hl'
    refine wpAny_pure (wpAny_pure ⟨rfl,m',hm,i+1,ys++[v8],its++[y],cap',H8,?_,?_,fr9,?_,n9,cr.append rv (.cons r8 .nil),?_,w8⟩)
    ·exact I9.turned (t':=s8.toks) (λb o hb e=>(sb.2 b hb).trans e) n9 hDC (.inl List.mem_cons_self) cellD pinD
    ·exact T.keep _ _ _ st9 λb hb o e=>(sb.2 b (Nat.ne_of_lt (hfp b hb))).trans e
    ·rw [e']
     congr 3
     simp
    ·rw [List.length_append]
     exact hlt
 exact codeAny_compStart_list loop (T.self _ 0 _ _ _ (T.keep _ _ _ st2 λb hb o e=>old _ _ (by rw [<-ehp];exact Heap.get?_push_of_some _ e)) loop)
theorem jY{i0:Nat}{y0:Str}{py0 spos:Pos}{tg elt iter:Expr}{own caps:List Str}{κ:List Nat}{sc:Scope}{cl:List (Str × Addr)}{pos:Pos}{wi:TI}{g:TG}{te:TE}(hN:X.N.Nodup)(hi0:X.N[i0]?=some y0)(hy0:Loc X.env.scope y0)(hcalm:X.calm=true)(S:jB X caps sc cl)(hκ:κ.map (λk=>X.N[k]?)=caps.map some)
  (hi:PI X tg iter wi) (hg:∀s₀ H₀ C ex,PG (blk X (own++caps) sc cl s₀ H₀ C ex) tg g) (he:∀s₀ H₀ C ex,PE (blk X (own++caps) sc cl s₀ H₀ C ex) elt te)
  (hs:∀x,foldedSetIterable iter X.env x=pure x:=by intro _;rfl) (hsw:swapsWith (.ListComp elt [⟨tg,iter,[],0⟩] sc pos) (some (.Name y0 py0)) spos.line X.env=pure true:=by rfl)
  (hf0:X.fn y0=true\/X.env.scope.names.lookup y0=some .local:=by first|exact .inl rfl|exact .inr rfl|assumption) :
  PS X (.Assign [.Name y0 py0] (.ListComp elt [⟨tg,iter,[],0⟩] sc pos) spos) (zn (pA own.length κ wi g Bf te) (jm i0)) :=
 rh hN hi0 hy0 hcalm S hκ hi hg (λs₀ H₀ C ex pins s σ H Q I h=>wpAny_tests_nil ⟨H,I,h⟩) he hs hsw hf0
theorem lU{i0:Nat}{y0:Str}{py0 spos:Pos}{tg elt iter c:Expr}{own caps:List Str}{κ:List Nat}{sc:Scope}{cl:List (Str × Addr)}{pos:Pos}{wi:TI}{g:TG}{tc:TT}{te:TE}(hN:X.N.Nodup)(hi0:X.N[i0]?=some y0)(hy0:Loc X.env.scope y0)(hcalm:X.calm=true)(S:jB X caps sc cl)(hκ:κ.map (λk=>X.N[k]?)=caps.map some)
  (hi:PI X tg iter wi) (hg:∀s₀ H₀ C ex,PG (blk X (own++caps) sc cl s₀ H₀ C ex) tg g) (hc:∀s₀ H₀ C ex,PT (blk X (own++caps) sc cl s₀ H₀ C ex) c tc) (he:∀s₀ H₀ C ex,PE (blk X (own++caps) sc cl s₀ H₀ C ex) elt te)
  (hs:∀x,foldedSetIterable iter X.env x=pure x:=by intro _;rfl) (hsw:swapsWith (.ListComp elt [⟨tg,iter,[c],0⟩] sc pos) (some (.Name y0 py0)) spos.line X.env=pure true:=by rfl)
  (hf0:X.fn y0=true\/X.env.scope.names.lookup y0=some .local:=by first|exact .inl rfl|exact .inr rfl|assumption) :
  PS X (.Assign [.Name y0 py0] (.ListComp elt [⟨tg,iter,[c],0⟩] sc pos) spos) (zn (pA own.length κ wi g tc te) (jm i0)) :=
 rh hN hi0 hy0 hcalm S hκ hi hg (λs₀ H₀ C ex pins s σ H Q I h=>wpAny_tests_one (hc s₀ H₀ C ex pins s σ H Q I h)) he hs hsw hf0
end
section
variable{X:Cx}{pins:List (Addr × Obj)}{σ:St}{H:Hp}{s:Shared}{h':Heap}
theorem Inv.turned2{t':Nat}{e j p:Addr}{o:HO}(I:Inv X pins σ H s)(k:∀b ob,b≠e->b≠j->s.heap.get? b=some ob->h'.get? b=some ob)(fe:oY X pins H e)(fj:oY X pins H j)(hp:s.heap.objs.size<=p)
  (new:dl X.prog X.w (upd H p o) h' p o):Inv X pins σ (upd H p o) { s with heap:=h',toks:=t' }:=by
 have hn:H p=none:=I.hok.fresh hp
 have nn:∀b u,H b=some u->b≠e/\b≠j:=λb u q=>⟨λz=>(by rw [z,fe.1] at q;cases q),λz=>(by rw [z,fj.1] at q;cases q)⟩
 have nc:∀b,b∉[e,j]->b≠e/\b≠j:=λb hb=>⟨λz=>hb (by simp [z]),λz=>hb (by simp [z])⟩
 have lt:∀b ob,s.heap.get? b=some ob->b≠p:=λb ob q z=>absurd (Nat.lt_of_lt_of_le (Heap.lt_size q) (by rw [z];exact hp)) (Nat.lt_irrefl _)
 refine I.step (g':=s.gens) (d':=s.drawn) (ch:=[e,j]) (λb hb=>?_) (λb ob _ _ hc q _=>k b ob (nc b hc).1 (nc b hc).2 q) (λb ob _ _ hc q _=>⟨ob.slots,k b ob (nc b hc).1 (nc b hc).2 q⟩) (λb ob hc q n=>by rw [ah (lt b ob q)];exact n)
  (λb ob hc q=>⟨ob,k b ob (nc b hc).1 (nc b hc).2 q⟩) (λb xs q=>by rw [ah (aw q hn)];exact q) (λb ob u q=>by rw [ah (aw q hn)];exact q) (λb ps q=>⟨#[],by rw [ah (aw q hn),q];simp⟩) (λm hm=>?_) (λb u q=>?_) I.bare
 ·rcases List.mem_cons.mp hb with rfl|hb
  ·exact⟨fe.2.2.2.1,fe.2.1,fe.2.2.2.2.1,fe.2.2.2.2.2⟩
  ·obtain rfl:=List.mem_singleton.mp hb
   exact⟨fj.2.2.2.1,fj.2.1,fj.2.2.2.2.1,fj.2.2.2.2.2⟩
 ·obtain⟨ob,es,ep,q,r⟩:=hm
  exact⟨ob,es,ep,k _ ob (Ne.symm fe.2.1) (Ne.symm fj.2.1) q,r⟩
 ·by_cases hb:b=p
  ·subst hb
   rw [aa] at q
   cases q
   exact new
  ·rw [ah hb] at q
   refine(I.hok b u q).stay (λc v hc z=>?_) (λc z=>by rw [ah (aw z hn)];exact z) λc xs z=>by rw [ah (aw z hn)];exact z
   rcases hc with hc|hc
   ·rw [hc] at z ⊢
    exact k b v (nn b u q).1 (nn b u q).2 z
   ·exact k c v (nn c _ hc).1 (nn c _ hc).2 z
end
section
variable{X:Cx}{tg:Expr}
end
section
variable{prog:Program}{w:World}{A:Around}{E:Value->Shared->Prop}{s:Shared}
open AutoSeq1 (wpAny_loadPart') in
end
theorem pN{P:Program}{w:World}{k:Key}{u:Value}(h:(bf P w).is k u=true):cy (kV k) u:=by
 rw [sf] at h
 rcases ca h with ⟨i,t,rfl,rfl⟩|⟨x,t,rfl,rfl⟩
 ·exact⟨t,rfl⟩
 ·exact⟨t,rfl⟩
section
variable{X:Cx}{pins:List (Addr × Obj)}{σ:St}{H H':Hp}{s:Shared}{h':Heap}
theorem Inv.laids{t':Nat}(I:Inv X pins σ H s)(k:∀b u,s.heap.get? b=some u->h'.get? b=some u)(old:∀b,b < s.heap.objs.size->H' b=H b)
  (new:∀b u,s.heap.objs.size<=b->H' b=some u->dl X.prog X.w H' h' b u):Inv X pins σ H' { s with heap:=h',toks:=t' }:=by
 have lt:∀b u,H b=some u->b < s.heap.objs.size:=λb u q=>Nat.lt_of_not_le λz=>by rw [I.hok.fresh z] at q;cases q
 refine I.step (g':=s.gens) (d':=s.drawn) (ch:=[]) (λ_ z=>nomatch z) (λb ob _ _ _ q _=>k b ob q) (λb ob _ _ _ q _=>⟨ob.slots,k b ob q⟩) (λb ob _ q n=>by rw [old b (Heap.lt_size q)];exact n)
  (λb ob _ q=>⟨ob,k b ob q⟩) (λb xs q=>by rw [old b (lt _ _ q)];exact q) (λb ob u q=>by rw [old b (lt _ _ q)];exact q) (λb ps q=>⟨#[],by rw [old b (lt _ _ q),q];simp⟩) (λm hm=>?_) (λb u q=>?_) I.bare
 ·obtain⟨ob,es,ep,q,r⟩:=hm
  exact⟨ob,es,ep,k _ ob q,r⟩
 ·by_cases hb:b < s.heap.objs.size
  ·rw [old b hb] at q
   exact(I.hok b u q).stay (λc v _ z=>k c v z) (λc z=>by rw [old c (lt _ _ z)];exact z) λc xs z=>by rw [old c (lt _ _ z)];exact z
  ·exact new b u (Nat.le_of_not_lt hb) q
end
def qo(H:Hp):List Addr->List (Key × V)->Hp
 |a::as,p::ps=>upd (qo H as ps) a (.tup [kV p.1,p.2])
 |_,_=>H
theorem mf{H:Hp}{b:Addr}:∀{as:List Addr} {ps:List (Key × V)},b∉as->qo H as ps b=H b
 |[],_,_=>rfl
 |_::_,[],_=>rfl
 |a::as,p::ps,h=>by
  show upd (qo H as ps) a _ b=H b
  rw [ah (λe=>h (by rw [e];exact List.mem_cons_self))]
  exact mf λz=>h (List.mem_cons_of_mem _ z)
theorem vd{H:Hp}:∀{as:List Addr} {ps:List (Key × V)} {b:Addr} {u:HO},b∈as->as.length=ps.length->qo H as ps b=some u->∃(j:Nat) (p:Key × V),as[j]?=some b/\ps[j]?=some p/\u=.tup [kV p.1,p.2]
 |[],_,_,_,h,_,_=>nomatch h
 |_::_,[],_,_,_,h,_=>nomatch h
 |a::as,p::ps,b,u,hb,hl,h=>by
  by_cases e:b=a
  ·subst e
   have h':upd (qo H as ps) b (.tup [kV p.1,p.2]) b=some u:=h
   rw [aa] at h'
   cases h'
   exact⟨0,p,rfl,rfl,rfl⟩
  ·have h':upd (qo H as ps) a (.tup [kV p.1,p.2]) b=some u:=h
   rw [ah e] at h'
   have hb':b∈as:=(List.mem_cons.mp hb).resolve_left e
   obtain⟨j,p',h1,h2,h3⟩:=vd hb' (Nat.succ.inj hl) h'
   exact⟨j+1,p',h1,h2,h3⟩
theorem ld{H:Hp}:∀{as:List Addr} {ps:List (Key × V)},as.Pairwise (· < ·)->as.length=ps.length->Paired (fun(p:Key × V) (k:Addr)=>qo H as ps k=some (.tup [kV p.1,p.2])) ps as
 |[],[],_,_=>.nil
 |_::_,[],_,h=>nomatch h
 |[],_::_,_,h=>nomatch h
 |a::as,p::ps,hr,hl=>by
  cases hr with
  |cons h1 h2 =>
  refine .cons aa ?_
  have ih:=ld (H:=H) h2 (Nat.succ.inj hl)
  have go:∀{qs:List (Key × V)} {bs:List Addr},(∀b∈bs,a < b)->Paired (fun(p:Key × V) (k:Addr)=>qo H as ps k=some (.tup [kV p.1,p.2])) qs bs->Paired (fun(q:Key × V) (k:Addr)=>qo H (a::as) (p::ps) k=some (.tup [kV q.1,q.2])) qs bs:=λ{qs bs} hb z=>by
   induction z with
   |nil=>exact .nil
   |@cons x y xs ys e _ ih =>
    refine .cons ?_ (ih λb hb'=>hb b (List.mem_cons_of_mem _ hb'))
    show upd (qo H as ps) a _ y=_
    rw [ah (Nat.ne_of_gt (hb y List.mem_cons_self))]
    exact e
  exact go h1 ih
theorem aI{α β:Type}{F:α->β->Prop}:∀{as:List α} {bs:List β},Paired F as bs->∀{j:Nat} {a:α},as[j]?=some a->∃b,bs[j]?=some b/\F a b
 |_,_,.nil,j,a,h=>by simp at h
 |_,_,.cons x t,0,a,h=>by
  simp at h
  subst h
  exact⟨_,rfl,x⟩
 |_,_,.cons x t,j+1,a,h=>by
  simp at h
  obtain⟨b,hb,r⟩:=aI t h
  exact⟨b,by simpa using hb,r⟩
def j9(v d:Addr)(h:Heap):Prop:=h.IsItemsView v d
section
variable{X:Cx}
def Al:V->List V->Hp->VK->Prop:=λx vs H Q=>∃d kvs,x=.ref d/\vs=[]/\H d=some (.dK kvs)/\∀v,H v=none->Q (.ref v) (upd H v (.ext (j9 v d)))
theorem rH:MtR X "dict.items" Al:=by
 intro pins s σ H x vs v us Q I rx rv h
 obtain⟨d,kvs,rfl,rfl,hd,q⟩:=h
 cases rx
 cases rv
 obtain⟨z,hs,ys,rel,dd⟩:=kG I.hok hd
 refine call_meetsIn PySem.F.slot_dict_items dd.typeIs PySem.F.entry_dict_items (PySem.F.args_dict_items_1 _) (meets_dict_items (bf X.prog X.w) d hs) ⟨⟨ys,dd⟩,?_⟩
 have hv:(s.heap.push { cls:=.type "dict_items",data:=.fields #[.ref d] }).IsItemsView s.heap.objs.size d:=⟨_,Heap.get?_push_size _ rfl,rfl,rfl⟩
 refine⟨.ref s.heap.objs.size,_,I.laid (t':=s.toks) (o:=.ext (j9 s.heap.objs.size d)) (λb o e=>Heap.get?_push_of_some _ e) (Nat.le_refl _) ⟨hv,⟨_,Heap.get?_push_size _ rfl⟩,λh1 h2 p k=>?_⟩,rfl,q _ (I.hok.fresh (Nat.le_refl _))⟩
 obtain⟨o,ho,r⟩:=p
 exact⟨o,k o ho,r⟩
end
section
variable{X:Cx}{pins:List (Addr × Obj)}{σ:St}{H:Hp}{s:Shared}{d:Addr}{o:Obj}{u:HO}
theorem Inv.thaw(I:Inv X pins σ H s)(e:H d=some (.frz o u))(h0:∀o' u',X.H₀ d≠some (.frz o' u')):Inv X pins σ (upd H d u) s:=by
 have nd:∀b,H b=none->b≠d:=λb n z=>by rw [z,e] at n;cases n
 have no:∀b v,H b=some v->(∀o u,v≠.frz o u)->b≠d:=λb v q n z=>by rw [z,e] at q;cases q;exact n _ _ rfl
 refine⟨I.ok,I.os,I.bare,⟨I.base.keep,I.base.slot,λb ob q n hx=>?_,I.base.there,λb xs q=>?_,λb ob v q=>?_,λb ps q=>?_⟩,I.loc,I.cell,?_,λx c q=>?_,λp hp=>?_,λb v q=>?_,I.len⟩
 ·have z:=I.base.free b ob q n hx
  rw [ah (nd b z)]
  exact z
 ·have z:=I.base.tups b xs q
  rw [ah (no b _ z (λ_ _=>nofun))]
  exact z
 ·have z:=I.base.frzs b ob v q
  rw [ah (λw=>h0 ob v (by rw [<-w];exact q))]
  exact z
 ·obtain⟨more,z⟩:=I.base.tbls b ps q
  exact⟨more,by rw [ah (no b _ z (λ_ _=>nofun))];exact z⟩
 ·rw [ah (nd _ I.free)]
  exact I.free
 ·rw [ah (nd _ (I.freeC x c q))]
  exact I.freeC x c q
 ·obtain⟨h1,h2,h3⟩:=I.pin p hp
  exact⟨h1,by rw [ah (nd _ h2)];exact h2,h3⟩
 ·have own:∀a b,H b=some (.own a)->upd H d u b=some (.own a):=λa b z=>by rw [ah (no b _ z (λ_ _=>nofun))];exact z
  have tup:∀b xs,H b=some (.tup xs)->upd H d u b=some (.tup xs):=λb xs z=>by rw [ah (no b _ z (λ_ _=>nofun))];exact z
  by_cases hb:b=d
  ·subst hb
   rw [aa] at q
   cases q
   exact(I.hok b _ e).2.stay (λ_ _ _ z=>z) (own b) tup
  ·rw [ah hb] at q
   exact(I.hok b v q).stay (λ_ _ _ z=>z) (own b) tup
end
def Bl(H₀:Hp)(D:gZ):gZ where
 nx:=λσ H=>∃d o u,H d=some (.frz o u)/\(∀o' u',H₀ d≠some (.frz o' u'))/\D.nx σ (upd H d u)
 rt:=λv H=>∃d o u,H d=some (.frz o u)/\(∀o' u',H₀ d≠some (.frz o' u'))/\D.rt v (upd H d u)
 bk:=D.bk
 ct:=D.ct
theorem fX{X:Cx}{st:Stmt}{t:TS}(h:PS X st t):PS X st (λD σ H=>t (Bl X.H₀ D) σ H):=by
 intro pins s σ H D I q
 refine thn (h pins s σ H _ I q) λf s1 z=>?_
 cases f with
 |next =>
  obtain⟨σ',H',I',d,o,u,e,h0,q'⟩:=z
  exact⟨σ',_,I'.thaw e h0,q'⟩
 |ret v =>
  obtain⟨σ',x,H',I',r,d,o,u,e,h0,q'⟩:=z
  exact⟨σ',x,_,I'.thaw e h0,r,q'⟩
 |brk=>exact z
 |cont=>exact z
def Itd(d:Addr)(o:Obj)(kvs:List (Key × V)):It :=
 ⟨λi H=>H d=some (.frz o (.dK kvs))/\i < kvs.length,λi H x H'=>∃a p,H a=none/\x=.ref a/\H'=upd H a (.tup [kV p.1,p.2])/\kvs[i]?=some p,λi H=>H d=some (.frz o (.dK kvs))/\kvs.length<=i⟩
theorem sW{P:Program}{w:World}{K:W.Frag}{es:List Expr}{k:Nat}{pos:Pos}{d it:Addr}{o:Obj}{kvs:List (Key × V)}{ys:List (Key × Value)}{ep:Nat}(rel:KV kvs ys)(hat:∀h:Heap,h.get? d=some o->h.DictAt (bf P w) d ys ep) :
  xM P w K (.Tuple es k pos) (Itd d o kvs) [it] it (λi h=>∃ok ov,IsItemIter h it d i ys.length ep ok ov) where
 mem:=by simp
 obj:=λi h st b hb=>by
  obtain rfl:b=it:=by simpa using hb
  obtain⟨ok,ov,e⟩:=st
  exact⟨_,e,λv z=>by cases z⟩
 keep:=λi h h' st k=>by
  obtain⟨ok,ov,e⟩:=st
  exact⟨ok,ov,k it (by simp) _ e⟩
 item:=by
  intro X hP hw hK hc i pins s σ H E I hf st hg
  subst hP hw hK
  obtain⟨ok,ov,st⟩:=st
  obtain⟨hd,hi⟩:=hg
  have fe:=hf it (by simp)
  obtain⟨f0,f1,f2,f3,f4,f5⟩:=id fe
  have ex:kvs[i]?=some kvs[i]:=List.getElem?_eq_getElem hi
  obtain⟨⟨k1,y⟩,hy,ek,ry⟩:=aI rel ex
  replace ek:kvs[i].1=k1:=ek
  replace ry:cy kvs[i].2 y:=ry
  have lt:it < s.heap.objs.size:=Heap.lt_size st
  refine wpAny_pyNext_items_item st (hat _ (I.hok d _ hd).1) hy λkey h1 hkey io t1 hz k1'=>⟨_,rfl,?_⟩
  refine wpAny_letOwnedTupleGo_items io λh2 i2 b2=>?_
  have t2:h2.get? s.heap.objs.size=some { cls:=.type "tuple",data:=.seq #[key,y] }:=(b2.2 _ (Nat.ne_of_gt lt)).trans t1
  have hn:H s.heap.objs.size=none:=I.hok.fresh (Nat.le_refl _)
  have I2:Inv X pins σ (upd H s.heap.objs.size (.tup [kV kvs[i].1,kvs[i].2])) { s with heap:=h2 } :=
   I.turned2 (t':=s.toks) (e:=it) (j:=it) (λb ob x1 _ z=>(b2.2 b x1).trans (k1' b ob x1 z)) fe fe (Nat.le_refl _) ⟨by show 2<=sizeLine;decide,[key,y],.cons (by rw [ek];exact pN hkey) (.cons ry .nil),_,t2,rfl,_,rfl⟩
  refine⟨.ref s.heap.objs.size,_,I2,rfl,⟨_,kvs[i],hn,rfl,rfl,ex⟩,⟨_,_,i2⟩,λb hb=>?_⟩
  obtain rfl:b=it:=by simpa using hb
  rw [ah (Nat.ne_of_lt lt)]
  exact f0
 done:=by
  intro X hP hw hK hc i pins s σ H E I hf st hg
  subst hP hw hK
  obtain⟨ok,ov,st⟩:=st
  obtain⟨hd,hi⟩:=hg
  obtain⟨f0,f1,f2,f3,f4,f5⟩:=hf it (by simp)
  have hl:kvs.length=ys.length:=rel.length
  exact wpAny_pyNext_items_end (I.ok.hd hc) st (hat _ (I.hok d _ hd).1) (List.getElem?_eq_none (by omega)) λh' eb=>⟨rfl,I.turned (t':=s.toks) (λb o hb q=>eb b o hb q) f0 f1 f3 f4 f5⟩
 self:=λ_ _ _ _ _ st h=>by
  obtain⟨ok,ov,st⟩:=st
  exact W.kcp_self st h
section
variable{X:Cx}
def zV(to:TE):TI:=λσ H R=>to σ H λx H1=>∃d kvs,x=.ref d/\H1 d=some (.dK kvs)/\∀o,R (Itd d o kvs) (upd H1 d (.frz o (.dK kvs)))
theorem fA{o:Expr}{to:TE}{es:List Expr}{k:Nat}{tp apos cpos:Pos}(ho:PE X o to) (hbase:attributeBase o "items" X.env (eval o X.env)=eval o X.env:=by rfl) (hline:(apos.endLine==cpos.line)=true:=by rfl) :
  PI X (.Tuple es k tp) (.Call (.Attribute o "items" apos) [] [] cpos) (zV to):=by
 intro pins s σ H R I h
 refine wpAny_Call_method0_late hbase hline (thn (ho pins s σ H _ I h) λv s1 zz=>?_)
 obtain⟨x,H1,I1,r1,d,kvs,ex,hd,q⟩:=zz
 subst ex
 obtain⟨h1,h2⟩:=qR (T:="dict") I1 r1 (.inr (.inr (.inl ⟨rfl,.inl ⟨kvs,hd⟩⟩)))
 cases r1
 obtain⟨z,hs,ys,rel,dd⟩:=kG I1.hok hd
 refine⟨"dict","dict.items",PySem.F.plainAttrs_dict,PySem.F.slot_dict_items,PySem.F.type_dict_items,h1,h2,Calls.callWith_builtin rfl (PySem.evalArgs_none (call_meetsIn PySem.F.slot_dict_items dd.typeIs PySem.F.entry_dict_items (PySem.F.args_dict_items_1 _) (meets_dict_items (bf X.prog X.w) d hs) ⟨⟨ys,dd⟩,?_⟩))⟩
 have hv:(s1.heap.push { cls:=.type "dict_items",data:=.fields #[.ref d] }).IsItemsView s1.heap.objs.size d:=⟨_,Heap.get?_push_size _ rfl,rfl,rfl⟩
 obtain⟨ep,ob,en,e1,r1⟩:=dd.dictAt
 have hat:∀h:Heap,h.get? d=some ob->h.DictAt (bf X.prog X.w) d ys ep:=λh e=>⟨ob,en,e,r1⟩
 refine wpAny_pyIter_items (s:={ s1 with heap:=s1.heap.push { cls:=.type "dict_items",data:=.fields #[.ref d] } }) hv (hat _ (Heap.get?_push_of_some _ e1)) ?_
 have hd2:((s1.heap.push { cls:=.type "dict_items",data:=.fields #[.ref d] }).push { cls:=.type "dict_itemiterator",data:=.fields #[.none,.bool false,.ref d,.int 0 0,.int ys.length 0,.int ep 0,.none,.none] }).get? d=some ob:=Heap.get?_push_of_some _ (Heap.get?_push_of_some _ e1)
 have I2:=I1.kept (t':=s1.toks) (h':=(s1.heap.push { cls:=.type "dict_items",data:=.fields #[.ref d] }).push { cls:=.type "dict_itemiterator",data:=.fields #[.none,.bool false,.ref d,.int 0 0,.int ys.length 0,.int ep 0,.none,.none] }) λb u e=>Heap.get?_push_of_some _ (Heap.get?_push_of_some _ e)
 have I3:=I2.write (x:=d) (e:=d) (o:=.frz ob (.dK kvs)) (t':=s1.toks) (h':=(s1.heap.push { cls:=.type "dict_items",data:=.fields #[.ref d] }).push { cls:=.type "dict_itemiterator",data:=.fields #[.none,.bool false,.ref d,.int 0 0,.int ys.length 0,.int ep 0,.none,.none] }) (by rw [hd];trivial) (.inl rfl) (λ_ _ _ e=>e) ⟨ob,hd2⟩
  ⟨hd2,z,hs,ys,rel,dd.at λo e=>Heap.get?_push_of_some _ (Heap.get?_push_of_some _ e)⟩
 have hn:H1 ((s1.heap.push { cls:=.type "dict_items",data:=.fields #[.ref d] }).objs.size)=none:=I1.hok.fresh (by rw [Heap.size_push];exact Nat.le_succ _)
 refine⟨_,[(s1.heap.push { cls:=.type "dict_items",data:=.fields #[.ref d] }).objs.size],_,_,_,rfl,I3,sW rel hat,⟨_,_,Heap.get?_push_size _ rfl⟩,λb hb=>?_,q ob⟩
 obtain rfl:b=(s1.heap.push { cls:=.type "dict_items",data:=.fields #[.ref d] }).objs.size:=by simpa using hb
 refine I1.fpOk (by rw [Heap.size_push];exact Nat.le_succ _) ?_
 rw [ah (λe=>by rw [e,hd] at hn;cases hn)]
 exact hn
end
theorem eS{d:Addr}{o:Obj}{kvs:List (Key × V)}{g:TG}{tb:TS}{D:gZ}{σ:St}{H:Hp}(Pv:Nat->St->Hp->Prop)(h0:Pv 0 σ H)(hl:∀i σ H,i<=kvs.length->Pv i σ H->H d=some (.frz o (.dK kvs)))
  (hs:∀i p a σ H,kvs[i]?=some p->H a=none->Pv i σ H->g (.ref a) σ (upd H a (.tup [kV p.1,p.2])) λσ2 H2=>tb { D with nx:=Pv (i+1),ct:=Pv (i+1),bk:=D.nx } σ2 H2) (hd:∀σ H,Pv kvs.length σ H->D.nx σ H) :
  ∃W:Nat->Nat->St->Hp->Prop,(∃m,W 0 m σ H)/\∀i m σ H,W i m σ H ->
   ((Itd d o kvs).stop i H/\D.nx σ H)\/((Itd d o kvs).go i H/\∃N:St->Hp->Prop,(∀σ' H',N σ' H'->∃m',m' < m/\W (i+1) m' σ' H')/\∀x H',(Itd d o kvs).yld i H x H'->g x σ H' λσ2 H2=>tb { D with nx:=N,ct:=N,bk:=D.nx } σ2 H2):=by
 refine⟨λi m σ H=>m=kvs.length - i/\i<=kvs.length/\Pv i σ H,⟨kvs.length,by simp,Nat.zero_le _,h0⟩,?_⟩
 rintro i m σ H ⟨rfl,hi,p⟩
 have q:=hl i σ H hi p
 by_cases hlt:i < kvs.length
 ·refine .inr ⟨⟨q,hlt⟩,Pv (i+1),λσ' H' p'=>⟨kvs.length - (i+1),by omega,rfl,hlt,p'⟩,λx H' y=>?_⟩
  obtain⟨b,z,hb,rfl,rfl,hz⟩:=y
  exact hs i z b σ H hz hb p
 ·obtain rfl:i=kvs.length:=by omega
  exact .inl ⟨⟨q,Nat.le_refl _⟩,hd σ H p⟩
def Itw(d:Addr)(o:Obj)(kvs:List (Key × V)):It :=
 ⟨λi H=>H d=some (.frz o (.dK kvs))/\i < kvs.length,λi H x H'=>H'=H/\∃p,kvs[i]?=some p/\x=p.2,λi H=>H d=some (.frz o (.dK kvs))/\kvs.length<=i⟩
theorem pC{P:Program}{w:World}{K:W.Frag}{tg:Expr}{d it:Addr}{o:Obj}{kvs:List (Key × V)}{ys:List (Key × Value)}{ep:Nat}(rel:KV kvs ys)(hat:∀h:Heap,h.get? d=some o->h.DictAt (bf P w) d ys ep) :
  xM P w K tg (Itw d o kvs) [it] it (λi h=>h.IsValIter it d i ys.length ep) where
 mem:=by simp
 obj:=λi h st b hb=>by
  obtain rfl:b=it:=by simpa using hb
  obtain⟨o,e,c,hd⟩:=st
  exact⟨o,e,λv z=>by rw [hd] at z;cases z⟩
 keep:=λi h h' st k=>by
  obtain⟨o,e,r⟩:=st
  exact⟨o,k it (by simp) _ e,r⟩
 item:=by
  intro X hP hw hK hc i pins s σ H E I hf st hg
  subst hP hw hK
  obtain⟨hd,hi⟩:=hg
  obtain⟨f0,f1,f2,f3,f4,f5⟩:=hf it (by simp)
  have ex:kvs[i]?=some kvs[i]:=List.getElem?_eq_getElem hi
  obtain⟨⟨k1,y⟩,hy,ek,ry⟩:=aI rel ex
  replace ry:cy kvs[i].2 y:=ry
  refine wpAny_pyNext_values_item st (hat _ (I.hok d _ hd).1) hy λh' st' sb=>?_
  have I1:Inv X pins σ H { s with heap:=h' }:=I.turned (t':=s.toks) (λb o hb e=>(sb.2 b hb).trans e) f0 f1 f3 f4 f5
  obtain⟨o',e,c,dt⟩:=id st'
  exact⟨y,rfl,uz (s:={ s with heap:=h' }) e c dt (by decide) ⟨kvs[i].2,H,I1,ry,⟨rfl,_,ex,rfl⟩,st',λb hb=>(hf b hb).1⟩⟩
 done:=by
  intro X hP hw hK hc i pins s σ H E I hf st hg
  subst hP hw hK
  obtain⟨hd,hi⟩:=hg
  obtain⟨f0,f1,f2,f3,f4,f5⟩:=hf it (by simp)
  have hl:kvs.length=ys.length:=rel.length
  exact wpAny_pyNext_values_end (I.ok.hd hc) st (hat _ (I.hok d _ hd).1) (List.getElem?_eq_none (by omega)) λh' eb=>⟨rfl,I.turned (t':=s.toks) (λb o hb q=>eb b o hb q) f0 f1 f3 f4 f5⟩
 self:=λ_ _ _ _ _ st h=>wpAny_pyIter_valiter st h
section
variable{X:Cx}{tg:Expr}
def yi(to:TE):TI:=λσ H R=>to σ H λx H1=>∃d kvs,x=.ref d/\H1 d=some (.dK kvs)/\∀o,R (Itw d o kvs) (upd H1 d (.frz o (.dK kvs)))
theorem oO{o:Expr}{to:TE}{apos cpos:Pos}(ho:PE X o to) (hbase:attributeBase o "values" X.env (eval o X.env)=eval o X.env:=by rfl) (hline:(apos.endLine==cpos.line)=true:=by rfl) :
  PI X tg (.Call (.Attribute o "values" apos) [] [] cpos) (yi to):=by
 intro pins s σ H R I h
 refine wpAny_Call_method0_late hbase hline (thn (ho pins s σ H _ I h) λv s1 zz=>?_)
 obtain⟨x,H1,I1,r1,d,kvs,ex,hd,q⟩:=zz
 subst ex
 obtain⟨h1,h2⟩:=qR (T:="dict") I1 r1 (.inr (.inr (.inl ⟨rfl,.inl ⟨kvs,hd⟩⟩)))
 cases r1
 obtain⟨z,hs,ys,rel,dd⟩:=kG I1.hok hd
 refine⟨"dict","dict.values",PySem.F.plainAttrs_dict,PySem.F.slot_dict_values,PySem.F.type_dict_values,h1,h2,Calls.callWith_builtin rfl (PySem.evalArgs_none (call_meetsIn PySem.F.slot_dict_values dd.typeIs PySem.F.entry_dict_values (PySem.F.args_dict_values_1 _) (meets_dict_values (bf X.prog X.w) d hs) ⟨⟨ys,dd⟩,?_⟩))⟩
 have hv:(s1.heap.push { cls:=.type "dict_values",data:=.fields #[.ref d] }).IsValuesView s1.heap.objs.size d:=⟨_,Heap.get?_push_size _ rfl,rfl,rfl⟩
 obtain⟨ep,ob,en,e1,r1⟩:=dd.dictAt
 have hat:∀h:Heap,h.get? d=some ob->h.DictAt (bf X.prog X.w) d ys ep:=λh e=>⟨ob,en,e,r1⟩
 refine wpAny_pyIter_values (s:={ s1 with heap:=s1.heap.push { cls:=.type "dict_values",data:=.fields #[.ref d] } }) hv (hat _ (Heap.get?_push_of_some _ e1)) ?_
 have hd2:((s1.heap.push { cls:=.type "dict_values",data:=.fields #[.ref d] }).push { cls:=.type "dict_valueiterator",data:=.fields #[.ref d,.int 0 0,.int ys.length 0,.int ep 0] }).get? d=some ob:=Heap.get?_push_of_some _ (Heap.get?_push_of_some _ e1)
 have I2:=I1.kept (t':=s1.toks) (h':=(s1.heap.push { cls:=.type "dict_values",data:=.fields #[.ref d] }).push { cls:=.type "dict_valueiterator",data:=.fields #[.ref d,.int 0 0,.int ys.length 0,.int ep 0] }) λb u e=>Heap.get?_push_of_some _ (Heap.get?_push_of_some _ e)
 have I3:=I2.write (x:=d) (e:=d) (o:=.frz ob (.dK kvs)) (t':=s1.toks) (h':=(s1.heap.push { cls:=.type "dict_values",data:=.fields #[.ref d] }).push { cls:=.type "dict_valueiterator",data:=.fields #[.ref d,.int 0 0,.int ys.length 0,.int ep 0] }) (by rw [hd];trivial) (.inl rfl) (λ_ _ _ e=>e) ⟨ob,hd2⟩
  ⟨hd2,z,hs,ys,rel,dd.at λo e=>Heap.get?_push_of_some _ (Heap.get?_push_of_some _ e)⟩
 have hn:H1 ((s1.heap.push { cls:=.type "dict_values",data:=.fields #[.ref d] }).objs.size)=none:=I1.hok.fresh (by rw [Heap.size_push];exact Nat.le_succ _)
 refine⟨_,[(s1.heap.push { cls:=.type "dict_values",data:=.fields #[.ref d] }).objs.size],_,_,_,rfl,I3,pC rel hat,⟨_,Heap.get?_push_size _ rfl,rfl,rfl⟩,λb hb=>?_,q ob⟩
 obtain rfl:b=(s1.heap.push { cls:=.type "dict_values",data:=.fields #[.ref d] }).objs.size:=by simpa using hb
 refine I1.fpOk (by rw [Heap.size_push];exact Nat.le_succ _) ?_
 rw [ah (λe=>by rw [e,hd] at hn;cases hn)]
 exact hn
theorem lJ{d:Addr}{o:Obj}{kvs:List (Key × V)}{g:TG}{tb:TS}{D:gZ}{σ:St}{H:Hp}(Pv:Nat->St->Hp->Prop)(h0:Pv 0 σ H)(hl:∀i σ H,i<=kvs.length->Pv i σ H->H d=some (.frz o (.dK kvs)))
  (hs:∀i p σ H,kvs[i]?=some p->Pv i σ H->g p.2 σ H λσ2 H2=>tb { D with nx:=Pv (i+1),ct:=Pv (i+1),bk:=D.nx } σ2 H2) (hd:∀σ H,Pv kvs.length σ H->D.nx σ H) :
  ∃W:Nat->Nat->St->Hp->Prop,(∃m,W 0 m σ H)/\∀i m σ H,W i m σ H ->
   ((Itw d o kvs).stop i H/\D.nx σ H)\/((Itw d o kvs).go i H/\∃N:St->Hp->Prop,(∀σ' H',N σ' H'->∃m',m' < m/\W (i+1) m' σ' H')/\∀x H',(Itw d o kvs).yld i H x H'->g x σ H' λσ2 H2=>tb { D with nx:=N,ct:=N,bk:=D.nx } σ2 H2):=by
 refine⟨λi m σ H=>m=kvs.length - i/\i<=kvs.length/\Pv i σ H,⟨kvs.length,by simp,Nat.zero_le _,h0⟩,?_⟩
 rintro i m σ H ⟨rfl,hi,p⟩
 have q:=hl i σ H hi p
 by_cases hlt:i < kvs.length
 ·refine .inr ⟨⟨q,hlt⟩,Pv (i+1),λσ' H' p'=>⟨kvs.length - (i+1),by omega,rfl,hlt,p'⟩,λx H' y=>?_⟩
  obtain⟨rfl,z,hz,rfl⟩:=y
  exact hs i z σ _ hz p
 ·obtain rfl:i=kvs.length:=by omega
  exact .inl ⟨⟨q,Nat.le_refl _⟩,hd σ H p⟩
end
theorem uT{X:Cx}{e:Expr}{t:TE}(h:PE X e t):PE X e (λσ H Q=>t σ H λv H'=>∃d o u,H' d=some (.frz o u)/\(∀o' u',X.H₀ d≠some (.frz o' u'))/\Q v (upd H' d u)) :=
 λpins s σ H _ I q=>thn (h pins s σ H _ I q) λ_ _ ⟨x,_,I',r,_,_,_,e,h0,q'⟩=>⟨x,_,I'.thaw e h0,r,q'⟩
theorem rR{d:Addr}{o:Obj}{kvs:List (Key × V)}{n:Nat}{κ:List Nat}{g:TG}{tc:TT}{te:TE}{σ:St}{H:Hp}{Q:VK}(Pv:Nat->List V->Hp->Prop)(h0:Pv 0 [] H)(hz:kvs.length<=sizeLine)(hlen:∀i ys H2,Pv i ys H2->ys.length<=i)
  (hl:∀i ys H2,Pv i ys H2->H2 d=some (.frz o (.dK kvs)))
  (hs:∀i p a ys H2 (N:List V->Hp->Prop),(∀ys' H',Pv (i+1) ys' H'->N ys' H')->kvs[i]?=some p->H2 a=none->Pv i ys H2->g (.ref a) (dO n κ σ) (upd H2 a (.tup [kV p.1,p.2])) λσ4 H4=>σ4.drop n=(dO n κ σ).drop n/\tc σ4 H4 λb H5=>if b=true then te σ4 H5 λv H6=>N (ys++[v]) H6 else N ys H5)
  (hQ:∀ys H2 D,Pv kvs.length ys H2->H2 D=none->Q (.ref D) (upd H2 D (.lst ys))) :
  gT n κ g tc te σ (Itd d o kvs) H Q:=by
 refine⟨λi m ys H2=>m=kvs.length - i/\i<=kvs.length/\Pv i ys H2,⟨kvs.length,rfl,Nat.zero_le _,h0⟩,?_⟩
 rintro i m ys H2 ⟨rfl,hi,p⟩
 have hd:=hl i ys H2 p
 by_cases hlt:i < kvs.length
 ·refine .inr ⟨⟨hd,hlt⟩,Nat.lt_of_le_of_lt (hlen i ys H2 p) (Nat.lt_of_lt_of_le hlt hz),λx H3 y=>?_⟩
  obtain⟨a,z,ha,rfl,rfl,hz'⟩:=y
  exact hs i z a ys H2 (λys' H'=>∃m',m' < kvs.length - i/\m'=kvs.length - (i+1)/\i+1<=kvs.length/\Pv (i+1) ys' H') (λys' H' p'=>⟨kvs.length - (i+1),by omega,rfl,hlt,p'⟩) hz' ha p
 ·obtain rfl:i=kvs.length:=by omega
  exact .inl ⟨⟨hd,Nat.le_refl _⟩,λD hD=>hQ ys H2 D p hD⟩
section
variable{X:Cx}
theorem iQ:gU X (.builtin "isinstance") (λxs H Q=>∃x y u t b,xs=[x,y]/\(∀u',cy y u'->u'=u)/\qO X.K H x t/\W.kitOne X.K t u=some b/\Q (.bl b) H):=by
 intro pins s σ H xs us Q I rv h
 obtain⟨x,y,u,t,b,rfl,hu,ty,hk,q⟩:=h
 obtain⟨u1,u2,rfl,r1,r2⟩:=rv.two
 rw [hu u2 r2]
 exact iD I r1 ty hk λtk=>⟨.bl b,H,I.tok _,rfl,q⟩
end
section
variable{X:Cx}{K:W.Frag}
theorem eqK(h:X.K=K)(hu:X.A.units+64 < cLine):OpR X (compareOp .Eq) (Ba K false):=by subst h;exact xS hu
theorem neK(h:X.K=K)(hu:X.A.units+64 < cLine):OpR X (compareOp .NotEq) (Ba K true):=by subst h;exact AL hu
def BB(K:W.Frag):R2:=λx y H Q=>∃a b xs ys,x=.ref a/\y=.ref b/\SqT K H a xs/\SqT K H b ys/\ys≠[]/\xs.length+ys.length<=sizeLine /\
 ∀p H',ao H H'->SqT K H' p (xs++ys)->Q (.ref p) H'
theorem xX:OpR X (binaryOp .Add) (BB X.K):=by
 intro pins s σ H x y v u Q I rx ry h
 obtain⟨a,b,xs,ys,rfl,rfl,ha,hb,hy,hz,q⟩:=h
 by_cases hx:xs=[]
 ·subst hx
  cases rx
  cases ry
  obtain⟨its,r1,p1,_⟩:=I.tuple ha
  obtain⟨its2,r2,p2,_⟩:=I.tuple hb
  cases r1
  obtain⟨o1,e1,c1,n1,d1⟩:=p1
  obtain⟨o2,e2,c2,n2,d2⟩:=p2
  obtain⟨oc1,od1,dt1,sl1⟩:=o1
  obtain⟨oc2,od2,dt2,sl2⟩:=o2
  dsimp only at c1 d1 c2 d2
  subst c1 d1 c2 d2
  exact concat_meets ⟨_,e1,rfl⟩ ⟨_,e2,rfl⟩ noFill_tuple_add seq_tuple_add PySem.F.slot_tuple_add PySem.F.entry_tuple_add (PySem.F.args_tuple_add_2 _ _)
   (tuple_addW0 a b _ its2.toArray n1 n2 od1 od2 sl1 sl2 rfl) ⟨e1,e2,.ref b,H,I,rfl,q b H (λ_ _ e=>e) hb⟩
 ·refine x2 pins s σ H _ _ v u Q I rx ry ⟨a,b,xs,ys,rfl,rfl,ha,hb,hx,hz,λz=>absurd z hy,λ_ p hp=>q p _ (λb u e=>by rw [ah (aw e hp)];exact e) (SqT.of aa)⟩
theorem qZ{i j:Nat}{x y:Str}{k:Nat}{px py pt:Pos}(hK:X.K=K)(hc:X.calm=true)(hN:X.N.Nodup)(hi:X.N[i]?=some x)(hx:Loc X.env.scope x)(hfx:X.fn x=true\/X.env.scope.names.lookup x=some .local)
  (hj:X.N[j]?=some y) (hy:Loc X.env.scope y) (hfy:X.fn y=true\/X.env.scope.names.lookup y=some .local):PG X (.Tuple [.Name x px,.Name y py] k pt) (Be K 2 (qf (jm i) (qf (jm j) Bb))):=by
 subst hK
 exact cC hc (ap (ar hN hi hx hfx) (ap (ar hN hj hy hfy) bC))
end
def ze(tk tv:TE):TE:=λσ H Q=>∀p,H p=none->tk σ (upd H p (.dT [])) λx H1=>tv σ H1 λy H2=>∃b ks,x=.ref b/\H2 p=some (.dT [])/\H2 b=some (.tup (ks.map kV))/\Q (.ref p) (upd H2 p (.dT (cI [] ks y)))
theorem uE{X:Cx}{pos:Pos}{k v:Expr}{tk tv:TE}(hu:X.A.units+1 < cLine)(hk:PE X k tk)(hv:PE X v tv):PE X (.Dict [some k] [v] pos) (ze tk tv):=by
 intro pins s σ H Q I q
 have hn:=I.hok.fresh (Nat.le_refl s.heap.objs.size)
 have I1:=I.laid (a:=s.heap.objs.size) (o:=.dT []) (h':=s.heap.push { cls:=.type "dict",data:=.dict #[] }) (t':=s.toks) (λ_ _ q=>Heap.get?_push_of_some _ q) (Nat.le_refl _) (rB s.heap I.big)
 have h1:=q _ hn
 refine wpAny_Dict_any rfl rfl (by intro z;cases z) (by show 1<=15;decide) (pairTrees_cons_walk (thn (hk pins _ σ _ _ I1 h1) λu s1 ⟨x,H1,I2,rx,q1⟩=>thn (hv pins s1 σ H1 _ I2 q1) λw2 s2 ⟨y,H2,I3,ry,b,ks,ex,ea,eb,q2⟩=>pairTrees_nil_walk ?_))
 subst ex
 cases rx
 obtain⟨z,hd,xs,rel,dd⟩:=zZ I3.hok ea
 cases rel
 have room:HeapKind.room (tupleKind (bf X.prog X.w)) X.A:=(show X.A.units < cLine from Nat.lt_of_succ_lt hu)
 unfold storeAll
 rw [List.forIn_cons]
 refine wpAny_bind (wpAny_bind (wpAny_dictSet_heap (hsz:=Nat.zero_le _) room (jx I3.hok eb) dd λh' dd' hs=>wpAny_pure ?_))
 show wpAny _ _ (forIn [] PUnit.unit _) _ _ _
 rw [List.forIn_nil]
 refine wpAny_pure ⟨.ref s.heap.objs.size,_,?_,rfl,q2⟩
 obtain⟨o,es,ep,hq,h2,h3,h4,_,h5⟩:=dd'
 refine jn I3 (by rw [ea];exact True.intro) hs ⟨o,hq⟩ ⟨by have:=cN ([]:List (List Key × V)) ks y;exact Nat.le_trans this (by show 0+1<=sizeLine;decide),hd,_,(KT.put (H:=H2) (kvs:=[]) (xs:=[]) .nil ks eb ry).keeps λc ys ec=>?_,o,es,ep,hq,h2,h3,h4,h5⟩
 rw [ah (yK ec ea (λz=>nomatch z))]
 exact ec
def zE(K:W.Frag)(C:Addr)(bmB:List Value)(newId:String):Bool:=match K.lookup C with|some ⟨.type "type",_,.cls cd,sl⟩=>(match cd.mro,sl.toList with|.ref C'::bm,[_,_,_,_,some (.builtin n),_]=>C'==C&&n==newId&&!cd.hasDel&&W.tailIn K bmB bm|_,_=>false)|_=>false
structure C1(h:Heap)(C:Addr)(bmB:List Value)(newId:String):Prop where
 obj:∃bm N nm q bs hdct sn sub ab col dd k0 k1 k2 k3 k5,h.get? C=some (excClassObj nm q C N bs bm hdct sn sub ab col dd k0 k1 k2 k3 k5 newId)/\OwnTail h bmB bm
section
variable{prog:Program}{w:World}{A:Around}{E:Value->Shared->Prop}{h:Heap}{g:Array GenState}{d:Drawn}{t:Nat}{os:OsState}{K:W.Frag}{C fI:Addr}{us:List Value}
end
section
variable{prog:Program}{w:World}{A:Around}{E:Value->Shared->Prop}{s:Shared}{env:Env}{K:W.Frag}{C fI:Addr}
end
section
variable{X:Cx}{pins:List (Addr × Obj)}{σ:St}{H:Hp}{s:Shared}{x:Addr}
end
section
variable{P:Program}{w:World}{K:W.Frag}{mg:Str->Option Value}{base:Heap}
structure MkX(K:W.Frag)(C fI:Addr):Prop where
 ex:zE K C Cg "ValueError.__new__"=true
 init:W.findIn K (.ref C) "__init__"=some (some (.ref fI))
 fn:W.typeIn K (.ref fI)=some (.type "function")
end
end L2
namespace L2
open PySem PySem.Spec PyProof.Rows Builtin Builtin.ObjectAttr
def zg(l:List Value):Bool:=l.dropWhile (fun|.ref _=>true|_=>false)==Cg
structure Cb(K:W.Frag)(C:Addr):Prop where
 sa:W.findIn K (.ref C) "__setattr__"=some (some (.builtin "object.__setattr__"))
 po:(W.clsIn K C).any (λcd=>zg cd.mro)=true
 hd:W.hasDictIn K C=true
 ob:W.mroIn K C (.type "object")=some true
section
variable{prog:Program}{w:World}{A:Around}{E:Value->Shared->Prop}{s:Shared}{K:W.Frag}{x C:Addr}{name:Str}{v:Value}
end
section
variable{X:Cx}{pins:List (Addr × Obj)}{σ:St}{H H0:Hp}{s s0:Shared}{dx:Addr}
end
section
variable{X:Cx}{o value:Expr}{f:Str}{pos pos':Pos}{ta tv:TE}
end
structure Co(K:W.Frag)(R:Addr):Prop where
 ga:W.specialIn K (.ref R) "__getattribute__"=some (some (.builtin "type.__getattribute__"))
 rd:W.readsIn K R (.type "type")=true
 fi:W.findCls K (.ref R) (.type "type") "__init__"=some (.val (.builtin "ValueError.__init__"))
section
variable{prog:Program}{w:World}{A:Around}{E:Value->Shared->Prop}{s:Shared}{K:W.Frag}{x D:Addr}{name:Str}{v:Value}
end
section
variable{X:Cx}{e:Expr}{f:Str}{pos:Pos}{ta:TE}
end
end L2
namespace L2
open PySem PySem.Spec PyProof.Rows
structure Shw(d:PyData)(n m:Nat):Prop where
 sh:d.showable=true
 nd:d.hasDict=false
 dp:d.depth<=m
 ln:d.shown.length<=n
structure C4(ds:List PyData)(n m:Nat):Prop where
 sh:PyData.showableAll ds=true
 nd:PyData.hasDictAll ds=false
 dp:PyData.depthAll ds<=m
 ln:piled (PyData.shownAll ds)<=n
section
variable{X:Cx}{k:Nat}{pos:Pos}{e:Expr}{te:TE}
end
section
variable{α β:Type}
variable{P:Shared->Prop}
end
section
variable{X:Cx}{st:Stmt}{rest:List Stmt}{t u:TS}{pos:Pos}
end
end L2
namespace L2
open PySem
section
variable{prog:Program}{w:World}{A:Around}{E:Value->Shared->Prop}{s:Shared}
end
end L2
namespace L2
open PySem PySem.Spec PyProof.Rows
section
variable{X:Cx}{pos:Pos}{e:Expr}{es:List Expr}{te:TE}
theorem gP{X:Cx}{ss:List Stmt}:PSs X ss (λ_ _ _=>False):=λ_ _ _ _ _ _ h=>h.elim
end
section
variable{prog:Program}{w:World}{A:Around}{R:Result->Shared->Prop}{I S:Addr}{fp wr:List Addr}{n:Nat}{P:Nat->Value->Prop}{St:Nat->Heap->Prop}{d:Value}
end
section
variable{X:Cx}{e:Expr}{es:List Expr}{kws:List Keyword}{t tk:TA}{p pos:Pos}
end
structure DKt(K:W.Frag)(w:World)(a:Addr)(ps:List (Str × Int)):Prop where
 ns:(a==sysModules)=false
 at_:∀(P:Program) (h:Heap),K.In h->∃vs:List (Key × Value),KV (ps.map λp=>((Sum.inr p.1:Key),V.int p.2)) vs/\h.DictOf (bf P w) a vs
section
variable{X:Cx}{o i:Expr}{pos:Pos}{td ty:TE}
end
section
variable{P:Program}{w:World}{K:W.Frag}{mg:Str->Option Value}{base:Heap}
end
section
variable{prog:Program}{w:World}{A:Around}{E:Value->Shared->Prop}{s:Shared}
end
theorem AD{P:Program}{w:World}{H:Hp}{h:Heap}{a:Addr}{kvs:List (List Key × V)}{es:Array DictEntry}{ep:Nat}(x:dl P w H h a (.dT kvs))(r:qj h a es ep):kvs.length=es.size/\∀(i:Nat) (p:List Key × V),kvs[i]?=some p->∃(k:Addr) (v:Value) (hi:i < es.size),es[i].key=.ref k/\es[i].val=v/\H k=some (.tup (p.1.map kV))/\cy p.2 v:=by
 obtain⟨z,hd,ys,rel,o,es2,ep2,e,ex,dt,eqs,_⟩:=x
 obtain⟨o',e',_,dt'⟩:=r
 rw [e] at e'
 cases e'
 rw [dt] at dt'
 cases dt'
 have hl2:kvs.length=ys.length:=Paired.length rel
 have hlen:es.size=ys.length:=by
  have:=congrArg List.length eqs
  rw [List.length_map] at this
  simpa using this
 refine⟨by rw [hl2,hlen],λi p hp=>?_⟩
 obtain⟨q,hq,h1,h2,h3⟩:=aI rel hp
 have hi:i < es.size:=by
  rw [hlen]
  exact(List.getElem?_eq_some_iff.mp hq).1
 have e1:es.toList[i]?=some es[i]:=by simp [hi]
 rw [eqs,List.getElem?_map,hq] at e1
 have e2:=Option.some.inj e1
 exact⟨q.2.1,q.2.2,hi,by rw [<-e2];rfl,by rw [<-e2];rfl,h2,h3⟩
section
variable{X:Cx}
theorem nV(hc:X.calm=true):gU X (.type "list") (λxs H Q=>∃a kvs,xs=[.ref a]/\H a=some (.dK kvs)/\∀l,H l=none->Q (.ref l) (upd H l (.lst (kvs.map λp=>kV p.1)))):=by
 intro pins s σ H xs us Q I r h
 obtain⟨a,kvs,rfl,ha,q⟩:=h
 obtain⟨u,rfl,ru⟩:=kJ r
 cases ru
 obtain⟨z,hd,ys,rel,o,es,ep,e,ex,dt,_,prs,_⟩:=kG I.hok ha
 have hl1:=prs.length
 have hl2:kvs.length=ys.length:=rel.length
 have hlen:es.size=kvs.length:=by rw [hl2,<-hl1];simp
 refine W.kdl_call (uv hd) (I.ok.hd hc) ⟨o,e,ex,dt⟩ (by rw [hlen];exact z) λh' tk acc' c' hk hD hacc=>?_
 have al:acc'.toList.length=kvs.length:=by rw [Array.length_toList,hacc.1,hlen]
 have vr:cr (kvs.map λp=>kV p.1) acc'.toList:=by
  have:∀(ks:List V) (us:List Value),ks.length=us.length->(∀(j:Nat) (k:V) (u:Value),ks[j]?=some k->us[j]?=some u->cy k u)->cr ks us:=λks=>by
   induction ks with
   |nil =>
    intro us hl _
    cases us with
    |nil=>exact .nil
    |cons _ _=>cases hl
   |cons k ks ih =>
    intro us hl hh
    cases us with
    |nil=>cases hl
    |cons u us=>exact .cons (hh 0 k u rfl rfl) (ih us (Nat.succ.inj hl) λj k' u' h1 h2=>hh (j+1) k' u' h1 h2)
  refine this _ _ (by rw [List.length_map,al]) λj k u h1 h2=>?_
  rw [List.getElem?_map] at h1
  obtain⟨p,hp,rfl⟩:=Option.map_eq_some_iff.mp h1
  obtain⟨⟨k1,y⟩,hy,ek,_⟩:=aI rel hp
  replace ek:p.1=k1:=ek
  obtain⟨en,hen,hu⟩:=hacc.2 j u (by rw [<-h2];simp)
  have e1:es.toList[j]?=some en:=by rw [<-hen];simp
  rw [hu,ek]
  exact pN (prs.get? e1 hy).1
 refine⟨.ref s.heap.objs.size,_,I.laid (o:=.lst (kvs.map λp=>kV p.1)) hk (Nat.le_refl _) ?_,rfl,q _ (I.hok.fresh (Nat.le_refl _))⟩
 refine⟨by rw [List.length_map];exact z,_,c',vr,?_⟩
 rw [hD]
end
end L2
namespace L2
open PySem PySem.Spec PyProof.Rows PySem.Calls
section
variable{prog:Program}{w:World}{K:Type}[DecidableEq K]{knd:HeapKind prog w K}{A:Around}{E:Value->Shared->Prop}{s:Shared}
end
end L2
namespace L2
open PySem PySem.Spec PyProof.Rows PySem.W
section
variable{prog:Program}{w:World}{A:Around}{E:Value->Shared->Prop}{s:Shared}
structure C3(es:Array DictEntry)(lo:Addr)(h:Heap)(as:List Addr):Prop where
 rise:as.Pairwise (· < ·)
 up:∀a∈as,lo < a
 at':∀(j:Nat) (a:Addr),as[j]?=some a->∃en,es[j]?=some en/\h.get? a=some { cls:=.type "tuple",data:=.seq #[en.key,en.val] }
end
section
variable{prog:Program}{w:World}{A:Around}{s:Shared}{R:Result->Shared->Prop}{es:Array DictEntry}{ep:Nat}
end
section
variable{prog:Program}{w:World}{A:Around}{E:Value->Shared->Prop}{s:Shared}{r d:Addr}{es:Array DictEntry}{ep:Nat}
end
end L2
namespace L2
open PySem PySem.Spec PyProof.Rows
section
variable{prog:Program}{w:World}{A:Around}{E:Value->Shared->Prop}{s:Shared}
end
section
variable{X:Cx}{l:Expr}{tl:TE}{p p2 pos pos2:Pos}
end
theorem oa:entryFor table "dict.update.loop"=some Builtin.«dict.update.loop»:=entryFor_of_tree (by kernel_rfl)
theorem iz:plainId "dict.update.loop"=true:=by decide +kernel
theorem pW:typeLookup (.type "list") "keys"=pure none:=by rw [typeLookup_type,builtinLookup_eq_fast];kernel_rfl
section
variable{prog:Program}{w:World}{A:Around}{E:Value->Shared->Prop}{s:Shared}{a:Addr}{xs:Array Value}{k:Nat}{sl:Array (Option Value)}
theorem lX{Q:Option Value->Shared->Prop} (hx:s.heap.get? a=some { cls:=.type "list",dict:=none,data:=.seq xs k,slots:=sl }) (hA:A.handled=none)
  (h:∀h' tk,(∀b o,s.heap.get? b=some o->h'.get? b=some o)->Q none { s with heap:=h',toks:=tk }):wpAny (model prog w) A (getAttr? (.ref a) "keys") Q E s:=by
 obtain⟨hp,g,d,tk,os⟩:=s
 have hT:∀tk',(⟨hp,g,d,tk',os⟩:Shared).TypeIs (.ref a) "list":=λ_=>⟨_,hx,rfl⟩
 have f1:=sub_AttributeError
 have f3:=F.slot_list_getattribute.lookup
 have f4:=F.slot_list_getattribute.bind (.ref a)
 have f5:=am_list_getattr_none
 unfold getAttr? getAttrBy? getAttrBy
 repeat (any_goals (first|assumption|exact hT _|((with_reducible show wpAny _ _ (call (Value.builtin "list.__getattribute__") _ _) _ _ _);refine call_meets F.slot_list_getattribute (hT _) am_entry_list_getattribute (F.args_list_getattribute_2 _ _) (meets_getattribute_miss_list a xs k sl "keys" _ pW (by decide +kernel)) ⟨hx,hA,λh' tk' e hx'=>?_⟩)|wp_step))
 obtain⟨t',u',he⟩:=hx'.there
 show wpAny _ _ (getattributeRaised _ _ _ _ _ _ _) _ _ _
 unfold getattributeRaised
 repeat (any_goals (first|assumption|wp_step))
 exact h _ _ hx'.of.keeps
end
section
variable{X:Cx}{pins:List (Addr × Obj)}{σ:St}
end
section
variable{prog:Program}{w:World}{A:Around}{E:Value->Shared->Prop}{s:Shared}{K:Type}[DecidableEq K]{knd:HeapKind prog w K}
end
section
variable{M:Model}{A:Around}{E:Value->Shared->Prop}{s:Shared}
end
section
variable{X:Cx}{pins:List (Addr × Obj)}{σ:St}{H H':Hp}{s s':Shared}{x C:Addr}{cls:Value}{d:Option Addr}
end
section
variable{P:Program}{w:World}{K:W.Frag}{mg:Str->Option Value}{base:Heap}{N:List Str}{qual:Str}{scope:Scope}{f:Addr}{cd:Value}{A:Around}{outer:List Env}{s:Shared}{H:Hp}{E:XK}
end
def cH(acc:List (Key × V))(ps:List (Key × V)):List (Key × V):=ps.foldl (λr p=>cI r p.1 p.2) acc
section
variable{X:Cx}{pins:List (Addr × Obj)}{σ:St}
theorem wj{A:Around}(hh:A.handled=none)(hu:A.units+2 < cLine){l it d:Addr}{R:Result->Shared->Prop}{as:List Addr}{ps:List (Key × V)}{H:Hp}(hd:H d=none)(hdi:d≠it)(hl:H l=some (.lst (as.map V.ref)))
  (hps:Paired (fun(p:Key × V) (a:Addr)=>H a=some (.tup [kV p.1,p.2])) ps as) (fo:oY X pins H it):∀(n i:Nat) (s:Shared) (acc:List (Key × V)) (t:Tok),as.length - i=n->i<=as.length ->
   Inv X pins σ (upd H d (.dK acc)) s->s.heap.IsListIter it l i->acc.length+n < sizeLine->(∀s',Inv X pins σ (upd H d (.dK (cH acc (ps.drop i)))) s'->R (.ok (.ret .none)) s') ->
   codeAny (model X.prog X.w) A (.builtin "dict.update.loop" ⟨[.ref d,.ref it,.int i t,.none],[]⟩) R s:=by
 have hlen:ps.length=as.length:=hps.length
 have hnd:∀{b:Addr} {o:HO},H b=some o->b≠d:=λe z=>by rw [z,hd] at e;cases e
 obtain⟨f0,f1,f2,f3,f4,f5⟩:=fo
 intro n
 induction n with
 |zero =>
  intro i s acc t hn hi I st hz hR
  have hl':upd H d (.dK acc) l=some (.lst (as.map V.ref)):=by rw [ah (hnd hl)];exact hl
  obtain⟨its,rv,p,_⟩:=I.list (a:=l) (xs:=as.map V.ref) (.inl (.inl hl'))
  have hlv:=rv.length
  rw [List.length_map] at hlv
  refine codeAny_builtin oa ?_
  rw [Around.under_plainId iz]
  refine(show wpAny _ A.in1 (pyNext (.ref it) >>= _) _ _ s from wpAny_bind (wpAny_pyNext_list_end hh st p.isList (by simp;omega) λh' eb=>?_))
  have I1:=I.turned (t':=s.toks) (h':=h') (λb o hb e=>eb b o hb e) (by rw [ah (Ne.symm hdi)];exact f0) f1 f3 f4 f5
  have e:ps.drop i=[]:=List.drop_eq_nil_of_le (by omega)
  rw [e] at hR
  exact(show wpAny _ _ (Builtin.Dict.addKeywords d [] >>= _) _ _ _ from wpAny_bind (wpAny_pure (wpAny_pure (hR _ I1))))
 |succ n ih =>
  intro i s acc t hn hi I st hz hR
  have hl':upd H d (.dK acc) l=some (.lst (as.map V.ref)):=by rw [ah (hnd hl)];exact hl
  obtain⟨its,rv,p,_⟩:=I.list (a:=l) (xs:=as.map V.ref) (.inl (.inl hl'))
  have hia:i < as.length:=by omega
  have hip:i < ps.length:=by omega
  obtain⟨a,ha,hak⟩:=aI hps (List.getElem?_eq_getElem hip)
  obtain⟨u,hu',ru⟩:=rv.get (show(as.map V.ref)[i]?=some (V.ref a) by rw [List.getElem?_map,ha];rfl)
  cases ru
  refine codeAny_builtin oa ?_
  rw [Around.under_plainId iz]
  refine(show wpAny _ A.in1 (pyNext (.ref it) >>= _) _ _ s from wpAny_bind (wpAny_pyNext_list_item st p.isList (x:=.ref a) (by simpa using hu') λh' st' sb=>?_))
  have I1:=I.turned (t':=s.toks) (h':=h') (λb o hb e=>(sb.2 b hb).trans e) (by rw [ah (Ne.symm hdi)];exact f0) f1 f3 f4 f5
  obtain⟨kvs2,rkv,⟨ob,eo,co,nn,od⟩,_⟩:=I1.tuple (a:=a) (xs:=[kV ps[i].1,ps[i].2]) (.inl (.inl (by rw [ah (hnd hak)];exact hak)))
  obtain⟨u1,u2,ekv,r1,r2⟩:=Bv rkv
  subst ekv
  refine(show wpAny _ A.in1 (holding [.ref a] _ >>= _) _ _ _ from wpAny_bind (wpAny_holding ?_))
  refine wpAny_bind (wpAny_tryCatch ?_)
  unfold Builtin.Dict.pairItems
  refine wpAny_bind (wpAny_typeOf (T:="tuple") ⟨ob,eo,co⟩ ?_)
  rw [if_pos (by decide)]
  refine wpAny_bind (wpAny_seqItems eo od (wpAny_pure ?_))
  refine(show wpAny _ A.in1 (holding [u1,u2] (dictSet d u1 u2)) _ _ _ from wpAny_holding ?_)
  obtain⟨z,hds,xs,rel,dd⟩:=kG I1.hok (aa (H:=H) (a:=d) (o:=.dK acc))
  have hz2:xs.length<=sizeLine:=by rw [<-rel.length];exact z
  have hlp:(cI acc ps[i].1 ps[i].2).length<=acc.length+1:=cN acc _ _
  refine wpAny_dictSet_pairs (hsz:=hz2) (mo r1) dd λh2 dd' hs=>?_
  have I2:=jn (t':=s.toks+1) (ob:=.dK (cI acc ps[i].1 ps[i].2)) I1 (by rw [aa];exact True.intro) hs (let ⟨q,_,_,hq,_⟩:=dd';⟨q,hq⟩) (ql (by omega) hds (rel.put ps[i].1 r2) dd')
  rw [ji] at I2
  refine wpAny_pure ⟨plainId_quiet iz _,ih (i+1) _ (cI acc ps[i].1 ps[i].2) 0 (by omega) (by omega) I2 (st'.at λo e=>(hs.2 it (Ne.symm hdi)).trans e) (by omega) λs' I'=>hR s' ?_⟩
  rw [List.drop_eq_getElem_cons hip]
  exact I'
theorem bD(hc:X.calm=true)(hu:X.A.units+8 < cLine):gU X (.type "dict") (λxs H Q=>∃l as ps,xs=[.ref l]/\H l=some (.lst (as.map V.ref))/\Paired (fun(p:Key × V) (a:Addr)=>H a=some (.tup [kV p.1,p.2])) ps as/\ps.length < sizeLine /\
  ∀d,H d=none->Q (.ref d) (upd H d (.dK (cH [] ps)))):=by
 intro pins s σ H xs us Q I r h
 obtain⟨l,as,ps,rfl,hl,hps,hz,q⟩:=h
 obtain⟨u,rfl,ru⟩:=kJ r
 cases ru
 have hlen:ps.length=as.length:=hps.length
 refine callType_codes (Q₁:=λobj s₁=>obj=.ref s.heap.objs.size/\s₁={ s with heap:=s.heap.push { cls:=.type "dict",data:=.dict #[] } }) F.kt_called_dict (F.kt_typeCall_dict_1 _) F.entry_dict_init (kt_code_dict_new _ ⟨rfl,rfl⟩) ?_
 rintro obj s₁ ⟨rfl,rfl⟩
 have hdn:H s.heap.objs.size=none:=I.hok.fresh (Nat.le_refl _)
 have gd:(s.heap.push { cls:=.type "dict",data:=.dict #[] }).get? s.heap.objs.size=some { cls:=.type "dict",data:=.dict #[] }:=Heap.get?_push_size _ rfl
 have I1:Inv X pins σ (upd H s.heap.objs.size (.dK [])) { s with heap:=s.heap.push { cls:=.type "dict",data:=.dict #[] } }:=I.laid (a:=s.heap.objs.size) (o:=.dK []) (t':=s.toks) (λ_ _ q=>Heap.get?_push_of_some _ q) (Nat.le_refl _) (mT s.heap I.big)
 have hld:l≠s.heap.objs.size:=λz=>by rw [z,hdn] at hl;cases hl
 obtain⟨its,rv,p,_⟩:=I1.list (a:=l) (xs:=as.map V.ref) (.inl (.inl (by rw [ah hld];exact hl)))
 refine⟨⟨_,gd,rfl⟩,F.args_dict_init_2 _ _,?_⟩
 unfold Builtin.«dict.__init__»
 refine wpAny_bind ?_
 unfold Builtin.Dict.selfAndRest
 refine wpAny_bind (wpAny_notOrdered_dict (show Shared.TypeIs _ (.ref s.heap.objs.size) "dict" from⟨_,gd,rfl⟩) ?_)
 refine(show wpAny _ _ (pure (s.heap.objs.size,[Value.ref l])) _ _ _ from wpAny_pure ?_)
 show wpAny _ _ (Builtin.Dict.updateFrom "dict.__init__" s.heap.objs.size (.ref l) [] .none) _ _ _
 unfold Builtin.Dict.updateFrom
 refine wpAny_bind (wpAny_typeOf p.isList.typeIs ?_)
 rw [if_pos (by decide)]
 obtain⟨⟨cl,dc,da,sl⟩,n0,gl,e1,e2,e3⟩:=id p
 simp only at e1 e2 e3
 subst e1 e2 e3
 refine wpAny_bind (lX gl (I.ok.hd hc) λh' tk hk=>?_)
 rw [if_pos (by decide)]
 have I2:=I1.kept (t':=tk) (h':=h') λb o e=>hk b o e
 have le:s.heap.objs.size < h'.objs.size:=Heap.lt_size (hk _ _ gd)
 refine wpAny_bind (wpAny_rule ?_)
 refine wpAny_bind (wpAny_pyIter_list (p.isList.at λo e=>hk l o e) ?_)
 have I3:=I2.kept (t':=tk) (h':=h'.push { cls:=.type "list_iterator",data:=.fields #[.ref l,.int 0 0] }) λb o e=>Heap.get?_push_of_some _ e
 have fo:oY X pins H h'.objs.size:=I2.fpOk (Nat.le_refl _) (I.hok.fresh (Nat.le_of_lt le))
 refine wpAny_pure ⟨plainId_quiet iz _,wj (X:=X) (pins:=pins) (σ:=σ) (A:=X.A.in1) (I.ok.hd hc) (by show X.A.units+1+2 < cLine;omega) hdn (Nat.ne_of_lt le) hl hps fo as.length 0 _ [] 0 (Nat.sub_zero _) (Nat.zero_le _) I3 ⟨_,Heap.get?_push_size _ rfl,rfl,rfl⟩ (by rw [List.length_nil];omega) λs' I'=>⟨rfl,.ref s.heap.objs.size,_,I',rfl,?_⟩⟩
 rw [List.drop_zero]
 exact q _ hdn
end
end L2
namespace HT
open PySem PySem.Spec PyProof.Rows
section
variable{prog:Program}{w:World}{A:Around}{E:Value->Shared->Prop}{s:Shared}
end
end HT
namespace L2
open PySem PySem.Spec PyProof.Rows
section
variable{X:Cx}
theorem j4:gU X (.builtin "isinstance") (λxs H Q=>∃a ys,xs=[.ref a,.ty "tuple"]/\SqT X.K H a ys/\Q (.bl true) H):=by
 intro pins s σ H xs us Q I rv h
 obtain⟨a,ys,rfl,hq,q⟩:=h
 obtain⟨u,v,rfl,r1,r2⟩:=rv.two
 cases r2
 cases (show u=Value.ref a from r1)
 obtain⟨its,_,⟨o,h1,h2,_⟩,_⟩:=I.tuple hq
 exact W.kia_one (t:=.type "tuple") (b:=true) W.kitx_tuple I.kIn ⟨o,h1,h2⟩ rfl (λz=>nomatch z) λtk=>⟨.bl true,H,I.tok _,rfl,q⟩
theorem kZ:gU X (.builtin "isinstance") (λxs H Q=>∃x,xs=[x,.ty "tuple"]/\((∃z,x=.str z/\Q (.bl false) H)\/(∃i,x=.int i/\Q (.bl false) H)\/∃a ys,x=.ref a/\SqT X.K H a ys/\Q (.bl true) H)):=by
 intro pins s σ H xs us Q I rv h
 obtain⟨x,rfl,h⟩:=h
 rcases h with ⟨z,rfl,q⟩|⟨i,rfl,q⟩|⟨a,ys,rfl,hq,q⟩
 ·obtain⟨u,v,rfl,r1,r2⟩:=rv.two
  cases r2
  exact iD (t:=.type "str") (b:=false) I r1 (.str z) rfl λtk=>⟨.bl false,H,I.tok _,rfl,q⟩
 ·obtain⟨u,v,rfl,r1,r2⟩:=rv.two
  cases r2
  exact iD (t:=.type "int") (b:=false) I r1 (.int i) rfl λtk=>⟨.bl false,H,I.tok _,rfl,q⟩
 ·exact j4 pins s σ H _ us Q I rv ⟨a,ys,rfl,hq,q⟩
end
section
variable{X:Cx}{tg:Expr}
end
end L2
namespace HT
open PySem PySem.Spec PyProof.Rows
section
variable{prog:Program}{w:World}{K:Type}[DecidableEq K]{knd:KeyKind prog w K}{A:Around}{E:Value->Shared->Prop}{s:Shared}{r d:Addr}{kvs:List (K × Value)}{ep:Nat}
theorem qg{Q:Value->Shared->Prop}(hno:A.handled=none)(hv:s.heap.IsItemsView r d)(hd:Heap.DictAt knd s.heap d kvs ep)(hl:kvs.length<=sizeLine)
  (hQ:∀(h':Heap) (tk:Nat) (acc:Array Value) (c:Nat) (as:List Addr),(∀b o,s.heap.get? b=some o->h'.get? b=some o)->h'.get? s.heap.objs.size=some { cls:=.type "list",data:=.seq acc c }->as.length=kvs.length->W.KdxG knd kvs s.heap.objs.size h' as->acc.toList=as.map Value.ref->Q (.ref s.heap.objs.size) { s with heap:=h',toks:=tk }) :
  wpAny (model prog w) A (runValue (.builtin "proto.collect" ⟨[.ref r],[]⟩)) Q E s:=by
 refine wpAny_runValue (codeAny_builtin PySem.F.entry_proto_collect ?_)
 show wpAny _ _ (newList [] >>= _) _ _ s
 refine wpAny_bind (wpAny_newList ?_)
 refine wpAny_pure ⟨plainId_quiet PySem.F.plain_list_iadd _,codeAny_builtin PySem.F.entry_list_iadd ?_⟩
 rw [Around.under_plainId PySem.F.plain_list_iadd]
 show wpAny _ A.in1 (Builtin.List.listExtendWith (.ref s.heap.objs.size) (.ref r) (.ref s.heap.objs.size)) _ _ _
 obtain⟨ov,hov,rv⟩:=id hv
 have nr:s.heap.objs.size≠r:=Nat.ne_of_gt (Heap.lt_size hov)
 have nd:d≠s.heap.objs.size:=Nat.ne_of_lt hd.lt_size
 refine W.kdx_extend (knd:=knd) (A:=A) (R:=λr s'=>match r with|.ok (.ret v)=>Q v s'|.ok _=>False|.error e=>E e s') (s:={ s with heap:=s.heap.push { cls:=.type "list",data:=.seq #[] } }) hno ⟨ov,Heap.get?_push_of_some _ hov,rv⟩ (hd.push _) s.heap.objs.size nr nd _ 0 (Heap.get?_push_size _ rfl) (λh' tk acc c as hk hS hlen hG hacc=>?_) hl
 refine hQ h' tk acc c as (λb o e=>hk b o (Nat.ne_of_lt (Heap.lt_size e)) (Heap.get?_push_of_some _ e)) hS hlen ⟨hG.rise,λa ha=>?_,hG.pairs⟩ hacc
 have h1:=hG.above a ha
 have e:(s.heap.push { cls:=.type "list",data:=.seq #[] }).objs.size=s.heap.objs.size+1:=by simp [Heap.push]
 have h2:(s.heap.push { cls:=.type "list",data:=.seq #[] }).objs.size < a:=h1
 rw [e] at h2
 exact Nat.lt_of_succ_lt h2
theorem nv{Q:List Value->Shared->Prop}(hno:A.handled=none)(hv:s.heap.IsItemsView r d)(hd:Heap.DictAt knd s.heap d kvs ep)(hl:kvs.length<=sizeLine)
  (hQ:∀(h':Heap) (tk:Nat) (as:List Addr),(∀b o,s.heap.get? b=some o->h'.get? b=some o)->s.heap.objs.size < h'.objs.size->as.length=kvs.length->W.KdxG knd kvs s.heap.objs.size h' as->Q (as.map Value.ref) { s with heap:=h',toks:=tk }) :
  wpAny (model prog w) A (collect (.ref r)) Q E s:=by
 unfold collect
 refine wpAny_bind (qg hno hv hd hl λh' tk acc c as hk hS hlen hG hacc=>?_)
 refine wpAny_bind (wpAny_load hS ?_)
 refine wpAny_pure ?_
 rw [hacc]
 exact hQ h' tk as hk (Heap.lt_size hS) hlen hG
theorem gK{Q:Value->Shared->Prop}(hno:A.handled=none)(hv:s.heap.IsItemsView r d)(hd:Heap.DictAt knd s.heap d kvs ep)(hl:kvs.length<=sizeLine)
  (hQ:∀(h':Heap) (tk:Nat) (as:List Addr),(∀b o,s.heap.get? b=some o->h'.get? b=some o)->s.heap.objs.size < h'.objs.size->as.length=kvs.length->W.KdxG knd kvs s.heap.objs.size h' as->Q (.ref h'.objs.size) { s with heap:=h'.push { cls:=.type "tuple",data:=.seq (as.map Value.ref).toArray },toks:=tk }) :
  codeAny (model prog w) A (.call (.builtin "tuple.__new__") ⟨[.type "tuple",.ref r],[]⟩) (wants Q E) s:=by
 refine codeAny_of_tree ?_
 show wpAny _ _ (checkBuiltinCall "tuple.__new__" ⟨[.type "tuple",.ref r],[]⟩ >>= _) _ _ s
 refine wpAny_bind (wpAny_of_eq (PySem.F.newCall_tuple_1 _) ?_)
 refine wpAny_pure ⟨plainId_quiet PySem.F.plain_tuple_new _,codeAny_builtin PySem.F.entry_tuple_new ?_⟩
 rw [Around.under_plainId PySem.F.plain_tuple_new]
 unfold Builtin.«tuple.__new__»
 refine wpAny_bind (wpAny_of_eq (a:=true) rfl ?_)
 refine wpAny_ite_false (by decide) ?_
 refine wpAny_bind (wpAny_of_eq sub_tuple_self ?_)
 refine wpAny_ite_false (by decide) ?_
 refine wpAny_ite_false (by decide +kernel) ?_
 refine wpAny_bind (wpAny_of_eq madeHere_tuple ?_)
 refine wpAny_bind (wpAny_of_eq init_tuple_lookup ?_)
 refine wpAny_ite_true (by decide) ?_
 refine wpAny_bind (wpAny_of_eq (a:=()) rfl ?_)
 refine wpAny_bind (wpAny_of_eq (a:=()) rfl ?_)
 refine wpAny_ite_true (by decide) ?_
 unfold Builtin.Tuple.tupleIsExact
 obtain⟨ov,hov,rc,rd⟩:=id hv
 refine wpAny_bind (wpAny_bind (wpAny_typeOf (T:="dict_items") ⟨ov,hov,rc⟩ (wpAny_pure ?_)))
 refine wpAny_ite_false (by decide) ?_
 refine wpAny_bind (nv (A:=A.in1) hno hv hd hl λh' tk as hk hsz hlen hG=>?_)
 refine wpAny_bind (wpAny_pure ?_)
 show wpAny _ _ (Builtin.Tuple.tupleExact _ >>= _) _ _ _
 unfold Builtin.Tuple.tupleExact
 refine wpAny_bind (wpAny_newObj_type ?_ ?_)
 ·exact wpAny_pure (hQ h' tk as hk hsz hlen hG)
 ·have e:(as.map Value.ref).toArray.size<=sizeLine:=by
   rw [List.size_toArray,List.length_map,hlen]
   exact hl
  exact e
theorem call_tuple_items{Q:Value->Shared->Prop}(hno:A.handled=none)(hv:s.heap.IsItemsView r d)(hd:Heap.DictAt knd s.heap d kvs ep)(hl:kvs.length<=sizeLine)
  (hQ:∀(h':Heap) (tk:Nat) (as:List Addr),(∀b o,s.heap.get? b=some o->h'.get? b=some o)->s.heap.objs.size < h'.objs.size->as.length=kvs.length->W.KdxG knd kvs s.heap.objs.size h' as->Q (.ref h'.objs.size) { s with heap:=h'.push { cls:=.type "tuple",data:=.seq (as.map Value.ref).toArray },toks:=tk }) :
  wpAny (model prog w) A (call (.type "tuple") [.ref r]) Q E s:=by
 refine callType_codes (Q₁:=λobj s₁=>s₁.TypeIs obj "tuple"/\Q obj s₁) PySem.F.called_tuple (PySem.F.typeCall_tuple_1 _) PySem.F.entry_object_init (gK (A:=A.in1) hno hv hd hl λh' tk as hk hsz hlen hG=>⟨⟨_,Heap.get?_push_size _ rfl,rfl⟩,hQ h' tk as hk hsz hlen hG⟩) ?_
 rintro obj s₁ ⟨h1,h2⟩
 exact⟨h1,PySem.F.args_object_init_2 _ _,object_init_meets (newId:="tuple.__new__") init_tuple_lookup PySem.F.called_tuple.made (by decide) prog w A.in1 _ s₁ ⟨h1,rfl,h2⟩⟩
end
end HT
namespace L2
open PySem PySem.Spec PyProof.Rows
section
variable{X:Cx}
theorem jW:MtR X "dict.clear" (λx vs H Q=>∃d kvs,x=.ref d/\vs=[]/\H d=some (.dK kvs)/\Q .non (upd H d (.dK []))):=by
 intro pins s σ H x vs v us Q I rx rv h
 obtain⟨d,kvs,rfl,rfl,hd,q⟩:=h
 cases rx
 cases rv
 exact yT I hd λs' I'=>⟨.non,_,I',rfl,q⟩
theorem fK(hc:X.calm=true):gU X (.type "tuple") (λxs H Q=>∃v d kvs,xs=[.ref v]/\H v=some (.ext (j9 v d))/\H d=some (.dK kvs) /\
  ∀(H2:Hp) (as:List Addr) (l:Addr),(∀b u,H b=some u->H2 b=some u)->H l=none->(∀a∈as,H a=none)->H2 l=some (.tup (as.map V.ref))->Paired (fun(p:Key × V) (k:Addr)=>H2 k=some (.tup [kV p.1,p.2])) kvs as->Q (.ref l) H2):=by
 intro pins s σ H xs us Q I r h
 obtain⟨v,d,kvs,rfl,hv,hd,q⟩:=h
 obtain⟨u,rfl,ru⟩:=kJ r
 cases ru
 obtain⟨z,hs,ys,rel,dd⟩:=kG I.hok hd
 obtain⟨ep,dat⟩:=dd.dictAt
 have hview:s.heap.IsItemsView v d:=(I.hok v _ hv).1
 have hl2:kvs.length=ys.length:=rel.length
 refine HT.call_tuple_items (knd:=bf X.prog X.w) (I.ok.hd hc) hview dat (by rw [<-hl2];exact z) λh' tk as hk hsz0 hlen hG=>?_
 have hlen':as.length=kvs.length:=by rw [hlen,hl2]
 have hge:∀a∈as,s.heap.objs.size<=a:=λa ha=>Nat.le_of_lt (hG.above a ha)
 have hlt:∀a∈as,a < h'.objs.size:=λa ha=>by
  obtain⟨j,hj⟩:=List.getElem?_of_mem ha
  obtain⟨_,_,_,_,_,h5⟩:=hG.pairs j a hj
  exact Heap.lt_size h5
 have hnS:h'.objs.size∉as:=λha=>Nat.lt_irrefl _ (hlt _ ha)
 have hsz:s.heap.objs.size<=h'.objs.size:=Nat.le_of_lt hsz0
 have vr:∀ks:List Addr,cr (ks.map V.ref) (ks.map Value.ref):=λks=>by
  induction ks with
  |nil=>exact .nil
  |cons k ks ih=>exact .cons rfl ih
 have old:∀b,b < s.heap.objs.size->upd (qo H as kvs) h'.objs.size (.tup (as.map V.ref)) b=H b:=λb hb=>by
  rw [ah (Nat.ne_of_lt (Nat.lt_of_lt_of_le hb hsz))]
  exact mf λha=>absurd (hge b ha) (Nat.not_le_of_lt hb)
 have I2:Inv X pins σ (upd (qo H as kvs) h'.objs.size (.tup (as.map V.ref))) { s with heap:=h'.push { cls:=.type "tuple",data:=.seq (as.map Value.ref).toArray },toks:=tk }:=by
  refine I.laids (t':=tk) (λb o e=>Heap.get?_push_of_some _ (hk b o e)) old λb u hb hu=>?_
  by_cases e:b=h'.objs.size
  ·subst e
   rw [aa] at hu
   cases hu
   exact⟨by rw [List.length_map,hlen'];exact z,as.map Value.ref,vr as,IsTup.new _ _⟩
  ·rw [ah e] at hu
   by_cases ha:b∈as
   ·obtain⟨j,p,h1,h2,rfl⟩:=vd ha hlen' hu
    obtain⟨key,k,x,h3,h4,h5⟩:=hG.pairs j b h1
    have hp:p.1=k/\cy p.2 x:=by
     have:=aI rel h2
     obtain⟨y,hy,e1,e2⟩:=this
     rw [h3] at hy
     cases hy
     exact⟨e1,e2⟩
    refine⟨by show 2<=sizeLine;decide,[key,x],.cons (by rw [hp.1];exact pN h4) (.cons hp.2 .nil),_,Heap.get?_push_of_some _ h5,rfl,_,rfl⟩
   ·rw [mf ha] at hu
    rw [I.hok.fresh hb] at hu
    cases hu
 refine⟨.ref h'.objs.size,_,I2,rfl,q _ as h'.objs.size (λb u hb=>?_) (I.hok.fresh hsz) (λa ha=>I.hok.fresh (hge a ha)) aa ?_⟩
 ·have lt:b < s.heap.objs.size:=Nat.lt_of_not_le λz=>by rw [I.hok.fresh z] at hb;cases hb
  rw [old b lt]
  exact hb
 ·have go:∀{qs:List (Key × V)} {bs:List Addr},(∀b∈bs,b∈as)->Paired (fun(p:Key × V) (k:Addr)=>qo H as kvs k=some (.tup [kV p.1,p.2])) qs bs->Paired (fun(q:Key × V) (k:Addr)=>upd (qo H as kvs) h'.objs.size (.tup (as.map V.ref)) k=some (.tup [kV q.1,q.2])) qs bs:=λ{qs bs} hb z=>by
   induction z with
   |nil=>exact .nil
   |@cons x y xs ys e _ ih =>
    refine .cons ?_ (ih λb hb'=>hb b (List.mem_cons_of_mem _ hb'))
    rw [ah (λz=>hnS (by rw [<-z];exact hb y List.mem_cons_self))]
    exact e
  exact go (λ_ z=>z) (ld hG.rise hlen')
end
end L2
namespace HT
open PySem PySem.Spec PyProof.Rows
section
variable{prog:Program}{w:World}{A:Around}{E:Value->Shared->Prop}{s:Shared}
end
end HT
namespace L2
open PySem PySem.Spec PyProof.Rows
section
variable{P:Program}{w:World}
variable{K:W.Frag}{mg:Str->Option Value}{base:Heap}{N:List Str}{qual:Str}{scope:Scope}{f:Addr}{cd:Value}{A:Around}{outer:List Env}{s:Shared}{H:Hp}{E:XK}
end
def Bc(d:Addr)(o:Obj)(kvs:List (List Key × V))(as:List Addr):It :=
 ⟨λi H=>H d=some (.frz o (.dT kvs))/\i < kvs.length,λi H x H'=>H'=H/\∃a,as[i]?=some a/\x=.ref a,λi H=>H d=some (.frz o (.dT kvs))/\kvs.length<=i⟩
theorem sr{P:Program}{w:World}{K:W.Frag}{tg:Expr}{d it:Addr}{o:Obj}{kvs:List (List Key × V)}{as:List Addr}{en:Array DictEntry}{ep:Nat}(hn:kvs.length=en.size)(hk:∀(i:Nat) (hi:i < en.size),∃a,as[i]?=some a/\en[i].key=.ref a)(hat:∀h:Heap,h.get? d=some o->qj h d en ep) :
  xM P w K tg (Bc d o kvs as) [it] it (λi h=>h.IsKeyIter it d i en.size ep) where
 mem:=by simp
 obj:=λi h st b hb=>by
  obtain rfl:b=it:=by simpa using hb
  obtain⟨o,e,c,hd⟩:=st
  exact⟨o,e,λv z=>by rw [hd] at z;cases z⟩
 keep:=λi h h' st k=>by
  obtain⟨o,e,r⟩:=st
  exact⟨o,k it (by simp) _ e,r⟩
 item:=by
  intro X hP hw hK hc i pins s σ H E I hf st hg
  subst hP hw hK
  obtain⟨hd,hi⟩:=hg
  obtain⟨f0,f1,f2,f3,f4,f5⟩:=hf it (by simp)
  have hi':i < en.size:=by rw [<-hn];exact hi
  obtain⟨a,ha,hka⟩:=hk i hi'
  refine qp st (hat _ (I.hok d _ hd).1) hi' λh' st' sb=>?_
  have I1:Inv X pins σ H { s with heap:=h' }:=I.turned (t':=s.toks) (λb o hb e=>(sb.2 b hb).trans e) f0 f1 f3 f4 f5
  obtain⟨o',e,c,dt⟩:=id st'
  rw [hka]
  exact⟨_,rfl,uz (s:={ s with heap:=h' }) e c dt (by decide) ⟨.ref a,H,I1,rfl,⟨rfl,a,ha,rfl⟩,st',λb hb=>(hf b hb).1⟩⟩
 done:=by
  intro X hP hw hK hc i pins s σ H E I hf st hg
  subst hP hw hK
  obtain⟨hd,hi⟩:=hg
  obtain⟨f0,f1,f2,f3,f4,f5⟩:=hf it (by simp)
  exact vh (I.ok.hd hc) st (hat _ (I.hok d _ hd).1) (by omega) λh' eb=>⟨rfl,I.turned (t':=s.toks) (λb o hb q=>eb b o hb q) f0 f1 f3 f4 f5⟩
 self:=λ_ _ _ _ _ st h=>wpAny_pyIter_keyiter st h
section
variable{X:Cx}{tg:Expr}
def AF(to:TE):TI:=λσ H R=>to σ H λx H1=>∃d kvs,x=.ref d/\H1 d=some (.dT kvs)/\∀o as,Paired (fun(p:List Key × V) (a:Addr)=>H1 a=some (.tup (p.1.map kV))) kvs as->R (Bc d o kvs as) (upd H1 d (.frz o (.dT kvs)))
theorem tR{H:Hp}:∀{kvs:List (List Key × V)} {xs:List (List Key × Addr × Value)},KT H kvs xs->Paired (fun(p:List Key × V) (a:Addr)=>H a=some (.tup (p.1.map kV))) kvs (xs.map λq=>q.2.1)
 |_,_,.nil=>.nil
 |_,_,.cons h t=>.cons h.2.1 (tR t)
theorem vX{o:Expr}{to:TE}(ho:PE X o to):PI X tg o (AF to):=by
 intro pins s σ H R I h
 refine thn (ho pins s σ H _ I h) λv s1 zz=>?_
 obtain⟨x,H1,I1,r1,d,kvs,ex,hd,q⟩:=zz
 subst ex
 cases r1
 have hob:=I1.hok d _ hd
 obtain⟨z,hs,ys,rel,ob,en,ep,e1,ex,dt,eqs,nd⟩:=id hob
 have raw:qj s1.heap d en ep:=⟨ob,e1,ex,dt⟩
 have hn:kvs.length=en.size:=(AD hob raw).1
 have hat:∀h:Heap,h.get? d=some ob->qj h d en ep:=λh e=>⟨ob,e,ex,dt⟩
 have hk:∀(i:Nat) (hi:i < en.size),∃a,(ys.map λq=>q.2.1)[i]?=some a/\en[i].key=.ref a:=λi hi=>by
  have e1:en.toList[i]?=some en[i]:=by simp [hi]
  rw [eqs,List.getElem?_map] at e1
  obtain⟨q,hq,e2⟩:=Option.map_eq_some_iff.mp e1
  exact⟨q.2.1,by rw [List.getElem?_map,hq];rfl,by rw [<-e2];rfl⟩
 refine qk hs raw ?_
 have hd2:(s1.heap.push { cls:=.type "dict_keyiterator",data:=.fields #[.ref d,.int 0 0,.int en.size 0,.int ep 0] }).get? d=some ob:=Heap.get?_push_of_some _ e1
 have I2:=I1.kept (t':=s1.toks) (h':=s1.heap.push { cls:=.type "dict_keyiterator",data:=.fields #[.ref d,.int 0 0,.int en.size 0,.int ep 0] }) λb u e=>Heap.get?_push_of_some _ e
 have I3:=I2.write (x:=d) (e:=d) (o:=.frz ob (.dT kvs)) (t':=s1.toks) (h':=s1.heap.push { cls:=.type "dict_keyiterator",data:=.fields #[.ref d,.int 0 0,.int en.size 0,.int ep 0] }) (by rw [hd];trivial) (.inl rfl) (λ_ _ _ e=>e) ⟨ob,hd2⟩
  ⟨hd2,z,hs,ys,Paired.mapP rel (λp q ⟨a1,a2,a3⟩=>⟨a1,by rw [ah (λe=>by rw [e,hd] at a2;cases a2)];exact a2,a3⟩),ob,en,ep,hd2,ex,dt,eqs,nd⟩
 have hnn:H1 s1.heap.objs.size=none:=I1.hok.fresh (Nat.le_refl _)
 refine⟨_,[s1.heap.objs.size],_,_,_,rfl,I3,sr hn hk hat,⟨_,Heap.get?_push_size _ rfl,rfl,rfl⟩,λb hb=>?_,q ob _ (tR rel)⟩
 obtain rfl:b=s1.heap.objs.size:=by simpa using hb
 refine I1.fpOk (Nat.le_refl _) ?_
 rw [ah (λe=>by rw [e,hd] at hnn;cases hnn)]
 exact hnn
end
theorem yV{d:Addr}{o:Obj}{kvs:List (List Key × V)}{as:List Addr}{n:Nat}{κ:List Nat}{g:TG}{tc:TT}{te:TE}{σ:St}{H:Hp}{Q:VK}(hl:kvs.length=as.length)(hz:as.length<=1000)(hd:H d=some (.frz o (.dT kvs)))(R:Nat->List V->Hp->Prop)(h0:R 0 [] H)(hlen:∀i ys H2,R i ys H2->ys.length<=i)
  (hs:∀i a ys H2 (N:List V->Hp->Prop),(∀ys' H',ao H H'->R (i+1) ys' H'->N ys' H')->as[i]?=some a->ao H H2->R i ys H2->g (.ref a) (dO n κ σ) H2 λσ4 H4=>σ4.drop n=(dO n κ σ).drop n/\tc σ4 H4 λb H5=>if b=true then te σ4 H5 λv H6=>N (ys++[v]) H6 else N ys H5)
  (hQ:∀ys H2 D,ao H H2->R as.length ys H2->H2 D=none->Q (.ref D) (upd H2 D (.lst ys))):gT n κ g tc te σ (Bc d o kvs as) H Q:=by
 refine hV (J:=Bc d o kvs as) (xs:=as.map V.ref) (λi ys H3=>ao H H3/\R i ys H3) ⟨ao.refl _,h0⟩ (by rw [List.length_map];exact Nat.le_of_lt (cX hz)) ?_ ?_ ?_ ?_ ?_ ?_
 ·rintro i ys H3 ⟨_,h⟩
  exact hlen i ys H3 h
 ·rintro i u ys H3 hu ⟨s3,_⟩
  have:=(List.getElem?_eq_some_iff.mp hu).1
  rw [List.length_map] at this
  exact⟨s3 _ _ hd,by omega⟩
 ·rintro i ys u H3 H' hn ⟨s3,_⟩ hy
  obtain⟨rfl,a,ha,rfl⟩:=hy
  exact⟨rfl,by rw [List.getElem?_map,ha];rfl⟩
 ·rintro ys H3 ⟨s3,_⟩
  exact⟨s3 _ _ hd,by rw [List.length_map];omega⟩
 ·rintro i u ys H3 N hN hu ⟨s3,h⟩
  rw [List.getElem?_map] at hu
  obtain⟨a,ha,rfl⟩:=Option.map_eq_some_iff.mp hu
  exact hs i a ys H3 N (λys' H' a b=>hN ys' H' ⟨a,b⟩) ha s3 h
 ·rintro ys H3 D ⟨s3,h⟩ hD
  rw [List.length_map] at h
  exact hQ ys H3 D s3 h hD
section
variable{X:Cx}{pins:List (Addr × Obj)}{σ:St}{H:Hp}{s:Shared}{h':Heap}
theorem Inv.turnedL{t':Nat}{fp:List Addr}{p:Addr}{o:HO}(I:Inv X pins σ H s)(k:∀b ob,b∉fp->s.heap.get? b=some ob->h'.get? b=some ob)(hf:∀b∈fp,oY X pins H b)(hp:s.heap.objs.size<=p)
  (new:dl X.prog X.w (upd H p o) h' p o):Inv X pins σ (upd H p o) { s with heap:=h',toks:=t' }:=by
 have hn:H p=none:=I.hok.fresh hp
 have nn:∀b u,H b=some u->b∉fp:=λb u q z=>by rw [(hf b z).1] at q;cases q
 have lt:∀b ob,s.heap.get? b=some ob->b≠p:=λb ob q z=>absurd (Nat.lt_of_lt_of_le (Heap.lt_size q) (by rw [z];exact hp)) (Nat.lt_irrefl _)
 refine I.step (g':=s.gens) (d':=s.drawn) (ch:=fp) (λb hb=>?_) (λb ob _ _ hc q _=>k b ob hc q) (λb ob _ _ hc q _=>⟨ob.slots,k b ob hc q⟩) (λb ob hc q n=>by rw [ah (lt b ob q)];exact n)
  (λb ob hc q=>⟨ob,k b ob hc q⟩) (λb xs q=>by rw [ah (aw q hn)];exact q) (λb ob u q=>by rw [ah (aw q hn)];exact q) (λb ps q=>⟨#[],by rw [ah (aw q hn),q];simp⟩) (λm hm=>?_) (λb u q=>?_) I.bare
 ·have fe:=hf b hb
  exact⟨fe.2.2.2.1,fe.2.1,fe.2.2.2.2.1,fe.2.2.2.2.2⟩
 ·obtain⟨ob,es,ep,q,r⟩:=hm
  exact⟨ob,es,ep,k _ ob (λz=>(hf _ z).2.1 rfl) q,r⟩
 ·by_cases hb:b=p
  ·subst hb
   rw [aa] at q
   cases q
   exact new
  ·rw [ah hb] at q
   refine(I.hok b u q).stay (λc v hc z=>?_) (λc z=>by rw [ah (aw z hn)];exact z) λc xs z=>by rw [ah (aw z hn)];exact z
   rcases hc with hc|hc
   ·rw [hc] at z ⊢
    exact k b v (nn b u q) z
   ·exact k c v (nn c _ hc) z
theorem Inv.turnedR{t':Nat}{fp:List Addr}(I:Inv X pins σ H s)(k:∀b ob,b∉fp->s.heap.get? b=some ob->h'.get? b=some ob)(hf:∀b∈fp,oY X pins H b):Inv X pins σ H { s with heap:=h',toks:=t' }:=by
 have nn:∀b u,H b=some u->b∉fp:=λb u q z=>by rw [(hf b z).1] at q;cases q
 refine I.step (g':=s.gens) (d':=s.drawn) (ch:=fp) (λb hb=>?_) (λb ob _ _ hc q _=>k b ob hc q) (λb ob _ _ hc q _=>⟨ob.slots,k b ob hc q⟩) (λb ob hc q n=>n)
  (λb ob hc q=>⟨ob,k b ob hc q⟩) (λb xs q=>q) (λb ob u q=>q) (λb ps q=>⟨#[],by rw [q];simp⟩) (λm hm=>?_) (λb u q=>?_) I.bare
 ·have fe:=hf b hb
  exact⟨fe.2.2.2.1,fe.2.1,fe.2.2.2.2.1,fe.2.2.2.2.2⟩
 ·obtain⟨ob,es,ep,q,r⟩:=hm
  exact⟨ob,es,ep,k _ ob (λz=>(hf _ z).2.1 rfl) q,r⟩
 ·refine(I.hok b u q).stay (λc v hc z=>?_) (λc z=>z) λc xs z=>z
  rcases hc with hc|hc
  ·rw [hc] at z ⊢
   exact k b v (nn b u q) z
  ·exact k c v (nn c _ hc) z
end
def Itz(l1 l2:Addr):It :=
  ⟨λi H=>∃xs ys x y,H l1=some (.lst xs)/\H l2=some (.lst ys)/\xs[i]?=some x/\ys[i]?=some y,
   λi H v H'=>∃p x y,H p=none/\v=.ref p/\H'=upd H p (.tup [x,y])/\(∀xs,H l1=some (.lst xs)->xs[i]?=some x)/\∀ys,H l2=some (.lst ys)->ys[i]?=some y,
   λi H=>∃xs ys,H l1=some (.lst xs)/\H l2=some (.lst ys)/\(xs.length<=i\/ys.length<=i)⟩
structure BC(z TI TO i1 i2:Addr):Prop where
 TIz:TI≠z
 TOz:TO≠z
 i1z:i1≠z
 i2z:i2≠z
 TITO:TI≠TO
 TIi1:TI≠i1
 TIi2:TI≠i2
 TOi1:TO≠i1
 TOi2:TO≠i2
 i12:i1≠i2
theorem xl{P:Program}{w:World}{K:W.Frag}{es:List Expr}{k:Nat}{pos:Pos}(l1 l2 z TI TO i1 i2:Addr)(D:BC z TI TO i1 i2) :
  xM P w K (.Tuple es k pos) (Itz l1 l2) [z,TI,TO,i1,i2] z (λi h=>IsZip h z TI TO .none/\IsPair h TI (.ref i1) (.ref i2)/\(∃a b,IsPair h TO a b)/\h.IsListIter i1 l1 i/\h.IsListIter i2 l2 i) where
 mem:=by simp
 obj:=λi h st b hb=>by
  obtain⟨hz,hTI,⟨a,c,hTO⟩,⟨o1,e1,_,d1⟩,⟨o2,e2,_,d2⟩⟩:=st
  simp only [List.mem_cons,List.not_mem_nil,or_false] at hb
  rcases hb with rfl|rfl|rfl|rfl|rfl
  ·exact⟨_,hz,λv z=>by cases z⟩
  ·exact⟨_,hTI,λv z=>by cases z⟩
  ·exact⟨_,hTO,λv z=>by cases z⟩
  ·exact⟨o1,e1,λv z=>by rw [d1] at z;cases z⟩
  ·exact⟨o2,e2,λv z=>by rw [d2] at z;cases z⟩
 keep:=λi h h' st k=>by
  obtain⟨hz,hTI,⟨a,c,hTO⟩,⟨o1,e1,r1⟩,⟨o2,e2,r2⟩⟩:=st
  exact⟨k z (by simp) _ hz,k TI (by simp) _ hTI,⟨a,c,k TO (by simp) _ hTO⟩,⟨o1,k i1 (by simp) _ e1,r1⟩,⟨o2,k i2 (by simp) _ e2,r2⟩⟩
 item:=by
  intro X hP hw hK hc i pins s σ H E I hf st hg
  subst hP hw hK
  obtain⟨hz,hTI,⟨a,c,hTO⟩,h1,h2⟩:=st
  obtain⟨xs,ys,x,y,hq1,hq2,hx,hy⟩:=hg
  obtain⟨its,rv,p,_⟩:=I.list (SqL.of hq1)
  obtain⟨jts,rw',p',_⟩:=I.list (SqL.of hq2)
  obtain⟨u,hu,ru⟩:=rv.get hx
  obtain⟨v,hv,rv2⟩:=rw'.get hy
  have ne:∀b∈[z,TI,TO,i1,i2],l1≠b/\l2≠b:=λb hb=>⟨λq=>(by rw [q,(hf b hb).1] at hq1;cases hq1),λq=>(by rw [q,(hf b hb).1] at hq2;cases hq2)⟩
  have lt:∀b∈[z,TI,TO,i1,i2],b < s.heap.objs.size:=λb hb=>by
   simp only [List.mem_cons,List.not_mem_nil,or_false] at hb
   obtain⟨o1,e1,_⟩:=id h1
   obtain⟨o2,e2,_⟩:=id h2
   rcases hb with rfl|rfl|rfl|rfl|rfl
   ·exact Heap.lt_size hz
   ·exact Heap.lt_size hTI
   ·exact Heap.lt_size hTO
   ·exact Heap.lt_size e1
   ·exact Heap.lt_size e2
  have DD:ZipApart z TI TO i1 i2 l1 l2:=⟨D.TIz,D.TOz,D.i1z,D.i2z,D.TITO,D.TIi1,D.TIi2,D.TOi1,D.TOi2,D.i12,(ne z (by simp)).1,(ne TO (by simp)).1,(ne i1 (by simp)).1,(ne i2 (by simp)).1,(ne z (by simp)).2,(ne TO (by simp)).2,(ne i1 (by simp)).2,(ne i2 (by simp)).2⟩
  refine wpAny_pyNext_zip_item DD hz hTI hTO h1 h2 p.isList p'.isList (x:=u) (y:=v) (by simpa using hu) (by simpa using hv) λh3 z3 o3 j1 j2 t3 _ k3=>⟨_,rfl,?_⟩
  refine wpAny_letOwnedTupleGo_zip z3 λh4 z4 b4=>?_
  have t4:h4.get? s.heap.objs.size=some { cls:=.type "tuple",data:=.seq #[u,v] }:=(b4.2 _ (Nat.ne_of_gt (lt z (by simp)))).trans t3
  have hn:H s.heap.objs.size=none:=I.hok.fresh (Nat.le_refl _)
  have I4:Inv X pins σ (upd H s.heap.objs.size (.tup [x,y])) { s with heap:=h4,toks:=s.toks } :=
   I.turnedL (fp:=[z,TI,TO,i1,i2]) (λb ob hb q=>by
    simp only [List.mem_cons,List.not_mem_nil,or_false,not_or] at hb
    exact(b4.2 b hb.1).trans (k3 b ob hb.1 hb.2.2.1 hb.2.2.2.1 hb.2.2.2.2 q)) hf (Nat.le_refl _) ⟨by show 2<=sizeLine;decide,[u,v],.cons ru (.cons rv2 .nil),_,t4,rfl,_,rfl⟩
  refine⟨.ref s.heap.objs.size,_,I4,rfl,⟨_,x,y,hn,rfl,rfl,λxs' h'=>by rw [hq1] at h';cases h';exact hx,λys' h'=>by rw [hq2] at h';cases h';exact hy⟩,⟨z4,?_,⟨u,v,?_⟩,?_,?_⟩,λb hb=>?_⟩
  ·exact(b4.2 TI D.TIz).trans (k3 TI _ D.TIz D.TITO D.TIi1 D.TIi2 hTI)
  ·exact(b4.2 TO D.TOz).trans o3
  ·obtain⟨o,ho,r⟩:=j1
   exact⟨o,(b4.2 i1 D.i1z).trans ho,r⟩
  ·obtain⟨o,ho,r⟩:=j2
   exact⟨o,(b4.2 i2 D.i2z).trans ho,r⟩
  ·rw [ah (Nat.ne_of_lt (lt b hb))]
   exact(hf b hb).1
 done:=by
  intro X hP hw hK hc i pins s σ H E I hf st hg
  subst hP hw hK
  obtain⟨hz,hTI,⟨a,c,hTO⟩,h1,h2⟩:=st
  obtain⟨xs,ys,hq1,hq2,hl⟩:=hg
  obtain⟨its,rv,p,_⟩:=I.list (SqL.of hq1)
  obtain⟨jts,rw',p',_⟩:=I.list (SqL.of hq2)
  have e1:=rv.length
  have e2:=rw'.length
  have ne:∀b∈[z,TI,TO,i1,i2],l1≠b/\l2≠b:=λb hb=>⟨λq=>(by rw [q,(hf b hb).1] at hq1;cases hq1),λq=>(by rw [q,(hf b hb).1] at hq2;cases hq2)⟩
  have DD:ZipApart z TI TO i1 i2 l1 l2:=⟨D.TIz,D.TOz,D.i1z,D.i2z,D.TITO,D.TIi1,D.TIi2,D.TOi1,D.TOi2,D.i12,(ne z (by simp)).1,(ne TO (by simp)).1,(ne i1 (by simp)).1,(ne i2 (by simp)).1,(ne z (by simp)).2,(ne TO (by simp)).2,(ne i1 (by simp)).2,(ne i2 (by simp)).2⟩
  refine wpAny_pyNext_zip_end (I.ok.hd hc) DD hz hTI hTO h1 h2 p.isList p'.isList ?_ λh' k'=>⟨rfl,I.turnedR (t':=s.toks) (fp:=[z,TI,TO,i1,i2]) (λb ob hb q=>by
    simp only [List.mem_cons,List.not_mem_nil,or_false,not_or] at hb
    exact k' b ob hb.1 hb.2.2.1 hb.2.2.2.1 hb.2.2.2.2 q) hf⟩
  rcases hl with hl|hl
  ·refine .inl ?_
   simp
   omega
  ·refine .inr ?_
   simp
   omega
 self:=λ_ _ _ _ _ st h=>wpAny_pyIter_zip st.1 h
section
variable{X:Cx}{es:List Expr}{k:Nat}{ps:Pos}
def Cy(ta:TA):TI:=λσ H R=>ta σ H λvs H1=>∃l1 l2 xs ys,vs=[.ref l1,.ref l2]/\H1 l1=some (.lst xs)/\H1 l2=some (.lst ys)/\R (Itz l1 l2) H1
theorem yr:bootBuiltins "zip"=some (.type "zip"):=by decide +kernel
theorem Ao{l m:Expr}{ta:TA}{p pos:Pos} (hg:Gl X "zip") (hm:X.mg "zip"=none) (ha:PA X [l,m] ta) (hs:starEach [l,m] X.env=(false,eval l X.env)::starEach [m] X.env:=by rfl) (hpl:(backTo pos (starEach [m] X.env)).any (·.1)=false:=by rfl) :
  PI X (.Tuple es k ps) (.Call (.Name "zip" p) [l,m] [] pos) (Cy ta):=by
 intro pins s σ H R I h
 refine Call_ (nN I hg hm yr (PyProof.Rows.callWith_type1 (thn (ha pos pins s σ H _ I h) λus s1 zz=>?_) hs hpl))
 obtain⟨vs,H1,I1,r1,q1⟩:=zz
 obtain⟨l1,l2,xs,ys,e,hq1,hq2,q⟩:=q1
 subst e
 cases r1 with
 |cons ra rb =>
  cases rb with
  |cons rb rc =>
   cases rc
   cases ra
   cases rb
   obtain⟨its,rv,pl,_⟩:=I1.list (SqL.of hq1)
   obtain⟨jts,rw',pl',_⟩:=I1.list (SqL.of hq2)
   refine call_zip_2 pl.isList pl'.isList λh' hz hTI hTO h1 h2 hsz k=>?_
   have n:∀a b:Nat,a≠b->s1.heap.objs.size+a≠s1.heap.objs.size+b:=λa b h e=>h (Nat.add_left_cancel e)
   refine wpAny_pyIter_zip (s:={ s1 with heap:=h' }) hz ⟨s1.heap.objs.size+4,[s1.heap.objs.size+4,s1.heap.objs.size+2,s1.heap.objs.size+3,s1.heap.objs.size,s1.heap.objs.size+1],_,_,H1,rfl,I1.kept (t':=s1.toks) k,
    xl l1 l2 _ _ _ _ _ ⟨n 2 4 (by decide),n 3 4 (by decide),n 0 4 (by decide),n 1 4 (by decide),n 2 3 (by decide),n 2 0 (by decide),n 2 1 (by decide),n 3 0 (by decide),n 3 1 (by decide),n 0 1 (by decide)⟩,⟨hz,hTI,⟨_,_,hTO⟩,h1,h2⟩,λb hb=>?_,q⟩
   have hb':s1.heap.objs.size<=b:=by
    simp only [List.mem_cons,List.not_mem_nil,or_false] at hb
    rcases hb with rfl|rfl|rfl|rfl|rfl<;>first|exact Nat.le_add_right _ _|exact Nat.le_refl _
   exact I1.fpOk hb' (I1.hok.fresh hb')
end
theorem xW{l1 l2:Addr}{xs ys:List V}{g:TG}{tb:TS}{D:gZ}{σ:St}{H:Hp}(Pv:Nat->St->Hp->Prop)(h0:Pv 0 σ H)(hlen:xs.length=ys.length)(hl:∀i σ H,i<=xs.length->Pv i σ H->H l1=some (.lst xs)/\H l2=some (.lst ys))
  (hs:∀i x y p σ H,xs[i]?=some x->ys[i]?=some y->H p=none->Pv i σ H->g (.ref p) σ (upd H p (.tup [x,y])) λσ2 H2=>tb { D with nx:=Pv (i+1),ct:=Pv (i+1),bk:=D.nx } σ2 H2) (hd:∀σ H,Pv xs.length σ H->D.nx σ H) :
  ∃W:Nat->Nat->St->Hp->Prop,(∃m,W 0 m σ H)/\∀i m σ H,W i m σ H ->
   ((Itz l1 l2).stop i H/\D.nx σ H)\/((Itz l1 l2).go i H/\∃N:St->Hp->Prop,(∀σ' H',N σ' H'->∃m',m' < m/\W (i+1) m' σ' H')/\∀x H',(Itz l1 l2).yld i H x H'->g x σ H' λσ2 H2=>tb { D with nx:=N,ct:=N,bk:=D.nx } σ2 H2):=by
 refine⟨λi m σ H=>m=xs.length - i/\i<=xs.length/\Pv i σ H,⟨xs.length,by simp,Nat.zero_le _,h0⟩,?_⟩
 rintro i m σ H ⟨rfl,hi,p⟩
 obtain⟨q1,q2⟩:=hl i σ H hi p
 by_cases hlt:i < xs.length
 ·have ex:xs[i]?=some xs[i]:=List.getElem?_eq_getElem hlt
  have ey:ys[i]?=some (ys[i]'(by omega)):=List.getElem?_eq_getElem (by omega)
  refine .inr ⟨⟨xs,ys,_,_,q1,q2,ex,ey⟩,Pv (i+1),λσ' H' p'=>⟨xs.length - (i+1),by omega,rfl,hlt,p'⟩,λx H' y=>?_⟩
  obtain⟨a,u,v,ha,rfl,rfl,h1,h2⟩:=y
  exact hs i u v a σ H (h1 xs q1) (h2 ys q2) ha p
 ·obtain rfl:i=xs.length:=by omega
  exact .inl ⟨⟨xs,ys,q1,q2,.inl (Nat.le_refl _)⟩,hd σ H p⟩
end L2
set_option autoImplicit true
set_option relaxedAutoImplicit true
local macro_rules|`($a >> $b)=>`(@L2.pa_cons _ _ _ _ _ $a $b rfl)
local macro_rules|`($a <|> $b)=>`(@L2.pss_cons _ _ _ _ _ $a $b)
namespace L2
open PySem PyProof.Rows
theorem sz(n:Nat)(h:n<=1000:=by decide):n<=sizeLine:=Nat.le_of_lt (cX h)
theorem lc0{α:Type}{a:α}{l:List α}:(a::l).length=l.length+1:=List.length_cons
theorem lm0{α β:Type}{l:List α}{f:α->β}:(l.map f).length=l.length:=List.length_map f
theorem ma0{α β:Type}{f:α->β}{l m:List α}:(l++m).map f=l.map f++m.map f:=List.map_append
theorem nr0{n:Nat}:n<=n:=Nat.le_refl n
theorem mc0{α:Type}{a b:α}{l:List α}(h:a∈b::l):a=b\/a∈l:=List.mem_cons.mp h
theorem la0{α:Type}{l m:List α}:(l++m).length=l.length+m.length:=List.length_append
theorem od0{p:Prop}[Decidable p](h:decide p=true):p:=of_decide_eq_true h
theorem dt0{p:Prop}[Decidable p](h:p):decide p=true:=decide_eq_true h
theorem df0{p:Prop}[Decidable p](h:¬p):decide p=false:=decide_eq_false h
theorem sr0{H:Hp}:ao H H:=ao.refl H
section
variable{X:Cx}{x:Str}{pos pos':Pos}{e:Expr}{te:TE}
theorem aU{i:Nat}(hN:X.N.Nodup)(he:PE X e te)(hi:X.N[i]?=some x:=by exact rfl)(hx:Loc X.env.scope x:=by exact Or.inl rfl)(hs:swapsWith e (some (.Name x pos')) pos.line X.env=pure false:=by rfl)(hf:X.fn x=true\/X.env.scope.names.lookup x=some .local:=by first|exact .inl rfl|exact .inr rfl|assumption):PS X (.Assign [.Name x pos'] e pos) (zn te (jm i)):=lE hN hi hx he hs hf
theorem pg0(own:List Str)(hN:own.Nodup:=by decide +kernel)(e:X.N=own:=by exact rfl)(hi:X.N[0]?=some x:=by exact rfl)(hx:Loc X.env.scope x:=by exact Or.inl rfl)(hf:X.fn x=true\/X.env.scope.names.lookup x=some .local:=by first|exact .inl rfl|exact .inr rfl|assumption):PG X (.Name x pos) (jm 0):=ar (e▸hN) hi hx hf
theorem wx{tg elt iter:Expr}{own:List Str}{sc:Scope}{wi:TI}{g:TG}(hi:PI X tg iter wi)(hg:∀s₀ H₀ C ex,PG (blk X (own++[]) sc [] s₀ H₀ C ex) tg g)(he:∀s₀ H₀ C ex,PE (blk X (own++[]) sc [] s₀ H₀ C ex) elt te)(hc:X.calm=true:=by exact rfl)(S:jB X [] sc []:=by exact⟨rfl,by decide +kernel,by decide +kernel,rfl,rfl,(λy hy=>nomatch hy),(λy hy=>nomatch hy)⟩)(hs:∀x,foldedSetIterable iter X.env x=pure x:=by intro _;rfl):PE X (.ListComp elt [⟨tg,iter,[],0⟩] sc pos) (pA own.length [] wi g Bf te):=fE (own:=own) (caps:=[]) (κ:=[]) (cl:=[]) hc S rfl hi hg he hs
end
theorem mkS{ns ps:List Str}{sc:Scope}(h:aG ns ps sc:=by exact⟨rfl,rfl,rfl,by decide +kernel,rfl,by decide +kernel,by decide +kernel⟩):aG ns ps sc:=h
section
variable{P:Program}{w:World}{K:W.Frag}{mg:Str->Option Value}{base:Heap}{x qual:Str}{st:Stmt}{f:Addr}{fd:FuncData}{N ps:List Str}{k:Nat}{sp:Sp}
theorem Fun.k0(F:Fun K x qual st f fd)(S:aG N ps (ae st))(hb:∀cdv A outer s H vs Q E,bZ k (A.deeper (envOfC qual (ae st) s.heap.objs.size f cdv))->sp vs H Q E->∃t,PSs (i6 CX0 P w K mg base N qual (ae st) f cdv A outer s H E).nox (aj st) t/\t { nx:=λ_ H'=>Q .non H',rt:=Q } (start N vs) H)
  (len:∀vs H Q E,sp vs H Q E->vs.length=ps.length:=by intro _ _ _ _ h;repeat first|(obtain⟨rfl,_⟩:=h;rfl)|obtain⟨_,h⟩:=h):cE P w K mg base CX0 (k+1) f fd ps sp:=F.ok S len hb
end
end L2
namespace L2
theorem ix0{X:Cx}{a b:PySem.Expr}{ta tb:TE}{pos:PySem.Pos}{r:R2}(h:IxR X r)(ha:PE X a ta)(hb:PE X b tb)(hp:uX b:=by exact λ_ _=>rfl):PE X (.Subscript a b pos) (tOp r ta tb):=aN h ha hb hp
end L2
namespace L2
theorem nK0{p q:Prop}(c:p)(h:¬p:=by decide +kernel):q:=absurd c h
theorem nD0{p q:Prop}(c:p)(h:¬p:=by decide):q:=absurd c h
end L2
namespace K44
open PySem L2 Kk
def top(i:Nat):Stmt:=PySem.Challenge.pw_sealhouse_k44_makers.main.body.getD i (.Pass ⟨0,0,0,0⟩)
abbrev lC:Stmt:=top 8
abbrev kY:Stmt:=top 9
abbrev zB:Stmt:=top 10
abbrev gu:Stmt:=top 11
abbrev ei:Stmt:=top 12
abbrev dW:Stmt:=top 13
abbrev zr:Stmt:=top 16
abbrev cK:Stmt:=top 17
abbrev jk:Stmt:=top 18
abbrev gF:Stmt:=top 19
abbrev bL:Stmt:=top 20
abbrev cP:Stmt:=top 22
abbrev cZ:Stmt:=top 23
abbrev bB:Stmt:=top 24
abbrev gw:Stmt:=top 25
abbrev i7:Stmt:=top 26
abbrev fU:Stmt:=top 27
abbrev fV:Stmt:=top 28
abbrev gD:Stmt:=top 31
abbrev i9:Stmt:=top 32
abbrev rS:Stmt:=top 34
abbrev lO:Stmt:=top 35
abbrev zp:Stmt:=top 36
abbrev r6:Stmt:=top 37
abbrev lN:Stmt:=top 38
abbrev sJ:Stmt:=top 39
abbrev lZ:Stmt:=top 40
abbrev gH:Stmt:=top 41
abbrev iU:Stmt:=top 42
abbrev jd:Stmt:=top 43
abbrev se:Stmt:=top 44
abbrev rT:Stmt:=top 45
abbrev zw:Stmt:=top 46
abbrev ly:Stmt:=top 47
abbrev gE:Stmt:=top 48
abbrev iq:Stmt:=top 49
abbrev fJ:Stmt:=top 50
abbrev iY:Stmt:=top 51
abbrev sj:Stmt:=top 52
abbrev lP:Stmt:=top 53
abbrev pS:Stmt:=top 54
theorem bJ(h:n<=1000):n<=sizeLine:=Nat.le_of_lt (cX h)
theorem ac(h:H p=none)(o:HO):ao H (upd H p o):=λb u q=>by rw [ah (aw q h)];exact q
def o0(ks:List Kd):Nat:=(ks.map Kd.words).sum
theorem eP(k:Kd):0 < k.words:=by
 have:=cz k
 have:=gG k
 omega
theorem gJ(a b:List Kd):o0 (a++b)=o0 a+o0 b:=by
 unfold o0
 rw [ma0,List.sum_append]
theorem e6(k:Kd):o0 [k]=k.words:=Nat.add_zero _
theorem mD:∀ks:List Kd,ks.length<=o0 ks
 |[]=>Nat.le_refl _
 |k::ks=>by
  have h1:=mD ks
  have h2:=eP k
  show ks.length+1<=k.words+o0 ks
  omega
theorem snoc:∀{us:List V} {v:V} {ks:List Kd},bU K H (us++[v]) ks->∃ls k,ks=ls++[k]/\bU K H us ls/\bK K H v k
 |[],v,_,.cons a .nil=>⟨[],_,rfl,.nil,a⟩
 |u::us,v,_,.cons a b=>by
  obtain⟨ls,k,rfl,h1,h2⟩:=snoc (us:=us) b
  exact⟨_::ls,k,rfl,.cons a h1,h2⟩
theorem ro:(us++[v])[(us++[v]).length - 1]?=some v:=by simp
theorem one(h:bK K H v k):bU K H [v] [k]:=.cons h .nil
def uw(K:W.Frag):Sp:=λvs H Q _=>∃(x:V) (k:Kd),vs=[x]/\bK K H x k/\k.words<=900/\∀H',ao H H'->Q (.int k.words) H'
section
variable{P:Program}{w:World}{K:W.Frag}{mg:Str->Option Value}{base:Heap}
theorem kr:aG ["kind","words","left","here"] ["kind"] (ae lC):=mkS
theorem wJ (F:Fun K "words_in" "words_in" lC f fd) (ml:mg "len"=none):cE P w K mg base CX0 1 f fd ["kind"] (uw K):=by
 refine F.k0 kr λcdv A outer s H vs Q E hr h=>?_
 obtain⟨x,k,rfl,hk,h9,q⟩:=h
 refine⟨_,pss_cons (aU (i:=1) kr.nd ag)
  (pss_cons (aU (i:=2) kr.nd (bT (pv 0 >> ad)))
  (pss_cons (rq PassesOwn.never (aW uR (aT aK rfl ml boot_len (pv 2 >> ad)) ag (bd _))
   (pss_cons (aU (i:=3) kr.nd (jr PySem.F.plainAttrs_list PySem.F.slot_list_pop PySem.F.type_list_pop xN (pv 2)))
   (pss_cons (At (i:=1) kr.nd rfl (Or.inl rfl) ag AW)
   (ai (ce (aW gi (ix0 ak (pv 3) ag) aJ (bd _))
    (pss_cons (bh (gX PySem.F.plainAttrs_list PySem.F.slot_list_append PySem.F.type_list_append bO (pv 2) (aN ak (pv 3) ag (λ_ _=>rfl) >> ad)))
    (ai (bh (gX PySem.F.plainAttrs_list PySem.F.slot_list_append PySem.F.type_list_append bO (pv 2) (aN ak (pv 3) ag (λ_ _=>rfl) >> ad))))) aX)))))
  (ai (aP (pv 1))))),?_⟩
 refine⟨_,rfl,(sz 1),λl hl=>?_⟩
 have sL:∀o,ao H (upd H l o):=ac hl
 refine vO (λσ H2=>∃(vs:List V) (ks:List Kd) (n:Nat) (h:Option V),σ=[some x,some (.int n),some (.ref l),h]/\H2=upd H l (.lst vs)/\bU K H vs ks/\n+o0 ks=k.words)
  (λσ _=>match σ with|[_,some (.int n),_,_]=>k.words - n.toNat|_=>0) ⟨[x],[k],0,none,rfl,rfl,one hk,by rw [e6];omega⟩ ?_ ?_
 ·rintro σ H2 ⟨vs,ks,n,h,rfl,rfl,hv,hn⟩
  refine⟨_,rfl,l,_,rfl,.inl (SqL.of aa),_,_,rfl,rfl,_,rfl,?_⟩
  refine dE (λc=>?_) (λc=>?_)
  ·have c':(0:Int) < (vs.length:Int):=od0 c
   have hne:vs≠[]:=λe=>by rw [e] at c';exact absurd c' (by decide)
   obtain⟨us,v,rfl⟩:∃us v,vs=us++[v]:=⟨_,_,(List.dropLast_concat_getLast hne).symm⟩
   obtain⟨ls,j,rfl,hu,hj⟩:=snoc hv
   rw [gJ,e6] at hn
   have hjp:=eP j
   refine⟨_,rfl,?_,l,_,v,rfl,rfl,aa,ro,?_⟩
   ·exact .inl ⟨rfl,_,SqL.of aa⟩
   rw [ji,List.dropLast_concat]
   have hl2:=mD ls
   have hul:=hu.length
   refine⟨_,rfl,_,_,rfl,rfl,?_⟩
   have e1:((n:Int)+1)=((n+1:Nat):Int):=by omega
   cases hj with
   |@num p m t =>
    refine⟨_,rfl,_,_,_,_,rfl,rfl,(sL _).tup t,(show atI [V.str "num",.int m] 0=some (.str "num") from rfl),rfl,_,rfl,dE (λc=>nK0 c) (λ_=>?_)⟩
    have hw:(Kd.num m).words=1:=rfl
    rw [hw] at hn
    refine⟨⟨us,ls,n+1,_,by rw [<-e1]<;>rfl,rfl,hu,by omega⟩,?_⟩
    show k.words - ((n:Int)+1).toNat < k.words - (n:Int).toNat
    omega
   |@name p q t h =>
    refine⟨_,rfl,_,_,_,_,rfl,rfl,(sL _).tup h,(show atI [V.str "name",.str q,.str t] 0=some (.str "name") from rfl),rfl,_,rfl,dE (λc=>nK0 c) (λ_=>?_)⟩
    have hw:(Kd.name q t).words=1:=rfl
    rw [hw] at hn
    refine⟨⟨us,ls,n+1,_,by rw [<-e1]<;>rfl,rfl,hu,by omega⟩,?_⟩
    show k.words - ((n:Int)+1).toNat < k.words - (n:Int).toNat
    omega
   |@pair p y z a b t ha hb =>
    have hw:(Kd.pair a b).words=1+a.words+b.words:=rfl
    rw [hw] at hn hjp
    have h1:=eP a
    have h2:=eP b
    refine⟨_,rfl,_,_,_,_,rfl,rfl,(sL _).tup t,(show atI [V.str "pair",y,z] 0=some (.str "pair") from rfl),rfl,_,rfl,dE (λ_=>?_) (λc=>absurd (by decide +kernel) c)⟩
    refine⟨_,rfl,.inl ⟨rfl,_,SqL.of aa⟩,_,rfl,_,_,_,_,rfl,rfl,(sL _).tup t,(show atI [V.str "pair",y,z] 1=some y from rfl),l,_,_,rfl,rfl,aa,Nat.lt_of_lt_of_le (Nat.lt_succ_self _) (bJ (by omega)),?_⟩
    rw [ji]
    refine⟨_,rfl,.inl ⟨rfl,_,SqL.of aa⟩,_,rfl,_,_,_,_,rfl,rfl,(sL _).tup t,(show atI [V.str "pair",y,z] 2=some z from rfl),l,_,_,rfl,rfl,aa,Nat.lt_of_lt_of_le (Nat.lt_succ_self _) (bJ (by rw [la0];show us.length+1+1<=1000;omega)),?_⟩
    rw [ji]
    refine⟨⟨us++[y]++[z],ls++[a]++[b],n+1,_,by rw [<-e1]<;>rfl,rfl,(hu.append (one ha)).append (one hb),by rw [gJ,gJ,e6,e6];omega⟩,?_⟩
    show k.words - ((n:Int)+1).toNat < k.words - (n:Int).toNat
    omega
  ·have c':¬(0:Int) < (vs.length:Int):=of_decide_eq_false (Bool.eq_false_iff.mpr c)
   have hv0:vs=[]:=List.length_eq_zero_iff.mp (by omega)
   subst hv0
   cases hv
   have e:n=k.words:=hn
   subst e
   exact⟨_,rfl,q _ (sL _)⟩
 ·rintro σ H2 Q1 Q2 hq ⟨v,e1,a,xs,e2,hs,i,j,e3,e4,b,e5,h⟩
  exact⟨v,e1,a,xs,e2,hs,i,j,e3,e4,b,e5,hq _ _ h⟩
theorem tI(W:Nat->St->Hp->Prop)(m:Nat)(h0:W m σ H)
  (hs:∀m σ H,W m σ H->c σ H λb H1=>if b=true then tb { D with nx:=λσ' H'=>∃m',m' < m/\W m' σ' H',ct:=λσ' H'=>∃m',m' < m/\W m' σ' H',bk:=D.nx } σ H1 else D.nx σ H1)
  (mono:∀σ H Q Q',(∀b H1,Q b H1->Q' b H1)->c σ H Q->c σ H Q'):uk c tb D σ H:=by
 refine⟨W,⟨m,h0⟩,λm σ H p=>mono σ H _ _ (λb H1 q=>?_) (hs m σ H p)⟩
 cases b with
 |true=>exact⟨_,λσ' H' z=>z,q⟩
 |false=>exact q
def Kd.names:Kd->List (Str × Str)
 |.num _=>[]
 |.name q t=>[(q,t)]
 |.pair a b=>Kd.names a++Kd.names b
def qv(acc:List (Str × Str))(n:Str × Str):List (Str × Str):=if n∈acc then acc else acc++[n]
def dG(acc l:List (Str × Str)):List (Str × Str):=l.foldl qv acc
def vZ(ks:List Kd):List (Str × Str):=(ks.reverse.map Kd.names).flatten
theorem iV(ls:List Kd)(j:Kd):vZ (ls++[j])=Kd.names j++vZ ls:=by
 unfold vZ
 rw [List.reverse_concat,List.map_cons,List.flatten_cons]
def dq(n:Str × Str):List Key:=[.inr n.1,.inr n.2]
theorem iE(h:dq m=dq n):m=n:=by
 cases m;cases n
 simp [dq] at h
 exact Prod.ext h.1 h.2
theorem wT(h:kvs.map (·.1)=dn.map dq):(cI kvs (dq n) v).map (·.1)=(qv dn n).map dq:=by
 have e:(kvs.any λkv=>decide (kv.1=dq n))=true↔n∈dn:=by
  rw [List.any_eq_true]
  constructor
  ·rintro⟨p,hp,q⟩
   have m:p.1∈kvs.map (·.1):=List.mem_map.mpr ⟨p,hp,rfl⟩
   rw [h] at m
   obtain⟨z,hz,ez⟩:=List.mem_map.mp m
   exact iE (ez.trans (od0 q))▸hz
  ·intro hn
   have m:dq n∈dn.map dq:=List.mem_map.mpr ⟨n,hn,rfl⟩
   rw [<-h] at m
   obtain⟨p,hp,ep⟩:=List.mem_map.mp m
   exact⟨p,hp,dt0 ep⟩
 unfold cI qv
 by_cases hn:n∈dn
 ·rw [if_pos (e.mpr hn),if_pos hn,<-h,List.map_map]
  refine List.map_congr_left λp _=>?_
  show(if p.1=dq n then (p.1,v) else p).1=p.1
  split<;>rfl
 ·rw [if_neg (λz=>hn (e.mp z)),if_neg hn,ma0,ma0,h]
  rfl
theorem qi(dn:List (Str × Str))(n:Str × Str):(qv dn n).length<=dn.length+1:=by
 unfold qv
 split
 ·omega
 ·rw [la0]
  exact Nat.le_refl _
theorem jv{H:Hp}:∀{kvs:List (List Key × V)} {dn:List (Str × Str)} {as:List Addr},kvs.map (·.1)=dn.map dq ->
  Paired (fun(p:List Key × V) (k:Addr)=>H k=some (.tup (p.1.map kV))) kvs as->Paired (fun(n:Str × Str) (a:Addr)=>H a=some (.tup [.str n.1,.str n.2])) dn as
 |[],[],_,_,.nil=>.nil
 |p::kvs,n::dn,_,h,.cons a b=>by
  have h1:p.1=dq n:=(List.cons.inj h).1
  rw [h1] at a
  exact .cons a (jv (List.cons.inj h).2 b)
theorem ke(e:ao H H'):∀{dn:List (Str × Str)} {as:List Addr},Paired (fun(n:Str × Str) (a:Addr)=>H a=some (.tup [.str n.1,.str n.2])) dn as->Paired (fun(n:Str × Str) (a:Addr)=>H' a=some (.tup [.str n.1,.str n.2])) dn as
 |_,_,.nil=>.nil
 |_,_,.cons a b=>.cons (e _ _ a) (ke e b)
theorem kE(e:ao H H2)(h:H a=none):ao H (upd H2 a o):=λb u q=>by rw [ah (aw q h)];exact e b u q
def uu(K:W.Frag):Sp:=λvs H Q _=>∃(x:V) (k:Kd),vs=[x]/\bK K H x k/\k.words<=900 /\
 ∀H' l (as:List Addr),ao H H'->H l=none->H' l=some (.lst (as.map V.ref))->Paired (fun(n:Str × Str) (a:Addr)=>H' a=some (.tup [.str n.1,.str n.2])) (dG [] (Kd.names k)) as->Q (.ref l) H'
theorem nz:bootBuiltins "list"=some (.type "list"):=by decide +kernel
theorem mw:aG ["kind","met","left","here"] ["kind"] (ae kY):=mkS
theorem wI{f:Addr}{fd:FuncData} (F:Fun K "names_in" "names_in" kY f fd) (ml:mg "len"=none) (mi:mg "list"=none):cE P w K mg base CX0 1 f fd ["kind"] (uu K):=by
 refine F.k0 mw λcdv A outer s H vs Q E hr h=>?_
 obtain⟨x,k,rfl,hk,h9,q⟩:=h
 have hu:=Nat.lt_of_le_of_lt (Nat.add_le_add_left (show 1<=64 by decide) _) hr.units
 refine⟨_,pss_cons (aU (i:=1) mw.nd eB)
  (pss_cons (aU (i:=2) mw.nd (bT (pv 0 >> ad)))
  (pss_cons (rq PassesOwn.never (aW uR (aT aK rfl ml boot_len (pv 2 >> ad)) ag (bd _))
   (pss_cons (aU (i:=3) mw.nd (jr PySem.F.plainAttrs_list PySem.F.slot_list_pop PySem.F.type_list_pop xN (pv 2)))
   (ai (ce (aW gi (ix0 ak (pv 3) ag) aJ (bd _))
    (pss_cons (bh (gX PySem.F.plainAttrs_list PySem.F.slot_list_append PySem.F.type_list_append bO (pv 2) (aN ak (pv 3) ag (λ_ _=>rfl) >> ad)))
    (ai (bh (gX PySem.F.plainAttrs_list PySem.F.slot_list_append PySem.F.type_list_append bO (pv 2) (aN ak (pv 3) ag (λ_ _=>rfl) >> ad)))))
    (ai (ce (aW gi (ix0 ak (pv 3) ag) aJ (bd _))
     (ai (dj hu (pv 1) (az (aN ak (pv 3) ag (λ_ _=>rfl) >> aN ak (pv 3) ag (λ_ _=>rfl) >> ad)) ou rfl)) aX))))))
  (ai (aP (aQ (og rfl) rfl mi nz (pv 1 >> ad)))))),?_⟩
 refine λd hd=>⟨_,rfl,(sz 1),λl hl=>?_⟩
 have hdl:d≠l:=λe=>by rw [e] at hl;rw [aa] at hl;cases hl
 have hl0:H l=none:=by rw [ah (Ne.symm hdl)] at hl;exact hl
 refine tI (λm σ H2=>∃(vs:List V) (ks:List Kd) (kvs:List (List Key × V)) (dn:List (Str × Str)) (h:Option V),σ=[some x,some (.ref d),some (.ref l),h]/\ao H H2/\H2 l=some (.lst vs)/\H2 d=some (.dT kvs) /\
   bU K H vs ks/\kvs.map (·.1)=dn.map dq/\dG dn (vZ ks)=dG [] (Kd.names k)/\dn.length+o0 ks<=k.words/\m=o0 ks) (o0 [k])
  ⟨[x],[k],[],[],none,rfl,kE (ac hd _) hl0,aa,by rw [ah hdl];exact aa,one hk,rfl,by show dG [] (Kd.names k++[])=_;rw [List.append_nil],by rw [e6];show 0+_<=_;omega,rfl⟩ ?_ ?_
 ·rintro m σ H2 ⟨vs,ks,kvs,dn,h,rfl,sH,hL,hD,hv,hkeys,hf,hn,rfl⟩
  refine⟨_,rfl,l,_,rfl,.inl (SqL.of hL),_,_,rfl,rfl,_,rfl,?_⟩
  refine dE (λc=>?_) (λc=>?_)
  ·have c':(0:Int) < (vs.length:Int):=od0 c
   have hne:vs≠[]:=λe=>by rw [e] at c';exact absurd c' (by decide)
   obtain⟨us,v,rfl⟩:∃us v,vs=us++[v]:=⟨_,_,(List.dropLast_concat_getLast hne).symm⟩
   obtain⟨ls,j,rfl,hus,hj⟩:=snoc hv
   rw [iV] at hf
   rw [gJ,e6] at hn ⊢
   have hjp:=eP j
   refine⟨_,rfl,.inl ⟨rfl,_,SqL.of hL⟩,l,_,v,rfl,rfl,hL,ro,?_⟩
   rw [List.dropLast_concat]
   have hl2:=mD ls
   have hul:=hus.length
   have sH1:ao H (upd H2 l (.lst us)):=kE sH hl0
   have hD1:upd H2 l (.lst us) d=some (.dT kvs):=by rw [ah hdl];exact hD
   cases hj with
   |@num p m t =>
    refine⟨_,rfl,_,_,_,_,rfl,rfl,sH1.tup t,(show atI [V.str "num",.int m] 0=some (.str "num") from rfl),rfl,_,rfl,dE (λc=>nK0 c) (λ_=>?_)⟩
    refine⟨_,rfl,_,_,_,_,rfl,rfl,sH1.tup t,(show atI [V.str "num",.int m] 0=some (.str "num") from rfl),rfl,_,rfl,dE (λc=>nK0 c) (λ_=>?_)⟩
    exact⟨o0 ls,by omega,us,ls,kvs,dn,_,rfl,sH1,aa,hD1,hus,hkeys,hf,by omega,rfl⟩
   |@name p n t h =>
    refine⟨_,rfl,_,_,_,_,rfl,rfl,sH1.tup h,(show atI [V.str "name",.str n,.str t] 0=some (.str "name") from rfl),rfl,_,rfl,dE (λc=>nK0 c) (λ_=>?_)⟩
    refine⟨_,rfl,_,_,_,_,rfl,rfl,sH1.tup h,(show atI [V.str "name",.str n,.str t] 0=some (.str "name") from rfl),rfl,_,rfl,dE (λ_=>?_) (λc=>absurd (by decide +kernel) c)⟩
    refine⟨_,rfl,_,rfl,_,_,_,_,rfl,rfl,sH1.tup h,(show atI [V.str "name",.str n,.str t] 1=some (.str n) from rfl),_,rfl,_,_,_,_,rfl,rfl,sH1.tup h,(show atI [V.str "name",.str n,.str t] 2=some (.str t) from rfl),(sz 2),λb hb=>?_⟩
    have hbd:d≠b:=aw hD1 hb
    have hbl:l≠b:=aw aa hb
    have hb0:H b=none:=by
     cases e:H b with
     |none=>rfl
     |some o=>rw [sH1 b o e] at hb;cases hb
    have hlen:kvs.length=dn.length:=by have:=congrArg List.length hkeys;rw [lm0,lm0] at this;exact this
    have hw:(Kd.name n t).words=1:=rfl
    rw [hw] at hn
    refine⟨d,_,rfl,kH.t (k:=dq (n,t)) (by rw [ah hbd];exact hD1) (by rw [aa]<;>rfl) (Nat.lt_of_lt_of_le (Nat.lt_succ_self _) (bJ (by omega))),?_⟩
    have al:=qi dn (n,t)
    refine⟨o0 ls,by omega,us,ls,_,qv dn (n,t),_,rfl,kE (kE sH1 hb0) hd,?_,aa,hus,wT hkeys,hf,by omega,rfl⟩
    rw [ah (Ne.symm hdl),ah hbl,aa]
   |@pair p y z a b t ha hb =>
    have hw:(Kd.pair a b).words=1+a.words+b.words:=rfl
    rw [hw] at hn hjp ⊢
    have h1:=eP a
    have h2:=eP b
    refine⟨_,rfl,_,_,_,_,rfl,rfl,sH1.tup t,(show atI [V.str "pair",y,z] 0=some (.str "pair") from rfl),rfl,_,rfl,dE (λ_=>?_) (λc=>absurd (by decide +kernel) c)⟩
    refine⟨_,rfl,.inl ⟨rfl,_,SqL.of aa⟩,_,rfl,_,_,_,_,rfl,rfl,sH1.tup t,(show atI [V.str "pair",y,z] 2=some z from rfl),l,_,_,rfl,rfl,aa,Nat.lt_of_lt_of_le (Nat.lt_succ_self _) (bJ (by omega)),?_⟩
    rw [ji]
    refine⟨_,rfl,.inl ⟨rfl,_,SqL.of aa⟩,_,rfl,_,_,_,_,rfl,rfl,(kE sH hl0).tup t,(show atI [V.str "pair",y,z] 1=some y from rfl),l,_,_,rfl,rfl,aa,Nat.lt_of_lt_of_le (Nat.lt_succ_self _) (bJ (by rw [la0];show us.length+1+1<=1000;omega)),?_⟩
    rw [ji]
    have es:o0 (ls++[b]++[a])=o0 ls+b.words+a.words:=by rw [gJ,gJ,e6,e6]
    refine⟨o0 (ls++[b]++[a]),by rw [es];omega,us++[z]++[y],ls++[b]++[a],kvs,dn,_,rfl,kE sH hl0,aa,by rw [ah hdl];exact hD,(hus.append (one hb)).append (one ha),hkeys,?_,by rw [es];omega,rfl⟩
    rw [iV,iV,<-List.append_assoc]
    exact hf
  ·have c':¬(0:Int) < (vs.length:Int):=of_decide_eq_false (Bool.eq_false_iff.mpr c)
   have hv0:vs=[]:=List.length_eq_zero_iff.mp (by omega)
   subst hv0
   cases hv
   refine⟨_,rfl,d,kvs,rfl,hD,λas o ho pr=>?_⟩
   have ef:dn=dG [] (Kd.names k):=hf
   subst ef
   have so:ao H2 (upd H2 o (.lst (as.map V.ref))):=ac ho _
   have ho0:H o=none:=by
    cases e:H o with
    |none=>rfl
    |some u=>rw [sH o u e] at ho;cases ho
   refine q _ o as (λb u e=>so b u (sH b u e)) ho0 aa (ke so (jv hkeys pr))
 ·rintro σ H2 Q1 Q2 hq ⟨v,e1,a,xs,e2,hs,i,j,e3,e4,b,e5,h⟩
  exact⟨v,e1,a,xs,e2,hs,i,j,e3,e4,b,e5,hq _ _ h⟩
theorem xx{ns:List Int}{i:Int}(h0:0<=i)(h1:i < ns.length):∃v:Int,atI (ns.map V.int) i=some (.int v):=by
 have hk:i.toNat < List.length ns:=by omega
 have e:i=((i.toNat:Nat):Int):=by omega
 have q:atI (ns.map V.int) ((i.toNat:Nat):Int)=some (.int ns[i.toNat]):=bE (by simp [hk])
 rw [<-e] at q
 exact⟨_,q⟩
theorem wt{α:Type}{xs:List α}{i:Int}(h0:0<=i)(h1:i < xs.length):∃v,atI xs i=some v:=by
 have hk:i.toNat < xs.length:=by omega
 have e:i=((i.toNat:Nat):Int):=by omega
 have q:atI xs ((i.toNat:Nat):Int)=some xs[i.toNat]:=bE (by simp)
 rw [<-e] at q
 exact⟨_,q⟩
theorem vt(z:Str):PyData.strOk z=true↔∀c∈z.cps.toList,c < 0x110000:=by
 unfold PyData.strOk
 rw [Array.all_eq_true_iff_forall_mem]
 simp
theorem yv(ha:PyData.strOk a=true)(hb:PyData.strOk b=true):PyData.strOk (a++b)=true:=by
 rw [vt] at *
 intro c hc
 have hc':c∈(a.cps++b.cps).toList:=hc
 rw [Array.toList_append] at hc'
 rcases List.mem_append.mp hc' with h|h
 ·exact ha c h
 ·exact hb c h
theorem AH(h:PyData.strOk z=true)(hm:atI z.cps.toList i=some g):PyData.strOk ⟨#[g]⟩=true:=by
 rw [vt] at *
 intro c hc
 have:c=g:=by simpa using hc
 subst this
 unfold atI at hm
 obtain⟨j,_,e⟩:=Option.bind_eq_some_iff.mp hm
 exact h c (List.mem_of_getElem? e)
def Kd.sok:Kd->Bool
 |.num _=>true
 |.name q t=>PyData.strOk q&&PyData.strOk t
 |.pair a b=>Kd.sok a&&Kd.sok b
theorem ym(a b:Str):(a++b).length=a.length+b.length:=by
 show Array.size (a.cps++b.cps)=_
 rw [Array.size_append]<;>rfl
theorem dr(a:ao H H1)(b:ao H1 H2):ao H H2:=λx o e=>b x o (a x o e)
theorem na(h:H l=some (.lst ys))(t:SqT K H a xs):SqT K (upd H l o) a xs:=by
 rcases t with (t|⟨o',t⟩)|t
 ·exact .inl (.inl (by rw [ah (λe=>by rw [e,h] at t;cases t)];exact t))
 ·exact .inl (.inr ⟨o',by rw [ah (λe=>by rw [e,h] at t;cases t)];exact t⟩)
 ·exact .inr t
theorem aC(e:∀a xs,SqT K H a xs->SqT K H' a xs):∀{x:V} {k:Kd},bK K H x k->bK K H' x k
 |_,_,.num h=>.num (e _ _ h)
 |_,_,.name h=>.name (e _ _ h)
 |_,_,.pair h a b=>.pair (e _ _ h) (aC e a) (aC e b)
theorem gc(e:∀a xs,SqT K H a xs->SqT K H' a xs):∀{xs:List V} {ks:List Kd},bU K H xs ks->bU K H' xs ks
 |_,_,.nil=>.nil
 |_,_,.cons a b=>.cons (aC e a) (gc e b)
theorem eE(e:ao H H')(h:SqL K H a xs):SqL K H' a xs:=by
 rcases h with (h|⟨o,h⟩)|h
 ·exact .inl (.inl (e _ _ h))
 ·exact .inl (.inr ⟨o,e _ _ h⟩)
 ·exact .inr h
def C2(ks:List Kd):List Kd:=(ks.map Kd.leaves).flatten
theorem Av{vs:List V}{n:Nat}(h:n<=vs.length):xJ vs none (some (n:Int))=vs.take n:=by
 unfold xJ
 rw [HT.sIx_none,HT.sIx_nat,Nat.min_eq_left h]
 rfl
theorem wU{vs:List V}{n:Nat}(h:n<=vs.length):xJ vs (some (n:Int)) none=vs.drop n:=by
 unfold xJ
 rw [HT.sIx_none,HT.sIx_nat,Nat.min_eq_left h,List.take_of_length_le (by rw [List.length_drop];exact Nat.le_refl _)]
theorem jD:gU X (.builtin "isinstance") (λxs H Q=>∃x T t b,xs=[x,.ty T]/\qO X.K H x t/\W.kitOne X.K t (.type T)=some b/\Q (.bl b) H):=by
 intro pins s σ H xs us Q I rv h
 obtain⟨x,T,t,b,rfl,ty,e,q⟩:=h
 obtain⟨u,v,rfl,r1,r2⟩:=rv.two
 cases r2
 exact iD I r1 ty e λtk=>⟨.bl b,H,I.tok _,rfl,q⟩
theorem xI(K:W.Frag):W.kitOne K (.type "int") (.type "int")=some true:=rfl
theorem zR(K:W.Frag):W.kitOne K (.type "int") (.type "bool")=some false:=rfl
theorem Ap(K:W.Frag):W.kitOne K (.type "list") (.type "list")=some true:=rfl
theorem mO:bootBuiltins "int"=some (.type "int"):=by decide +kernel
theorem bF:bootBuiltins "tuple"=some (.type "tuple"):=by decide +kernel
def Kd.put(G:Str × Str->Option Kd):Kd->Kd
 |.num n=>.num n
 |.name q t=>(G (q,t)).getD (.name q t)
 |.pair a b=>.pair (Kd.put G a) (Kd.put G b)
def Kd.depth:Kd->Nat
 |.num _=>1
 |.name _ _=>1
 |.pair a b=>1+max (Kd.depth a) (Kd.depth b)
theorem iy(k:Kd):1<=Kd.depth k:=by
 cases k with
 |num _=>exact Nat.le_refl _
 |name _ _=>exact Nat.le_refl _
 |pair a b=>exact Nat.le_add_right _ _
theorem dw:∀k:Kd,Kd.depth k<=k.leaves.length
 |.num _=>Nat.le_refl _
 |.name _ _=>Nat.le_refl _
 |.pair a b=>by
  have h1:=dw a
  have h2:=dw b
  have h3:=gG a
  have h4:=gG b
  show 1+max (Kd.depth a) (Kd.depth b)<=(a.leaves++b.leaves).length
  rw [la0]
  omega
def iR(K:W.Frag)(H:Hp)(kvs:List (List Key × V))(G:Str × Str->Option Kd):Prop :=
 ∀n,(dC kvs (dq n)=none/\G n=none)\/∃v k,dC kvs (dq n)=some v/\G n=some k/\bK K H v k
theorem iR.same(e:ao H H')(h:iR K H kvs G):iR K H' kvs G:=λn=>by
 rcases h n with h|⟨v,k,h1,h2,h3⟩
 ·exact .inl h
 ·exact .inr ⟨v,k,h1,h2,h3.same e⟩
def jz(K:W.Frag)(n:Nat):Sp:=λvs H Q _=>∃(x:V) (g:Addr) (k:Kd) (kvs:List (List Key × V)) (G:Str × Str->Option Kd),vs=[x,.ref g]/\bK K H x k/\Kd.depth k<=n/\H g=some (.dT kvs)/\iR K H kvs G /\
 ∀H' v,ao H H'->bK K H' v (Kd.put G k)->Q v H'
theorem BI:aG ["kind","given"] ["kind","given"] (ae zB):=mkS
theorem xv (F:Fun K "put" "put" zB f fd) (bP:cU K fd ["kind","given"] []) (kP:W.keepIn K (.ref f)=true) (mP:mg "put"=some (.ref f)) :
  ∀n,cE P w K mg base CX0 n f fd ["kind","given"] (jz K n)
 |0=>⟨λvs H Q E h=>by obtain⟨x,g,k,kvs,G,rfl,_⟩:=h;rfl,λA outer s H args us vs Q E _ _ _ _ h=>by
   obtain⟨x,g,k,kvs,G,_,_,hd,_⟩:=h
   have:=iy k
   omega⟩
 |n+1=>by
  have IH:=xv F bP kP mP n
  refine F.k0 BI λcdv A outer s H vs Q E hr h=>?_
  obtain⟨x,g,k,kvs,G,rfl,hk,hd,hg,hG,q⟩:=h
  have hu:=dM hr
  refine⟨_,pss_cons (ce (aW gi (ix0 ak (pv 0) ag) aJ (bd _))
    (ai (aP (az (aJ >> fF IH hr rfl mP kP bP .nil d9 (aN ak (pv 0) ag (λ_ _=>rfl) >> pv 1 >> ad) >> fF IH hr rfl mP kP bP .nil d9 (aN ak (pv 0) ag (λ_ _=>rfl) >> pv 1 >> ad) >> ad)))) aX)
   (pss_cons (ce (aW gi (ix0 ak (pv 0) ag) aJ (bd _))
    (ai (aP (vQ hu (pv 1) (az (aN ak (pv 0) ag (λ_ _=>rfl) >> aN ak (pv 0) ag (λ_ _=>rfl) >> ad)) (pv 0) ⟨rfl,rfl,rfl,rfl⟩))) aX)
   (ai (aP (pv 0)))),?_⟩
  cases hk with
  |@num p m t =>
   refine⟨_,rfl,_,_,_,_,rfl,rfl,t,(show atI [V.str "num",.int m] 0=some (.str "num") from rfl),rfl,_,rfl,dE (λc=>nK0 c) (λ_=>?_)⟩
   refine⟨_,rfl,_,_,_,_,rfl,rfl,t,(show atI [V.str "num",.int m] 0=some (.str "num") from rfl),rfl,_,rfl,dE (λc=>nK0 c) (λ_=>?_)⟩
   exact⟨_,rfl,q _ _ sr0 (.num t)⟩
  |@name p a b t =>
   refine⟨_,rfl,_,_,_,_,rfl,rfl,t,(show atI [V.str "name",.str a,.str b] 0=some (.str "name") from rfl),rfl,_,rfl,dE (λc=>nK0 c) (λ_=>?_)⟩
   refine⟨_,rfl,_,_,_,_,rfl,rfl,t,(show atI [V.str "name",.str a,.str b] 0=some (.str "name") from rfl),rfl,_,rfl,dE (λ_=>?_) (λc=>absurd (by decide +kernel) c)⟩
   refine⟨_,rfl,g,rfl,.inr ⟨kvs,.inl hg⟩,_,rfl,_,_,_,_,rfl,rfl,t,(show atI [V.str "name",.str a,.str b] 1=some (.str a) from rfl),_,rfl,_,_,_,_,rfl,rfl,t,(show atI [V.str "name",.str a,.str b] 2=some (.str b) from rfl),(sz 2),λy hy=>?_⟩
   have sy:=ac hy (.tup [.str a,.str b])
   refine⟨_,rfl,_,gj.t (k:=dq (a,b)) (sy _ _ hg) aa,q _ _ sy ?_⟩
   show bK K _ ((dC kvs (dq (a,b))).getD _) ((G (a,b)).getD (.name a b))
   rcases hG (a,b) with ⟨h1,h2⟩|⟨v,k',h1,h2,h3⟩
   ·rw [h1,h2]
    exact .name (sy.tup t)
   ·rw [h1,h2]
    exact h3.same sy
  |@pair p y z a b t ha hb =>
   have hd':1+max (Kd.depth a) (Kd.depth b)<=n+1:=hd
   refine⟨_,rfl,_,_,_,_,rfl,rfl,t,(show atI [V.str "pair",y,z] 0=some (.str "pair") from rfl),rfl,_,rfl,dE (λ_=>?_) (λc=>absurd (by decide +kernel) c)⟩
   refine⟨_,rfl,_,_,_,_,rfl,rfl,t,(show atI [V.str "pair",y,z] 1=some y from rfl),_,rfl,y,g,a,kvs,G,rfl,ha,by omega,hg,hG,λH1 v1 s1 k1=>?_⟩
   refine⟨_,rfl,_,_,_,_,rfl,rfl,s1.tup t,(show atI [V.str "pair",y,z] 2=some z from rfl),_,rfl,z,g,b,kvs,G,rfl,hb.same s1,by omega,s1 _ _ hg,hG.same s1,λH2 v2 s2 k2=>?_⟩
   refine⟨(sz 3),λc hc=>q _ _ (dr (dr s1 s2) (ac hc _)) ?_⟩
   exact .pair (SqT.of aa) ((k1.same s2).same (ac hc _)) (k2.same (ac hc _))
end
end K44
namespace K44
open PySem L2 Kk Builtin.Str
end K44
namespace K44
open PySem L2 Kk
def chF(i:Int):Nat:=(atI (Str.ofString "abcdefghijklmnopqrstuvwxyz").cps.toList i).getD 97
theorem AM(i:Int):PyData.strOk ⟨#[chF i]⟩=true:=by
 unfold chF
 cases h:atI (Str.ofString "abcdefghijklmnopqrstuvwxyz").cps.toList i with
 |none=>decide +kernel
 |some g=>exact AH (by decide +kernel) h
theorem vE{z:Str}{ws:List Str}:inV (V.str z) (ws.map V.str)=true↔z∈ws:=by
 unfold inV
 rw [List.any_eq_true]
 constructor
 ·rintro⟨y,hy,e⟩
  obtain⟨u,hu,rfl⟩:=List.mem_map.mp hy
  have e':(u==z)=true:=e
  rw [<-eq_of_beq e']
  exact hu
 ·intro h
  exact⟨V.str z,List.mem_map.mpr ⟨z,h,rfl⟩,(show(z==z)=true from beq_self_eq_true z)⟩
section
variable{P:Program}{w:World}{K:W.Frag}{mg:Str->Option Value}{base:Heap}
def okW(z:Str):Prop:=PyData.strOk z=true/\z.length<=9000
abbrev rO:Stmt:=mq (top 15) 0
theorem kf':¬(("kinds":Str)="funs"):=by decide +kernel
def Kd.ok:Kd->Prop
 |.num _=>True
 |.name q t=>okW q/\okW t
 |.pair a b=>Kd.ok a/\Kd.ok b
theorem gy:∀{k:Kd},Kd.ok k->∀n∈Kd.names k,okW n.1/\okW n.2
 |.num _,_,n,hn=>nomatch hn
 |.name q t,h,n,hn=>by
  obtain rfl:=List.mem_singleton.mp hn
  exact h
 |.pair a b,h,n,hn=>by
  rcases List.mem_append.mp hn with z|z
  ·exact gy h.1 n z
  ·exact gy h.2 n z
theorem cJ:bootBuiltins "dict"=some (.type "dict"):=by decide +kernel
theorem AG:aG ["self","kinds","funs"] ["self","kinds","funs"] (ae rO):=mkS
end
end K44
namespace L2
open PySem PySem.Spec PyProof.Rows
structure Ca(P:Program)(w:World)(K:W.Frag)(mg:Str->Option Value)(base:Heap)(n:Nat)(x:Str)(f:Addr)(fd:FuncData)(ps:List Str)(sp:Sp):Prop where
 g:cE P w K mg base CX0 n f fd ps sp
 b:cU K fd ps []
 k:W.keepIn K (.ref f)=true
 m:mg x=some (.ref f)
theorem cal(C:Ca X.prog X.w X.K X.mg X.base k x f fd ps sp)(hr:bZ k X.A)(ha:PA X (e::es) t)(hg:Gl X x:=by exact rfl) (hdb:(x==("__debug__":Str))=false:=by decide) (he:starEach (e::es) X.env=(false,eval e X.env)::starEach es X.env:=by rfl) (hpl:(backTo pos (starEach es X.env)).any (·.1)=false:=by rfl):PE X (.Call (.Name x p) (e::es) [] pos) (zW sp [] E0 t):=fF C.g hr hg C.m C.k C.b .nil d9 ha hdb he hpl
theorem jU.ok{P:Program}{w:World}{K:W.Frag}{mg:Str->Option Value}{base:Heap}{x qual:Str}{st:Stmt}{dV:Value}{f:Addr}{fd:FuncData}{N ps:List Str}{k:Nat}{sp:Sp}(F:jU K x qual st dV f fd)(S:aG N ps (ae st))(len:∀vs H Q E,sp vs H Q E->vs.length=ps.length)
  (hb:∀(cdv:Value) (A:Around) (outer:List Env) (s:Shared) (H:Hp) (vs:List V) (Q:VK) (E:XK),bZ k (A.deeper (envOfC qual (ae st) s.heap.objs.size f cdv))->sp vs H Q E ->
   ∃t,PSs (i6 CX0 P w K mg base N qual (ae st) f cdv A outer s H E).nox (aj st) t/\t { nx:=λ_ H'=>Q .non H',rt:=Q } (start N vs) H):cE P w K mg base CX0 (k+1) f fd ps sp:=by
 obtain⟨oc,od,kV,doc,pm,an,cdv,ct,osl,rfl,lk,hcd⟩:=F.ex
 refine Ai lk hcd S len λA outer s H vs Q E hr hsp=>?_
 obtain⟨t,h,q⟩:=hb cdv A outer s H vs Q E hr hsp
 exact⟨t,h.nox,q⟩
end L2
namespace K44
open PySem L2 Kk
theorem xo{α:Type}[DecidableEq α]:∀(ws l:List α),l.Nodup->ws.length < l.length->∃x∈l,x∉ws
 |[],[],_,h=>absurd h (by simp)
 |[],x::_,_,_=>⟨x,.head _,λh=>nomatch h⟩
 |w::ws,l,hn,hl=>by
  have h1:ws.length < (l.erase w).length:=by
   have:=List.length_erase (a:=w) (l:=l)
   simp only [lc0] at hl
   split at this<;>omega
  obtain⟨x,hx,hw⟩:=xo ws (l.erase w) (hn.erase w) h1
  have hx2:=(hn.mem_erase_iff.mp hx)
  exact⟨x,hx2.2,λz=>(mc0 z).elim hx2.1 hw⟩
def smW(z:Str):Prop:=PyData.strOk z=true/\z.length<=14
section
variable{P:Program}{w:World}{K:W.Frag}{mg:Str->Option Value}{base:Heap}
theorem uH(ws:List Str):(ws.map V.str).all mZ=true:=by
 induction ws with
 |nil=>rfl
 |cons z ws ih =>
  rw [List.map_cons,List.all_cons,ih]
  rfl
def ir(K:W.Frag)(n:Nat):Sp:=λvs H Q _=>∃(p g ta:Addr) (x:V) (xs:List V) (ks:List Kd) (k:Kd) (kvs:List (List Key × V)) (G:Str × Str->Option Kd),vs=[.ref p,.ref g]/\SqT K H p [.ref ta,x]/\SqT K H ta xs/\bU K H xs ks/\bK K H x k /\
 (∀k'∈ks,Kd.depth k'<=n)/\Kd.depth k<=n/\ks.length<=100/\H g=some (.dT kvs)/\iR K H kvs G /\
 ∀H' (p' ta':Addr) (xs':List V) (x':V),ao H H'->H' p'=some (.tup [.ref ta',x'])->H' ta'=some (.tup xs')->bU K H' xs' (ks.map (Kd.put G))->bK K H' x' (Kd.put G k)->Q (.ref p') H'
theorem wC:aG ["fun","given"] ["fun","given"] (ae jk):=mkS
theorem pj:∀{xs:List V} {ks:List Kd},bU K H xs ks->∀{i:Nat} {x:V},xs[i]?=some x->∃k,ks[i]?=some k/\bK K H x k
 |_,_,.nil,i,x,h=>by simp at h
 |_,_,.cons a t,0,x,h=>by
  simp at h
  subst h
  exact⟨_,rfl,a⟩
 |_,_,.cons a t,i+1,x,h=>by
  simp at h
  obtain⟨k,hk,r⟩:=pj t h
  exact⟨k,by simpa using hk,r⟩
theorem tM (F:Fun K "put_in_fun" "put_in_fun" jk f fd) (GP:Ca P w K mg base n "put" fp fdp ["kind","given"] (jz K n)) (mt:mg "tuple"=none) :
  cE P w K mg base CX0 (n+1) f fd ["fun","given"] (ir K n):=by
 refine F.k0 wC λcdv A outer s H vs Q E hr h=>?_
 obtain⟨p,g,ta,x,xs,ks,k,kvs,G,rfl,hp,hta,hks,hk,hdk,hd,hl,hg,hG,q⟩:=h
 refine⟨_,ai (aP (az (aQ bj (by rfl) mt bF (fE (own:=["kind"]) (caps:=["given"]) (κ:=[1]) rfl ⟨rfl,by decide +kernel,by decide +kernel,rfl,rfl,(λy hy=>by obtain rfl:=List.mem_singleton.mp hy;rfl),(λy hy=>by obtain rfl:=List.mem_singleton.mp hy;exact⟨.inl rfl,rfl,.inl rfl⟩)⟩ rfl
  (jP (ix0 ak (pv 0) ag)) (λ_ _ _ _=>pg0 ["kind","given"]) (λ_ _ _ _=>cal GP hr (pv 0 >> pv 1 >> ad)) >> ad) >> cal GP hr (aN ak (pv 0) ag (λ_ _=>rfl) >> pv 1 >> ad) >> ad))),?_⟩
 have hlx:=hks.length
 refine⟨_,rfl,p,_,_,_,rfl,rfl,hp,(show atI [V.ref ta,x] 0=some (.ref ta) from rfl),ta,rfl,⟨_,hta⟩,?_⟩
 refine hV (xs:=xs) (λi ys H3=>ao H H3/\bU K H3 ys ((ks.take i).map (Kd.put G))/\ys.length=i) ⟨sr0,.nil,rfl⟩ (bJ (by omega)) ?_ ?_ ?_ ?_ ?_ ?_
 ·rintro i ys H3 ⟨_,_,h⟩
  exact Nat.le_of_eq h
 ·rintro i u ys H3 hu ⟨s3,_⟩
  exact⟨_,_,s3.tup hta,hu⟩
 ·rintro i ys u H3 H' hn ⟨s3,_⟩ hy
  exact⟨hy.1,hy.2 _ (s3.tup hta)⟩
 ·rintro ys H3 ⟨s3,_⟩
  exact⟨_,s3.tup hta,Nat.le_refl _⟩
 ·rintro i u ys H3 N hN hu ⟨s3,hys,hz⟩
  obtain⟨k1,hk1,hku⟩:=pj hks hu
  have hm:k1∈ks:=List.mem_of_getElem? hk1
  refine⟨rfl,di ⟨_,rfl,_,rfl,u,g,k1,kvs,G,rfl,hku.same s3,hdk k1 hm,s3 _ _ hg,hG.same s3,λH4 v s4 hv=>hN _ _ ⟨s3.trans s4,?_,?_⟩⟩⟩
  ·have e:(ks.take (i+1)).map (Kd.put G)=(ks.take i).map (Kd.put G)++[Kd.put G k1]:=by
    rw [List.take_add_one,hk1]
    simp
   rw [e]
   exact(hys.same s4).append (one hv)
  ·rw [la0,hz]
   rfl
 ·rintro ys H3 D ⟨s3,hys,hz⟩ hD
  have eA:ks.take xs.length=ks:=by rw [hlx];exact List.take_length
  rw [eA] at hys
  have e1:=ac hD (.lst ys)
  refine⟨D,ys,rfl,.inl ⟨SqL.of aa,λta' hta'=>?_⟩⟩
  have e2:=ac hta' (.tup ys)
  have s5:=s3.trans (e1.trans e2)
  refine⟨_,rfl,p,_,_,_,rfl,rfl,s5.tup hp,(show atI [V.ref ta,x] 1=some x from rfl),_,rfl,x,g,k,kvs,G,rfl,hk.same s5,hd,s5 _ _ hg,hG.same s5,λH6 x' s6 hx'=>?_⟩
  refine⟨(sz 2),λp' hp'=>?_⟩
  have e7:=ac hp' (.tup [.ref ta',x'])
  exact q _ p' ta' ys x' (s5.trans (s6.trans e7)) aa (e7 _ _ (s6 _ _ aa)) (hys.same (e1.trans (e2.trans (s6.trans e7)))) (hx'.same e7)
def gY(CF:Addr):Sp:=λvs H Q _=>∃(p dx a b:Addr) (kvs fvs:List (Key × V)),vs=[.ref p,.ref a,.ref b]/\H p=some (.ins CF dx [])/\H a=some (.dK kvs)/\H b=some (.dK fvs) /\
 ∀(d e:Addr) (fs:List (Str × V)) (H':Hp),H d=none->H e=none->d≠e->H' p=some (.ins CF dx fs)->fs.lookup ("kinds":Str)=some (.ref d)->fs.lookup ("funs":Str)=some (.ref e)->fs.lookup ("hidden":Str)=none->fs.lookup ("put":Str)=none->H' d=some (.dK kvs)->H' e=some (.dK fvs)->(∀c o,H c=some o->c≠p->H' c=some o)->Q .non H'
theorem wB{f CF:Addr}{fd:FuncData} (F:Fun K "__init__" "Face.__init__" rO f fd) (cF:Cls K CF) (nK:aZ K CF "kinds") (nF:aZ K CF "funs") (md:mg "dict"=none):cE P w K mg base CX0 1 f fd ["self","kinds","funs"] (gY CF):=by
 refine F.k0 AG λcdv A outer s H vs Q E hr h=>?_
 obtain⟨p,dx,a,b,kvs,fvs,rfl,hp,ha,hb,q⟩:=h
 refine⟨_,pss_cons (qy (pv 0) (aQ d5 rfl md cJ (pv 1 >> ad)) rfl) (ai (qy (pv 0) (aQ d5 rfl md cJ (pv 2 >> ad)) rfl)),?_⟩
 refine⟨_,rfl,a,kvs,rfl,ha,λd hd=>?_⟩
 have npd:p≠d:=aw hp hd
 refine⟨_,rfl,p,CF,dx,[],rfl,(by rw [ah npd];exact hp),cF,nK,(by show 0 < 1000;decide),?_⟩
 have hb1:upd (upd H d (.dK kvs)) p (.ins CF dx (mJ "kinds" (.ref d) [])) b=some (.dK fvs):=by
  rw [ah (yK hb hp (by intro z;cases z)),ah (aw hb hd)]
  exact hb
 refine⟨_,rfl,b,fvs,rfl,hb1,λe he=>?_⟩
 have npe:p≠e:=λz=>by rw [<-z,aa] at he;cases he
 have nde:d≠e:=λz=>by rw [<-z,ah npd.symm,aa] at he;cases he
 have he0:H e=none:=by
  rw [ah npe.symm,ah nde.symm] at he
  exact he
 refine⟨_,rfl,p,CF,dx,_,rfl,(by rw [ah npe];exact aa),cF,nF,(by show 1 < 1000;decide),?_⟩
 refine q d e _ _ hd he0 nde aa (by rw [bz,if_neg kf',bz,if_pos rfl]) (by rw [bz,if_pos rfl]) (by rw [bz,if_neg (by decide +kernel),bz,if_neg (by decide +kernel)];rfl) (by rw [bz,if_neg (by decide +kernel),bz,if_neg (by decide +kernel)];rfl) ?_ ?_ λc o ec hc=>?_
 ·rw [ah npd.symm,ah nde,ah npd.symm,aa]
 ·rw [ah npe.symm,aa]
 ·have hce:c≠e:=λz=>by
   rw [z] at ec hc
   rw [he0] at ec
   cases ec
  rw [ah hc,ah hce,ah hc,ah (aw ec hd)]
  exact ec
def dR{α:Type}(R:V->α->Prop)(kvs:List (Key × V))(m:List (Str × α)):Prop:=Paired (fun(p:Key × V) (q:Str × α)=>p.1=.inr q.1/\R p.2 q.2) kvs m
theorem dR.snoc{α:Type}{R:V->α->Prop}{kvs:List (Key × V)}{m:List (Str × α)}{z:Str}{v:V}{x:α}(h:dR R kvs m)(hv:R v x):dR R (kvs++[(.inr z,v)]) (m++[(z,x)]):=by
 unfold dR at h ⊢
 induction h with
 |nil=>exact .cons ⟨rfl,hv⟩ .nil
 |cons a _ ih=>exact .cons a ih
theorem dR.imp{α:Type}{R S:V->α->Prop}{kvs:List (Key × V)}{m:List (Str × α)}(f:∀v x,R v x->S v x)(h:dR R kvs m):dR S kvs m:=Paired.mapP h λ_ _ ⟨e,r⟩=>⟨e,f _ _ r⟩
theorem dR.keys{α:Type}{R:V->α->Prop}{kvs:List (Key × V)}{m:List (Str × α)}(h:dR R kvs m):kvs.map (·.1)=m.map λq=>(Sum.inr q.1:Key):=by
 unfold dR at h
 induction h with
 |nil=>rfl
 |cons a _ ih=>rw [List.map_cons,List.map_cons,ih,a.1]
theorem vN{kvs:List (Key × V)}{k:Key}(h:k∉kvs.map (·.1)):dC kvs k=none:=by
 cases e:dC kvs k with
 |none=>rfl
 |some v =>
  exfalso
  apply h
  unfold dC at e
  obtain⟨p,hp,_⟩:=Option.map_eq_some_iff.mp e
  have h1:=List.mem_of_find?_eq_some hp
  have h2:=List.find?_some hp
  have h3:p.1=k:=by simpa using h2
  rw [<-h3]
  exact List.mem_map_of_mem h1
theorem dR.put{α:Type}{R:V->α->Prop}{kvs:List (Key × V)}{m:List (Str × α)}{z:Str}{v:V}{x:α}(h:dR R kvs m)(hz:z∉m.map (·.1))(hv:R v x):dR R (cI kvs (.inr z) v) (m++[(z,x)]):=by
 rw [iL v (vN ?_)]
 ·exact h.snoc hv
 ·rw [h.keys]
  intro hm
  obtain⟨q,hq,e⟩:=List.mem_map.mp hm
  exact hz (by rw [<-Sum.inr.inj e];exact List.mem_map_of_mem hq)
def cY(K:W.Frag)(H:Hp)(v:V)(f:List Kd × Kd):Prop:=∃(p ta:Addr) (x:V) (xs:List V),v=.ref p/\SqT K H p [.ref ta,x]/\SqT K H ta xs/\bU K H xs f.1/\bK K H x f.2
theorem cY.keep{K:W.Frag}{H H':Hp}{v:V}{f:List Kd × Kd}(e:∀a xs,SqT K H a xs->SqT K H' a xs)(h:cY K H v f):cY K H' v f:=by
 obtain⟨p,ta,x,xs,h1,h2,h3,h4,h5⟩:=h
 exact⟨p,ta,x,xs,h1,e _ _ h2,e _ _ h3,gc e h4,aC e h5⟩
theorem eY{H:Hp}{l a:Addr}{kvs:List (Key × V)}{xs:List V}{o:HO}(h:H l=some (.dK kvs))(t:SqT K H a xs):SqT K (upd H l o) a xs:=by
 rcases t with (t|⟨o',t⟩)|t
 ·exact .inl (.inl (by rw [ah (λe=>by rw [e,h] at t;cases t)];exact t))
 ·exact .inl (.inr ⟨o',by rw [ah (λe=>by rw [e,h] at t;cases t)];exact t⟩)
 ·exact .inr t
def dQ(K:W.Frag)(H:Hp)(CF fa:Addr)(m1:List (Str × Kd))(m2:List (Str × (List Kd × Kd))):Prop :=
 ∃(dx d1 d2:Addr) (fs:List (Str × V)) (kv1 kv2:List (Key × V)),H fa=some (.ins CF dx fs)/\fs.lookup ("kinds":Str)=some (.ref d1)/\fs.lookup ("funs":Str)=some (.ref d2)/\H d1=some (.dK kv1)/\H d2=some (.dK kv2)/\dR (bK K H) kv1 m1/\dR (cY K H) kv2 m2/\fs.lookup ("hidden":Str)=none/\fs.lookup ("put":Str)=none
def Kd.dat:Kd->PyData
 |.num n=>.tuple [.str "num",.int n]
 |.name q t=>.tuple [.str "name",.str q,.str t]
 |.pair a b=>.tuple [.str "pair",Kd.dat a,Kd.dat b]
theorem dI{K:W.Frag}{H:Hp}:∀{x:V} {k:Kd},bK K H x k->Dat K H x (Kd.dat k)
 |_,_,.num t=>.tup t (.cons (.str _) (.cons (.int _) .nil))
 |_,_,.name t=>.tup t (.cons (.str _) (.cons (.str _) (.cons (.str _) .nil)))
 |_,_,.pair t a b=>.tup t (.cons (.str _) (.cons (dI a) (.cons (dI b) .nil)))
theorem eV(xs ys:List PyData):PyData.eqv (.tuple xs) (.tuple ys)=PyData.eqvAll xs ys:=by simp [PyData.eqv]
theorem yj(xs ys:List PyData):PyData.eqv (.list xs) (.list ys)=PyData.eqvAll xs ys:=by simp [PyData.eqv]
theorem br(x y:PyData)(xs ys:List PyData):PyData.eqvAll (x::xs) (y::ys)=(PyData.eqv x y&&PyData.eqvAll xs ys):=by simp [PyData.eqvAll]
theorem iH:PyData.eqvAll [] []=true:=by simp [PyData.eqvAll]
theorem ed(x y:Str):PyData.eqv (.str x) (.str y)=decide (x=y):=by
 rw [show PyData.eqv (.str x) (.str y)=(x==y) by simp [PyData.eqv]]
 rfl
theorem yY(x y:Int):PyData.eqv (.int x) (.int y)=decide (x=y):=by
 rw [show PyData.eqv (.int x) (.int y)=(x==y) by simp [PyData.eqv]]
 rfl
theorem gb(a:Kd):∀b:Kd,PyData.eqv (Kd.dat a) (Kd.dat b)=decide (a=b):=by
 induction a with
 |num n =>
  intro b
  cases b with
  |num m =>
   show PyData.eqv (.tuple [.str "num",.int n]) (.tuple [.str "num",.int m])=_
   rw [eV,br,br,iH,ed,yY]
   simp
  |name q t =>
   show PyData.eqv (.tuple (.str "num"::_)) (.tuple (.str "name"::_))=_
   rw [eV,br,ed,df0 (by decide +kernel),df0 (by intro e;cases e)]
   rfl
  |pair c d =>
   show PyData.eqv (.tuple (.str "num"::_)) (.tuple (.str "pair"::_))=_
   rw [eV,br,ed,df0 (by decide +kernel),df0 (by intro e;cases e)]
   rfl
 |name q t =>
  intro b
  cases b with
  |num m =>
   show PyData.eqv (.tuple (.str "name"::_)) (.tuple (.str "num"::_))=_
   rw [eV,br,ed,df0 (by decide +kernel),df0 (by intro e;cases e)]
   rfl
  |name q' t' =>
   show PyData.eqv (.tuple [.str "name",.str q,.str t]) (.tuple [.str "name",.str q',.str t'])=_
   rw [eV,br,br,br,iH,ed,ed,ed]
   simp
  |pair c d =>
   show PyData.eqv (.tuple (.str "name"::_)) (.tuple (.str "pair"::_))=_
   rw [eV,br,ed,df0 (by decide +kernel),df0 (by intro e;cases e)]
   rfl
 |pair a1 a2 h1 h2 =>
  intro b
  cases b with
  |num m =>
   show PyData.eqv (.tuple (.str "pair"::_)) (.tuple (.str "num"::_))=_
   rw [eV,br,ed,df0 (by decide +kernel),df0 (by intro e;cases e)]
   rfl
  |name q' t' =>
   show PyData.eqv (.tuple (.str "pair"::_)) (.tuple (.str "name"::_))=_
   rw [eV,br,ed,df0 (by decide +kernel),df0 (by intro e;cases e)]
   rfl
  |pair c d =>
   show PyData.eqv (.tuple [.str "pair",Kd.dat a1,Kd.dat a2]) (.tuple [.str "pair",Kd.dat c,Kd.dat d])=_
   rw [eV,br,br,br,iH,ed,h1,h2]
   simp
theorem nP:∀{k:Kd},Kd.ok k->PyData.canLay0 (Kd.dat k)=true
 |.num n,_=>by
  have h:PyData.strOk "num"=true:=by decide +kernel
  simp [Kd.dat,PyData.canLay0,PyData.canLayAll0,h]
 |.name q t,⟨h1,h2⟩=>by
  have h:PyData.strOk "name"=true:=by decide +kernel
  simp [Kd.dat,PyData.canLay0,PyData.canLayAll0,h,h1.1,h2.1]
 |.pair a b,⟨h1,h2⟩=>by
  have h:PyData.strOk "pair"=true:=by decide +kernel
  simp [Kd.dat,PyData.canLay0,PyData.canLayAll0,h,nP h1,nP h2]
theorem kj:∀k:Kd,PyData.depth (Kd.dat k)<=Kd.depth k
 |.num n=>by simp [Kd.dat,PyData.depth,PyData.depthAll,Kd.depth]
 |.name q t=>by simp [Kd.dat,PyData.depth,PyData.depthAll,Kd.depth]
 |.pair a b=>by
  have h1:=kj a
  have h2:=kj b
  simp only [Kd.dat,PyData.depth,PyData.depthAll,Kd.depth]
  omega
theorem cB{k:Kd}(h:Kd.ok k)(hd:Kd.depth k<=60):SeqAt.shaped (Kd.dat k)=true:=by
 have h1:=nP h
 have h2:=kj k
 unfold SeqAt.shaped
 rw [h1,dt0 (show PyData.depth (Kd.dat k)<=64 by omega)]
 rfl
theorem dh:∀k:Kd,Kd.depth k<=k.words
 |.num n=>Nat.le_refl _
 |.name q t=>Nat.le_refl _
 |.pair a b=>by
  have h1:=dh a
  have h2:=dh b
  simp only [Kd.depth,Kd.words]
  omega
abbrev jp:Stmt:=mq (top 15) 2
def eu(z:Str):Kd:=.name "" z
def zO(K:W.Frag):Sp:=λvs H Q _=>∃z:Str,vs=[.str z]/\∀H' x,ao H H'->bK K H' x (eu z)->Q x H'
def hX(q:Str × Kd):Bool:=decide (q.2=eu q.1)
def ba(m:List (Str × Kd)):List Str:=(m.filter hX).map (·.1)
def iu(K:W.Frag)(CF:Addr):Sp:=λvs H Q _=>∃(fa:Addr) (m1:List (Str × Kd)) (m2:List (Str × (List Kd × Kd))),vs=[.ref fa]/\dQ K H CF fa m1 m2/\m1.length<=100/\(∀q∈m1,okW q.1/\Kd.ok q.2/\Kd.depth q.2<=60) /\
 ∀H' (l:Addr),ao H H'->H l=none->H' l=some (.lst ((ba m1).map V.str))->Q (.ref l) H'
theorem iO:okW "":=⟨by decide +kernel,by decide +kernel⟩
theorem BT:aG ["word"] ["word"] (ae zr):=mkS
theorem Ah{f:Addr}{fd:FuncData} (F:Fun K "own_name" "own_name" zr f fd):cE P w K mg base CX0 1 f fd ["word"] (zO K):=by
 refine F.k0 BT λcdv A outer s H vs Q E hr h=>?_
 obtain⟨z,rfl,q⟩:=h
 refine⟨_,ai (aP (az (aJ >> aJ >> pv 0 >> ad))),?_⟩
 exact⟨_,rfl,(sz 3),λp hp=>q _ _ (ac hp _) (.name (SqT.of aa))⟩
theorem wP:aG ["self"] ["self"] (ae jp):=mkS
theorem vD{f fo CF:Addr}{fd fdo:FuncData} (F:Fun K "hidden" "Face.hidden" jp f fd) (GO:Ca P w K mg base 1 "own_name" fo fdo ["word"] (zO K)) (cF:Cls K CF) (nK:aZ K CF "kinds") :
  cE P w K mg base CX0 2 f fd ["self"] (iu K CF):=by
 refine F.k0 wP λcdv A outer s H vs Q E hr h=>?_
 obtain⟨fa,m1,m2,rfl,hF,h100,hok,q⟩:=h
 have hu:=hr.units
 refine⟨_,ai (aP (uT (iW (own:=["word","kind"]) (caps:=[]) (κ:=[]) rfl ⟨rfl,by decide +kernel,by decide +kernel,rfl,rfl,(λy hy=>nomatch hy),(λy hy=>nomatch hy)⟩ rfl
  (fA (bn (pv 0) rfl)) (λ_ _ _ _=>qZ (K:=K) (i:=0) (j:=1) rfl rfl (show(["word","kind"]:List Str).Nodup from by decide +kernel) rfl (Or.inl rfl) (Or.inr rfl) rfl (Or.inl rfl) (Or.inr rfl))
  (λ_ _ _ _=>aW (eqK (K:=K) rfl hu) (pv 1) (cal GO hr (pv 0 >> ad)) (bd _)) (λ_ _ _ _=>pv 0)))),?_⟩
 obtain⟨dx,d1,d2,fs,kv1,kv2,hfa,hl1,hl2,hd1,hd2,hk1,hk2,_,_⟩:=hF
 have hlen:kv1.length=m1.length:=Paired.length hk1
 refine⟨_,rfl,fa,CF,dx,fs,_,rfl,hfa,cF,nK,hl1,d1,kv1,rfl,hd1,λo=>?_⟩
 refine rR (λi ys H3=>(∀b u,H b=some u->b≠d1->H3 b=some u)/\H3 d1=some (.frz o (.dK kv1))/\ys=(ba (m1.take i)).map V.str/\ys.length<=i/\(∀a xs,SqT K H a xs->SqT K H3 a xs)) ?_ (bJ (by omega)) ?_ ?_ ?_ ?_
 ·exact⟨λb u hb nb=>by rw [ah nb];exact hb,aa,rfl,Nat.le_refl _,λa xs h=>eY hd1 h⟩
 ·rintro i ys H3 ⟨_,_,_,h,_⟩
  exact h
 ·rintro i ys H3 ⟨_,h,_⟩
  exact h
 ·rintro i p a ys H3 N hN hp ha ⟨old,hd3,rfl,hys,keep⟩
  obtain⟨⟨z,k⟩,hq,ez,hkz⟩:=aI hk1 hp
  obtain⟨pk,pw⟩:=p
  replace ez:pk=.inr z:=ez
  replace hkz:bK K H pw k:=hkz
  subst ez
  obtain⟨oz,ok,od⟩:=hok (z,k) (List.mem_of_getElem? hq)
  have ea:=ac ha (.tup [kV (.inr z),pw])
  refine⟨a,_,rfl,SqT.of aa,rfl,_,_,rfl,_,_,rfl,rfl,rfl,?_⟩
  have keepA:∀b xs,SqT K H b xs->SqT K (upd H3 a (.tup [kV (.inr z),pw])) b xs:=λb xs h=>ea.tup (keep b xs h)
  refine⟨_,rfl,_,rfl,z,rfl,λH4 x4 s4 hx4=>?_⟩
  have hkz4:=(aC keepA hkz).same s4
  refine⟨_,_,dI hkz4,dI hx4,cB ok od,cB ⟨iO,oz⟩ (by show 1<=60;decide),_,rfl,?_⟩
  have eT:ba (m1.take (i+1))=ba (m1.take i)++(if hX (z,k)=true then [z] else []):=by
   rw [List.take_add_one,hq]
   unfold ba
   rw [List.filter_append,ma0]
   congr 1
   show((([(z,k)]:List (Str × Kd)).filter hX).map (·.1))=_
   rw [List.filter_cons]
   by_cases c:hX (z,k)=true
   ·rw [if_pos c,if_pos c];rfl
   ·rw [if_neg c,if_neg c];rfl
  have old4:∀b u,H b=some u->b≠d1->H4 b=some u:=λb u hb nb=>s4 _ _ (ea _ _ (old b u hb nb))
  have eb:PyData.eqv (Kd.dat k) (Kd.dat (eu z))=hX (z,k):=gb _ _
  refine dE (λc=>?_) (λc=>?_)
  ·have c':hX (z,k)=true:=by rw [<-eb];exact c
   rw [if_pos c'] at eT
   refine⟨_,rfl,hN _ _ ⟨old4,s4 _ _ (ea _ _ hd3),?_,?_,λb xs t=>s4.tup (keepA b xs t)⟩⟩
   ·rw [eT,ma0];rfl
   ·rw [la0];show _+1<=_;omega
  ·have c':¬hX (z,k)=true:=by rw [<-eb];exact c
   rw [if_neg c',List.append_nil] at eT
   refine hN _ _ ⟨old4,s4 _ _ (ea _ _ hd3),by rw [eT],by omega,λb xs t=>s4.tup (keepA b xs t)⟩
 ·rintro ys H3 D ⟨old,hd3,rfl,hys,keep⟩ hD
  have nD:d1≠D:=aw hd3 hD
  have nofz:∀o' u',H d1≠some (.frz o' u'):=λo' u' e=>by
   rw [e] at hd1
   cases hd1
  refine⟨d1,o,.dK kv1,(by rw [ah nD];exact hd3),nofz,?_⟩
  have hs:ao H (upd (upd H3 D (.lst ((ba (m1.take kv1.length)).map V.str))) d1 (.dK kv1)):=λb u hb=>by
   by_cases e:b=d1
   ·rw [e] at hb ⊢
    rw [hd1] at hb
    cases hb
    exact aa
   ·rw [ah e]
    have h3:=old b u hb e
    rw [ah (aw h3 hD)]
    exact h3
  have hD0:H D=none:=by
   cases e:H D with
   |none=>rfl
   |some u=>rw [old D u e (Ne.symm nD)] at hD;cases hD
  refine q _ D hs hD0 ?_
  rw [ah (Ne.symm nD),aa,hlen,List.take_length]
def Kd.sm:Kd->Prop
 |.num n=>0<=n/\n<=10 ^ 18
 |.name q t=>(PyData.strOk q=true/\q.length<=14)/\PyData.strOk t=true/\t.length<=14
 |.pair a b=>Kd.sm a/\Kd.sm b
theorem fT:∀{k:Kd},Kd.sm k->Kd.ok k
 |.num _,_=>True.intro
 |.name _ _,⟨⟨a,b⟩,c,d⟩=>⟨⟨a,by omega⟩,c,by omega⟩
 |.pair _ _,⟨a,b⟩=>⟨fT a,fT b⟩
def zu(ks:List Kd):Nat:=(ks.map Kd.words).sum
def Fn.dat(f:List Kd × Kd):PyData:=.tuple [.tuple (f.1.map Kd.dat),Kd.dat f.2]
theorem vc:∀{xs:List V} {ks:List Kd},bU K H xs ks->kB K H xs (ks.map Kd.dat)
 |_,_,.nil=>.nil
 |_,_,.cons h r=>.cons (dI h) (vc r)
theorem qW(h:cY K H v f):Dat K H v (Fn.dat f):=by
 obtain⟨p,ta,x,xs,rfl,h1,h2,h3,h4⟩:=h
 exact .tup h1 (.cons (.tup h2 (vc h3)) (.cons (dI h4) .nil))
def look{α:Type}(m:List (Str × α))(z:Str):Option α:=(m.find? λq=>decide (q.1=z)).map (·.2)
theorem cg{α:Type}{R:V->α->Prop}:∀{kvs:List (Key × V)} {m:List (Str × α)},dR R kvs m->∀z:Str,(dC kvs (.inr z)=none/\look m z=none)\/∃v x,dC kvs (.inr z)=some v/\look m z=some x/\R v x
 |_,_,.nil,z=>.inl ⟨rfl,rfl⟩
 |p::ps,q::qs,.cons ⟨h1,h2⟩ r,z=>by
  unfold look dC
  rw [List.find?_cons,List.find?_cons]
  by_cases e:q.1=z
  ·rw [dt0 (show p.1=Sum.inr z by rw [h1,e]),dt0 e]
   exact .inr ⟨_,_,rfl,rfl,h2⟩
  ·rw [df0 (show ¬p.1=Sum.inr z by rw [h1];exact λz'=>e (Sum.inr.inj z')),df0 e]
   exact cg r z
def ij(m1:List (Str × Kd))(hs:List Str):Str × Str->Option Kd:=λn=>if n.1=""/\n.2∈hs then look m1 n.2 else none
def de(G:Str × Str->Option Kd)(f:List Kd × Kd):List Kd × Kd:=(f.1.map (Kd.put G),Kd.put G f.2)
abbrev Gf(m1 n1:List (Str × Kd)):Str × Str->Option Kd:=ij m1 (ba n1)
def no1(m1 n1:List (Str × Kd)):Option (Str × PyData × PyData):=(n1.find? λq=>(look m1 q.1).isNone).map λq=>(q.1,Kd.dat q.2,.none)
def no3(G:Str × Str->Option Kd)(m1 n1:List (Str × Kd)):Option (Str × PyData × PyData):=(n1.find? λq=>decide (look m1 q.1≠some (Kd.put G q.2))).map λq=>(q.1,Kd.dat (Kd.put G q.2),((look m1 q.1).map Kd.dat).getD .none)
def no4(G:Str × Str->Option Kd)(m2 n2:List (Str × (List Kd × Kd))):Option (Str × PyData × PyData):=(n2.find? λq=>decide (look m2 q.1≠some (de G q.2))).map λq=>(q.1,Fn.dat (de G q.2),((look m2 q.1).map Fn.dat).getD .none)
def tE(m1 n1:List (Str × Kd))(m2 n2:List (Str × (List Kd × Kd))):Option (Str × PyData × PyData):=(no1 m1 n1).or ((no3 (Gf m1 n1) m1 n1).or (no4 (Gf m1 n1) m2 n2))
theorem ii{α:Type}{p:α->Bool}:∀{l:List α} {i:Nat} {x:α},l[i]?=some x->p x=true->(∀y∈l.take i,p y=false)->l.find? p=some x
 |a::l,0,x,h,hp,_=>by
  cases h
  rw [List.find?_cons,hp]
 |a::l,i+1,x,h,hp,hn=>by
  rw [List.find?_cons,hn a (by rw [List.take_succ_cons];exact .head _)]
  exact ii (l:=l) (i:=i) h hp λy hy=>hn y (by rw [List.take_succ_cons];exact .tail _ hy)
theorem pJ{α:Type}{p:α->Bool}{l:List α}(h:∀y∈l,p y=false):l.find? p=none:=List.find?_eq_none.mpr λx hx=>by rw [h x hx];decide
structure jC(K:W.Frag)(H:Hp)(CF fa:Addr)(dx d1 d2:Addr)(fs:List (Str × V))(kv1 kv2:List (Key × V))(m1:List (Str × Kd))(m2:List (Str × (List Kd × Kd))):Prop where
 obj:H fa=some (.ins CF dx fs)
 fk:fs.lookup ("kinds":Str)=some (.ref d1)
 ff:fs.lookup ("funs":Str)=some (.ref d2)
 h1:H d1=some (.dK kv1)
 h2:H d2=some (.dK kv2)
 p1:dR (bK K H) kv1 m1
 p2:dR (cY K H) kv2 m2
 nh:fs.lookup ("hidden":Str)=none
 np:fs.lookup ("put":Str)=none
theorem jC.same(F:jC K H CF fa dx d1 d2 fs kv1 kv2 m1 m2)(s:ao H H'):jC K H' CF fa dx d1 d2 fs kv1 kv2 m1 m2 :=
 ⟨s _ _ F.obj,F.fk,F.ff,s _ _ F.h1,s _ _ F.h2,F.p1.imp λ_ _ h=>h.same s,F.p2.imp λ_ _ h=>h.keep λ_ _ t=>s.tup t,F.nh,F.np⟩
structure pE(K:W.Frag)(H H3:Hp)(d:Addr)(o:Obj)(kv:List (Key × V)):Prop where
 old:∀b u,H b=some u->b≠d->H3 b=some u
 fz:H3 d=some (.frz o (.dK kv))
 tup:∀a xs,SqT K H a xs->SqT K H3 a xs
theorem pE.start(h:H d=some (.dK kv)):pE K H (upd H d (.frz o (.dK kv))) d o kv:=⟨λb u hb nb=>by rw [ah nb];exact hb,aa,λa xs t=>eY h t⟩
theorem pE.go(w:pE K H H3 d o kv)(s:ao H3 H4):pE K H H4 d o kv:=⟨λb u hb nb=>s _ _ (w.old b u hb nb),s _ _ w.fz,λa xs t=>s.tup (w.tup a xs t)⟩
theorem pE.rd(w:pE K H H3 d o kv)(h:H d=some (.dK kv))(ha:H a=some (.dK kw)):Rd H3 a (.dK kw):=by
 by_cases e:a=d
 ·subst e
  rw [h] at ha
  cases ha
  exact .inr ⟨o,w.fz⟩
 ·exact .inl (w.old a _ ha e)
theorem pE.thaw(w:pE K H H3 d o kv)(h:H d=some (.dK kv)):ao H (upd H3 d (.dK kv)):=λb u hb=>by
 by_cases e:b=d
 ·rw [e] at hb ⊢
  rw [h] at hb
  cases hb
  exact aa
 ·rw [ah e]
  exact w.old b u hb e
theorem zl(s:ao H H1)(h:H1 d=some (.dK kv)):∀o' u',H d≠some (.frz o' u'):=λo' u' e=>by
 rw [s _ _ e] at h
 cases h
def SmK(q:Str × Kd):Prop:=(PyData.strOk q.1=true/\q.1.length<=14)/\Kd.sm q.2/\q.2.words<=60/\Kd.depth q.2<=20
def SmF(q:Str × (List Kd × Kd)):Prop:=(PyData.strOk q.1=true/\q.1.length<=14)/\q.2.1.length<=4/\∀k∈q.2.2::q.2.1,Kd.sm k/\k.words<=60/\Kd.depth k<=20
abbrev ftN:List Str:=["had","wanted","part","word","kind","given","due","fun","found"]
abbrev ftP:List Str:=["had","wanted","part"]
theorem df:aG ftN ftP (ae bL):=mkS
theorem ft1(cF:Cls K CF) (nK:aZ K CF "kinds")
 (hr:bZ 2 (A.deeper (PyProof.Rows.envOfC "fitted" (ae bL) s.heap.objs.size f cdv))) :
    ∃t,PS (i6 CX0 P w K mg base ftN "fitted" (ae bL) f cdv A outer s H E).nox ((aj bL).getD 0 (.Pass ⟨0,0,0,0⟩)) t /\
      ∀(D:gZ) (H1:Hp) (ha wa dxh dh1 dh2 dxw dw1 dw2:Addr) (fsh fsw:List (Str × V)) (kh1 kh2 kw1 kw2:List (Key × V)) (m1 n1:List (Str × Kd)) (m2 n2:List (Str × (List Kd × Kd))) (pz:Str),ao H H1 ->
        jC K H1 CF ha dxh dh1 dh2 fsh kh1 kh2 m1 m2->jC K H1 CF wa dxw dw1 dw2 fsw kw1 kw2 n1 n2->n1.length<=100->(∀q∈n1,SmK q)->PyData.strOk pz=true/\pz.length<=14 ->
        (∀r,no1 m1 n1=some r->False) ->
        (no1 m1 n1=none->∀(H4:Hp) (y3 y4:Option V),ao H1 H4->D.nx [some (.ref ha),some (.ref wa),some (.str pz),y3,y4,none,none,none,none] H4) ->
        t D [some (.ref ha),some (.ref wa),some (.str pz),none,none,none,none,none,none] H1:=by
  have hu:=dM hr
  refine⟨_,fX (bY PassesOwn.never rfl (fA (bn (pv 1) rfl)) (cC rfl (ap (ar (i:=3) df.nd rfl (Or.inl rfl)) (ap (ar (i:=4) df.nd rfl (Or.inl rfl)) bC)))
      (ai (ce (jT (ib hu (pv 3) (bn (pv 0) rfl)) (by with_unfolding_all rfl)) gP aX))),?_⟩
  intro D H1 ha wa dxh dh1 dh2 dxw dw1 dw2 fsh fsw kh1 kh2 kw1 kw2 m1 n1 m2 n2 pz s1 FH FW h100 hsm hpt qE q
  have hlen:kw1.length=n1.length:=Paired.length FW.p1
  refine⟨_,rfl,wa,CF,dxw,fsw,_,rfl,FW.obj,cF,nK,FW.fk,dw1,kw1,rfl,FW.h1,λo=>?_⟩
  refine eS (λi σ H3=>∃(y3 y4:Option V),σ=[some (.ref ha),some (.ref wa),some (.str pz),y3,y4,none,none,none,none]/\pE K H1 H3 dw1 o kw1/\∀y∈n1.take i,(look m1 y.1).isNone=false) ?_ ?_ ?_ ?_
  · exact⟨none,none,rfl,pE.start FW.h1,λy hy=>by cases hy⟩
  · rintro i σ H3 _ ⟨_,_,_,h,_⟩
    exact h.fz
  · rintro i p a σ H3 hp hna ⟨y3,y4,rfl,wk,hall⟩
    obtain⟨⟨z,k⟩,hq,ez,hkz⟩:=aI FW.p1 hp
    obtain⟨pk,pw⟩:=p
    replace ez:pk=.inr z:=ez
    replace hkz:bK K H1 pw k:=hkz
    subst ez
    obtain⟨⟨z1,z2⟩,k1,k2,k3⟩:(PyData.strOk z=true/\z.length<=14)/\Kd.sm k/\k.words<=60/\Kd.depth k<=20:=hsm (z,k) (List.mem_of_getElem? hq)
    have ea:=ac hna (.tup [kV (.inr z),pw])
    have wk4:=wk.go ea
    refine⟨a,_,rfl,SqT.of aa,rfl,_,_,rfl,_,_,rfl,rfl,?_⟩
    have haw:ha≠dw1:=λe=>by
      have:=FH.obj
      rw [e,FW.h1] at this
      cases this
    refine⟨_,rfl,_,rfl,ha,CF,dxh,fsh,_,rfl,wk4.old _ _ FH.obj haw,cF,nK,FH.fk,dh1,_,rfl,.inl ⟨kh1,.inr z,wk4.rd FW.h1 FH.h1,rfl,rfl⟩,_,rfl,dE (λc=>?_) (λc=>?_)⟩
    · have c':(!(dC kh1 (.inr z)).isSome)=true:=c
      have hno:look m1 z=none:=by
        rcases cg FH.p1 z with ⟨_,h2⟩|⟨v,x,h1,_⟩
        · exact h2
        · rw [h1] at c'
          cases c'
      have hR:no1 m1 n1=some (z,Kd.dat k,.none):=by
        unfold no1
        rw [ii hq (by show(look m1 z).isNone=true;rw [hno];rfl) hall]
        rfl
      exact qE _ hR
    · refine⟨_,_,rfl,wk4,λy hy=>?_⟩
      rw [List.take_add_one,hq] at hy
      rcases List.mem_append.mp hy with h|h
      · exact hall y h
      · obtain rfl:y=(z,k):=by simpa using h
        have c':¬(!(dC kh1 (.inr z)).isSome)=true:=c
        rcases cg FH.p1 z with ⟨h1,_⟩|⟨v,x,_,h2,_⟩
        · rw [h1] at c'
          exact absurd rfl c'
        · show(look m1 z).isNone=false
          rw [h2]
          rfl
  · rintro σ H3 ⟨y3,y4,rfl,wk,hall⟩
    refine⟨dw1,o,.dK kw1,wk.fz,zl s1 FW.h1,q ?_ _ y3 y4 (wk.thaw FW.h1)⟩
    rw [hlen,List.take_length] at hall
    unfold no1
    rw [pJ hall]
    rfl
theorem lL(hG:∀n k,G n=some k->Kd.sm k):∀{k:Kd},Kd.sm k->Kd.sm (Kd.put G k)
 |.num _,h=>h
 |.name q t,h=>by
  show Kd.sm ((G (q,t)).getD (.name q t))
  cases e:G (q,t) with
  |none=>exact h
  |some k=>exact hG _ _ e
 |.pair a b,⟨h1,h2⟩=>⟨lL hG h1,lL hG h2⟩
theorem iR.keep(e:∀a xs,SqT K H a xs->SqT K H' a xs)(h:iR K H kvs G):iR K H' kvs G:=λnn=>by
 rcases h nn with h|⟨v,k',h1,h2,h3⟩
 ·exact .inl h
 ·exact .inr ⟨v,k',h1,h2,aC e h3⟩
theorem ft3 (GP:Ca P w K mg base n "put" fp fdp ["kind","given"] (jz K n))
    (cF:Cls K CF) (nK:aZ K CF "kinds")
 (hr:bZ (n+2) (A.deeper (PyProof.Rows.envOfC "fitted" (ae bL) s.heap.objs.size f cdv))) :
    ∃t,PS (i6 CX0 P w K mg base ftN "fitted" (ae bL) f cdv A outer s H E).nox ((aj bL).getD 3 (.Pass ⟨0,0,0,0⟩)) t /\
      ∀(D:gZ) (H1:Hp) (ha wa dxh dh1 dh2 dxw dw1 dw2 g:Addr) (fsh fsw:List (Str × V)) (kh1 kh2 kw1 kw2:List (Key × V)) (m1 n1:List (Str × Kd)) (m2 n2:List (Str × (List Kd × Kd))) (kvs:List (List Key × V)) (G:Str × Str->Option Kd) (pz:Str) (x3 x4:Option V),ao H H1 ->
        jC K H1 CF ha dxh dh1 dh2 fsh kh1 kh2 m1 m2->jC K H1 CF wa dxw dw1 dw2 fsw kw1 kw2 n1 n2->n1.length<=100->(∀q∈m1,SmK q)->(∀q∈n1,SmK q)->(∀q∈n1,Kd.depth q.2<=n)->(∀n k,G n=some k->Kd.sm k)->(∀q∈n1,(Kd.put G q.2).words<=4000/\Kd.depth (Kd.put G q.2)<=50)->PyData.strOk pz=true/\pz.length<=14 ->
        H1 g=some (.dT kvs)->iR K H1 kvs G->no1 m1 n1=none ->
        (∀r,no3 G m1 n1=some r->False) ->
        (no3 G m1 n1=none->∀(H4:Hp) (y3 y4 y6:Option V),ao H1 H4->D.nx [some (.ref ha),some (.ref wa),some (.str pz),y3,y4,some (.ref g),y6,none,none] H4) ->
        t D [some (.ref ha),some (.ref wa),some (.str pz),x3,x4,some (.ref g),none,none,none] H1:=by
  have hu:=dM hr
  have hu64:=hr.units
  have hr0:bZ n _:=hr.mono (by omega)
  have hr2:bZ 2 _:=hr.mono (by omega)
  refine⟨_,fX (bY PassesOwn.never rfl (fA (bn (pv 1) rfl)) (cC rfl (ap (ar (i:=3) df.nd rfl (Or.inl rfl)) (ap (ar (i:=4) df.nd rfl (Or.inl rfl)) bC)))
      (pss_cons (aU (i:=6) df.nd (cal GP hr0 (pv 4 >> pv 5 >> ad)))
      (ai (ce (aW (neK (K:=K) rfl hu64) (pv 6) (cV hu (bn (pv 0) rfl) (pv 3) (λ_ _=>rfl)) (bd _)) gP aX)))),?_⟩
  intro D H1 ha wa dxh dh1 dh2 dxw dw1 dw2 g fsh fsw kh1 kh2 kw1 kw2 m1 n1 m2 n2 kvs G pz x3 x4 s1 FH FW h100 hsmM hsm hdn hGs hGw hpt hg hgv hn1 qE q
  have hlen:kw1.length=n1.length:=Paired.length FW.p1
  have gne:g≠dw1:=λe=>by rw [e,FW.h1] at hg;cases hg
  have haw:ha≠dw1:=λe=>by
    have:=FH.obj
    rw [e,FW.h1] at this
    cases this
  refine⟨_,rfl,wa,CF,dxw,fsw,_,rfl,FW.obj,cF,nK,FW.fk,dw1,kw1,rfl,FW.h1,λo=>?_⟩
  refine eS (λi σ H3=>∃(y3 y4 y6:Option V),σ=[some (.ref ha),some (.ref wa),some (.str pz),y3,y4,some (.ref g),y6,none,none]/\pE K H1 H3 dw1 o kw1/\∀y∈n1.take i,decide (look m1 y.1≠some (Kd.put G y.2))=false) ?_ ?_ ?_ ?_
  · exact⟨x3,x4,none,rfl,pE.start FW.h1,λy hy=>by cases hy⟩
  · rintro i σ H3 _ ⟨_,_,_,_,h,_⟩
    exact h.fz
  · rintro i p a σ H3 hp hna ⟨y3,y4,y6,rfl,wk,hall⟩
    obtain⟨⟨z,k⟩,hq,ez,hkz⟩:=aI FW.p1 hp
    obtain⟨pk,pw⟩:=p
    replace ez:pk=.inr z:=ez
    replace hkz:bK K H1 pw k:=hkz
    subst ez
    have hm:=List.mem_of_getElem? hq
    obtain⟨⟨z1,z2⟩,k1,k2,k3⟩:(PyData.strOk z=true/\z.length<=14)/\Kd.sm k/\k.words<=60/\Kd.depth k<=20:=hsm (z,k) hm
    have hdk:Kd.depth k<=n:=hdn (z,k) hm
    obtain⟨w1,w2⟩:(Kd.put G k).words<=4000/\Kd.depth (Kd.put G k)<=50:=hGw (z,k) hm
    have smP:=lL hGs k1
    obtain⟨v,x,hv,hx,hvx⟩:∃v x,dC kh1 (.inr z)=some v/\look m1 z=some x/\bK K H1 v x:=by
      rcases cg FH.p1 z with ⟨_,h2⟩|h
      · unfold no1 at hn1
        rw [Option.map_eq_none_iff,List.find?_eq_none] at hn1
        exact absurd (by show(look m1 z).isNone=true;rw [h2];rfl) (hn1 _ hm)
      · exact h
    have hxm:∃q∈m1,q.2=x:=by
      unfold look at hx
      obtain⟨q,hq1,hq2⟩:=Option.map_eq_some_iff.mp hx
      exact⟨q,List.mem_of_find?_eq_some hq1,hq2⟩
    obtain⟨qx,hqx,rfl⟩:=hxm
    obtain⟨_,sx,_,dx20⟩:=hsmM qx hqx
    have ea:=ac hna (.tup [kV (.inr z),pw])
    have wk4:=wk.go ea
    refine⟨a,_,rfl,SqT.of aa,rfl,_,_,rfl,_,_,rfl,rfl,?_⟩
    refine⟨_,rfl,_,rfl,pw,g,k,kvs,G,rfl,aC wk4.tup hkz,hdk,wk4.old _ _ hg gne,iR.keep wk4.tup hgv,λH5 u s5 hu5=>?_⟩
    have wk5:=wk4.go s5
    have hvx5:bK K H5 v qx.2:=aC wk5.tup hvx
    refine⟨_,rfl,_,rfl,ha,CF,dxh,fsh,_,rfl,wk5.old _ _ FH.obj haw,cF,nK,FH.fk,_,rfl,dh1,v,rfl,.inl ⟨kh1,.inr z,wk5.rd FW.h1 FH.h1,rfl,hv.symm⟩,_,_,dI hu5,dI hvx5,cB (fT smP) (by omega),cB (fT sx) (by omega),_,rfl,dE (λc=>?_) (λc=>?_)⟩
    · have c':(!PyData.eqv (Kd.dat (Kd.put G k)) (Kd.dat qx.2))=true:=c
      rw [gb,Bool.not_eq_true',decide_eq_false_iff_not] at c'
      have hR:no3 G m1 n1=some (z,Kd.dat (Kd.put G k),Kd.dat qx.2):=by
        unfold no3
        rw [ii hq (dt0 (by show look m1 z≠some (Kd.put G k);rw [hx];exact λz'=>c' (Option.some.inj z').symm)) hall]
        show some (z,Kd.dat (Kd.put G k),((look m1 z).map Kd.dat).getD .none)=_
        rw [hx]
        rfl
      exact qE _ hR
    · refine⟨_,_,_,rfl,wk5,λy hy=>?_⟩
      rw [List.take_add_one,hq] at hy
      rcases List.mem_append.mp hy with h|h
      · exact hall y h
      · obtain rfl:y=(z,k):=by simpa using h
        have c':¬(!PyData.eqv (Kd.dat (Kd.put G k)) (Kd.dat qx.2))=true:=c
        rw [gb,Bool.not_eq_true',Bool.not_eq_false,decide_eq_true_iff] at c'
        refine df0 λhne=>hne ?_
        show look m1 z=some (Kd.put G k)
        rw [hx,c']
  · rintro σ H3 ⟨y3,y4,y6,rfl,wk,hall⟩
    refine⟨dw1,o,.dK kw1,wk.fz,zl s1 FW.h1,q ?_ _ y3 y4 y6 (wk.thaw FW.h1)⟩
    rw [hlen,List.take_length] at hall
    unfold no3
    rw [pJ hall]
    rfl
theorem oG(h:∀k∈f.2::f.1,Kd.ok k/\Kd.depth k<=50)(hl:f.1.length<=4):SeqAt.shaped (Fn.dat f)=true:=by
 obtain⟨h1,h2⟩:=h f.2 (.head _)
 have c1:PyData.canLayAll0 (f.1.map Kd.dat)=true:=by
  have:∀ks:List Kd,(∀k∈ks,Kd.ok k)->PyData.canLayAll0 (ks.map Kd.dat)=true:=λks=>by
   induction ks with
   |nil=>intro _;simp [PyData.canLayAll0]
   |cons k ks ih =>
    intro hk
    rw [List.map_cons]
    simp only [PyData.canLayAll0,Bool.and_eq_true]
    exact⟨nP (hk k (.head _)),ih λj hj=>hk j (.tail _ hj)⟩
  exact this _ λk hk=>(h k (.tail _ hk)).1
 have d1:PyData.depthAll (f.1.map Kd.dat)<=50:=by
  have:∀ks:List Kd,(∀k∈ks,Kd.depth k<=50)->PyData.depthAll (ks.map Kd.dat)<=50:=λks=>by
   induction ks with
   |nil=>intro _;simp [PyData.depthAll]
   |cons k ks ih =>
    intro hk
    rw [List.map_cons]
    simp only [PyData.depthAll]
    exact Nat.max_le.mpr ⟨Nat.le_trans (kj k) (hk k (.head _)),ih λj hj=>hk j (.tail _ hj)⟩
  exact this _ λk hk=>(h k (.tail _ hk)).2
 have h3:=nP h1
 have h4:=kj f.2
 unfold SeqAt.shaped
 have e1:PyData.canLay0 (Fn.dat f)=true:=by
  unfold Fn.dat
  simp only [PyData.canLay0,PyData.canLayAll0,c1,h3,Bool.and_self]
 have e2:PyData.depth (Fn.dat f)<=64:=by
  unfold Fn.dat
  simp only [PyData.depth,PyData.depthAll]
  omega
 rw [e1,dt0 e2]
 rfl
theorem tL:∀(a b:List Kd),PyData.eqvAll (a.map Kd.dat) (b.map Kd.dat)=decide (a=b)
 |[],[]=>by simp [PyData.eqvAll]
 |[],_::_=>by simp [PyData.eqvAll]
 |_::_,[]=>by simp [PyData.eqvAll]
 |a::as,b::bs=>by
  rw [List.map_cons,List.map_cons,br,gb,tL as bs]
  by_cases h:a=b
  ·by_cases h2:as=bs
   ·simp [h,h2]
   ·simp [h2]
  ·simp [h]
theorem zX(f g:List Kd × Kd):PyData.eqv (Fn.dat f) (Fn.dat g)=decide (f=g):=by
 unfold Fn.dat
 rw [eV,br,br,iH,eV,tL,gb]
 obtain⟨a,b⟩:=f
 obtain⟨c,d⟩:=g
 by_cases h:a=c
 ·by_cases h2:b=d
  ·simp [h,h2]
  ·simp [h2]
 ·simp [h]
theorem pU(f:List Kd × Kd):PyData.eqv (Fn.dat f) .none=false:=by
 unfold Fn.dat
 simp [PyData.eqv]
theorem pZ:SeqAt.shaped .none=true:=by decide +kernel
theorem ft4 (GP:Ca P w K mg base (n+1) "put_in_fun" fp fdp ["fun","given"] (ir K n))
    (cF:Cls K CF) (nF:aZ K CF "funs")
 (hr:bZ (n+2) (A.deeper (PyProof.Rows.envOfC "fitted" (ae bL) s.heap.objs.size f cdv))) :
    ∃t,PS (i6 CX0 P w K mg base ftN "fitted" (ae bL) f cdv A outer s H E).nox ((aj bL).getD 4 (.Pass ⟨0,0,0,0⟩)) t /\
      ∀(D:gZ) (H1:Hp) (ha wa dxh dh1 dh2 dxw dw1 dw2 g:Addr) (fsh fsw:List (Str × V)) (kh1 kh2 kw1 kw2:List (Key × V)) (m1 n1:List (Str × Kd)) (m2 n2:List (Str × (List Kd × Kd))) (kvs:List (List Key × V)) (G:Str × Str->Option Kd) (pz:Str) (x3 x4 x6:Option V),ao H H1 ->
        jC K H1 CF ha dxh dh1 dh2 fsh kh1 kh2 m1 m2->jC K H1 CF wa dxw dw1 dw2 fsw kw1 kw2 n1 n2->n2.length<=100->(∀q∈m2,SmF q)->(∀q∈n2,SmF q)->(∀q∈n2,∀k∈q.2.2::q.2.1,Kd.depth k<=n)->(∀n k,G n=some k->Kd.sm k)->(∀q∈n2,zu ((de G q.2).2::(de G q.2).1)<=4600/\∀k∈(de G q.2).2::(de G q.2).1,Kd.depth k<=50)->PyData.strOk pz=true/\pz.length<=14 ->
        H1 g=some (.dT kvs)->iR K H1 kvs G ->
        (∀r,no4 G m2 n2=some r->False) ->
        (no4 G m2 n2=none->∀(H4:Hp) (y3 y6 y7 y8:Option V),ao H1 H4->D.nx [some (.ref ha),some (.ref wa),some (.str pz),y3,x4,some (.ref g),y6,y7,y8] H4) ->
        t D [some (.ref ha),some (.ref wa),some (.str pz),x3,x4,some (.ref g),x6,none,none] H1:=by
  have hu:=dM hr
  have hu64:=hr.units
  have hr1:bZ (n+1) _:=hr.mono (by omega)
  have hr2:bZ 2 _:=hr.mono (by omega)
  refine⟨_,fX (bY PassesOwn.never rfl (fA (bn (pv 1) rfl)) (cC rfl (ap (ar (i:=3) df.nd rfl (Or.inl rfl)) (ap (ar (i:=7) df.nd rfl (Or.inl rfl)) bC)))
      (pss_cons (aU (i:=6) df.nd (cal GP hr1 (pv 7 >> pv 5 >> ad)))
      (pss_cons (aU (i:=8) df.nd (xh hu (bn (pv 0) rfl) (pv 3) ⟨rfl,rfl,rfl,rfl⟩))
      (ai (ce (aW (neK (K:=K) rfl hu64) (pv 6) (pv 8) (bd _)) gP aX))))),?_⟩
  intro D H1 ha wa dxh dh1 dh2 dxw dw1 dw2 g fsh fsw kh1 kh2 kw1 kw2 m1 n1 m2 n2 kvs G pz x3 x4 x6 s1 FH FW h100 hsmM hsm hdn hGs hGw hpt hg hgv qE q
  have hlen:kw2.length=n2.length:=Paired.length FW.p2
  have gne:g≠dw2:=λe=>by rw [e,FW.h2] at hg;cases hg
  have haw:ha≠dw2:=λe=>by
    have:=FH.obj
    rw [e,FW.h2] at this
    cases this
  refine⟨_,rfl,wa,CF,dxw,fsw,_,rfl,FW.obj,cF,nF,FW.ff,dw2,kw2,rfl,FW.h2,λo=>?_⟩
  refine eS (λi σ H3=>∃(y3 y6 y7 y8:Option V),σ=[some (.ref ha),some (.ref wa),some (.str pz),y3,x4,some (.ref g),y6,y7,y8]/\pE K H1 H3 dw2 o kw2/\∀y∈n2.take i,decide (look m2 y.1≠some (de G y.2))=false) ?_ ?_ ?_ ?_
  · exact⟨x3,x6,none,none,rfl,pE.start FW.h2,λy hy=>by cases hy⟩
  · rintro i σ H3 _ ⟨_,_,_,_,_,h,_⟩
    exact h.fz
  · rintro i p a σ H3 hp hna ⟨y3,y6,y7,y8,rfl,wk,hall⟩
    obtain⟨⟨z,fn⟩,hq,ez,hkz⟩:=aI FW.p2 hp
    obtain⟨pk,pw⟩:=p
    replace ez:pk=.inr z:=ez
    replace hkz:cY K H1 pw fn:=hkz
    subst ez
    have hm:=List.mem_of_getElem? hq
    obtain⟨⟨z1,z2⟩,l4,hks⟩:(PyData.strOk z=true/\z.length<=14)/\fn.1.length<=4/\∀k∈fn.2::fn.1,Kd.sm k/\k.words<=60/\Kd.depth k<=20:=hsm (z,fn) hm
    have hdk:∀k∈fn.2::fn.1,Kd.depth k<=n:=hdn (z,fn) hm
    obtain⟨w1,w2⟩:zu ((de G fn).2::(de G fn).1)<=4600/\∀k∈(de G fn).2::(de G fn).1,Kd.depth k<=50:=hGw (z,fn) hm
    have smP:∀k∈(de G fn).2::(de G fn).1,Kd.sm k:=λk hk=>by
      rcases mc0 hk with rfl|hk
      · exact lL hGs (hks _ (.head _)).1
      · obtain⟨j,hj,rfl⟩:=List.mem_map.mp hk
        exact lL hGs (hks j (.tail _ hj)).1
    have ea:=ac hna (.tup [kV (.inr z),pw])
    have wk4:=wk.go ea
    refine⟨a,_,rfl,SqT.of aa,rfl,_,_,rfl,_,_,rfl,rfl,?_⟩
    obtain⟨pf,ta,xf,xsf,rfl,f1,f2,f3,f4⟩:=cY.keep wk4.tup hkz
    refine⟨_,rfl,_,rfl,pf,g,ta,xf,xsf,fn.1,fn.2,kvs,G,rfl,f1,f2,f3,f4,λk hk=>hdk k (.tail _ hk),hdk _ (.head _),by omega,wk4.old _ _ hg gne,iR.keep wk4.tup hgv,λH5 p5 ta5 xs5 x5 s5 hp5 hta5 hxs5 hx5=>?_⟩
    have wk5:=wk4.go s5
    have hdue:cY K H5 (.ref p5) (de G fn):=⟨p5,ta5,x5,xs5,rfl,SqT.of hp5,SqT.of hta5,hxs5,hx5⟩
    have rdh:=wk5.rd FW.h2 FH.h2
    refine⟨_,rfl,ha,CF,dxh,fsh,_,rfl,wk5.old _ _ FH.obj haw,cF,nF,FH.ff,dh2,rfl,.inl ⟨kh2,rdh⟩,_,rfl,_,.inl ⟨kh2,.inr z,rdh,rfl,rfl⟩,?_⟩
    obtain⟨u,fo,hu8,hfo,hsh,hkeep,hne⟩:∃(u:V) (fo:PyData),(dC kh2 (.inr z)).getD .non=u/\((look m2 z).map Fn.dat).getD .none=fo/\SeqAt.shaped fo=true/\(∀H',(∀a xs,SqT K H5 a xs->SqT K H' a xs)->Dat K H' u fo)/\PyData.eqv (Fn.dat (de G fn)) fo=decide (look m2 z=some (de G fn)):=by
      rcases cg FH.p2 z with ⟨h1,h2⟩|⟨v,x,h1,h2,h3⟩
      · refine⟨_,_,rfl,rfl,?_⟩
        rw [h1,h2]
        refine⟨pZ,λH' _=>.non,?_⟩
        show PyData.eqv _ .none=_
        rw [pU,df0 (by simp)]
      · obtain⟨qx,hqx,rfl⟩:∃q∈m2,q.2=x:=by
          unfold look at h2
          obtain⟨q,hq1,hq2⟩:=Option.map_eq_some_iff.mp h2
          exact⟨q,List.mem_of_find?_eq_some hq1,hq2⟩
        obtain⟨_,sl,sx⟩:=hsmM qx hqx
        have h35:cY K H5 v qx.2:=cY.keep wk5.tup h3
        refine⟨_,_,rfl,rfl,?_⟩
        rw [h1,h2]
        refine⟨oG (λk hk=>⟨fT (sx k hk).1,by have:=(sx k hk).2.2;omega⟩) sl,λH' kt=>qW (cY.keep kt h35),?_⟩
        · show PyData.eqv (Fn.dat (de G fn)) (Fn.dat qx.2)=_
          rw [zX]
          exact decide_eq_decide.mpr ⟨λe=>by rw [e],λe=>(Option.some.inj e).symm⟩
    rw [hu8]
    refine⟨_,rfl,_,rfl,_,_,qW hdue,hkeep _ (λ_ _ t=>t),oG (λk hk=>⟨fT (smP k hk),w2 k hk⟩) (by show(fn.1.map _).length<=4;rw [lm0];exact l4),hsh,_,rfl,dE (λc=>?_) (λc=>?_)⟩
    · have c':(!PyData.eqv (Fn.dat (de G fn)) fo)=true:=c
      rw [hne,Bool.not_eq_true',decide_eq_false_iff_not] at c'
      have hR:no4 G m2 n2=some (z,Fn.dat (de G fn),fo):=by
        unfold no4
        rw [ii hq (dt0 (show look m2 z≠some (de G fn) from c')) hall]
        show some (z,Fn.dat (de G fn),((look m2 z).map Fn.dat).getD .none)=_
        rw [hfo]
      exact qE _ hR
    · refine⟨_,_,_,_,rfl,wk5,λy hy=>?_⟩
      rw [List.take_add_one,hq] at hy
      rcases List.mem_append.mp hy with h|h
      · exact hall y h
      · obtain rfl:y=(z,fn):=by simpa using h
        have c':¬(!PyData.eqv (Fn.dat (de G fn)) fo)=true:=c
        rw [hne,Bool.not_eq_true',Bool.not_eq_false,decide_eq_true_iff] at c'
        exact df0 λhne'=>hne' c'
  · rintro σ H3 ⟨y3,y6,y7,y8,rfl,wk,hall⟩
    refine⟨dw2,o,.dK kw2,wk.fz,zl s1 FW.h2,q ?_ _ y3 y6 y7 y8 (wk.thaw FW.h2)⟩
    rw [hlen,List.take_length] at hall
    unfold no4
    rw [pJ hall]
    rfl
def jH(K:W.Frag)(H:Hp)(kvs:List (List Key × V))(gl:List (Str × Kd)):Prop:=Paired (fun(p:List Key × V) (q:Str × Kd)=>p.1=dq ("",q.1)/\bK K H p.2 q.2) kvs gl
theorem jH.keep(e:∀a xs,SqT K H a xs->SqT K H' a xs)(h:jH K H kvs gl):jH K H' kvs gl:=Paired.mapP h λ_ _ ⟨a,b⟩=>⟨a,aC e b⟩
theorem jH.same(e:ao H H')(h:jH K H kvs gl):jH K H' kvs gl:=h.keep λ_ _ t=>e.tup t
theorem pt_val(h:jH K H kvs gl)(n:Str × Str):(dC kvs (dq n)=none/\(n.1=""->n.2∉gl.map (·.1)))\/∃v k,dC kvs (dq n)=some v/\n.1=""/\(n.2,k)∈gl/\bK K H v k:=by
 unfold jH at h
 induction h with
 |nil=>exact .inl ⟨rfl,λ_ hm=>by cases hm⟩
 |@cons p q ps qs hpq r ih =>
  obtain⟨h1,h2⟩:=hpq
  by_cases e:n=(("":Str),q.1)
  ·refine .inr ⟨p.2,q.2,?_,by rw [e],by rw [e];exact .head _,h2⟩
   exact cR (by rw [h1,e])
  ·have ne:p.1≠dq n:=λz=>e (iE (by rw [<-z,h1]))
   have ev:dC (p::ps) (dq n)=dC ps (dq n):=by
    unfold dC
    rw [List.find?_cons,df0 ne]
   rw [ev]
   rcases ih with ⟨a,b⟩|⟨v,k,a,b,c,d⟩
   ·refine .inl ⟨a,λh0 hm=>?_⟩
    rw [List.map_cons] at hm
    rcases mc0 hm with z|z
    ·exact e (by rw [<-h0,<-z])
    ·exact b h0 z
   ·exact .inr ⟨v,k,a,b,.tail _ c,d⟩
theorem tY(h:jH K H kvs gl)(e:gl.map (·.1)=hs)(hl:∀q∈gl,look m1 q.1=some q.2):iR K H kvs (ij m1 hs):=λn=>by
 rcases pt_val h n with ⟨a,b⟩|⟨v,k,a,b,c,d⟩
 ·refine .inl ⟨a,?_⟩
  unfold ij
  rw [if_neg]
  rintro⟨h0,hm⟩
  rw [<-e] at hm
  exact b h0 hm
 ·refine .inr ⟨v,k,a,?_,d⟩
  unfold ij
  rw [if_pos ⟨b,by rw [<-e];exact List.mem_map_of_mem (f:=(·.1)) c⟩]
  exact hl _ c
theorem lQ(h:jH K H kvs gl)(hz:z∉gl.map (·.1))(hv:bK K H v k):jH K H (cI kvs (dq ("",z)) v) (gl++[(z,k)]):=by
 have e:¬(kvs.any λkv=>decide (kv.1=dq ("",z)))=true:=λc=>by
  rcases pt_val h ("",z) with ⟨a,_⟩|⟨v',k',a,b,c',d⟩
  ·rw [List.any_eq_true] at c
   obtain⟨p,hp,he⟩:=c
   unfold dC at a
   rw [Option.map_eq_none_iff,List.find?_eq_none] at a
   exact a p hp he
  ·exact hz (List.mem_map_of_mem (f:=(·.1)) c')
 unfold cI
 rw [if_neg e]
 exact Paired.snoc h ⟨rfl,hv⟩
theorem yg(h:z∈ba m):∃k,(z,k)∈m:=by
 unfold ba at h
 obtain⟨q,hq,rfl⟩:=List.mem_map.mp h
 exact⟨q.2,(List.mem_filter.mp hq).1⟩
theorem bt(h:(m.map (·.1)).Nodup):(ba m).Nodup:=h.sublist (List.Sublist.map _ List.filter_sublist)
theorem dU{l:List Str}{i:Nat}{z:Str}(hn:l.Nodup)(h:l[i]?=some z):z∉l.take i:=λhm=>by
 have e:l=l.take i++l.drop i:=(List.take_append_drop i l).symm
 rw [e,List.nodup_append] at hn
 have hd:z∈l.drop i:=List.mem_of_getElem? (i:=0) (by rw [List.getElem?_drop];exact h)
 exact hn.2.2 z hm z hd rfl
theorem nR(h:H l=some (.dT kvs))(t:SqT K H a xs):SqT K (upd H l o) a xs:=by
 rcases t with (t|⟨o',t⟩)|t
 ·exact .inl (.inl (by rw [ah (λe=>by rw [e,h] at t;cases t)];exact t))
 ·exact .inl (.inr ⟨o',by rw [ah (λe=>by rw [e,h] at t;cases t)];exact t⟩)
 ·exact .inr t
theorem ft2{f fh CF:Addr}{fdh:FuncData} (MH:vK K CF "hidden" fh) (GH:cE P w K mg base CX0 2 fh fdh ["self"] (iu K CF)) (bH:cU K fdh ["self"] []) (cF:Cls K CF) (nK:aZ K CF "kinds")
  {cdv:Value} {A:Around} {outer:List Env} {s:Shared} {H:Hp} {E:XK} (hr:bZ 2 (A.deeper (PyProof.Rows.envOfC "fitted" (ae bL) s.heap.objs.size f cdv))) :
  ∃t,PS (i6 CX0 P w K mg base ftN "fitted" (ae bL) f cdv A outer s H E).nox ((aj bL).getD 2 (.Pass ⟨0,0,0,0⟩)) t /\
   ∀(D:gZ) (H1 H2:Hp) (ha wa dxh dh1 dh2 dxw dw1 dw2 g:Addr) (fsh fsw:List (Str × V)) (kh1 kh2 kw1 kw2:List (Key × V)) (m1 n1:List (Str × Kd)) (m2 n2:List (Str × (List Kd × Kd))) (pz:Str) (x3 x4:Option V),
    jC K H1 CF ha dxh dh1 dh2 fsh kh1 kh2 m1 m2->jC K H1 CF wa dxw dw1 dw2 fsw kw1 kw2 n1 n2->n1.length<=100->(∀q∈n1,SmK q)->(n1.map (·.1)).Nodup->no1 m1 n1=none->H1 g=none->ao H1 H2->H2 g=some (.dT []) ->
    (∀(H4:Hp) (y3:Option V) (kvs:List (List Key × V)) (gl:List (Str × Kd)),ao H1 H4->H4 g=some (.dT kvs)->jH K H4 kvs gl->gl.map (·.1)=ba n1->(∀q∈gl,look m1 q.1=some q.2)->D.nx [some (.ref ha),some (.ref wa),some (.str pz),y3,x4,some (.ref g),none,none,none] H4) ->
    t D [some (.ref ha),some (.ref wa),some (.str pz),x3,x4,some (.ref g),none,none,none] H2:=by
 have hu:=dM hr
 refine⟨_,bY PassesOwn.never rfl (cQ (mK (pv 1) cF MH GH hr bH .nil d9)) (ar (i:=3) df.nd rfl (Or.inl rfl))
   (ai (dj hu (pv 5) (az (aJ >> pv 3 >> ad)) (cV hu (bn (pv 0) rfl) (pv 3) (λ_ _=>rfl)) rfl)),?_⟩
 intro D H1 H2 ha wa dxh dh1 dh2 dxw dw1 dw2 g fsh fsw kh1 kh2 kw1 kw2 m1 n1 m2 n2 pz x3 x4 FH FW h100 hsm hnd hn1 hgn s2 hg2 q
 have FW2:=FW.same s2
 refine⟨_,rfl,wa,dxw,fsw,rfl,FW2.obj,FW2.nh,wa,n1,n2,rfl,⟨dxw,dw1,dw2,fsw,kw1,kw2,FW2.obj,FW2.fk,FW2.ff,FW2.h1,FW2.h2,FW2.p1,FW2.p2,FW2.nh,FW2.np⟩,h100,(λqq hq=>by
  obtain⟨⟨a1,a2⟩,a3,_,a5⟩:=hsm qq hq
  exact⟨⟨a1,by omega⟩,fT a3,by omega⟩),λH3 l s3 hl2 hl3=>⟨l,rfl,⟨_,SqL.of hl3⟩,?_⟩⟩
 have hg3:=s3 _ _ hg2
 have lg:l≠g:=λe=>by rw [e,hg2] at hl2;cases hl2
 have hsl:(ba n1).length<=100:=by
  unfold ba
  rw [lm0]
  exact Nat.le_trans (List.length_filter_le _ _) h100
 refine eF (K:=K) (xs:=(ba n1).map V.str) (λi σ H4=>∃(y3:Option V) (kvs:List (List Key × V)) (gl:List (Str × Kd)),σ=[some (.ref ha),some (.ref wa),some (.str pz),y3,x4,some (.ref g),none,none,none]/\ao H1 H4/\H4 l=some (.lst ((ba n1).map V.str))/\H4 g=some (.dT kvs)/\jH K H4 kvs gl/\gl.map (·.1)=(ba n1).take i/\∀q∈gl,look m1 q.1=some q.2)
  ⟨x3,[],[],rfl,s2.trans s3,hl3,hg3,.nil,rfl,λq hq=>by cases hq⟩ ?_ ?_ ?_
 ·rintro i σ H4 _ ⟨_,_,_,_,_,h,_⟩
  exact SqL.of h
 ·rintro i y σ H4 hy ⟨y3,kvs,gl,rfl,s4,hl4,hg4,hpt,hgl,hlk⟩
  rw [List.getElem?_map] at hy
  obtain⟨z,hz,rfl⟩:=Option.map_eq_some_iff.mp hy
  have hi:i < (ba n1).length:=(List.getElem?_eq_some_iff.mp hz).1
  obtain⟨k0,hk0⟩:=yg (List.mem_of_getElem? hz)
  have FH4:=FH.same s4
  obtain⟨v,x,hv,hx,hvx⟩:∃v x,dC kh1 (.inr z)=some v/\look m1 z=some x/\bK K H4 v x:=by
   rcases cg FH4.p1 z with ⟨_,h2⟩|h
   ·unfold no1 at hn1
    rw [Option.map_eq_none_iff,List.find?_eq_none] at hn1
    exact absurd (by show(look m1 z).isNone=true;rw [h2];rfl) (hn1 _ hk0)
   ·exact h
  refine⟨_,rfl,ha,CF,dxh,fsh,_,rfl,FH4.obj,cF,nK,FH4.fk,_,rfl,dh1,v,rfl,.inl ⟨kh1,.inr z,.inl FH4.h1,rfl,hv.symm⟩,_,rfl,_,rfl,(sz 2),λp hp=>?_⟩
  have s5:=ac hp (.tup [.str "",.str z])
  have kl:kvs.length=i:=by
   have e1:kvs.length=gl.length:=Paired.length hpt
   have e2:=congrArg List.length hgl
   rw [lm0,List.length_take] at e2
   omega
  have hg5:=s5 _ _ hg4
  refine⟨g,_,rfl,kH.t (k:=dq ("",z)) hg5 (by rw [aa]<;>rfl) (Nat.lt_of_lt_of_le (Nat.lt_succ_self _) (bJ (by omega))),?_⟩
  have kt:∀a xs,SqT K (upd H4 p (.tup [.str "",.str z])) a xs->SqT K (upd (upd H4 p (.tup [.str "",.str z])) g (.dT (cI kvs (dq ("",z)) v))) a xs:=λa xs t=>nR hg5 t
  have ht:(ba n1).take (i+1)=(ba n1).take i++[z]:=by rw [List.take_add_one,hz];rfl
  refine⟨_,_,gl++[(z,x)],rfl,kE (s4.trans s5) hgn,?_,aa,?_,?_,λqq hq=>?_⟩
  ·rw [ah lg]
   exact s5 _ _ hl4
  ·refine lQ ((hpt.same s5).keep kt) ?_ (aC kt (hvx.same s5))
   rw [hgl]
   exact dU (bt hnd) hz
  ·rw [ma0,hgl,ht]
   rfl
  ·rcases List.mem_append.mp hq with h|h
   ·exact hlk qq h
   ·rw [List.mem_singleton.mp h]
    exact hx
 ·rintro σ H4 ⟨y3,kvs,gl,rfl,s4,hl4,hg4,hpt,hgl,hlk⟩
  rw [lm0,List.take_length] at hgl
  exact q _ y3 kvs gl s4 hg4 hpt hgl hlk
structure Two(m1 n1:List (Str × Kd))(m2 n2:List (Str × (List Kd × Kd)))(n:Nat):Prop where
 l1:n1.length<=100
 l2:n2.length<=100
 sm1:∀q∈m1,SmK q
 sn1:∀q∈n1,SmK q
 sm2:∀q∈m2,SmF q
 sn2:∀q∈n2,SmF q
 nd:(n1.map (·.1)).Nodup
 dp1:∀q∈n1,Kd.depth q.2<=n
 dp2:∀q∈n2,∀k∈q.2.2::q.2.1,Kd.depth k<=n
 w1:∀q∈n1,(Kd.put (Gf m1 n1) q.2).words<=4000/\Kd.depth (Kd.put (Gf m1 n1) q.2)<=50
 w2:∀q∈n2,zu ((de (Gf m1 n1) q.2).2::(de (Gf m1 n1) q.2).1)<=4600/\∀k∈(de (Gf m1 n1) q.2).2::(de (Gf m1 n1) q.2).1,Kd.depth k<=50
def tO(K:W.Frag)(H:Hp)(CF fa:Addr)(m1:List (Str × Kd))(m2:List (Str × (List Kd × Kd))):Prop:=∃dx d1 d2 fs kv1 kv2,jC K H CF fa dx d1 d2 fs kv1 kv2 m1 m2
def qK(K:W.Frag)(CF CN:Addr)(n:Nat):Sp:=λvs H Q E=>∃(ha wa:Addr) (pz:Str) (m1 n1:List (Str × Kd)) (m2 n2:List (Str × (List Kd × Kd))),vs=[.ref ha,.ref wa,.str pz]/\tO K H CF ha m1 m2/\tO K H CF wa n1 n2/\Two m1 n1 m2 n2 n/\(PyData.strOk pz=true/\pz.length<=14) /\
 (∀r,tE m1 n1 m2 n2=some r->False) /\
 (tE m1 n1 m2 n2=none->∀H' (g:Addr) (kvs:List (List Key × V)) (gl:List (Str × Kd)),ao H H'->H g=none->H' g=some (.dT kvs)->jH K H' kvs gl->gl.map (·.1)=ba n1->(∀q∈gl,look m1 q.1=some q.2)->Q (.ref g) H')
theorem vP(h:∀q∈m1,SmK q):∀n k,ij m1 hs n=some k->Kd.sm k:=λn k e=>by
 unfold ij at e
 split at e
 ·unfold look at e
  obtain⟨q,hq1,rfl⟩:=Option.map_eq_some_iff.mp e
  exact(h q (List.mem_of_find?_eq_some hq1)).2.1
 ·cases e
theorem tV (F:jU K "fitted" "fitted" bL dV f fd)
  (GP:Ca P w K mg base n "put" fp fdp ["kind","given"] (jz K n))
  (GF:Ca P w K mg base (n+1) "put_in_fun" fq fdq ["fun","given"] (ir K n))
  (MH:vK K CF "hidden" fh) (GH:cE P w K mg base CX0 2 fh fdh ["self"] (iu K CF)) (bH:cU K fdh ["self"] [])
  (cF:Cls K CF) (nK:aZ K CF "kinds") (nF:aZ K CF "funs") :
  cE P w K mg base CX0 (n+2+1) f fd ftP (qK K CF CN n):=by
 refine F.ok df (λvs H Q E h=>?_) (λcdv A outer s H vs Q E hr h=>?_)
 ·obtain⟨ha,wa,pz,m1,n1,m2,n2,rfl,_⟩:=h
  rfl
 obtain⟨ha,wa,pz,m1,n1,m2,n2,rfl,⟨dxh,dh1,dh2,fsh,kh1,kh2,FH⟩,⟨dxw,dw1,dw2,fsw,kw1,kw2,FW⟩,T,hpt,qE,qN⟩:=h
 have hr2:bZ 2 _:=hr.mono (by omega)
 obtain⟨t0,e0,k0⟩:=ft1 (outer:=outer) (H:=H) (E:=E) cF nK hr2
 obtain⟨t2,e2,k2⟩:=ft2 (outer:=outer) (H:=H) (E:=E) MH GH bH cF nK hr2
 obtain⟨t3,e3,k3⟩:=ft3 (outer:=outer) (H:=H) (E:=E) GP cF nK hr
 obtain⟨t4,e4,k4⟩:=ft4 (outer:=outer) (H:=H) (E:=E) GF cF nF hr
 refine⟨_,(@pss_cons _ _ _ _ _ @e0
  (@lE _ _ 5 _ _ _ _ df.nd rfl (Or.inl rfl) (@eB _ _) rfl (Or.inl rfl) <|> @e2 <|> @e3 <|> @e4 <|> ai (aP (pv 5))):PSs (i6 CX0 P w K mg base ftN "fitted" (ae bL) f cdv A outer s H E).nox (aj bL) _),?_⟩
 refine k0 _ _ ha wa dxh dh1 dh2 dxw dw1 dw2 fsh fsw kh1 kh2 kw1 kw2 m1 n1 m2 n2 pz sr0 FH FW T.l1 T.sn1 hpt (λr hr'=>qE r ?_) λhn1 H1 y3 y4 s1=>?_
 ·unfold tE
  rw [hr']
  rfl
 intro g hg
 have sg:=ac hg (.dT [])
 refine k2 _ H1 _ ha wa dxh dh1 dh2 dxw dw1 dw2 g fsh fsw kh1 kh2 kw1 kw2 m1 n1 m2 n2 pz y3 y4 (FH.same s1) (FW.same s1) T.l1 T.sn1 T.nd hn1 hg sg aa λH3 y3' kvs gl s3 hg3 hpt3 hgl hlk=>?_
 have s13:=s1.trans s3
 have gv:=tY hpt3 hgl hlk
 have hGs:=vP (hs:=ba n1) T.sm1
 refine k3 _ H3 ha wa dxh dh1 dh2 dxw dw1 dw2 g fsh fsw kh1 kh2 kw1 kw2 m1 n1 m2 n2 kvs _ pz y3' y4 s13 (FH.same s13) (FW.same s13) T.l1 T.sm1 T.sn1 T.dp1 hGs T.w1 hpt hg3 gv hn1 (λr hr'=>qE r ?_) λhn3 H4 y34 y44 y64 s4=>?_
 ·unfold tE
  rw [hn1]
  show(no3 (Gf m1 n1) m1 n1).or _=_
  rw [hr']
  rfl
 have s14:=s13.trans s4
 refine k4 _ H4 ha wa dxh dh1 dh2 dxw dw1 dw2 g fsh fsw kh1 kh2 kw1 kw2 m1 n1 m2 n2 kvs _ pz y34 y44 y64 s14 (FH.same s14) (FW.same s14) T.l2 T.sm2 T.sn2 T.dp2 hGs T.w2 hpt (s4 _ _ hg3) (gv.same s4) (λr hr'=>qE r ?_) λhn4 H5 y35 y65 y75 y85 s5=>?_
 ·unfold tE
  rw [hn1]
  show(no3 (Gf m1 n1) m1 n1).or _=_
  rw [hn3]
  exact hr'
 refine⟨_,rfl,qN ?_ H5 g kvs gl (s14.trans s5) (ao.free s1 hg) (s5 _ _ (s4 _ _ hg3)) ((hpt3.same s4).same s5) hgl hlk⟩
 unfold tE
 rw [hn1]
 show(no3 (Gf m1 n1) m1 n1).or _=_
 rw [hn3]
 exact hn4
def gk(K:W.Frag)(CT:Addr):Sp:=λvs H Q E=>∃(x:V) (k:Kd) (m:Int),vs=[x,.int m]/\bK K H x k/\k.words<=900/\0<=m/\m<=1000000 /\
 ∀H',ao H H'->if (k.words:Int) > m then False else Q x H'
theorem oy:aG ["kind","most","words"] ["kind","most"] (ae gu):=mkS
theorem sV (F:Fun K "bounded" "bounded" gu f fd) (GW:Ca P w K mg base 1 "words_in" fw fdw ["kind"] (uw K))
  : cE P w K mg base CX0 2 f fd ["kind","most"] (gk K CT):=by
 refine F.k0 oy λcdv A outer s H vs Q E hr h=>?_
 obtain⟨x,k,m,rfl,hk,h9,m0,m1,q⟩:=h
 refine⟨_,pss_cons (aU (i:=2) oy.nd (cal GW hr (pv 0 >> ad)))
  (pss_cons (ce (aW uR (pv 2) (pv 1) (bd _))
   gP aX)
  (ai (aP (pv 0)))),?_⟩
 refine⟨_,rfl,x,k,rfl,hk,h9,λH1 s1=>?_⟩
 have q1:=q H1 s1
 refine⟨_,rfl,_,rfl,_,_,rfl,rfl,_,rfl,?_⟩
 refine dE (λc=>?_) (λc=>?_)
 ·have c':(k.words:Int) > m:=od0 c
  rw [if_pos c'] at q1
  exact q1
 ·have c':¬(k.words:Int) > m:=λz=>c (dt0 z)
  rw [if_neg c'] at q1
  exact⟨_,rfl,q1⟩
def xP(K:W.Frag)(H:Hp)(kvs:List (Key × V))(g:Str->Option Kd):Prop :=
 ∀t,(dC kvs (.inr t)=none/\g t=none)\/∃v k,dC kvs (.inr t)=some v/\g t=some k/\bK K H v k
theorem xP.same(e:ao H H')(h:xP K H kvs g):xP K H' kvs g:=λn=>by
 rcases h n with h|⟨v,k,h1,h2,h3⟩
 ·exact .inl h
 ·exact .inr ⟨v,k,h1,h2,h3.same e⟩
def jF(K:W.Frag)(H:Hp)(CF:Addr)(v:V)(g:Str->Option Kd):Prop :=
 ∃a dx fs d kvs,v=.ref a/\H a=some (.ins CF dx fs)/\fs.lookup ("kinds":Str)=some (.ref d)/\H d=some (.dK kvs)/\xP K H kvs g
theorem jF.same(e:ao H H')(h:jF K H CF v g):jF K H' CF v g:=by
 obtain⟨a,dx,fs,d,kvs,h1,h2,h3,h4,h5⟩:=h
 exact⟨a,dx,fs,d,kvs,h1,e _ _ h2,h3,e _ _ h4,h5.same e⟩
def gs(K:W.Frag)(H:Hp)(CF:Addr)(kvs:List (Key × V))(PG:Str->Option (Str->Option Kd)):Prop :=
 ∀q,(dC kvs (.inr q)=none/\PG q=none)\/∃v g,dC kvs (.inr q)=some v/\PG q=some g/\jF K H CF v g
theorem gs.same{K:W.Frag}{H H':Hp}{CF:Addr}{kvs:List (Key × V)}{PG:Str->Option (Str->Option Kd)}(e:ao H H')(h:gs K H CF kvs PG):gs K H' CF kvs PG:=λn=>by
 rcases h n with h|⟨v,g,h1,h2,h3⟩
 ·exact .inl h
 ·exact .inr ⟨v,g,h1,h2,h3.same e⟩
def jX(OG:Str->Option Kd)(PG:Str->Option (Str->Option Kd))(n:Str × Str):Option Kd:=if n.1="" then OG n.2 else (PG n.1).bind λg=>g n.2
def A9(o:Option Kd)(K:W.Frag)(H:Hp)(Q:VK)(X:Prop):Prop:=(o=none/\X)\/∃k,o=some k/\∀v,bK K H v k->Q v H
def lG(K:W.Frag)(CF CN:Addr):Sp:=λvs H Q E=>∃(q t:Str) (o p:Addr) (okv pkv:List (Key × V)) (OG:Str->Option Kd) (PG:Str->Option (Str->Option Kd)),
 vs=[.str q,.str t,.ref o,.ref p]/\okW q/\okW t/\H o=some (.dK okv)/\xP K H okv OG/\H p=some (.dK pkv)/\gs K H CF pkv PG/\A9 (jX OG PG (q,t)) K H Q (False)
theorem jb:aG ["part","word","own","parts","kinds"] ["part","word","own","parts"] (ae dW):=mkS
theorem o5 (F:Fun K "told_kind" "told_kind" dW f fd) (cF:Cls K CF) (nF:aZ K CF "kinds") :
  cE P w K mg base CX0 1 f fd ["part","word","own","parts"] (lG K CF CN):=by
 refine F.k0 jb λcdv A outer s H vs Q E hr h=>?_
 obtain⟨q,t,o,p,okv,pkv,OG,PG,rfl,hq,ht,ho,hO,hp,hP,hT⟩:=h
 have hu:=dM hr
 have lq:q.length<=100000:=Nat.le_trans hq.2 (by decide)
 have lt:t.length<=100000:=Nat.le_trans ht.2 (by decide)
 have zq:q.length<=sizeLine:=Nat.le_trans lq (by decide)
 have zt:t.length<=sizeLine:=Nat.le_trans lt (by decide)
 obtain⟨u1,d1,k1⟩:∃t',PSs (i6 CX0 P w K mg base ["part","word","own","parts","kinds"] "told_kind" (ae dW) f cdv A outer s H E).nox (List.drop 1 (aj dW)) t' /\
   ∀(d:Addr) (kvs:List (Key × V)) (g:Str->Option Kd),H d=some (.dK kvs)->xP K H kvs g->A9 (g t) K H Q (False) ->
    t' { nx:=λ_ H'=>Q .non H',rt:=Q } [some (.str q),some (.str t),some (.ref o),some (.ref p),some (.ref d)] H:=by
  refine⟨_,pss_cons (ce (jT (ib hu (pv 1) (pv 4)) (by with_unfolding_all rfl))
    gP aX)
   (ai (aP (cV hu (pv 4) (pv 1) (λ_ _=>rfl)))),?_⟩
  intro d kvs g hd hg hT
  refine⟨_,rfl,_,rfl,d,_,rfl,gj.k (k:=.inr t) hd,_,rfl,?_⟩
  rcases hg t with ⟨h1,h2⟩|⟨v,k,h1,h2,h3⟩
  ·rw [h1]
   rcases hT with ⟨_,hE⟩|⟨k,hk,_⟩
   ·exact hE.elim
   ·rw [h2] at hk
    cases hk
  ·rw [h1]
   rcases hT with ⟨hn,_⟩|⟨k',hk,hQ⟩
   ·rw [h2] at hn
    cases hn
   ·rw [h2] at hk
    cases hk
    exact nA ⟨_,rfl,_,rfl,d,v,rfl,h1▸gj.k (k:=.inr t) hd,hQ v h3⟩
 refine⟨_,pss_cons (ce (aW gi (pv 0) aJ (bd _)) (ai (aU (i:=4) jb.nd (pv 2)))
   (ai (ce (jT (uQ hu (pv 0) (pv 3)) (by with_unfolding_all rfl)) (ai (aU (i:=4) jb.nd (bn (cV hu (pv 3) (pv 0) (λ_ _=>rfl)) rfl)))
    gP))) d1,?_⟩
 refine⟨_,rfl,rfl,_,rfl,?_⟩
 refine dE (λc=>?_) (λc=>?_)
 ·have c':V.str q=V.str "":=od0 c
  have e:q="":=by injection c'
  have hT':A9 (OG t) K H Q (False):=by
   unfold jX at hT
   rw [if_pos e] at hT
   exact hT
  exact⟨_,rfl,k1 o okv OG ho hO hT'⟩
 ·have c':¬q="":=λe=>c (dt0 (by rw [e]))
  have hT':A9 ((PG q).bind λg=>g t) K H Q (False):=by
   unfold jX at hT
   rw [if_neg c'] at hT
   exact hT
  refine⟨_,rfl,_,rfl,p,_,rfl,gj.k (k:=.inr q) hp,_,rfl,?_⟩
  rcases hP q with ⟨h1,h2⟩|⟨v,g,h1,h2,h3⟩
  ·rw [h1]
   rw [h2] at hT'
   rcases hT' with ⟨_,hE⟩|⟨k,hk,_⟩
   ·exact hE.elim
   ·cases hk
  ·rw [h1]
   rw [h2] at hT'
   obtain⟨a,dx,fs,d,kvs,rfl,h4,h5,h6,h7⟩:=h3
   exact oZ ⟨_,rfl,_,rfl,p,.ref a,rfl,h1▸gj.k (k:=.inr q) hp,a,CF,dx,fs,_,rfl,h4,cF,nF,h5,k1 d kvs g h6 h7 hT'⟩
theorem fN:∀{k:Kd},(∀n∈Kd.names k,G n=T n)->Kd.put G k=Kd.put T k
 |.num _,_=>rfl
 |.name q t,h=>by
  show(G (q,t)).getD _=(T (q,t)).getD _
  rw [h (q,t) (List.mem_singleton.mpr rfl)]
 |.pair a b,h=>by
  show Kd.pair (Kd.put G a) (Kd.put G b)=Kd.pair (Kd.put T a) (Kd.put T b)
  rw [fN (k:=a) λn hn=>h n (List.mem_append_left _ hn),fN (k:=b) λn hn=>h n (List.mem_append_right _ hn)]
theorem qL(h:n∈acc\/n=m):n∈qv acc m:=by
 unfold qv
 split
 ·rename_i hm
  rcases h with h|rfl
  ·exact h
  ·exact hm
 ·rcases h with h|rfl
  ·exact List.mem_append_left _ h
  ·exact List.mem_append_right _ (List.mem_singleton.mpr rfl)
theorem je:∀{l acc:List (Str × Str)} {n:Str × Str},n∈acc\/n∈l->n∈dG acc l
 |[],acc,n,h=>h.elim id λz=>nomatch z
 |m::l,acc,n,h=>by
  refine je (l:=l) (acc:=qv acc m) ?_
  rcases h with h|h
  ·exact .inl (qL (.inl h))
  ·rcases mc0 h with h|h
   ·exact .inl (qL (.inr h))
   ·exact .inr h
theorem vW(h:n∈qv acc m):n∈acc\/n=m:=by
 unfold qv at h
 split at h
 ·exact .inl h
 ·rcases List.mem_append.mp h with q|q
  ·exact .inl q
  ·exact .inr (List.mem_singleton.mp q)
theorem kK:∀{l acc:List (Str × Str)} {n:Str × Str},n∈dG acc l->n∈acc\/n∈l
 |[],acc,n,h=>.inl h
 |m::l,acc,n,h=>by
  rcases kK (l:=l) (acc:=qv acc m) h with q|q
  ·rcases vW q with q|q
   ·exact .inl q
   ·exact .inr (q▸List.mem_cons_self)
  ·exact .inr (List.mem_cons_of_mem _ q)
theorem lF:∀(l acc:List (Str × Str)),(dG acc l).length<=acc.length+l.length
 |[],acc=>Nat.le_refl _
 |m::l,acc=>by
  have h1:=lF l (qv acc m)
  have h2:=qi acc m
  show(dG (qv acc m) l).length<=acc.length+(l.length+1)
  omega
theorem j3:∀k:Kd,(Kd.names k).length<=k.words
 |.num _=>Nat.zero_le _
 |.name _ _=>Nat.le_refl _
 |.pair a b=>by
  have h1:=j3 a
  have h2:=j3 b
  show(Kd.names a++Kd.names b).length<=1+a.words+b.words
  rw [la0]
  omega
theorem lS{H:Hp}:∀{dn:List (Str × Str)} {as:List Addr} {i:Nat} {b:Addr},Paired (fun(n:Str × Str) (a:Addr)=>H a=some (.tup [.str n.1,.str n.2])) dn as->as[i]?=some b->∃n:Str × Str,dn[i]?=some n/\H b=some (.tup [.str n.1,.str n.2])
 |_,_,_,_,.nil,e=>by simp at e
 |_,_,0,_,.cons a _,e=>by
  obtain rfl:=Option.some.inj e
  exact⟨_,rfl,a⟩
 |_,_,i+1,_,.cons _ r,e=>lS (i:=i) r e
theorem As(h:iR K H kvs G)(hv:bK K H v k):iR K H (cI kvs (dq n) v) (λm=>if m=n then some k else G m):=λm=>by
 by_cases e:m=n
 ·subst e
  exact .inr ⟨v,k,by rw [gC,if_pos rfl],if_pos rfl,hv⟩
 ·have e2:dq m≠dq n:=λz=>e (iE z)
  rcases h m with ⟨h1,h2⟩|⟨v',k',h1,h2,h3⟩
  ·exact .inl ⟨by rw [gC,if_neg e2];exact h1,(if_neg e).trans h2⟩
  ·exact .inr ⟨v',k',by rw [gC,if_neg e2];exact h1,(if_neg e).trans h2,h3⟩
def nk(K:W.Frag)(CF CN CT:Addr):Sp:=λvs H Q E=>∃(x:V) (k:Kd) (o p:Addr) (m:Int) (okv pkv:List (Key × V)) (OG:Str->Option Kd) (PG:Str->Option (Str->Option Kd)),
 vs=[x,.ref o,.ref p,.int m]/\bK K H x k/\k.words<=900/\Kd.depth k<=40/\(∀n∈Kd.names k,okW n.1/\okW n.2)/\0<=m/\m<=1000000/\H o=some (.dK okv)/\xP K H okv OG/\H p=some (.dK pkv)/\gs K H CF pkv PG /\
 (∀H',ao H H'->(∃n∈Kd.names k,jX OG PG n=none)->False) /\
 ((∀n∈Kd.names k,jX OG PG n≠none)->(Kd.put (jX OG PG) k).words<=900/\∀H',ao H H'->if ((Kd.put (jX OG PG) k).words:Int) > m then False else ∀v,bK K H' v (Kd.put (jX OG PG) k)->Q v H')
theorem jE:aG ["kind","own","parts","most","given","part","word"] ["kind","own","parts","most"] (ae ei):=mkS
theorem uV{f fn fp fb ft CF CN CT:Addr}{dV:Value}{fd fdn fdp fdb fdt:FuncData} (F:jU K "normal" "normal" ei dV f fd)
  (GN:Ca P w K mg base 1 "names_in" fn fdn ["kind"] (uu K))
  (GP:Ca P w K mg base 40 "put" fp fdp ["kind","given"] (jz K 40))
  (GB:Ca P w K mg base 2 "bounded" fb fdb ["kind","most"] (gk K CT))
  (GT:Ca P w K mg base 1 "told_kind" ft fdt ["part","word","own","parts"] (lG K CF CN)) :
  cE P w K mg base CX0 41 f fd ["kind","own","parts","most"] (nk K CF CN CT):=by
 refine F.ok jE (λvs H Q E h=>?_) (λcdv A outer s H vs Q E hr h=>?_)
 ·obtain⟨x,k,o,p,m,okv,pkv,OG,PG,rfl,_⟩:=h
  rfl
 obtain⟨x,k,o,p,m,okv,pkv,OG,PG,rfl,hk,hw,hdp,hnm,m0,m1,ho,hO,hp,hP,q1,q2⟩:=h
 have hu:=dM hr
 have hr1:bZ 1 _:=hr.mono (by decide)
 have hr2:bZ 2 _:=hr.mono (by decide)
 refine⟨_,pss_cons (aU (i:=4) jE.nd eB)
  (pss_cons (bY PassesOwn.never rfl (cQ (cal GN hr1 (pv 0 >> ad)))
   (cC rfl (ap (ar (i:=5) jE.nd rfl (Or.inl rfl)) (ap (ar (i:=6) jE.nd rfl (Or.inl rfl)) bC)))
   (ai (dj hu (pv 4) (az (pv 5 >> pv 6 >> ad)) (cal GT hr1 (pv 5 >> pv 6 >> pv 1 >> pv 2 >> ad)) rfl)))
  (ai (aP (cal GB hr2 (cal GP hr (pv 0 >> pv 4 >> ad) >> pv 3 >> ad))))),?_⟩
 intro g hg
 have sg:=ac hg (.dT [])
 refine⟨_,rfl,x,k,rfl,hk.same sg,hw,λH1 l as s1 _ hl hpr=>?_⟩
 have gne:l≠g:=λe=>by
  have z:=s1 _ _ (aa (H:=H) (a:=g) (o:=.dT []))
  rw [<-e,hl] at z
  cases z
 have hS1:ao H H1:=dr sg s1
 have hlen:=Paired.length hpr
 refine⟨l,rfl,⟨_,SqL.of hl⟩,eF (K:=K) (xs:=as.map V.ref) (λi σ H3=>∃(x5 x6:Option V) (kvs:List (List Key × V)),σ=[some x,some (.ref o),some (.ref p),some (.int m),some (.ref g),x5,x6]/\ao H H3/\H3 l=some (.lst (as.map V.ref))/\H3 g=some (.dT kvs) /\
   Paired (fun(n:Str × Str) (a:Addr)=>H3 a=some (.tup [.str n.1,.str n.2])) (dG [] (Kd.names k)) as/\kvs.length<=i/\(∀n∈(dG [] (Kd.names k)).take i,jX OG PG n≠none)/\iR K H3 kvs (λn=>if n∈(dG [] (Kd.names k)).take i then jX OG PG n else none))
  ⟨none,none,[],rfl,hS1,hl,s1 _ _ aa,hpr,Nat.le_refl _,λn hn=>(by simp at hn),λn=>.inl ⟨rfl,by simp⟩⟩ ?_ ?_ ?_⟩
 ·rintro i σ H3 _ ⟨x5,x6,kvs,rfl,_,h3,_⟩
  exact SqL.of h3
 ·rintro i y σ H3 hy ⟨x5,x6,kvs,rfl,s3,hl3,hg3,hp3,hkl,hto,hG⟩
  obtain⟨b,hb,rfl⟩:∃b,as[i]?=some b/\V.ref b=y:=by
   rw [List.getElem?_map] at hy
   exact Option.map_eq_some_iff.mp hy
  obtain⟨n,hn,htu⟩:=lS hp3 hb
  have hnm':n∈Kd.names k:=by
   rcases kK (List.mem_of_getElem? hn) with z|z
   ·cases z
   ·exact z
  have hil:i < as.length:=(List.getElem?_eq_some_iff.mp hb).1
  have etake:(dG [] (Kd.names k)).take (i+1)=(dG [] (Kd.names k)).take i++[n]:=by
   rw [List.take_add_one,hn]
   rfl
  have hkz:kvs.length < sizeLine:=by
   have h1:=lF (Kd.names k) []
   have h2:=j3 k
   have h3:([]:List (Str × Str)).length=0:=rfl
   exact Nat.lt_of_lt_of_le (Nat.lt_succ_self _) (bJ (by omega))
  refine⟨b,_,rfl,SqT.of htu,rfl,_,_,rfl,_,_,rfl,rfl,?_⟩
  refine⟨_,rfl,_,rfl,_,rfl,_,rfl,n.1,n.2,o,p,okv,pkv,OG,PG,rfl,(hnm n hnm').1,(hnm n hnm').2,s3 _ _ ho,hO.same s3,s3 _ _ hp,hP.same s3,?_⟩
  cases ht:jX OG PG n with
  |none=>exact .inl ⟨rfl,q1 _ s3 ⟨n,hnm',ht⟩⟩
  |some kk =>
   refine .inr ⟨kk,rfl,λv hv=>?_⟩
   refine⟨_,rfl,_,rfl,_,rfl,(sz 2),λc hc=>?_⟩
   have sc:=ac hc (.tup [.str n.1,.str n.2])
   have hg4:=sc _ _ hg3
   have hcg:g≠c:=aw hg3 hc
   have hcl:l≠c:=aw hl3 hc
   have hc0:H c=none:=by
    cases e:H c with
    |none=>rfl
    |some u=>rw [s3 _ _ e] at hc;cases hc
   refine⟨g,_,rfl,kH.t (k:=dq n) hg4 aa hkz,?_⟩
   have keep:∀a xs,SqT K (upd H3 c (.tup [.str n.1,.str n.2])) a xs->SqT K (upd (upd H3 c (.tup [.str n.1,.str n.2])) g (.dT (cI kvs (dq n) v))) a xs:=λa xs t=>by
    rcases t with (t|⟨o',t⟩)|t
    ·exact .inl (.inl (by rw [ah (λe=>by rw [e,hg4] at t;cases t)];exact t))
    ·exact .inl (.inr ⟨o',by rw [ah (λe=>by rw [e,hg4] at t;cases t)];exact t⟩)
    ·exact .inr t
   refine⟨_,_,cI kvs (dq n) v,rfl,kE (dr s3 sc) hg,?_,aa,?_,?_,?_,?_⟩
   ·rw [ah gne]
    exact sc _ _ hl3
   ·exact Paired.imp' (λm a e=>by rw [ah (λz=>by rw [z,hg3] at e;cases e)];exact sc _ _ e) hp3
   ·have:=cN kvs (dq n) v
    omega
   ·rw [etake]
    intro m hm
    rcases List.mem_append.mp hm with z|z
    ·exact hto m z
    ·rw [List.mem_singleton.mp z,ht]
     exact λe=>nomatch e
   ·have hG2:=As (n:=n) (hG.same sc) (hv.same sc)
    rw [etake]
    intro mm
    have eG:(if mm∈(dG [] (Kd.names k)).take i++[n] then jX OG PG mm else none)=(if mm=n then some kk else if mm∈(dG [] (Kd.names k)).take i then jX OG PG mm else none):=by
     by_cases e:mm=n
     ·subst e
      rw [if_pos (List.mem_append_right _ (List.mem_singleton.mpr rfl)),if_pos rfl,ht]
     ·rw [if_neg e]
      by_cases e2:mm∈(dG [] (Kd.names k)).take i
      ·rw [if_pos e2,if_pos (List.mem_append_left _ e2)]
      ·rw [if_neg e2,if_neg (λz=>(List.mem_append.mp z).elim e2 λz2=>e (List.mem_singleton.mp z2))]
    rcases hG2 mm with ⟨h1,h2⟩|⟨v',k',h1,h2,h3⟩
    ·exact .inl ⟨h1,eG.trans h2⟩
    ·exact .inr ⟨v',k',h1,eG.trans h2,aC keep h3⟩
 ·rintro σ H3 ⟨x5,x6,kvs,rfl,s3,hl3,hg3,hp3,hkl,hto,hG⟩
  rw [lm0,<-hlen,List.take_length] at hto hG
  have hall:∀n∈Kd.names k,jX OG PG n≠none:=λn hn=>hto n (je (.inr hn))
  obtain⟨hb9,q3⟩:=q2 hall
  have epc:Kd.put (λn=>if n∈dG [] (Kd.names k) then jX OG PG n else none) k=Kd.put (jX OG PG) k:=fN λn hn=>if_pos (je (.inr hn))
  refine⟨_,rfl,_,rfl,x,g,k,kvs,_,rfl,hk.same s3,hdp,hg3,hG,λH4 v4 s4 hv4=>?_⟩
  rw [epc] at hv4
  refine⟨_,rfl,v4,_,m,rfl,hv4,hb9,m0,m1,λH5 s5=>?_⟩
  have q4:=q3 H5 (dr s3 (dr s4 s5))
  by_cases c:((Kd.put (jX OG PG) k).words:Int) > m
  ·rw [if_pos c] at q4 ⊢
   exact q4
  ·rw [if_neg c] at q4 ⊢
   exact q4 v4 (hv4.same s5)
abbrev pfN:List Str:=["face","given","kinds","word","kind","funs","fun"]
def cA(G:Str × Str->Option Kd)(q:Str × Kd):Str × Kd:=(q.1,Kd.put G q.2)
theorem qX(h:H l=some (.frz ob (.dK kvs)))(t:SqT K H a xs):SqT K (upd H l o) a xs:=by
 rcases t with (t|⟨o',t⟩)|t
 ·exact .inl (.inl (by rw [ah (λe=>by rw [e,h] at t;cases t)];exact t))
 ·exact .inl (.inr ⟨o',by rw [ah (λe=>by rw [e,h] at t;cases t)];exact t⟩)
 ·exact .inr t
theorem eM:aG pfN ["face","given"] (ae cK):=mkS
theorem y1 (GP:Ca P w K mg base n "put" fp fdp ["kind","given"] (jz K n)) (cF:Cls K CF) (nK:aZ K CF "kinds")
 (hr:bZ (n+2) (A.deeper (PyProof.Rows.envOfC "put_in_face" (ae cK) s.heap.objs.size f cdv))) :
    ∃t,PS (i6 CX0 P w K mg base pfN "put_in_face" (ae cK) f cdv A outer s H E).nox ((aj cK).getD 1 (.Pass ⟨0,0,0,0⟩)) t /\
      ∀(D:gZ) (H1:Hp) (fa g dx d1 kd:Addr) (fs:List (Str × V)) (kv1:List (Key × V)) (m1:List (Str × Kd)) (kvs:List (List Key × V)) (G:Str × Str->Option Kd),ao H H1->H fa=some (.ins CF dx fs)->fs.lookup ("kinds":Str)=some (.ref d1)->H d1=some (.dK kv1)->dR (bK K H) kv1 m1->(m1.map (·.1)).Nodup->m1.length<=100 ->
        (∀q∈m1,Kd.depth q.2<=n)->H g=some (.dT kvs)->iR K H kvs G->H kd=none->H1 kd=some (.dK []) ->
        (∀(H4:Hp) (y3 y4:Option V) (kv':List (Key × V)),ao H H4->H4 kd=some (.dK kv')->dR (bK K H4) kv' (m1.map (cA G))->D.nx [some (.ref fa),some (.ref g),some (.ref kd),y3,y4,none,none] H4) ->
        t D [some (.ref fa),some (.ref g),some (.ref kd),none,none,none,none] H1:=by
  have hu:=dM hr
  have hr0:bZ n _:=hr.mono (by omega)
  refine⟨_,fX (bY PassesOwn.never rfl (fA (bn (pv 0) rfl)) (cC rfl (ap (ar (i:=3) eM.nd rfl (Or.inl rfl)) (ap (ar (i:=4) eM.nd rfl (Or.inl rfl)) bC)))
      (ai (dj hu (pv 2) (pv 3) (cal GP hr0 (pv 4 >> pv 1 >> ad)) rfl))),?_⟩
  intro D H1 fa g dx d1 kd fs kv1 m1 kvs G s1 hfa hl1 hd1 hk1 hnd h100 hdp hg hG hkd hkd1 q
  have hlen:kv1.length=m1.length:=Paired.length hk1
  have nkd:kd≠d1:=λe=>by rw [e,hd1] at hkd;cases hkd
  refine⟨_,rfl,fa,CF,dx,fs,_,rfl,s1 _ _ hfa,cF,nK,hl1,d1,kv1,rfl,s1 _ _ hd1,λo=>?_⟩
  refine eS (λi σ H3=>∃(kv':List (Key × V)) (y3 y4:Option V),σ=[some (.ref fa),some (.ref g),some (.ref kd),y3,y4,none,none]/\(∀b u,H b=some u->b≠d1->H3 b=some u)/\H3 d1=some (.frz o (.dK kv1))/\H3 kd=some (.dK kv') /\
    dR (bK K H3) kv' ((m1.take i).map (cA G))/\kv'.length<=i/\(∀a xs,SqT K H a xs->SqT K H3 a xs)) ?_ ?_ ?_ ?_
  · refine⟨[],none,none,rfl,λb u hb nb=>by rw [ah nb];exact s1 _ _ hb,aa,by rw [ah nkd];exact hkd1,.nil,Nat.le_refl _,λa xs h=>eY (s1 _ _ hd1) (s1.tup h)⟩
  · rintro i σ H3 _ ⟨_,_,_,_,_,h,_⟩
    exact h
  · rintro i p a σ H3 hp ha ⟨kv',y3,y4,rfl,old,hd3,hkd3,hpk,hfew,keep⟩
    obtain⟨⟨z,k⟩,hq,ez,hkz⟩:=aI hk1 hp
    obtain⟨pk,pw⟩:=p
    replace ez:pk=.inr z:=ez
    replace hkz:bK K H pw k:=hkz
    subst ez
    have hi:i < m1.length:=(List.getElem?_eq_some_iff.mp hq).1
    have ea:=ac ha (.tup [kV (.inr z),pw])
    refine⟨a,_,rfl,SqT.of aa,rfl,_,_,rfl,_,_,rfl,rfl,?_⟩
    have gne:g≠d1:=λe=>by rw [e,hd1] at hg;cases hg
    have keepA:∀b xs,SqT K H b xs->SqT K (upd H3 a (.tup [kV (.inr z),pw])) b xs:=λb xs h=>ea.tup (keep b xs h)
    refine⟨_,rfl,_,rfl,pw,g,k,kvs,G,rfl,aC keepA hkz,hdp (z,k) (List.mem_of_getElem? hq),ea _ _ (old g _ hg gne),λnn=>?_,λH4 v s4 hv=>?_⟩
    · rcases hG nn with h|⟨v,k',h1,h2,h3⟩
      · exact .inl h
      · exact .inr ⟨v,k',h1,h2,aC keepA h3⟩
    · have hkd4:=s4 _ _ (ea _ _ hkd3)
      refine⟨_,rfl,_,rfl,kd,_,rfl,kH.k (k:=.inr z) hkd4 (Nat.lt_of_lt_of_le (Nat.lt_succ_self _) (bJ (by omega))),?_⟩
      have kp5:∀b xs,SqT K H4 b xs->SqT K (upd H4 kd (.dK (cI kv' (.inr z) v))) b xs:=λb xs h=>eY hkd4 h
      refine⟨_,_,_,rfl,λb u hb nb=>?_,?_,aa,?_,?_,λb xs h=>kp5 b xs (s4.tup (keepA b xs h))⟩
      · rw [ah (λe=>by rw [e,hkd] at hb;cases hb)]
        exact s4 _ _ (ea _ _ (old b u hb nb))
      · rw [ah (Ne.symm nkd)]
        exact s4 _ _ (ea _ _ hd3)
      · have et:(m1.take (i+1)).map (cA G)=(m1.take i).map (cA G)++[(z,Kd.put G k)]:=by
          rw [List.take_add_one,hq]
          simp [cA]
        rw [et]
        refine dR.put (hpk.imp λv' x' h=>aC (λb xs t=>kp5 b xs (s4.tup (ea.tup t))) h) ?_ (aC kp5 hv)
        have e1:((m1.take i).map (cA G)).map (·.1)=(m1.map (·.1)).take i:=by
          rw [List.map_map,List.map_take]
          rfl
        rw [e1]
        exact dU hnd (by rw [List.getElem?_map,hq];rfl)
      · have:=cN kv' (.inr z) v
        omega
  · rintro σ H3 ⟨kv',y3,y4,rfl,old,hd3,hkd3,hpk,hfew,keep⟩
    refine⟨d1,o,.dK kv1,hd3,λo' u' e=>?_,?_⟩
    · have e':H d1=some (.frz o' u'):=e
      rw [hd1] at e'
      cases e'
    · have hs:ao H (upd H3 d1 (.dK kv1)):=λb u hb=>by
        by_cases e:b=d1
        · rw [e] at hb ⊢
          rw [hd1] at hb
          cases hb
          exact aa
        · rw [ah e]
          exact old b u hb e
      refine q _ y3 y4 kv' hs (by rw [ah nkd];exact hkd3) ?_
      rw [hlen,List.take_length] at hpk
      exact hpk.imp λv x h=>aC (λa xs t=>qX hd3 t) h
def cq(G:Str × Str->Option Kd)(q:Str × (List Kd × Kd)):Str × (List Kd × Kd):=(q.1,(q.2.1.map (Kd.put G),Kd.put G q.2.2))
theorem wO (GP:Ca P w K mg base (n+1) "put_in_fun" fp fdp ["fun","given"] (ir K n)) (cF:Cls K CF) (nK:aZ K CF "funs")
 (hr:bZ (n+2) (A.deeper (PyProof.Rows.envOfC "put_in_face" (ae cK) s.heap.objs.size f cdv))) :
    ∃t,PS (i6 CX0 P w K mg base pfN "put_in_face" (ae cK) f cdv A outer s H E).nox ((aj cK).getD 3 (.Pass ⟨0,0,0,0⟩)) t /\
      ∀(D:gZ) (B H1:Hp) (fa g dx d1 kd:Addr) (k0 y3 y4:Option V) (fs:List (Str × V)) (kv1:List (Key × V)) (m1:List (Str × (List Kd × Kd))) (kvs:List (List Key × V)) (G:Str × Str->Option Kd),(∀o u,H d1≠some (.frz o u))->ao B H1->B fa=some (.ins CF dx fs)->fs.lookup ("funs":Str)=some (.ref d1)->B d1=some (.dK kv1)->dR (cY K B) kv1 m1->(m1.map (·.1)).Nodup->m1.length<=100 ->
        (∀q∈m1,(∀k∈q.2.1,Kd.depth k<=n)/\Kd.depth q.2.2<=n/\q.2.1.length<=100)->B g=some (.dT kvs)->iR K B kvs G->B kd=none->H1 kd=some (.dK []) ->
        (∀(H4:Hp) (y3 y6:Option V) (kv':List (Key × V)),ao B H4->H4 kd=some (.dK kv')->dR (cY K H4) kv' (m1.map (cq G))->D.nx [some (.ref fa),some (.ref g),k0,y3,y4,some (.ref kd),y6] H4) ->
        t D [some (.ref fa),some (.ref g),k0,y3,y4,some (.ref kd),none] H1:=by
  have hu:=dM hr
  have hr0:bZ (n+1) _:=hr.mono (by omega)
  refine⟨_,fX (bY PassesOwn.never rfl (fA (bn (pv 0) rfl)) (cC rfl (ap (ar (i:=3) eM.nd rfl (Or.inl rfl)) (ap (ar (i:=6) eM.nd rfl (Or.inl rfl)) bC)))
      (ai (dj hu (pv 5) (pv 3) (cal GP hr0 (pv 6 >> pv 1 >> ad)) rfl))),?_⟩
  intro D B H1 fa g dx d1 kd k0 y30 y4 fs kv1 m1 kvs G hH s1 hfa hl1 hd1 hk1 hnd h100 hdp hg hG hkd hkd1 q
  have hlen:kv1.length=m1.length:=Paired.length hk1
  have nkd:kd≠d1:=λe=>by rw [e,hd1] at hkd;cases hkd
  refine⟨_,rfl,fa,CF,dx,fs,_,rfl,s1 _ _ hfa,cF,nK,hl1,d1,kv1,rfl,s1 _ _ hd1,λo=>?_⟩
  refine eS (λi σ H3=>∃(kv':List (Key × V)) (y3 y6:Option V),σ=[some (.ref fa),some (.ref g),k0,y3,y4,some (.ref kd),y6]/\(∀b u,B b=some u->b≠d1->H3 b=some u)/\H3 d1=some (.frz o (.dK kv1))/\H3 kd=some (.dK kv') /\
    dR (cY K H3) kv' ((m1.take i).map (cq G))/\kv'.length<=i/\(∀a xs,SqT K B a xs->SqT K H3 a xs)) ?_ ?_ ?_ ?_
  · refine⟨[],y30,none,rfl,λb u hb nb=>by rw [ah nb];exact s1 _ _ hb,aa,by rw [ah nkd];exact hkd1,.nil,Nat.le_refl _,λa xs h=>eY (s1 _ _ hd1) (s1.tup h)⟩
  · rintro i σ H3 _ ⟨_,_,_,_,_,h,_⟩
    exact h
  · rintro i p a σ H3 hp ha ⟨kv',y3,y6,rfl,old,hd3,hkd3,hpk,hfew,keep⟩
    obtain⟨⟨z,k⟩,hq,ez,hkz⟩:=aI hk1 hp
    obtain⟨pk,pw⟩:=p
    replace ez:pk=.inr z:=ez
    replace hkz:cY K B pw k:=hkz
    obtain⟨tp,ta,tx,txs,rfl,f1,f2,f3,f4⟩:=hkz
    obtain⟨dpA,dpB,dpC⟩:=hdp (z,k) (List.mem_of_getElem? hq)
    subst ez
    have hi:i < m1.length:=(List.getElem?_eq_some_iff.mp hq).1
    have ea:=ac ha (.tup [kV (.inr z),.ref tp])
    refine⟨a,_,rfl,SqT.of aa,rfl,_,_,rfl,_,_,rfl,rfl,?_⟩
    have gne:g≠d1:=λe=>by rw [e,hd1] at hg;cases hg
    have keepA:∀b xs,SqT K B b xs->SqT K (upd H3 a (.tup [kV (.inr z),.ref tp])) b xs:=λb xs h=>ea.tup (keep b xs h)
    refine⟨_,rfl,_,rfl,tp,g,ta,tx,txs,k.1,k.2,kvs,G,rfl,keepA _ _ f1,keepA _ _ f2,gc keepA f3,aC keepA f4,dpA,dpB,dpC,ea _ _ (old g _ hg gne),λnn=>?_,λH4 p4 ta4 xs4 x4 s4 v1 v2 v3 v4=>?_⟩
    · rcases hG nn with h|⟨v,k',h1,h2,h3⟩
      · exact .inl h
      · exact .inr ⟨v,k',h1,h2,aC keepA h3⟩
    · have hkd4:=s4 _ _ (ea _ _ hkd3)
      refine⟨_,rfl,_,rfl,kd,_,rfl,kH.k (k:=.inr z) hkd4 (Nat.lt_of_lt_of_le (Nat.lt_succ_self _) (bJ (by omega))),?_⟩
      have kp5:∀b xs,SqT K H4 b xs->SqT K (upd H4 kd (.dK (cI kv' (.inr z) (.ref p4)))) b xs:=λb xs h=>eY hkd4 h
      refine⟨_,_,_,rfl,λb u hb nb=>?_,?_,aa,?_,?_,λb xs h=>kp5 b xs (s4.tup (keepA b xs h))⟩
      · rw [ah (λe=>by rw [e,hkd] at hb;cases hb)]
        exact s4 _ _ (ea _ _ (old b u hb nb))
      · rw [ah (Ne.symm nkd)]
        exact s4 _ _ (ea _ _ hd3)
      · have et:(m1.take (i+1)).map (cq G)=(m1.take i).map (cq G)++[(z,(k.1.map (Kd.put G),Kd.put G k.2))]:=by
          rw [List.take_add_one,hq]
          simp [cq]
        rw [et]
        refine dR.put (hpk.imp λv' x' h=>h.keep (λb xs t=>kp5 b xs (s4.tup (ea.tup t)))) ?_ ⟨p4,ta4,x4,xs4,rfl,kp5 _ _ (SqT.of v1),kp5 _ _ (SqT.of v2),gc kp5 v3,aC kp5 v4⟩
        have e1:((m1.take i).map (cq G)).map (·.1)=(m1.map (·.1)).take i:=by
          rw [List.map_map,List.map_take]
          rfl
        rw [e1]
        exact dU hnd (by rw [List.getElem?_map,hq];rfl)
      · have:=cN kv' (.inr z) (.ref p4)
        omega
  · rintro σ H3 ⟨kv',y3,y6,rfl,old,hd3,hkd3,hpk,hfew,keep⟩
    refine⟨d1,o,.dK kv1,hd3,λo' u' e=>hH o' u' e,?_⟩
    · have hs:ao B (upd H3 d1 (.dK kv1)):=λb u hb=>by
        by_cases e:b=d1
        · rw [e] at hb ⊢
          rw [hd1] at hb
          cases hb
          exact aa
        · rw [ah e]
          exact old b u hb e
      refine q _ y3 y6 kv' hs (by rw [ah nkd];exact hkd3) ?_
      rw [hlen,List.take_length] at hpk
      exact hpk.imp λv x h=>h.keep (λa xs t=>qX hd3 t)
def eC(K:W.Frag)(H0 H:Hp)(CF fa:Addr)(m1:List (Str × Kd))(m2:List (Str × (List Kd × Kd))):Prop :=
 ∃(dx d1 d2:Addr) (fs:List (Str × V)) (kv1 kv2:List (Key × V)),H0 d1=none/\H0 d2=none/\d1≠d2/\H fa=some (.ins CF dx fs)/\fs.lookup ("kinds":Str)=some (.ref d1)/\fs.lookup ("funs":Str)=some (.ref d2)/\H d1=some (.dK kv1)/\H d2=some (.dK kv2)/\dR (bK K H) kv1 m1/\dR (cY K H) kv2 m2/\fs.lookup ("hidden":Str)=none/\fs.lookup ("put":Str)=none
def jO(K:W.Frag)(CF:Addr)(n:Nat):Sp:=λvs H Q _=>∃(fa g:Addr) (m1:List (Str × Kd)) (m2:List (Str × (List Kd × Kd))) (kvs:List (List Key × V)) (G:Str × Str->Option Kd),vs=[.ref fa,.ref g]/\dQ K H CF fa m1 m2/\(m1.map (·.1)).Nodup/\(m2.map (·.1)).Nodup/\m1.length<=100/\m2.length<=100 /\
 (∀q∈m1,Kd.depth q.2<=n)/\(∀q∈m2,(∀k∈q.2.1,Kd.depth k<=n)/\Kd.depth q.2.2<=n/\q.2.1.length<=100)/\H g=some (.dT kvs)/\iR K H kvs G /\
 ∀H' (x:Addr),ao H H'->H x=none->eC K H H' CF x (m1.map (cA G)) (m2.map (cq G))->Q (.ref x) H'
theorem rQ (F:Fun K "put_in_face" "put_in_face" cK f fd) (GP:Ca P w K mg base n "put" fp fdp ["kind","given"] (jz K n))
  (GF:Ca P w K mg base (n+1) "put_in_fun" fq fdq ["fun","given"] (ir K n))
  (GI:cE P w K mg base CX0 1 fi fdi ["self","kinds","funs"] (gY CF)) (bI:cU K fdi ["self","kinds","funs"] []) (MF:Mk K CF fi) (mC:mg "Face"=some (.ref CF)) (cF:Cls K CF) (nK:aZ K CF "kinds") (nF:aZ K CF "funs") :
  cE P w K mg base CX0 (n+2+1) f fd ["face","given"] (jO K CF n):=by
 refine F.k0 eM λcdv A outer s H vs Q E hr h=>?_
 obtain⟨fa,g,m1,m2,kvs,G,rfl,⟨dx,d1,d2,fs,kv1,kv2,hfa,l1,l2,hd1,hd2,hk1,hk2,_,_⟩,nd1,nd2,hm1,hm2,dp1,dp2,hg,hG,q⟩:=h
 have hr2:bZ (1+1) _:=hr.mono (by omega)
 obtain⟨t1,e1,k1⟩:=y1 (outer:=outer) (H:=H) (E:=E) GP cF nK hr
 obtain⟨t3,e3,k3⟩:=wO (outer:=outer) (H:=H) (E:=E) GF cF nF hr
 refine⟨_,(@pss_cons _ _ _ _ _ (@lE _ _ 2 _ _ _ _ eM.nd rfl (Or.inl rfl) (@fY _ _) rfl (Or.inl rfl))
  (@e1 <|> @lE _ _ 5 _ _ _ _ eM.nd rfl (Or.inl rfl) (@fY _ _) rfl (Or.inl rfl) <|> @e3 <|> ai (aP (eO MF GI hr2 (by rfl) mC bI .nil d9 (pv 2 >> pv 5 >> ad)))):PSs (i6 CX0 P w K mg base pfN "put_in_face" (ae cK) f cdv A outer s H E).nox (aj cK) _),?_⟩
 intro kd hkd
 refine k1 _ _ fa g dx d1 kd fs kv1 m1 kvs G (ac hkd _) hfa l1 hd1 hk1 nd1 hm1 dp1 hg hG hkd aa λH4 y3 y4 kv' s4 hkd4 hpk=>?_
 intro fd2 hfd2
 refine k3 _ H4 _ fa g dx d2 fd2 _ y3 y4 fs kv2 m2 kvs G (λo u e=>by rw [hd2] at e;cases e) (ac hfd2 _) (s4 _ _ hfa) l2 (s4 _ _ hd2) (hk2.imp λv x h=>h.keep λa xs t=>s4.tup t) nd2 hm2 dp2 (s4 _ _ hg) (hG.same s4) hfd2 aa λH6 y3' y6 kv6 s6 hfd6 hpf=>?_
 refine⟨_,rfl,_,rfl,λx dx' nx ndx nex=>?_⟩
 have ea:=ac ndx (.own x)
 have nx':upd H6 dx' (.own x) x=none:=by rw [ah (Ne.symm nex)];exact nx
 have eb:=ac nx' (.ins CF dx' [])
 have eab:=ea.trans eb
 refine⟨x,dx',kd,fd2,kv',kv6,rfl,aa,eab _ _ (s6 _ _ hkd4),eab _ _ hfd6,λd e fs' H7 hd he nde hx lk lf lh lp hd7 he7 keep=>⟨rfl,?_⟩⟩
 have s7:ao H6 H7:=λb o hb=>keep b o (eab _ _ hb) (λz=>by rw [z,nx] at hb;cases hb)
 have sA:=s4.trans (s6.trans s7)
 exact q H7 x sA ((s4.trans s6).free nx) ⟨dx',d,e,fs',kv',kv6,(s4.trans (s6.trans eab)).free hd,(s4.trans (s6.trans eab)).free he,nde,hx,lk,lf,hd7,he7,hpk.imp λv y h=>(h.same s6).same s7,hpf.imp λv y h=>h.keep λa xs t=>s7.tup t,lh,lp⟩
abbrev fW:Stmt:=mq (top 15) 1
abbrev pmN:List Str:=["self","given","most","result","kind","taken","answer"]
theorem AQ{H:Hp}{d:Addr}(h:H d=none):∀o' u',H d≠some (.frz o' u'):=λo' u' e=>by
 rw [h] at e
 cases e
theorem kT:aG pmN ["self","given","most"] (ae fW):=mkS
theorem wq{f fb CF CT:Addr}{fdb:FuncData} (GB:Ca P w K mg base 2 "bounded" fb fdb ["kind","most"] (gk K CT)) (cF:Cls K CF) (nK:aZ K CF "kinds")
  {cdv:Value} {A:Around} {outer:List Env} {s:Shared} {H:Hp} {E:XK} (hr:bZ 2 (A.deeper (PyProof.Rows.envOfC "Face.put" (ae fW) s.heap.objs.size f cdv))) :
  ∃t,PS (i6 CX0 P w K mg base pmN "Face.put" (ae fW) f cdv A outer s H E).nox ((aj fW).getD 1 (.Pass ⟨0,0,0,0⟩)) t /\
   ∀(D:gZ) (B:Hp) (a0 a1:Option V) (x dx d1:Addr) (fs:List (Str × V)) (kv1:List (Key × V)) (m1:List (Str × Kd)) (m:Int),ao H B->H d1=none->B x=some (.ins CF dx fs)->fs.lookup ("kinds":Str)=some (.ref d1)->B d1=some (.dK kv1)->dR (bK K B) kv1 m1->m1.length<=100 ->
    (∀q∈m1,q.2.words<=900)->0<=m->m<=1000000 ->
    ((∀q∈m1,(q.2.words:Int)<=m)->∀(H4:Hp) (y4:Option V),ao B H4->D.nx [a0,a1,some (.int m),some (.ref x),y4,none,none] H4) ->
    ((∃q∈m1,¬(q.2.words:Int)<=m)->∀H4:Hp,ao H H4->False) ->
    t D [a0,a1,some (.int m),some (.ref x),none,none,none] B:=by
 refine⟨_,fX (bY PassesOwn.never rfl (oO (bn (pv 3) rfl)) (ar (i:=4) kT.nd rfl (Or.inl rfl))
   (ai (bh (cal GB hr (pv 4 >> pv 2 >> ad))))),?_⟩
 intro D B a0 a1 x dx d1 fs kv1 m1 m sB hd0 hx hl1 hd1 hk1 h100 h9 m0 mM qN qE
 have hlen:kv1.length=m1.length:=Paired.length hk1
 refine⟨_,rfl,x,CF,dx,fs,_,rfl,hx,cF,nK,hl1,d1,kv1,rfl,hd1,λo=>?_⟩
 refine lJ (λi σ H3=>∃y4:Option V,σ=[a0,a1,some (.int m),some (.ref x),y4,none,none]/\(∀b u,B b=some u->b≠d1->H3 b=some u)/\H3 d1=some (.frz o (.dK kv1))/\(∀a xs,SqT K B a xs->SqT K H3 a xs)/\∀q∈m1.take i,(q.2.words:Int)<=m) ?_ ?_ ?_ ?_
 ·exact⟨none,rfl,λb u hb nb=>by rw [ah nb];exact hb,aa,λa xs h=>eY hd1 h,λq hq=>by simp at hq⟩
 ·rintro i σ H3 _ ⟨_,_,_,h,_⟩
  exact h
 ·rintro i p σ H3 hp ⟨y4,rfl,old,hd3,keep,hto⟩
  obtain⟨⟨z,k⟩,hq,ez,hkz⟩:=aI hk1 hp
  obtain⟨pk,pw⟩:=p
  replace hkz:bK K B pw k:=hkz
  have hmem:(z,k)∈m1:=List.mem_of_getElem? hq
  refine⟨_,rfl,_,rfl,pw,k,m,rfl,aC keep hkz,h9 _ hmem,m0,mM,λH4 s4=>?_⟩
  have old4:∀b u,B b=some u->b≠d1->H4 b=some u:=λb u hb nb=>s4 _ _ (old b u hb nb)
  by_cases c:(k.words:Int) > m
  ·rw [if_pos c]
   refine qE ⟨_,hmem,by show ¬(k.words:Int)<=m;omega⟩ H4 λb u hb=>old4 b u (sB _ _ hb) λe=>?_
   rw [e,hd0] at hb
   cases hb
  ·rw [if_neg c]
   refine⟨_,rfl,old4,s4 _ _ hd3,λa xs t=>s4.tup (keep a xs t),λq hq'=>?_⟩
   rw [List.take_add_one,hq] at hq'
   rcases List.mem_append.mp hq' with h|h
   ·exact hto q h
   ·rw [List.mem_singleton.mp h]
    show(k.words:Int)<=m
    omega
 ·rintro σ H3 ⟨y4,rfl,old,hd3,keep,hto⟩
  rw [hlen,List.take_length] at hto
  refine⟨d1,o,.dK kv1,hd3,AQ hd0,qN hto _ y4 λb u hb=>?_⟩
  by_cases e:b=d1
  ·rw [e] at hb ⊢
   rw [hd1] at hb
   cases hb
   exact aa
  ·rw [ah e]
   exact old b u hb e
def oE(m:Int)(g:List Kd × Kd):Prop:=(∀k∈g.1,(k.words:Int)<=m)/\(g.2.words:Int)<=m
theorem wL{f fb CF CT:Addr}{fdb:FuncData} (GB:Ca P w K mg base 2 "bounded" fb fdb ["kind","most"] (gk K CT)) (cF:Cls K CF) (nF:aZ K CF "funs")
  {cdv:Value} {A:Around} {outer:List Env} {s:Shared} {H:Hp} {E:XK} (hr:bZ 2 (A.deeper (PyProof.Rows.envOfC "Face.put" (ae fW) s.heap.objs.size f cdv))) :
  ∃t,PS (i6 CX0 P w K mg base pmN "Face.put" (ae fW) f cdv A outer s H E).nox ((aj fW).getD 2 (.Pass ⟨0,0,0,0⟩)) t /\
   ∀(D:gZ) (B:Hp) (a0 a1 y4:Option V) (x dx d1:Addr) (fs:List (Str × V)) (kv1:List (Key × V)) (m1:List (Str × (List Kd × Kd))) (m:Int),ao H B->H d1=none->B x=some (.ins CF dx fs)->fs.lookup ("funs":Str)=some (.ref d1)->B d1=some (.dK kv1)->dR (cY K B) kv1 m1->m1.length<=100 ->
    (∀q∈m1,(∀k∈q.2.1,k.words<=900)/\q.2.2.words<=900/\q.2.1.length<=100)->0<=m->m<=1000000 ->
    ((∀q∈m1,oE m q.2)->∀(H4:Hp) (y4 y5 y6:Option V),ao B H4->D.nx [a0,a1,some (.int m),some (.ref x),y4,y5,y6] H4) ->
    ((∃q∈m1,¬oE m q.2)->∀H4:Hp,ao H H4->False) ->
    t D [a0,a1,some (.int m),some (.ref x),y4,none,none] B:=by
 refine⟨_,fX (bY PassesOwn.never rfl (oO (bn (pv 3) rfl)) (cC rfl (ap (ar (i:=5) kT.nd rfl (Or.inl rfl)) (ap (ar (i:=6) kT.nd rfl (Or.inl rfl)) bC)))
   (ai (bY PassesOwn.never rfl (jP (aH xX (pv 5) (az (pv 6 >> ad)))) (ar (i:=4) kT.nd rfl (Or.inl rfl))
    (ai (bh (cal GB hr (pv 4 >> pv 2 >> ad))))))),?_⟩
 intro D B a0 a1 y40 x dx d1 fs kv1 m1 m sB hd0 hx hl1 hd1 hk1 h100 h9 m0 mM qN qE
 have hlen:kv1.length=m1.length:=Paired.length hk1
 refine⟨_,rfl,x,CF,dx,fs,_,rfl,hx,cF,nF,hl1,d1,kv1,rfl,hd1,λo=>?_⟩
 refine lJ (λi σ H3=>∃y4 y5 y6:Option V,σ=[a0,a1,some (.int m),some (.ref x),y4,y5,y6]/\(∀b u,B b=some u->b≠d1->H3 b=some u)/\H3 d1=some (.frz o (.dK kv1))/\(∀a xs,SqT K B a xs->SqT K H3 a xs)/\∀q∈m1.take i,oE m q.2) ?_ ?_ ?_ ?_
 ·exact⟨y40,none,none,rfl,λb u hb nb=>by rw [ah nb];exact hb,aa,λa xs h=>eY hd1 h,λq hq=>by simp at hq⟩
 ·rintro i σ H3 _ ⟨_,_,_,_,_,h,_⟩
  exact h
 ·rintro i p σ H3 hp ⟨y4,y5,y6,rfl,old,hd3,keep,hto⟩
  obtain⟨⟨z,g⟩,hq,ez,hkz⟩:=aI hk1 hp
  obtain⟨pk,pw⟩:=p
  replace hkz:cY K B pw g:=hkz
  obtain⟨tp,ta,tx,txs,rfl,f1,f2,f3,f4⟩:=hkz
  have hmem:(z,g)∈m1:=List.mem_of_getElem? hq
  obtain⟨w1,w2,w3⟩:=h9 _ hmem
  have hl3:=f3.length
  refine⟨tp,_,rfl,keep _ _ f1,rfl,_,_,rfl,_,_,rfl,rfl,?_⟩
  refine⟨_,rfl,_,rfl,(sz 1),λp1 hp1=>?_⟩
  have e1:=ac hp1 (.tup [tx])
  have hw3:txs.length+([tx]:List V).length<=sizeLine:=bJ (by show txs.length+1<=1000;have:g.1.length<=100:=w3;omega)
  refine⟨ta,p1,txs,[tx],rfl,rfl,e1.tup (keep _ _ f2),SqT.of aa,(by intro z;cases z),hw3,λp2 H4 s4 hp2=>?_⟩
  have sA:=e1.trans s4
  have hks:bU K B (txs++[tx]) (g.1++[g.2]):=f3.append (one f4)
  refine⟨p2,rfl,⟨_,hp2⟩,p9 (K:=K) (xs:=txs++[tx]) (λj σ H5=>∃y4:Option V,σ=[a0,a1,some (.int m),some (.ref x),y4,some (.ref ta),some tx]/\ao H4 H5/\∀k∈(g.1++[g.2]).take j,(k.words:Int)<=m) ⟨y4,rfl,sr0,λk hk=>by simp at hk⟩ ?_ ?_ ?_⟩
  ·rintro j σ H5 _ ⟨_,_,s5,_⟩
   exact s5.tup hp2
  ·rintro j y σ H5 hy ⟨y4',rfl,s5,hto5⟩
   obtain⟨k,hk,hky⟩:=pj hks hy
   have hkm:k∈g.1++[g.2]:=List.mem_of_getElem? hk
   have hk9:k.words<=900:=by
    rcases List.mem_append.mp hkm with h|h
    ·exact w1 k h
    ·rw [List.mem_singleton.mp h];exact w2
   have keep5:∀a xs,SqT K B a xs->SqT K H5 a xs:=λa xs t=>(sA.trans s5).tup (keep a xs t)
   refine⟨_,rfl,_,rfl,y,k,m,rfl,aC keep5 hky,hk9,m0,mM,λH6 s6=>?_⟩
   by_cases c:(k.words:Int) > m
   ·rw [if_pos c]
    refine qE ⟨_,hmem,λhf=>?_⟩ H6 λb u hb=>s6 _ _ (s5 _ _ (sA _ _ (old b u (sB _ _ hb) λe=>?_)))
    ·rcases List.mem_append.mp hkm with h|h
     ·have:=hf.1 k h
      omega
     ·have h2:(g.2.words:Int)<=m:=hf.2
      rw [List.mem_singleton.mp h] at c
      omega
    ·rw [e,hd0] at hb
     cases hb
   ·rw [if_neg c]
    refine⟨_,rfl,s5.trans s6,λk' hk'=>?_⟩
    rw [List.take_add_one,hk] at hk'
    rcases List.mem_append.mp hk' with h|h
    ·exact hto5 k' h
    ·rw [List.mem_singleton.mp h]
     omega
  ·rintro σ H5 ⟨y4',rfl,s5,hto5⟩
   have el:(txs++[tx]).length=(g.1++[g.2]).length:=hks.length
   rw [el,List.take_length] at hto5
   refine⟨_,_,_,rfl,λb u hb nb=>s5 _ _ (sA _ _ (old b u hb nb)),s5 _ _ (sA _ _ hd3),λa xs t=>(sA.trans s5).tup (keep a xs t),λq hq'=>?_⟩
   rw [List.take_add_one,hq] at hq'
   rcases List.mem_append.mp hq' with h|h
   ·exact hto q h
   ·rw [List.mem_singleton.mp h]
    exact⟨λk hk=>hto5 k (List.mem_append_left _ hk),hto5 g.2 (List.mem_append_right _ (List.mem_singleton.mpr rfl))⟩
 ·rintro σ H3 ⟨y4,y5,y6,rfl,old,hd3,keep,hto⟩
  rw [hlen,List.take_length] at hto
  refine⟨d1,o,.dK kv1,hd3,AQ hd0,qN hto _ y4 y5 y6 λb u hb=>?_⟩
  by_cases e:b=d1
  ·rw [e] at hb ⊢
   rw [hd1] at hb
   cases hb
   exact aa
  ·rw [ah e]
   exact old b u hb e
def rW(m:Int)(m1:List (Str × Kd))(m2:List (Str × (List Kd × Kd))):Prop:=(∀q∈m1,(q.2.words:Int)<=m)/\∀q∈m2,oE m q.2
def xE(K:W.Frag)(CF CT:Addr)(n:Nat):Sp:=λvs H Q E=>∃(fa g:Addr) (m:Int) (m1:List (Str × Kd)) (m2:List (Str × (List Kd × Kd))) (kvs:List (List Key × V)) (G:Str × Str->Option Kd),vs=[.ref fa,.ref g,.int m]/\dQ K H CF fa m1 m2/\(m1.map (·.1)).Nodup/\(m2.map (·.1)).Nodup/\m1.length<=100/\m2.length<=100 /\
 (∀q∈m1,Kd.depth q.2<=n)/\(∀q∈m2,(∀k∈q.2.1,Kd.depth k<=n)/\Kd.depth q.2.2<=n/\q.2.1.length<=100)/\H g=some (.dT kvs)/\iR K H kvs G /\
 (∀q∈m1,(Kd.put G q.2).words<=900)/\(∀q∈m2,(∀k∈q.2.1,(Kd.put G k).words<=900)/\(Kd.put G q.2.2).words<=900)/\0<=m/\m<=1000000 /\
 (rW m (m1.map (cA G)) (m2.map (cq G))->∀H' (x:Addr),ao H H'->H x=none->eC K H H' CF x (m1.map (cA G)) (m2.map (cq G))->Q (.ref x) H') /\
 (¬rW m (m1.map (cA G)) (m2.map (cq G))->∀H',ao H H'->False)
theorem yD (F:jU K "put" "Face.put" fW dV f fd) (GF:Ca P w K mg base (n+2+1) "put_in_face" fq fdq ["face","given"] (jO K CF n))
  (GB:Ca P w K mg base 2 "bounded" fb fdb ["kind","most"] (gk K CT)) (cF:Cls K CF) (nK:aZ K CF "kinds") (nF:aZ K CF "funs") :
  cE P w K mg base CX0 (n+2+1+1) f fd ["self","given","most"] (xE K CF CT n):=by
 refine F.ok kT (λvs H Q E h=>?_) (λcdv A outer s H vs Q E hr h=>?_)
 ·obtain⟨fa,g,m,m1,m2,kvs,G,rfl,_⟩:=h
  rfl
 obtain⟨fa,g,m,m1,m2,kvs,G,rfl,hF,nd1,nd2,hm1,hm2,dp1,dp2,hg,hG,w1,w2,m0,mM,qN,qE⟩:=h
 have hr2:bZ 2 _:=hr.mono (by omega)
 obtain⟨t1,e1,k1⟩:=wq (outer:=outer) (H:=H) (E:=E) GB cF nK hr2
 obtain⟨t2,e2,k2⟩:=wL (outer:=outer) (H:=H) (E:=E) GB cF nF hr2
 refine⟨_,(@pss_cons _ _ _ _ _ (aU (i:=3) kT.nd (cal GF hr (pv 0 >> pv 1 >> ad)))
  (@e1 <|> @e2 <|> ai (aP (pv 3))):PSs (i6 CX0 P w K mg base pmN "Face.put" (ae fW) f cdv A outer s H E).nox (aj fW) _),?_⟩
 refine⟨_,rfl,_,rfl,fa,g,m1,m2,kvs,G,rfl,hF,nd1,nd2,hm1,hm2,dp1,dp2,hg,hG,λH1 x s1 hx hN=>?_⟩
 obtain⟨dx,d1,d2,fs,kv1,kv2,n1,n2,ne,hfx,l1,l2,hd1,hd2,hk1,hk2,lh,lp⟩:=id hN
 refine k1 _ H1 _ _ x dx d1 fs kv1 (m1.map (cA G)) m s1 n1 hfx l1 hd1 hk1 (by rw [lm0];exact hm1) ?_ m0 mM (λhf1 H2 y4 s2=>?_) λhb1 H2 s2=>qE (λhf=>?_) H2 s2
 ·intro q hq
  obtain⟨q',hq',rfl⟩:=List.mem_map.mp hq
  exact w1 q' hq'
 ·refine k2 _ H2 _ _ y4 x dx d2 fs kv2 (m2.map (cq G)) m (s1.trans s2) n2 (s2 _ _ hfx) l2 (s2 _ _ hd2) (hk2.imp λv y h=>h.keep λa xs t=>s2.tup t) (by rw [lm0];exact hm2) ?_ m0 mM (λhf2 H3 y4 y5 y6 s3=>?_) λhb2 H3 s3=>qE (λhf=>?_) H3 s3
  ·intro q hq
   obtain⟨q',hq',rfl⟩:=List.mem_map.mp hq
   refine⟨λk hk=>?_,(w2 q' hq').2,?_⟩
   ·obtain⟨k',hk',rfl⟩:=List.mem_map.mp hk
    exact(w2 q' hq').1 k' hk'
   ·show(q'.2.1.map (Kd.put G)).length<=100
    rw [lm0]
    exact(dp2 q' hq').2.2
  ·have s23:=s2.trans s3
   refine⟨_,rfl,qN ⟨hf1,hf2⟩ H3 x (s1.trans s23) hx ⟨dx,d1,d2,fs,kv1,kv2,n1,n2,ne,s23 _ _ hfx,l1,l2,s23 _ _ hd1,s23 _ _ hd2,hk1.imp λv y h=>h.same s23,hk2.imp λv y h=>h.keep λa xs t=>s23.tup t,lh,lp⟩⟩
  ·obtain⟨q,hq,hn⟩:=hb2
   exact hn (hf.2 q hq)
 ·obtain⟨q,hq,hn⟩:=hb1
  exact hn (hf.1 q hq)
def eL(t:Str)(g:Kd):Str × Str->Option Kd:=λn=>if n=(("":Str),t) then some g else none
def zG(m1:List (Str × Kd))(m2:List (Str × (List Kd × Kd))):Bool:=(m1.all λq=>decide ((q.2.words:Int)<=40))&&m2.all λq=>(q.2.1.all λk=>decide ((k.words:Int)<=40))&&decide ((q.2.2.words:Int)<=40)
theorem lV:zG m1 m2=true↔rW 40 m1 m2:=by
 unfold zG rW oE
 simp only [Bool.and_eq_true,List.all_eq_true,decide_eq_true_eq]
inductive RR where
 |ok (m1:List (Str × Kd)) (m2:List (Str × (List Kd × Kd)))
 |no
 |big
def jA:RR->Str × Kd->RR
 |.ok m1 m2,(t,g)=>if t∈ba m1 then (if zG (m1.map (cA (eL t g))) (m2.map (cq (eL t g)))=true then .ok (m1.map (cA (eL t g))) (m2.map (cq (eL t g))) else .big) else .no
 |.no,_=>.no
 |.big,_=>.big
def nB(m1:List (Str × Kd))(m2:List (Str × (List Kd × Kd)))(ws:List (Str × Kd)):RR:=ws.foldl jA (.ok m1 m2)
theorem ug:∀ws:List (Str × Kd),ws.foldl jA .no=.no
 |[]=>rfl
 |_::ws=>ug ws
theorem qr:∀ws:List (Str × Kd),ws.foldl jA .big=.big
 |[]=>rfl
 |_::ws=>qr ws
theorem mB(m1:List (Str × Kd))(m2:List (Str × (List Kd × Kd)))(a b:List (Str × Kd)):nB m1 m2 (a++b)=b.foldl jA (nB m1 m2 a):=List.foldl_append
theorem uB(m1:List (Str × Kd))(m2:List (Str × (List Kd × Kd))){ws:List (Str × Kd)}{i:Nat}{q:Str × Kd}(h:ws[i]?=some q):nB m1 m2 (ws.take (i+1))=jA (nB m1 m2 (ws.take i)) q:=by
 rw [List.take_add_one,h,mB]
 rfl
theorem yF(h:nB m1 m2 (ws.take i)=.no):nB m1 m2 ws=.no:=by
 rw [<-List.take_append_drop i ws,mB,h,ug]
theorem vU(h:nB m1 m2 (ws.take i)=.big):nB m1 m2 ws=.big:=by
 rw [<-List.take_append_drop i ws,mB,h,qr]
def zf(k:Kd):Prop:=Kd.ok k/\k.words<=40
structure uP(m1:List (Str × Kd))(m2:List (Str × (List Kd × Kd))):Prop where
 nd1:(m1.map (·.1)).Nodup
 nd2:(m2.map (·.1)).Nodup
 l1:m1.length<=100
 l2:m2.length<=100
 k1:∀q∈m1,okW q.1/\zf q.2
 k2:∀q∈m2,okW q.1/\(∀k∈q.2.1,zf k)/\zf q.2.2/\q.2.1.length<=100
def Bs(ws:List (Str × Kd)):Prop:=∀q∈ws,okW q.1/\Kd.ok q.2/\q.2.words<=27
theorem fH(hc:1<=c)(hG:∀n g,G n=some g->g.leaves.length<=c):∀k:Kd,(Kd.put G k).leaves.length<=k.leaves.length*c
 |.num n=>by
  show 1<=1*c
  omega
 |.name q t=>by
  show((G (q,t)).getD (.name q t)).leaves.length<=1*c
  cases e:G (q,t) with
  |none =>
   show 1<=1*c
   omega
  |some g =>
   have:=hG _ _ e
   show g.leaves.length<=1*c
   omega
 |.pair a b=>by
  have h1:=fH hc hG a
  have h2:=fH hc hG b
  show((Kd.put G a).leaves++(Kd.put G b).leaves).length<=(a.leaves++b.leaves).length*c
  rw [la0,la0,Nat.add_mul]
  omega
theorem jh(hG:∀n g,G n=some g->Kd.ok g):∀{k:Kd},Kd.ok k->Kd.ok (Kd.put G k)
 |.num n,_=>trivial
 |.name q t,h=>by
  show Kd.ok ((G (q,t)).getD (.name q t))
  cases e:G (q,t) with
  |none=>exact h
  |some g=>exact hG _ _ e
 |.pair a b,h=>⟨jh hG h.1,jh hG h.2⟩
theorem iN(h:eL t g n=some g'):g'=g:=by
 unfold eL at h
 split at h
 ·exact(Option.some.inj h).symm
 ·cases h
theorem jl(hg:g.words<=27)(hk:k.words<=40):(Kd.put (eL t g) k).words<=900:=by
 have h1:=fH (G:=eL t g) (c:=14) (by decide) (λn g' e=>by
  rw [iN e]
  have:=cz g
  omega) k
 have h2:=cz (Kd.put (eL t g) k)
 have h3:=cz k
 have h4:k.leaves.length*14<=20*14:=Nat.mul_le_mul_right _ (by omega)
 omega
theorem d4(G:Str × Str->Option Kd)(m1:List (Str × Kd)):(m1.map (cA G)).map (·.1)=m1.map (·.1):=by
 rw [List.map_map]
 rfl
theorem fQ(G:Str × Str->Option Kd)(m2:List (Str × (List Kd × Kd))):(m2.map (cq G)).map (·.1)=m2.map (·.1):=by
 rw [List.map_map]
 rfl
theorem uP.step(h:uP m1 m2)(hg:Kd.ok g)(hf:rW 40 (m1.map (cA (eL t g))) (m2.map (cq (eL t g)))):uP (m1.map (cA (eL t g))) (m2.map (cq (eL t g))) where
 nd1:=by rw [d4];exact h.nd1
 nd2:=by rw [fQ];exact h.nd2
 l1:=by rw [lm0];exact h.l1
 l2:=by rw [lm0];exact h.l2
 k1:=λq hq=>by
  have hw:=hf.1 q hq
  obtain⟨q',hq',rfl⟩:=List.mem_map.mp hq
  exact⟨(h.k1 q' hq').1,jh (λn g' e=>by rw [iN e];exact hg) (h.k1 q' hq').2.1,by omega⟩
 k2:=λq hq=>by
  have hw:=hf.2 q hq
  obtain⟨q',hq',rfl⟩:=List.mem_map.mp hq
  obtain⟨o1,o2,o3,o4⟩:=h.k2 q' hq'
  refine⟨o1,λk hk=>?_,⟨jh (λn g' e=>by rw [iN e];exact hg) o3.1,by have:=hw.2;omega⟩,by show(q'.2.1.map _).length<=100;rw [lm0];exact o4⟩
  have hkw:=hw.1 k hk
  obtain⟨k',hk',rfl⟩:=List.mem_map.mp hk
  exact⟨jh (λn g' e=>by rw [iN e];exact hg) (o2 k' hk').1,by omega⟩
def dH(K:W.Frag)(H:Hp)(v:V)(q:Str × Kd):Prop:=∃(p:Addr) (y:V),v=.ref p/\SqT K H p [.str q.1,y]/\bK K H y q.2
theorem dH.same(e:ao H H')(h:dH K H v q):dH K H' v q:=by
 obtain⟨p,y,h1,h2,h3⟩:=h
 exact⟨p,y,h1,e.tup h2,h3.same e⟩
def cG(K:W.Frag)(H:Hp)(xs:List V)(ws:List (Str × Kd)):Prop:=Paired (dH K H) xs ws
theorem eC.face(h:eC K H0 H CF x m1 m2):dQ K H CF x m1 m2:=by
 obtain⟨dx,d1,d2,fs,kv1,kv2,_,_,_,r⟩:=h
 exact⟨dx,d1,d2,fs,kv1,kv2,r⟩
theorem eC.anti(e:ao H0 H1)(h:eC K H1 H CF x m1 m2):eC K H0 H CF x m1 m2:=by
 obtain⟨dx,d1,d2,fs,kv1,kv2,n1,n2,r⟩:=h
 exact⟨dx,d1,d2,fs,kv1,kv2,e.free n1,e.free n2,r⟩
theorem dQ.same(e:ao H H')(h:dQ K H CF x m1 m2):dQ K H' CF x m1 m2:=by
 obtain⟨dx,d1,d2,fs,kv1,kv2,h1,h2,h3,h4,h5,h6,h7,h8⟩:=h
 exact⟨dx,d1,d2,fs,kv1,kv2,e _ _ h1,h2,h3,e _ _ h4,e _ _ h5,h6.imp λv y h=>h.same e,h7.imp λv y h=>h.keep λa xs t=>e.tup t,h8⟩
theorem eC.same(e:ao H H')(h:eC K H0 H CF x m1 m2):eC K H0 H' CF x m1 m2:=by
 obtain⟨dx,d1,d2,fs,kv1,kv2,n1,n2,n3,h1,h2,h3,h4,h5,h6,h7,h8⟩:=h
 exact⟨dx,d1,d2,fs,kv1,kv2,n1,n2,n3,e _ _ h1,h2,h3,e _ _ h4,e _ _ h5,h6.imp λv y h=>h.same e,h7.imp λv y h=>h.keep λa xs t=>e.tup t,h8⟩
def oU(K:W.Frag)(CF CN CT:Addr):Sp:=λvs H Q E=>∃(fa tw:Addr) (m1:List (Str × Kd)) (m2:List (Str × (List Kd × Kd))) (xs:List V) (ws:List (Str × Kd)),vs=[.ref fa,.ref tw]/\dQ K H CF fa m1 m2/\uP m1 m2/\SqL K H tw xs/\cG K H xs ws/\Bs ws /\
 (∀m1' m2',nB m1 m2 ws=.ok m1' m2'->∀H' (x:Addr),ao H H'->H x=none->eC K H H' CF x m1' m2'->Q (.ref x) H') /\
 (nB m1 m2 ws=.no->∀H',ao H H'->False)/\(nB m1 m2 ws=.big->∀H',ao H H'->False)
theorem BO (F:jU K "put" "Face.put" fW (.ref T) f fd) (lT:K.lookup T=some ⟨oT,dT,.seq #[.int 40 tk] nT,sT⟩):cU K fd ["self","given","most"] [.int 40 tk] :=
 F.binds lT λ_ _ _ _ _ _ us hl=>by
  have hl':us.length=2:=by simpa using hl
  repeat(obtain⟨_,_,rfl,z⟩:=lo hl';clear hl';have hl':=z;clear z)
  cases List.length_eq_zero_iff.mp hl'
  exact⟨_,rfl,rfl⟩
theorem gn:aG ["face","withs","result","word","kind"] ["face","withs"] (ae gF):=mkS
theorem rZ{f fi fh fm CF CN CT T:Addr}{fd fdi fdh fdm:FuncData}{oT:Value}{dT:Option Addr}{nT:Nat}{sT:Array (Option Value)}{tk:Tok} (F:Fun K "refined" "refined" gF f fd)
  (GI:cE P w K mg base CX0 1 fi fdi ["self","kinds","funs"] (gY CF)) (bI:cU K fdi ["self","kinds","funs"] []) (MF:Mk K CF fi) (mC:mg "Face"=some (.ref CF)) (cF:Cls K CF) (nK:aZ K CF "kinds") (nF:aZ K CF "funs")
  (GH:cE P w K mg base CX0 2 fh fdh ["self"] (iu K CF)) (bH:cU K fdh ["self"] []) (MH:vK K CF "hidden" fh)
  (FM:jU K "put" "Face.put" fW (.ref T) fm fdm) (lT:K.lookup T=some ⟨oT,dT,.seq #[.int 40 tk] nT,sT⟩)
  (GM:cE P w K mg base CX0 44 fm fdm ["self","given","most"] (xE K CF CT 40)) (MM:vK K CF "put" fm) :
  cE P w K mg base CX0 45 f fd ["face","withs"] (oU K CF CN CT):=by
 refine F.k0 gn λcdv A outer s H vs Q E hr h=>?_
 obtain⟨fa,tw,m1,m2,xs,ws,rfl,hF,hG,htw,hxs,hW,q1,q2,q3⟩:=h
 have hu:=dM hr
 have hr2:bZ (1+1) _:=hr.mono (by decide)
 have bM:=BO FM lT
 refine⟨_,pss_cons (aU (i:=2) gn.nd (eO MF GI hr2 (by rfl) mC bI .nil d9 (bn (pv 0) rfl >> bn (pv 0) rfl >> ad)))
  (pss_cons (bY PassesOwn.never rfl (cQ (pv 1)) (cC rfl (ap (ar (i:=3) gn.nd rfl (Or.inl rfl)) (ap (ar (i:=4) gn.nd rfl (Or.inl rfl)) bC)))
   (pss_cons (ce (aW oM (pv 3) (mK (pv 2) cF MH GH hr2 bH .nil d9) (by with_unfolding_all rfl))
    gP aX)
   (ai (aU (i:=2) gn.nd (yl (pv 2) cF MM GM hr bM (.cons (show cy (.int 40) (.int 40 tk) from⟨tk,rfl⟩) .nil) d9 (uE hu (az (aJ >> pv 3 >> ad)) (pv 4) >> ad))))))
  (ai (aP (pv 2)))),?_⟩
 obtain⟨dx,d1,d2,fs,kv1,kv2,hfa,l1,l2,hd1,hd2,hk1,hk2,_,_⟩:=hF
 refine⟨_,rfl,fa,CF,dx,fs,_,rfl,hfa,cF,nK,l1,_,rfl,fa,CF,dx,fs,_,rfl,hfa,cF,nF,l2,λx dx' nx ndx nex=>?_⟩
 have ea:=ac ndx (.own x)
 have nx':upd H dx' (.own x) x=none:=by rw [ah (Ne.symm nex)];exact nx
 have eab:=ea.trans (ac nx' (.ins CF dx' []))
 refine⟨x,dx',d1,d2,kv1,kv2,rfl,aa,eab _ _ hd1,eab _ _ hd2,λd e fs' H7 hd he nde hx lk lf lh lp hd7 he7 keep=>⟨rfl,?_⟩⟩
 have s7:ao H H7:=λb o hb=>keep b o (eab _ _ hb) (λz=>by rw [z,nx] at hb;cases hb)
 have hN7:eC K H H7 CF x m1 m2:=⟨dx',d,e,fs',kv1,kv2,eab.free hd,eab.free he,nde,hx,lk,lf,hd7,he7,hk1.imp λv y h=>h.same s7,hk2.imp λv y h=>h.keep λa xs t=>s7.tup t,lh,lp⟩
 have hlen:xs.length=ws.length:=Paired.length hxs
 refine⟨_,rfl,tw,rfl,⟨_,eE s7 htw⟩,eF (K:=K) (xs:=xs) (λi σ H3=>∃(n1:List (Str × Kd)) (n2:List (Str × (List Kd × Kd))) (x:Addr) (y3 y4:Option V),σ=[some (.ref fa),some (.ref tw),some (.ref x),y3,y4]/\ao H H3/\H x=none/\eC K H H3 CF x n1 n2/\uP n1 n2/\nB m1 m2 (ws.take i)=.ok n1 n2)
  ⟨m1,m2,x,none,none,rfl,s7,nx,hN7,hG,rfl⟩ ?_ ?_ ?_⟩
 ·rintro i σ H3 _ ⟨_,_,_,_,_,_,s3,_⟩
  exact eE s3 htw
 ·rintro i y σ H3 hy ⟨n1,n2,x3,y3,y4,rfl,s3,nx3,hN3,hG3,hrun⟩
  obtain⟨⟨t,g⟩,hq,p,yk,rfl,hp,hyk⟩:=aI hxs hy
  replace hp:SqT K H p [.str t,yk]:=hp
  replace hyk:bK K H yk g:=hyk
  obtain⟨wo,wk,ww⟩:=hW (t,g) (List.mem_of_getElem? hq)
  replace ww:g.words<=27:=ww
  replace wk:Kd.ok g:=wk
  have esnoc:=uB m1 m2 hq
  rw [hrun] at esnoc
  refine⟨p,_,rfl,s3.tup hp,rfl,_,_,rfl,_,_,rfl,rfl,?_⟩
  have hF3:=hN3.face
  obtain⟨ex,e1,e2,es,ek1,ek2,g1,g2,g3,g4,g5,g6,g7,g8,g9⟩:=id hF3
  refine⟨_,rfl,_,rfl,x3,ex,es,rfl,g1,g8,x3,n1,n2,rfl,hF3,hG3.l1,λq hq=>⟨(hG3.k1 q hq).1,(hG3.k1 q hq).2.1,Nat.le_trans (dh _) (by have:=(hG3.k1 q hq).2.2;omega)⟩,λH4 l s4 hl hL=>?_⟩
  refine⟨l,_,rfl,.inl (SqL.of hL),rfl,uH _,_,rfl,?_⟩
  have sA:=s3.trans s4
  refine dE (λc=>?_) (λc=>?_)
  ·have c':¬t∈ba n1:=λhm=>by
    have c2:(!inV (V.str t) ((ba n1).map V.str))=true:=c
    rw [vE.mpr hm] at c2
    cases c2
   have er:jA (.ok n1 n2) (t,g)=.no:=if_neg c'
   rw [er] at esnoc
   exact q2 (yF esnoc) _ sA
  ·have c':t∈ba n1:=by
    have c2:¬(!inV (V.str t) ((ba n1).map V.str))=true:=c
    refine vE.mp ?_
    simpa using c2
   refine⟨_,rfl,x3,ex,es,rfl,s4 _ _ g1,g9,λpd hpd=>?_⟩
   have sd:=ac hpd (.dT [])
   refine⟨_,rfl,(sz 2),λpb hpb=>?_⟩
   have sb:=ac hpb (.tup [.str "",.str t])
   refine⟨_,rfl,pb,[.inr "",.inr t],rfl,sb _ _ aa,aa,?_⟩
   have hpd0:H4 pd=none:=hpd
   have sE:ao H4 (upd (upd (upd H4 pd (.dT [])) pb (.tup [.str "",.str t])) pd (.dT (cI [] [.inr "",.inr t] yk))):=kE (sd.trans sb) hpd0
   have gv:iR K (upd (upd (upd H4 pd (.dT [])) pb (.tup [.str "",.str t])) pd (.dT (cI [] [.inr "",.inr t] yk))) (cI [] [.inr "",.inr t] yk) (eL t g):=λn=>by
    by_cases e:n=(("":Str),t)
    ·subst e
     exact .inr ⟨yk,g,(gC ..).trans (if_pos rfl),if_pos rfl,(hyk.same sA).same sE⟩
    ·have e2:dq n≠dq (("":Str),t):=λz=>e (iE z)
     exact .inl ⟨(gC ..).trans ((if_neg e2).trans rfl),if_neg e⟩
   have hF5:=(hF3.same s4).same sE
   have sF:=sA.trans sE
   refine⟨x3,pd,40,n1,n2,_,eL t g,rfl,hF5,hG3.nd1,hG3.nd2,hG3.l1,hG3.l2,λq hq=>Nat.le_trans (dh _) (hG3.k1 q hq).2.2,λq hq=>⟨λk hk=>Nat.le_trans (dh _) ((hG3.k2 q hq).2.1 k hk).2,Nat.le_trans (dh _) (hG3.k2 q hq).2.2.1.2,(hG3.k2 q hq).2.2.2⟩,aa,gv,
    λq hq=>jl ww (hG3.k1 q hq).2.2,λq hq=>⟨λk hk=>jl ww ((hG3.k2 q hq).2.1 k hk).2,jl ww (hG3.k2 q hq).2.2.1.2⟩,by decide,by decide,λhf H6 x6 s6 nx6 hN6=>?_,λhf H6 s6=>?_⟩
   ·have er:jA (.ok n1 n2) (t,g)=.ok (n1.map (cA (eL t g))) (n2.map (cq (eL t g))):=(if_pos c').trans (if_pos (lV.mpr hf))
    rw [er] at esnoc
    exact⟨_,_,x6,_,_,rfl,sF.trans s6,sF.free nx6,hN6.anti sF,hG3.step wk hf,esnoc⟩
   ·have er:jA (.ok n1 n2) (t,g)=.big:=(if_pos c').trans (if_neg λz=>hf (lV.mp z))
    rw [er] at esnoc
    exact q3 (vU esnoc) _ (sF.trans s6)
 ·rintro σ H3 ⟨n1,n2,x3,y3,y4,rfl,s3,nx3,hN3,hG3,hrun⟩
  rw [hlen,List.take_length] at hrun
  exact⟨_,rfl,q1 n1 n2 hrun H3 x3 s3 nx3 hN3⟩
end
end K44
namespace K44
open PySem L2
def aB(ns:List Int)(k:Int):Int :=
 if k < (ns.length:Int) then (match atI (ns.map V.int) k with|some (.int v)=>v*48271+7919*k|_=>0)
 else if 0 < (ns.length:Int) then (match atI (ns.map V.int) (k%(ns.length:Int)) with|some (.int v)=>(v%1000003*48271+7919*k*k)%2147483647|_=>0)
 else (7919*k+11)%2147483647
def ge(K:W.Frag):Sp:=λvs H Q _=>∃(a:Addr) (ns:List Int) (k:Int),vs=[.ref a,.int k]/\SqL K H a (ns.map V.int)/\ns.length<=63/\0<=k/\k<=1000/\∀c:Int,c=aB ns k->Q (.int c) H
section
variable{P:Program}{w:World}{K:W.Frag}{mg:Str->Option Value}{base:Heap}
theorem vG:aG ["_law_script","_law_k","_law_number"] ["_law_script","_law_k"] (ae rS):=mkS
theorem wn (F:Fun K "_law_cell" "_law_cell" rS f fd) (ml:mg "len"=none):cE P w K mg base CX0 1 f fd ["_law_script","_law_k"] (ge K):=by
 refine F.k0 vG λcdv A outer s H vs Q E hr h=>?_
 obtain⟨a,ns,k,rfl,hS,h63,h0,h1,q⟩:=h
 refine⟨_,pss_cons (ce (aW Am (pv 1) (aT aK rfl ml boot_len (pv 0 >> ad)) (bd _))
   (ai (aP (aH bv (aH gL (ix0 aO (pv 0) (pv 1)) ag) (aH gL ag (pv 1))))) aX)
  (pss_cons (aU (i:=2) vG.nd (aH bv (aH gL ag (pv 1)) ag))
  (pss_cons (ce (aW uR (aT aK rfl ml boot_len (pv 0 >> ad)) ag (bd _))
   (ai (aU (i:=2) vG.nd (aH bv (aH gL (aH ck (ix0 aO (pv 0) (aH ck (pv 1) (aT aK rfl ml boot_len (pv 0 >> ad)))) ag) ag)
    (aH gL (aH gL ag (pv 1)) (pv 1))))) aX)
  (ai (aP (aH ck (pv 2) ag))))),?_⟩
 have hl:(ns.map V.int).length=ns.length:=List.length_map _
 refine⟨_,rfl,_,rfl,a,_,rfl,.inl hS,_,_,rfl,rfl,_,rfl,?_⟩
 refine dE (λc=>?_) (λc=>?_)
 ·have c':k < (((ns.map V.int).length:Nat):Int):=od0 c
  rw [hl] at c'
  obtain⟨v,hv⟩:=xx (ns:=ns) h0 c'
  exact⟨_,rfl,_,rfl,a,_,_,_,rfl,rfl,hS,hv,_,_,rfl,rfl,.inr ⟨by omega,by omega⟩,_,rfl,_,_,rfl,rfl,.inl ⟨by omega,by omega⟩,_,_,rfl,rfl,q _ (by unfold aB;rw [if_pos c',hv])⟩
 ·have c':¬k < (((ns.map V.int).length:Nat):Int):=of_decide_eq_false (Bool.eq_false_iff.mpr c)
  rw [hl] at c'
  refine⟨_,rfl,_,_,rfl,rfl,.inl ⟨by omega,by omega⟩,_,_,rfl,rfl,?_⟩
  refine⟨_,rfl,a,_,rfl,.inl hS,_,_,rfl,rfl,_,rfl,?_⟩
  refine dE (λd=>?_) (λd=>?_)
  ·have d':0 < (((ns.map V.int).length:Nat):Int):=od0 d
   rw [hl] at d'
   obtain⟨v,hv⟩:=xx (ns:=ns) (i:=k%(((ns.map V.int).length:Nat):Int)) (by rw [hl];exact Int.emod_nonneg _ (by omega)) (by rw [hl];exact Int.emod_lt_of_pos _ d')
   refine⟨_,rfl,_,rfl,_,rfl,a,_,rfl,.inl hS,_,_,rfl,rfl,(by rw [hl];exact d'),a,_,_,_,rfl,rfl,hS,hv,_,_,rfl,rfl,(by show(0:Int) < 1000003;decide),_,_,rfl,rfl,.inr ⟨by omega,by omega⟩,?_⟩
   refine⟨_,rfl,_,_,rfl,rfl,.inl ⟨by omega,by omega⟩,_,rfl,_,_,rfl,rfl,.inr ⟨by omega,by omega⟩,_,_,rfl,rfl,?_⟩
   exact⟨_,rfl,_,_,rfl,rfl,(by show(0:Int) < 2147483647;decide),q _ (by rw [hl] at hv;unfold aB;rw [if_neg c',if_pos d',hv])⟩
  ·have d':¬0 < (((ns.map V.int).length:Nat):Int):=of_decide_eq_false (Bool.eq_false_iff.mpr d)
   rw [hl] at d'
   exact⟨_,rfl,_,_,rfl,rfl,(by show(0:Int) < 2147483647;decide),q _ (by unfold aB;rw [if_neg c',if_neg d'])⟩
end
end K44
namespace K44
open PySem L2 Kk
abbrev hbN:List Str:=["want","part","given","word"]
def mY(m:List (Str × Kd))(part:Str):Str × Str->Option Kd:=λn=>if n.1=""/\n.2∈ba m then some (.name part n.2) else none
def kU(K:W.Frag)(CF:Addr):Sp:=λvs H Q _=>∃(fa:Addr) (part:Str) (m1:List (Str × Kd)) (m2:List (Str × (List Kd × Kd))),vs=[.ref fa,.str part]/\dQ K H CF fa m1 m2/\(m1.map (·.1)).Nodup/\m1.length<=100/\(∀q∈m1,okW q.1/\Kd.ok q.2/\Kd.depth q.2<=60) /\
 ∀H' (g:Addr) (kvs:List (List Key × V)),ao H H'->H g=none->H' g=some (.dT kvs)->iR K H' kvs (mY m1 part)->Q (.ref g) H'
section
variable{P:Program}{w:World}{K:W.Frag}{mg:Str->Option Value}{base:Heap}
theorem i3:aG hbN ["want","part"] (ae fV):=mkS
theorem qc (F:Fun K "hidden_by" "hidden_by" fV f fd) (MH:vK K CF "hidden" fh) (GH:cE P w K mg base CX0 2 fh fdh ["self"] (iu K CF)) (bH:cU K fdh ["self"] []) (cF:Cls K CF) :
  cE P w K mg base CX0 3 f fd ["want","part"] (kU K CF):=by
 refine F.k0 i3 λcdv A outer s H vs Q E hr h=>?_
 obtain⟨fa,part,m1,m2,rfl,hF,hnd,h100,hok,q⟩:=h
 have hu:=dM hr
 refine⟨_,pss_cons (aU (i:=2) i3.nd eB)
  (pss_cons (bY PassesOwn.never rfl (cQ (mK (pv 0) cF MH GH hr bH .nil d9)) (ar (i:=3) i3.nd rfl (Or.inl rfl))
   (ai (dj hu (pv 2) (az (aJ >> pv 3 >> ad)) (az (aJ >> pv 1 >> pv 3 >> ad)) rfl)))
  (ai (aP (pv 2)))),?_⟩
 intro g hgn
 have s2:=ac hgn (.dT [])
 obtain⟨dx,d1,d2,fs,kv1,kv2,hfa,l1,l2,hd1,hd2,hk1,hk2,nh,np⟩:=id (hF.same s2)
 refine⟨_,rfl,fa,dx,fs,rfl,hfa,nh,fa,m1,m2,rfl,hF.same s2,h100,hok,λH3 l s3 hl2 hl3=>⟨l,rfl,⟨_,SqL.of hl3⟩,?_⟩⟩
 have hg3:=s3 _ _ (show upd H g (.dT []) g=some (.dT []) from aa)
 have lg:l≠g:=λe=>by rw [e,aa] at hl2;cases hl2
 have hsl:(ba m1).length<=100:=by
  unfold ba
  rw [lm0]
  exact Nat.le_trans (List.length_filter_le _ _) h100
 refine eF (K:=K) (xs:=(ba m1).map V.str) (λi σ H4=>∃(y3:Option V) (kvs:List (List Key × V)),σ=[some (.ref fa),some (.str part),some (.ref g),y3]/\ao H H4/\H4 l=some (.lst ((ba m1).map V.str))/\H4 g=some (.dT kvs)/\jH K H4 kvs (((ba m1).take i).map λz=>(z,Kd.name part z)))
  ⟨none,[],rfl,s2.trans s3,hl3,hg3,.nil⟩ ?_ ?_ ?_
 ·rintro i σ H4 _ ⟨_,_,_,_,h,_⟩
  exact SqL.of h
 ·rintro i y σ H4 hy ⟨y3,kvs,rfl,s4,hl4,hg4,hpt⟩
  rw [List.getElem?_map] at hy
  obtain⟨z,hz,rfl⟩:=Option.map_eq_some_iff.mp hy
  have hi:i < (ba m1).length:=(List.getElem?_eq_some_iff.mp hz).1
  refine⟨_,rfl,_,rfl,(sz 3),λp hp=>?_⟩
  have s5:=ac hp (.tup [.str "name",.str part,.str z])
  refine⟨_,rfl,_,rfl,(sz 2),λp2 hp2=>?_⟩
  have s6:=ac hp2 (.tup [.str "",.str z])
  have s56:=s5.trans s6
  have kl:kvs.length=i:=by
   have e1:=Paired.length hpt
   rw [lm0,List.length_take] at e1
   omega
  have hg5:=s56 _ _ hg4
  have hv:bK K (upd (upd H4 p (.tup [.str "name",.str part,.str z])) p2 (.tup [.str "",.str z])) (.ref p) (.name part z):=.name (SqT.of (s6 _ _ aa))
  refine⟨g,_,rfl,kH.t (k:=dq ("",z)) hg5 (by rw [aa]<;>rfl) (Nat.lt_of_lt_of_le (Nat.lt_succ_self _) (bJ (by omega))),?_⟩
  have kt:∀a xs,SqT K (upd (upd H4 p (.tup [.str "name",.str part,.str z])) p2 (.tup [.str "",.str z])) a xs->SqT K (upd (upd (upd H4 p (.tup [.str "name",.str part,.str z])) p2 (.tup [.str "",.str z])) g (.dT (cI kvs (dq ("",z)) (.ref p)))) a xs:=λa xs t=>nR hg5 t
  have ht:(ba m1).take (i+1)=(ba m1).take i++[z]:=by rw [List.take_add_one,hz];rfl
  refine⟨_,_,rfl,kE (s4.trans s56) hgn,?_,aa,?_⟩
  ·rw [ah lg]
   exact s56 _ _ hl4
  ·rw [ht,ma0]
   refine lQ ((hpt.same s56).keep kt) ?_ (aC kt hv)
   rw [List.map_map]
   have e:((λq:Str × Kd=>q.1)∘λz=>(z,Kd.name part z))=id:=rfl
   show z∉((ba m1).take i).map ((λq:Str × Kd=>q.1)∘λz=>(z,Kd.name part z))
   rw [e,List.map_id]
   exact dU (bt hnd) hz
 ·rintro σ H4 ⟨y3,kvs,rfl,s4,hl4,hg4,hpt⟩
  rw [lm0,List.take_length] at hpt
  refine⟨_,rfl,q H4 g kvs s4 hgn hg4 λn=>?_⟩
  rcases pt_val hpt n with ⟨h1,h2⟩|⟨v,k,h1,h2,h3,h4⟩
  ·refine .inl ⟨h1,if_neg λhh=>h2 hh.1 ?_⟩
   rw [List.map_map]
   exact List.mem_map.mpr ⟨_,hh.2,rfl⟩
  ·obtain⟨z,hz,e⟩:=List.mem_map.mp h3
   cases e
   exact .inr ⟨v,_,h1,if_pos ⟨h2,hz⟩,h4⟩
def kO(K:W.Frag)(CF:Addr)(n:Nat):Sp:=λvs H Q _=>∃(fa:Addr) (part:Str) (m1:List (Str × Kd)) (m2:List (Str × (List Kd × Kd))),vs=[.ref fa,.str part]/\dQ K H CF fa m1 m2/\(m1.map (·.1)).Nodup/\(m2.map (·.1)).Nodup/\m1.length<=100/\m2.length<=100/\(∀q∈m1,okW q.1/\Kd.ok q.2/\Kd.depth q.2<=60) /\
 (∀q∈m1,Kd.depth q.2<=n)/\(∀q∈m2,(∀k∈q.2.1,Kd.depth k<=n)/\Kd.depth q.2.2<=n/\q.2.1.length<=100) /\
 ∀H' (x:Addr),ao H H'->H x=none->eC K H H' CF x (m1.map (cA (mY m1 part))) (m2.map (cq (mY m1 part)))->Q (.ref x) H'
theorem sK:aG ["want","part"] ["want","part"] (ae fU):=mkS
theorem ph (F:Fun K "told_with" "told_with" fU f fd)
  (GP:Ca P w K mg base (n+2+1) "put_in_face" fp fdp ["face","given"] (jO K CF n))
  (GH:Ca P w K mg base 3 "hidden_by" fh fdh ["want","part"] (kU K CF)) :
  cE P w K mg base CX0 (n+3+1) f fd ["want","part"] (kO K CF n):=by
 refine F.k0 sK λcdv A outer s H vs Q E hr h=>?_
 obtain⟨fa,part,m1,m2,rfl,hF,nd1,nd2,l1,l2,hok,dp1,dp2,q⟩:=h
 have hr3:bZ 3 _:=hr.mono (by omega)
 refine⟨_,ai (aP (cal GP hr (pv 0 >> cal GH hr3 (pv 0 >> pv 1 >> ad) >> ad))),?_⟩
 refine⟨_,rfl,_,rfl,_,rfl,fa,part,m1,m2,rfl,hF,nd1,l1,hok,λH1 g kvs s1 hg hg1 gv=>?_⟩
 exact⟨fa,g,m1,m2,kvs,_,rfl,hF.same s1,nd1,nd2,l1,l2,dp1,dp2,hg1,gv,λH' x s' hx hN=>q H' x (s1.trans s') (s1.free hx) (hN.anti s1)⟩
theorem Af (F:jU K "fitted" "fitted" bL (.ref T) f fd) (lT:K.lookup T=some ⟨oT,dT,.seq #[.str "" tk] nT,sT⟩):cU K fd ftP [] :=
 F.binds lT λ_ _ _ _ _ _ us hl=>by
  have hl':us.length=3:=by simpa using hl
  repeat(obtain⟨_,_,rfl,z⟩:=lo hl';clear hl';have hl':=z;clear z)
  cases List.length_eq_zero_iff.mp hl'
  exact⟨_,rfl,rfl⟩
abbrev wnN:List Str:=["seal","faces","parts","word","withs"]
abbrev wnP:List Str:=["seal","faces","parts"]
abbrev tz(PG:Str->Option (Str->Option Kd)):Str × Str->Option Kd:=jX (λ_=>none) PG
def iK(PG:Str->Option (Str->Option Kd))(q:Str × Kd):Str × Kd:=(q.1,Kd.put (tz PG) q.2)
abbrev gr(PG:Str->Option (Str->Option Kd))(q:Str × Kd):Prop:=∀n∈Kd.names q.2,tz PG n≠none
def qS(PG:Str->Option (Str->Option Kd))(ws:List (Str × Kd)):Prop:=∀q∈ws,okW q.1/\Kd.ok q.2/\q.2.words<=40/\(gr PG q->Kd.ok (Kd.put (tz PG) q.2)/\(Kd.put (tz PG) q.2).words<=27)
def qG(K:W.Frag)(CF CA CN CT:Addr):Sp:=λvs H Q E=>∃(x:V) (fa pa:Addr) (fkv pkv:List (Key × V)) (PG:Str->Option (Str->Option Kd)),vs=[x,.ref fa,.ref pa]/\H fa=some (.dK fkv)/\H pa=some (.dK pkv)/\gs K H CF pkv PG /\
 ((x=.non/\∀H',ao H H'->Q .non H') \/
 ∃(p tw:Addr) (z:Str) (xs:List V) (ws:List (Str × Kd)),x=.ref p/\SqT K H p [.str z,.ref tw]/\okW z/\SqT K H tw xs/\cG K H xs ws/\ws.length<=100/\qS PG ws /\
  ((dC fkv (.inr z)=none/\∀H',ao H H'->False) \/
  ∃(a:Addr) (m1:List (Str × Kd)) (m2:List (Str × (List Kd × Kd))),dC fkv (.inr z)=some (.ref a)/\dQ K H CF a m1 m2/\uP m1 m2 /\
   ((∃q∈ws,¬gr PG q)->∀H',ao H H'->False) /\
   ((∀q∈ws,gr PG q)->(∀m1' m2',nB m1 m2 (ws.map (iK PG))=.ok m1' m2'->∀H' (y:Addr),ao H H'->H y=none->eC K H H' CF y m1' m2'->Q (.ref y) H') /\
    (nB m1 m2 (ws.map (iK PG))=.no->∀H',ao H H'->False)/\(nB m1 m2 (ws.map (iK PG))=.big->∀H',ao H H'->False))))
theorem d3{α β:Type}{R:α->β->Prop}{xs:List α}{ys:List β}{us:List α}{vs:List β}(g:Paired R xs ys)(h:Paired R us vs):Paired R (xs++us) (ys++vs):=by induction g with|nil=>exact h|cons a _ i=>exact .cons a i
theorem wX{α β γ:Type}{R:α->γ->Prop}{f:β->γ}{xs:List α}{ys:List β}(h:Paired (λx y=>R x (f y)) xs ys):Paired R xs (ys.map f):=by induction h with|nil=>exact .nil|cons a _ i=>exact .cons a i
theorem zC (F:jU K "normal" "normal" ei (.ref T) f fd) (lT:K.lookup T=some ⟨oT,dT,.seq #[.int 40 tk] nT,sT⟩):cU K fd ["kind","own","parts","most"] [.int 40 tk] :=
 F.binds lT λ_ _ _ _ _ _ us hl=>by
  have hl':us.length=3:=by simpa using hl
  repeat(obtain⟨_,_,rfl,z⟩:=lo hl';clear hl';have hl':=z;clear z)
  cases List.length_eq_zero_iff.mp hl'
  exact⟨_,rfl,rfl⟩
theorem mj:aG wnN wnP (ae i7):=mkS
theorem vn{f fr fn CF CA CN CT T:Addr}{fd fdr fdn:FuncData}{oT:Value}{dT:Option Addr}{nT:Nat}{sT:Array (Option Value)}{tk:Tok} (F:Fun K "wanted" "wanted" i7 f fd)
  (GR:Ca P w K mg base 45 "refined" fr fdr ["face","withs"] (oU K CF CN CT))
  (FN:jU K "normal" "normal" ei (.ref T) fn fdn) (lT:K.lookup T=some ⟨oT,dT,.seq #[.int 40 tk] nT,sT⟩)
  (GN:cE P w K mg base CX0 41 fn fdn ["kind","own","parts","most"] (nk K CF CN CT)) (kN:W.keepIn K (.ref fn)=true) (mN:mg "normal"=some (.ref fn))
  :
  cE P w K mg base CX0 46 f fd wnP (qG K CF CA CN CT):=by
 refine F.k0 mj λcdv A outer s H vs Q E hr h=>?_
 obtain⟨x,fa,pa,fkv,pkv,PG,rfl,hfa,hpa,hP,h⟩:=h
 have hu:=dM hr
 have hr41:bZ 41 _:=hr.mono (by decide)
 have bN:=zC FN lT
 have dN:cr [V.int 40] [Value.int 40 tk]:=.cons ⟨tk,rfl⟩ .nil
 refine⟨_,pss_cons (ce (aW oW (pv 0) ju (bd _)) (ai (aP ju)) aX)
  (pss_cons (kR (pv 0) (cC rfl (ap (ar (i:=3) mj.nd rfl (Or.inl rfl)) (ap (ar (i:=4) mj.nd rfl (Or.inl rfl)) bC))))
  (pss_cons (ce (jT (ib hu (pv 3) (pv 1)) (by with_unfolding_all rfl)) gP aX)
  (ai (aP (cal GR hr (cV hu (pv 1) (pv 3) (λ_ _=>rfl) >> fE (own:=["name","kind"]) (caps:=["parts"]) (κ:=[2]) (g:=Be K 2 (qf (jm 0) (qf (jm 1) Bb))) rfl ⟨rfl,by decide +kernel,by decide +kernel,rfl,rfl,(λy hy=>by simp only [List.mem_cons,List.not_mem_nil,or_false] at hy;subst hy;rfl),(λy hy=>by simp only [List.mem_cons,List.not_mem_nil,or_false] at hy;subst hy;exact⟨.inl rfl,rfl,.inl rfl⟩)⟩ rfl
   (jP (pv 4)) (λ_ _ _ _=>cC rfl (ap (pg0 ["name","kind","parts"]) (ap (ar (i:=1) (show(["name","kind","parts"]:List Str).Nodup from by decide +kernel) rfl (Or.inl rfl)) bC)))
   (λ_ _ _ _=>az (pv 0 >> fF GN hr41 rfl mN kN bN dN d9 (pv 1 >> fY >> pv 2 >> ad) >> ad)) >> ad)))))),?_⟩
 rcases h with ⟨rfl,q⟩|⟨p,tw,z,xs,ws,rfl,hp,hz,htw,hxs,hl,hS,h⟩
 ·exact⟨_,rfl,rfl,_,rfl,oZ (q _ sr0)⟩
 refine⟨_,rfl,rfl,_,rfl,dE (λc=>absurd (od0 c) (by intro h;cases h)) (λ_=>?_)⟩
 refine⟨_,rfl,p,_,rfl,hp,rfl,_,_,rfl,_,_,rfl,rfl,?_⟩
 refine⟨_,rfl,_,rfl,fa,_,rfl,gj.k (k:=.inr z) hfa,_,rfl,?_⟩
 rcases h with ⟨hv,qE⟩|⟨a,m1,m2,hv,hF,hG,q1,q2⟩
 ·rw [hv]
  exact(qE _ sr0).elim
 ·rw [hv]
  refine nA ?_
  refine⟨_,rfl,_,rfl,fa,.ref a,rfl,hv▸gj.k (k:=.inr z) hfa,_,rfl,tw,rfl,⟨_,htw⟩,?_⟩
  have hlen:xs.length=ws.length:=Paired.length hxs
  refine hV (J:=Itt K tw) (xs:=xs) (λi ys H3=>ao H H3/\ys.length=i/\(∀q∈ws.take i,gr PG q)/\Paired (λv q=>dH K H3 v (iK PG q)) ys (ws.take i)) ⟨sr0,rfl,(λq hq=>nomatch hq),.nil⟩ (bJ (by omega)) ?_ ?_ ?_ ?_ ?_ ?_
  ·rintro i ys H3 ⟨_,hy,_⟩
   omega
  ·rintro i u ys H3 hu ⟨s3,_⟩
   exact⟨_,_,s3.tup htw,hu⟩
  ·rintro i ys u H3 H' hn ⟨s3,_⟩ hy
   exact⟨hy.1,hy.2 _ (s3.tup htw)⟩
  ·rintro ys H3 ⟨s3,_⟩
   exact⟨_,s3.tup htw,Nat.le_refl _⟩
  ·rintro i u ys H3 N hN hu ⟨s3,hy,hat,hpa3⟩
   obtain⟨⟨t,g⟩,hq,p',yk,rfl,hp',hyk⟩:=aI hxs hu
   replace hp':SqT K H p' [.str t,yk]:=hp'
   replace hyk:bK K H yk g:=hyk
   have hm:=List.mem_of_getElem? hq
   obtain⟨o1,o2,o3,o4⟩:=hS (t,g) hm
   replace o3:g.words<=40:=o3
   refine⟨p',_,rfl,s3.tup hp',rfl,_,_,rfl,_,_,rfl,rfl,rfl,di ⟨_,rfl,_,rfl,λo ho=>⟨_,rfl,?_⟩⟩⟩
   have so:=ac ho (.dK [])
   have s4:=s3.trans so
   refine⟨yk,g,o,pa,40,[],pkv,(λ_=>none),PG,rfl,hyk.same s4,by omega,Nat.le_trans (dh _) o3,gy o2,by decide,by decide,aa,(λ_=>.inl ⟨rfl,rfl⟩),s4 _ _ hpa,hP.same s4,λH' s' hex=>q1 ⟨(t,g),hm,λhall=>?_⟩ _ (s4.trans s'),λhall=>?_⟩
   ·obtain⟨n,hn,e⟩:=hex
    exact hall n hn e
   ·obtain⟨w1,w2⟩:=o4 hall
    replace w2:(Kd.put (tz PG) g).words<=27:=w2
    refine⟨by show(Kd.put (tz PG) g).words<=900;omega,λH' s'=>?_⟩
    have c:¬(((Kd.put (jX (λ_=>none) PG) g).words:Int) > 40):=by
     show ¬(((Kd.put (tz PG) g).words:Int) > 40)
     omega
    rw [if_neg c]
    intro v hv
    refine⟨(sz 2),λp2 hp2=>hN _ _ ?_⟩
    have s5:=ac hp2 (.tup [.str t,v])
    have s6:=s4.trans (s'.trans s5)
    have et:ws.take (i+1)=ws.take i++[(t,g)]:=by rw [List.take_add_one,hq];rfl
    refine⟨s6,by rw [la0,hy];rfl,λq hq'=>?_,?_⟩
    ·rw [et] at hq'
     rcases List.mem_append.mp hq' with hq'|hq'
     ·exact hat q hq'
     ·rw [List.mem_singleton.mp hq']
      exact hall
    ·rw [et]
     exact d3 (Paired.mapP hpa3 λ_ _ h=>(h.same so).same (s'.trans s5)) (.cons ⟨p2,v,rfl,SqT.of aa,hv.same s5⟩ .nil)
  ·rintro ys H3 D ⟨s3,_,hat,hpa3⟩ hD
   rw [hlen,List.take_length] at hat hpa3
   have sD:=ac hD (.lst ys)
   have s4:=s3.trans sD
   obtain⟨r1,r2,r3⟩:=q2 hat
   refine⟨a,D,m1,m2,ys,ws.map (iK PG),rfl,hF.same s4,hG,SqL.of aa,?_,λq hq=>?_,λa1 a2 e H' y s' hy hN=>r1 a1 a2 e H' y (s4.trans s') (s4.free hy) (hN.anti s4),λe H' s'=>r2 e H' (s4.trans s'),λe H' s'=>r3 e H' (s4.trans s')⟩
   ·exact wX (Paired.mapP hpa3 λ_ _ h=>h.same sD)
   ·obtain⟨q',hq',rfl⟩:=List.mem_map.mp hq
    obtain⟨o1,_,_,o4⟩:=hS q' hq'
    exact⟨o1,(o4 (hat q' hq')).1,(o4 (hat q' hq')).2⟩
def wsz(c:Int):Int:=if 0 < c / 6%3 then 7+c%6 else 1
def xO(c k:Int)(j:Int):Int:=c / 216+(3+c / 1000)*j+k*(if j=c / 18%wsz c then 1 else 0)
def tD(c k:Int):Nat->Str
 |0=>""
 |j+1=>tD c k j++⟨#[chF (xO c k (j:Int)%26)]⟩
def bg(c k:Int):Str:=tD c k (wsz c).toNat
theorem qw(c:Int):1<=wsz c/\wsz c<=12:=by
 unfold wsz
 split<;>omega
theorem jG(c k:Int):∀n,(tD c k n).length=n
 |0=>rfl
 |n+1=>by
  show(tD c k n++⟨#[chF (xO c k (n:Int)%26)]⟩:Str).length=n+1
  rw [ym,jG c k n]
  rfl
theorem uW(c k:Int):∀n,PyData.strOk (tD c k n)=true
 |0=>show PyData.strOk (Str.ofString "")=true by decide +kernel
 |n+1=>yv (uW c k n) (AM _)
theorem nq(c k:Int):∀n,(tD c k n).cps.toList=(List.range n).map fun(j:Nat)=>chF (xO c k (j:Int)%26)
 |0=>rfl
 |n+1=>by
  have e:(tD c k (n+1)).cps.toList=(tD c k n).cps.toList++[chF (xO c k (n:Int)%26)]:=by
   show((tD c k n).cps++#[chF (xO c k (n:Int)%26)]).toList=_
   simp
  rw [e,nq c k n,List.range_succ,ma0]
  rfl
theorem oq(c k:Int):smW (bg c k):=⟨uW _ _ _,by have:=qw c;unfold bg;rw [jG];omega⟩
theorem yI:∀i:Fin 26,chF (i.val:Int)=97+i.val:=by decide +kernel
theorem xD(h0:0<=i)(h1:i < 26):chF i=97+i.toNat:=by
 have h:=yI ⟨i.toNat,by omega⟩
 have e:((i.toNat:Nat):Int)=i:=Int.toNat_of_nonneg h0
 simp only [e] at h
 exact h
theorem fM(h:bg c k=bg c k'):k%26=k'%26:=by
 have hc:(bg c k).cps.toList=(bg c k').cps.toList:=by rw [h]
 unfold bg at hc
 rw [nq,nq] at hc
 have hb:=qw c
 have a0:=Int.emod_nonneg (c / 18) (show wsz c≠0 by omega)
 have a1:=Int.emod_lt_of_pos (c / 18) (show 0 < wsz c by omega)
 have hj:(c / 18%wsz c).toNat < (wsz c).toNat:=by omega
 have hg:=congrArg (λl:List Nat=>l[(c / 18%wsz c).toNat]?) hc
 simp only [List.getElem?_map,List.getElem?_range hj,Option.map_some,Option.some.injEq] at hg
 rw [Int.toNat_of_nonneg a0] at hg
 rw [xD (Int.emod_nonneg _ (by decide)) (Int.emod_lt_of_pos _ (by decide)),xD (Int.emod_nonneg _ (by decide)) (Int.emod_lt_of_pos _ (by decide))] at hg
 unfold xO at hg
 rw [if_pos rfl] at hg
 generalize c / 216+(3+c / 1000)*(c / 18%wsz c)=A at hg
 omega
abbrev wlN:List Str:=["_law_cell_here","_law_k","_law_size_here","_law_at","_law_word_here","_law_j","_law_number"]
abbrev wlP:List Str:=["_law_cell_here","_law_k"]
def jV:Sp:=λvs H Q _=>∃c k:Int,vs=[.int c,.int k]/\∀H',ao H H'->Q (.str (bg c k)) H'
theorem gR:aG wlN wlP (ae lO):=mkS
theorem wR (F:Fun K "_law_word" "_law_word" lO f fd) (mI:mg "int"=none) (mr:mg "range"=none):cE P w K mg base CX0 1 f fd wlP jV:=by
 refine F.k0 gR λcdv A outer s H vs Q E hr h=>?_
 obtain⟨c,k,rfl,q⟩:=h
 refine⟨_,pss_cons (aU (i:=2) gR.nd (ix0 aO (bT (ag >> aH bv ag (aH ck (pv 0) ag) >> ad)) (aQ nX rfl mI mO (jg uR (aH ck (aH cT (pv 0) ag) ag) ag (bd _) >> ad))))
  (pss_cons (aU (i:=3) gR.nd (aH ck (aH cT (pv 0) ag) (pv 2)))
  (pss_cons (aU (i:=4) gR.nd aJ)
  (pss_cons (bY PassesOwn.never rfl (cj rfl mr (pv 2 >> ad)) (ar (i:=5) gR.nd rfl (Or.inl rfl))
   (pss_cons (aU (i:=6) gR.nd (aH bv (aH bv (aH cT (pv 0) ag) (aH gL (aH bv ag (aH cT (pv 0) ag)) (pv 5))) (aH gL (pv 1) (aQ nX rfl mI mO (jg gi (pv 5) (pv 3) (bd _) >> ad)))))
   (ai (aU (i:=4) gR.nd (aH rV (pv 4) (ix0 xu aJ (aH ck (pv 6) ag)))))))
  (ai (aP (pv 4)))))),?_⟩
 have hb:=qw c
 have l26:(Str.ofString "abcdefghijklmnopqrstuvwxyz").length<=sizeLine:=by decide +kernel
 have h26:((Str.ofString "abcdefghijklmnopqrstuvwxyz").cps.toList.length:Int)=26:=by decide +kernel
 have hat:atI [V.int 1,V.int (7+c%6)] (if decide (0 < c / 6%3)=true then 1 else 0)=some (.int (wsz c)):=by
  unfold wsz
  by_cases h:0 < c / 6%3
  ·rw [dt0 h,if_pos h]
   rfl
  ·rw [df0 h,if_neg h]
   rfl
 refine⟨_,rfl,_,_,rfl,rfl,(by show(0:Int) < 6;decide),_,_,rfl,rfl,(sz 2),λl2 hl2=>?_⟩
 have s2:=ac hl2 (.lst [V.int 1,V.int (7+c%6)])
 refine⟨_,rfl,_,_,rfl,rfl,⟨by decide,by decide⟩,_,_,rfl,rfl,(by show(0:Int) < 3;decide),_,_,rfl,rfl,.inr ⟨_,rfl,l2,_,_,_,rfl,rfl,SqL.of aa,hat,?_⟩⟩
 refine⟨_,rfl,_,_,rfl,rfl,⟨by decide,by decide⟩,_,rfl,_,_,rfl,rfl,(by show(0:Int) < wsz c;omega),?_⟩
 refine⟨_,rfl,_,rfl,by omega,by omega,?_⟩
 refine eN (lo:=0) (n:=(wsz c).toNat) (λi σ H3=>∃(x5 x6:Option V),σ=[some (.int c),some (.int k),some (.int (wsz c)),some (.int (c / 18%wsz c)),some (.str (tD c k i)),x5,x6]/\ao H H3) ⟨none,none,rfl,s2⟩ ?_ ?_
 ·rintro i σ H3 hi ⟨x5,x6,rfl,s3⟩
  rw [Int.zero_add]
  obtain⟨g,hg⟩:=wt (xs:=(Str.ofString "abcdefghijklmnopqrstuvwxyz").cps.toList) (i:=xO c k (i:Int)%26) (Int.emod_nonneg _ (by decide)) (by rw [h26];exact Int.emod_lt_of_pos _ (by decide))
  have eg:chF (xO c k (i:Int)%26)=g:=by unfold chF;rw [hg];rfl
  have el:=jG c k i
  refine⟨_,rfl,_,_,rfl,rfl,⟨by decide,by decide⟩,_,rfl,_,_,rfl,rfl,⟨by decide,by decide⟩,_,_,rfl,rfl,_,rfl,_,_,rfl,rfl,.inr ⟨by omega,by omega⟩,_,_,rfl,rfl,_,rfl,_,rfl,_,rfl,rfl,.inr ⟨_,rfl,?_⟩⟩
  have ek:(if decide (V.int (i:Int)=V.int (c / 18%wsz c))=true then (1:Int) else 0)=if (i:Int)=c / 18%wsz c then 1 else 0:=by
   by_cases h:(i:Int)=c / 18%wsz c
   ·rw [if_pos h,dt0 (by rw [h]),if_pos rfl]
   ·rw [if_neg h,df0 (λz=>h (by injection z)),if_neg (by decide)]
  rw [ek]
  refine⟨_,_,rfl,rfl,.inr ⟨by split<;>decide,by split<;>decide⟩,_,_,rfl,rfl,?_⟩
  refine⟨_,rfl,_,rfl,_,_,rfl,rfl,(by show(0:Int) < 26;decide),_,_,_,rfl,rfl,l26,hg,_,_,rfl,rfl,bJ (by rw [el];show i+1<=1000;omega),?_⟩
  have e:tD c k i++(⟨#[g]⟩:Str)=tD c k (i+1):=by rw [<-eg];rfl
  rw [e]
  exact⟨_,_,rfl,s3⟩
 ·rintro σ H3 ⟨x5,x6,rfl,s3⟩
  exact⟨_,rfl,q _ s3⟩
def kC(S:Kd->Prop)(k:Kd):Prop:=(∀l∈k.leaves,S l)/\k.leaves.length<=2/\Kd.depth k<=2
theorem e18:(0:Int) < ((10:Int) ^ (18:Int).toNat):=by decide
def wK(K:W.Frag):Sp:=λvs H Q _=>∃(c:Int) (l:Addr) (xs:List V) (ks:List Kd) (S:Kd->Prop),vs=[.int c,.ref l]/\H l=some (.lst xs)/\bU K H xs ks/\ks.length<=50/\(∀k∈ks,k.leaf=true/\S k)/\(∀n:Int,0<=n->n<=10 ^ 18->S (.num n)) /\
 ∀H' v k,ao H H'->bK K H' v k->kC S k->Q v H'
theorem mE(h:k.leaf=true/\S k):kC S k:=by
 have e:=fG h.1
 refine⟨λl hl=>?_,by rw [e];exact(by decide:1<=2),?_⟩
 ·rw [e] at hl
  rw [List.mem_singleton.mp hl]
  exact h.2
 ·have:=dw k
  rw [e] at this
  exact Nat.le_trans this (by decide:1<=2)
theorem qV{S:Kd->Prop}{a b:Kd}(ha:a.leaf=true/\S a)(hb:b.leaf=true/\S b):(∀l∈(Kd.pair a b).leaves,S l)/\(Kd.pair a b).leaves.length=2/\Kd.depth (Kd.pair a b)<=2:=by
 have e:(Kd.pair a b).leaves=[a]++[b]:=by
  show a.leaves++b.leaves=_
  rw [fG ha.1,fG hb.1]
 refine⟨λl hl=>?_,by rw [e];rfl,?_⟩
 ·rw [e] at hl
  rcases List.mem_append.mp hl with h|h
  ·rw [List.mem_singleton.mp h];exact ha.2
  ·rw [List.mem_singleton.mp h];exact hb.2
 ·have:=dw (Kd.pair a b)
  rw [e] at this
  exact this
abbrev mxN:List Str:=["_law_cell_here","_law_leaves","_law_some","_law_one","_law_other"]
abbrev mxP:List Str:=["_law_cell_here","_law_leaves"]
theorem wv:aG mxN mxP (ae zp):=mkS
theorem zU (F:Fun K "_law_mix" "_law_mix" zp f fd) (ml:mg "len"=none):cE P w K mg base CX0 1 f fd mxP (wK K):=by
 refine F.k0 wv λcdv A outer s H vs Q E hr h=>?_
 obtain⟨c,l,xs,ks,S,rfl,hl,hks,h50,hS,hn,q⟩:=h
 refine⟨_,pss_cons (aU (i:=2) wv.nd (aH iG (pv 1) (bT (az (aJ >> aH bv ag (aH ck (aH cT (pv 0) ag) (aH xR ag ag)) >> ad) >> ad))))
  (pss_cons (aU (i:=3) wv.nd (ix0 aO (pv 2) (aH ck (aH cT (pv 0) ag) (aT aK rfl ml boot_len (pv 2 >> ad)))))
  (pss_cons (aU (i:=4) wv.nd (ix0 aO (pv 2) (aH ck (aH cT (pv 0) ag) (aT aK rfl ml boot_len (pv 2 >> ad)))))
  (ai (aP (ix0 aO (bT (pv 3 >> pv 3 >> pv 3 >> az (aJ >> pv 3 >> pv 4 >> ad) >> az (aJ >> pv 4 >> pv 3 >> ad) >> ad)) (aH ck (pv 0) ag)))))),?_⟩
 have hln:=hks.length
 refine⟨_,rfl,_,rfl,_,_,rfl,rfl,⟨by decide,by decide⟩,_,_,rfl,rfl,⟨by decide,by decide,by decide⟩,_,_,rfl,rfl,e18,_,_,rfl,rfl,(sz 2),λq1 hq1=>?_⟩
 have u1:=ac hq1 (.tup [.str "num",.int (1+c / 40%(10:Int) ^ (18:Int).toNat)])
 refine⟨(sz 1),λq2 hq2=>?_⟩
 have u2:=ac hq2 (.lst [.ref q1])
 have u12:=u1.trans u2
 refine⟨l,q2,_,_,rfl,rfl,u12 _ _ hl,aa,bJ (by show xs.length+1<=1000;omega),λq3 hq3=>?_⟩
 have u3:=ac hq3 (.lst (xs++[V.ref q1]))
 have u13:=u12.trans u3
 generalize hH4:upd (upd (upd H q1 (.tup [.str "num",.int (1+c / 40%(10:Int) ^ (18:Int).toNat)])) q2 (.lst [.ref q1])) q3 (.lst (xs++[V.ref q1]))=H4 at u13 ⊢
 have h3:H4 q3=some (.lst (xs++[V.ref q1])):=by rw [<-hH4];exact aa
 have ht:bK K H4 (.ref q1) (.num (1+c / 40%(10:Int) ^ (18:Int).toNat)):=.num (SqT.of (by rw [<-hH4];exact(u2.trans u3) _ _ aa))
 have hks4:bU K H4 (xs++[V.ref q1]) (ks++[.num (1+c / 40%(10:Int) ^ (18:Int).toNat)]):=(hks.same u13).append (.cons ht .nil)
 have hall:∀k∈ks++[.num (1+c / 40%(10:Int) ^ (18:Int).toNat)],k.leaf=true/\S k:=λk hk=>by
  rcases List.mem_append.mp hk with h|h
  ·exact hS k h
  ·rw [List.mem_singleton.mp h]
   have a0:=Int.emod_nonneg (c / 40) (Int.ne_of_gt e18)
   have a1:=Int.emod_lt_of_pos (c / 40) e18
   have e:(10:Int) ^ (18:Int).toNat=1000000000000000000:=by decide
   have e':(10:Int) ^ 18=1000000000000000000:=by decide
   refine⟨rfl,hn _ ?_ ?_⟩
   ·omega
   ·rw [e'] ;rw [e] at a1 ⊢;omega
 have hl4:(xs++[V.ref q1]).length=ks.length+1:=by rw [la0,hln];rfl
 have pick:∀d:Int,∃(v:V) (k:Kd),atI (xs++[V.ref q1]) (d%(((xs++[V.ref q1]).length:Nat):Int))=some v/\bK K H4 v k/\k.leaf=true/\S k:=λd=>by
  have p0:0 < (((xs++[V.ref q1]).length:Nat):Int):=by rw [hl4];omega
  obtain⟨v,hv⟩:=wt (xs:=xs++[V.ref q1]) (i:=d%(((xs++[V.ref q1]).length:Nat):Int)) (Int.emod_nonneg _ (by omega)) (Int.emod_lt_of_pos _ p0)
  obtain⟨j,_,hj⟩:=Option.bind_eq_some_iff.mp (show((ixN (xs++[V.ref q1]).length (d%(((xs++[V.ref q1]).length:Nat):Int))).bind λj=>(xs++[V.ref q1])[j]?)=some v from hv)
  obtain⟨k,hk,hat⟩:=hks4.get hj
  exact⟨v,k,hv,hat,hall k (List.mem_of_getElem? hk)⟩
 have p0:(0:Int) < (((xs++[V.ref q1]).length:Nat):Int):=by rw [hl4];omega
 obtain⟨v1,k1,at1,ka1,ks1⟩:=pick (c / 5)
 obtain⟨v2,k2,at2,ka2,ks2⟩:=pick (c / 45)
 refine⟨_,rfl,_,rfl,_,_,rfl,rfl,⟨by decide,by decide⟩,_,rfl,q3,_,rfl,.inl (SqL.of h3),_,_,rfl,rfl,p0,q3,_,_,_,rfl,rfl,SqL.of h3,at1,?_⟩
 refine⟨_,rfl,_,rfl,_,_,rfl,rfl,⟨by decide,by decide⟩,_,rfl,q3,_,rfl,.inl (SqL.of h3),_,_,rfl,rfl,p0,q3,_,_,_,rfl,rfl,SqL.of h3,at2,?_⟩
 refine⟨_,rfl,_,rfl,_,rfl,_,rfl,_,rfl,(sz 3),λp4 hp4=>?_⟩
 have w4:=ac hp4 (.tup [.str "pair",v1,v2])
 refine⟨_,rfl,_,rfl,(sz 3),λp6 hp6=>?_⟩
 have w6:=ac hp6 (.tup [.str "pair",v2,v1])
 refine⟨(sz 5),λp7 hp7=>?_⟩
 have w7:=ac hp7 (.lst [v1,v1,v1,.ref p4,.ref p6])
 have w47:=w4.trans (w6.trans w7)
 have sA:=u13.trans w47
 have five:c%5=0\/c%5=1\/c%5=2\/c%5=3\/c%5=4:=by omega
 have mp:=qV ks1 ks2
 have hp4k:bK K (upd (upd (upd H4 p4 (.tup [.str "pair",v1,v2])) p6 (.tup [.str "pair",v2,v1])) p7 (.lst [v1,v1,v1,.ref p4,.ref p6])) (.ref p4) (.pair k1 k2) :=
  .pair (SqT.of ((w6.trans w7) _ _ aa)) (ka1.same w47) (ka2.same w47)
 have hp6k:bK K (upd (upd (upd H4 p4 (.tup [.str "pair",v1,v2])) p6 (.tup [.str "pair",v2,v1])) p7 (.lst [v1,v1,v1,.ref p4,.ref p6])) (.ref p6) (.pair k2 k1) :=
  .pair (SqT.of (w7 _ _ aa)) (ka2.same w47) (ka1.same w47)
 have m3:kC S (.pair k1 k2):=⟨mp.1,by rw [mp.2.1];decide,Nat.le_trans mp.2.2 (by decide)⟩
 have mp':=qV ks2 ks1
 have m4:kC S (.pair k2 k1):=⟨mp'.1,by rw [mp'.2.1];decide,Nat.le_trans mp'.2.2 (by decide)⟩
 have fin:∃v k,atI [v1,v1,v1,V.ref p4,.ref p6] (c%5)=some v/\bK K (upd (upd (upd H4 p4 (.tup [.str "pair",v1,v2])) p6 (.tup [.str "pair",v2,v1])) p7 (.lst [v1,v1,v1,.ref p4,.ref p6])) v k/\kC S k:=by
  rcases five with e|e|e|e|e
  ·exact⟨v1,k1,by rw [e];rfl,ka1.same w47,mE ks1⟩
  ·exact⟨v1,k1,by rw [e];rfl,ka1.same w47,mE ks1⟩
  ·exact⟨v1,k1,by rw [e];rfl,ka1.same w47,mE ks1⟩
  ·exact⟨_,_,by rw [e];rfl,hp4k,m3⟩
  ·exact⟨_,_,by rw [e];rfl,hp6k,m4⟩
 obtain⟨v,k,hv,hk,hm⟩:=fin
 exact⟨_,rfl,_,_,rfl,rfl,(by show(0:Int) < 5;decide),p7,_,_,_,rfl,rfl,SqL.of aa,hv,q _ v k sA hk hm⟩
abbrev plP:List Str:=["_law_kind","_law_given"]
theorem AY:aG plP plP (ae r6):=mkS
theorem uZ (F:Fun K "_law_put" "_law_put" r6 f fd) (bP:cU K fd plP []) (kP:W.keepIn K (.ref f)=true) (mP:mg "_law_put"=some (.ref f)) :
  ∀n,cE P w K mg base CX0 n f fd plP (jz K n)
 |0=>⟨λvs H Q E h=>by obtain⟨x,g,k,kvs,G,rfl,_⟩:=h;rfl,λA outer s H args us vs Q E _ _ _ _ h=>by
   obtain⟨x,g,k,kvs,G,_,_,hd,_⟩:=h
   have:=iy k
   omega⟩
 |n+1=>by
  have IH:=uZ F bP kP mP n
  refine F.k0 AY λcdv A outer s H vs Q E hr h=>?_
  obtain⟨x,g,k,kvs,G,rfl,hk,hd,hg,hG,q⟩:=h
  have hu:=dM hr
  refine⟨_,pss_cons (ce (aW gi (ix0 ak (pv 0) ag) aJ (bd _))
    (ai (aP (az (aJ >> fF IH hr rfl mP kP bP .nil d9 (aN ak (pv 0) ag (λ_ _=>rfl) >> pv 1 >> ad) >> fF IH hr rfl mP kP bP .nil d9 (aN ak (pv 0) ag (λ_ _=>rfl) >> pv 1 >> ad) >> ad)))) aX)
   (pss_cons (ce (PW.pt (zF (aW gi (ix0 ak (pv 0) ag) aJ (bd _)) (yW (jT (uQ hu (az (aN ak (pv 0) ag (λ_ _=>rfl) >> aN ak (pv 0) ag (λ_ _=>rfl) >> ad)) (pv 1)) (by with_unfolding_all rfl)))))
    (ai (aP (cV hu (pv 1) (az (aN ak (pv 0) ag (λ_ _=>rfl) >> aN ak (pv 0) ag (λ_ _=>rfl) >> ad)) (λ_ _=>rfl)))) aX)
   (ai (aP (pv 0)))),?_⟩
  cases hk with
  |@num p m t =>
   refine⟨_,rfl,_,_,_,_,rfl,rfl,t,(show atI [V.str "num",.int m] 0=some (.str "num") from rfl),rfl,_,rfl,dE (λc=>nK0 c) (λ_=>?_)⟩
   refine⟨_,rfl,_,_,_,_,rfl,rfl,t,(show atI [V.str "num",.int m] 0=some (.str "num") from rfl),rfl,_,rfl,dE (λc=>nK0 c) (λ_=>nA ?_)⟩
   exact⟨_,rfl,q _ _ sr0 (.num t)⟩
  |@name p a b t =>
   refine⟨_,rfl,_,_,_,_,rfl,rfl,t,(show atI [V.str "name",.str a,.str b] 0=some (.str "name") from rfl),rfl,_,rfl,dE (λc=>nK0 c) (λ_=>?_)⟩
   refine⟨_,rfl,_,_,_,_,rfl,rfl,t,(show atI [V.str "name",.str a,.str b] 0=some (.str "name") from rfl),rfl,_,rfl,dE (λ_=>?_) (λc=>absurd (by decide +kernel) c)⟩
   refine⟨_,rfl,_,_,_,_,rfl,rfl,t,(show atI [V.str "name",.str a,.str b] 1=some (.str a) from rfl),_,rfl,_,_,_,_,rfl,rfl,t,(show atI [V.str "name",.str a,.str b] 2=some (.str b) from rfl),(sz 2),λy hy=>?_⟩
   have sy:=ac hy (.tup [.str a,.str b])
   refine⟨_,rfl,g,_,rfl,gj.t (k:=dq (a,b)) (sy _ _ hg) aa,_,rfl,?_⟩
   rcases hG (a,b) with ⟨h1,h2⟩|⟨v,k',h1,h2,h3⟩
   ·rw [h1]
    refine nA ⟨_,rfl,q _ _ sy ?_⟩
    show bK K _ _ ((G (a,b)).getD (.name a b))
    rw [h2]
    exact .name (sy.tup t)
   ·rw [h1]
    refine oZ ⟨_,rfl,_,rfl,_,_,_,_,rfl,rfl,sy.tup t,(show atI [V.str "name",.str a,.str b] 1=some (.str a) from rfl),_,rfl,_,_,_,_,rfl,rfl,sy.tup t,(show atI [V.str "name",.str a,.str b] 2=some (.str b) from rfl),(sz 2),λy2 hy2=>?_⟩
    have sy2:=ac hy2 (.tup [.str a,.str b])
    refine⟨g,v,rfl,h1▸gj.t (k:=dq (a,b)) (sy2 _ _ (sy _ _ hg)) aa,q _ _ (sy.trans sy2) ?_⟩
    show bK K _ _ ((G (a,b)).getD (.name a b))
    rw [h2]
    exact h3.same (sy.trans sy2)
  |@pair p y z a b t ha hb =>
   have hd':1+max (Kd.depth a) (Kd.depth b)<=n+1:=hd
   refine⟨_,rfl,_,_,_,_,rfl,rfl,t,(show atI [V.str "pair",y,z] 0=some (.str "pair") from rfl),rfl,_,rfl,dE (λ_=>?_) (λc=>absurd (by decide +kernel) c)⟩
   refine⟨_,rfl,_,_,_,_,rfl,rfl,t,(show atI [V.str "pair",y,z] 1=some y from rfl),_,rfl,y,g,a,kvs,G,rfl,ha,by omega,hg,hG,λH1 v1 s1 k1=>?_⟩
   refine⟨_,rfl,_,_,_,_,rfl,rfl,s1.tup t,(show atI [V.str "pair",y,z] 2=some z from rfl),_,rfl,z,g,b,kvs,G,rfl,hb.same s1,by omega,s1 _ _ hg,hG.same s1,λH2 v2 s2 k2=>?_⟩
   refine⟨(sz 3),λc hc=>q _ _ (dr (dr s1 s2) (ac hc _)) ?_⟩
   exact .pair (SqT.of aa) ((k1.same s2).same (ac hc _)) (k2.same (ac hc _))
def AlD:Nat->PyData->Prop
 |0,_=>False
 |_+1,.none=>True
 |_+1,.int _=>True
 |_+1,.str _=>True
 |n+1,.tuple ds=>ds.length<=100/\∀d∈ds,AlD n d
 |_+1,_=>False
theorem AlD.le:∀{n m:Nat} {d:PyData},AlD n d->n<=m->AlD m d
 |0,_,_,h,_=>h.elim
 |_+1,0,_,_,h=>by omega
 |_+1,_+1,.none,_,_=>trivial
 |_+1,_+1,.int _,_,_=>trivial
 |_+1,_+1,.str _,_,_=>trivial
 |_+1,_+1,.tuple ds,h,hl=>⟨h.1,λd hd=>AlD.le (h.2 d hd) (by omega)⟩
 |_+1,_+1,.bool _,h,_=>h.elim
 |_+1,_+1,.dict _,h,_=>h.elim
 |_+1,_+1,.list _,h,_=>h.elim
theorem nj:∀{xs:List V} {ds:List PyData} {i:Nat} {x:V} {d:PyData},kB K H xs ds->xs[i]?=some x->ds[i]?=some d->Dat K H x d
 |_,_,_,_,_,.nil,e,_=>by simp at e
 |_,_,0,_,_,.cons a _,e,f=>by
  obtain rfl:=Option.some.inj e
  obtain rfl:=Option.some.inj f
  exact a
 |_,_,i+1,_,_,.cons _ b,e,f=>nj (i:=i) b e f
theorem mV:∀{xs:List V} {ds:List PyData},kB K H xs ds->xs.length=ds.length
 |_,_,.nil=>rfl
 |_,_,.cons _ b=>congrArg (·+1) (mV b)
def ur(K:W.Frag)(n:Nat):Sp:=λvs H Q _=>∃(x y:V) (d:PyData),vs=[x,y]/\Dat K H x d/\Dat K H y d/\AlD n d/\∀H',ao H H'->Q (.bl true) H'
theorem gN{α:Type}{a b:α}{p:α->Prop}(ha:p a)(hb:p b):∀y∈[a,b],p y:=λy hy=>by
 simp only [List.mem_cons,List.not_mem_nil,or_false] at hy
 rcases hy with rfl|rfl
 ·exact ha
 ·exact hb
theorem wG(n:Nat):(List.replicate n true).all id=true:=by
 rw [List.all_eq_true]
 intro x hx
 exact(List.mem_replicate.mp hx).2
theorem AJ(K:W.Frag):W.kitOne K (.type "str") (.type "str")=some true:=rfl
theorem zK(K:W.Frag):W.kitOne K (.type "str") (.type "int")=some false:=rfl
theorem uI:bootBuiltins "bool"=some (.type "bool"):=by decide +kernel
abbrev alN:List Str:=["_law_found","_law_due"]
theorem yS:aG alN alN (ae lN):=mkS
theorem rF{f:Addr}{fd:FuncData} (F:Fun K "_law_alike" "_law_alike" lN f fd) (bA:cU K fd alN []) (kA:W.keepIn K (.ref f)=true) (mA:mg "_law_alike"=some (.ref f))
  (mi:mg "isinstance"=none) (ms:mg "str"=none) (mt:mg "tuple"=none) (mI:mg "int"=none) (mb:mg "bool"=none) (ml:mg "len"=none) (mr:mg "range"=none) (ma:mg "all"=none) :
  ∀n,cE P w K mg base CX0 n f fd alN (ur K n)
 |0=>⟨λvs H Q E h=>by obtain⟨x,y,d,rfl,_⟩:=h;rfl,λA outer s H args us vs Q E _ _ _ _ h=>by
   obtain⟨x,y,d,_,_,_,h,_⟩:=h
   exact h.elim⟩
 |n+1=>by
  have IH:=rF F bA kA mA mi ms mt mI mb ml mr ma n
  refine F.k0 yS λcdv A outer s H vs Q E hr h=>?_
  obtain⟨x,y,d,rfl,hx,hy,hal,q⟩:=h
  refine⟨_,pss_cons (ce (aW oW (pv 1) ju (bd _)) (ai (aP (jg oW (pv 0) ju (bd _)))) aX)
   (pss_cons (ce (L2.pt_val (aT kZ rfl mi eh (pv 1 >> fC rfl mt bF (v:=.ty "tuple") rfl >> ad)))
    (pss_cons (ce (PW.pt (sM (iJ (L2.pt_val (aT kZ rfl mi eh (pv 0 >> fC rfl mt bF (v:=.ty "tuple") rfl >> ad)))) (rD (aW vV (aT aK rfl ml boot_len (pv 0 >> ad)) (aT aK rfl ml boot_len (pv 1 >> ad)) (bd _))))) (ai (aP ou)) aX)
    (ai (aP (aT (tJ rfl) rfl ma yX (fE (own:=["_law_k"]) (caps:=["_law_found","_law_due"]) (κ:=[0,1]) rfl ⟨rfl,by decide +kernel,by decide +kernel,rfl,rfl,(gN rfl rfl),(gN ⟨.inl rfl,rfl,.inl rfl⟩ ⟨.inl rfl,rfl,.inl rfl⟩)⟩ rfl
     (cj rfl mr (aT aK rfl ml boot_len (pv 1 >> ad) >> ad)) (λ_ _ _ _=>pg0 ["_law_k","_law_found","_law_due"])
     (λ_ _ _ _=>fF IH hr rfl mA kA bA .nil d9 (aN (r:=sS K) ak (pv 1) (pv 0) (λ_ _=>rfl) >> aN (r:=sS K) ak (pv 2) (pv 0) (λ_ _=>rfl) >> ad)) >> ad))))) aX)
   (pss_cons (ce (L2.pt_val (aT jD rfl mi eh (pv 1 >> fC rfl mI mO (v:=.ty "int") rfl >> ad)))
    (ai (aP (jy (aT jD rfl mi eh (pv 0 >> fC rfl mI mO (v:=.ty "int") rfl >> ad)) (jy (AX (aT jD rfl mi eh (pv 0 >> fC rfl mb uI (v:=.ty "bool") rfl >> ad))) (nW (jg gi (pv 0) (pv 1) (bd _))))))) aX)
   (ai (aP (jy (aT jD rfl mi eh (pv 0 >> fC rfl ms yh (v:=.ty "str") rfl >> ad)) (nW (jg gi (pv 0) (pv 1) (bd _)))))))),?_⟩
  cases hy with
  |bl b=>exact hal.elim
  |lst _ _=>exact hal.elim
  |str s0 =>
   cases hx
   refine⟨_,rfl,rfl,_,rfl,dE (λc=>absurd (od0 c) (by intro h;cases h)) (λ_=>?_)⟩
   refine⟨_,rfl,.str s0,rfl,.inl ⟨s0,rfl,false,rfl,nA ?_⟩⟩
   refine⟨_,rfl,.str s0,"int",_,false,rfl,.str s0,zK K,false,rfl,nA ?_⟩
   refine⟨_,rfl,.str s0,"str",_,true,rfl,.str s0,AJ K,true,rfl,oZ ⟨_,rfl,_,rfl,rfl,?_⟩⟩
   show Q (.bl (decide (V.str s0=V.str s0))) H
   rw [dt0 rfl]
   exact q _ sr0
  |non =>
   cases hx
   exact⟨_,rfl,rfl,_,rfl,oZ ⟨_,rfl,rfl,q _ sr0⟩⟩
  |int i0 =>
   cases hx
   refine⟨_,rfl,rfl,_,rfl,dE (λc=>absurd (od0 c) (by intro h;cases h)) (λ_=>?_)⟩
   refine⟨_,rfl,.int i0,rfl,.inr (.inl ⟨i0,rfl,false,rfl,nA ?_⟩)⟩
   refine⟨_,rfl,.int i0,"int",_,true,rfl,.int i0,xI K,true,rfl,oZ ?_⟩
   refine⟨_,rfl,.int i0,"int",_,true,rfl,.int i0,xI K,true,rfl,oZ ?_⟩
   refine⟨_,rfl,.int i0,"bool",_,false,rfl,.int i0,zR K,false,rfl,true,rfl,oZ ⟨_,rfl,_,rfl,rfl,?_⟩⟩
   show Q (.bl (decide (V.int i0=V.int i0))) H
   rw [dt0 rfl]
   exact q _ sr0
  |@tup b ys ds hb hys =>
   obtain⟨a,xs,rfl,ha,hxs⟩:∃a xs,x=.ref a/\SqT K H a xs/\kB K H xs ds:=by
    cases hx with
    |tup h1 h2=>exact⟨_,_,rfl,h1,h2⟩
   obtain⟨h10,hall⟩:=hal
   have hxl:=mV hxs
   have hyl:=mV hys
   have hl:xs.length=ys.length:=by omega
   refine⟨_,rfl,rfl,_,rfl,dE (λc=>absurd (od0 c) (by intro h;cases h)) (λ_=>?_)⟩
   refine⟨_,rfl,.ref b,rfl,.inr (.inr ⟨b,_,rfl,hb,true,rfl,oZ ?_⟩)⟩
   refine⟨_,rfl,.ref a,rfl,.inr (.inr ⟨a,_,rfl,ha,true,rfl,nA ⟨_,rfl,a,_,rfl,.inr ha,_,rfl,b,_,rfl,.inr hb,rfl,_,rfl,dE (λc=>?_) (λ_=>?_)⟩⟩)⟩
   ·have c':(!decide (V.int (xs.length:Int)=V.int (ys.length:Int)))=true:=c
    rw [hl,dt0 rfl] at c'
    exact absurd c' (by decide)
   refine⟨_,rfl,b,_,rfl,.inr hb,_,rfl,by omega,by omega,?_⟩
   refine hV (J:=Itr 0 ((ys.length:Nat):Int).toNat) (xs:=jq 0 ((ys.length:Nat):Int).toNat) (λi zs H3=>i<=((ys.length:Nat):Int).toNat/\ao H H3/\zs=(List.replicate i true).map V.bl) ⟨Nat.zero_le _,sr0,rfl⟩ (by rw [dJ];exact bJ (by omega)) ?_ ?_ ?_ ?_ ?_ ?_
   ·rintro i zs H3 ⟨hi,_,rfl⟩
    rw [lm0,List.length_replicate]
    exact Nat.le_refl _
   ·rintro i x zs H3 hx _
    exact xC hx
   ·rintro i zs x H3 H' hi _ hy
    rw [dJ] at hi
    exact qt hi hy
   ·rintro zs H3 _
    rw [dJ]
    exact Nat.le_refl _
   ·rintro i x zs H3 N hN hx ⟨hi,s3,rfl⟩
    obtain⟨hi9,rfl⟩:=gx.mp hx
    rw [Int.toNat_natCast] at hi9
    obtain⟨vy,hvy⟩:∃v,ys[i]?=some v:=⟨_,List.getElem?_eq_getElem hi9⟩
    obtain⟨vx,hvx⟩:∃v,xs[i]?=some v:=⟨_,List.getElem?_eq_getElem (by omega)⟩
    obtain⟨d0,hd0⟩:∃v,ds[i]?=some v:=⟨_,List.getElem?_eq_getElem (by omega)⟩
    have ax:atI xs (0+(i:Int))=some vx:=by rw [Int.zero_add];exact bE hvx
    have ay:atI ys (0+(i:Int))=some vy:=by rw [Int.zero_add];exact bE hvy
    refine⟨rfl,di ⟨_,rfl,_,rfl,a,_,_,_,rfl,rfl,s3.tup ha,ax,_,rfl,_,rfl,b,_,_,_,rfl,rfl,s3.tup hb,ay,vx,vy,d0,rfl,(nj hxs hvx hd0).same s3,(nj hys hvy hd0).same s3,hall d0 (List.mem_of_getElem? hd0),λH4 s4=>hN _ _ ⟨by rw [Int.toNat_natCast];omega,s3.trans s4,?_⟩⟩⟩
    rw [List.replicate_succ',ma0]
    rfl
   ·rintro zs H3 D ⟨hi,s3,rfl⟩ hD
    refine⟨D,List.replicate _ true,rfl,SqL.of aa,?_⟩
    rw [wG]
    exact q _ (s3.trans (ac hD _))
end
end K44
namespace L2
open PySem
theorem jt(hl:SqL K H l xs)(hz:xs.length<=1000)(R:Nat->List V->Hp->Prop)(h0:R 0 [] H)(hlen:∀i ys H2,R i ys H2->ys.length<=i)
  (hs:∀i x ys H2 (N:List V->Hp->Prop),(∀ys' H',ao H H'->R (i+1) ys' H'->N ys' H')->xs[i]?=some x->ao H H2->R i ys H2->g x (dO n κ σ) H2 λσ4 H4=>σ4.drop n=(dO n κ σ).drop n/\tc σ4 H4 λb H5=>if b=true then te σ4 H5 λv H6=>N (ys++[v]) H6 else N ys H5)
  (hQ:∀ys H2 D,ao H H2->R xs.length ys H2->H2 D=none->Q (.ref D) (upd H2 D (.lst ys))):gT n κ g tc te σ (Itl K l) H Q:=by
 have sq:∀{H2:Hp},ao H H2->SqL K H2 l xs:=λe=>by
  rcases hl with (h|⟨o,h⟩)|h
  ·exact .inl (.inl (e _ _ h))
  ·exact .inl (.inr ⟨o,e _ _ h⟩)
  ·exact .inr h
 refine hV (J:=Itl K l) (xs:=xs) (λi ys H3=>ao H H3/\R i ys H3) ⟨sr0,h0⟩ (Nat.le_of_lt (cX hz)) ?_ ?_ ?_ ?_ ?_ ?_
 ·rintro i ys H3 ⟨_,h⟩
  exact hlen i ys H3 h
 ·rintro i u ys H3 hu ⟨s3,_⟩
  exact⟨_,_,sq s3,hu⟩
 ·rintro i ys u H3 H' hn ⟨s3,_⟩ hy
  exact⟨hy.1,hy.2 _ (sq s3)⟩
 ·rintro ys H3 ⟨s3,_⟩
  exact⟨_,sq s3,Nat.le_refl _⟩
 ·rintro i u ys H3 N hN hu ⟨s3,h⟩
  exact hs i u ys H3 N (λys' H' a b=>hN ys' H' ⟨a,b⟩) hu s3 h
 ·rintro ys H3 D ⟨s3,h⟩ hD
  exact hQ ys H3 D s3 h hD
theorem xT(hl:SqT K H l xs)(hz:xs.length<=1000)(R:Nat->List V->Hp->Prop)(h0:R 0 [] H)(hlen:∀i ys H2,R i ys H2->ys.length<=i)
  (hs:∀i x ys H2 (N:List V->Hp->Prop),(∀ys' H',ao H H'->R (i+1) ys' H'->N ys' H')->xs[i]?=some x->ao H H2->R i ys H2->g x (dO n κ σ) H2 λσ4 H4=>σ4.drop n=(dO n κ σ).drop n/\tc σ4 H4 λb H5=>if b=true then te σ4 H5 λv H6=>N (ys++[v]) H6 else N ys H5)
  (hQ:∀ys H2 D,ao H H2->R xs.length ys H2->H2 D=none->Q (.ref D) (upd H2 D (.lst ys))):gT n κ g tc te σ (Itt K l) H Q:=by
 refine hV (J:=Itt K l) (xs:=xs) (λi ys H3=>ao H H3/\R i ys H3) ⟨sr0,h0⟩ (Nat.le_of_lt (cX hz)) ?_ ?_ ?_ ?_ ?_ ?_
 ·rintro i ys H3 ⟨_,h⟩
  exact hlen i ys H3 h
 ·rintro i u ys H3 hu ⟨s3,_⟩
  exact⟨_,_,s3.tup hl,hu⟩
 ·rintro i ys u H3 H' hn ⟨s3,_⟩ hy
  exact⟨hy.1,hy.2 _ (s3.tup hl)⟩
 ·rintro ys H3 ⟨s3,_⟩
  exact⟨_,s3.tup hl,Nat.le_refl _⟩
 ·rintro i u ys H3 N hN hu ⟨s3,h⟩
  exact hs i u ys H3 N (λys' H' a b=>hN ys' H' ⟨a,b⟩) hu s3 h
 ·rintro ys H3 D ⟨s3,h⟩ hD
  exact hQ ys H3 D s3 h hD
end L2
namespace K44
open PySem L2 Kk
theorem gM{α:Type}{a:α}{p:α->Prop}(ha:p a):∀y∈[a],p y:=λy hy=>by
 rw [List.mem_singleton.mp hy]
 exact ha
def hZ(K:W.Frag)(H:Hp)(v:V)(q:Str × Kd):Prop:=∃(p:Addr) (y:V),v=.ref p/\H p=some (.tup [.str q.1,y])/\bK K H y q.2
def vI(K:W.Frag)(H:Hp)(v:V)(q:Str × (List Kd × Kd)):Prop:=∃(p:Addr) (y:V),v=.ref p/\H p=some (.tup [.str q.1,y])/\cY K H y q.2
theorem hZ.same(e:ao H H')(h:hZ K H v q):hZ K H' v q:=by
 obtain⟨p,y,a,b,c⟩:=h
 exact⟨p,y,a,e _ _ b,c.same e⟩
theorem vI.same(e:ao H H')(h:vI K H v q):vI K H' v q:=by
 obtain⟨p,y,a,b,c⟩:=h
 exact⟨p,y,a,e _ _ b,c.keep λ_ _ t=>e.tup t⟩
def oX(K:W.Frag)(H:Hp)(l:Addr)(m:List (Str × Kd)):Prop:=∃xs,H l=some (.lst xs)/\Paired (hZ K H) xs m
def vJ(K:W.Frag)(H:Hp)(l:Addr)(m:List (Str × (List Kd × Kd))):Prop:=∃xs,H l=some (.lst xs)/\Paired (vI K H) xs m
theorem oX.same(e:ao H H')(h:oX K H l m):oX K H' l m:=by
 obtain⟨xs,a,b⟩:=h
 exact⟨xs,e _ _ a,Paired.mapP b λ_ _ z=>z.same e⟩
theorem vJ.same(e:ao H H')(h:vJ K H l m):vJ K H' l m:=by
 obtain⟨xs,a,b⟩:=h
 exact⟨xs,e _ _ a,Paired.mapP b λ_ _ z=>z.same e⟩
def iM(K:W.Frag)(H:Hp)(p:Addr)(m1:List (Str × Kd))(m2:List (Str × (List Kd × Kd))):Prop:=∃l1 l2,H p=some (.tup [.ref l1,.ref l2])/\oX K H l1 m1/\vJ K H l2 m2
theorem iM.same(e:ao H H')(h:iM K H p m1 m2):iM K H' p m1 m2:=by
 obtain⟨l1,l2,a,b,c⟩:=h
 exact⟨l1,l2,e _ _ a,b.same e,c.same e⟩
def ic(K:W.Frag):Sp:=λvs H Q _=>∃(l:Addr) (m1:List (Str × Kd)),vs=[.ref l]/\oX K H l m1/\m1.length<=100/\(∀q∈m1,okW q.1/\Kd.ok q.2/\Kd.depth q.2<=60) /\
 ∀H' (a:Addr),ao H H'->H a=none->H' a=some (.lst ((ba m1).map V.str))->Q (.ref a) H'
theorem xj{m1:List (Str × Kd)}{i:Nat}{z:Str}{k:Kd}(hq:m1[i]?=some (z,k)):ba (m1.take (i+1))=ba (m1.take i)++(if hX (z,k)=true then [z] else []):=by
 rw [List.take_add_one,hq]
 unfold ba
 rw [List.filter_append,ma0]
 congr 1
 show((([(z,k)]:List (Str × Kd)).filter hX).map (·.1))=_
 rw [List.filter_cons]
 by_cases c:hX (z,k)=true
 ·rw [if_pos c,if_pos c];rfl
 ·rw [if_neg c,if_neg c];rfl
section
variable{P:Program}{w:World}{K:W.Frag}{mg:Str->Option Value}{base:Heap}
theorem uN:aG ["_law_kinds"] ["_law_kinds"] (ae gH):=mkS
theorem rP{f:Addr}{fd:FuncData} (F:Fun K "_law_hidden" "_law_hidden" gH f fd):cE P w K mg base CX0 1 f fd ["_law_kinds"] (ic K):=by
 refine F.k0 uN λcdv A outer s H vs Q E hr h=>?_
 obtain⟨l,m1,rfl,⟨xs,hl,hxs⟩,h100,hok,q⟩:=h
 have hu:=hr.units
 refine⟨_,ai (aP (iW (own:=["_law_word_here","_law_kind"]) (caps:=[]) (κ:=[]) (cl:=[]) rfl ⟨rfl,by decide +kernel,by decide +kernel,rfl,rfl,(λy hy=>nomatch hy),(λy hy=>nomatch hy)⟩ rfl
  (cQ (pv 0)) (λ_ _ _ _=>qZ (K:=K) (i:=0) (j:=1) rfl rfl (show(["_law_word_here","_law_kind"]:List Str).Nodup from by decide +kernel) rfl (Or.inl rfl) (Or.inr rfl) rfl (Or.inl rfl) (Or.inr rfl))
  (λ_ _ _ _=>aW (eqK (K:=K) rfl hu) (pv 1) (az (aJ >> aJ >> pv 0 >> ad)) (bd _)) (λ_ _ _ _=>pv 0))),?_⟩
 have hlen:xs.length=m1.length:=Paired.length hxs
 refine⟨_,rfl,l,rfl,⟨_,SqL.of hl⟩,?_⟩
 refine jt (SqL.of hl) (by omega) (λi ys H3=>ys=(ba (m1.take i)).map V.str/\ys.length<=i) ⟨rfl,Nat.le_refl _⟩ (λ_ _ _ h=>h.2) ?_ ?_
 ·rintro i x ys H3 N hN hx s3 ⟨rfl,hys⟩
  obtain⟨⟨z,k⟩,hq,p,y,rfl,hp,hy⟩:=aI hxs hx
  replace hp:H p=some (.tup [.str z,y]):=hp
  replace hy:bK K H y k:=hy
  obtain⟨oz,ok,od⟩:=hok (z,k) (List.mem_of_getElem? hq)
  have eT:=xj hq
  refine⟨p,_,rfl,SqT.of (s3 _ _ hp),rfl,_,_,rfl,_,_,rfl,rfl,rfl,?_⟩
  refine⟨_,rfl,_,rfl,(sz 3),λp2 hp2=>?_⟩
  have s4:=ac hp2 (.tup [.str "name",.str "",.str z])
  refine⟨_,_,dI (hy.same (s3.trans s4)),dI (.name (SqT.of aa)),cB ok od,cB ⟨iO,oz⟩ (by show 1<=60;decide),_,rfl,?_⟩
  have eb:PyData.eqv (Kd.dat k) (Kd.dat (eu z))=hX (z,k):=gb _ _
  refine dE (λc=>?_) (λc=>?_)
  ·have c':hX (z,k)=true:=by rw [<-eb];exact c
   rw [if_pos c'] at eT
   refine⟨_,rfl,hN _ _ (s3.trans s4) ⟨?_,?_⟩⟩
   ·rw [eT,ma0];rfl
   ·rw [la0];show _+1<=_;omega
  ·have c':¬hX (z,k)=true:=by rw [<-eb];exact c
   rw [if_neg c',List.append_nil] at eT
   exact hN _ _ (s3.trans s4) ⟨by rw [eT],by omega⟩
 ·rintro ys H3 D s3 ⟨rfl,_⟩ hD
  refine q _ D (s3.trans (ac hD _)) (s3.free hD) ?_
  rw [aa,hlen,List.take_length]
abbrev paN:List Str:=["_law_face_here","_law_given","_law_kinds","_law_funs","_law_fun","_law_row"]
abbrev paP:List Str:=["_law_face_here","_law_given"]
def LfN(K:W.Frag)(H0 H:Hp)(p:Addr)(m1:List (Str × Kd))(m2:List (Str × (List Kd × Kd))):Prop:=∃l1 l2,H0 l1=none/\H0 l2=none/\H p=some (.tup [.ref l1,.ref l2])/\oX K H l1 m1/\vJ K H l2 m2
theorem LfN.at(h:LfN K H0 H p m1 m2):iM K H p m1 m2:=let ⟨a,b,_,_,c,d,e⟩:=h;⟨a,b,c,d,e⟩
def ip(K:W.Frag)(n:Nat):Sp:=λvs H Q _=>∃(fa g:Addr) (m1:List (Str × Kd)) (m2:List (Str × (List Kd × Kd))) (kvs:List (List Key × V)) (G:Str × Str->Option Kd),vs=[.ref fa,.ref g]/\iM K H fa m1 m2/\m1.length<=100/\m2.length<=100 /\
 (∀q∈m1,Kd.depth q.2<=n)/\(∀q∈m2,(∀k∈q.2.1,Kd.depth k<=n)/\Kd.depth q.2.2<=n/\q.2.1.length<=100)/\H g=some (.dT kvs)/\iR K H kvs G /\
 ∀H' (x:Addr),ao H H'->LfN K H H' x (m1.map (cA G)) (m2.map (cq G))->Q (.ref x) H'
theorem iB:aG paN paP (ae iU):=mkS
theorem tS{n:Nat}{f fp:Addr}{fd fdp:FuncData} (F:Fun K "_law_put_all" "_law_put_all" iU f fd) (GP:Ca P w K mg base n "_law_put" fp fdp plP (jz K n)) (mt:mg "tuple"=none):cE P w K mg base CX0 (n+1) f fd paP (ip K n):=by
 refine F.k0 iB λcdv A outer s H vs Q E hr h=>?_
 obtain⟨fa,g,m1,m2,kvs,G,rfl,⟨l1,l2,hfa,⟨xs,hl1,hxs⟩,⟨ys,hl2,hys⟩⟩,c1,c2,dp1,dp2,hg,hG,q⟩:=h
 have hu:=hr.units
 refine⟨_,pss_cons (jY (i0:=2) (own:=["_law_word_here","_law_kind"]) (caps:=["_law_given"]) (κ:=[1]) iB.nd rfl (Or.inl rfl) rfl ⟨rfl,by decide +kernel,by decide +kernel,rfl,rfl,gM rfl,gM ⟨.inl rfl,rfl,.inl rfl⟩⟩ rfl
   (cQ (ix0 ak (pv 0) ag)) (λ_ _ _ _=>qZ (K:=K) (i:=0) (j:=1) rfl rfl (show(["_law_word_here","_law_kind","_law_given"]:List Str).Nodup from by decide +kernel) rfl (Or.inl rfl) (Or.inr rfl) rfl (Or.inl rfl) (Or.inr rfl))
   (λ_ _ _ _=>az (pv 0 >> cal GP hr (pv 1 >> pv 2 >> ad) >> ad)))
  (pss_cons (aU (i:=3) iB.nd (bT ad))
  (pss_cons (bY PassesOwn.never rfl (cQ (ix0 ak (pv 0) ag)) (cC rfl (ap (ar (i:=4) iB.nd rfl (Or.inl rfl)) (ap (ar (i:=5) iB.nd rfl (Or.inl rfl)) bC)))
   (ai (bh (gX PySem.F.plainAttrs_list PySem.F.slot_list_append PySem.F.type_list_append bO (pv 3) (az (pv 4 >> az (aQ bj rfl mt bF (fE (own:=["_law_kind"]) (caps:=["_law_given"]) (κ:=[1]) rfl ⟨rfl,by decide +kernel,by decide +kernel,rfl,rfl,gM rfl,gM ⟨.inl rfl,rfl,.inl rfl⟩⟩ rfl
    (jP (ix0 ak (pv 5) ag)) (λ_ _ _ _=>pg0 ["_law_kind","_law_given"]) (λ_ _ _ _=>cal GP hr (pv 0 >> pv 1 >> ad)) >> ad) >> cal GP hr (aN ak (pv 5) ag (λ_ _=>rfl) >> pv 1 >> ad) >> ad) >> ad) >> ad)))))
  (ai (aP (az (pv 2 >> pv 3 >> ad)))))),?_⟩
 have hxl:xs.length=m1.length:=Paired.length hxs
 have hyl:ys.length=m2.length:=Paired.length hys
 refine⟨_,rfl,fa,_,_,_,rfl,rfl,SqT.of hfa,(show atI [V.ref l1,.ref l2] 0=some (.ref l1) from rfl),l1,rfl,⟨_,SqL.of hl1⟩,?_⟩
 refine jt (SqL.of hl1) (by omega) (λi zs H3=>zs.length=i/\Paired (λv q=>hZ K H3 v (cA G q)) zs (m1.take i)) ⟨rfl,.nil⟩ (λ_ _ _ h=>Nat.le_of_eq h.1) ?_ ?_
 ·rintro i x zs H3 N hN hx s3 ⟨hz,hpz⟩
  obtain⟨⟨z,k⟩,hq,p,y,rfl,hp,hy⟩:=aI hxs hx
  replace hp:H p=some (.tup [.str z,y]):=hp
  replace hy:bK K H y k:=hy
  refine⟨p,_,rfl,SqT.of (s3 _ _ hp),rfl,_,_,rfl,_,_,rfl,rfl,rfl,di ⟨_,rfl,_,rfl,_,rfl,y,g,k,kvs,G,rfl,hy.same s3,dp1 _ (List.mem_of_getElem? hq),s3 _ _ hg,hG.same s3,λH4 v s4 hv=>⟨(sz 2),λp2 hp2=>?_⟩⟩⟩
  have s5:=ac hp2 (.tup [.str z,v])
  refine hN _ _ (s3.trans (s4.trans s5)) ⟨by rw [la0,hz];rfl,?_⟩
  rw [List.take_add_one,hq]
  exact d3 (Paired.mapP hpz λ_ _ h=>h.same (s4.trans s5)) (.cons ⟨p2,v,rfl,aa,hv.same s5⟩ .nil)
 rintro zs H3 d1 s3 ⟨hz,hpz⟩ hD
 have sD:=ac hD (.lst zs)
 have s4:=s3.trans sD
 rw [hxl,List.take_length] at hpz
 generalize hHB:upd H3 d1 (.lst zs)=HB at sD s4 ⊢
 have hR1:oX K HB d1 (m1.map (cA G)):=⟨zs,by rw [<-hHB];exact aa,wX (Paired.mapP hpz λ_ _ h=>h.same sD)⟩
 refine⟨(sz 0),λl3 hl3=>?_⟩
 have s5:=ac hl3 (.lst [])
 refine⟨_,rfl,fa,_,_,_,rfl,rfl,SqT.of ((s4.trans s5) _ _ hfa),(show atI [V.ref l1,.ref l2] 1=some (.ref l2) from rfl),l2,rfl,⟨_,SqL.of ((s4.trans s5) _ _ hl2)⟩,?_⟩
 refine eF (K:=K) (xs:=ys) (λi σ H6=>∃(x4 x5:Option V) (us:List V),σ=[some (.ref fa),some (.ref g),some (.ref d1),some (.ref l3),x4,x5]/\ao HB H6/\H6 l3=some (.lst us)/\us.length=i/\Paired (λv q=>vI K H6 v (cq G q)) us (m2.take i)) ⟨none,none,[],rfl,s5,aa,rfl,.nil⟩ ?_ ?_ ?_
 ·rintro i σ H6 _ ⟨_,_,_,_,s6,_⟩
  exact SqL.of ((s4.trans s6) _ _ hl2)
 ·rintro i x σ H6 hx ⟨x4,x5,us,rfl,s6,hu6,hul,hup⟩
  obtain⟨⟨z,ks,k⟩,hq,p,y,rfl,hp,hy⟩:=aI hys hx
  replace hp:H p=some (.tup [.str z,y]):=hp
  replace hy:cY K H y (ks,k):=hy
  obtain⟨pr,ta,xk,xs',rfl,hpr,hta,hks,hk⟩:=hy
  replace hks:bU K H xs' ks:=hks
  replace hk:bK K H xk k:=hk
  obtain⟨da,db,dc⟩:=dp2 _ (List.mem_of_getElem? hq)
  replace da:∀k'∈ks,Kd.depth k'<=n:=da
  replace dc:ks.length<=100:=dc
  have sA:=s4.trans s6
  refine⟨p,_,rfl,SqT.of (sA _ _ hp),rfl,_,_,rfl,_,_,rfl,rfl,?_⟩
  refine⟨_,rfl,.inl ⟨rfl,_,SqL.of hu6⟩,_,rfl,_,rfl,pr,_,_,_,rfl,rfl,sA.tup hpr,(show atI [V.ref ta,xk] 0=some (.ref ta) from rfl),ta,rfl,⟨_,sA.tup hta⟩,?_⟩
  have hkl:=hks.length
  refine xT (sA.tup hta) (by omega) (λj vs H7=>vs.length=j/\bU K H7 vs ((ks.take j).map (Kd.put G))) ⟨rfl,.nil⟩ (λ_ _ _ h=>Nat.le_of_eq h.1) ?_ ?_
  ·rintro j u vs H7 N hN hu7 s7 ⟨hv,hvs⟩
   obtain⟨k',hk',hat⟩:=hks.get hu7
   have sB:=sA.trans s7
   refine⟨rfl,di ⟨_,rfl,_,rfl,u,g,k',kvs,G,rfl,hat.same sB,da k' (List.mem_of_getElem? hk'),sB _ _ hg,hG.same sB,λH8 v s8 hv8=>hN _ _ (s7.trans s8) ⟨by rw [la0,hv];rfl,?_⟩⟩⟩
   rw [List.take_add_one,hk',ma0]
   exact(hvs.same s8).append (.cons hv8 .nil)
  rintro vs H7 D2 s7 ⟨hv,hvs⟩ hD2
  rw [hkl,List.take_length] at hvs
  have t7:=ac hD2 (.lst vs)
  refine⟨D2,vs,rfl,.inl ⟨SqL.of aa,λt3 ht3=>?_⟩⟩
  have t8:=ac ht3 (.tup vs)
  have sC:=sA.trans (s7.trans (t7.trans t8))
  refine⟨_,rfl,pr,_,_,_,rfl,rfl,sC.tup hpr,(show atI [V.ref ta,xk] 1=some xk from rfl),_,rfl,xk,g,k,kvs,G,rfl,hk.same sC,db,sC _ _ hg,hG.same sC,λH9 v9 s9 hv9=>?_⟩
  refine⟨(sz 2),λt5 ht5=>?_⟩
  have t9:=ac ht5 (.tup [.ref t3,v9])
  refine⟨(sz 2),λt6 ht6=>?_⟩
  have t10:=ac ht6 (.tup [.str z,.ref t5])
  have sE:=s7.trans (t7.trans (t8.trans (s9.trans (t9.trans t10))))
  have hl10:=sE _ _ hu6
  refine⟨l3,us,.ref t6,rfl,rfl,hl10,Nat.lt_of_lt_of_le (Nat.lt_succ_self _) (bJ (by have:=(List.getElem?_eq_some_iff.mp hx).1;omega)),?_⟩
  have kt:∀{a:Addr} {zz:List V},SqT K (upd (upd H9 t5 (.tup [.ref t3,v9])) t6 (.tup [.str z,.ref t5])) a zz->SqT K (upd (upd (upd H9 t5 (.tup [.ref t3,v9])) t6 (.tup [.str z,.ref t5])) l3 (.lst (us++[.ref t6]))) a zz:=λh=>na hl10 h
  have ht:∀{a:Addr} {zz:List V},(upd (upd H9 t5 (.tup [.ref t3,v9])) t6 (.tup [.str z,.ref t5])) a=some (.tup zz)->(upd (upd (upd H9 t5 (.tup [.ref t3,v9])) t6 (.tup [.str z,.ref t5])) l3 (.lst (us++[.ref t6]))) a=some (.tup zz):=λ{a zz} h=>by
   rw [ah (λe=>by rw [e,hl10] at h;cases h)]
   exact h
  refine⟨_,_,us++[.ref t6],rfl,kE (s6.trans sE) hl3,aa,by rw [la0,hul];rfl,?_⟩
  rw [List.take_add_one,hq]
  refine d3 (Paired.mapP hup λ_ _ h=>?_) (.cons ⟨t6,.ref t5,rfl,ht aa,t5,t3,v9,vs,rfl,kt (SqT.of (t10 _ _ aa)),kt (SqT.of ((s9.trans (t9.trans t10)) _ _ aa)),gc (λ_ _=>kt) (hvs.same (t7.trans (t8.trans (s9.trans (t9.trans t10))))),aC (λ_ _=>kt) (hv9.same (t9.trans t10))⟩ .nil)
  obtain⟨pp,py,e1,e2,e3⟩:=h.same sE
  exact⟨pp,py,e1,ht e2,e3.keep λ_ _=>kt⟩
 ·rintro σ H6 ⟨x4,x5,us,rfl,s6,hu6,hul,hup⟩
  rw [hyl,List.take_length] at hup
  refine⟨_,rfl,_,rfl,(sz 2),λt ht=>?_⟩
  have t7:=ac ht (.tup [.ref d1,.ref l3])
  exact q _ t (s4.trans (s6.trans t7)) ⟨d1,l3,s3.free hD,s4.free hl3,aa,hR1.same (s6.trans t7),⟨us,t7 _ _ hu6,wX (Paired.mapP hup λ_ _ h=>h.same t7)⟩⟩
end
end K44
namespace L2
open PySem
theorem nZ(hz:m<=1000)(R:Nat->List V->Hp->Prop)(h0:R 0 [] H)(hlen:∀i ys H2,R i ys H2->ys.length<=i)
  (hs:∀i ys H2 (N:List V->Hp->Prop),(∀ys' H',ao H H'->R (i+1) ys' H'->N ys' H')->i < m->ao H H2->R i ys H2->g (.int i) (dO n κ σ) H2 λσ4 H4=>σ4.drop n=(dO n κ σ).drop n/\tc σ4 H4 λb H5=>if b=true then te σ4 H5 λv H6=>N (ys++[v]) H6 else N ys H5)
  (hQ:∀ys H2 D,ao H H2->R m ys H2->H2 D=none->Q (.ref D) (upd H2 D (.lst ys))):gT n κ g tc te σ (Itr 0 m) H Q:=by
 refine hV (J:=Itr 0 m) (xs:=jq 0 m) (λi ys H3=>ao H H3/\R i ys H3) ⟨sr0,h0⟩ (by rw [dJ];exact Nat.le_of_lt (cX hz)) ?_ ?_ ?_ ?_ ?_ ?_
 ·rintro i ys H3 ⟨_,h⟩
  exact hlen i ys H3 h
 ·rintro i u ys H3 hu _
  exact xC hu
 ·rintro i ys u H3 H' hn _ hy
  rw [dJ] at hn
  exact qt hn hy
 ·rintro ys H3 _
  rw [dJ]
  exact Nat.le_refl _
 ·rintro i u ys H3 N hN hu ⟨s3,h⟩
  obtain⟨hi,rfl⟩:=gx.mp hu
  rw [Int.zero_add]
  exact hs i ys H3 N (λys' H' a b=>hN ys' H' ⟨a,b⟩) hi s3 h
 ·rintro ys H3 D ⟨s3,h⟩ hD
  rw [dJ] at h
  exact hQ ys H3 D s3 h hD
end L2
namespace K44
open PySem L2 Kk
def wds(c s:Int)(n:Nat):List Str:=(List.range n).map fun(j:Nat)=>bg c (s+(j:Int))
theorem eJ(c s:Int)(n:Nat):(wds c s n).length=n:=by unfold wds;rw [lm0,List.length_range]
theorem ig(c s:Int)(n:Nat):wds c s (n+1)=wds c s n++[bg c (s+(n:Int))]:=by
 unfold wds
 rw [List.range_succ,ma0]
 rfl
theorem fZ:z∈wds c s n↔∃j:Nat,j < n/\z=bg c (s+(j:Int)):=by
 unfold wds
 constructor
 ·intro h
  obtain⟨j,hj,rfl⟩:=List.mem_map.mp h
  exact⟨j,List.mem_range.mp hj,rfl⟩
 ·rintro⟨j,hj,rfl⟩
  exact List.mem_map.mpr ⟨j,List.mem_range.mpr hj,rfl⟩
theorem eU(c s:Int):∀{n:Nat},n<=26->(wds c s n).Nodup
 |0,_=>.nil
 |n+1,h=>by
  rw [ig]
  refine List.nodup_append.mpr ⟨eU c s (by omega),List.nodup_cons.mpr ⟨List.not_mem_nil,.nil⟩,λa ha b hb=>?_⟩
  obtain⟨j,hj,rfl⟩:=fZ.mp ha
  rw [List.mem_singleton.mp hb]
  intro e
  have:=fM e
  omega
theorem oe(h:∀i j:Nat,i < n->j < m->(s+(i:Int))%26≠(t+(j:Int))%26):∀a∈wds c s n,∀b∈wds c t m,a≠b:=λa ha b hb e=>by
 obtain⟨i,hi,rfl⟩:=fZ.mp ha
 obtain⟨j,hj,rfl⟩:=fZ.mp hb
 exact h i j hi hj (fM e)
def BZ(l:Kd):Prop:=∃n:Int,l=.num n/\0<=n/\n<=10 ^ 18
def LfS(hs:List Str)(ks:List Kd)(l:Kd):Prop:=l∈ks\/BZ l\/∃h∈hs,l=eu h
def uD(c sh:Int)(S:Kd->Prop)(m2:List (Str × (List Kd × Kd))):Prop:=(∃n,n<=3/\m2.map (·.1)=wds c sh n)/\(m2.map (·.1)).Nodup/\m2.length<=3/\∀q∈m2,smW q.1/\q.2.1.length<=4/\∀k∈q.2.2::q.2.1,kC S k
theorem xm{α β:Type}{R:α->β->Prop}:∀{xs:List α} {ys:List β} (n:Nat),Paired R xs ys->Paired R (xs.drop n) (ys.drop n)
 |_,_,0,h=>h
 |_,_,_+1,.nil=>.nil
 |_,_,n+1,.cons _ b=>xm n b
theorem xF{α β:Type}{R:α->β->Prop}:∀{xs:List α} {ys:List β} (n:Nat),Paired R xs ys->Paired R (xs.take n) (ys.take n)
 |_,_,0,_=>.nil
 |_,_,_+1,.nil=>.nil
 |_,_,n+1,.cons a b=>.cons a (xF n b)
abbrev fcN:List Str:=["_law_script","_law_at","_law_shift","_law_leaves","_law_head","_law_k","_law_hidden_here","_law_word_here","_law_some","_law_kinds","_law_turned","_law_funs","_law_cell_here","_law_args","_law_fun"]
abbrev fcP:List Str:=["_law_script","_law_at","_law_shift","_law_leaves"]
structure oQ(K:W.Frag)(H:Hp)(S:Kd->Prop)(so:Addr)(xs:List V)(ks:List Kd):Prop where
 obj:H so=some (.lst xs)
 at_:bU K H xs ks
 len:ks.length<=50
 all:∀k∈ks,k.leaf=true/\S k
 nums:∀n:Int,0<=n->n<=10 ^ 18->S (.num n)
theorem oQ.same(e:ao H H')(h:oQ K H S so xs ks):oQ K H' S so xs ks:=⟨e _ _ h.obj,h.at_.same e,h.len,h.all,h.nums⟩
section
variable{P:Program}{w:World}{K:W.Frag}{mg:Str->Option Value}{base:Heap}
theorem fO:aG fcN fcP (ae lZ):=mkS
theorem fc6
    (GC:Ca P w K mg base 1 "_law_cell" fc fdc ["_law_script","_law_k"] (ge K))
    (GW:Ca P w K mg base 1 "_law_word" fw fdw wlP jV)
    (GM:Ca P w K mg base 1 "_law_mix" fm fdm mxP (wK K))
    (mt:mg "tuple"=none) (mr:mg "range"=none)
 (hr:bZ 1 (A.deeper (PyProof.Rows.envOfC "_law_face" (ae lZ) s.heap.objs.size f cdv))) :
    ∃t,PSs (i6 CX0 P w K mg base fcN "_law_face" (ae lZ) f cdv A outer s H E).nox (List.drop 6 (aj lZ)) t /\
      ∀(Q:VK) (H1:Hp) (a so kl:Addr) (ns:List Int) (at_ sh hd:Int) (tu:Nat) (S:Kd->Prop) (sxs:List V) (sks:List Kd) (M:List (Str × Kd)) (x3 x5 x6 x7 x11 x12 x13 x14:Option V),
        SqL K H1 a (ns.map V.int)->ns.length<=63->0<=at_->at_<=100->oQ K H1 S so sxs sks->oX K H1 kl M->M.length<=100->tu<=M.length ->
        (∀H' x m2,ao H1 H'->iM K H' x (M.drop tu++M.take tu) m2->uD (aB ns 2) sh S m2->Q (.ref x) H') ->
        t { nx:=λ_ H'=>Q .non H',rt:=Q } [some (.ref a),some (.int at_),some (.int sh),x3,some (.int hd),x5,x6,x7,some (.ref so),some (.ref kl),some (.int (tu:Int)),x11,x12,x13,x14] H1:=by
  refine⟨_,pss_cons (aU (i:=11) fO.nd (bT ad))
    (pss_cons (bY PassesOwn.never rfl (cj rfl mr (aH ck (aH cT (pv 4) ag) ag >> ad)) (ar (i:=5) fO.nd rfl (Or.inl rfl))
      (pss_cons (lE (i:=12) fO.nd rfl (Or.inr rfl) (aH bv (aH cT (cal GC hr (pv 0 >> aH bv (pv 1) ag >> ad)) (aH bv (pv 5) ag)) (aH gL ag (pv 5))))
      (pss_cons (aU (i:=13) fO.nd (aQ bj rfl mt bF (fE (own:=["_law_j"]) (caps:=["_law_cell_here","_law_some"]) (κ:=[12,8]) rfl ⟨rfl,by decide +kernel,by decide +kernel,rfl,rfl,gN rfl rfl,gN ⟨.inl rfl,rfl,.inl rfl⟩ ⟨.inl rfl,rfl,.inl rfl⟩⟩ rfl
        (cj rfl mr (aH ck (pv 12) ag >> ad)) (λ_ _ _ _=>pg0 ["_law_j","_law_cell_here","_law_some"])
        (λ_ _ _ _=>cal GM hr (aH bv (aH cT (pv 1) (aH bv (pv 0) ag)) (pv 0) >> pv 2 >> ad)) >> ad)))
      (pss_cons (aU (i:=14) fO.nd (cal GW hr (cal GC hr (pv 0 >> ag >> ad) >> aH bv (pv 2) (pv 5) >> ad)))
      (ai (bh (gX PySem.F.plainAttrs_list PySem.F.slot_list_append PySem.F.type_list_append bO (pv 11) (az (pv 14 >> az (pv 13 >> cal GM hr (aH cT (cal GC hr (pv 0 >> aH bv (pv 1) ag >> ad)) (aH bv (pv 5) ag) >> pv 8 >> ad) >> ad) >> ad) >> ad))))))))
    (ai (aP (az (aH iG (rC vz (pv 9) (uf (pv 10)) ud) (rC vz (pv 9) ud (uf (pv 10))) >> pv 11 >> ad))))),?_⟩
  intro Q H1 a so kl ns at_ sh hd tu S sxs sks M x3 x5 x6 x7 x11 x12 x13 x14 hA h63 at0 at1 hSo hK hM htu q
  refine⟨(sz 0),λfl hfl=>?_⟩
  have s1:=ac hfl (.lst [])
  have r0:=Int.emod_nonneg (hd / 60) (show(4:Int)≠0 by decide)
  have r1:=Int.emod_lt_of_pos (hd / 60) (show(0:Int) < 4 by decide)
  refine⟨_,rfl,_,_,rfl,rfl,⟨by decide,by decide⟩,_,_,rfl,rfl,(by show(0:Int) < 4;decide),_,rfl,by omega,by omega,?_⟩
  refine eN (λi σ H2=>∃(y5 y12 y13 y14:Option V) (us:List V) (m2:List (Str × (List Kd × Kd))),σ=[some (.ref a),some (.int at_),some (.int sh),x3,some (.int hd),y5,x6,x7,some (.ref so),some (.ref kl),some (.int (tu:Int)),some (.ref fl),y12,y13,y14]/\ao H1 H2/\H2 fl=some (.lst us)/\Paired (vI K H2) us m2/\m2.map (·.1)=wds (aB ns 2) sh i/\∀q∈m2,q.2.1.length<=4/\∀k∈q.2.2::q.2.1,kC S k)
    ⟨x5,x12,x13,x14,[],[],rfl,s1,aa,.nil,rfl,λq hq=>nomatch hq⟩ ?_ ?_
  · rintro i σ H2 hi ⟨y5,y12,y13,y14,us,m2,rfl,s2,hu2,hp2,hk2,hm2⟩
    rw [Int.zero_add]
    have hul:us.length=i:=by
      have e1:=Paired.length hp2
      have e2:=congrArg List.length hk2
      rw [lm0,eJ] at e2
      omega
    have hi4:i < 4:=by omega
    have cl:∀{H':Hp},ao H1 H'->SqL K H' a (ns.map V.int):=λe=>eE e hA
    refine⟨_,rfl,_,rfl,_,_,rfl,rfl,a,ns,at_+4,rfl,cl s2,h63,by omega,by omega,λc hc=>?_⟩
    refine⟨_,rfl,_,_,rfl,rfl,_,_,rfl,rfl,⟨by omega,by omega⟩,_,rfl,_,_,rfl,rfl,.inl ⟨by decide,by decide⟩,_,_,rfl,rfl,?_⟩
    have b0:=Int.emod_nonneg (c / ((i:Int)+1)+13*(i:Int)) (show(5:Int)≠0 by decide)
    have b1:=Int.emod_lt_of_pos (c / ((i:Int)+1)+13*(i:Int)) (show(0:Int) < 5 by decide)
    refine⟨_,rfl,_,_,rfl,rfl,(by show(0:Int) < 5;decide),_,rfl,by omega,by omega,?_⟩
    have so2:=hSo.same s2
    refine nZ (m:=((c / ((i:Int)+1)+13*(i:Int))%5).toNat) (by omega) (λj ys H3=>ys.length=j/\∃ks:List Kd,bU K H3 ys ks/\∀k∈ks,kC S k) ⟨rfl,[],.nil,λk hk=>nomatch hk⟩ (λ_ _ _ h=>Nat.le_of_eq h.1) ?_ ?_
    · rintro j ys H3 N hN hj s3 ⟨hyl,ks,hks,hall⟩
      have so3:=so2.same s3
      refine⟨rfl,di ⟨_,rfl,_,rfl,_,_,rfl,rfl,_,_,rfl,rfl,⟨by omega,by omega⟩,_,rfl,_,_,rfl,rfl,_,rfl,_,so,sxs,sks,S,rfl,so3.obj,so3.at_,so3.len,so3.all,so3.nums,λH4 v k s4 hv hm=>hN _ _ (s3.trans s4) ⟨by rw [la0,hyl];rfl,ks++[k],(hks.same s4).append (.cons hv .nil),λk' hk'=>?_⟩⟩⟩
      rcases List.mem_append.mp hk' with h|h
      · exact hall k' h
      · rw [List.mem_singleton.mp h]
        exact hm
    rintro ys H3 D s3 ⟨hyl,ks,hks,hall⟩ hD
    have t3:=ac hD (.lst ys)
    refine⟨D,ys,rfl,.inl ⟨SqL.of aa,λta hta=>?_⟩⟩
    have t4:=ac hta (.tup ys)
    have s5:=s2.trans (s3.trans (t3.trans t4))
    have kl5:ks.length<=4:=by
      have:=hks.length
      omega
    have hks5:bU K (upd (upd H3 D (.lst ys)) ta (.tup ys)) ys ks:=hks.same (t3.trans t4)
    have hta5:upd (upd H3 D (.lst ys)) ta (.tup ys) ta=some (.tup ys):=aa
    have hfl5:=(s3.trans (t3.trans t4)) _ _ hu2
    have hp5:Paired (vI K (upd (upd H3 D (.lst ys)) ta (.tup ys))) us m2:=Paired.mapP hp2 λ_ _ h=>h.same (s3.trans (t3.trans t4))
    generalize upd (upd H3 D (.lst ys)) ta (.tup ys)=H5 at s5 hks5 hta5 hfl5 hp5
    refine⟨_,rfl,a,ns,2,rfl,cl s5,h63,by decide,by decide,λc2 hc2=>⟨_,rfl,_,rfl,_,_,rfl,rfl,c2,sh+(i:Int),rfl,λH6 s6=>?_⟩⟩
    have s16:=s5.trans s6
    refine⟨_,rfl,.inl ⟨rfl,_,SqL.of (s6 _ _ hfl5)⟩,_,rfl,_,rfl,_,rfl,_,rfl,_,_,rfl,rfl,a,ns,at_+5,rfl,cl s16,h63,by omega,by omega,λc3 hc3=>?_⟩
    have so6:=hSo.same s16
    refine⟨_,rfl,_,_,rfl,rfl,_,_,rfl,rfl,⟨by omega,by omega⟩,_,rfl,_,so,sxs,sks,S,rfl,so6.obj,so6.at_,so6.len,so6.all,so6.nums,λH7 v k s7 hv hm=>?_⟩
    refine⟨(sz 2),λp1 hp1=>?_⟩
    have u1:=ac hp1 (.tup [.ref ta,v])
    refine⟨(sz 2),λp3 hp3=>?_⟩
    have u2:=ac hp3 (.tup [.str (bg c2 (sh+(i:Int))),.ref p1])
    have sE:=s6.trans (s7.trans (u1.trans u2))
    have hl10:=sE _ _ hfl5
    refine⟨fl,us,.ref p3,rfl,rfl,hl10,Nat.lt_of_lt_of_le (Nat.lt_succ_self _) (bJ (by omega)),?_⟩
    have kt:∀{a':Addr} {zz:List V},SqT K (upd (upd H7 p1 (.tup [.ref ta,v])) p3 (.tup [.str (bg c2 (sh+(i:Int))),.ref p1])) a' zz->SqT K (upd (upd (upd H7 p1 (.tup [.ref ta,v])) p3 (.tup [.str (bg c2 (sh+(i:Int))),.ref p1])) fl (.lst (us++[.ref p3]))) a' zz:=λh=>na hl10 h
    have ht:∀{a':Addr} {zz:List V},(upd (upd H7 p1 (.tup [.ref ta,v])) p3 (.tup [.str (bg c2 (sh+(i:Int))),.ref p1])) a'=some (.tup zz)->(upd (upd (upd H7 p1 (.tup [.ref ta,v])) p3 (.tup [.str (bg c2 (sh+(i:Int))),.ref p1])) fl (.lst (us++[.ref p3]))) a'=some (.tup zz):=λ{a' zz} h=>by
      rw [ah (λe=>by rw [e,hl10] at h;cases h)]
      exact h
    refine⟨_,_,_,_,us++[.ref p3],m2++[(bg c2 (sh+(i:Int)),(ks,k))],rfl,kE (s5.trans sE) hfl,aa,?_,?_,λq hq=>?_⟩
    · refine d3 (Paired.mapP hp5 λ_ _ h=>?_) (.cons ⟨p3,.ref p1,rfl,ht aa,p1,ta,v,ys,rfl,kt (SqT.of (u2 _ _ aa)),kt (SqT.of (sE _ _ hta5)),gc (λ_ _=>kt) (hks5.same sE),aC (λ_ _=>kt) (hv.same (u1.trans u2))⟩ .nil)
      obtain⟨pp,py,e1,e2,e3⟩:=h.same sE
      exact⟨pp,py,e1,ht e2,e3.keep λ_ _=>kt⟩
    · rw [ma0,hk2,ig,hc2]
      rfl
    · rcases List.mem_append.mp hq with h|h
      · exact hm2 q h
      · rw [List.mem_singleton.mp h]
        refine⟨kl5,λk' hk'=>?_⟩
        rcases mc0 hk' with rfl|hk'
        · exact hm
        · exact hall k' hk'
  · rintro σ H2 ⟨y5,y12,y13,y14,us,m2,rfl,s2,hu2,hp2,hk2,hm2⟩
    obtain⟨kxs,hkl,hkp⟩:=hK.same s2
    have hkn:kxs.length=M.length:=Paired.length hkp
    refine⟨_,rfl,_,rfl,_,rfl,kl,_,rfl,SqL.of hkl,λpa hpa=>?_⟩
    rw [wU (by omega)] at *
    have t1:=ac hpa (.lst (kxs.drop tu))
    refine⟨_,rfl,_,rfl,_,rfl,kl,_,rfl,SqL.of (t1 _ _ hkl),λpb hpb=>?_⟩
    rw [Av (by omega)] at *
    have t2:=ac hpb (.lst (kxs.take tu))
    refine⟨pa,pb,_,_,rfl,rfl,t2 _ _ aa,aa,bJ (by rw [List.length_drop,List.length_take];omega),λpc hpc=>?_⟩
    have t3:=ac hpc (.lst (kxs.drop tu++kxs.take tu))
    refine⟨_,rfl,(sz 2),λpd hpd=>?_⟩
    have t4:=ac hpd (.tup [.ref pc,.ref fl])
    have sT:=t1.trans (t2.trans (t3.trans t4))
    refine q _ pd m2 (s2.trans sT) ⟨pc,fl,aa,⟨_,t4 _ _ aa,d3 (xm tu (Paired.mapP hkp λ_ _ h=>h.same sT)) (xF tu (Paired.mapP hkp λ_ _ h=>h.same sT))⟩,⟨us,sT _ _ hu2,Paired.mapP hp2 λ_ _ h=>h.same sT⟩⟩ ?_
    have e2:=congrArg List.length hk2
    rw [lm0,eJ] at e2
    refine⟨⟨_,by omega,hk2⟩,by rw [hk2];exact eU _ _ (by omega),by omega,λq hq=>⟨?_,hm2 q hq⟩⟩
    have:q.1∈m2.map (·.1):=List.mem_map.mpr ⟨q,hq,rfl⟩
    rw [hk2] at this
    obtain⟨j,_,e⟩:=fZ.mp this
    rw [e]
    exact oq _ _
theorem kC.imp(h:kC S k)(f:∀l,S l->T l):kC T k:=⟨λl hl=>f l (h.1 l hl),h.2⟩
theorem jS(h:eu a=eu b):a=b:=by
 unfold eu at h
 injection h
theorem cO:z∈ba m↔(z,eu z)∈m:=by
 unfold ba
 constructor
 ·intro h
  obtain⟨⟨a,k⟩,hq,e⟩:=List.mem_map.mp h
  obtain⟨h1,h2⟩:=List.mem_filter.mp hq
  replace e:a=z:=e
  have h3:k=eu a:=od0 h2
  rw [h3,e] at h1
  exact h1
 ·intro h
  exact List.mem_map.mpr ⟨(z,eu z),List.mem_filter.mpr ⟨h,dt0 rfl⟩,rfl⟩
structure cD(c c2 sh:Int)(ks:List Kd)(m1:List (Str × Kd))(m2:List (Str × (List Kd × Kd))):Prop where
 nd1:(m1.map (·.1)).Nodup
 w1:∀q∈m1,∃j:Nat,j < 5/\q.1=bg c (sh+(j:Int))
 l1:m1.length<=5
 k1:∀q∈m1,q.2=eu q.1\/kC (LfS (ba m1) ks) q.2
 h3:(ba m1).length<=3
 fu:uD c2 sh (LfS (ba m1) ks) m2
theorem wD(h:kC S (eu z)):S (eu z):=h.1 _ (List.mem_singleton.mpr rfl)
theorem yt(tu:Nat)(h3:nh<=3)(h2:nt<=2)(hts:ts.map (·.1)=wds c (sh+3) nt)(htk:∀q∈ts,kC (LfS (wds c sh nh) ks) q.2)(hks:∀z,eu z∉ks)
  (hf:uD c2 sh (LfS (wds c sh nh) ks) m2):cD c c2 sh ks ((((wds c sh nh).map λh=>(h,eu h))++ts).drop tu++(((wds c sh nh).map λh=>(h,eu h))++ts).take tu) m2:=by
 generalize hM:((wds c sh nh).map λh=>(h,eu h))++ts=M
 have hp:(M.drop tu++M.take tu).Perm M:=by
  have h:=List.perm_append_comm (l₁:=M.drop tu) (l₂:=M.take tu)
  rw [List.take_append_drop] at h
  exact h
 have hMk:M.map (·.1)=wds c sh nh++wds c (sh+3) nt:=by
  rw [<-hM,ma0,hts,List.map_map]
  congr 1
  exact List.map_id _
 have hMm:∀q,q∈M↔(∃h∈wds c sh nh,q=(h,eu h))\/q∈ts:=λq=>by
  rw [<-hM,List.mem_append]
  refine or_congr ⟨λh=>?_,λh=>?_⟩ Iff.rfl
  ·obtain⟨z,hz,e⟩:=List.mem_map.mp h
   exact⟨z,hz,e.symm⟩
  ·obtain⟨z,hz,e⟩:=h
   exact List.mem_map.mpr ⟨z,hz,e.symm⟩
 have hid:∀z,z∈ba (M.drop tu++M.take tu)↔z∈wds c sh nh:=λz=>by
  rw [cO,hp.mem_iff,hMm]
  constructor
  ·rintro(⟨h,hh,e⟩|h)
   ·cases e
    exact hh
   ·rcases wD (htk _ h) with h1|⟨n,e,_⟩|⟨h',hh,e⟩
    ·exact absurd h1 (hks z)
    ·cases e
    ·rw [jS e]
     exact hh
  ·exact λh=>.inl ⟨z,h,rfl⟩
 have imp:∀l,LfS (wds c sh nh) ks l->LfS (ba (M.drop tu++M.take tu)) ks l:=λl h=>by
  rcases h with h|h|⟨h,hh,e⟩
  ·exact .inl h
  ·exact .inr (.inl h)
  ·exact .inr (.inr ⟨h,(hid h).mpr hh,e⟩)
 refine⟨?_,λq hq=>?_,?_,λq hq=>?_,?_,hf.1,hf.2.1,hf.2.2.1,λq hq=>⟨(hf.2.2.2 q hq).1,(hf.2.2.2 q hq).2.1,λk hk=>((hf.2.2.2 q hq).2.2 k hk).imp imp⟩⟩
 ·rw [(hp.map _).nodup_iff,hMk]
  refine List.nodup_append.mpr ⟨eU _ _ (by omega),eU _ _ (by omega),oe λi j hi hj=>?_⟩
  omega
 ·have hm:q.1∈M.map (·.1):=List.mem_map.mpr ⟨q,hp.mem_iff.mp hq,rfl⟩
  rw [hMk] at hm
  rcases List.mem_append.mp hm with h|h
  ·obtain⟨j,hj,e⟩:=fZ.mp h
   exact⟨j,by omega,e⟩
  ·obtain⟨j,hj,e⟩:=fZ.mp h
   refine⟨3+j,by omega,?_⟩
   rw [e]
   congr 1
   omega
 ·have e:=congrArg List.length hMk
  rw [hp.length_eq,<-List.length_map (f:=λq:Str × Kd=>q.1),e,la0,eJ,eJ]
  omega
 ·rcases (hMm q).mp (hp.mem_iff.mp hq) with ⟨h,_,rfl⟩|h
  ·exact .inl rfl
  ·exact .inr ((htk q h).imp imp)
 ·refine Nat.le_of_not_lt λhlt=>?_
  obtain⟨z,hz,hn⟩:=xo (wds c sh nh) (ba (M.drop tu++M.take tu)) (bt (by rw [(hp.map _).nodup_iff,hMk];exact List.nodup_append.mpr ⟨eU _ _ (by omega),eU _ _ (by omega),oe λi j hi hj=>(by omega)⟩)) (by rw [eJ];omega)
  exact hn ((hid z).mp hz)
def xn(K:W.Frag):Sp:=λvs H Q _=>∃(a:Addr) (ns:List Int) (at_ sh:Int) (l:Addr) (xs:List V) (ks:List Kd),vs=[.ref a,.int at_,.int sh,.ref l]/\SqL K H a (ns.map V.int)/\ns.length<=63/\0<=at_/\at_<=100/\H l=some (.lst xs)/\bU K H xs ks/\ks.length<=10/\(∀k∈ks,k.leaf=true)/\(∀z,eu z∉ks) /\
 ∀H' x m1 m2,ao H H'->iM K H' x m1 m2->cD (aB ns 1) (aB ns 2) sh ks m1 m2->Q (.ref x) H'
theorem zd (F:Fun K "_law_face" "_law_face" lZ f fd)
  (GC:Ca P w K mg base 1 "_law_cell" fc fdc ["_law_script","_law_k"] (ge K))
  (GW:Ca P w K mg base 1 "_law_word" fw fdw wlP jV)
  (GM:Ca P w K mg base 1 "_law_mix" fm fdm mxP (wK K))
  (mt:mg "tuple"=none) (mr:mg "range"=none) (ml:mg "len"=none):cE P w K mg base CX0 2 f fd fcP (xn K):=by
 refine F.k0 fO λcdv A outer s H vs Q E hr h=>?_
 obtain⟨a,ns,at_,sh,l,xs,ks,rfl,hA,h63,at0,at1,hl,hxs,h10,hlf,hno,q⟩:=h
 obtain⟨u6,d6,k6⟩:=fc6 (outer:=outer) (H:=H) (E:=E) GC GW GM mt mr hr
 refine⟨_,pss_cons (aU (i:=4) fO.nd (cal GC hr (pv 0 >> pv 1 >> ad)))
  (pss_cons (jY (i0:=6) (own:=["_law_k"]) (caps:=["_law_script","_law_shift"]) (κ:=[0,2]) fO.nd rfl (Or.inl rfl) rfl ⟨rfl,by decide +kernel,by decide +kernel,rfl,rfl,gN rfl rfl,gN ⟨.inl rfl,rfl,.inl rfl⟩ ⟨.inl rfl,rfl,.inl rfl⟩⟩ rfl
   (cj rfl mr (aH ck (pv 4) ag >> ad)) (λ_ _ _ _=>pg0 ["_law_k","_law_script","_law_shift"])
   (λ_ _ _ _=>cal GW hr (cal GC hr (pv 1 >> ag >> ad) >> aH bv (pv 2) (pv 0) >> ad)))
  (pss_cons (lE (i:=8) fO.nd rfl (Or.inr rfl) (aH iG (wx (own:=["_law_word_here"]) (cQ (pv 6)) (λ_ _ _ _=>pg0 ["_law_word_here"])
   (λ_ _ _ _=>az (aJ >> aJ >> pv 0 >> ad))) (pv 3)))
  (pss_cons (jY (i0:=9) (own:=["_law_word_here"]) (caps:=[]) (κ:=[]) (cl:=[]) fO.nd rfl (Or.inl rfl) rfl ⟨rfl,by decide +kernel,by decide +kernel,rfl,rfl,(λy hy=>nomatch hy),(λy hy=>nomatch hy)⟩ rfl (cQ (pv 6)) (λ_ _ _ _=>pg0 ["_law_word_here"])
   (λ_ _ _ _=>az (pv 0 >> az (aJ >> aJ >> pv 0 >> ad) >> ad)))
  (pss_cons (bY PassesOwn.never rfl (cj rfl mr (aH ck (aH cT (pv 4) ag) ag >> ad)) (ar (i:=5) fO.nd rfl (Or.inl rfl))
   (pss_cons (aU (i:=7) fO.nd (cal GW hr (cal GC hr (pv 0 >> ag >> ad) >> aH bv (aH bv (pv 2) ag) (pv 5) >> ad)))
   (ai (bh (gX PySem.F.plainAttrs_list PySem.F.slot_list_append PySem.F.type_list_append bO (pv 9) (az (pv 7 >> cal GM hr (aH cT (cal GC hr (pv 0 >> aH bv (pv 1) ag >> ad)) (aH bv (pv 5) ag) >> pv 8 >> ad) >> ad) >> ad))))))
  (pss_cons (aU (i:=10) fO.nd (aH ck (aH cT (pv 4) ag) (aH bv ag (aT aK rfl ml boot_len (pv 9 >> ad))))) d6))))),?_⟩
 refine⟨_,rfl,_,rfl,a,ns,at_,rfl,hA,h63,at0,by omega,λhd _=>?_⟩
 have cl:∀{H':Hp},ao H H'->SqL K H' a (ns.map V.int):=λe=>eE e hA
 have r0:=Int.emod_nonneg hd (show(4:Int)≠0 by decide)
 have r1:=Int.emod_lt_of_pos hd (show(0:Int) < 4 by decide)
 refine⟨_,rfl,_,_,rfl,rfl,(by show(0:Int) < 4;decide),_,rfl,by omega,by omega,?_⟩
 refine nZ (m:=(hd%4).toNat) (by omega) (λi ys H2=>ys=(wds (aB ns 1) sh i).map V.str) rfl (λi ys _ h=>by rw [h,lm0,eJ];exact Nat.le_refl _) ?_ ?_
 ·rintro i ys H2 N hN hi s2 rfl
  refine⟨rfl,di ⟨_,rfl,a,ns,1,rfl,cl s2,h63,by decide,by decide,λc hc=>⟨_,rfl,_,rfl,_,_,rfl,rfl,c,sh+(i:Int),rfl,λH3 s3=>hN _ _ (s2.trans s3) ?_⟩⟩⟩
  rw [ig,ma0,hc]
  rfl
 rintro ys H2 hl1 s2 rfl hn1
 have t2:=ac hn1 (.lst ((wds (aB ns 1) sh (hd%4).toNat).map V.str))
 have s3:=s2.trans t2
 have hh1:upd H2 hl1 (.lst ((wds (aB ns 1) sh (hd%4).toNat).map V.str)) hl1=some (.lst ((wds (aB ns 1) sh (hd%4).toNat).map V.str)):=aa
 have hnh:(hd%4).toNat<=3:=by omega
 generalize (hd%4).toNat=nh at hh1 hnh s3 ⊢
 generalize upd H2 hl1 (.lst ((wds (aB ns 1) sh nh).map V.str))=H3 at hh1 s3 ⊢
 have hwl:=eJ (aB ns 1) sh nh
 refine⟨_,rfl,hl1,rfl,⟨_,SqL.of hh1⟩,?_⟩
 refine jt (SqL.of hh1) (by rw [lm0,hwl];omega) (λi ys H4=>ys.length=i/\bU K H4 ys (((wds (aB ns 1) sh nh).take i).map eu)) ⟨rfl,.nil⟩ (λ_ _ _ h=>Nat.le_of_eq h.1) ?_ ?_
 ·rintro i x ys H4 N hN hx s4 ⟨hy,hys⟩
  rw [List.getElem?_map] at hx
  obtain⟨z,hz,rfl⟩:=Option.map_eq_some_iff.mp hx
  refine⟨rfl,di ⟨_,rfl,(sz 3),λp hp=>?_⟩⟩
  have t5:=ac hp (.tup [.str "name",.str "",.str z])
  refine hN _ _ (s4.trans t5) ⟨by rw [la0,hy];rfl,?_⟩
  rw [List.take_add_one,hz,ma0]
  exact(hys.same t5).append (.cons (.name (SqT.of aa)) .nil)
 rintro ys H4 pD s4 ⟨_,hys⟩ hD
 rw [lm0,List.take_length] at hys
 have t5:=ac hD (.lst ys)
 have hln:=hxs.length
 refine⟨_,rfl,pD,l,_,_,rfl,rfl,aa,(s3.trans (s4.trans t5)) _ _ hl,bJ (by have:=hys.length;rw [lm0,hwl] at this;omega),λso hso=>?_⟩
 have t6:=ac hso (.lst (ys++xs))
 have s6:=s3.trans (s4.trans (t5.trans t6))
 have hSo:oQ K (upd (upd H4 pD (.lst ys)) so (.lst (ys++xs))) (LfS (wds (aB ns 1) sh nh) ks) so (ys++xs) ((wds (aB ns 1) sh nh).map eu++ks):=by
  refine⟨aa,(hys.same (t5.trans t6)).append (hxs.same s6),by rw [la0,lm0,hwl];omega,λk hk=>?_,λn h0 h1=>.inr (.inl ⟨n,rfl,h0,h1⟩)⟩
  rcases List.mem_append.mp hk with h|h
  ·obtain⟨z,hz,rfl⟩:=List.mem_map.mp h
   exact⟨rfl,.inr (.inr ⟨z,hz,rfl⟩)⟩
  ·exact⟨hlf k h,.inl h⟩
 have hh6:=(s4.trans (t5.trans t6)) _ _ hh1
 generalize upd (upd H4 pD (.lst ys)) so (.lst (ys++xs))=H6 at s6 hSo hh6 ⊢
 refine⟨_,rfl,hl1,rfl,⟨_,SqL.of hh6⟩,?_⟩
 refine jt (SqL.of hh6) (by rw [lm0,hwl];omega) (λi ys H4=>ys.length=i/\Paired (hZ K H4) ys (((wds (aB ns 1) sh nh).take i).map λh=>(h,eu h))) ⟨rfl,.nil⟩ (λ_ _ _ h=>Nat.le_of_eq h.1) ?_ ?_
 ·rintro i x ys H4 N hN hx s4 ⟨hy,hys⟩
  rw [List.getElem?_map] at hx
  obtain⟨z,hz,rfl⟩:=Option.map_eq_some_iff.mp hx
  refine⟨rfl,di ⟨_,rfl,_,rfl,(sz 3),λp hp=>⟨(sz 2),λp2 hp2=>?_⟩⟩⟩
  have t5:=ac hp (.tup [.str "name",.str "",.str z])
  have t6:=ac hp2 (.tup [.str z,.ref p])
  refine hN _ _ (s4.trans (t5.trans t6)) ⟨by rw [la0,hy];rfl,?_⟩
  rw [List.take_add_one,hz,ma0]
  exact d3 (Paired.mapP hys λ_ _ h=>h.same (t5.trans t6)) (.cons ⟨p2,.ref p,rfl,aa,.name (SqT.of (t6 _ _ aa))⟩ .nil)
 rintro kys H7 kl s7 ⟨_,hkys⟩ hkl
 rw [lm0,List.take_length] at hkys
 have t8:=ac hkl (.lst kys)
 have s67:=s6.trans s7
 have hkl0:H7 kl=none:=hkl
 have q0:=Int.emod_nonneg (hd / 4) (show(3:Int)≠0 by decide)
 have q1:=Int.emod_lt_of_pos (hd / 4) (show(0:Int) < 3 by decide)
 refine⟨_,rfl,_,_,rfl,rfl,⟨by decide,by decide⟩,_,_,rfl,rfl,(by show(0:Int) < 3;decide),_,rfl,by omega,by omega,?_⟩
 refine eN (λi σ H8=>∃(y5 y7:Option V) (us:List V) (ts:List (Str × Kd)),σ=[some (.ref a),some (.int at_),some (.int sh),some (.ref l),some (.int hd),y5,some (.ref hl1),y7,some (.ref so),some (.ref kl),none,none,none,none,none]/\ao H7 H8/\H8 kl=some (.lst us)/\Paired (hZ K H8) us (((wds (aB ns 1) sh nh).map λh=>(h,eu h))++ts)/\ts.map (·.1)=wds (aB ns 1) (sh+3) i/\∀q∈ts,kC (LfS (wds (aB ns 1) sh nh) ks) q.2)
  ⟨none,none,kys,[],rfl,t8,aa,by rw [List.append_nil];exact Paired.mapP hkys λ_ _ h=>h.same t8,rfl,λq hq=>nomatch hq⟩ ?_ ?_
 ·rintro i σ H8 hi ⟨y5,y7,us,ts,rfl,s8,hk8,hp8,hts,htk⟩
  rw [Int.zero_add]
  have s18:=s67.trans s8
  have htl:ts.length=i:=by
   have:=congrArg List.length hts
   rw [lm0,eJ] at this
   exact this
  have hul:=Paired.length hp8
  rw [la0,lm0,hwl,htl] at hul
  refine⟨_,rfl,a,ns,1,rfl,cl s18,h63,by decide,by decide,λc hc=>⟨_,rfl,_,_,rfl,rfl,_,rfl,_,_,rfl,rfl,c,sh+3+(i:Int),rfl,λH9 s9=>?_⟩⟩
  have s19:=s18.trans s9
  refine⟨_,rfl,.inl ⟨rfl,_,SqL.of (s9 _ _ hk8)⟩,_,rfl,_,rfl,_,rfl,_,_,rfl,rfl,a,ns,at_+3,rfl,cl s19,h63,by omega,by omega,λc3 hc3=>?_⟩
  have so9:=hSo.same (s7.trans (s8.trans s9))
  refine⟨_,rfl,_,_,rfl,rfl,_,_,rfl,rfl,⟨by omega,by omega⟩,_,rfl,_,so,_,_,_,rfl,so9.obj,so9.at_,so9.len,so9.all,so9.nums,λHa v k sa hv hm=>?_⟩
  refine⟨(sz 2),λp1 hp1=>?_⟩
  have u1:=ac hp1 (.tup [.str (bg c (sh+3+(i:Int))),v])
  have sE:=s9.trans (sa.trans u1)
  have hl10:=sE _ _ hk8
  refine⟨kl,us,.ref p1,rfl,rfl,hl10,Nat.lt_of_lt_of_le (Nat.lt_succ_self _) (bJ (by omega)),?_⟩
  have kt:∀{a':Addr} {zz:List V},SqT K (upd Ha p1 (.tup [.str (bg c (sh+3+(i:Int))),v])) a' zz->SqT K (upd (upd Ha p1 (.tup [.str (bg c (sh+3+(i:Int))),v])) kl (.lst (us++[.ref p1]))) a' zz:=λh=>na hl10 h
  have ht:∀{a':Addr} {zz:List V},(upd Ha p1 (.tup [.str (bg c (sh+3+(i:Int))),v])) a'=some (.tup zz)->(upd (upd Ha p1 (.tup [.str (bg c (sh+3+(i:Int))),v])) kl (.lst (us++[.ref p1]))) a'=some (.tup zz):=λ{a' zz} h=>by
   rw [ah (λe=>by rw [e,hl10] at h;cases h)]
   exact h
  refine⟨_,_,us++[.ref p1],ts++[(bg c (sh+3+(i:Int)),k)],rfl,kE (s8.trans sE) hkl0,aa,?_,?_,λq hq=>?_⟩
  ·rw [<-List.append_assoc]
   refine d3 (Paired.mapP hp8 λ_ _ h=>?_) (.cons ⟨p1,v,rfl,ht aa,aC (λ_ _=>kt) (hv.same u1)⟩ .nil)
   obtain⟨pp,py,e1,e2,e3⟩:=h.same sE
   exact⟨pp,py,e1,ht e2,aC (λ_ _=>kt) e3⟩
  ·rw [ma0,hts,ig,hc]
   rfl
  ·rcases List.mem_append.mp hq with h|h
   ·exact htk q h
   ·rw [List.mem_singleton.mp h]
    exact hm
 ·rintro σ H8 ⟨y5,y7,us,ts,rfl,s8,hk8,hp8,hts,htk⟩
  have hul:=Paired.length hp8
  have htl:=congrArg List.length hts
  rw [lm0,eJ] at htl
  rw [la0,lm0,hwl] at hul
  have p0:(0:Int) < 1+((us.length:Nat):Int):=by omega
  have e0:=Int.emod_nonneg (hd / 12) (show 1+((us.length:Nat):Int)≠0 by omega)
  have e1:=Int.emod_lt_of_pos (hd / 12) p0
  refine⟨_,rfl,_,_,rfl,rfl,⟨by decide,by decide⟩,_,rfl,kl,_,rfl,.inl (SqL.of hk8),_,_,rfl,rfl,_,_,rfl,rfl,p0,?_⟩
  have s18:=s67.trans s8
  have key:=k6 Q H8 a so kl ns at_ sh hd (hd / 12%(1+((us.length:Nat):Int))).toNat (LfS (wds (aB ns 1) sh nh) ks) _ _ (((wds (aB ns 1) sh nh).map λh=>(h,eu h))++ts) (some (.ref l)) y5 (some (.ref hl1)) y7 none none none none (cl s18) h63 at0 at1 (hSo.same (s7.trans s8)) ⟨us,hk8,hp8⟩ (by rw [la0,lm0,hwl];omega) (by rw [la0,lm0,hwl];omega)
   λH' x m2 s' hL hF=>q H' x _ m2 (s18.trans s') hL (yt _ hnh (by omega) hts htk hno hF)
  rw [Int.toNat_of_nonneg e0] at key
  exact key
theorem pI{α:Type}{R:V->α->Prop}:∀{ps:List (Key × V)} {rest:List (Str × α)} {acc:List (Key × V)} {m:List (Str × α)},dR R acc m->dR R ps rest->((m++rest).map (·.1)).Nodup->dR R (cH acc ps) (m++rest)
 |[],_,acc,m,ha,.nil,_=>by
  rw [List.append_nil]
  exact ha
 |p::ps,_,acc,m,ha,.cons (b:=q) (l₂:=rest) ⟨e,hv⟩ hb,hn=>by
  have hz:q.1∉m.map (·.1):=λhm=>by
   rw [ma0,List.map_cons] at hn
   exact(List.nodup_append.mp hn).2.2 _ hm _ (List.mem_cons_self ..) rfl
  have h1:dR R (cI acc p.1 p.2) (m++[q]):=by
   rw [e]
   exact dR.put ha hz hv
  have h2:=pI (ps:=ps) (rest:=rest) h1 hb (by rw [List.append_assoc];exact hn)
  rw [List.append_assoc] at h2
  exact h2
theorem ja{α:Type}{R:V->α->Prop}{H:Hp}:∀{xs:List V} {m:List (Str × α)},Paired (λv (q:Str × α)=>∃(p:Addr) (y:V),v=.ref p/\H p=some (.tup [.str q.1,y])/\R y q.2) xs m ->
  ∃(as:List Addr) (ps:List (Key × V)),xs=as.map V.ref/\Paired (fun(p:Key × V) (a:Addr)=>H a=some (.tup [kV p.1,p.2])) ps as/\dR R ps m
 |_,_,.nil=>⟨[],[],rfl,.nil,.nil⟩
 |_,_,.cons (b:=q) ⟨p,y,e,hp,hy⟩ b=>by
  obtain⟨as,ps,rfl,h1,h2⟩:=ja b
  exact⟨p::as,(.inr q.1,y)::ps,by rw [e];rfl,.cons hp h1,.cons ⟨rfl,hy⟩ h2⟩
theorem me{K:W.Frag}{H:Hp}{l:Addr}{m:List (Str × Kd)}(h:oX K H l m)(hn:(m.map (·.1)).Nodup):∃(as:List Addr) (ps:List (Key × V)),H l=some (.lst (as.map V.ref))/\Paired (fun(p:Key × V) (a:Addr)=>H a=some (.tup [kV p.1,p.2])) ps as/\ps.length=m.length/\dR (bK K H) (cH [] ps) m:=by
 obtain⟨xs,h1,h2⟩:=h
 obtain⟨as,ps,rfl,h3,h4⟩:=ja h2
 exact⟨as,ps,h1,h3,Paired.length h4,pI (acc:=[]) (m:=[]) .nil h4 hn⟩
theorem pY{K:W.Frag}{H:Hp}{l:Addr}{m:List (Str × (List Kd × Kd))}(h:vJ K H l m)(hn:(m.map (·.1)).Nodup):∃(as:List Addr) (ps:List (Key × V)),H l=some (.lst (as.map V.ref))/\Paired (fun(p:Key × V) (a:Addr)=>H a=some (.tup [kV p.1,p.2])) ps as/\ps.length=m.length/\dR (cY K H) (cH [] ps) m:=by
 obtain⟨xs,h1,h2⟩:=h
 obtain⟨as,ps,rfl,h3,h4⟩:=ja h2
 exact⟨as,ps,h1,h3,Paired.length h4,pI (acc:=[]) (m:=[]) .nil h4 hn⟩
theorem iw{α:Type}:∀{m:List (Str × α)} {z:Str} {a b:α},(m.map (·.1)).Nodup->(z,a)∈m->(z,b)∈m->a=b
 |p::m,z,a,b,nd,ha,hb=>by
  rw [List.map_cons] at nd
  obtain⟨h1,h2⟩:=List.nodup_cons.mp nd
  rcases mc0 ha with ea|ha
  ·rcases mc0 hb with eb|hb
   ·have:=ea.trans eb.symm
    injection this
   ·exact absurd (List.mem_map.mpr ⟨_,hb,by rw [<-ea]⟩) h1
  ·rcases mc0 hb with eb|hb
   ·exact absurd (List.mem_map.mpr ⟨_,ha,by rw [<-eb]⟩) h1
   ·exact iw h2 ha hb
theorem bu{α:Type}{m:List (Str × α)}(nd:(m.map (·.1)).Nodup){z:Str}{x:α}(h:(z,x)∈m):look m z=some x:=by
 unfold look
 cases e:m.find? λq=>decide (q.1=z) with
 |none =>
  rw [List.find?_eq_none] at e
  exact absurd (dt0 rfl) (e _ h)
 |some q =>
  have h1:=List.mem_of_find?_eq_some e
  have h2:q.1=z:=by
   have h3:=List.find?_some e
   exact od0 h3
  obtain⟨a,b⟩:=q
  replace h2:a=z:=h2
  subst h2
  rw [iw nd h h1]
  rfl
theorem eK{α:Type}{m:List (Str × α)}{z:Str}{x:α}(h:look m z=some x):(z,x)∈m:=by
 unfold look at h
 obtain⟨q,hq,e⟩:=Option.map_eq_some_iff.mp h
 have h1:=List.mem_of_find?_eq_some hq
 have h2:q.1=z:=by
  have h3:=List.find?_some hq
  exact od0 h3
 obtain⟨a,b⟩:=q
 replace h2:a=z:=h2
 replace e:b=x:=e
 rw [<-h2,<-e]
 exact h1
theorem wF{α:Type}(xs ys:List (Str × α))(z:Str):look (xs++ys) z=(look xs z).or (look ys z):=by
 unfold look
 rw [List.find?_append]
 cases (xs.find? λq=>decide (q.1=z))<;>rfl
theorem eR{α:Type}{m:List (Str × α)}{z:Str}(h:z∉m.map (·.1)):look m z=none:=by
 cases e:look m z with
 |none=>rfl
 |some x=>exact absurd (List.mem_map.mpr ⟨_,eK e,rfl⟩) h
def GOf(m1:List (Str × Kd))(G:Str × Str->Option Kd):Prop:=∀n,G n≠none↔(n.1=""/\n.2∈ba m1)
theorem Bp(hG:GOf m1 G)(h:∀z∈ba m1,look b1 z=some (Kd.put G (eu z))):Gf b1 m1=G:=by
 funext n
 obtain⟨a,z⟩:=n
 show(if a=""/\z∈ba m1 then look b1 z else none)=G (a,z)
 by_cases c:a=""/\z∈ba m1
 ·rw [if_pos c,h z c.2]
  have h1:=(hG (a,z)).mpr c
  obtain⟨rfl,_⟩:=c
  show some ((G ("",z)).getD (eu z))=G ("",z)
  cases e:G ("",z) with
  |none=>exact absurd e h1
  |some g=>rfl
 ·rw [if_neg c]
  cases e:G (a,z) with
  |none=>rfl
  |some g=>exact absurd ((hG (a,z)).mp (by rw [e];exact λh=>nomatch h)) c
theorem wb(h:∀q∈m1,look b1 q.1≠none):no1 b1 m1=none:=by
 unfold no1
 rw [Option.map_eq_none_iff,List.find?_eq_none]
 intro q hq e
 exact h q hq (Option.isNone_iff_eq_none.mp e)
theorem vM(h:∀q∈m1,look b1 q.1=some (Kd.put G q.2)):no3 G b1 m1=none:=by
 unfold no3
 rw [Option.map_eq_none_iff,List.find?_eq_none]
 intro q hq e
 exact od0 e (h q hq)
theorem wY(h:∀q∈m2,look b2 q.1=some (de G q.2)):no4 G b2 m2=none:=by
 unfold no4
 rw [Option.map_eq_none_iff,List.find?_eq_none]
 intro q hq e
 exact od0 e (h q hq)
def AV{α:Type}(D:α->PyData)(q:Str × α):PyData:=.tuple [.str q.1,D q.2]
theorem pM{α:Type}{K:W.Frag}{H:Hp}{R:V->α->Prop}{D:α->PyData}(hD:∀v x,R v x->Dat K H v (D x)):∀{kvs:List (Key × V)} {m:List (Str × α)} {as:List Addr},dR R kvs m->Paired (fun(p:Key × V) (k:Addr)=>H k=some (.tup [kV p.1,p.2])) kvs as->kB K H (as.map V.ref) (m.map (AV D))
 |_,_,_,.nil,.nil=>.nil
 |_,_,_,.cons ⟨e,hr⟩ b,.cons hk c=>by
  rw [e] at hk
  exact .cons (.tup (SqT.of hk) (.cons (.str _) (.cons (hD _ _ hr) .nil))) (pM hD b c)
theorem j8{α:Type}{K:W.Frag}{H:Hp}{R:V->α->Prop}{D:α->PyData}(hD:∀v x,R v x->Dat K H v (D x)):∀{xs:List V} {m:List (Str × α)},Paired (λv (q:Str × α)=>∃(p:Addr) (y:V),v=.ref p/\H p=some (.tup [.str q.1,y])/\R y q.2) xs m->kB K H xs (m.map (AV D))
 := by
 intro xs m h
 induction h with
 |nil=>exact .nil
 |cons a _ i=>
  obtain⟨p,y,e,hp,hr⟩:=a
  rw [e]
  exact .cons (.tup (SqT.of hp) (.cons (.str _) (.cons (hD _ _ hr) .nil))) i
theorem rJ{α:Type}{D:α->PyData}{m:List (Str × α)}{n:Nat}(hl:m.length<=100)(h:∀q∈m,AlD (n+1) (D q.2)):AlD (n+3) (.tuple (m.map (AV D))):=by
 refine⟨by rw [lm0];exact hl,λd hd=>?_⟩
 obtain⟨q,hq,rfl⟩:=List.mem_map.mp hd
 refine⟨by show 2<=100;decide,λd hd=>?_⟩
 rcases mc0 hd with rfl|hd
 ·trivial
 ·rw [List.mem_singleton.mp hd]
  exact h q hq
abbrev smP:List Str:=["_law_face_here","_law_kinds","_law_funs"]
def AlM(m1:List (Str × Kd))(m2:List (Str × (List Kd × Kd))):Prop:=m1.length<=100/\m2.length<=100/\(∀q∈m1,AlD 40 (Kd.dat q.2))/\∀q∈m2,AlD 40 (Fn.dat q.2)
def om(K:W.Frag)(CF:Addr):Sp:=λvs H Q _=>∃(fa l1 l2:Addr) (m1:List (Str × Kd)) (m2:List (Str × (List Kd × Kd))),vs=[.ref fa,.ref l1,.ref l2]/\dQ K H CF fa m1 m2/\oX K H l1 m1/\vJ K H l2 m2/\AlM m1 m2/\∀H',ao H H'->Q (.bl true) H'
theorem eh:bootBuiltins "isinstance"=some (.builtin "isinstance"):=by decide +kernel
theorem xK(K:W.Frag):W.kitOne K (.type "dict") (.type "dict")=some true:=rfl
theorem Ag:aG smP smP (ae sJ):=mkS
theorem yp{f fl CF:Addr}{fd fdl:FuncData} (F:Fun K "_law_same" "_law_same" sJ f fd)
  (GL:Ca P w K mg base 42 "_law_alike" fl fdl alN (ur K 42))
  (mF:mg "Face"=some (.ref CF)) (mi:mg "isinstance"=none) (md:mg "dict"=none) (mt:mg "tuple"=none) (cF:Cls K CF) (nK:aZ K CF "kinds") (nF:aZ K CF "funs")
  (clF:W.findIn K (.ref CF) "__class__"=some (some (.builtin "object.__class__"))) (sp:W.specialIn K (.builtin "object.__class__") "__get__"=some (some (.builtin "getset_descriptor.__get__"))) (tk1:W.takesIn K (.builtin "object.__class__")=some true) (obF:W.mroIn K CF (.type "object")=some true) (j5:W.kitOne K (.ref CF) (.ref CF)=some true) :
  cE P w K mg base CX0 43 f fd smP (om K CF):=by
 refine F.k0 Ag λcdv A outer s H vs Q E hr h=>?_
 obtain⟨fa,l1,l2,m1,m2,rfl,hF,hR1,hR2,hal,q⟩:=h
 refine⟨_,@pss_cons _ _ _ _ _ (ce (PW.pt (sM (iJ (L2.pt_val (aT iQ rfl mi eh (pv 0 >> yH rfl mF (v:=.ref CF) rfl >> ad)))) (sM (iJ (L2.pt_val (aT iQ rfl mi eh (bn (pv 0) rfl >> fC rfl md cJ (v:=.ty "dict") rfl >> ad)))) (rD (iJ (L2.pt_val (aT iQ rfl mi eh (bn (pv 0) rfl >> fC rfl md cJ (v:=.ty "dict") rfl >> ad)))))))) (@ai _ _ _ (@aP _ _ _ _ ou)) aX)
  (ce (iJ (L2.pt_val (cal GL hr (aQ (fK rfl) rfl mt bF (jr PySem.F.plainAttrs_dict PySem.F.slot_dict_items PySem.F.type_dict_items rH (bn (pv 0) rfl) >> ad) >> aQ bj rfl mt bF (pv 1 >> ad) >> ad)))) (@ai _ _ _ (@aP _ _ _ _ ou)) aX <|> @ai _ _ _ (@aP _ _ _ _ (cal GL hr (aQ (fK rfl) rfl mt bF (jr PySem.F.plainAttrs_dict PySem.F.slot_dict_items PySem.F.type_dict_items rH (bn (pv 0) rfl) >> ad) >> aQ bj rfl mt bF (pv 2 >> ad) >> ad)))),?_⟩
 obtain⟨dx,d1,d2,fs,kv1,kv2,hfa,lk,lf,hd1,hd2,hk1,hk2,_,_⟩:=id hF
 obtain⟨a1,a2,a3,a4⟩:=hal
 refine⟨_,rfl,.ref fa,.ref CF,.ref CF,.ref CF,true,rfl,(λ_ z=>z),.ins hfa cF clF sp tk1 obF,j5,true,rfl,nA ?_⟩
 refine⟨_,rfl,fa,CF,dx,fs,_,rfl,hfa,cF,nK,lk,.ref d1,.ty "dict",.type "dict",.type "dict",true,rfl,(λ_ z=>by cases z;rfl),.dK hd1,xK K,true,rfl,nA ?_⟩
 refine⟨_,rfl,fa,CF,dx,fs,_,rfl,hfa,cF,nF,lf,.ref d2,.ty "dict",.type "dict",.type "dict",true,rfl,(λ_ z=>by cases z;rfl),.dK hd2,xK K,true,rfl,nA ?_⟩
 obtain⟨xs1,hl1,hx1⟩:=id hR1
 refine⟨_,rfl,fa,CF,dx,fs,_,rfl,hfa,cF,nK,lk,.inr (.inr (.inl ⟨rfl,.inl ⟨_,hd1⟩⟩)),d1,kv1,rfl,rfl,hd1,λv hv=>?_⟩
 have s1:=ac hv (.ext (j9 v d1))
 refine⟨v,d1,kv1,rfl,aa,s1 _ _ hd1,λH2 as l s2 hl ha h2 hp=>?_⟩
 have s12:=ao.trans s1 s2
 refine⟨_,rfl,l1,xs1,rfl,.inl ⟨SqL.of (s12 _ _ hl1),λl' hl'=>?_⟩⟩
 have s3:=ac hl' (.tup xs1)
 have s13:=s12.trans s3
 refine⟨.ref l,.ref l',.tuple (m1.map (AV Kd.dat)),rfl,.tup (SqT.of (s3 _ _ h2)) (pM (R:=bK K _) (λ_ _ h=>dI h) (hk1.imp λ_ _ h=>h.same s13) (Paired.mapP hp λ_ _ h=>s3 _ _ h)),.tup (SqT.of aa) (j8 (R:=bK K _) (λ_ _ h=>dI h) (Paired.mapP hx1 λ_ _ h=>hZ.same s13 h)),rJ (n:=39) a1 a3,λH4 s4=>⟨true,rfl,nA ?_⟩⟩
 have sA:=s13.trans s4
 obtain⟨xs2,hl2,hx2⟩:=id (hR2.same sA)
 refine⟨_,rfl,fa,CF,dx,fs,_,rfl,sA _ _ hfa,cF,nF,lf,.inr (.inr (.inl ⟨rfl,.inl ⟨_,sA _ _ hd2⟩⟩)),d2,kv2,rfl,rfl,sA _ _ hd2,λv' hv'=>?_⟩
 have t1:=ac hv' (.ext (j9 v' d2))
 refine⟨v',d2,kv2,rfl,aa,t1 _ _ (sA _ _ hd2),λH5 as' l3 t2 hl3 ha' h5 hp'=>?_⟩
 have t12:=ao.trans t1 t2
 refine⟨_,rfl,l2,xs2,rfl,.inl ⟨SqL.of (t12 _ _ hl2),λl4 hl4=>?_⟩⟩
 have t3:=ac hl4 (.tup xs2)
 have t13:=t12.trans t3
 exact⟨.ref l3,.ref l4,.tuple (m2.map (AV Fn.dat)),rfl,.tup (SqT.of (t3 _ _ h5)) (pM (R:=cY K _) (λ_ _ h=>qW h) (hk2.imp λ_ _ h=>h.keep λ_ _ t=>(sA.trans t13).tup t) (Paired.mapP hp' λ_ _ h=>t3 _ _ h)),.tup (SqT.of aa) (j8 (R:=cY K _) (λ_ _ h=>qW h) (Paired.mapP hx2 λ_ _ h=>vI.same t13 h)),rJ (n:=39) a2 a4,λH6 s6=>q _ (sA.trans (t13.trans s6))⟩
abbrev hgN:List Str:=["_law_face_here","_law_part","_law_given","_law_word_here"]
def l0(K:W.Frag)(n:Nat):Sp:=λvs H Q _=>∃(fa:Addr) (part:Str) (m1:List (Str × Kd)) (m2:List (Str × (List Kd × Kd))),vs=[.ref fa,.str part]/\iM K H fa m1 m2/\(m1.map (·.1)).Nodup/\m1.length<=100/\m2.length<=100/\(∀q∈m1,okW q.1/\Kd.ok q.2/\Kd.depth q.2<=60) /\
 (∀q∈m1,Kd.depth q.2<=n)/\(∀q∈m2,(∀k∈q.2.1,Kd.depth k<=n)/\Kd.depth q.2.2<=n/\q.2.1.length<=100) /\
 ∀H' (x:Addr),ao H H'->iM K H' x (m1.map (cA (mY m1 part))) (m2.map (cq (mY m1 part)))->Q (.ref x) H'
theorem mU:aG hgN ["_law_face_here","_law_part"] (ae jd):=mkS
theorem uo (F:Fun K "_law_hiding" "_law_hiding" jd f fd)
  (GH:Ca P w K mg base 1 "_law_hidden" fh fdh ["_law_kinds"] (ic K))
  (GP:Ca P w K mg base (n+1) "_law_put_all" fp fdp paP (ip K n)) :
  cE P w K mg base CX0 (n+1+1) f fd ["_law_face_here","_law_part"] (l0 K n):=by
 refine F.k0 mU λcdv A outer s H vs Q E hr h=>?_
 obtain⟨fa,part,m1,m2,rfl,hL,hnd,h100,h100',hok,dp1,dp2,q⟩:=h
 have hu:=dM hr
 have hr1:bZ 1 _:=hr.mono (by omega)
 refine⟨_,@pss_cons _ _ _ _ _ (aU (i:=2) mU.nd eB)
  (bY PassesOwn.never rfl (cQ (cal GH hr1 (aN ak (pv 0) ag (λ_ _=>rfl) >> ad))) (ar (i:=3) mU.nd rfl (Or.inl rfl))
   (@ai _ _ _ (dj hu (pv 2) (@az _ _ _ _ _ (aJ >> pv 3 >> ad)) (@az _ _ _ _ _ (aJ >> pv 1 >> pv 3 >> ad)) rfl)) <|> @ai _ _ _ (@aP _ _ _ _ (cal GP hr (pv 0 >> pv 2 >> ad)))),?_⟩
 obtain⟨l1,l2,hfa,hR1,hR2⟩:=id hL
 intro g hgn
 have s2:=ac hgn (.dT [])
 refine⟨_,rfl,fa,_,_,_,rfl,rfl,SqT.of (s2 _ _ hfa),(show atI [V.ref l1,.ref l2] 0=some (.ref l1) from rfl),l1,m1,rfl,hR1.same s2,h100,hok,λH3 l s3 hl2 hl3=>⟨l,rfl,⟨_,SqL.of hl3⟩,?_⟩⟩
 have hg3:=s3 _ _ (show upd H g (.dT []) g=some (.dT []) from aa)
 have lg:l≠g:=λe=>by rw [e,aa] at hl2;cases hl2
 have hsl:(ba m1).length<=100:=by
  unfold ba
  rw [lm0]
  exact Nat.le_trans (List.length_filter_le _ _) h100
 refine eF (K:=K) (xs:=(ba m1).map V.str) (λi σ H4=>∃(y3:Option V) (kvs:List (List Key × V)),σ=[some (.ref fa),some (.str part),some (.ref g),y3]/\ao H H4/\H4 l=some (.lst ((ba m1).map V.str))/\H4 g=some (.dT kvs)/\jH K H4 kvs (((ba m1).take i).map λz=>(z,Kd.name part z)))
  ⟨none,[],rfl,s2.trans s3,hl3,hg3,.nil⟩ ?_ ?_ ?_
 ·rintro i σ H4 _ ⟨_,_,_,_,h,_⟩
  exact SqL.of h
 ·rintro i y σ H4 hy ⟨y3,kvs,rfl,s4,hl4,hg4,hpt⟩
  rw [List.getElem?_map] at hy
  obtain⟨z,hz,rfl⟩:=Option.map_eq_some_iff.mp hy
  have hi:i < (ba m1).length:=(List.getElem?_eq_some_iff.mp hz).1
  refine⟨_,rfl,_,rfl,(sz 3),λp hp=>?_⟩
  have s5:=ac hp (.tup [.str "name",.str part,.str z])
  refine⟨_,rfl,_,rfl,(sz 2),λp2 hp2=>?_⟩
  have s6:=ac hp2 (.tup [.str "",.str z])
  have s56:=s5.trans s6
  have kl:kvs.length=i:=by
   have e1:=Paired.length hpt
   rw [lm0,List.length_take] at e1
   omega
  have hg5:=s56 _ _ hg4
  have hv:bK K (upd (upd H4 p (.tup [.str "name",.str part,.str z])) p2 (.tup [.str "",.str z])) (.ref p) (.name part z):=.name (SqT.of (s6 _ _ aa))
  refine⟨g,_,rfl,kH.t (k:=dq ("",z)) hg5 (by rw [aa]<;>rfl) (Nat.lt_of_lt_of_le (Nat.lt_succ_self _) (bJ (by omega))),?_⟩
  have kt:∀a xs,SqT K (upd (upd H4 p (.tup [.str "name",.str part,.str z])) p2 (.tup [.str "",.str z])) a xs->SqT K (upd (upd (upd H4 p (.tup [.str "name",.str part,.str z])) p2 (.tup [.str "",.str z])) g (.dT (cI kvs (dq ("",z)) (.ref p)))) a xs:=λa xs t=>nR hg5 t
  have ht:(ba m1).take (i+1)=(ba m1).take i++[z]:=by rw [List.take_add_one,hz];rfl
  refine⟨_,_,rfl,kE (s4.trans s56) hgn,?_,aa,?_⟩
  ·rw [ah lg]
   exact s56 _ _ hl4
  ·rw [ht,ma0]
   refine lQ ((hpt.same s56).keep kt) ?_ (aC kt hv)
   rw [List.map_map]
   have e:((λq:Str × Kd=>q.1)∘λz=>(z,Kd.name part z))=id:=rfl
   show z∉((ba m1).take i).map ((λq:Str × Kd=>q.1)∘λz=>(z,Kd.name part z))
   rw [e,List.map_id]
   exact dU (bt hnd) hz
 ·rintro σ H4 ⟨y3,kvs,rfl,s4,hl4,hg4,hpt⟩
  rw [lm0,List.take_length] at hpt
  refine⟨_,rfl,_,rfl,fa,g,m1,m2,kvs,mY m1 part,rfl,hL.same s4,h100,h100',dp1,dp2,hg4,λn=>?_,λH5 x s5 hx=>q H5 x (s4.trans s5) hx.at⟩
  rcases pt_val hpt n with ⟨h1,h2⟩|⟨v,k,h1,h2,h3,h4⟩
  ·refine .inl ⟨h1,if_neg λhh=>h2 hh.1 ?_⟩
   rw [List.map_map]
   exact List.mem_map.mpr ⟨_,hh.2,rfl⟩
  ·obtain⟨z,hz,e⟩:=List.mem_map.mp h3
   cases e
   exact .inr ⟨v,_,h1,if_pos ⟨h2,hz⟩,h4⟩
inductive It where
 |kind (w:Str) (k:Kd)
 |fn (w:Str) (ps:List (Str × Kd)) (k:Kd)
 |opn (p:Str)
abbrev am:=List (Str × Kd)
abbrev aY:=List (Str × (List Kd × Kd))
abbrev aV:=List (Str × (am × aY))
inductive FR where
 |ok (m1:am) (m2:aY)
 |ref (c:Nat)
inductive Nr where
 |ok (k:Kd)
 |no (c:Nat)
inductive Nrs where
 |ok (ks:List Kd)
 |no (c:Nat)
def PGo(parts:aV):Str->Option (Str->Option Kd):=λq=>(look parts q).map λr=>look r.1
def tl(m1:am)(parts:aV):Str × Str->Option Kd:=jX (look m1) (PGo parts)
def gq(T:Str × Str->Option Kd)(M:Int)(k:Kd):Nr:=if (∃n∈Kd.names k,T n=none) then .no 2 else if ((Kd.put T k).words:Int) > M then .no 3 else .ok (Kd.put T k)
def dX(T:Str × Str->Option Kd)(M:Int):List Kd->Nrs
 |[]=>.ok []
 |k::ks=>match gq T M k with
  |.no c=>.no c
  |.ok k'=>match dX T M ks with
   |.no c=>.no c
   |.ok l=>.ok (k'::l)
def bq{α:Type}:List (Str × α)->List (Str × α)->Option (List (Str × α))
 |m,[]=>some m
 |m,q::qs=>if q.1∈m.map (·.1) then none else bq (m++[q]) qs
def hU(parts:aV)(M:Int)(m1:am)(m2:aY):It->FR
 |.kind w k=>match gq (tl m1 parts) M k with
  |.no c=>.ref c
  |.ok k'=>if w∈m1.map (·.1) then .ref 0 else .ok (m1++[(w,k')]) m2
 |.fn w ps k=>match dX (tl m1 parts) M (ps.map (·.2)) with
  |.no c=>.ref c
  |.ok ks=>match gq (tl m1 parts) M k with
   |.no c=>.ref c
   |.ok k'=>if w∈m2.map (·.1) then .ref 0 else .ok m1 (m2++[(w,(ks,k'))])
 |.opn p=>match look parts p with
  |none=>.ref 1
  |some r=>match bq m1 r.1 with
   |none=>.ref 0
   |some n1=>match bq m2 r.2 with
    |none=>.ref 0
    |some n2=>.ok n1 n2
def kc(parts:aV)(M:Int):FR->It->FR
 |.ref c,_=>.ref c
 |.ok m1 m2,it=>hU parts M m1 m2 it
def nE(parts:aV)(M:Int)(its:List It):FR:=its.foldl (kc parts M) (.ok [] [])
theorem mv(parts:aV)(M:Int)(a b:List It):nE parts M (a++b)=b.foldl (kc parts M) (nE parts M a):=by
 unfold nE
 rw [List.foldl_append]
theorem q5(parts:aV)(M:Int)(c:Nat):∀b:List It,b.foldl (kc parts M) (.ref c)=.ref c
 |[]=>rfl
 |_::b=>q5 parts M c b
def KB(k:Kd):Prop:=Kd.ok k/\k.words<=60
def ItK(k:Kd):Prop:=Kd.ok k/\k.leaves.length<=21/\(k.leaves.length<=3\/Kd.names k=[])
def Ok1(m1:am):Prop:=∀q∈m1,okW q.1/\KB q.2
def Ok2(m2:aY):Prop:=∀q∈m2,okW q.1/\q.2.1.length<=4/\∀k∈q.2.2::q.2.1,KB k
def yx(parts:aV):Prop:=∀r∈parts,Ok1 r.2.1/\Ok2 r.2.2/\r.2.1.length<=5/\r.2.2.length<=5/\(r.2.1.map (·.1)).Nodup/\(r.2.2.map (·.1)).Nodup/\okW r.1
def zy:It->Prop
 |.kind w k=>okW w/\ItK k
 |.fn w ps k=>okW w/\ps.length<=4/\(∀q∈ps,ItK q.2)/\ItK k
 |.opn p=>okW p
theorem dv:∀k:Kd,k.words+1=2*k.leaves.length
 |.num n=>rfl
 |.name q t=>rfl
 |.pair a b=>by
  have h1:=dv a
  have h2:=dv b
  show(1+a.words+b.words)+1=2*(a.leaves++b.leaves).length
  rw [la0]
  omega
theorem mW:∀{k:Kd},Kd.names k=[]->Kd.put G k=k
 |.num n,_=>rfl
 |.name q t,h=>by cases h
 |.pair a b,h=>by
  have h':Kd.names a++Kd.names b=[]:=h
  have ha:Kd.names a=[]:=(List.append_eq_nil_iff.mp h').1
  have hb:Kd.names b=[]:=(List.append_eq_nil_iff.mp h').2
  show Kd.pair (Kd.put G a) (Kd.put G b)=Kd.pair a b
  rw [mW ha,mW hb]
theorem mG(hG:∀n g,G n=some g->KB g)(h:ItK k):(Kd.put G k).words<=900/\Kd.ok (Kd.put G k):=by
 refine⟨?_,jh (λn g e=>(hG n g e).1) h.1⟩
 rcases h.2.2 with h3|h3
 ·have e:=fH (G:=G) (c:=31) (by decide) (λn g e=>by
   have:=dv g
   have:=(hG n g e).2
   omega) k
  have:=dv (Kd.put G k)
  omega
 ·rw [mW h3]
  have:=dv k
  have:=h.2.1
  omega
theorem eZ{α:Type}{m:List (Str × α)}{z:Str}{x:α}(h:look m z=some x):(z,x)∈m:=eK h
theorem Ae{m1:am}{parts:aV}(h1:Ok1 m1)(hp:yx parts):∀n g,tl m1 parts n=some g->KB g:=λn g e=>by
 unfold tl jX at e
 by_cases c:n.1=""
 ·rw [if_pos c] at e
  exact(h1 _ (eZ e)).2
 ·rw [if_neg c] at e
  unfold PGo at e
  cases hq:look parts n.1 with
  |none=>rw [hq] at e;cases e
  |some r =>
   rw [hq] at e
   exact((hp _ (eZ hq)).1 _ (eZ (show look r.1 n.2=some g from e))).2
def oH(K:W.Frag)(H:Hp)(v:V):It->Prop
 |.kind w k=>∃(p:Addr) (y:V),v=.ref p/\SqT K H p [.str "kind",.str w,y]/\bK K H y k
 |.fn w ps k=>∃(p ta:Addr) (y z:V) (xs:List V),v=.ref p/\SqT K H p [.str "fun",.str w,.ref ta,y,z]/\SqT K H ta xs/\cG K H xs ps/\bK K H y k
 |.opn q=>∃(p:Addr),v=.ref p/\SqT K H p [.str "open",.str q]
theorem dH.keep(e:∀a xs,SqT K H a xs->SqT K H' a xs)(h:dH K H v q):dH K H' v q:=by
 obtain⟨p,y,h1,h2,h3⟩:=h
 exact⟨p,y,h1,e _ _ h2,aC e h3⟩
theorem oH.keep(e:∀a xs,SqT K H a xs->SqT K H' a xs):∀{it:It},oH K H v it->oH K H' v it
 |.kind w k,⟨p,y,h1,h2,h3⟩=>⟨p,y,h1,e _ _ h2,aC e h3⟩
 |.fn w ps k,⟨p,ta,y,z,xs,h1,h2,h3,h4,h5⟩=>⟨p,ta,y,z,xs,h1,e _ _ h2,e _ _ h3,Paired.mapP h4 λ_ _ t=>t.keep e,aC e h5⟩
 |.opn q,⟨p,h1,h2⟩=>⟨p,h1,e _ _ h2⟩
theorem oH.same(e:ao H H')(h:oH K H v it):oH K H' v it:=h.keep λ_ _ t=>e.tup t
def fL(K:W.Frag)(H:Hp)(CF pa:Addr)(parts:aV):Prop:=∃pkv,H pa=some (.dK pkv)/\dR (λv (r:am × aY)=>∃fa,v=.ref fa/\dQ K H CF fa r.1 r.2) pkv parts
theorem fL.same(e:ao H H')(h:fL K H CF pa parts):fL K H' CF pa parts:=by
 obtain⟨pkv,h1,h2⟩:=h
 exact⟨pkv,e _ _ h1,h2.imp λv r ⟨fa,e1,e2⟩=>⟨fa,e1,e2.same e⟩⟩
structure hC(K:W.Frag)(H:Hp)(CF fa d1 d2 dx:Addr)(fs:List (Str × V))(kv1 kv2:List (Key × V))(m1:am)(m2:aY):Prop where
 obj:H fa=some (.ins CF dx fs)
 fk:fs.lookup ("kinds":Str)=some (.ref d1)
 ff:fs.lookup ("funs":Str)=some (.ref d2)
 h1:H d1=some (.dK kv1)
 h2:H d2=some (.dK kv2)
 p1:dR (bK K H) kv1 m1
 p2:dR (cY K H) kv2 m2
 nh:fs.lookup ("hidden":Str)=none
 np:fs.lookup ("put":Str)=none
 ne:d1≠d2
def eW(K:W.Frag)(H:Hp)(CF fa d1 d2:Addr)(m1:am)(m2:aY):Prop:=∃dx fs kv1 kv2,hC K H CF fa d1 d2 dx fs kv1 kv2 m1 m2
theorem eW.same(e:ao H H')(h:eW K H CF fa d1 d2 m1 m2):eW K H' CF fa d1 d2 m1 m2:=by
 obtain⟨dx,fs,kv1,kv2,F⟩:=h
 exact⟨dx,fs,kv1,kv2,e _ _ F.obj,F.fk,F.ff,e _ _ F.h1,e _ _ F.h2,F.p1.imp λ_ _ t=>t.same e,F.p2.imp λ_ _ t=>t.keep λ_ _ t=>e.tup t,F.nh,F.np,F.ne⟩
theorem eW.faceF(h:eW K H CF fa d1 d2 m1 m2):dQ K H CF fa m1 m2:=by
 obtain⟨dx,fs,kv1,kv2,F⟩:=h
 exact⟨dx,d1,d2,fs,kv1,kv2,F.obj,F.fk,F.ff,F.h1,F.h2,F.p1,F.p2,F.nh,F.np⟩
theorem hC.put1(F:hC K H CF fa d1 d2 dx fs kv1 kv2 m1 m2)(hz:z∉m1.map (·.1))(hv:bK K H v k) :
  hC K (upd H d1 (.dK (cI kv1 (.inr z) v))) CF fa d1 d2 dx fs (cI kv1 (.inr z) v) kv2 (m1++[(z,k)]) m2:=by
 have kp:∀b xs,SqT K H b xs->SqT K (upd H d1 (.dK (cI kv1 (.inr z) v))) b xs:=λb xs h=>eY F.h1 h
 refine⟨?_,F.fk,F.ff,aa,?_,?_,F.p2.imp λ_ _ t=>t.keep kp,F.nh,F.np,F.ne⟩
 ·rw [ah (λe=>by have:=F.obj;rw [e,F.h1] at this;cases this)]
  exact F.obj
 ·rw [ah (Ne.symm F.ne)]
  exact F.h2
 ·exact dR.put (F.p1.imp λ_ _ t=>aC kp t) hz (aC kp hv)
theorem hC.put2(F:hC K H CF fa d1 d2 dx fs kv1 kv2 m1 m2)(hz:z∉m2.map (·.1))(hv:cY K H v g) :
  hC K (upd H d2 (.dK (cI kv2 (.inr z) v))) CF fa d1 d2 dx fs kv1 (cI kv2 (.inr z) v) m1 (m2++[(z,g)]):=by
 have kp:∀b xs,SqT K H b xs->SqT K (upd H d2 (.dK (cI kv2 (.inr z) v))) b xs:=λb xs h=>eY F.h2 h
 refine⟨?_,F.fk,F.ff,?_,aa,F.p1.imp λ_ _ t=>aC kp t,?_,F.nh,F.np,F.ne⟩
 ·rw [ah (λe=>by have:=F.obj;rw [e,F.h2] at this;cases this)]
  exact F.obj
 ·rw [ah F.ne]
  exact F.h1
 ·exact dR.put (F.p2.imp λ_ _ t=>t.keep kp) hz (hv.keep kp)
theorem wZ{α:Type}{R:V->α->Prop}{kvs:List (Key × V)}{m:List (Str × α)}(h:dR R kvs m)(z:Str):(dC kvs (.inr z)).isSome=decide (z∈m.map (·.1)):=by
 rcases cg h z with ⟨h1,h2⟩|⟨v,x,h1,h2,_⟩
 ·rw [h1]
  refine(df0 λhm=>?_).symm
  obtain⟨q,hq,e⟩:=List.mem_map.mp hm
  unfold look at h2
  rw [Option.map_eq_none_iff,List.find?_eq_none] at h2
  exact h2 q hq (dt0 e)
 ·rw [h1]
  exact(dt0 (List.mem_map.mpr ⟨_,eZ h2,rfl⟩)).symm
theorem v0(h:dR (bK K H) kvs m):xP K H kvs (look m):=λt=>by
 rcases cg h t with ⟨h1,h2⟩|⟨v,x,h1,h2,h3⟩
 ·exact .inl ⟨h1,h2⟩
 ·exact .inr ⟨v,x,h1,h2,h3⟩
theorem um(h:dR (λv (r:am × aY)=>∃fa,v=.ref fa/\dQ K H CF fa r.1 r.2) pkv parts):gs K H CF pkv (PGo parts):=λq=>by
 rcases cg h q with ⟨h1,h2⟩|⟨v,r,h1,h2,fa,e,dx,d1,d2,fs,kv1,kv2,f1,f2,f3,f4,f5,f6,_⟩
 ·exact .inl ⟨h1,by unfold PGo;rw [h2];rfl⟩
 ·exact .inr ⟨v,look r.1,h1,by unfold PGo;rw [h2];rfl,fa,dx,fs,d1,kv1,e,f1,f2,f4,v0 f6⟩
abbrev aoP:List Str:=["told","word","what"]
def o7(CW:Addr):Sp:=λvs H Q E=>∃(d:Addr) (z:Str) (x:V) (kvs:List (Key × V)),vs=[.ref d,.str z,x]/\okW z/\H d=some (.dK kvs)/\kvs.length<=200 /\
 (((dC kvs (.inr z)).isSome=true/\False)\/((dC kvs (.inr z)).isSome=false/\Q .non (upd H d (.dK (cI kvs (.inr z) x)))))
theorem Bh:aG aoP aoP (ae gw):=mkS
theorem Az (F:Fun K "add_once" "add_once" gw f fd) :
  cE P w K mg base CX0 1 f fd aoP (o7 CW):=by
 refine F.k0 Bh λcdv A outer s H vs Q E hr h=>?_
 obtain⟨d,z,x,kvs,rfl,hz,hd,hl,q⟩:=h
 have hu:=dM hr
 have lz:z.length<=100000:=Nat.le_trans hz.2 (by decide)
 have zz:z.length<=sizeLine:=Nat.le_trans lz (by decide)
 refine⟨_,pss_cons (ce (jT (uQ hu (pv 1) (pv 0)) (by with_unfolding_all rfl))
   gP aX)
  (ai (dj hu (pv 0) (pv 1) (pv 2) rfl)),?_⟩
 refine⟨_,rfl,_,rfl,d,_,rfl,gj.k (k:=.inr z) hd,_,rfl,?_⟩
 rcases q with ⟨h1,hE⟩|⟨h1,hQ⟩
 ·rw [h1]
  exact hE.elim
 ·rw [h1]
  exact nA ⟨_,rfl,_,rfl,_,rfl,d,_,rfl,kH.k (k:=.inr z) hd (Nat.lt_of_le_of_lt hl (by decide)),hQ⟩
theorem i5{α:Type}:∀(a b m:List (Str × α)),bq m (a++b)=(bq m a).bind λn=>bq n b
 |[],b,m=>rfl
 |q::a,b,m=>by
  rw [List.cons_append]
  show(if q.1∈m.map (·.1) then none else bq (m++[q]) (a++b))=(if q.1∈m.map (·.1) then none else bq (m++[q]) a).bind λn=>bq n b
  by_cases c:q.1∈m.map (·.1)
  ·rw [if_pos c,if_pos c]
   rfl
  ·rw [if_neg c,if_neg c]
   exact i5 a b _
theorem sk{α:Type}(m:List (Str × α))(q:Str × α):bq m [q]=if q.1∈m.map (·.1) then none else some (m++[q]):=rfl
theorem i4{α:Type}:∀(b m n:List (Str × α)),bq m b=some n->n.length=m.length+b.length
 |[],m,n,h=>by
  cases h
  rfl
 |q::b,m,n,h=>by
  unfold bq at h
  by_cases c:q.1∈m.map (·.1)
  ·rw [if_pos c] at h
   cases h
  ·rw [if_neg c] at h
   have:=i4 b _ _ h
   rw [la0] at this
   have e1:([q]:List (Str × α)).length=1:=rfl
   have e2:(q::b).length=b.length+1:=rfl
   rw [e1] at this
   rw [this,e2]
   omega
theorem jK{α:Type}{m n r:List (Str × α)}{i:Nat}{q:Str × α}(h:bq m (r.take i)=some n)(hq:r[i]?=some q)(c:q.1∉n.map (·.1)):bq m (r.take (i+1))=some (n++[q]):=by
 rw [List.take_add_one,hq,i5,h]
 show bq n [q]=_
 rw [sk,if_neg c]
theorem kq{α:Type}{m n r:List (Str × α)}{i:Nat}{q:Str × α}(h:bq m (r.take i)=some n)(hq:r[i]?=some q)(c:q.1∈n.map (·.1)):bq m r=none:=by
 have hi:=(List.getElem?_eq_some_iff.mp hq)
 obtain⟨hi,e⟩:=hi
 have:r=r.take i++q::r.drop (i+1):=by
  rw [<-e,List.getElem_cons_drop,List.take_append_drop]
 rw [this,i5,h]
 show bq n (q::r.drop (i+1))=none
 unfold bq
 rw [if_pos c]
abbrev toN:List Str:=["full","part","parts","word","kind","fun"]
abbrev toP:List Str:=["full","part","parts"]
def B9(K:W.Frag)(CF:Addr)(cl:Nat->Addr)(H0:Hp)(fa d1 d2:Addr)(Q:VK)(E:XK):FR->Prop
 |.ok n1 n2=>∀H',ao H0 H'->eW K H' CF fa d1 d2 n1 n2->Q .non H'
 |.ref c=>∀H',ao H0 H'->False
def pK(parts:aV)(m1:am)(m2:aY)(p:Str):FR:=match look parts p with
  |none=>.ref 1
  |some r=>match bq m1 r.1 with
   |none=>.ref 0
   |some n1=>match bq m2 r.2 with
    |none=>.ref 0
    |some n2=>.ok n1 n2
theorem qF(parts:aV)(M:Int)(m1:am)(m2:aY)(p:Str):hU parts M m1 m2 (.opn p)=pK parts m1 m2 p:=rfl
def js(K:W.Frag)(CF:Addr)(cl:Nat->Addr):Sp:=λvs H Q E=>∃(H0:Hp) (fa d1 d2:Addr) (p:Str) (pa:Addr) (m1:am) (m2:aY) (parts:aV),vs=[.ref fa,.str p,.ref pa]/\ao H0 H/\H0 d1=none/\H0 d2=none /\
 eW K H CF fa d1 d2 m1 m2/\okW p/\fL K H0 CF pa parts/\yx parts/\m1.length<=100/\m2.length<=100/\B9 K CF cl H0 fa d1 d2 Q E (pK parts m1 m2 p)
theorem rM(hd:H0 d=some (.dK kv))(old:∀b u,H0 b=some u->b≠d->H3 b=some u):ao H0 (upd H3 d (.dK kv)):=λb u hb=>by
 by_cases e:b=d
 ·rw [e] at hb ⊢
  rw [hd] at hb
  cases hb
  exact aa
 ·rw [ah e]
  exact old b u hb e
theorem hC.frz(F:hC K H CF fa d1 d2 dx fs kv1 kv2 m1 m2)(n1:d≠d1)(n2:d≠d2)(n3:fa≠d)(kp:∀b xs,SqT K H b xs->SqT K (upd H d u) b xs) :
  hC K (upd H d u) CF fa d1 d2 dx fs kv1 kv2 m1 m2 :=
 ⟨by rw [ah n3];exact F.obj,F.fk,F.ff,by rw [ah (Ne.symm n1)];exact F.h1,by rw [ah (Ne.symm n2)];exact F.h2,F.p1.imp λ_ _ t=>aC kp t,F.p2.imp λ_ _ t=>t.keep kp,F.nh,F.np,F.ne⟩
theorem hC.same(F:hC K H CF fa d1 d2 dx fs kv1 kv2 m1 m2)(e:ao H H'):hC K H' CF fa d1 d2 dx fs kv1 kv2 m1 m2 :=
 ⟨e _ _ F.obj,F.fk,F.ff,e _ _ F.h1,e _ _ F.h2,F.p1.imp λ_ _ t=>t.same e,F.p2.imp λ_ _ t=>t.keep λ_ _ t=>e.tup t,F.nh,F.np,F.ne⟩
theorem d7:aG toN toP (ae bB):=mkS
theorem to1{f fg CF CW:Addr}{fdg:FuncData} (GA:Ca P w K mg base 1 "add_once" fg fdg aoP (o7 CW)) (cF:Cls K CF) (nK:aZ K CF "kinds")
  {cdv:Value} {A:Around} {outer:List Env} {s:Shared} {H:Hp} {E:XK} (hr:bZ 1 (A.deeper (PyProof.Rows.envOfC "take_opened" (ae bB) s.heap.objs.size f cdv))) :
  ∃t,PS (i6 CX0 P w K mg base toN "take_opened" (ae bB) f cdv A outer s H E).nox ((aj bB).getD 1 (.Pass ⟨0,0,0,0⟩)) t /\
   ∀(D:gZ) (H0 H1:Hp) (fa d1 d2 pa:Addr) (p:Str) (m1:am) (m2:aY) (parts:aV) (r:am × aY),ao H0 H->ao H0 H1->H0 d1=none->H0 d2=none->eW K H1 CF fa d1 d2 m1 m2->fL K H0 CF pa parts->look parts p=some r->m1.length<=100->r.1.length<=5->Ok1 r.1 ->
    (∀n1,bq m1 r.1=some n1->∀(H4:Hp) (y3 y4:Option V),ao H0 H4->eW K H4 CF fa d1 d2 n1 m2->D.nx [some (.ref fa),some (.str p),some (.ref pa),y3,y4,none] H4) ->
    (bq m1 r.1=none->∀H4:Hp,ao H0 H4->False) ->
    t D [some (.ref fa),some (.str p),some (.ref pa),none,none,none] H1:=by
 have hu:=dM hr
 have hr1:bZ 1 _:=hr.mono (by decide)
 refine⟨_,fX (bY PassesOwn.never rfl (fA (bn (cV hu (pv 2) (pv 1) (λ_ _=>rfl)) rfl)) (cC rfl (ap (ar (i:=3) d7.nd rfl (Or.inl rfl)) (ap (ar (i:=4) d7.nd rfl (Or.inl rfl)) bC)))
   (@ai _ _ _ (bh (cal GA hr1 (bn (pv 0) rfl >> pv 3 >> pv 4 >> ad))))),?_⟩
 intro D H0 H1 fa d1 d2 pa p m1 m2 parts r sH s1 hd1 hd2 hF hP hr' h100 hr2 hok qN qE
 obtain⟨pkv,hpa,hpk⟩:=hP
 obtain⟨dxf,fsf,kv1,kv2,F⟩:=hF
 rcases cg hpk p with ⟨_,h2⟩|⟨v,r',h1,h2,pf,rfl,dx,d,e2,fs,kvp,kvq,f1,f2,f3,f4,f5,f6,_⟩
 ·rw [hr'] at h2
  cases h2
 rw [hr'] at h2
 cases h2
 have nd1:d≠d1:=λe=>by rw [e,hd1] at f4;cases f4
 have nd2:d≠d2:=λe=>by rw [e,hd2] at f4;cases f4
 have nfa:∀{H3:Hp} {o:Obj},H3 fa=some (.ins CF dxf fsf)->H3 d=some (.frz o (.dK kvp))->fa≠d:=λh1 h2 e=>by rw [e,h2] at h1;cases h1
 have hlen:kvp.length=r.1.length:=Paired.length f6
 have hnf:∀o' u',H d≠some (.frz o' u'):=λo' u' e=>by rw [sH _ _ f4] at e;cases e
 refine⟨_,rfl,_,rfl,pa,.ref pf,rfl,h1▸gj.k (k:=.inr p) (s1 _ _ hpa),pf,CF,dx,fs,_,rfl,s1 _ _ f1,cF,nK,f2,d,kvp,rfl,s1 _ _ f4,λo=>?_⟩
 refine eS (λi σ H3=>∃(y3 y4:Option V) (ni:am) (kvi:List (Key × V)),σ=[some (.ref fa),some (.str p),some (.ref pa),y3,y4,none]/\(∀b u,H0 b=some u->b≠d->H3 b=some u)/\H3 d=some (.frz o (.dK kvp))/\hC K H3 CF fa d1 d2 dxf fsf kvi kv2 ni m2/\bq m1 (r.1.take i)=some ni/\(∀a xs,SqT K H0 a xs->SqT K H3 a xs)) ?_ ?_ ?_ ?_
 ·have kp:∀b xs,SqT K H1 b xs->SqT K (upd H1 d (.frz o (.dK kvp))) b xs:=λb xs h=>eY (s1 _ _ f4) h
  have n3:fa≠d:=λe=>by have:=F.obj;rw [e,s1 _ _ f4] at this;cases this
  exact⟨none,none,m1,kv1,rfl,λb u hb nb=>by rw [ah nb];exact s1 _ _ hb,aa,F.frz nd1 nd2 n3 kp,rfl,λa xs h=>kp a xs (s1.tup h)⟩
 ·rintro i σ H3 _ ⟨_,_,_,_,_,_,h,_⟩
  exact h
 ·rintro i pp a σ H3 hp ha ⟨y3,y4,ni,kvi,rfl,old,hd3,F3,hni,keep⟩
  obtain⟨⟨z,k⟩,hq,ez,hkz⟩:=aI f6 hp
  obtain⟨pk,pw⟩:=pp
  replace ez:pk=.inr z:=ez
  replace hkz:bK K H0 pw k:=hkz
  subst ez
  have hi:i < r.1.length:=(List.getElem?_eq_some_iff.mp hq).1
  have ea:=ac ha (.tup [kV (.inr z),pw])
  have F4:=F3.same ea
  have hkl:kvi.length=ni.length:=Paired.length F3.p1
  have hnl:=i4 _ _ _ hni
  rw [List.length_take] at hnl
  have hw:okW z:=(hok (z,k) (List.mem_of_getElem? hq)).1
  have hin:=wZ F4.p1 z
  refine⟨a,_,rfl,SqT.of aa,rfl,_,_,rfl,_,_,rfl,rfl,?_⟩
  have hd4:=ea _ _ hd3
  refine⟨_,rfl,fa,CF,dxf,fsf,_,rfl,F4.obj,cF,nK,F4.fk,_,rfl,_,rfl,d1,z,pw,kvi,rfl,hw,F4.h1,by omega,?_⟩
  by_cases c:z∈ni.map (·.1)
  ·refine .inl ⟨by rw [hin];exact dt0 c,qE (kq hni hq c) _ (rM f4 λb u hb nb=>ea _ _ (old b u hb nb))⟩
  ·refine .inr ⟨by rw [hin];exact df0 c,?_⟩
   have kp5:∀b xs,SqT K (upd H3 a (.tup [kV (.inr z),pw])) b xs->SqT K (upd (upd H3 a (.tup [kV (.inr z),pw])) d1 (.dK (cI kvi (.inr z) pw))) b xs:=λb xs h=>eY F4.h1 h
   refine⟨_,_,ni++[(z,k)],_,rfl,λb u hb nb=>?_,?_,F4.put1 c (aC (λb xs t=>ea.tup (keep b xs t)) hkz),jK hni hq c,λb xs t=>kp5 b xs (ea.tup (keep b xs t))⟩
   ·rw [ah (λe=>by rw [e,hd1] at hb;cases hb)]
    exact ea _ _ (old b u hb nb)
   ·rw [ah nd1]
    exact hd4
 ·rintro σ H3 ⟨y3,y4,ni,kvi,rfl,old,hd3,F3,hni,keep⟩
  rw [hlen,List.take_length] at hni
  exact⟨d,o,.dK kvp,hd3,hnf,qN ni hni _ y3 y4 (rM f4 old) ⟨_,_,_,_,F3.frz nd1 nd2 (nfa F3.obj hd3) λb xs h=>qX hd3 h⟩⟩
theorem to2{f fg CF CW:Addr}{fdg:FuncData} (GA:Ca P w K mg base 1 "add_once" fg fdg aoP (o7 CW)) (cF:Cls K CF) (nK:aZ K CF "funs")
  {cdv:Value} {A:Around} {outer:List Env} {s:Shared} {H:Hp} {E:XK} (hr:bZ 1 (A.deeper (PyProof.Rows.envOfC "take_opened" (ae bB) s.heap.objs.size f cdv))) :
  ∃t,PS (i6 CX0 P w K mg base toN "take_opened" (ae bB) f cdv A outer s H E).nox ((aj bB).getD 2 (.Pass ⟨0,0,0,0⟩)) t /\
   ∀(D:gZ) (H0 H1:Hp) (fa d1 d2 pa:Addr) (p:Str) (m1:am) (m2:aY) (parts:aV) (r:am × aY) (z3 z4:Option V),ao H0 H->ao H0 H1->H0 d1=none->H0 d2=none->eW K H1 CF fa d1 d2 m1 m2->fL K H0 CF pa parts->look parts p=some r->m2.length<=100->r.2.length<=5->Ok2 r.2 ->
    (∀n2,bq m2 r.2=some n2->∀(H4:Hp) (y3 y5:Option V),ao H0 H4->eW K H4 CF fa d1 d2 m1 n2->D.nx [some (.ref fa),some (.str p),some (.ref pa),y3,z4,y5] H4) ->
    (bq m2 r.2=none->∀H4:Hp,ao H0 H4->False) ->
    t D [some (.ref fa),some (.str p),some (.ref pa),z3,z4,none] H1:=by
 have hu:=dM hr
 have hr1:bZ 1 _:=hr.mono (by decide)
 refine⟨_,fX (bY PassesOwn.never rfl (fA (bn (cV hu (pv 2) (pv 1) (λ_ _=>rfl)) rfl)) (cC rfl (ap (ar (i:=3) d7.nd rfl (Or.inl rfl)) (ap (ar (i:=5) d7.nd rfl (Or.inl rfl)) bC)))
   (@ai _ _ _ (bh (cal GA hr1 (bn (pv 0) rfl >> pv 3 >> pv 5 >> ad))))),?_⟩
 intro D H0 H1 fa d1 d2 pa p m1 m2 parts r z3 z4 sH s1 hd1 hd2 hF hP hr' h100 hr2 hok qN qE
 obtain⟨pkv,hpa,hpk⟩:=hP
 obtain⟨dxf,fsf,kv1,kv2,F⟩:=hF
 rcases cg hpk p with ⟨_,h2⟩|⟨v,r',h1,h2,pf,rfl,dx,e1,d,fs,kvq,kvp,f1,f3,f2,f5,f4,_,f6,_⟩
 ·rw [hr'] at h2
  cases h2
 rw [hr'] at h2
 cases h2
 have nd1:d≠d1:=λe=>by rw [e,hd1] at f4;cases f4
 have nd2:d≠d2:=λe=>by rw [e,hd2] at f4;cases f4
 have nfa:∀{H3:Hp} {o:Obj},H3 fa=some (.ins CF dxf fsf)->H3 d=some (.frz o (.dK kvp))->fa≠d:=λh1 h2 e=>by rw [e,h2] at h1;cases h1
 have hlen:kvp.length=r.2.length:=Paired.length f6
 have hnf:∀o' u',H d≠some (.frz o' u'):=λo' u' e=>by rw [sH _ _ f4] at e;cases e
 refine⟨_,rfl,_,rfl,pa,.ref pf,rfl,h1▸gj.k (k:=.inr p) (s1 _ _ hpa),pf,CF,dx,fs,_,rfl,s1 _ _ f1,cF,nK,f2,d,kvp,rfl,s1 _ _ f4,λo=>?_⟩
 refine eS (λi σ H3=>∃(y3 y5:Option V) (ni:aY) (kvi:List (Key × V)),σ=[some (.ref fa),some (.str p),some (.ref pa),y3,z4,y5]/\(∀b u,H0 b=some u->b≠d->H3 b=some u)/\H3 d=some (.frz o (.dK kvp))/\hC K H3 CF fa d1 d2 dxf fsf kv1 kvi m1 ni/\bq m2 (r.2.take i)=some ni/\(∀a xs,SqT K H0 a xs->SqT K H3 a xs)) ?_ ?_ ?_ ?_
 ·have kp:∀b xs,SqT K H1 b xs->SqT K (upd H1 d (.frz o (.dK kvp))) b xs:=λb xs h=>eY (s1 _ _ f4) h
  have n3:fa≠d:=λe=>by have:=F.obj;rw [e,s1 _ _ f4] at this;cases this
  exact⟨z3,none,m2,kv2,rfl,λb u hb nb=>by rw [ah nb];exact s1 _ _ hb,aa,F.frz nd1 nd2 n3 kp,rfl,λa xs h=>kp a xs (s1.tup h)⟩
 ·rintro i σ H3 _ ⟨_,_,_,_,_,_,h,_⟩
  exact h
 ·rintro i pp a σ H3 hp ha ⟨y3,y5,ni,kvi,rfl,old,hd3,F3,hni,keep⟩
  obtain⟨⟨z,k⟩,hq,ez,hkz⟩:=aI f6 hp
  obtain⟨pk,pw⟩:=pp
  replace ez:pk=.inr z:=ez
  replace hkz:cY K H0 pw k:=hkz
  subst ez
  have hi:i < r.2.length:=(List.getElem?_eq_some_iff.mp hq).1
  have ea:=ac ha (.tup [kV (.inr z),pw])
  have F4:=F3.same ea
  have hkl:kvi.length=ni.length:=Paired.length F3.p2
  have hnl:=i4 _ _ _ hni
  rw [List.length_take] at hnl
  have hw:okW z:=(hok (z,k) (List.mem_of_getElem? hq)).1
  have hin:=wZ F4.p2 z
  refine⟨a,_,rfl,SqT.of aa,rfl,_,_,rfl,_,_,rfl,rfl,?_⟩
  have hd4:=ea _ _ hd3
  refine⟨_,rfl,fa,CF,dxf,fsf,_,rfl,F4.obj,cF,nK,F4.ff,_,rfl,_,rfl,d2,z,pw,kvi,rfl,hw,F4.h2,by omega,?_⟩
  by_cases c:z∈ni.map (·.1)
  ·refine .inl ⟨by rw [hin];exact dt0 c,qE (kq hni hq c) _ (rM f4 λb u hb nb=>ea _ _ (old b u hb nb))⟩
  ·refine .inr ⟨by rw [hin];exact df0 c,?_⟩
   have kp5:∀b xs,SqT K (upd H3 a (.tup [kV (.inr z),pw])) b xs->SqT K (upd (upd H3 a (.tup [kV (.inr z),pw])) d2 (.dK (cI kvi (.inr z) pw))) b xs:=λb xs h=>eY F4.h2 h
   refine⟨_,_,ni++[(z,k)],_,rfl,λb u hb nb=>?_,?_,F4.put2 c (hkz.keep λb xs t=>ea.tup (keep b xs t)),jK hni hq c,λb xs t=>kp5 b xs (ea.tup (keep b xs t))⟩
   ·rw [ah (λe=>by rw [e,hd2] at hb;cases hb)]
    exact ea _ _ (old b u hb nb)
   ·rw [ah nd2]
    exact hd4
 ·rintro σ H3 ⟨y3,y5,ni,kvi,rfl,old,hd3,F3,hni,keep⟩
  rw [hlen,List.take_length] at hni
  exact⟨d,o,.dK kvp,hd3,hnf,qN ni hni _ y3 y5 (rM f4 old) ⟨_,_,_,_,F3.frz nd1 nd2 (nfa F3.obj hd3) λb xs h=>qX hd3 h⟩⟩
theorem mL (F:Fun K "take_opened" "take_opened" bB f fd) (GA:Ca P w K mg base 1 "add_once" fg fdg aoP (o7 (cl 0))) (cF:Cls K CF) (nK:aZ K CF "kinds") (nF:aZ K CF "funs")
  : cE P w K mg base CX0 2 f fd toP (js K CF cl):=by
 refine F.k0 d7 λcdv A outer s H vs Q E hr h=>?_
 obtain⟨H0,fa,d1,d2,p,pa,m1,m2,parts,rfl,s0,hd1,hd2,hF,hp,hP,hok,l1,l2,hR⟩:=h
 have hu:=dM hr
 have lz:p.length<=100000:=Nat.le_trans hp.2 (by decide)
 have zz:p.length<=sizeLine:=Nat.le_trans lz (by decide)
 obtain⟨t1,e1,k1⟩:=to1 (f:=f) (H:=H) (E:=E) GA cF nK hr
 obtain⟨t2,e2,k2⟩:=to2 (f:=f) (H:=H) (E:=E) GA cF nF hr
 refine⟨_,@pss_cons _ _ _ _ _ (ce (jT (ib hu (pv 1) (pv 2)) (by with_unfolding_all rfl))
   gP aX)
  (e1 <|> @ai _ _ _ e2),?_⟩
 have hP':=hP
 obtain⟨pkv,hpa,hpk⟩:=hP'
 refine⟨_,rfl,_,rfl,pa,_,rfl,gj.k (k:=.inr p) (s0 _ _ hpa),_,rfl,?_⟩
 rcases cg hpk p with ⟨h1,h2⟩|⟨v,r,h1,h2,_⟩
 ·rw [h1]
  have hE:False:=by
   unfold pK at hR
   simp only [h2] at hR
   exact hR H s0
  exact hE.elim
 ·rw [h1]
  obtain⟨o1,o2,r1,r2,_⟩:=hok _ (eZ h2)
  refine nA (k1 _ H0 H fa d1 d2 pa p m1 m2 parts r s0 s0 hd1 hd2 hF hP h2 l1 r1 o1 (λn1 a1 H4 y3 y4 s4 F4=>?_) (λa1 H4 s4=>?_))
  ·refine k2 _ H0 H4 fa d1 d2 pa p n1 m2 parts r y3 y4 s0 s4 hd1 hd2 F4 hP h2 l2 r2 o2 (λn2 a2 H5 y3' y5 s5 F5=>?_) (λa2 H5 s5=>?_)
   ·unfold pK at hR
    simp only [h2,a1,a2] at hR
    exact hR H5 s5 F5
   ·unfold pK at hR
    simp only [h2,a1,a2] at hR
    exact hR H5 s5
  ·unfold pK at hR
   simp only [h2,a1] at hR
   exact hR H4 s4
theorem yO(hK:X.K=K)(he:PE X e ta)(hb:attributeBase e f X.env (eval e X.env)=eval e X.env):PE X (.Attribute e f pos) (BS K ta f):=by
 subst hK
 exact bn he hb
theorem An(h:∃n∈Kd.names k,T n=none):gq T M k=.no 2:=if_pos h
theorem Ad(h:∀n∈Kd.names k,T n≠none)(c:((Kd.put T k).words:Int) > M):gq T M k=.no 3:=by
 unfold gq
 rw [if_neg (fun⟨n,hn,e⟩=>h n hn e),if_pos c]
theorem Aa(h:∀n∈Kd.names k,T n≠none)(c:¬((Kd.put T k).words:Int) > M):gq T M k=.ok (Kd.put T k):=by
 unfold gq
 rw [if_neg (fun⟨n,hn,e⟩=>h n hn e),if_neg c]
theorem rY(h:gq T M k=.ok k'):k'=Kd.put T k/\(k'.words:Int)<=M:=by
 unfold gq at h
 by_cases c1:∃n∈Kd.names k,T n=none
 ·rw [if_pos c1] at h
  cases h
 ·rw [if_neg c1] at h
  by_cases c2:((Kd.put T k).words:Int) > M
  ·rw [if_pos c2] at h
   cases h
  ·rw [if_neg c2] at h
   injection h with h
   subst h
   exact⟨rfl,by omega⟩
def NrR(cl:Nat->Addr)(K:W.Frag)(H:Hp)(Q:VK)(E:XK):Nr->Prop
 |.no c=>∀H',ao H H'->False
 |.ok k'=>∀H',ao H H'->∀v,bK K H' v k'->Q v H'
theorem NrR.two(h:NrR cl K H Q E (gq T M k))(H':Hp)(s:ao H H')(e:∃n∈Kd.names k,T n=none):False:=by
 rw [An e] at h
 exact h H' s
theorem NrR.rest(h:NrR cl K H Q E (gq T M k))(e:∀n∈Kd.names k,T n≠none)(H':Hp)(s:ao H H'):if ((Kd.put T k).words:Int) > M then False else ∀v,bK K H' v (Kd.put T k)->Q v H':=by
 by_cases c:((Kd.put T k).words:Int) > M
 ·rw [if_pos c]
  rw [Ad e c] at h
  exact h H' s
 ·rw [if_neg c]
  rw [Aa e c] at h
  exact h H' s
theorem xY(h:ItK k):k.words<=900:=by
 have:=dv k
 have:=h.2.1
 omega
theorem yL(h:ItK k):Kd.depth k<=40:=by
 have:=dw k
 have:=h.2.1
 omega
theorem jR(T:Str × Str->Option Kd)(M:Int)(b:List Kd):∀{a la:List Kd},dX T M a=.ok la->dX T M (a++b)=match dX T M b with
  |.no c=>.no c
  |.ok lb=>.ok (la++lb)
 |[],la,h=>by
  cases h
  show dX T M b=_
  cases dX T M b<;>rfl
 |k::a,la,h=>by
  unfold dX at h
  show(match gq T M k with
   |.no c=>Nrs.no c
   |.ok k'=>match dX T M (a++b) with
    |.no c=>.no c
    |.ok l=>.ok (k'::l))=_
  cases hk:gq T M k with
  |no c =>
   rw [hk] at h
   cases h
  |ok k' =>
   rw [hk] at h
   cases ha:dX T M a with
   |no c =>
    rw [ha] at h
    cases h
   |ok la' =>
    rw [ha] at h
    injection h with h
    subst h
    show(match dX T M (a++b) with
     |.no c=>Nrs.no c
     |.ok l=>.ok (k'::l))=_
    rw [jR T M b ha]
    cases dX T M b<;>rfl
theorem tG(T:Str × Str->Option Kd)(M:Int)(k:Kd):dX T M [k]=match gq T M k with
  |.no c=>.no c
  |.ok k'=>.ok [k']:=by
 unfold dX
 cases gq T M k<;>rfl
theorem uO(h:dX T M (ks.take i)=.ok ls)(hk:ks[i]?=some k)(hn:gq T M k=.no c):dX T M ks=.no c:=by
 obtain⟨hi,e⟩:=(List.getElem?_eq_some_iff.mp hk)
 have:ks=ks.take i++k::ks.drop (i+1):=by
  rw [<-e,List.getElem_cons_drop,List.take_append_drop]
 rw [this,jR T M _ h]
 unfold dX
 rw [hn]
theorem sQ{T:Str × Str->Option Kd}{M:Int}{ks ls:List Kd}{i:Nat}{k k':Kd}(h:dX T M (ks.take i)=.ok ls)(hk:ks[i]?=some k)(hn:gq T M k=.ok k'):dX T M (ks.take (i+1))=.ok (ls++[k']):=by
 rw [List.take_add_one,hk,jR T M _ h]
 show(match dX T M [k] with
  |.no c=>Nrs.no c
  |.ok lb=>.ok (ls++lb))=_
 rw [tG,hn]
abbrev tiN:List Str:=["full","item","parts","most","taken"]
abbrev tiP:List Str:=["full","item","parts","most"]
def kX(K:W.Frag)(CF:Addr)(cl:Nat->Addr):Sp:=λvs H Q E=>∃(H0:Hp) (fa d1 d2:Addr) (v:V) (pa:Addr) (M:Int) (m1:am) (m2:aY) (parts:aV) (it:It),vs=[.ref fa,v,.ref pa,.int M]/\ao H0 H/\H0 d1=none/\H0 d2=none /\
 eW K H CF fa d1 d2 m1 m2/\oH K H0 v it/\zy it/\fL K H0 CF pa parts/\yx parts/\Ok1 m1/\m1.length<=100/\m2.length<=100/\0<=M/\M<=60/\B9 K CF cl H0 fa d1 d2 Q E (hU parts M m1 m2 it)
theorem lI:aG tiN tiP (ae cZ):=mkS
theorem o9{f fg fn fo CF:Addr}{dV:Value}{cl:Nat->Addr}{fd fdg fdn fdo:FuncData} (F:jU K "take_item" "take_item" cZ dV f fd) (GA:Ca P w K mg base 1 "add_once" fg fdg aoP (o7 (cl 0)))
  (GN:Ca P w K mg base 41 "normal" fn fdn ["kind","own","parts","most"] (nk K CF (cl 2) (cl 3)))
  (GO:Ca P w K mg base 2 "take_opened" fo fdo toP (js K CF cl))
  (cF:Cls K CF) (nK:aZ K CF "kinds") (nF:aZ K CF "funs") (mt:mg "tuple"=none):cE P w K mg base CX0 42 f fd tiP (kX K CF cl):=by
 refine F.ok lI (λvs H Q E h=>?_) (λcdv A outer s H vs Q E hr h=>?_)
 ·obtain⟨H0,fa,d1,d2,v,pa,M,m1,m2,parts,it,rfl,_⟩:=h
  rfl
 obtain⟨H0,fa,d1,d2,v,pa,M,m1,m2,parts,it,rfl,s0,hd1,hd2,hF,hI,hIo,hP,hPo,ho1,l1,l2,M0,M6,hR⟩:=h
 have hu:=dM hr
 have hr1:bZ 1 _:=hr.mono (by decide)
 have hr2:bZ 2 _:=hr.mono (by decide)
 have hrN:bZ 41 _:=hr.mono (by decide)
 refine⟨_,@ai _ _ _ (ce (aW gi (ix0 ak (pv 1) ag) aJ (bd _))
   (@ai _ _ _ (bh (cal GA hr1 (bn (pv 0) rfl >> aN ak (pv 1) ag (λ_ _=>rfl) >> cal GN hrN (aN ak (pv 1) ag (λ_ _=>rfl) >> bn (pv 0) rfl >> pv 2 >> pv 3 >> ad) >> ad))))
   (@ai _ _ _ (ce (aW gi (ix0 ak (pv 1) ag) aJ (bd _))
    (aU (i:=4) lI.nd (aQ bj rfl mt bF (fE (own:=["word","kind"]) (caps:=["full","parts","most"]) (κ:=[0,2,3]) (g:=Be K 2 (qf (jm 0) (qf (jm 1) Bb))) rfl ⟨rfl,by decide +kernel,by decide +kernel,rfl,rfl,(λy hy=>by simp only [List.mem_cons,List.not_mem_nil,or_false] at hy;rcases hy with rfl|rfl|rfl<;>rfl),(λy hy=>by simp only [List.mem_cons,List.not_mem_nil,or_false] at hy;rcases hy with rfl|rfl|rfl<;>exact⟨.inl rfl,rfl,.inl rfl⟩)⟩ rfl
      (jP (ix0 ak (pv 1) ag)) (λ_ _ _ _=>cC rfl (ap (pg0 ["word","kind","full","parts","most"]) (ap (ar (i:=1) (show(["word","kind","full","parts","most"]:List Str).Nodup from by decide +kernel) rfl (Or.inl rfl)) bC)))
      (λ_ _ _ _=>cal GN hrN (pv 1 >> yO (K:=K) rfl (pv 2) rfl >> pv 3 >> pv 4 >> ad)) >> ad)) <|> @ai _ _ _ (bh (cal GA hr1 (bn (pv 0) rfl >> aN ak (pv 1) ag (λ_ _=>rfl) >> @az _ _ _ _ _ (pv 4 >> cal GN hrN (aN ak (pv 1) ag (λ_ _=>rfl) >> bn (pv 0) rfl >> pv 2 >> pv 3 >> ad) >> ad) >> ad))))
    (@ai _ _ _ (bh (cal GO hr2 (pv 0 >> aN ak (pv 1) ag (λ_ _=>rfl) >> pv 2 >> ad))))))),?_⟩
 have hP':=hP
 obtain⟨pkv,hpa,hpk⟩:=hP'
 obtain⟨dx,fs,kv1,kv2,FA⟩:=hF
 have M1:M<=1000000:=by omega
 have hl1:kv1.length=m1.length:=Paired.length FA.p1
 have hl2:kv2.length=m2.length:=Paired.length FA.p2
 have hG:=Ae ho1 hPo
 have PA:∀{H':Hp},ao H0 H'->gs K H' CF pkv (PGo parts):=λe=>(um hpk).same e
 cases it with
 |kind z k =>
  obtain⟨p,y,rfl,hp,hy⟩:=hI
  obtain⟨hz,hk⟩:=hIo
  have hp1:=s0.tup hp
  refine⟨_,rfl,_,_,_,_,rfl,rfl,hp1,(show atI [V.str "kind",.str z,y] 0=some (.str "kind") from rfl),rfl,_,rfl,dE (λ_=>?_) (λc=>absurd (by decide +kernel) c)⟩
  refine⟨_,rfl,fa,CF,dx,fs,_,rfl,FA.obj,cF,nK,FA.fk,_,rfl,_,_,_,_,rfl,rfl,hp1,(show atI [V.str "kind",.str z,y] 1=some (.str z) from rfl),_,rfl,_,_,_,_,rfl,rfl,hp1,(show atI [V.str "kind",.str z,y] 2=some y from rfl),_,rfl,fa,CF,dx,fs,_,rfl,FA.obj,cF,nK,FA.fk,_,rfl,_,rfl,?_⟩
  have hN:NrR cl K H (λv H'=>o7 (cl 0) [.ref d1,.str z,v] H' (λ_ H'=>Q .non H') E) E (gq (tl m1 parts) M k):=by
   unfold hU at hR
   cases hn:gq (tl m1 parts) M k with
   |no c =>
    simp only [hn] at hR
    exact λH' s'=>hR H' (s0.trans s')
   |ok k' =>
    simp only [hn] at hR
    intro H' s' v hv
    have FB:=FA.same s'
    refine⟨d1,z,v,kv1,rfl,hz,FB.h1,by omega,?_⟩
    have hin:=wZ FB.p1 z
    by_cases c:z∈m1.map (·.1)
    ·refine .inl ⟨by rw [hin];exact dt0 c,?_⟩
     simp only [if_pos c] at hR
     exact hR H' (s0.trans s')
    ·refine .inr ⟨by rw [hin];exact df0 c,?_⟩
     simp only [if_neg c] at hR
     exact hR _ (kE (s0.trans s') hd1) ⟨_,_,_,_,FB.put1 c hv⟩
  exact⟨y,k,d1,pa,M,kv1,pkv,look m1,PGo parts,rfl,hy.same s0,xY hk,yL hk,gy hk.1,M0,M1,FA.h1,v0 FA.p1,s0 _ _ hpa,PA s0,λH' s' e=>hN.two H' s' e,λe=>⟨(mG hG hk).1,λH' s'=>hN.rest e H' s'⟩⟩
 |fn z ps k =>
  obtain⟨p,ta,y,zz,xs,rfl,hp,hta,hxs,hy⟩:=hI
  obtain⟨hz,hps,hpk',hk⟩:=hIo
  have hp1:=s0.tup hp
  have hta1:=s0.tup hta
  have hlen:xs.length=ps.length:=Paired.length hxs
  refine⟨_,rfl,_,_,_,_,rfl,rfl,hp1,(show atI [V.str "fun",.str z,.ref ta,y,zz] 0=some (.str "fun") from rfl),rfl,_,rfl,dE (λc=>nK0 c) (λ_=>?_)⟩
  refine⟨_,rfl,_,_,_,_,rfl,rfl,hp1,(show atI [V.str "fun",.str z,.ref ta,y,zz] 0=some (.str "fun") from rfl),rfl,_,rfl,dE (λ_=>?_) (λc=>absurd (by decide +kernel) c)⟩
  refine⟨_,rfl,_,_,_,_,rfl,rfl,hp1,(show atI [V.str "fun",.str z,.ref ta,y,zz] 2=some (.ref ta) from rfl),ta,rfl,⟨_,hta1⟩,?_⟩
  refine xT hta1 (by omega) (λi ys H3=>ys.length<=i/\∃ls,bU K H3 ys ls/\dX (tl m1 parts) M ((ps.map (·.2)).take i)=.ok ls) ⟨Nat.le_refl _,[],.nil,rfl⟩ (λi ys H2 h=>h.1) ?_ ?_
  ·rintro i x ys H2 N hN hx s2 ⟨hyl,ls,hls,hno⟩
   obtain⟨⟨t,g⟩,hq,p',yk,rfl,hp',hyk⟩:=aI hxs hx
   replace hp':SqT K H0 p' [.str t,yk]:=hp'
   replace hyk:bK K H0 yk g:=hyk
   have hm:=List.mem_of_getElem? hq
   have hg:ItK g:=hpk' (t,g) hm
   have hq2:(ps.map (·.2))[i]?=some g:=by rw [List.getElem?_map,hq];rfl
   have F2:=FA.same s2
   have s02:=s0.trans s2
   refine⟨p',_,rfl,s02.tup hp',rfl,_,_,rfl,_,_,rfl,rfl,rfl,di ?_⟩
   have hNn:NrR cl K H2 (λv H6=>N (ys++[v]) H6) E (gq (tl m1 parts) M g):=by
    cases hn:gq (tl m1 parts) M g with
    |no c =>
     have e:=uO hno hq2 hn
     unfold hU at hR
     simp only [e] at hR
     exact λH' s'=>hR H' (s02.trans s')
    |ok k' =>
     exact λH' s' v hv=>hN _ _ (s2.trans s') ⟨by rw [la0];show ys.length+1<=i+1;omega,_,(hls.same s').append (.cons hv .nil),sQ hno hq2 hn⟩
   refine⟨_,rfl,_,rfl,fa,CF,dx,fs,_,rfl,F2.obj,cF,nK,F2.fk,_,rfl,_,rfl,?_⟩
   exact⟨yk,g,d1,pa,M,kv1,pkv,look m1,PGo parts,rfl,hyk.same s02,xY hg,yL hg,gy hg.1,M0,M1,F2.h1,v0 F2.p1,s02 _ _ hpa,PA s02,λH' s' e=>hNn.two H' s' e,λe=>⟨(mG hG hg).1,λH' s'=>hNn.rest e H' s'⟩⟩
  ·rintro ys H2 D s2 ⟨hyl,ls,hls,hno⟩ hD
   rw [hlen,show ps.length=(ps.map (·.2)).length from(List.length_map ..).symm,List.take_length] at hno
   have sD:=ac hD (.lst ys)
   refine⟨D,ys,rfl,.inl ⟨SqL.of aa,λl hl=>?_⟩⟩
   have sl:=ac hl (.tup ys)
   have s3:=s2.trans (sD.trans sl)
   have F3:=FA.same s3
   have s03:=s0.trans s3
   have hp3:=s03.tup hp
   refine⟨_,rfl,fa,CF,dx,fs,_,rfl,F3.obj,cF,nF,F3.ff,_,rfl,_,_,_,_,rfl,rfl,hp3,(show atI [V.str "fun",.str z,.ref ta,y,zz] 1=some (.str z) from rfl),_,rfl,_,rfl,_,_,_,_,rfl,rfl,hp3,(show atI [V.str "fun",.str z,.ref ta,y,zz] 3=some y from rfl),_,rfl,fa,CF,dx,fs,_,rfl,F3.obj,cF,nK,F3.fk,_,rfl,_,rfl,?_⟩
   have hls3:=(hls.same sD).same sl
   have hl3:upd (upd H2 D (.lst ys)) l (.tup ys) l=some (.tup ys):=aa
   revert F3 hls3 hl3
   generalize upd (upd H2 D (.lst ys)) l (.tup ys)=B at s3 s03 ⊢
   intro F3 hls3 hl3
   have hN:NrR cl K B (λv H'=>Wf HO.tup [.ref l,v] H' (λx H1=>o7 (cl 0) [.ref d2,.str z,x] H1 (λ_ H'=>Q .non H') E)) E (gq (tl m1 parts) M k):=by
    unfold hU at hR
    simp only [hno] at hR
    cases hn:gq (tl m1 parts) M k with
    |no c =>
     simp only [hn] at hR
     exact λH' s'=>hR H' (s03.trans s')
    |ok k' =>
     simp only [hn] at hR
     intro H' s' v hv
     refine⟨(sz 2),λp2 hp2=>?_⟩
     have s5:=ac hp2 (.tup [.ref l,v])
     have FB:=(F3.same s').same s5
     refine⟨d2,z,.ref p2,kv2,rfl,hz,FB.h2,by omega,?_⟩
     have hin:=wZ FB.p2 z
     by_cases c:z∈m2.map (·.1)
     ·refine .inl ⟨by rw [hin];exact dt0 c,?_⟩
      simp only [if_pos c] at hR
      exact hR _ (s03.trans (s'.trans s5))
     ·refine .inr ⟨by rw [hin];exact df0 c,?_⟩
      simp only [if_neg c] at hR
      exact hR _ (kE (s03.trans (s'.trans s5)) hd2) ⟨_,_,_,_,FB.put2 c ⟨p2,l,v,ys,rfl,SqT.of aa,SqT.of (s5 _ _ (s' _ _ hl3)),(hls3.same s').same s5,hv.same s5⟩⟩
   exact⟨y,k,d1,pa,M,kv1,pkv,look m1,PGo parts,rfl,hy.same s03,xY hk,yL hk,gy hk.1,M0,M1,F3.h1,v0 F3.p1,s03 _ _ hpa,PA s03,λH' s' e=>hN.two H' s' e,λe=>⟨(mG hG hk).1,λH' s'=>hN.rest e H' s'⟩⟩
 |opn q =>
  obtain⟨p,rfl,hp⟩:=hI
  have hp1:=s0.tup hp
  refine⟨_,rfl,_,_,_,_,rfl,rfl,hp1,(show atI [V.str "open",.str q] 0=some (.str "open") from rfl),rfl,_,rfl,dE (λc=>nK0 c) (λ_=>?_)⟩
  refine⟨_,rfl,_,_,_,_,rfl,rfl,hp1,(show atI [V.str "open",.str q] 0=some (.str "open") from rfl),rfl,_,rfl,dE (λc=>nK0 c) (λ_=>?_)⟩
  refine⟨_,rfl,_,rfl,_,_,_,_,rfl,rfl,hp1,(show atI [V.str "open",.str q] 1=some (.str q) from rfl),_,rfl,?_⟩
  rw [qF] at hR
  exact⟨H0,fa,d1,d2,q,pa,m1,m2,parts,rfl,s0,hd1,hd2,⟨_,_,_,_,FA⟩,hIo,hP,hPo,l1,l2,hR⟩
theorem j7{α:Type}:∀(b m n:List (Str × α)),bq m b=some n->n=m++b
 |[],m,n,h=>by
  cases h
  rw [List.append_nil]
 |q::b,m,n,h=>by
  unfold bq at h
  by_cases c:q.1∈m.map (·.1)
  ·rw [if_pos c] at h
   cases h
  ·rw [if_neg c] at h
   rw [j7 b _ _ h,List.append_assoc]
   rfl
theorem x0(hP:yx parts)(hM:M<=60)(h1:Ok1 m1)(hi:zy it)(h:hU parts M m1 m2 it=.ok n1 n2):Ok1 n1/\n1.length<=m1.length+5/\n2.length<=m2.length+5:=by
 have hG:=Ae h1 hP
 cases it with
 |kind w k =>
  unfold hU at h
  cases hn:gq (tl m1 parts) M k with
  |no c=>simp only [hn] at h;cases h
  |ok k' =>
   simp only [hn] at h
   by_cases c:w∈m1.map (·.1)
   ·simp only [if_pos c] at h;cases h
   ·simp only [if_neg c] at h
    injection h with e1 e2
    subst e1 e2
    obtain⟨e,hw⟩:=rY hn
    refine⟨λq hq=>?_,by rw [la0];show m1.length+1<=_;omega,by omega⟩
    rcases List.mem_append.mp hq with hq|hq
    ·exact h1 q hq
    ·rw [List.mem_singleton.mp hq]
     exact⟨hi.1,by rw [e];exact(mG hG hi.2).2,by show k'.words<=60;omega⟩
 |fn w ps k =>
  unfold hU at h
  cases hn:dX (tl m1 parts) M (ps.map (·.2)) with
  |no c=>simp only [hn] at h;cases h
  |ok ks =>
   simp only [hn] at h
   cases hn2:gq (tl m1 parts) M k with
   |no c=>simp only [hn2] at h;cases h
   |ok k' =>
    simp only [hn2] at h
    by_cases c:w∈m2.map (·.1)
    ·simp only [if_pos c] at h;cases h
    ·simp only [if_neg c] at h
     injection h with e1 e2
     subst e1 e2
     exact⟨h1,by omega,by rw [la0];show m2.length+1<=_;omega⟩
 |opn p =>
  rw [qF] at h
  unfold pK at h
  cases hl:look parts p with
  |none=>simp only [hl] at h;cases h
  |some r =>
   simp only [hl] at h
   obtain⟨o1,o2,r1,r2,_⟩:=hP _ (eZ hl)
   cases ha:bq m1 r.1 with
   |none=>simp only [ha] at h;cases h
   |some a1 =>
    simp only [ha] at h
    cases hb:bq m2 r.2 with
    |none=>simp only [hb] at h;cases h
    |some a2 =>
     simp only [hb] at h
     injection h with e1 e2
     subst e1 e2
     have z1:=j7 _ _ _ ha
     have z2:=j7 _ _ _ hb
     replace r1:r.1.length<=5:=r1
     replace r2:r.2.length<=5:=r2
     refine⟨λq hq=>?_,by rw [z1,la0];omega,by rw [z2,la0];omega⟩
     rw [z1] at hq
     rcases List.mem_append.mp hq with hq|hq
     ·exact h1 q hq
     ·exact o1 q hq
theorem rp{parts:aV}{M:Int}{its:List It}{i:Nat}{it:It}{m1:am}{m2:aY}(h:nE parts M (its.take i)=.ok m1 m2)(hi:its[i]?=some it):nE parts M (its.take (i+1))=hU parts M m1 m2 it:=by
 rw [List.take_add_one,hi,mv,h]
 rfl
theorem yN{parts:aV}{M:Int}{its:List It}{i c:Nat}{it:It}{m1:am}{m2:aY}(h:nE parts M (its.take i)=.ok m1 m2)(hi:its[i]?=some it)(hs:hU parts M m1 m2 it=.ref c):nE parts M its=.ref c:=by
 have e:=rp h hi
 rw [hs] at e
 have:its=its.take (i+1)++its.drop (i+1):=(List.take_append_drop ..).symm
 rw [this,mv,e,q5]
abbrev ffN:List Str:=["items","parts","most","full","item"]
abbrev ffP:List Str:=["items","parts","most"]
def CZ(K:W.Frag)(CF:Addr)(cl:Nat->Addr)(H:Hp)(Q:VK)(E:XK):FR->Prop
 |.ok m1 m2=>∀(H':Hp) (fa d1 d2:Addr),ao H H'->H d1=none->H d2=none->H fa=none->eW K H' CF fa d1 d2 m1 m2->Q (.ref fa) H'
 |.ref c=>∀H',ao H H'->False
def xt(K:W.Frag)(CF:Addr)(cl:Nat->Addr):Sp:=λvs H Q E=>∃(ia:Addr) (xs:List V) (its:List It) (pa:Addr) (M:Int) (parts:aV),vs=[.ref ia,.ref pa,.int M]/\SqT K H ia xs/\Paired (oH K H) xs its/\its.length<=20/\(∀it∈its,zy it) /\
 fL K H CF pa parts/\yx parts/\0<=M/\M<=60/\CZ K CF cl H Q E (nE parts M its)
theorem ve:aG ffN ffP (ae cP):=mkS
theorem za{f ft fi CF:Addr}{dV:Value}{cl:Nat->Addr}{fd fdt fdi:FuncData} (F:jU K "full_face" "full_face" cP dV f fd)
  (GT:Ca P w K mg base 42 "take_item" ft fdt tiP (kX K CF cl))
  (GI:cE P w K mg base CX0 1 fi fdi ["self","kinds","funs"] (gY CF)) (bI:cU K fdi ["self","kinds","funs"] []) (MF:Mk K CF fi) (mC:mg "Face"=some (.ref CF)) :
  cE P w K mg base CX0 43 f fd ffP (xt K CF cl):=by
 refine F.ok ve (λvs H Q E h=>?_) (λcdv A outer s H vs Q E hr h=>?_)
 ·obtain⟨ia,xs,its,pa,M,parts,rfl,_⟩:=h
  rfl
 obtain⟨ia,xs,its,pa,M,parts,rfl,hia,hxs,h20,hio,hP,hPo,M0,M6,hR⟩:=h
 have hr2:bZ (1+1) _:=hr.mono (by decide)
 refine⟨_,@pss_cons _ _ _ _ _ (aU (i:=3) ve.nd (eO MF GI hr2 (by rfl) mC bI .nil d9 (fY >> fY >> ad)))
  (bY PassesOwn.never rfl (jP (pv 0)) (ar (i:=4) ve.nd rfl (Or.inl rfl)) (@ai _ _ _ (bh (cal GT hr (pv 3 >> pv 4 >> pv 1 >> pv 2 >> ad)))) <|> @ai _ _ _ (@aP _ _ _ _ (pv 3))),?_⟩
 intro k1 hk1
 have t1:=ac hk1 (.dK [])
 intro k2 hk2
 have t2:=ac hk2 (.dK [])
 have t12:=t1.trans t2
 intro x dx' nx ndx nex
 have ea:=ac ndx (.own x)
 have nx':upd (upd (upd H k1 (.dK [])) k2 (.dK [])) dx' (.own x) x=none:=by rw [ah (Ne.symm nex)];exact nx
 have eab:=ea.trans (ac nx' (.ins CF dx' []))
 refine⟨x,dx',k1,k2,[],[],rfl,aa,eab _ _ (t2 _ _ aa),eab _ _ aa,λd e fs' H7 hd he nde hx lk lf lh lp hd7 he7 keep=>⟨rfl,?_⟩⟩
 have s7:ao H H7:=λb o hb=>keep b o (eab _ _ (t12 _ _ hb)) (λz=>by rw [z,t12.free nx] at hb;cases hb)
 have hd0:H d=none:=(t12.trans eab).free hd
 have he0:H e=none:=(t12.trans eab).free he
 have hx0:H x=none:=t12.free nx
 have F7:eW K H7 CF x d e [] []:=⟨dx',fs',[],[],hx,lk,lf,hd7,he7,.nil,.nil,lh,lp,nde⟩
 have hlen:xs.length=its.length:=Paired.length hxs
 refine⟨_,rfl,ia,rfl,⟨_,s7.tup hia⟩,?_⟩
 refine p9 (K:=K) (xs:=xs) (λi σ H3=>∃(y4:Option V) (m1:am) (m2:aY),σ=[some (.ref ia),some (.ref pa),some (.int M),some (.ref x),y4]/\ao H H3/\eW K H3 CF x d e m1 m2/\nE parts M (its.take i)=.ok m1 m2/\Ok1 m1/\m1.length<=5*i/\m2.length<=5*i)
  ⟨none,[],[],rfl,s7,F7,rfl,(λq hq=>nomatch hq),Nat.le_refl _,Nat.le_refl _⟩ ?_ ?_ ?_
 ·rintro i σ H3 _ ⟨_,_,_,_,s3,_⟩
  exact s3.tup hia
 ·rintro i y σ H3 hy ⟨y4,m1,m2,rfl,s3,F3,hrun,ho1,l1,l2⟩
  obtain⟨it,hit,hI⟩:=aI hxs hy
  have hil:i < its.length:=(List.getElem?_eq_some_iff.mp hit).1
  have hio':=hio it (List.mem_of_getElem? hit)
  refine⟨_,rfl,_,rfl,_,rfl,_,rfl,H,x,d,e,y,pa,M,m1,m2,parts,it,rfl,s3,hd0,he0,F3,hI,hio',hP,hPo,ho1,by omega,by omega,M0,M6,?_⟩
  cases hs:hU parts M m1 m2 it with
  |ref c =>
   rw [yN hrun hit hs] at hR
   exact hR
  |ok n1 n2 =>
   obtain⟨o1,o2,o3⟩:=x0 hPo M6 ho1 hio' hs
   exact λH' s' F'=>⟨_,n1,n2,rfl,s',F',by rw [rp hrun hit];exact hs,o1,by omega,by omega⟩
 ·rintro σ H3 ⟨y4,m1,m2,rfl,s3,F3,hrun,_⟩
  rw [hlen,List.take_length] at hrun
  rw [hrun] at hR
  exact⟨_,rfl,hR H3 x d e s3 hd0 he0 hx0 F3⟩
theorem AK (F:jU K "full_face" "full_face" cP (.ref T) f fd) (lT:K.lookup T=some ⟨oT,dT,.seq #[.int 40 tk] nT,sT⟩):cU K fd ffP [.int 40 tk] :=
 F.binds lT λ_ _ _ _ _ _ us hl=>by
  have hl':us.length=2:=by simpa using hl
  repeat(obtain⟨_,_,rfl,z⟩:=lo hl';clear hl';have hl':=z;clear z)
  cases List.length_eq_zero_iff.mp hl'
  exact⟨_,rfl,rfl⟩
end
theorem ik:∀{k:Kd},(∀l∈k.leaves,Kd.sm l)->Kd.sm k
 |.num n,h=>h _ (List.mem_singleton.mpr rfl)
 |.name q t,h=>h _ (List.mem_singleton.mpr rfl)
 |.pair a b,h=>⟨ik λl hl=>h l (List.mem_append_left _ hl),ik λl hl=>h l (List.mem_append_right _ hl)⟩
theorem nI(h:smW z):Kd.sm (eu z):=⟨⟨by decide +kernel,by decide +kernel⟩,h.1,h.2⟩
def Bk(n:Nat)(k:Kd):Prop:=Kd.sm k/\k.leaves.length<=n
def BK(n:Nat)(m:List (Str × Kd)):Prop:=∀q∈m,smW q.1/\Bk n q.2
def BF(n:Nat)(m:List (Str × (List Kd × Kd))):Prop:=∀q∈m,smW q.1/\q.2.1.length<=4/\∀k∈q.2.2::q.2.1,Bk n k
theorem zQ(hk:∀k∈ks,Kd.sm k)(hh:∀z∈hs,smW z)(h:LfS hs ks l):Kd.sm l:=by
 rcases h with h|⟨n,rfl,h0,h1⟩|⟨z,hz,rfl⟩
 ·exact hk l h
 ·exact⟨h0,h1⟩
 ·exact nI (hh z hz)
theorem va(hk:∀k∈ks,Kd.sm k)(hh:∀z∈hs,smW z)(h:kC (LfS hs ks) k):Bk 2 k:=⟨ik λl hl=>zQ hk hh (h.1 l hl),h.2.1⟩
section
variable{c c2 sh:Int}{ks:List Kd}{m1:List (Str × Kd)}{m2:List (Str × (List Kd × Kd))}
theorem cD.sw(h:cD c c2 sh ks m1 m2):∀q∈m1,smW q.1:=λq hq=>by
 obtain⟨j,_,e⟩:=h.w1 q hq
 rw [e]
 exact oq _ _
theorem cD.hw(h:cD c c2 sh ks m1 m2):∀z∈ba m1,smW z:=λz hz=>h.sw _ (cO.mp hz)
theorem cD.b1(h:cD c c2 sh ks m1 m2)(hk:∀k∈ks,Kd.sm k):BK 2 m1:=λq hq=>by
 refine⟨h.sw q hq,?_⟩
 rcases h.k1 q hq with e|e
 ·rw [e]
  exact⟨nI (h.sw q hq),by show 1<=2;decide⟩
 ·exact va hk h.hw e
theorem cD.b2(h:cD c c2 sh ks m1 m2)(hk:∀k∈ks,Kd.sm k):BF 2 m2:=λq hq=>⟨(h.fu.2.2.2 q hq).1,(h.fu.2.2.2 q hq).2.1,λk hk'=>va hk h.hw ((h.fu.2.2.2 q hq).2.2 k hk')⟩
end
theorem dz(h:smW z):okW z:=⟨h.1,by have:=h.2;omega⟩
theorem bV(h:Bk n k):k.words+1<=2*n:=by
 have h1:=cz k
 have h2:=h.2
 omega
theorem aR(h:Bk n k):Kd.depth k<=n:=Nat.le_trans (dw k) h.2
theorem Bk.mono(h:Bk a k)(l:a<=b):Bk b k:=⟨h.1,Nat.le_trans h.2 l⟩
theorem yo(nd1:(m1.map (·.1)).Nodup)(nd2:(m2.map (·.1)).Nodup)(l1:m1.length<=100)(l2:m2.length<=100)(h1:BK 18 m1)(h2:BF 18 m2):uP m1 m2 :=
 ⟨nd1,nd2,l1,l2,λq hq=>⟨dz (h1 q hq).1,fT (h1 q hq).2.1,by have:=bV (h1 q hq).2;omega⟩,λq hq=>⟨dz (h2 q hq).1,λk hk=>⟨fT ((h2 q hq).2.2 k (List.mem_cons_of_mem _ hk)).1,by have:=bV ((h2 q hq).2.2 k (List.mem_cons_of_mem _ hk));omega⟩,⟨fT ((h2 q hq).2.2 _ (List.mem_cons_self ..)).1,by have:=bV ((h2 q hq).2.2 _ (List.mem_cons_self ..));omega⟩,Nat.le_trans (h2 q hq).2.1 (by decide)⟩⟩
theorem yZ(h1:BK 18 m1)(h2:BF 18 m2):rW 40 m1 m2:=by
 refine⟨λq hq=>?_,λq hq=>⟨λk hk=>?_,?_⟩⟩
 ·have:=bV (h1 q hq).2
  omega
 ·have:=bV ((h2 q hq).2.2 k (List.mem_cons_of_mem _ hk))
  omega
 ·have:=bV ((h2 q hq).2.2 _ (List.mem_cons_self ..))
  omega
theorem yC(h:∀k∈ks,k.words<=n):zu ks<=ks.length*n:=by
 induction ks with
 |nil=>exact Nat.zero_le _
 |cons k ks ih =>
  have h1:=h k (List.mem_cons_self ..)
  have h2:=ih λk' hk'=>h k' (List.mem_cons_of_mem _ hk')
  have e:zu (k::ks)=k.words+zu ks:=rfl
  rw [e,lc0,Nat.succ_mul]
  omega
theorem lc(hn:1<=n)(hG:∀m g,G m=some g->Bk n g)(h:Bk a k):Bk (a*n) (Kd.put G k) :=
 ⟨lL (λm g e=>(hG m g e).1) h.1,Nat.le_trans (fH hn (λm g e=>(hG m g e).2) k) (Nat.mul_le_mul_right _ h.2)⟩
theorem BK.mono(h:BK a m)(l:a<=b):BK b m:=λq hq=>⟨(h q hq).1,(h q hq).2.mono l⟩
theorem BF.mono(h:BF a m)(l:a<=b):BF b m:=λq hq=>⟨(h q hq).1,(h q hq).2.1,λk hk=>((h q hq).2.2 k hk).mono l⟩
theorem oR(hn:1<=n)(hG:∀m g,G m=some g->Bk n g)(h:BK a m1):BK (a*n) (m1.map (cA G)):=λq hq=>by
 obtain⟨q',hq',rfl⟩:=List.mem_map.mp hq
 exact⟨(h q' hq').1,lc hn hG (h q' hq').2⟩
theorem ll(hn:1<=n)(hG:∀m g,G m=some g->Bk n g)(h:BF a m2):BF (a*n) (m2.map (cq G)):=λq hq=>by
 obtain⟨q',hq',rfl⟩:=List.mem_map.mp hq
 refine⟨(h q' hq').1,by show(q'.2.1.map _).length<=4;rw [lm0];exact(h q' hq').2.1,λk hk=>?_⟩
 rcases mc0 hk with rfl|hk
 ·exact lc hn hG ((h q' hq').2.2 _ (List.mem_cons_self ..))
 ·obtain⟨k',hk',rfl⟩:=List.mem_map.mp hk
  exact lc hn hG ((h q' hq').2.2 k' (List.mem_cons_of_mem _ hk'))
theorem nJ:∀k:Kd,AlD (Kd.depth k+1) (Kd.dat k)
 |.num n=>⟨by show 2<=100;decide,λd hd=>by
   rcases mc0 hd with rfl|hd
   ·trivial
   ·rw [List.mem_singleton.mp hd];trivial⟩
 |.name q t=>⟨by show 3<=100;decide,λd hd=>by
   rcases mc0 hd with rfl|hd
   ·trivial
   ·rcases mc0 hd with rfl|hd
    ·trivial
    ·rw [List.mem_singleton.mp hd];trivial⟩
 |.pair a b=>⟨by show 3<=100;decide,λd hd=>by
   rcases mc0 hd with rfl|hd
   ·exact(show AlD (Kd.depth (.pair a b)) (.str "pair") from(show AlD (0+1) (.str "pair") from trivial).le (iy _))
   ·rcases mc0 hd with rfl|hd
    ·exact(nJ a).le (by show _<=1+max _ _;omega)
    ·rw [List.mem_singleton.mp hd]
     exact(nJ b).le (by show _<=1+max _ _;omega)⟩
theorem zM(hn:n<=30)(h:Bk n k):AlD 40 (Kd.dat k):=(nJ k).le (by have:=aR h;omega)
theorem Ay(hl:f.1.length<=5)(h:∀k∈f.2::f.1,Bk 18 k):AlD 40 (Fn.dat f):=by
 refine⟨by show 2<=100;decide,λd hd=>?_⟩
 rcases mc0 hd with rfl|hd
 ·refine⟨by rw [lm0];omega,λd hd=>?_⟩
  obtain⟨k,hk,rfl⟩:=List.mem_map.mp hd
  exact(nJ k).le (by have:=aR (h k (List.mem_cons_of_mem _ hk));show Kd.depth k+1<=38;omega)
 ·rw [List.mem_singleton.mp hd]
  exact(nJ _).le (by have:=aR (h _ (List.mem_cons_self ..));show Kd.depth f.2+1<=39;omega)
theorem kz(l1:m1.length<=100)(l2:m2.length<=100)(h1:BK 18 m1)(h2:BF 18 m2):AlM m1 m2:=⟨l1,l2,λq hq=>zM (by decide) (h1 q hq).2,λq hq=>Ay (Nat.le_trans (h2 q hq).2.1 (by decide)) (h2 q hq).2.2⟩
def Clo:Kd->Prop
 |.num _=>True
 |.name q _=>q≠""
 |.pair a b=>Clo a/\Clo b
theorem gz:∀{k:Kd},(∀l∈k.leaves,Clo l)->Clo k
 |.num _,_=>trivial
 |.name _ _,h=>h _ (List.mem_singleton.mpr rfl)
 |.pair _ _,h=>⟨gz λl hl=>h l (List.mem_append_left _ hl),gz λl hl=>h l (List.mem_append_right _ hl)⟩
theorem nu(hG:∀n g,G n=some g->Clo g):∀{k:Kd},Clo k->Clo (Kd.put G k)
 |.num _,_=>trivial
 |.name q t,h=>by
  show Clo ((G (q,t)).getD (.name q t))
  cases e:G (q,t) with
  |none=>exact h
  |some g=>exact hG _ _ e
 |.pair _ _,h=>⟨nu hG h.1,nu hG h.2⟩
theorem jZ (hG:∀n:Str × Str,n.1≠""->G n=none):∀{k:Kd},Clo k->Kd.put G k=k
 |.num _,_=>rfl
 |.name q t,h=>by
  show(G (q,t)).getD (.name q t)=_
  rw [hG (q,t) h]
  rfl
 |.pair a b,h=>by
  show Kd.pair (Kd.put G a) (Kd.put G b)=_
  rw [jZ hG h.1,jZ hG h.2]
def Gl(ws:List (Str × Kd)):Str × Str->Option Kd:=λn=>if n.1="" then look ws n.2 else none
theorem xG(ws:List (Str × Kd)):∀n:Str × Str,n.1≠""->Gl ws n=none:=λn h=>if_neg h
theorem hJ(h:Gl ws n=some g):(n.2,g)∈ws:=by
 unfold Gl at h
 split at h
 ·exact eK h
 ·cases h
theorem j0(hw:∀q∈ws,Clo q.2):∀k:Kd,Kd.put (Gl us) (Kd.put (Gl ws) k)=Kd.put (Gl (ws++us)) k
 |.num _=>rfl
 |.pair a b=>by
  show Kd.pair _ _=Kd.pair _ _
  rw [j0 hw a,j0 hw b]
 |.name q t=>by
  show Kd.put (Gl us) ((Gl ws (q,t)).getD (.name q t))=(Gl (ws++us) (q,t)).getD (.name q t)
  by_cases e:q=""
  ·have e1:Gl ws (q,t)=look ws t:=if_pos e
   have e2:Gl (ws++us) (q,t)=(look ws t).or (look us t):=by rw [<-wF];exact if_pos e
   rw [e1,e2]
   cases e3:look ws t with
   |some g=>exact jZ (xG us) (hw _ (eK e3))
   |none =>
    show(Gl us (q,t)).getD (.name q t)=(look us t).getD (.name q t)
    rw [show Gl us (q,t)=look us t from if_pos e]
  ·have e1:Gl ws (q,t)=none:=if_neg e
   have e2:Gl (ws++us) (q,t)=none:=if_neg e
   rw [e1,e2]
   show(Gl us (q,t)).getD (.name q t)=_
   rw [show Gl us (q,t)=none from if_neg e]
theorem rA(hw:∀q∈ws,Clo q.2)(m:List (Str × Kd)):(m.map (cA (Gl ws))).map (cA (Gl us))=m.map (cA (Gl (ws++us))):=by
 rw [List.map_map]
 refine List.map_congr_left λq _=>?_
 show(q.1,Kd.put (Gl us) (Kd.put (Gl ws) q.2))=(q.1,_)
 rw [j0 hw]
theorem rj(hw:∀q∈ws,Clo q.2)(m:List (Str × (List Kd × Kd))):(m.map (cq (Gl ws))).map (cq (Gl us))=m.map (cq (Gl (ws++us))):=by
 rw [List.map_map]
 refine List.map_congr_left λq _=>?_
 show(q.1,((q.2.1.map (Kd.put (Gl ws))).map (Kd.put (Gl us)),Kd.put (Gl us) (Kd.put (Gl ws) q.2.2)))=(q.1,(q.2.1.map (Kd.put (Gl (ws++us))),Kd.put (Gl (ws++us)) q.2.2))
 have e:(q.2.1.map (Kd.put (Gl ws))).map (Kd.put (Gl us))=q.2.1.map (Kd.put (Gl (ws++us))):=by
  rw [List.map_map]
  exact List.map_congr_left λk _=>j0 hw k
 rw [e,j0 hw]
theorem AN(z:Str)(g:Kd):eL z g=Gl [(z,g)]:=by
 funext n
 obtain⟨a,b⟩:=n
 unfold eL Gl
 by_cases e:a=""
 ·rw [if_pos e]
  by_cases e2:b=z
  ·rw [if_pos (by rw [e,e2]),e2]
   exact(bu (m:=[(z,g)]) (List.nodup_cons.mpr ⟨List.not_mem_nil,.nil⟩) (List.mem_singleton.mpr rfl)).symm
  ·rw [if_neg (λh=>e2 (congrArg Prod.snd h))]
   refine(eR λh=>?_).symm
   rw [List.map_cons,List.map_nil,List.mem_singleton] at h
   exact e2 h
 ·rw [if_neg e,if_neg (λh=>e (congrArg Prod.fst h))]
theorem ix(h:∀n,G n=none):∀k:Kd,Kd.put G k=k
 |.num _=>rfl
 |.name q t=>by
  show(G (q,t)).getD _=_
  rw [h]
  rfl
 |.pair a b=>by
  show Kd.pair _ _=_
  rw [ix h a,ix h b]
theorem vq(n:Str × Str):Gl [] n=none:=by
 unfold Gl
 split<;>rfl
theorem oV(m:List (Str × Kd)):m.map (cA (Gl []))=m:=by
 refine(List.map_congr_left λq _=>?_).trans (List.map_id m)
 show(q.1,_)=q
 rw [ix vq]
theorem oo(m:List (Str × (List Kd × Kd))):m.map (cq (Gl []))=m:=by
 refine(List.map_congr_left λq _=>?_).trans (List.map_id m)
 show(q.1,(q.2.1.map _,_))=q
 rw [ix vq,List.map_congr_left (g:=id) λk _=>ix vq k,List.map_id]
theorem pR(hn:1<=n)(han:a*n<=18)(h1:BK a m1)(h2:BF a m2):∀{ws us:List (Str × Kd)},(∀q∈ws++us,Clo q.2/\Bk n q.2/\q.1∈ba m1)->((ws++us).map (·.1)).Nodup ->
  us.foldl jA (.ok (m1.map (cA (Gl ws))) (m2.map (cq (Gl ws))))=.ok (m1.map (cA (Gl (ws++us)))) (m2.map (cq (Gl (ws++us))))
 |ws,[],_,_=>by
  rw [List.append_nil]
  rfl
 |ws,(z,g)::us,h,nd=>by
  have ea:ws++(z,g)::us=(ws++[(z,g)])++us:=by rw [List.append_assoc];rfl
  have hw:∀q∈ws,Clo q.2:=λq hq=>(h q (List.mem_append_left _ hq)).1
  have ih:=pR hn han h1 h2 (ws:=ws++[(z,g)]) (us:=us) (by rw [<-ea];exact h) (by rw [<-ea];exact nd)
  rw [ea,<-ih]
  show us.foldl jA (jA (.ok (m1.map (cA (Gl ws))) (m2.map (cq (Gl ws)))) (z,g))=_
  have hz:z∈ba (m1.map (cA (Gl ws))):=by
   refine cO.mpr (List.mem_map.mpr ⟨(z,eu z),cO.mp (h (z,g) (List.mem_append_right _ (List.mem_cons_self ..))).2.2,?_⟩)
   show(z,(Gl ws ("",z)).getD (eu z))=_
   have:Gl ws ("",z)=none:=by
    show look ws z=none
    refine eR λhm=>?_
    rw [ma0] at nd
    exact(List.nodup_append.mp nd).2.2 z hm z (List.mem_cons_self ..) rfl
   rw [this]
   rfl
  have b:∀m g',Gl (ws++[(z,g)]) m=some g'->Bk n g':=λm g' e=>(h (m.2,g') (by rw [ea];exact List.mem_append_left _ (hJ e))).2.1
  have hfit:zG (m1.map (cA (Gl (ws++[(z,g)])))) (m2.map (cq (Gl (ws++[(z,g)]))))=true:=lV.mpr (yZ ((oR hn b h1).mono han) ((ll hn b h2).mono han))
  have e:jA (.ok (m1.map (cA (Gl ws))) (m2.map (cq (Gl ws)))) (z,g)=.ok (m1.map (cA (Gl (ws++[(z,g)])))) (m2.map (cq (Gl (ws++[(z,g)])))):=by
   show(if z∈ba (m1.map (cA (Gl ws))) then (if zG ((m1.map (cA (Gl ws))).map (cA (eL z g))) ((m2.map (cq (Gl ws))).map (cq (eL z g)))=true then RR.ok ((m1.map (cA (Gl ws))).map (cA (eL z g))) ((m2.map (cq (Gl ws))).map (cq (eL z g))) else .big) else .no)=_
   rw [if_pos hz,AN,rA hw,rj hw,if_pos hfit]
  rw [e]
theorem dZ:∀{k:Kd} {n:Str × Str},n∈Kd.names k->Kd.name n.1 n.2∈k.leaves
 |.num _,_,h=>nomatch h
 |.name q t,n,h=>by
  rw [List.mem_singleton.mp h]
  exact List.mem_singleton.mpr rfl
 |.pair a b,n,h=>by
  rcases List.mem_append.mp h with h|h
  ·exact List.mem_append_left _ (dZ h)
  ·exact List.mem_append_right _ (dZ h)
theorem ie(h:gl.map (·.1)=hs):ij gl hs=Gl gl:=by
 funext n
 unfold ij Gl
 by_cases e:n.1=""
 ·rw [if_pos e]
  by_cases e2:n.2∈hs
  ·rw [if_pos ⟨e,e2⟩]
  ·rw [if_neg λh=>e2 h.2]
   exact(eR λh'=>e2 (h▸h')).symm
 ·rw [if_neg e,if_neg λh=>e h.1]
theorem zi(nd1:(f1.map (·.1)).Nodup)(nd2:(f2.map (·.1)).Nodup)(s1:∀q∈a1.map (cA G),q∈f1)(s2:∀q∈a2.map (cq G),q∈f2)(hG:GOf a1 G):tE f1 a1 f2 a2=none/\Gf f1 a1=G:=by
 have k1:∀q∈a1,look f1 q.1=some (Kd.put G q.2):=λq hq=>bu nd1 (s1 _ (List.mem_map.mpr ⟨q,hq,rfl⟩))
 have k2:∀q∈a2,look f2 q.1=some (de G q.2):=λq hq=>bu nd2 (s2 _ (List.mem_map.mpr ⟨q,hq,rfl⟩))
 have g:=Bp hG λz hz=>k1 _ (cO.mp hz)
 refine⟨?_,g⟩
 unfold tE
 rw [wb λq hq=>by rw [k1 q hq];exact(λh=>nomatch h),g,vM k1,wY k2]
 rfl
theorem AO(h:gl.map (·.1)=ba a1):GOf a1 (Gl gl):=λn=>by
 rw [<-ie h]
 unfold ij
 by_cases c:n.1=""/\n.2∈ba a1
 ·rw [if_pos c]
  refine⟨λ_=>c,λ_=>?_⟩
  rw [<-h] at c
  intro e
  obtain⟨q,hq,e2⟩:=List.mem_map.mp c.2
  unfold look at e
  rw [Option.map_eq_none_iff,List.find?_eq_none] at e
  exact absurd (dt0 e2) (e q hq)
 ·rw [if_neg c]
  exact⟨λh=>absurd rfl h,λh=>absurd h c⟩
theorem wu(nd:(a1.map (·.1)).Nodup)(l1:a1.length<=100)(l2:a2.length<=100)(b1:BK 18 f1)(b2:BF 18 f2)(g1:BK 18 a1)(g2:BF 18 a2)(p1:BK 18 (a1.map (cA (Gf f1 a1))))(p2:BF 18 (a2.map (cq (Gf f1 a1)))):Two f1 a1 f2 a2 40:=by
 have smk:∀{q:Str × Kd},smW q.1/\Bk 18 q.2->SmK q:=λh=>⟨h.1,h.2.1,by have:=bV h.2;omega,by have:=aR h.2;omega⟩
 have smf:∀{q:Str × (List Kd × Kd)},(smW q.1/\q.2.1.length<=4/\∀k∈q.2.2::q.2.1,Bk 18 k)->SmF q:=λh=>⟨h.1,h.2.1,λk hk=>⟨(h.2.2 k hk).1,by have:=bV (h.2.2 k hk);omega,by have:=aR (h.2.2 k hk);omega⟩⟩
 refine⟨l1,l2,λq hq=>smk (b1 q hq),λq hq=>smk (g1 q hq),λq hq=>smf (b2 q hq),λq hq=>smf (g2 q hq),nd,λq hq=>?_,λq hq k hk=>?_,λq hq=>?_,λq hq=>?_⟩
 ·have:=aR (g1 q hq).2
  omega
 ·have:=aR ((g2 q hq).2.2 k hk)
  omega
 ·have h:=(p1 _ (List.mem_map.mpr ⟨q,hq,rfl⟩)).2
  have w1:=bV h
  have w2:=aR h
  replace w1:(Kd.put (Gf f1 a1) q.2).words+1<=2*18:=w1
  replace w2:Kd.depth (Kd.put (Gf f1 a1) q.2)<=18:=w2
  omega
 ·obtain⟨_,h4,hk⟩:=p2 _ (List.mem_map.mpr ⟨q,hq,rfl⟩)
  replace h4:(de (Gf f1 a1) q.2).1.length<=4:=h4
  replace hk:∀k∈(de (Gf f1 a1) q.2).2::(de (Gf f1 a1) q.2).1,Bk 18 k:=hk
  refine⟨Nat.le_trans (yC (n:=35) λk h=>(by have:=bV (hk k h);omega)) ?_,λk h=>(by have:=aR (hk k h);omega)⟩
  rw [lc0]
  have:((de (Gf f1 a1) q.2).1.length+1)*35<=5*35:=Nat.mul_le_mul_right _ (by omega)
  omega
theorem AS(ho:smW own)(h1:BK 18 a1):∀n g,mY a1 own n=some g->Bk 1 g:=λn g e=>by
 unfold mY at e
 split at e
 ·rename_i c
  cases e
  have:=(h1 _ (cO.mp c.2)).1
  exact⟨⟨⟨ho.1,ho.2⟩,this.1,this.2⟩,Nat.le_refl _⟩
 ·cases e
def aE(r:Str × (am × aY)):Str × (am × aY):=(r.1,(r.2.1.map (cA (mY r.2.1 r.1)),r.2.2.map (cq (mY r.2.1 r.1))))
structure RB(r:am × aY):Prop where
 nd1:(r.1.map (·.1)).Nodup
 nd2:(r.2.map (·.1)).Nodup
 l1:r.1.length<=100
 l2:r.2.length<=100
 b1:BK 18 r.1
 b2:BF 18 r.2
theorem RB.t1(h:RB r):∀q∈r.1,okW q.1/\Kd.ok q.2/\Kd.depth q.2<=60:=λq hq=>⟨dz (h.b1 q hq).1,fT (h.b1 q hq).2.1,by have:=aR (h.b1 q hq).2;omega⟩
theorem RB.t2(h:RB r):∀q∈r.1,Kd.depth q.2<=40:=λq hq=>by have:=aR (h.b1 q hq).2;omega
theorem RB.t3(h:RB r):∀q∈r.2,(∀k∈q.2.1,Kd.depth k<=40)/\Kd.depth q.2.2<=40/\q.2.1.length<=100:=λq hq=>by
 obtain⟨_,b,c⟩:=h.b2 q hq
 exact⟨λk hk=>(by have:=aR (c k (List.mem_cons_of_mem _ hk));omega),by have:=aR (c q.2.2 (List.mem_cons_self ..));omega,by omega⟩
def we(K:W.Frag)(H:Hp)(CF:Addr)(v:V)(r:Str × (am × aY)):Prop:=∃(p fa:Addr),v=.ref p/\SqT K H p [.str r.1,.ref fa]/\dQ K H CF fa r.2.1 r.2.2
theorem we.same(e:ao H H')(h:we K H CF v r):we K H' CF v r:=by
 obtain⟨p,fa,a,b,c⟩:=h
 exact⟨p,fa,a,e.tup b,c.same e⟩
def wo(H:Hp)(d:Addr):Hp:=λb=>if b=d then none else H b
theorem dL(h:b≠d):wo H d b=H b:=if_neg h
theorem rN:wo H d d=none:=if_pos rfl
theorem aL:ao (wo H d) H:=λb u q=>by
 by_cases e:b=d
 ·rw [e,rN] at q;cases q
 ·rw [dL e] at q;exact q
theorem dY:wo (upd H d o) d=wo H d:=by
 funext b
 by_cases e:b=d
 ·rw [e,rN,rN]
 ·rw [dL e,dL e,ah e]
theorem jf(h:H d=none):wo H d=H:=by
 funext b
 by_cases e:b=d
 ·rw [e,rN,h]
 ·rw [dL e]
theorem bc(s:ao H H'):ao (wo H d) (wo H' d):=λb u q=>by
 by_cases e:b=d
 ·rw [e,rN] at q;cases q
 ·rw [dL e] at q ⊢;exact s _ _ q
theorem gO(hd:H d=some o)(hn:∀ys,o≠.tup ys/\∀ob,o≠.frz ob (.tup ys))(h:SqT K H a xs):SqT K (wo H d) a xs:=by
 rcases h with (h|⟨ob,h⟩)|h
 ·refine .inl (.inl ?_)
  rw [dL (λe=>by rw [e,hd] at h;exact(hn xs).1 (Option.some.inj h))]
  exact h
 ·refine .inl (.inr ⟨ob,?_⟩)
  rw [dL (λe=>by rw [e,hd] at h;exact(hn xs).2 ob (Option.some.inj h))]
  exact h
 ·exact .inr h
theorem eC.wo(hd0:H0 d≠none)(hx:H0 x=none)(hd:H d=some (.dK kv))(h:eC K H0 H CF x m1 m2):dQ K (wo H d) CF x m1 m2:=by
 obtain⟨dx,d1,d2,fs,kv1,kv2,n1,n2,_,hx',f1,f2,h1,h2,p1,p2,f3,f4⟩:=h
 have ne:∀b,H0 b=none->b≠d:=λb hb e=>hd0 (e▸hb)
 have kp:∀a xs,SqT K H a xs->SqT K (K44.wo H d) a xs:=λa xs t=>gO hd (λys=>⟨λz=>(nomatch z),λob z=>(nomatch z)⟩) t
 exact⟨dx,d1,d2,fs,kv1,kv2,by rw [dL (ne x hx)];exact hx',f1,f2,by rw [dL (ne d1 n1)];exact h1,by rw [dL (ne d2 n2)];exact h2,p1.imp λ_ _ t=>aC kp t,p2.imp λ_ _ t=>t.keep kp,f3,f4⟩
def BH(K:W.Frag)(H:Hp)(CF d:Addr)(L:aV):Prop:=∃pkv,H d=some (.dK pkv)/\dR (λv (r:am × aY)=>∃fa,v=.ref fa/\dQ K (wo H d) CF fa r.1 r.2) pkv L
theorem BH.at(h:BH K H CF d L):fL K H CF d L:=by
 obtain⟨pkv,h1,h2⟩:=h
 exact⟨pkv,h1,h2.imp λv r ⟨fa,e,t⟩=>⟨fa,e,t.same aL⟩⟩
abbrev kwN:List Str:=["formals","parts","known","word","want"]
abbrev kwP:List Str:=["formals","parts"]
def rm(K:W.Frag)(CF:Addr):Sp:=λvs H Q _=>∃(l pa:Addr) (xs:List V) (rs PL:aV),vs=[.ref l,.ref pa]/\H l=some (.lst xs)/\Paired (we K H CF) xs rs/\fL K H CF pa PL/\((PL++rs).map (·.1)).Nodup/\PL.length<=100/\rs.length<=100/\(∀r∈rs,RB r.2) /\
 ∀H' (d:Addr),ao H H'->H d=none->fL K H' CF d (PL++rs.map aE)->Q (.ref d) H'
section
variable{P:Program}{w:World}{K:W.Frag}{mg:Str->Option Value}{base:Heap}
theorem jI:aG kwN kwP (ae i9):=mkS
theorem vj (F:Fun K "known_within" "known_within" i9 f fd)
  (GT:Ca P w K mg base 44 "told_with" ft fdt ["want","part"] (kO K CF 40)) (md:mg "dict"=none) :
  cE P w K mg base CX0 45 f fd kwP (rm K CF):=by
 refine F.k0 jI λcdv A outer s H vs Q E hr h=>?_
 obtain⟨l,pa,xs,rs,PL,rfl,hl,hxs,⟨pkv,hpa,hpk⟩,nd,lp,lr,hB,q⟩:=h
 have hu:=dM hr
 refine⟨_,@pss_cons _ _ _ _ _ (aU (i:=2) jI.nd (aQ d5 rfl md cJ (pv 1 >> ad)))
  (bY PassesOwn.never rfl (cQ (pv 0)) (cC rfl (ap (ar (i:=3) jI.nd rfl (Or.inl rfl)) (ap (ar (i:=4) jI.nd rfl (Or.inl rfl)) bC)))
   (@ai _ _ _ (dj hu (pv 2) (pv 3) (cal GT hr (pv 4 >> pv 3 >> ad)) rfl)) <|> @ai _ _ _ (@aP _ _ _ _ (pv 2))),?_⟩
 have hlen:xs.length=rs.length:=Paired.length hxs
 refine⟨_,rfl,pa,pkv,rfl,hpa,λd hd=>?_⟩
 have s1:=ac hd (.dK pkv)
 have w0:wo (upd H d (.dK pkv)) d=H:=by rw [dY,jf hd]
 refine⟨_,rfl,l,rfl,⟨_,SqL.of (s1 _ _ hl)⟩,?_⟩
 refine eF (K:=K) (xs:=xs) (λi σ H3=>∃y3 y4:Option V,σ=[some (.ref l),some (.ref pa),some (.ref d),y3,y4]/\ao H (wo H3 d)/\BH K H3 CF d (PL++(rs.take i).map aE))
  ⟨none,none,rfl,by rw [w0];exact sr0,pkv,aa,by rw [w0,List.take_zero,List.map_nil,List.append_nil];exact hpk⟩ ?_ ?_ ?_
 ·rintro i σ H3 _ ⟨_,_,_,s3,_⟩
  exact SqL.of (aL _ _ (s3 _ _ hl))
 ·rintro i v σ H3 hv ⟨y3,y4,rfl,s3,pkv3,hd3,hp3⟩
  obtain⟨r,hr',p,fa,rfl,hp,hF⟩:=aI hxs hv
  have hB':=hB r (List.mem_of_getElem? hr')
  have s3':ao H H3:=s3.trans aL
  refine⟨p,_,rfl,s3'.tup hp,rfl,_,_,rfl,_,_,rfl,rfl,?_⟩
  refine⟨_,rfl,_,rfl,fa,r.1,r.2.1,r.2.2,rfl,hF.same s3',hB'.nd1,hB'.nd2,hB'.l1,hB'.l2,hB'.t1,hB'.t2,hB'.t3,λH4 x s4 hx hN=>?_⟩
  have hd4:H4 d=some (.dK pkv3):=s4 _ _ hd3
  have il:i < rs.length:=(List.getElem?_eq_some_iff.mp hr').1
  have plen:pkv3.length=PL.length+i:=by
   have:=Paired.length hp3
   rw [la0,lm0,List.length_take] at this
   omega
  refine⟨_,rfl,_,rfl,d,_,rfl,kH.k (k:=.inr r.1) hd4 (Nat.lt_of_lt_of_le (Nat.lt_succ_self _) (bJ (by omega))),?_⟩
  refine⟨_,_,rfl,?_,_,aa,?_⟩
  ·rw [dY]
   exact s3.trans (bc s4)
  ·rw [List.take_add_one,hr',dY,Option.toList_some,ma0,List.map_cons,List.map_nil,<-List.append_assoc]
   refine dR.put (hp3.imp λv r ⟨fa,e,t⟩=>⟨fa,e,t.same (bc s4)⟩) ?_ ⟨x,rfl,hN.wo (by rw [hd3];intro z;cases z) hx hd4⟩
   rw [ma0,List.map_map]
   intro hm
   rw [ma0] at nd
   have nd':=List.nodup_append.mp nd
   rcases List.mem_append.mp hm with hm|hm
   ·exact nd'.2.2 _ hm _ (List.mem_map.mpr ⟨r,List.mem_of_getElem? hr',rfl⟩) rfl
   ·have e:(rs.take i).map ((λx:Str × (am × aY)=>x.1)∘aE)=(rs.map (·.1)).take i:=by rw [<-List.map_take];rfl
    rw [e] at hm
    exact dU nd'.2.1 (by rw [List.getElem?_map,hr'];rfl) hm
 ·rintro σ H3 ⟨y3,y4,rfl,s3,hp⟩
  rw [hlen,List.take_length] at hp
  exact⟨_,rfl,q H3 d (s3.trans aL) hd hp.at⟩
abbrev lH:Stmt:=mq (top 30) 0
abbrev imP:List Str:=["self","formals","result"]
def FmN(K:W.Frag)(H0 H:Hp)(CF:Addr)(v:V)(r:Str × (am × aY)):Prop:=∃(p fa:Addr),v=.ref p/\H p=some (.tup [.str r.1,.ref fa])/\H0 fa=none/\eC K H0 H CF fa r.2.1 r.2.2
theorem FmN.same(e:ao H H')(h:FmN K H0 H CF v r):FmN K H0 H' CF v r:=by
 obtain⟨p,fa,a,b,c,d⟩:=h
 exact⟨p,fa,a,e _ _ b,c,d.same e⟩
theorem FmN.anti(e:ao H0 H1)(h:FmN K H1 H CF v r):FmN K H0 H CF v r:=by
 obtain⟨p,fa,a,b,c,d⟩:=h
 exact⟨p,fa,a,b,e.free c,d.anti e⟩
theorem FmN.at(h:FmN K H0 H CF v r):we K H CF v r:=by
 obtain⟨p,fa,a,b,c,d⟩:=h
 exact⟨p,fa,a,SqT.of b,d.face⟩
def uG(K:W.Frag)(CF CM:Addr):Sp:=λvs H Q _=>∃(p dx fl ra:Addr) (xs:List V) (rs:aV) (r1:am) (r2:aY),vs=[.ref p,.ref fl,.ref ra]/\H p=some (.ins CM dx [])/\wo H p fl=some (.lst xs)/\Paired (we K (wo H p) CF) xs rs/\dQ K (wo H p) CF ra r1 r2/\rs.length<=100 /\
 ∀(l rf:Addr) (fs:List (Str × V)) (ys:List V) (H':Hp),H l=none->H rf=none->l≠rf->H' p=some (.ins CM dx fs)->fs.lookup ("formals":Str)=some (.ref l)->fs.lookup ("result":Str)=some (.ref rf)->H' l=some (.lst ys)->Paired (FmN K H (wo H' p) CF) ys rs->eC K H (wo H' p) CF rf r1 r2->(∀c o,H c=some o->c≠p->H' c=some o)->Q .non H'
theorem Ck(h:X.K=K)(he:PE X e ta)(hb:attributeBase e f X.env (eval e X.env)=eval e X.env):PE X (.Attribute e f pos) (BS K ta f):=by subst h;exact bn he hb
theorem gA(np:∀b,H1 b=none->b≠p)(nx:H1 x=none)(ndx:H1 dx'=none)(nex:dx'≠x)
  (hk1:dR (bK K (wo H1 p)) kv1 m1) (hk2:dR (cY K (wo H1 p)) kv2 m2)
  (hd:upd (upd H1 dx' (.own x)) x (.ins CF dx' []) d=none) (he:upd (upd H1 dx' (.own x)) x (.ins CF dx' []) e=none) (nde:d≠e) (hx:H7 x=some (.ins CF dx' fs')) (lk:fs'.lookup ("kinds":Str)=some (.ref d)) (lf:fs'.lookup ("funs":Str)=some (.ref e))
  (lh:fs'.lookup ("hidden":Str)=none) (lp:fs'.lookup ("put":Str)=none) (hd7:H7 d=some (.dK kv1)) (he7:H7 e=some (.dK kv2)) (keep:∀c o,upd (upd H1 dx' (.own x)) x (.ins CF dx' []) c=some o->c≠x->H7 c=some o) :
  ao H1 H7/\eC K H1 (wo H7 p) CF x m1 m2:=by
 have ea:=ac ndx (.own x)
 have nx':upd H1 dx' (.own x) x=none:=by rw [ah (Ne.symm nex)];exact nx
 have eab:=ea.trans (ac nx' (.ins CF dx' []))
 have s7:ao H1 H7:=λb o hb=>keep b o (eab _ _ hb) (λz=>by rw [z,nx] at hb;cases hb)
 have w7:=bc (d:=p) s7
 exact⟨s7,dx',d,e,fs',_,_,eab.free hd,eab.free he,nde,by rw [dL (np x nx)];exact hx,lk,lf,by rw [dL (np d (eab.free hd))];exact hd7,by rw [dL (np e (eab.free he))];exact he7,hk1.imp λv y h=>h.same w7,hk2.imp λv y h=>h.keep λa xs t=>w7.tup t,lh,lp⟩
theorem zc:aG imP imP (ae lH):=mkS
theorem wf (F:Fun K "__init__" "Maker.__init__" lH f fd)
  (GI:cE P w K mg base CX0 1 fi fdi ["self","kinds","funs"] (gY CF)) (bI:cU K fdi ["self","kinds","funs"] []) (MF:Mk K CF fi) (mC:mg "Face"=some (.ref CF)) (cF:Cls K CF) (nK:aZ K CF "kinds") (nF:aZ K CF "funs")
  (cM:Cls K CM) (n1:aZ K CM "formals") (n2:aZ K CM "result") :
  cE P w K mg base CX0 3 f fd imP (uG K CF CM):=by
 refine F.k0 zc λcdv A outer s H vs Q E hr h=>?_
 obtain⟨p,dx,fl,ra,xs,rs,r1,r2,rfl,hp,hfl,hxs,hra,hl,q⟩:=h
 have hr2:bZ (1+1) _:=hr.mono (by decide)
 refine⟨_,@pss_cons _ _ _ _ _ (qy (pv 0) (fE (own:=["word","want"]) (caps:=[]) (κ:=[]) rfl ⟨rfl,by decide +kernel,by decide +kernel,rfl,rfl,(λy hy=>nomatch hy),(λy hy=>nomatch hy)⟩ rfl
   (cQ (pv 1)) (λ_ _ _ _=>qZ (K:=K) (i:=0) (j:=1) rfl rfl (show(["word","want"]:List Str).Nodup from by decide +kernel) rfl (Or.inl rfl) (Or.inr rfl) rfl (Or.inl rfl) (Or.inr rfl))
   (λ_ _ _ _=>az (pv 0 >> eO MF GI hr2 (by rfl) mC bI .nil d9 (Ck (K:=K) rfl (pv 1) rfl >> Ck (K:=K) rfl (pv 1) rfl >> ad) >> ad))) rfl)
  (@ai _ _ _ (qy (pv 0) (eO MF GI hr2 (by rfl) mC bI .nil d9 (bn (pv 2) rfl >> bn (pv 2) rfl >> ad)) rfl)),?_⟩
 have hlen:xs.length=rs.length:=Paired.length hxs
 have hw:ao (wo H p) H:=aL
 refine⟨_,rfl,fl,rfl,⟨_,SqL.of (hw _ _ hfl)⟩,?_⟩
 refine jt (SqL.of (hw _ _ hfl)) (by omega) (λi zs H3=>zs.length=i/\Paired (FmN K H (wo H3 p) CF) zs (rs.take i)) ⟨rfl,.nil⟩ (λ_ _ _ h=>Nat.le_of_eq h.1) ?_ ?_
 ·rintro i x zs H3 N hN hx s3 ⟨hz,hpz⟩
  obtain⟨r,hq,pa,fa,rfl,hpa,hF⟩:=aI hxs hx
  have w3:=bc (d:=p) s3
  have hp3:H3 p=some (.ins CM dx []):=s3 _ _ hp
  refine⟨pa,_,rfl,s3.tup (hw.tup hpa),rfl,_,_,rfl,_,_,rfl,rfl,rfl,di ⟨_,rfl,?_⟩⟩
  obtain⟨dx0,d1,d2,fs,kv1,kv2,hfa,lk0,lf0,hd1,hd2,hk1,hk2,_,_⟩:=hF.same w3
  refine⟨_,rfl,fa,CF,dx0,fs,_,rfl,aL _ _ hfa,cF,nK,lk0,_,rfl,fa,CF,dx0,fs,_,rfl,aL _ _ hfa,cF,nF,lf0,?_⟩
  intro x dx' nx ndx nex
  have nx':upd H3 dx' (.own x) x=none:=by rw [ah (Ne.symm nex)];exact nx
  have eab:=(ac ndx (.own x)).trans (ac nx' (.ins CF dx' []))
  refine⟨x,dx',d1,d2,_,_,rfl,aa,eab _ _ (aL _ _ hd1),eab _ _ (aL _ _ hd2),λd e fs' H7 hd he nde hx lk lf lh lp hd7 he7 keep=>⟨rfl,?_⟩⟩
  obtain⟨s7,hN7⟩:=gA (λb hb e=>(by rw [<-e,hb] at hp3;cases hp3)) nx ndx nex hk1 hk2 hd he nde hx lk lf lh lp hd7 he7 keep
  refine⟨(sz 2),λt ht=>?_⟩
  have s8:=ac ht (.tup [.str r.1,.ref x])
  have w8:=bc (d:=p) s8
  have ntp:t≠p:=λe=>by rw [e,s7 _ _ hp3] at ht;cases ht
  refine hN _ _ (s3.trans (s7.trans s8)) ⟨by rw [la0,hz];rfl,?_⟩
  rw [List.take_add_one,hq]
  exact d3 (Paired.mapP hpz λ_ _ h=>h.same ((bc s7).trans w8)) (.cons ⟨t,x,rfl,by rw [dL ntp];exact aa,s3.free nx,(hN7.anti s3).same w8⟩ .nil)
 rintro zs H3 D s3 ⟨hz,hpz⟩ hD
 have hp3:H3 p=some (.ins CM dx []):=s3 _ _ hp
 have sD:=ac hD (.lst zs)
 have nDp:D≠p:=λe=>by rw [e,hp3] at hD;cases hD
 refine⟨_,rfl,p,CM,dx,[],rfl,sD _ _ hp3,cM,n1,(by show 0 < 1000;decide),?_⟩
 rw [hlen,List.take_length] at hpz
 generalize hH4:upd (upd H3 D (.lst zs)) p (.ins CM dx (mJ "formals" (.ref D) []))=H4
 have w4:wo H4 p=wo (upd H3 D (.lst zs)) p:=by rw [<-hH4,dY]
 have s34:ao (wo H p) (wo H4 p):=by
  rw [w4]
  exact(bc s3).trans (bc sD)
 have hp4:H4 p=some (.ins CM dx (mJ "formals" (.ref D) [])):=by rw [<-hH4];exact aa
 obtain⟨dx0,d1,d2,fs,kv1,kv2,hfa,lk0,lf0,hd1,hd2,hk1,hk2,_,_⟩:=hra.same s34
 refine⟨_,rfl,ra,CF,dx0,fs,_,rfl,aL _ _ hfa,cF,nK,lk0,_,rfl,ra,CF,dx0,fs,_,rfl,aL _ _ hfa,cF,nF,lf0,?_⟩
 intro x dx' nx ndx nex
 have nx':upd H4 dx' (.own x) x=none:=by rw [ah (Ne.symm nex)];exact nx
 have eab:=(ac ndx (.own x)).trans (ac nx' (.ins CF dx' []))
 refine⟨x,dx',d1,d2,_,_,rfl,aa,eab _ _ (aL _ _ hd1),eab _ _ (aL _ _ hd2),λd e fs' H7 hd he nde hx lk lf lh lp hd7 he7 keep=>⟨rfl,?_⟩⟩
 obtain⟨s7,hN7⟩:=gA (λb hb e=>(by rw [<-e,hb] at hp4;cases hp4)) nx ndx nex hk1 hk2 hd he nde hx lk lf lh lp hd7 he7 keep
 have hD4:H4 D=some (.lst zs):=by rw [<-hH4,ah nDp];exact aa
 have hDx:D≠x:=λe=>by rw [e,nx] at hD4;cases hD4
 refine⟨_,rfl,p,CM,dx,_,rfl,s7 _ _ hp4,cM,n2,(by show 1 < 1000;decide),?_⟩
 have old:∀c o,H c=some o->c≠p->H4 c=some o:=λc o hc ne=>by
  rw [<-hH4,ah ne]
  exact sD _ _ (s3 _ _ hc)
 have fr:∀b,H4 b=none->H b=none:=λb hb=>by
  cases h:H b with
  |none=>rfl
  |some o =>
   have ne:b≠p:=λe=>by rw [e,hp4] at hb;cases hb
   rw [old b o h ne] at hb
   cases hb
 refine q D x _ zs _ (s3.free hD) (fr x nx) hDx aa (by rw [bz,if_neg (by decide +kernel),bz,if_pos rfl]) (by rw [bz,if_pos rfl]) (by rw [ah nDp];exact s7 _ _ hD4) ?_ ?_ λc o hc ne=>?_
 ·rw [dY]
  have e:=bc (d:=p) s7
  rw [w4] at e
  exact Paired.mapP hpz λ_ _ h=>h.same ((bc sD).trans e)
 ·rw [dY]
  obtain⟨a1,a2,a3,a4,a5,a6,a7,a8,a9⟩:=hN7
  exact⟨a1,a2,a3,a4,a5,a6,fr _ a7,fr _ a8,a9⟩
 ·rw [ah ne]
  exact s7 _ _ (old c o hc ne)
def dF(fl PL:aV)(s:Str × am):FR:=match look fl s.1 with
 |none=>.ref 1
 |some r=>if (∀q∈s.2,gr (PGo PL) q) then (match nB r.1 r.2 (s.2.map (iK (PGo PL))) with
  |.ok a b=>.ok a b
  |.no=>.ref 2
  |.big=>.ref 3) else .ref 2
inductive LR where
 |ok (l:aV)
 |ref (c:Nat)
def sO(fl PL:aV):LR->Str × (Str × am)->LR
 |.ref c,_=>.ref c
 |.ok l,f=>match dF fl (PL++l.map aE) f.2 with
  |.ok a b=>.ok (l++[(f.1,(a,b))])
  |.ref c=>.ref c
def lR(fl PL:aV)(fs:List (Str × (Str × am))):LR:=fs.foldl (sO fl PL) (.ok [])
inductive MR where
 |ok (l:aV) (r:am × aY)
 |ref (c:Nat)
 |unfit (r:Str × PyData × PyData)
structure Dcl where
 w:Str
 fs:List (Str × (Str × am))
 sl:Option (Str × am)
 its:List It
def mX(fl PL l:aV)(f1:am)(f2:aY):Option (Str × am)->MR
 |none=>.ok l (f1,f2)
 |some s=>match dF fl PL s with
  |.ref c=>.ref c
  |.ok a1 a2=>match tE f1 a1 f2 a2 with
   |some r=>.unfit r
   |none=>.ok l (a1,a2)
def sU(fl PL:aV)(D:Dcl):MR:=match lR fl PL D.fs with
 |.ref c=>.ref c
 |.ok l=>match nE (PL++l.map aE) 40 D.its with
  |.ref c=>.ref c
  |.ok f1 f2=>mX fl (PL++l.map aE) l f1 f2 D.sl
theorem oJ(fl PL:aV)(c:Nat):∀b:List (Str × (Str × am)),b.foldl (sO fl PL) (LR.ref c)=LR.ref c
 |[]=>rfl
 |_::b=>oJ fl PL c b
theorem qQ(h:dF fl (PL++l.map aE) f.2=.ok a b):sO fl PL (.ok l) f=.ok (l++[(f.1,(a,b))]):=by
 show(match dF fl (PL++l.map aE) f.2 with
  |.ok a b=>LR.ok (l++[(f.1,(a,b))])
  |.ref c=>.ref c)=_
 rw [h]
theorem tZ(h:dF fl (PL++l.map aE) f.2=.ref c):sO fl PL (.ok l) f=.ref c:=by
 show(match dF fl (PL++l.map aE) f.2 with
  |.ok a b=>LR.ok (l++[(f.1,(a,b))])
  |.ref c=>.ref c)=_
 rw [h]
theorem oK{fl PL l:aV}{fs:List (Str × (Str × am))}{i:Nat}{f:Str × (Str × am)}(h:lR fl PL (fs.take i)=.ok l)(hi:fs[i]?=some f):lR fl PL (fs.take (i+1))=sO fl PL (.ok l) f:=by
 unfold lR at h ⊢
 rw [List.take_add_one,hi,List.foldl_append,h]
 rfl
theorem wM{fl PL l:aV}{fs:List (Str × (Str × am))}{i c:Nat}{f:Str × (Str × am)}(h:lR fl PL (fs.take i)=.ok l)(hi:fs[i]?=some f)(hs:dF fl (PL++l.map aE) f.2=.ref c):lR fl PL fs=.ref c:=by
 have e:=oK h hi
 rw [tZ hs] at e
 have:fs=fs.take (i+1)++fs.drop (i+1):=(List.take_append_drop ..).symm
 rw [this]
 unfold lR at e ⊢
 rw [List.foldl_append,e,oJ]
def jw(K:W.Frag)(H:Hp)(v:V)(s:Str × am):Prop:=∃(p tw:Addr) (xs:List V),v=.ref p/\SqT K H p [.str s.1,.ref tw]/\SqT K H tw xs/\cG K H xs s.2
theorem jw.same(e:ao H H')(h:jw K H v s):jw K H' v s:=by
 obtain⟨p,tw,xs,a,b,c,d⟩:=h
 exact⟨p,tw,xs,a,e.tup b,e.tup c,Paired.mapP d λ_ _ t=>dH.same e t⟩
def vL(K:W.Frag)(H:Hp)(v:V)(f:Str × (Str × am)):Prop:=∃(p:Addr) (y:V),v=.ref p/\SqT K H p [.str f.1,y]/\jw K H y f.2
def B7(K:W.Frag)(H:Hp)(v:V):Option (Str × am)->Prop
 |none=>v=.non
 |some s=>jw K H v s
def sZ(K:W.Frag)(H:Hp)(a:Addr)(D:Dcl):Prop:=∃(ta ia:Addr) (sv:V) (xs ys:List V),SqT K H a [.str "maker",.str D.w,.ref ta,sv,.ref ia]/\SqT K H ta xs/\Paired (vL K H) xs D.fs/\B7 K H sv D.sl/\SqT K H ia ys/\Paired (oH K H) ys D.its
def SOk(PL:aV)(s:Str × am):Prop:=okW s.1/\s.2.length<=100/\qS (PGo PL) s.2
structure DOk(fl PL:aV)(D:Dcl):Prop where
 good:∀r∈fl,uP r.2.1 r.2.2
 sl:∀i f l,D.fs[i]?=some f->lR fl PL (D.fs.take i)=.ok l->SOk (PL++l.map aE) f.2
 rb:∀i l,lR fl PL (D.fs.take i)=.ok l->∀r∈l,RB r.2
 nd:(PL.map (·.1)++D.fs.map (·.1)).Nodup
 lp:PL.length<=100
 lf:D.fs.length<=100
 li:D.its.length<=20
 it:∀it∈D.its,zy it
 pa:∀l,lR fl PL D.fs=.ok l->yx (PL++l.map aE)
 sl2:∀l s,lR fl PL D.fs=.ok l->D.sl=some s->SOk (PL++l.map aE) s
 two:∀l s f1 f2 a1 a2,lR fl PL D.fs=.ok l->nE (PL++l.map aE) 40 D.its=.ok f1 f2->D.sl=some s->dF fl (PL++l.map aE) s=.ok a1 a2->Two f1 a1 f2 a2 40
 w:PyData.strOk D.w=true/\D.w.length<=14
def rg(K:W.Frag)(H0 H:Hp)(CM CF x:Addr)(rs:aV)(r1:am)(r2:aY):Prop :=
 ∃(dx l rf:Addr) (fs:List (Str × V)) (ys:List V),H0 l=none/\H0 rf=none/\l≠rf/\H x=some (.ins CM dx fs)/\fs.lookup ("formals":Str)=some (.ref l)/\fs.lookup ("result":Str)=some (.ref rf)/\H l=some (.lst ys)/\Paired (FmN K H0 H CF) ys rs/\eC K H0 H CF rf r1 r2
def yU(K:W.Frag)(CF CM CN:Addr)(cl:Nat->Addr)(pz:Str)(H:Hp)(Q:VK)(E:XK):MR->Prop
 |.ok l r=>∀H' (x:Addr),ao H H'->H x=none->rg K H H' CM CF x l r.1 r.2->Q (.ref x) H'
 |.ref c=>∀H',ao H H'->False
 |.unfit r=>False
abbrev mkN:List Str:=["declaration","faces","parts","wants","word","seal","known","full","want"]
abbrev mkP:List Str:=["declaration","faces","parts"]
def iI(K:W.Frag)(CF CM CN:Addr)(cl:Nat->Addr):Sp:=λvs H Q E=>∃(a fa pa:Addr) (D:Dcl) (fl PL:aV),vs=[.ref a,.ref fa,.ref pa]/\sZ K H a D/\fL K H CF fa fl/\fL K H CF pa PL/\DOk fl PL D/\yU K CF CM CN cl D.w H Q E (sU fl PL D)
theorem dQ.at(h:dQ K H CF fa m1 m2):tO K H CF fa m1 m2:=by
 obtain⟨dx,d1,d2,fs,kv1,kv2,a,b,c,d,e,f,g,i,j⟩:=h
 exact⟨dx,d1,d2,fs,kv1,kv2,a,b,c,d,e,f,g,i,j⟩
theorem ot(s6:ao H H6)(nx:H6 x=none)(ndx:H6 dx=none)(nex:dx≠x)
  (hl:upd (upd H6 dx (.own x)) x (.ins CM dx []) l=none) (hrf:upd (upd H6 dx (.own x)) x (.ins CM dx []) rf=none) (ne:l≠rf) (hx:H7 x=some (.ins CM dx fs)) (lf:fs.lookup ("formals":Str)=some (.ref l)) (lr:fs.lookup ("result":Str)=some (.ref rf))
  (hl7:H7 l=some (.lst ys)) (hp:Paired (FmN K (upd (upd H6 dx (.own x)) x (.ins CM dx [])) (wo H7 x) CF) ys rs) (hN:eC K (upd (upd H6 dx (.own x)) x (.ins CM dx [])) (wo H7 x) CF rf r1 r2) (keep:∀c o,upd (upd H6 dx (.own x)) x (.ins CM dx []) c=some o->c≠x->H7 c=some o) :
  ao H H7/\H x=none/\rg K H H7 CM CF x rs r1 r2:=by
 have nx':upd H6 dx (.own x) x=none:=by rw [ah (Ne.symm nex)];exact nx
 have eab:=(ac ndx (.own x)).trans (ac nx' (.ins CM dx []))
 have sA:=s6.trans eab
 have s7:ao H6 H7:=λb o hb=>keep b o (eab _ _ hb) (λz=>by rw [z,nx] at hb;cases hb)
 exact⟨s6.trans s7,s6.free nx,dx,l,rf,fs,ys,sA.free hl,sA.free hrf,ne,hx,lf,lr,hl7,Paired.mapP hp λ_ _ t=>(t.anti sA).same aL,(hN.anti sA).same aL⟩
theorem rK{K:W.Frag}(nx:H6 x=none)(ndx:H6 dx=none)(nex:dx≠x):ao H6 (wo (upd (upd H6 dx (.own x)) x (.ins CM dx [])) x):=by
 have nx':upd H6 dx (.own x) x=none:=by rw [ah (Ne.symm nex)];exact nx
 rw [dY,jf nx']
 exact ac ndx _
theorem eQ:aG mkN mkP (ae gD):=mkS
theorem sR{f fw fk ff fm ft CF CM CN T T2:Addr}{cl:Nat->Addr}{fd fdw fdk fdf fdm fdt:FuncData}{oT oT2:Value}{dT dT2:Option Addr}{nT nT2:Nat}{sT sT2:Array (Option Value)}{tk tk2:Tok} (F:Fun K "maker_of" "maker_of" gD f fd)
  (GW:Ca P w K mg base 46 "wanted" fw fdw wnP (qG K CF (cl 1) (cl 2) (cl 3)))
  (GK:Ca P w K mg base 45 "known_within" fk fdk kwP (rm K CF))
  (FF:jU K "full_face" "full_face" cP (.ref T) ff fdf) (lT:K.lookup T=some ⟨oT,dT,.seq #[.int 40 tk] nT,sT⟩) (GF:cE P w K mg base CX0 43 ff fdf ffP (xt K CF cl)) (kF:W.keepIn K (.ref ff)=true) (mF:mg "full_face"=some (.ref ff))
  (GT:Ca P w K mg base 43 "fitted" ft fdt ftP (qK K CF CN 40))
  (GM:cE P w K mg base CX0 3 fm fdm imP (uG K CF CM)) (bM:cU K fdm imP []) (MM:Mk K CM fm) (mM:mg "Maker"=some (.ref CM)) :
  cE P w K mg base CX0 47 f fd mkP (iI K CF CM CN cl):=by
 refine F.ok eQ (λvs H Q E h=>?_) (λcdv A outer s H vs Q E hr h=>?_)
 ·obtain⟨a,fa,pa,D,fl,PL,rfl,_⟩:=h
  rfl
 obtain⟨a,fa,pa,D,fl,PL,rfl,⟨ta,ia,sv,xs,ys,ha,hta,hxs,hsv,hia,hys⟩,hfl,hPL,hD,hR⟩:=h
 have hr46:bZ 46 _:=hr.mono (by decide)
 have hr45:bZ 45 _:=hr.mono (by decide)
 have hr43:bZ 43 _:=hr.mono (by decide)
 have hr4:bZ (3+1) _:=hr.mono (by decide)
 have b40:=AK FF lT
 have d40:cr [V.int 40] [Value.int 40 tk]:=.cons ⟨tk,rfl⟩ .nil
 refine⟨_,@pss_cons _ _ _ _ _ (aU (i:=3) eQ.nd (bT ad))
  (bY PassesOwn.never rfl (jP (ix0 ak (pv 0) ag)) (cC rfl (ap (ar (i:=4) eQ.nd rfl (Or.inl rfl)) (ap (ar (i:=5) eQ.nd rfl (Or.inl rfl)) bC)))
   (@ai _ _ _ (bh (gX PySem.F.plainAttrs_list PySem.F.slot_list_append PySem.F.type_list_append bO (pv 3) (@az _ _ _ _ _ (pv 4 >> cal GW hr46 (pv 5 >> pv 1 >> cal GK hr45 (pv 3 >> pv 2 >> ad) >> ad) >> ad) >> ad)))) <|> aU (i:=6) eQ.nd (cal GK hr45 (pv 3 >> pv 2 >> ad)) <|> aU (i:=7) eQ.nd (fF GF hr43 rfl mF kF b40 d40 d9 (aN ak (pv 0) ag (λ_ _=>rfl) >> pv 6 >> ad)) <|> aU (i:=8) eQ.nd (cal GW hr46 (aN ak (pv 0) ag (λ_ _=>rfl) >> pv 1 >> pv 6 >> ad)) <|> ce (aW oW (pv 8) ju (bd _)) (@ai _ _ _ (@aP _ _ _ _ (eO MM GM hr4 (by rfl) mM bM .nil d9 (pv 3 >> pv 7 >> ad)))) aX <|> bh (cal GT hr43 (pv 7 >> pv 8 >> aN ak (pv 0) ag (λ_ _=>rfl) >> ad)) <|> @ai _ _ _ (@aP _ _ _ _ (eO MM GM hr4 (by rfl) mM bM .nil d9 (pv 3 >> pv 8 >> ad)))),?_⟩
 have hlen:xs.length=D.fs.length:=Paired.length hxs
 refine⟨(sz 0),λlw hlw=>?_⟩
 have s1:=ac hlw (.lst [])
 have w0:wo (upd H lw (.lst [])) lw=H:=by rw [dY,jf hlw]
 refine⟨_,rfl,a,_,_,_,rfl,rfl,s1.tup ha,(show atI [V.str "maker",.str D.w,.ref ta,sv,.ref ia] 2=some (.ref ta) from rfl),ta,rfl,⟨_,s1.tup hta⟩,?_⟩
 refine p9 (K:=K) (xs:=xs) (λi σ H3=>∃(y4 y5:Option V) (ws:List V) (l:aV),σ=[some (.ref a),some (.ref fa),some (.ref pa),some (.ref lw),y4,y5,none,none,none]/\ao H (wo H3 lw)/\H3 lw=some (.lst ws)/\Paired (we K (wo H3 lw) CF) ws l/\lR fl PL (D.fs.take i)=.ok l/\l.map (·.1)=(D.fs.take i).map (·.1))
  ⟨none,none,[],[],rfl,by rw [w0];exact sr0,aa,.nil,rfl,rfl⟩ ?_ ?_ ?_
 ·rintro i σ H3 _ ⟨_,_,_,_,_,s3,_⟩
  exact(s3.trans aL).tup hta
 ·rintro i v σ H3 hv ⟨y4,y5,ws,l,rfl,s3,h3,hp3,hrun,hkeys⟩
  obtain⟨⟨wd,z,wz⟩,hf,p,y,rfl,hp,p2,tw,xw,rfl,hp2,htw,hxw⟩:=aI hxs hv
  replace hp:SqT K H p [.str wd,.ref p2]:=hp
  replace hp2:SqT K H p2 [.str z,.ref tw]:=hp2
  replace hxw:cG K H xw wz:=hxw
  have s3':ao H H3:=s3.trans aL
  have il:i < D.fs.length:=(List.getElem?_eq_some_iff.mp hf).1
  have llen:l.length=i:=by
   have:=congrArg List.length hkeys
   rw [lm0,lm0,List.length_take] at this
   omega
  have hlf:=hD.lf
  obtain⟨hz,hwl,hSl⟩:=hD.sl i _ l hf hrun
  have hEi:∀c,dF fl (PL++l.map aE) (z,wz)=.ref c->∀H',ao H H'->False:=λc e=>by
   have:=wM hrun hf e
   unfold sU at hR
   rw [this] at hR
   exact hR
  refine⟨p,_,rfl,s3'.tup hp,rfl,_,_,rfl,_,_,rfl,rfl,?_⟩
  refine⟨_,rfl,.inl ⟨rfl,_,SqL.of h3⟩,_,rfl,_,rfl,_,rfl,_,rfl,_,rfl,lw,pa,ws,l,PL,rfl,h3,Paired.mapP hp3 λ_ _ t=>t.same aL,hPL.same s3',?_,hD.lp,by omega,hD.rb i l hrun,λH4 d s4 hd hP4=>?_⟩
  ·have:=hD.nd
   rw [ma0,hkeys,List.map_take]
   refine List.nodup_append.mpr ⟨(List.nodup_append.mp this).1,(List.nodup_append.mp this).2.1.sublist (List.take_sublist ..),λx hx y hy=>(List.nodup_append.mp this).2.2 x hx y (List.mem_of_mem_take hy)⟩
  have s4':=s3'.trans s4
  obtain⟨fkv,hfk,hfp⟩:=hfl.same s4'
  obtain⟨pkv,hpk,hpp⟩:=hP4
  refine⟨.ref p2,fa,d,fkv,pkv,PGo (PL++l.map aE),rfl,hfk,hpk,um hpp,.inr ⟨p2,tw,z,xw,wz,rfl,s4'.tup hp2,hz,s4'.tup htw,Paired.mapP hxw λ_ _ t=>dH.same s4' t,hwl,hSl,?_⟩⟩
  rcases cg hfp z with ⟨hv1,hv2⟩|⟨v,r,hv1,hv2,xa,rfl,hxF⟩
  ·exact .inl ⟨hv1,λH5 s5=>hEi 1 (by unfold dF;rw [hv2]) _ (s4'.trans s5)⟩
  refine .inr ⟨xa,r.1,r.2,hv1,hxF,hD.good _ (eZ hv2),fun⟨q,hq,hn⟩ H5 s5=>hEi 2 (by unfold dF;rw [hv2];exact if_neg λh=>hn (h q hq)) _ (s4'.trans s5),λhall=>⟨λa1 a2 hrr H5 y s5 hy hN=>?_,λhrr H5 s5=>hEi 2 ?_ _ (s4'.trans s5),λhrr H5 s5=>hEi 3 ?_ _ (s4'.trans s5)⟩⟩
  ·refine⟨(sz 2),λt ht=>?_⟩
   have s6:=ac ht (.tup [.str wd,.ref y])
   have s56:=s4.trans (s5.trans s6)
   have h6:=s56 _ _ h3
   refine⟨lw,ws,.ref t,rfl,rfl,h6,Nat.lt_of_lt_of_le (Nat.lt_succ_self _) (bJ (by have:=Paired.length hp3;omega)),?_⟩
   have hok:dF fl (PL++l.map aE) (z,wz)=.ok a1 a2:=by
    unfold dF
    rw [hv2]
    refine(if_pos hall).trans ?_
    rw [hrr]
   refine⟨_,_,ws++[.ref t],l++[(wd,(a1,a2))],rfl,?_,aa,?_,?_,?_⟩
   ·rw [dY]
    exact s3.trans (bc s56)
   ·rw [dY]
    have ne:∀b,H4 b=none->b≠lw:=λb hb e=>by rw [e,s4 _ _ h3] at hb;cases hb
    have kp:∀b zs,SqT K (upd H5 t (.tup [.str wd,.ref y])) b zs->SqT K (wo (upd H5 t (.tup [.str wd,.ref y])) lw) b zs:=λb zs h=>gO h6 (λys=>⟨λz=>(nomatch z),λob z=>(nomatch z)⟩) h
    obtain⟨dx',d1,d2,fs',kv1,kv2,n1,n2,_,hx',f1,f2,g1,g2,k1,k2,f3,f4⟩:=hN
    refine d3 (Paired.mapP hp3 λ_ _ h=>h.same (bc s56)) (.cons ⟨t,y,rfl,kp _ _ (SqT.of aa),dx',d1,d2,fs',kv1,kv2,?_,f1,f2,?_,?_,k1.imp λ_ _ t=>aC kp (t.same s6),k2.imp λ_ _ t=>(t.keep λ_ _ h=>s6.tup h).keep kp,f3,f4⟩ .nil)
    ·rw [dL (ne y hy)]
     exact s6 _ _ hx'
    ·rw [dL (ne d1 n1)]
     exact s6 _ _ g1
    ·rw [dL (ne d2 n2)]
     exact s6 _ _ g2
   ·rw [oK hrun hf,qQ hok]
   ·rw [ma0,hkeys,List.take_add_one,hf,ma0]
    rfl
  ·unfold dF
   rw [hv2]
   refine(if_pos hall).trans ?_
   rw [hrr]
  ·unfold dF
   rw [hv2]
   refine(if_pos hall).trans ?_
   rw [hrr]
 rintro σ H3 ⟨y4,y5,ws,l,rfl,s3,h3,hp3,hrun,hkeys⟩
 rw [hlen,List.take_length] at hrun hkeys
 have s3':ao H H3:=s3.trans aL
 have llen:l.length=D.fs.length:=by
  have:=congrArg List.length hkeys
  rw [lm0,lm0] at this
  exact this
 have hlf:=hD.lf
 have hrb:=hD.rb D.fs.length l (by rw [List.take_length];exact hrun)
 unfold sU at hR
 rw [hrun] at hR
 replace hR:yU K CF CM CN cl D.w H Q E (match nE (PL++l.map aE) 40 D.its with
  |.ref c=>.ref c
  |.ok f1 f2=>mX fl (PL++l.map aE) l f1 f2 D.sl):=hR
 refine⟨_,rfl,_,rfl,lw,pa,ws,l,PL,rfl,h3,Paired.mapP hp3 λ_ _ t=>t.same aL,hPL.same s3',?_,hD.lp,by omega,hrb,λH4 d s4 hd hP4=>?_⟩
 ·rw [ma0,hkeys]
  exact hD.nd
 have s4':=s3'.trans s4
 have w4:ao H (wo H4 lw):=s3.trans (bc s4)
 refine⟨_,rfl,a,_,_,_,rfl,rfl,s4'.tup ha,(show atI [V.str "maker",.str D.w,.ref ta,sv,.ref ia] 4=some (.ref ia) from rfl),_,rfl,ia,ys,D.its,d,40,PL++l.map aE,rfl,s4'.tup hia,Paired.mapP hys λ_ _ t=>t.same s4',hD.li,hD.it,hP4,hD.pa l hrun,by decide,by decide,?_⟩
 cases hrf:nE (PL++l.map aE) 40 D.its with
 |ref c =>
  rw [hrf] at hR
  exact λH' s'=>hR H' (s4'.trans s')
 |ok f1 f2 =>
 rw [hrf] at hR
 replace hR:yU K CF CM CN cl D.w H Q E (mX fl (PL++l.map aE) l f1 f2 D.sl):=hR
 intro H5 fu d1 d2 s5 nd1 nd2 nfu hFu
 have s5':=s4'.trans s5
 obtain⟨fkv,hfk,hfp⟩:=hfl.same s5'
 obtain⟨pkv,hpk,hpp⟩:=hP4.same s5
 have h5:H5 lw=some (.lst ws):=(s4.trans s5) _ _ h3
 have w5:ao H (wo H5 lw):=w4.trans (bc s5)
 have hp5:Paired (we K (wo H5 lw) CF) ws l:=Paired.mapP hp3 λ_ _ t=>t.same (bc (s4.trans s5))
 refine⟨_,rfl,a,_,_,_,rfl,rfl,s5'.tup ha,(show atI [V.str "maker",.str D.w,.ref ta,sv,.ref ia] 3=some sv from rfl),_,rfl,_,rfl,sv,fa,d,fkv,pkv,PGo (PL++l.map aE),rfl,hfk,hpk,um hpp,?_⟩
 cases hsl:D.sl with
 |none =>
  rw [hsl] at hsv hR
  obtain rfl:sv=.non:=hsv
  refine .inl ⟨rfl,λH6 s6=>?_⟩
  refine⟨_,rfl,rfl,_,rfl,oZ ⟨_,rfl,_,rfl,?_⟩⟩
  intro x dx nx ndx nex
  have pm:=rK (K:=K) (CM:=CM) nx ndx nex
  refine⟨x,dx,lw,fu,ws,l,f1,f2,rfl,aa,pm _ _ (s6 _ _ h5),Paired.mapP hp5 λ_ _ t=>t.same (aL.trans (s6.trans pm)),(hFu.same (s6.trans pm)).faceF,by omega,λl' rf fs zs H7 hl hrf' ne hx lf lr hl7 hp7 hN7 keep=>⟨rfl,?_⟩⟩
  obtain⟨q1,q2,q3⟩:=ot (s5'.trans s6) nx ndx nex hl hrf' ne hx lf lr hl7 hp7 hN7 keep
  exact hR _ x q1 q2 q3
 |some sl =>
  rw [hsl] at hsv hR
  obtain⟨z,wz⟩:=sl
  obtain⟨p2,tw,xw,rfl,hp2,htw,hxw⟩:=hsv
  replace hp2:SqT K H p2 [.str z,.ref tw]:=hp2
  replace hxw:cG K H xw wz:=hxw
  obtain⟨hz,hwl,hSl⟩:=hD.sl2 l _ hrun hsl
  have hEi:∀c,dF fl (PL++l.map aE) (z,wz)=.ref c->∀H',ao H H'->False:=λc e=>by
   unfold mX at hR
   simp only [e] at hR
   exact hR
  refine .inr ⟨p2,tw,z,xw,wz,rfl,s5'.tup hp2,hz,s5'.tup htw,Paired.mapP hxw λ_ _ t=>dH.same s5' t,hwl,hSl,?_⟩
  rcases cg hfp z with ⟨hv1,hv2⟩|⟨v,r,hv1,hv2,xa,rfl,hxF⟩
  ·exact .inl ⟨hv1,λH6 s6=>hEi 1 (by unfold dF;rw [hv2]) _ (s5'.trans s6)⟩
  refine .inr ⟨xa,r.1,r.2,hv1,hxF,hD.good _ (eZ hv2),fun⟨q,hq,hn⟩ H6 s6=>hEi 2 (by unfold dF;rw [hv2];exact if_neg λh=>hn (h q hq)) _ (s5'.trans s6),λhall=>⟨λa1 a2 hrr H6 y s6 hy hN=>?_,λhrr H6 s6=>hEi 2 ?_ _ (s5'.trans s6),λhrr H6 s6=>hEi 3 ?_ _ (s5'.trans s6)⟩⟩
  ·have hok:dF fl (PL++l.map aE) (z,wz)=.ok a1 a2:=by
    unfold dF
    rw [hv2]
    refine(if_pos hall).trans ?_
    rw [hrr]
   have s6':=s5'.trans s6
   refine⟨_,rfl,rfl,_,rfl,dE (λc=>absurd (od0 c) (by intro h;cases h)) (λ_=>?_)⟩
   refine⟨_,rfl,_,rfl,_,rfl,a,_,_,_,rfl,rfl,s6'.tup ha,(show atI [V.str "maker",.str D.w,.ref ta,.ref p2,.ref ia] 1=some (.str D.w) from rfl),fu,y,D.w,f1,a1,f2,a2,rfl,(hFu.faceF.same s6).at,hN.face.at,hD.two l _ f1 f2 a1 a2 hrun hrf hsl hok,hD.w,λr hr=>?_,λhn H7 g kvs gl s7 _ _ _ _ _=>?_⟩
   ·unfold mX at hR
    simp only [hok,hr] at hR
    exact hR
   ·unfold mX at hR
    simp only [hok,hn] at hR
    refine⟨_,rfl,_,rfl,?_⟩
    intro x dx nx ndx nex
    have pm:=rK (K:=K) (CM:=CM) nx ndx nex
    refine⟨x,dx,lw,y,ws,l,a1,a2,rfl,aa,pm _ _ ((s6.trans s7) _ _ h5),Paired.mapP hp5 λ_ _ t=>t.same (aL.trans ((s6.trans s7).trans pm)),hN.face.same (s7.trans pm),by omega,λl' rf fs zs H8 hl hrf' ne hx lf lr hl7 hp7 hN7 keep=>⟨rfl,?_⟩⟩
    obtain⟨q1,q2,q3⟩:=ot (s6'.trans s7) nx ndx nex hl hrf' ne hx lf lr hl7 hp7 hN7 keep
    exact hR _ x q1 q2 q3
  ·unfold dF
   rw [hv2]
   refine(if_pos hall).trans ?_
   rw [hrr]
  ·unfold dF
   rw [hv2]
   refine(if_pos hall).trans ?_
   rw [hrr]
abbrev NL:=List ((Str × Str) × Kd)
def bw(nl:NL)(n:Str × Str):Option Kd:=(nl.find? λq=>decide (q.1=n)).map (·.2)
def qh(K:W.Frag)(H:Hp)(kvs:List (List Key × V))(nl:NL):Prop:=Paired (fun(p:List Key × V) (q:(Str × Str) × Kd)=>p.1=dq q.1/\bK K H p.2 q.2) kvs nl
theorem qh.keep(e:∀a xs,SqT K H a xs->SqT K H' a xs)(h:qh K H kvs nl):qh K H' kvs nl:=Paired.mapP h λ_ _ ⟨a,b⟩=>⟨a,aC e b⟩
theorem qh.same(e:ao H H')(h:qh K H kvs nl):qh K H' kvs nl:=h.keep λ_ _ t=>e.tup t
theorem ut(h:qh K H kvs nl):iR K H kvs (bw nl):=λn=>by
 unfold qh at h
 induction h with
 |nil=>exact .inl ⟨rfl,rfl⟩
 |@cons p q ps qs hpq r ih =>
  obtain⟨h1,h2⟩:=hpq
  by_cases e:q.1=n
  ·refine .inr ⟨p.2,q.2,cR (by rw [h1,e]),?_,h2⟩
   unfold bw
   rw [List.find?_cons,dt0 e]
   rfl
  ·have ne:p.1≠dq n:=λz=>e (iE (by rw [<-z,h1]))
   have ev:dC (p::ps) (dq n)=dC ps (dq n):=by
    unfold dC
    rw [List.find?_cons,df0 ne]
   have el:bw (q::qs) n=bw qs n:=by
    unfold bw
    rw [List.find?_cons,df0 e]
   rw [ev,el]
   exact ih
theorem qU(h:bw nl n=some k):(n,k)∈nl:=by
 unfold bw at h
 obtain⟨q,hq,rfl⟩:=Option.map_eq_some_iff.mp h
 have h1:=List.mem_of_find?_eq_some hq
 have h2:q.1=n:=od0 (List.find?_some (p:=λq:(Str × Str) × Kd=>decide (q.1=n)) hq)
 rw [<-h2]
 exact h1
theorem AT(h:qh K H kvs nl)(hz:n∉nl.map (·.1))(hv:bK K H v k):qh K H (cI kvs (dq n) v) (nl++[(n,k)]):=by
 have e:¬(kvs.any λkv=>decide (kv.1=dq n))=true:=λc=>by
  rcases ut h n with ⟨a,_⟩|⟨v',k',a,b,_⟩
  ·rw [List.any_eq_true] at c
   obtain⟨p,hp,he⟩:=c
   unfold dC at a
   rw [Option.map_eq_none_iff,List.find?_eq_none] at a
   exact a p hp he
  ·exact hz (List.mem_map_of_mem (f:=(·.1)) (qU b))
 unfold cI
 rw [if_neg e]
 exact Paired.snoc h ⟨rfl,hv⟩
def pQ(K:W.Frag)(H:Hp)(d:Addr)(nl:NL):Prop:=∃kvs,H d=some (.dT kvs)/\qh K H kvs nl
theorem pQ.same(e:ao H H')(h:pQ K H d nl):pQ K H' d nl:=by
 obtain⟨kvs,a,b⟩:=h
 exact⟨kvs,e _ _ a,b.same e⟩
abbrev ux(nl:NL):List Kd:=nl.map λq=>Kd.name q.1.1 q.1.2
abbrev bR(part:Str)(m:am):NL:=m.map λq=>((part,q.1),q.2)
theorem wH:(dq n).map kV=[.str n.1,.str n.2]:=rfl
theorem zh(hd:H0 d=some (.dT kv))(old:∀b u,H0 b=some u->b≠d->H3 b=some u):ao H0 (upd H3 d (.dT kv)):=λb u hb=>by
 by_cases e:b=d
 ·rw [e] at hb ⊢
  rw [hd] at hb
  cases hb
  exact aa
 ·rw [ah e]
  exact old b u hb e
def xH(K:W.Frag)(n:Nat):Sp:=λvs H Q _=>∃(x:V) (k:Kd),vs=[x]/\bK K H x k/\Kd.depth k<=n/\∀H',ao H H'->Q (.int (k.words:Int)) H'
def yB(K:W.Frag):Sp:=λvs H Q _=>∃(d:Addr) (nl:NL),vs=[.ref d]/\pQ K H d nl/\nl.length<=100/\∀H' (l:Addr) (xs:List V),ao H H'->H l=none->H' l=some (.lst xs)->bU K H' xs (ux nl)->Q (.ref l) H'
abbrev knN:List Str:=["_law_names","_law_part","_law_face_here","_law_word_here","_law_kind"]
abbrev knP:List Str:=["_law_names","_law_part","_law_face_here"]
def tN(K:W.Frag):Sp:=λvs H Q _=>∃(d fa:Addr) (part:Str) (nl:NL) (m1:am) (m2:aY),vs=[.ref d,.str part,.ref fa]/\pQ K H d nl/\iM K (wo H d) fa m1 m2/\nl.length<=100/\m1.length<=100/\((nl++bR part m1).map (·.1)).Nodup /\
 ∀H',ao (wo H d) (wo H' d)->pQ K H' d (nl++bR part m1)->Q .non H'
abbrev szP:List Str:=["_law_kind"]
theorem zP:aG szP szP (ae rT):=mkS
theorem uL (F:Fun K "_law_size" "_law_size" rT f fd) (bS:cU K fd szP []) (kS:W.keepIn K (.ref f)=true) (mS:mg "_law_size"=some (.ref f)) :
  ∀n,cE P w K mg base CX0 n f fd szP (xH K n)
 |0=>⟨λvs H Q E h=>by obtain⟨x,k,rfl,_⟩:=h;rfl,λA outer s H args us vs Q E _ _ _ _ h=>by
   obtain⟨x,k,_,_,hd,_⟩:=h
   have:=iy k
   omega⟩
 |n+1=>by
  have IH:=uL F bS kS mS n
  refine F.k0 zP λcdv A outer s H vs Q E hr h=>?_
  obtain⟨x,k,rfl,hk,hd,q⟩:=h
  refine⟨_,@pss_cons _ _ _ _ _ (ce (aW gi (ix0 ak (pv 0) ag) aJ (bd _))
    (@ai _ _ _ (@aP _ _ _ _ (aH bv (aH bv ag (fF IH hr rfl mS kS bS .nil d9 (aN ak (pv 0) ag (λ_ _=>rfl) >> ad))) (fF IH hr rfl mS kS bS .nil d9 (aN ak (pv 0) ag (λ_ _=>rfl) >> ad))))) aX)
   (@ai _ _ _ (@aP _ _ _ _ ag)),?_⟩
  cases hk with
  |@num p m t =>
   exact⟨_,rfl,_,_,_,_,rfl,rfl,t,(show atI [V.str "num",.int m] 0=some (.str "num") from rfl),rfl,_,rfl,dE (λc=>nK0 c) (λ_=>q _ sr0)⟩
  |@name p a b t =>
   exact⟨_,rfl,_,_,_,_,rfl,rfl,t,(show atI [V.str "name",.str a,.str b] 0=some (.str "name") from rfl),rfl,_,rfl,dE (λc=>nK0 c) (λ_=>q _ sr0)⟩
  |@pair p y z a b t ha hb =>
   have hd':1+max (Kd.depth a) (Kd.depth b)<=n+1:=hd
   refine⟨_,rfl,_,_,_,_,rfl,rfl,t,(show atI [V.str "pair",y,z] 0=some (.str "pair") from rfl),rfl,_,rfl,dE (λ_=>?_) (λc=>absurd (by decide +kernel) c)⟩
   refine⟨_,rfl,_,_,_,_,rfl,rfl,t,(show atI [V.str "pair",y,z] 1=some y from rfl),y,a,rfl,ha,by omega,λH1 s1=>?_⟩
   refine⟨_,_,rfl,rfl,_,rfl,_,_,_,_,rfl,rfl,s1.tup t,(show atI [V.str "pair",y,z] 2=some z from rfl),z,b,rfl,hb.same s1,by omega,λH2 s2=>?_⟩
   refine⟨_,_,rfl,rfl,?_⟩
   show Q (.int ((1:Int)+(a.words:Int)+(b.words:Int))) H2
   have e:(1:Int)+(a.words:Int)+(b.words:Int)=(((Kd.pair a b).words:Nat):Int):=by
    show _=((1+a.words+b.words:Nat):Int)
    omega
   rw [e]
   exact q _ (s1.trans s2)
abbrev faP:List Str:=["_law_names"]
theorem BA:aG faP faP (ae zw):=mkS
theorem zJ (F:Fun K "_law_far" "_law_far" zw f fd):cE P w K mg base CX0 1 f fd faP (yB K):=by
 refine F.k0 BA λcdv A outer s H vs Q E hr h=>?_
 obtain⟨d,nl,rfl,⟨dkv,hd,hnk⟩,hl,q⟩:=h
 refine⟨_,@ai _ _ _ (@aP _ _ _ _ (uT (fE (own:=["_law_name"]) (caps:=[]) (κ:=[]) (cl:=[]) rfl ⟨rfl,by decide +kernel,by decide +kernel,rfl,rfl,(λy hy=>nomatch hy),(λy hy=>nomatch hy)⟩ rfl
    (vX (pv 0)) (λ_ _ _ _=>pg0 ["_law_name"])
    (λ_ _ _ _=>az (aJ >> aN (r:=sS K) ak (pv 0) ag (λ_ _=>rfl) >> aN (r:=sS K) ak (pv 0) ag (λ_ _=>rfl) >> ad))))),?_⟩
 refine⟨_,rfl,d,dkv,rfl,hd,λo as hpa=>?_⟩
 have hal:dkv.length=as.length:=Paired.length hpa
 have hnl:dkv.length=nl.length:=Paired.length hnk
 have old:∀b u,H b=some u->b≠d->upd H d (.frz o (.dT dkv)) b=some u:=λb u hb nb=>by rw [ah nb];exact hb
 refine yV hal (by omega) aa (λi ys H5=>ys.length=i/\bU K H5 ys (ux (nl.take i))) ⟨rfl,.nil⟩ (λ_ _ _ h=>Nat.le_of_eq h.1) ?_ ?_
 ·rintro i a ys H5 Nx hNx hx s5 ⟨hyl,hks⟩
  have hi:i < dkv.length:=by
   have:=(List.getElem?_eq_some_iff.mp hx).1
   omega
  obtain⟨b,hb,hh⟩:=aI hpa (List.getElem?_eq_getElem hi)
  rw [hx] at hb
  cases hb
  obtain⟨qn,hq,e1,_⟩:=aI hnk (List.getElem?_eq_getElem hi)
  rw [e1,wH] at hh
  have ha5:H5 a=some (.tup [.str qn.1.1,.str qn.1.2]):=s5 _ _ (old _ _ hh (λe=>by rw [e,hd] at hh;cases hh))
  refine⟨rfl,di ⟨_,rfl,_,_,_,_,rfl,rfl,SqT.of ha5,(show atI [V.str qn.1.1,.str qn.1.2] 0=some (.str qn.1.1) from rfl),_,rfl,_,_,_,_,rfl,rfl,SqT.of ha5,(show atI [V.str qn.1.1,.str qn.1.2] 1=some (.str qn.1.2) from rfl),(sz 3),λp2 hp2=>?_⟩⟩
  have s6:=ac hp2 (.tup [.str "name",.str qn.1.1,.str qn.1.2])
  refine hNx _ _ (s5.trans s6) ⟨by rw [la0,hyl];rfl,?_⟩
  rw [List.take_add_one,hq]
  show bU K _ _ (ux (nl.take i++[qn]))
  rw [ux,ma0]
  exact(hks.same s6).append (.cons (.name (SqT.of aa)) .nil)
 rintro ys H5 D5 s5 ⟨hyl,hks⟩ hD5
 have hd5:H5 d=some (.frz o (.dT dkv)):=s5 _ _ aa
 have nD5:d≠D5:=λe=>by rw [e,hD5] at hd5;cases hd5
 have t5:=ac hD5 (.lst ys)
 refine⟨d,o,.dT dkv,t5 _ _ hd5,λo' u' e=>(by have e':H d=some (.frz o' u'):=e;rw [hd] at e';cases e'),?_⟩
 have s6:ao H (upd (upd H5 D5 (.lst ys)) d (.dT dkv)):=zh hd λb u hb nb=>t5 _ _ (s5 _ _ (old b u hb nb))
 have kp6:∀a xs,SqT K H5 a xs->SqT K (upd (upd H5 D5 (.lst ys)) d (.dT dkv)) a xs:=λa xs t=>by
  rcases t5.tup t with (t|⟨o',t⟩)|t
  ·exact .inl (.inl (by rw [ah (λe=>by rw [e,t5 _ _ hd5] at t;cases t)];exact t))
  ·exact .inl (.inr ⟨o',by rw [ah (λe=>by rw [e,t5 _ _ hd5] at t;cases t)];exact t⟩)
  ·exact .inr t
 have hD0:H D5=none:=by
  cases h:H D5 with
  |none=>rfl
  |some u =>
   rw [s5 _ _ (old _ _ h (Ne.symm nD5))] at hD5
   cases hD5
 rw [<-hal,hnl,List.take_length] at hks
 exact q _ D5 ys s6 hD0 (by rw [ah (Ne.symm nD5)];exact aa) (gc kp6 hks)
theorem vB:aG knN knP (ae se):=mkS
theorem yJ (F:Fun K "_law_know" "_law_know" se f fd):cE P w K mg base CX0 1 f fd knP (tN K):=by
 refine F.k0 vB λcdv A outer s H vs Q E hr h=>?_
 obtain⟨d,fa,part,nl,m1,m2,rfl,⟨dkv,hd,hnk⟩,⟨l1,l2,hfa,⟨xs,hl1,hxs⟩,_⟩,hl,hml,nd,q⟩:=h
 have hu:=dM hr
 have sw:ao (wo H d) H:=aL
 refine⟨_,@ai _ _ _ (bY PassesOwn.never rfl (cQ (ix0 ak (pv 2) ag)) (cC rfl (ap (ar (i:=3) vB.nd rfl (Or.inl rfl)) (ap (ar (i:=4) vB.nd rfl (Or.inl rfl)) bC)))
   (@ai _ _ _ (dj hu (pv 0) (@az _ _ _ _ _ (pv 1 >> pv 3 >> ad)) (pv 4) rfl))),?_⟩
 have hxl:xs.length=m1.length:=Paired.length hxs
 refine⟨_,rfl,fa,_,_,_,rfl,rfl,SqT.of (sw _ _ hfa),(show atI [V.ref l1,.ref l2] 0=some (.ref l1) from rfl),l1,rfl,⟨_,SqL.of (sw _ _ hl1)⟩,?_⟩
 refine eF (K:=K) (xs:=xs) (λi σ H3=>∃y3 y4:Option V,σ=[some (.ref d),some (.str part),some (.ref fa),y3,y4]/\ao (wo H d) (wo H3 d)/\pQ K H3 d (nl++bR part (m1.take i)))
  ⟨none,none,rfl,sr0,dkv,hd,by rw [List.take_zero];show qh K H dkv (nl++[]);rw [List.append_nil];exact hnk⟩ ?_ ?_ ?_
 ·rintro i σ H3 _ ⟨_,_,_,s3,_⟩
  exact SqL.of (aL _ _ (s3 _ _ hl1))
 ·rintro i v σ H3 hv ⟨y3,y4,rfl,s3,kv3,hd3,hn3⟩
  obtain⟨⟨z,k⟩,hq,p,y,rfl,hp,hy⟩:=aI hxs hv
  replace hp:wo H d p=some (.tup [.str z,y]):=hp
  replace hy:bK K (wo H d) y k:=hy
  have s3':=s3.trans aL
  have il:i < m1.length:=(List.getElem?_eq_some_iff.mp hq).1
  have kl:kv3.length=nl.length+i:=by
   have:=Paired.length hn3
   rw [la0,lm0,List.length_take] at this
   omega
  refine⟨p,_,rfl,SqT.of (s3' _ _ hp),rfl,_,_,rfl,_,_,rfl,rfl,?_⟩
  refine⟨_,rfl,_,rfl,_,rfl,_,rfl,(sz 2),λt ht=>?_⟩
  have s4:=ac ht (.tup [.str part,.str z])
  have hd4:=s4 _ _ hd3
  refine⟨d,_,rfl,kH.t (k:=dq (part,z)) hd4 aa (Nat.lt_of_lt_of_le (Nat.lt_succ_self _) (bJ (by omega))),?_⟩
  have kp:∀a zs,SqT K (upd H3 t (.tup [.str part,.str z])) a zs->SqT K (upd (upd H3 t (.tup [.str part,.str z])) d (.dT (cI kv3 (dq (part,z)) y))) a zs:=λa zs h=>nR hd4 h
  refine⟨_,_,rfl,by rw [dY];exact s3.trans (bc s4),_,aa,?_⟩
  rw [List.take_add_one,hq]
  show qh K _ _ (nl++bR part (m1.take i++[(z,k)]))
  rw [bR,ma0,<-List.append_assoc]
  refine AT ((hn3.same s4).keep kp) (λhm=>?_) (aC kp (hy.same (s3'.trans s4)))
  rw [ma0] at nd hm
  have nd':=List.nodup_append.mp nd
  have hz:(part,z)∈(bR part m1).map (·.1):=List.mem_map.mpr ⟨((part,z),k),List.mem_map.mpr ⟨(z,k),List.mem_of_getElem? hq,rfl⟩,rfl⟩
  rcases List.mem_append.mp hm with hm|hm
  ·exact nd'.2.2 _ hm _ hz rfl
  ·have e:(bR part (m1.take i)).map (·.1)=((bR part m1).map (·.1)).take i:=by rw [bR,bR,List.map_map,List.map_map,List.map_take]
   have n2:=nd'.2.1
   have g:((bR part m1).map (·.1))[i]?=some (part,z):=by rw [bR,List.map_map,List.getElem?_map,hq];rfl
   have hm':(part,z)∈((bR part m1).map (·.1)).take i:=by rw [<-e];exact hm
   have e2:(bR part m1).map (·.1)=((bR part m1).map (·.1)).take i++((bR part m1).map (·.1)).drop i:=(List.take_append_drop i _).symm
   rw [e2,List.nodup_append] at n2
   exact n2.2.2 _ hm' _ (List.mem_of_getElem? (i:=0) (by rw [List.getElem?_drop];exact g)) rfl
 ·rintro σ H3 ⟨y3,y4,rfl,s3,hN⟩
  rw [hxl,List.take_length] at hN
  exact q H3 s3 hN
abbrev wiN:List Str:=["_law_cells","_law_hidden_here","_law_names","_law_withs_here","_law_given","_law_k","_law_some","_law_kind"]
abbrev wiP:List Str:=["_law_cells","_law_hidden_here","_law_names"]
def Bd(nl:NL)(n4:Nat)(k:Kd):Prop:=∃n kk,k=.name n.1 n.2/\(n,kk)∈nl/\kk.words < n4
def aq(nl:NL)(q:Str × Kd):Str × Kd:=(q.1,Kd.put (bw nl) q.2)
structure Cf(nl:NL)(hs:List Str)(ws:am):Prop where
 sub:(ws.map (·.1)).Sublist hs
 far:∀q∈ws,Bd nl 4 q.2
def uq(K:W.Frag):Sp:=λvs H Q _=>∃(c h d:Addr) (cs:List Int) (hs:List Str) (nl:NL),vs=[.ref c,.ref h,.ref d]/\H c=some (.lst (cs.map V.int))/\H h=some (.lst (hs.map V.str))/\pQ K H d nl/\hs.length<=cs.length/\hs.length<=100/\hs.Nodup/\nl.length<=100/\(nl.map (·.1)).Nodup /\
 (∀q∈nl,Kd.depth q.2<=40)/\(∃q∈nl,q.2.words < 4) /\
 ∀H' (t tw g:Addr) (xs:List V) (kvs:List (List Key × V)) (ws:am),ao H H'->H' t=some (.tup [.ref tw,.ref g])->H' tw=some (.tup xs)->cG K H' xs ws->H' g=some (.dT kvs)->jH K H' kvs (ws.map (aq nl))->Cf nl hs ws->Q (.ref t) H'
theorem wA(nd:(nl.map (·.1)).Nodup)(h:(n,k)∈nl):bw nl n=some k:=by
 unfold bw
 induction nl with
 |nil=>cases h
 |cons q nl ih =>
  rw [List.map_cons,List.nodup_cons] at nd
  rcases mc0 h with rfl|h
  ·rw [List.find?_cons,dt0 (show(n,k).1=n from rfl)]
   rfl
  ·rw [List.find?_cons,df0 (λe=>nd.1 (List.mem_map.mpr ⟨_,h,e.symm⟩))]
   exact ih nd.2 h
theorem cG.keep(e:∀a zs,SqT K H a zs->SqT K H' a zs)(h:cG K H xs ws):cG K H' xs ws:=Paired.mapP h λ_ _ t=>dH.keep e t
theorem jo:aG wiN wiP (ae ly):=mkS
theorem wy (F:Fun K "_law_withs" "_law_withs" ly f fd)
  (GF:Ca P w K mg base 1 "_law_far" ff fdf faP (yB K))
  (GZ:Ca P w K mg base 40 "_law_size" fz fdz szP (xH K 40))
  (mt:mg "tuple"=none) (mr:mg "range"=none) (ml:mg "len"=none):cE P w K mg base CX0 41 f fd wiP (uq K):=by
 refine F.k0 jo λcdv A outer s H vs Q E hr h=>?_
 obtain⟨c,h,d,cs,hs,nl,rfl,hc,hh,⟨dkv,hd,hnk⟩,hcl,h100,hnd,hnl,nnd,hdp,⟨q0,hq0,hq4⟩,q⟩:=h
 have hu:=dM hr
 have hr1:bZ 1 _:=hr.mono (by decide)
 refine⟨_,@pss_cons _ _ _ _ _ (aU (i:=3) jo.nd (bT ad))
  (aU (i:=4) jo.nd eB <|> bY PassesOwn.never rfl (cj rfl mr (aT aK rfl ml boot_len (pv 1 >> ad) >> ad)) (ar (i:=5) jo.nd rfl (Or.inl rfl))
   (@ai _ _ _ (ce (aW gi (aH ck (ix0 aO (pv 0) (pv 5)) ag) ag (bd _))
    (lU (i0:=6) (own:=["_law_kind"]) (caps:=["_law_names"]) (κ:=[2]) jo.nd rfl (Or.inl rfl) rfl ⟨rfl,by decide +kernel,by decide +kernel,rfl,rfl,gM rfl,gM ⟨.inl rfl,rfl,.inl rfl⟩⟩ rfl
     (cQ (cal GF hr1 (pv 2 >> ad))) (λ_ _ _ _=>pg0 ["_law_kind","_law_names"])
     (λ_ _ _ _=>aW Am (cal GZ hr (cV hu (pv 1) (@az _ _ _ _ _ (aN (r:=sS K) ak (pv 0) ag (λ_ _=>rfl) >> aN (r:=sS K) ak (pv 0) ag (λ_ _=>rfl) >> ad)) (λ_ _=>rfl) >> ad)) ag (bd _))
     (λ_ _ _ _=>pv 0) <|> aU (i:=7) jo.nd (ix0 aO (pv 6) (aH ck (aH cT (ix0 aO (pv 0) (pv 5)) ag) (aT aK rfl ml boot_len (pv 6 >> ad)))) <|> bh (gX PySem.F.plainAttrs_list PySem.F.slot_list_append PySem.F.type_list_append bO (pv 3) (@az _ _ _ _ _ (aN aO (pv 1) (pv 5) (λ_ _=>rfl) >> pv 7 >> ad) >> ad)) <|> @ai _ _ _ (dj hu (pv 4) (@az _ _ _ _ _ (aJ >> aN aO (pv 1) (pv 5) (λ_ _=>rfl) >> ad)) (cV hu (pv 2) (@az _ _ _ _ _ (aN ak (pv 7) ag (λ_ _=>rfl) >> aN ak (pv 7) ag (λ_ _=>rfl) >> ad)) (λ_ _=>rfl)) rfl))
    aX)) <|> @ai _ _ _ (@aP _ _ _ _ (@az _ _ _ _ _ (aQ bj rfl mt bF (pv 3 >> ad) >> pv 4 >> ad)))),?_⟩
 refine⟨(sz 0),λwl hwl=>?_⟩
 have s5:=ac hwl (.lst [])
 intro gv hgv
 have s6:=ac hgv (.dT [])
 have s06:=s5.trans s6
 have hgv0:H gv=none:=s5.free hgv
 have wg:wl≠gv:=λe=>by rw [<-e,aa] at hgv;cases hgv
 have hw6:=s6 _ _ (show upd H wl (.lst []) wl=some (.lst []) from aa)
 have hcz:hs.length<=1000:=by omega
 refine⟨_,rfl,h,_,rfl,.inl (SqL.of (s06 _ _ hh)),_,rfl,by omega,by rw [lm0];have:=cX hcz;omega,?_⟩
 refine eN (λi σ H7=>∃(y5 y6 y7:Option V) (us:List V) (kv:List (List Key × V)) (ws:am),σ=[some (.ref c),some (.ref h),some (.ref d),some (.ref wl),some (.ref gv),y5,y6,y7]/\ao H H7/\H7 wl=some (.lst us)/\cG K H7 us ws/\H7 gv=some (.dT kv)/\jH K H7 kv (ws.map (aq nl))/\(ws.map (·.1)).Sublist (hs.take i)/\∀q∈ws,Bd nl 4 q.2)
  ⟨none,none,none,[],[],[],rfl,s06,hw6,.nil,aa,.nil,List.nil_sublist _,λq hq=>nomatch hq⟩ ?_ ?_
 ·rintro i σ H7 hi ⟨y5,y6,y7,us,kv,ws,rfl,s7,hw7,hp7,hv7,hpt,hsub,hfar⟩
  rw [Int.zero_add]
  have hil:i < hs.length:=by(have:=hi;rw [lm0] at this;omega)
  obtain⟨z,hz⟩:∃z,hs[i]?=some z:=⟨_,List.getElem?_eq_getElem hil⟩
  have hat:atI (hs.map V.str) (i:Int)=some (.str z):=bE (by rw [List.getElem?_map,hz];rfl)
  obtain⟨ci,hci⟩:∃ci,cs[i]?=some ci:=⟨_,List.getElem?_eq_getElem (by omega)⟩
  have hatc:atI (cs.map V.int) (i:Int)=some (.int ci):=bE (by rw [List.getElem?_map,hci];rfl)
  have hwn:ws.length<=i:=by
   have e:=hsub.length_le
   rw [lm0,List.length_take] at e
   omega
  have hul:=Paired.length hp7
  have hkl7:=Paired.length hpt
  rw [lm0] at hkl7
  have ht1:hs.take (i+1)=hs.take i++[z]:=by rw [List.take_add_one,hz];rfl
  refine⟨_,rfl,_,rfl,c,_,_,_,rfl,rfl,SqL.of (s7 _ _ hc),hatc,_,_,rfl,rfl,(by show(0:Int) < 2;decide),rfl,_,rfl,dE (λ_=>?_) (λ_=>⟨_,_,_,us,kv,ws,rfl,s7,hw7,hp7,hv7,hpt,by rw [ht1];exact hsub.trans (List.sublist_append_left ..),hfar⟩)⟩
  refine⟨_,rfl,d,nl,rfl,⟨dkv,s7 _ _ hd,hnk.same s7⟩,hnl,λH8 lf xs s8 hlf0 hlf hks=>?_⟩
  refine⟨lf,rfl,⟨_,SqL.of hlf⟩,?_⟩
  have hxl:=hks.length
  rw [lm0] at hxl
  have s78:=s7.trans s8
  refine jt (SqL.of hlf) (by omega) (λj ys H9=>ys.length<=j/\∃ks,bU K H9 ys ks/\(∀k∈ks,Bd nl 4 k)/\((∃q∈nl.take j,q.2.words < 4)->ks≠[])) ⟨Nat.le_refl _,[],.nil,(λk hk=>nomatch hk),fun⟨q,hq,_⟩=>(nomatch hq)⟩ (λ_ _ _ h=>h.1) ?_ ?_
  ·rintro j x ys H9 N hN hx s9 ⟨hyl,ks,hkk,hfk,hne⟩
   obtain⟨k',hk',hxat⟩:=hks.get hx
   rw [List.getElem?_map] at hk'
   obtain⟨qn,hqn,rfl⟩:=Option.map_eq_some_iff.mp hk'
   have hmem:=List.mem_of_getElem? hqn
   have hlk:=wA nnd (show(qn.1,qn.2)∈nl from hmem)
   have sA:=s78.trans s9
   cases hxat with
   |@name p a b t =>
    have t9:=s9.tup t
    have e2:(nl.take (j+1))=nl.take j++[qn]:=by rw [List.take_add_one,hqn];rfl
    refine⟨rfl,_,rfl,_,rfl,_,_,_,_,rfl,rfl,t9,(show atI [V.str "name",.str qn.1.1,.str qn.1.2] 1=some (.str qn.1.1) from rfl),_,rfl,_,_,_,_,rfl,rfl,t9,(show atI [V.str "name",.str qn.1.1,.str qn.1.2] 2=some (.str qn.1.2) from rfl),(sz 2),λt2 ht2=>?_⟩
    have s10:=ac ht2 (.tup [.str qn.1.1,.str qn.1.2])
    have sB:=sA.trans s10
    rcases ut (hnk.same sB) qn.1 with ⟨_,g2⟩|⟨v,kk,g1,g2,g3⟩
    ·rw [hlk] at g2;cases g2
    rw [hlk] at g2
    cases g2
    refine⟨d,v,rfl,g1▸gj.t (k:=dq qn.1) (sB _ _ hd) aa,v,qn.2,rfl,g3,hdp _ hmem,λH11 s11=>?_⟩
    have s9B:=s9.trans (s10.trans s11)
    refine⟨_,_,rfl,rfl,_,rfl,dE (λc=>?_) (λc=>?_)⟩
    ·have c':((qn.2.words:Nat):Int) < 4:=od0 c
     refine⟨_,rfl,hN _ _ s9B ⟨by rw [la0];show ys.length+1<=j+1;omega,ks++[.name qn.1.1 qn.1.2],(hkk.same (s10.trans s11)).append (.cons (.name ((s10.trans s11).tup t9)) .nil),λk hk=>?_,λ_=>by simp⟩⟩
     rcases List.mem_append.mp hk with hk|hk
     ·exact hfk k hk
     ·rw [List.mem_singleton.mp hk]
      exact⟨qn.1,qn.2,rfl,hmem,by omega⟩
    ·have c':¬((qn.2.words:Nat):Int) < 4:=λh=>c (dt0 h)
     refine hN _ _ s9B ⟨by omega,ks,hkk.same (s10.trans s11),hfk,fun⟨q,hq,h4⟩=>?_⟩
     rw [e2] at hq
     rcases List.mem_append.mp hq with hq|hq
     ·exact hne ⟨q,hq,h4⟩
     ·rw [List.mem_singleton.mp hq] at h4
      exact absurd (by omega) c'
  rintro ys H9 D s9 ⟨hyl,ks,hkk,hfk,hne⟩ hD
  have s10:=ac hD (.lst ys)
  have sA:=s78.trans (s9.trans s10)
  have sX:=s8.trans (s9.trans s10)
  rw [hxl,List.take_length] at hne
  have hkn:ks≠[]:=hne ⟨q0,hq0,hq4⟩
  have hkl:=hkk.length
  have hyp:0 < ys.length:=by
   cases ks with
   |nil=>exact absurd rfl hkn
   |cons _ _=>rw [hkl];exact Nat.succ_pos _
  have p0:(0:Int) < ((ys.length:Nat):Int):=by omega
  obtain⟨vk,hvk⟩:=wt (xs:=ys) (i:=ci / 2%((ys.length:Nat):Int)) (Int.emod_nonneg _ (by omega)) (Int.emod_lt_of_pos _ p0)
  obtain⟨jj,_,hjj⟩:=Option.bind_eq_some_iff.mp (show((ixN ys.length (ci / 2%((ys.length:Nat):Int))).bind λj=>ys[j]?)=some vk from hvk)
  obtain⟨kd,hkd,hkat⟩:=hkk.get hjj
  obtain⟨n,kn,rfl,hmem,h4⟩:=hfk kd (List.mem_of_getElem? hkd)
  have hD':upd H9 D (.lst ys) D=some (.lst ys):=aa
  refine⟨_,rfl,_,rfl,_,rfl,c,_,_,_,rfl,rfl,SqL.of (sA _ _ hc),hatc,_,_,rfl,rfl,⟨by decide,by decide⟩,_,rfl,D,_,rfl,.inl (SqL.of hD'),_,_,rfl,rfl,p0,D,_,_,_,rfl,rfl,SqL.of hD',hvk,?_⟩
  have hw9:=sX _ _ hw7
  have hv9:=sX _ _ hv7
  refine⟨_,rfl,.inl ⟨rfl,_,SqL.of hw9⟩,_,rfl,_,rfl,h,_,_,_,rfl,rfl,SqL.of (sA _ _ hh),hat,_,rfl,(sz 2),λt ht=>?_⟩
  have s11:=ac ht (.tup [.str z,vk])
  have hw11:=s11 _ _ hw9
  refine⟨wl,us,.ref t,rfl,rfl,hw11,Nat.lt_of_lt_of_le (Nat.lt_succ_self _) (bJ (by omega)),?_⟩
  have kp:∀{a:Addr} {zz:List V},SqT K (upd (upd H9 D (.lst ys)) t (.tup [.str z,vk])) a zz->SqT K (upd (upd (upd H9 D (.lst ys)) t (.tup [.str z,vk])) wl (.lst (us++[.ref t]))) a zz:=λh=>na hw11 h
  have sC:ao H (upd (upd (upd H9 D (.lst ys)) t (.tup [.str z,vk])) wl (.lst (us++[.ref t]))):=kE (sA.trans s11) hwl
  have hv12:upd (upd (upd H9 D (.lst ys)) t (.tup [.str z,vk])) wl (.lst (us++[.ref t])) gv=some (.dT kv):=by rw [ah (Ne.symm wg)];exact s11 _ _ hv9
  have hp12:cG K (upd (upd (upd H9 D (.lst ys)) t (.tup [.str z,vk])) wl (.lst (us++[.ref t]))) (us++[.ref t]) (ws++[(z,.name n.1 n.2)]) :=
   d3 (Paired.mapP hp7 λ_ _ h=>dH.keep (λ_ _ t=>kp ((sX.trans s11).tup t)) h) (.cons ⟨t,vk,rfl,kp (SqT.of aa),aC (λ_ _=>kp) (hkat.same (s10.trans s11))⟩ .nil)
  have hpt12:jH K (upd (upd (upd H9 D (.lst ys)) t (.tup [.str z,vk])) wl (.lst (us++[.ref t]))) kv (ws.map (aq nl)):=hpt.keep λ_ _ t=>kp ((sX.trans s11).tup t)
  have hk12:bK K (upd (upd (upd H9 D (.lst ys)) t (.tup [.str z,vk])) wl (.lst (us++[.ref t]))) vk (.name n.1 n.2):=aC (λ_ _=>kp) (hkat.same (s10.trans s11))
  have hw12:upd (upd (upd H9 D (.lst ys)) t (.tup [.str z,vk])) wl (.lst (us++[.ref t])) wl=some (.lst (us++[.ref t])):=aa
  revert sC hv12 hp12 hpt12 hk12 hw12
  generalize upd (upd (upd H9 D (.lst ys)) t (.tup [.str z,vk])) wl (.lst (us++[.ref t]))=HC
  intro sC hv12 hp12 hpt12 hk12 hw12
  clear kp hw11 s11 hw9 hv9 hkat
  have hlk:=wA nnd hmem
  cases hk12 with
  |@name p a b t3 =>
  refine⟨_,rfl,_,rfl,_,_,_,_,rfl,rfl,t3,(show atI [V.str "name",.str n.1,.str n.2] 1=some (.str n.1) from rfl),_,rfl,_,_,_,_,rfl,rfl,t3,(show atI [V.str "name",.str n.1,.str n.2] 2=some (.str n.2) from rfl),(sz 2),λt4 ht4=>?_⟩
  have s13:=ac ht4 (.tup [.str n.1,.str n.2])
  have sD:=sC.trans s13
  rcases ut (hnk.same sD) n with ⟨_,g2⟩|⟨v,kk,g1,g2,g3⟩
  ·rw [hlk] at g2;cases g2
  rw [hlk] at g2
  cases g2
  refine⟨d,v,rfl,g1▸gj.t (k:=dq n) (sD _ _ hd) aa,?_⟩
  refine⟨_,rfl,_,rfl,_,rfl,h,_,_,_,rfl,rfl,SqL.of (sD _ _ hh),hat,(sz 2),λt5 ht5=>?_⟩
  have s14:=ac ht5 (.tup [.str "",.str z])
  have sE:=s13.trans s14
  have hv14:=sE _ _ hv12
  refine⟨gv,_,rfl,kH.t (k:=dq ("",z)) hv14 aa (Nat.lt_of_lt_of_le (Nat.lt_succ_self _) (bJ (by omega))),?_⟩
  have kp2:∀a zz,SqT K (upd (upd HC t4 (.tup [.str n.1,.str n.2])) t5 (.tup [.str "",.str z])) a zz->SqT K (upd (upd (upd HC t4 (.tup [.str n.1,.str n.2])) t5 (.tup [.str "",.str z])) gv (.dT (cI kv (dq ("",z)) v))) a zz:=λ_ _ h=>nR hv14 h
  refine⟨_,_,_,us++[.ref t],_,ws++[(z,.name n.1 n.2)],rfl,kE (sC.trans sE) hgv0,by rw [ah wg];exact sE _ _ hw12,cG.keep (λ_ _ t=>kp2 _ _ (sE.tup t)) hp12,aa,?_,?_,λq hq=>?_⟩
  ·rw [ma0]
   have e:[((z,Kd.name n.1 n.2):Str × Kd)].map (aq nl)=[(z,kn)]:=by
    show [(z,(bw nl (n.1,n.2)).getD _)]=_
    rw [show((n.1,n.2):Str × Str)=n from rfl,hlk]
    rfl
   rw [e]
   refine lQ (hpt12.keep λ_ _ t=>kp2 _ _ (sE.tup t)) (λhm=>?_) (aC kp2 (g3.same s14))
   rw [List.map_map] at hm
   exact dU hnd hz (hsub.subset hm)
  ·rw [ma0,ht1]
   exact hsub.append (List.Sublist.refl _)
  ·rcases List.mem_append.mp hq with hq|hq
   ·exact hfar q hq
   ·rw [List.mem_singleton.mp hq]
    exact⟨n,kn,rfl,hmem,h4⟩
 ·rintro σ H7 ⟨y5,y6,y7,us,kv,ws,rfl,s7,hw7,hp7,hv7,hpt,hsub,hfar⟩
  refine⟨_,rfl,wl,us,rfl,.inl ⟨SqL.of hw7,λt1 ht1=>?_⟩⟩
  have s8:=ac ht1 (.tup us)
  refine⟨_,rfl,(sz 2),λt2 ht2=>?_⟩
  have s9:=ac ht2 (.tup [.ref t1,.ref gv])
  have s89:=s8.trans s9
  exact q _ t2 t1 gv us kv ws (s7.trans s89) aa (s9 _ _ aa) (Paired.mapP hp7 λ_ _ h=>dH.same s89 h) (s89 _ _ hv7) (hpt.same s89) ⟨hsub.trans (by rw [lm0];exact List.take_sublist ..),hfar⟩
def aD(PL:aV):NL:=PL.flatMap λr=>bR r.1 r.2.1
theorem uS(PL:aV)(r:Str × (am × aY)):aD (PL++[r])=aD PL++bR r.1 r.2.1:=by
 unfold aD
 rw [List.flatMap_append]
 simp
theorem uF(a b:NL)(n:Str × Str):bw (a++b) n=(bw a n).or (bw b n):=by
 unfold bw
 rw [List.find?_append]
 cases List.find? (λq:(Str × Str) × Kd=>decide (q.1=n)) a<;>rfl
theorem kQ(p:Str):∀(m:am) (n:Str × Str),bw (bR p m) n=if n.1=p then look m n.2 else none
 |[],n=>by
  show none=if n.1=p then none else none
  split<;>rfl
 |q::m,n=>by
  have ih:=kQ p m n
  by_cases e:n.1=p
  ·rw [if_pos e] at ih ⊢
   by_cases e2:q.1=n.2
   ·have h1:bw (bR p (q::m)) n=some q.2:=by
     unfold bw
     show(List.find? _ (((p,q.1),q.2)::_)).map _=_
     rw [List.find?_cons,dt0 (show((p,q.1),q.2).1=n by rw [e2,<-e])]
     rfl
    rw [h1]
    unfold look
    rw [List.find?_cons,dt0 e2]
    rfl
   ·have h1:bw (bR p (q::m)) n=bw (bR p m) n:=by
     unfold bw
     show(List.find? _ (((p,q.1),q.2)::_)).map _=_
     rw [List.find?_cons,df0 (show ¬((p,q.1),q.2).1=n from λh=>e2 (congrArg Prod.snd h))]
    have h2:look (q::m) n.2=look m n.2:=by
     unfold look
     rw [List.find?_cons,df0 e2]
    rw [h1,h2,ih]
  ·rw [if_neg e] at ih ⊢
   have h1:bw (bR p (q::m)) n=bw (bR p m) n:=by
    unfold bw
    show(List.find? _ (((p,q.1),q.2)::_)).map _=_
    rw [List.find?_cons,df0 (show ¬((p,q.1),q.2).1=n from λh=>e (congrArg Prod.fst h).symm)]
   rw [h1,ih]
theorem cL{α:Type}(q:Str × α)(m:List (Str × α))(z:Str):look (q::m) z=if q.1=z then some q.2 else look m z:=by
 unfold look
 rw [List.find?_cons]
 by_cases e:q.1=z
 ·rw [dt0 e,if_pos e]
  rfl
 ·rw [df0 e,if_neg e]
theorem mR:∀{PL:aV},(PL.map (·.1)).Nodup->∀n:Str × Str,bw (aD PL) n=(look PL n.1).bind λr=>look r.1 n.2
 |[],_,n=>rfl
 |r::PL,nd,n=>by
  rw [List.map_cons,List.nodup_cons] at nd
  have ih:=mR nd.2 n
  have e0:aD (r::PL)=bR r.1 r.2.1++aD PL:=by
   unfold aD
   rw [List.flatMap_cons]
  rw [e0,uF,kQ,cL]
  by_cases e:n.1=r.1
  ·rw [if_pos e,if_pos e.symm]
   have h0:look PL n.1=none:=eR (by rw [e];exact nd.1)
   rw [h0] at ih
   rw [ih]
   show(look r.2.1 n.2).or none=look r.2.1 n.2
   cases look r.2.1 n.2<;>rfl
  ·rw [if_neg e,if_neg (Ne.symm e),ih]
   rfl
theorem vo{PL:aV}(nd:(PL.map (·.1)).Nodup) (ne:∀r∈PL,r.1≠""):bw (aD PL)=tz (PGo PL):=by
 funext n
 rw [mR nd]
 show _=if n.1="" then none else (PGo PL n.1).bind λg=>g n.2
 by_cases e:n.1=""
 ·rw [if_pos e,eR (λh=>?_)]
  ·rfl
  ·obtain⟨r,hr,e2⟩:=List.mem_map.mp h
   exact ne r hr (e2.trans e)
 ·rw [if_neg e]
  unfold PGo
  cases look PL n.1<;>rfl
def pX(hs:List Str)(k:Kd):Prop:=∀l∈k.leaves,∀z,l=eu z->z∈hs
structure Bq(r:Str × (am × aY)):Prop where
 w:smW r.1
 ne:r.1≠""
 nd1:(r.2.1.map (·.1)).Nodup
 nd2:(r.2.2.map (·.1)).Nodup
 l1:r.2.1.length<=5
 l2:r.2.2.length<=5
 b1:BK 4 r.2.1
 b2:BF 4 r.2.2
 clo:∀q∈r.2.1,Clo q.2
structure iT(PL:aV):Prop where
 nd:(PL.map (·.1)).Nodup
 row:∀r∈PL,Bq r
 has:∃q∈aD PL,q.2.words < 4
theorem gB:q∈aD PL↔∃r∈PL,∃x∈r.2.1,q=((r.1,x.1),x.2):=by
 unfold aD bR
 rw [List.mem_flatMap]
 constructor
 ·rintro⟨r,hr,h⟩
  obtain⟨x,hx,e⟩:=List.mem_map.mp h
  exact⟨r,hr,x,hx,e.symm⟩
 ·rintro⟨r,hr,x,hx,e⟩
  exact⟨r,hr,List.mem_map.mpr ⟨x,hx,e.symm⟩⟩
theorem iT.val(h:iT PL)(hm:(n,k)∈aD PL):Bk 4 k/\Clo k/\n.1≠""/\okW n.1/\okW n.2:=by
 obtain⟨r,hr,x,hx,e⟩:=gB.mp hm
 cases e
 have R:=h.row r hr
 exact⟨(R.b1 x hx).2,R.clo x hx,R.ne,dz R.w,dz (R.b1 x hx).1⟩
theorem iT.nls{PL:aV}(h:iT PL):bw (aD PL)=tz (PGo PL):=vo h.nd λr hr=>(h.row r hr).ne
theorem iT.keys:∀{PL:aV},(PL.map (·.1)).Nodup->(∀r∈PL,(r.2.1.map (·.1)).Nodup)->((aD PL).map (·.1)).Nodup
 |[],_,_=>.nil
 |r::PL,nd,h=>by
  rw [List.map_cons,List.nodup_cons] at nd
  have ih:=iT.keys nd.2 λr' hr'=>h r' (List.mem_cons_of_mem _ hr')
  have e0:aD (r::PL)=bR r.1 r.2.1++aD PL:=by
   unfold aD
   rw [List.flatMap_cons]
  rw [e0,ma0]
  refine List.nodup_append.mpr ⟨?_,ih,λa ha b hb e=>?_⟩
  ·have:(bR r.1 r.2.1).map (·.1)=(r.2.1.map (·.1)).map λz=>(r.1,z):=by rw [List.map_map,List.map_map];rfl
   rw [this]
   exact List.Pairwise.map _ (λa b hab e=>hab (congrArg Prod.snd e)) (h r (List.mem_cons_self ..))
  ·obtain⟨q,hq,rfl⟩:=List.mem_map.mp ha
   obtain⟨q',hq',rfl⟩:=List.mem_map.mp hb
   obtain⟨x,hx,rfl⟩:=List.mem_map.mp hq
   obtain⟨r',hr',x',hx',rfl⟩:=gB.mp hq'
   exact nd.1 (List.mem_map.mpr ⟨r',hr',(congrArg Prod.fst e).symm⟩)
theorem wp(h:Bk n k)(hw:k.words < 4):Bk 2 k:=⟨h.1,by have:=cz k;omega⟩
theorem kg(h:iT PL)(q:Str × Kd):aq (aD PL) q=iK (PGo PL) q:=by
 unfold aq iK
 rw [h.nls]
theorem lW(h:iT PL)(hq:Bd (aD PL) 4 q.2):Bk 2 (aq (aD PL) q).2/\Clo (aq (aD PL) q).2/\gr (PGo PL) q/\Kd.ok q.2/\q.2.words=1:=by
 obtain⟨n,kk,e,hm,hw⟩:=hq
 have hl:=wA (iT.keys h.nd λr hr=>(h.row r hr).nd1) hm
 obtain⟨v1,v2,v3,v4,v5⟩:=h.val hm
 have e2:(aq (aD PL) q).2=kk:=by
  unfold aq
  rw [e]
  show(bw (aD PL) (n.1,n.2)).getD _=kk
  rw [show((n.1,n.2):Str × Str)=n from rfl,hl]
  rfl
 refine⟨by rw [e2];exact wp v1 hw,by rw [e2];exact v2,λm hm'=>?_,?_,?_⟩
 ·rw [e] at hm'
  rw [List.mem_singleton.mp (show m∈[((n.1,n.2):Str × Str)] from hm'),<-h.nls,show((n.1,n.2):Str × Str)=n from rfl,hl]
  intro z
  cases z
 ·rw [e]
  exact⟨v4,v5⟩
 ·rw [e]
  rfl
theorem my{us:am}{m1:am}{W:Str}(hu:∀q∈us,Clo q.2) (hW:W≠"") {hs:List Str} (hh:∀z∈hs,look us z=none->z∈ba m1):∀{k:Kd},pX hs k->Clo (Kd.put (mY m1 W) (Kd.put (Gl us) k))
 |.num _,_=>trivial
 |.name q t,h=>by
  by_cases e:q=""
  ·have ht:t∈hs:=h _ (List.mem_singleton.mpr rfl) t (by rw [e];rfl)
   show Clo (Kd.put (mY m1 W) ((Gl us (q,t)).getD _))
   have e1:Gl us (q,t)=look us t:=if_pos e
   rw [e1]
   cases hl:look us t with
   |some g =>
    show Clo (Kd.put (mY m1 W) g)
    have hc:Clo g:=hu _ (eK hl)
    have hn:∀n:Str × Str,n.1≠""->mY m1 W n=none:=λn hn=>if_neg λh=>hn h.1
    rw [jZ hn hc]
    exact hc
   |none =>
    show Clo ((mY m1 W (q,t)).getD _)
    have e2:mY m1 W (q,t)=some (.name W t):=if_pos ⟨e,hh t ht hl⟩
    rw [e2]
    exact hW
  ·have e1:Gl us (q,t)=none:=if_neg e
   show Clo (Kd.put (mY m1 W) ((Gl us (q,t)).getD _))
   rw [e1]
   show Clo ((mY m1 W (q,t)).getD _)
   have e2:mY m1 W (q,t)=none:=if_neg λh=>e h.1
   rw [e2]
   exact e
 |.pair a b,h=>⟨my hu hW hh λl hl z e=>h l (List.mem_append_left _ hl) z e,my hu hW hh λl hl z e=>h l (List.mem_append_right _ hl) z e⟩
theorem cD.own (h:cD c c2 sh [.name W0 "k"] A B) (ne0:W0≠""):∀q∈A,pX (ba A) q.2:=λq hq l hl z e=>by
 rcases h.k1 q hq with h1|h1
 ·rw [h1] at hl
  rw [List.mem_singleton.mp hl] at e
  rw [<-jS e]
  refine cO.mpr ?_
  rw [<-h1]
  exact hq
 ·rcases h1.1 l hl with h2|⟨n,h2,_⟩|⟨hh,h3,h2⟩
  ·rw [List.mem_singleton.mp h2] at e
   injection e with e1 _
   exact absurd e1 ne0
  ·rw [h2] at e
   cases e
  ·rw [h2] at e
   rw [<-jS e]
   exact h3
theorem cb(h:smW W0):∀k∈[Kd.name W0 "k"],Kd.sm k:=λk hk=>by
 rw [List.mem_singleton.mp hk]
 exact⟨⟨h.1,h.2⟩,by decide +kernel,by decide +kernel⟩
structure Ak(PL:aV)(A:am)(B:aY)(ws us:am):Prop where
 run:nB A B (ws.map (iK (PGo PL)))=.ok (A.map (cA (Gl us))) (B.map (cq (Gl us)))
 told:∀q∈ws,gr (PGo PL) q
 sl:qS (PGo PL) ws
 len:ws.length<=100
 rb:RB (A.map (cA (Gl us)),B.map (cq (Gl us)))
 b1:BK 4 (A.map (cA (Gl us)))
 b2:BF 4 (B.map (cq (Gl us)))
 l1:A.length<=5
 l2:B.length<=5
 row:∀W,smW W->W≠""->Bq (aE (W,(A.map (cA (Gl us)),B.map (cq (Gl us)))))
theorem Ac{PL:aV}(h:iT PL){c c2 sh:Int}{W0:Str}{A:am}{B:aY} (hF:cD c c2 sh [.name W0 "k"] A B) (hW0:smW W0) (ne0:W0≠"") {ws:am} (hw:Cf (aD PL) (ba A) ws):Ak PL A B ws (ws.map (aq (aD PL))):=by
 have a1:=hF.b1 (cb hW0)
 have a2:=hF.b2 (cb hW0)
 have e:ws.map (iK (PGo PL))=ws.map (aq (aD PL)):=List.map_congr_left λq _=>(kg h q).symm
 have hal:∀q∈ws.map (aq (aD PL)),Clo q.2/\Bk 2 q.2/\q.1∈ba A:=λq hq=>by
  obtain⟨x,hx,rfl⟩:=List.mem_map.mp hq
  obtain⟨t1,t2,_⟩:=lW h (hw.far x hx)
  exact⟨t2,t1,hw.sub.subset (List.mem_map.mpr ⟨x,hx,rfl⟩)⟩
 have hk:(ws.map (aq (aD PL))).map (·.1)=ws.map (·.1):=by rw [List.map_map];rfl
 have nd:((ws.map (aq (aD PL))).map (·.1)).Nodup:=by rw [hk];exact hw.sub.nodup (bt hF.nd1)
 have run:=pR (a:=2) (n:=2) (by decide) (by decide) a1 a2 (ws:=[]) (us:=ws.map (aq (aD PL))) hal nd
 rw [oV,oo] at run
 have bG:∀n g,Gl (ws.map (aq (aD PL))) n=some g->Bk 2 g:=λn g e=>(hal _ (hJ e)).2.1
 have b1:BK 4 (A.map (cA (Gl (ws.map (aq (aD PL)))))):=oR (n:=2) (by decide) bG a1
 have b2:BF 4 (B.map (cq (Gl (ws.map (aq (aD PL)))))):=ll (n:=2) (by decide) bG a2
 have l1:=hF.l1
 have l2:=hF.fu.2.2.1
 have lw:ws.length<=100:=by
  have e1:=hw.sub.length_le
  have e2:=hF.nd1
  have:(ba A).length<=A.length:=by
   unfold ba
   rw [lm0]
   exact List.length_filter_le _ _
  rw [lm0] at e1
  omega
 have nd1:((A.map (cA (Gl (ws.map (aq (aD PL)))))).map (·.1)).Nodup:=by rw [d4];exact hF.nd1
 have nd2:((B.map (cq (Gl (ws.map (aq (aD PL)))))).map (·.1)).Nodup:=by rw [fQ];exact hF.fu.2.1
 refine⟨by rw [e];exact run,λq hq=>(lW h (hw.far q hq)).2.2.1,λq hq=>?_,lw,⟨nd1,nd2,by rw [lm0];omega,by rw [lm0];omega,b1.mono (by decide),b2.mono (by decide)⟩,b1,b2,l1,by omega,λW hW neW=>?_⟩
 ·obtain⟨t1,t2,t3,t4,t5⟩:=lW h (hw.far q hq)
  have hq1:q.1∈ba A:=hw.sub.subset (List.mem_map.mpr ⟨q,hq,rfl⟩)
  refine⟨dz (hF.hw _ hq1),t4,by omega,λ_=>?_⟩
  have:=congrArg Prod.snd (kg h q)
  rw [show Kd.put (tz (PGo PL)) q.2=(iK (PGo PL) q).2 from rfl,<-kg h q]
  exact⟨fT t1.1,by have:=bV t1;omega⟩
 ·have hb:=AS (own:=W) hW (b1.mono (by decide:4<=18))
  refine⟨hW,neW,?_,?_,?_,?_,?_,?_,λq hq=>?_⟩
  ·show(((A.map (cA (Gl (ws.map (aq (aD PL)))))).map (cA _)).map (·.1)).Nodup
   rw [d4]
   exact nd1
  ·show(((B.map (cq (Gl (ws.map (aq (aD PL)))))).map (cq _)).map (·.1)).Nodup
   rw [fQ]
   exact nd2
  ·show((A.map (cA (Gl (ws.map (aq (aD PL)))))).map (cA _)).length<=5
   rw [lm0,lm0]
   exact l1
  ·show((B.map (cq (Gl (ws.map (aq (aD PL)))))).map (cq _)).length<=5
   rw [lm0,lm0]
   omega
  ·exact oR (n:=1) (by decide) hb b1
  ·exact ll (n:=1) (by decide) hb b2
  ·obtain⟨x,hx,rfl⟩:=List.mem_map.mp hq
   obtain⟨y,hy,rfl⟩:=List.mem_map.mp hx
   refine my (λq hq=>(hal q hq).1) neW (hs:=ba A) (λz hz hn=>?_) (hF.own ne0 y hy)
   refine cO.mpr (List.mem_map.mpr ⟨(z,eu z),cO.mp hz,?_⟩)
   show(z,(Gl (ws.map (aq (aD PL))) ("",z)).getD (eu z))=_
   have:Gl (ws.map (aq (aD PL))) ("",z)=none:=hn
   rw [this]
   rfl
structure kD(fl PL0:aV)(fs:List (Str × (Str × am)))(l:aV):Prop where
 run:lR fl PL0 fs=.ok l
 pl:iT (PL0++l.map aE)
 sl:∀i f l',fs[i]?=some f->lR fl PL0 (fs.take i)=.ok l'->SOk (PL0++l'.map aE) f.2
 rb:∀i l',lR fl PL0 (fs.take i)=.ok l'->∀r∈l',RB r.2
 keys:fs.map (·.1)=l.map (·.1)
theorem kD.nil(h:iT PL0):kD fl PL0 [] []:=by
 refine⟨rfl,by rw [List.map_nil,List.append_nil];exact h,λi f l' hf=>?_,λi l' hl r hr=>?_,rfl⟩
 ·rw [List.getElem?_nil] at hf
  cases hf
 ·rw [List.take_nil] at hl
  injection hl with e
  subst e
  cases hr
theorem kD.snoc(h:kD fl PL0 fs l)(hw:dF fl (PL0++l.map aE) f.2=.ok r.2.1 r.2.2)(hs:SOk (PL0++l.map aE) f.2)(hrb:RB r.2)(hf:f.1=r.1)(hrow:Bq (aE r))
  (hnew:r.1∉(PL0++l.map aE).map (·.1)):kD fl PL0 (fs++[f]) (l++[r]):=by
 have run:lR fl PL0 (fs++[f])=.ok (l++[r]):=by
  have h1:=h.run
  unfold lR at h1 ⊢
  rw [List.foldl_append,h1]
  show sO fl PL0 (.ok l) f=_
  rw [qQ hw,hf]
 have hrl:∀r'∈l,RB r'.2:=h.rb fs.length l (by rw [List.take_length];exact h.run)
 refine⟨run,⟨?_,λr' hr'=>?_,?_⟩,λi g l' hg hl=>?_,λi l' hl r' hr'=>?_,by rw [ma0,ma0,h.keys];show _++[f.1]=_++[r.1];rw [hf]⟩
 ·have e:PL0++(l++[r]).map aE=(PL0++l.map aE)++[aE r]:=by rw [ma0,<-List.append_assoc];rfl
  rw [e,ma0]
  refine List.nodup_append.mpr ⟨h.pl.nd,List.nodup_cons.mpr ⟨List.not_mem_nil,.nil⟩,λa ha b hb e=>?_⟩
  rw [List.mem_singleton.mp hb] at e
  have e':a=r.1:=e
  rw [e'] at ha
  exact hnew ha
 ·rw [ma0,<-List.append_assoc] at hr'
  rcases List.mem_append.mp hr' with hr'|hr'
  ·exact h.pl.row r' hr'
  ·rw [List.mem_singleton.mp hr']
   exact hrow
 ·obtain⟨q,hq,h4⟩:=h.pl.has
  refine⟨q,?_,h4⟩
  obtain⟨r',hr',x⟩:=gB.mp hq
  exact gB.mpr ⟨r',by rw [ma0,<-List.append_assoc];exact List.mem_append_left _ hr',x⟩
 ·by_cases hi:i < fs.length
  ·rw [List.getElem?_append_left hi] at hg
   rw [List.take_append_of_le_length (Nat.le_of_lt hi)] at hl
   exact h.sl i g l' hg hl
  ·have hi2:i=fs.length:=by
    have:=(List.getElem?_eq_some_iff.mp hg).1
    rw [la0] at this
    have:i < fs.length+1:=this
    omega
   subst hi2
   rw [List.getElem?_append_right nr0,Nat.sub_self] at hg
   cases hg
   rw [List.take_append_of_le_length nr0,List.take_length,h.run] at hl
   cases hl
   exact hs
 ·by_cases hi:i<=fs.length
  ·rw [List.take_append_of_le_length hi] at hl
   exact h.rb i l' hl r' hr'
  ·rw [List.take_of_length_le (by rw [la0];show fs.length+1<=i;omega),run] at hl
   cases hl
   rcases List.mem_append.mp hr' with hr'|hr'
   ·exact hrl r' hr'
   ·rw [List.mem_singleton.mp hr']
    exact hrb
theorem yd(hl:look fl z=some (A,B))(h:Ak PL A B ws us):dF fl PL (z,ws)=.ok (A.map (cA (Gl us))) (B.map (cq (Gl us))):=by
 unfold dF
 rw [hl]
 refine(if_pos h.told).trans ?_
 rw [h.run]
def zo(H:Hp)(S:List Addr):Hp:=λb=>if b∈S then none else H b
theorem eI(h:b∉S):zo H S b=H b:=if_neg h
theorem p8(h:b∈S):zo H S b=none:=if_pos h
theorem bo:ao (zo H S) H:=λb u q=>by
 by_cases e:b∈S
 ·rw [p8 e] at q;cases q
 ·rw [eI e] at q;exact q
theorem dP(s:ao H H'):ao (zo H S) (zo H' S):=λb u q=>by
 by_cases e:b∈S
 ·rw [p8 e] at q;cases q
 ·rw [eI e] at q ⊢;exact s _ _ q
theorem gm(h:a∈S):zo (upd H a o) S=zo H S:=by
 funext b
 by_cases e:b∈S
 ·rw [p8 e,p8 e]
 ·rw [eI e,eI e,ah (λz:b=a=>e (by rw [z];exact h))]
theorem BD(h:d∈S)(s:ao (wo H d) (wo H' d)):ao (zo H S) (zo H' S):=λb u q=>by
 by_cases e:b∈S
 ·rw [p8 e] at q;cases q
 ·rw [eI e] at q ⊢
  have ne:b≠d:=λz=>e (by rw [z];exact h)
  have:=s b u (by rw [dL ne];exact q)
  rw [dL ne] at this
  exact this
theorem uJ(s:ao H H')(h:∀b∈S,H b=none):ao H (zo H' S):=λb u q=>by
 rw [eI (λz=>by rw [h b z] at q;cases q)]
 exact s _ _ q
def uy(o:HO):Prop:=∀ys,o≠.tup ys/\∀ob,o≠.frz ob (.tup ys)
theorem ky:uy (.dT kv):=λ_=>⟨λz=>(nomatch z),λ_ z=>(nomatch z)⟩
theorem gW:uy (.dK kv):=λ_=>⟨λz=>(nomatch z),λ_ z=>(nomatch z)⟩
theorem cS:uy (.lst xs):=λ_=>⟨λz=>(nomatch z),λ_ z=>(nomatch z)⟩
def NtS(H:Hp)(S:List Addr):Prop:=∀b∈S,∃o,H b=some o/\uy o
theorem NtS.same(s:ao H H')(h:NtS H S):NtS H' S:=λb hb=>let ⟨o,e,n⟩:=h b hb;⟨o,s _ _ e,n⟩
theorem aS(h:H b=some o)(n:uy o)(r:NtS H S):NtS H (b::S):=λc hc=>by
 rcases mc0 hc with rfl|hc
 ·exact⟨o,h,n⟩
 ·exact r c hc
theorem eX:NtS H []:=λ_ h=>nomatch h
theorem ej(h:NtS H S)(t:H a=some (.tup xs)):zo H S a=some (.tup xs):=by
 rw [eI λz=>?_]
 ·exact t
 ·obtain⟨o,e,n⟩:=h a z
  rw [t] at e
  exact(n xs).1 (Option.some.inj e).symm
theorem gg(h:NtS H S)(t:SqT K H a xs):SqT K (zo H S) a xs:=by
 rcases t with (t|⟨ob,t⟩)|t
 ·exact .inl (.inl (ej h t))
 ·refine .inl (.inr ⟨ob,?_⟩)
  rw [eI λz=>?_]
  ·exact t
  ·obtain⟨o,e,n⟩:=h a z
   rw [t] at e
   exact(n xs).2 ob (Option.some.inj e).symm
 ·exact .inr t
theorem LfN.zo(h0:NtS H0 S)(s:ao H0 H)(h:LfN K H0 H x m1 m2):iM K (zo H S) x m1 m2:=by
 have hS:=h0.same s
 obtain⟨l1,l2,n1,n2,hx,⟨xs,hl1,hp1⟩,⟨ys,hl2,hp2⟩⟩:=h
 have ne:∀b,H0 b=none->b∉S:=λb hb z=>by
  obtain⟨o,e,_⟩:=h0 b z
  rw [hb] at e
  cases e
 exact⟨l1,l2,ej hS hx,⟨xs,by rw [eI (ne l1 n1)];exact hl1,Paired.mapP hp1 λ_ _ ⟨p,y,e,h1,h2⟩=>⟨p,y,e,ej hS h1,aC (λ_ _ t=>gg hS t) h2⟩⟩,
  ⟨ys,by rw [eI (ne l2 n2)];exact hl2,Paired.mapP hp2 λ_ _ ⟨p,y,e,h1,h2⟩=>⟨p,y,e,ej hS h1,h2.keep λ_ _ t=>gg hS t⟩⟩⟩
def ue(K:W.Frag)(H:Hp)(v:V)(r:Str × (am × aY)):Prop:=∃(p x:Addr),v=.ref p/\H p=some (.tup [.str r.1,.ref x])/\iM K H x r.2.1 r.2.2
theorem ue.same(e:ao H H')(h:ue K H v r):ue K H' v r:=by
 obtain⟨p,x,a,b,c⟩:=h
 exact⟨p,x,a,e _ _ b,c.same e⟩
theorem vL.same(e:ao H H')(h:vL K H v f):vL K H' v f:=by
 obtain⟨p,y,a,b,c⟩:=h
 exact⟨p,y,a,e.tup b,c.same e⟩
abbrev foN:List Str:=["_law_script","_law_words","_law_some","_law_names","_law_formals_here","_law_wants","_law_k","_law_face_here","_law_cells","_law_withs_here","_law_given","_law_want"]
abbrev foP:List Str:=["_law_script","_law_words","_law_some","_law_names"]
structure BU(A0 A1:am)(B0 B1:aY)(r:Str × (am × aY)):Prop where
 rb:RB r.2
 b1:BK 4 r.2.1
 b2:BF 4 r.2.2
 l1:r.2.1.length<=5
 l2:r.2.2.length<=5
 ks:(r.2.1.map (·.1)=A0.map (·.1)/\r.2.2.map (·.1)=B0.map (·.1))\/(r.2.1.map (·.1)=A1.map (·.1)/\r.2.2.map (·.1)=B1.map (·.1))
structure Bt(fl PL0:aV)(c c2 sh0 sh1:Int)(W0:Str)(wd:List Str)(A0 A1:am)(B0 B1:aY):Prop where
 f0:cD c c2 sh0 [.name W0 "k"] A0 B0
 f1:cD c c2 sh1 [.name W0 "k"] A1 B1
 w0:smW W0
 ne0:W0≠""
 pl:iT PL0
 lp:PL0.length<=1
 wl:wd.length=13
 nd:wd.Nodup
 sw:∀z∈wd,smW z/\z≠""
 new:∀i z,wd[1+i]?=some z->z∉PL0.map (·.1)
 z0:∀z,wd[6]?=some z->look fl z=some (A0,B0)
 z1:∀z,wd[12]?=some z->look fl z=some (A1,B1)
def oj(K:W.Frag):Sp:=λvs H Q _=>∃(a wa so d f0 f1:Addr) (ns:List Int) (wd:List Str) (fl PL0:aV) (c c2 sh0 sh1:Int) (W0:Str) (A0 A1:am) (B0 B1:aY),vs=[.ref a,.ref wa,.ref so,.ref d]/\SqL K (wo H d) a (ns.map V.int)/\ns.length<=63/\wo H d wa=some (.lst (wd.map V.str))/\wo H d so=some (.lst [.ref f0,.ref f1]) /\
 iM K (wo H d) f0 A0 B0/\iM K (wo H d) f1 A1 B1/\pQ K H d (aD PL0)/\Bt fl PL0 c c2 sh0 sh1 W0 wd A0 A1 B0 B1 /\
 ∀H' (t tf lw:Addr) (fs:List (Str × (Str × am))) (l:aV) (xs ys:List V),ao (wo H d) (wo H' d)->H' t=some (.tup [.ref tf,.ref lw])->H' tf=some (.tup xs)->Paired (vL K (wo H' d)) xs fs->wo H' d lw=some (.lst ys)->Paired (ue K (wo H' d)) ys l->pQ K H' d (aD (PL0++l.map aE))->kD fl PL0 fs l ->
  1<=l.length->l.length<=4->(∀i r,l[i]?=some r->wd[1+i]?=some r.1)->(∀r∈l,BU A0 A1 B0 B1 r)->Q (.ref t) H'
theorem xp{PL0 l:aV}(h:iT (PL0++l.map aE))(hp:PL0.length<=1)(hl:l.length<=4):(aD (PL0++l.map aE)).length<=25:=by
 have go:∀PL:aV,(∀r∈PL,r.2.1.length<=5)->(aD PL).length<=5*PL.length:=λPL=>by
  induction PL with
  |nil=>intro _;exact Nat.zero_le _
  |cons r PL ih =>
   intro hh
   have e0:aD (r::PL)=bR r.1 r.2.1++aD PL:=by
    unfold aD
    rw [List.flatMap_cons]
   rw [e0,la0,lm0,lc0]
   have:=ih λr' hr'=>hh r' (List.mem_cons_of_mem _ hr')
   have:=hh r (List.mem_cons_self ..)
   omega
 have:=go _ λr hr=>(h.row r hr).l1
 rw [la0,lm0] at this
 omega
theorem tH(hd:H d=some (.dT kv))(h:iM K H x m1 m2):iM K (wo H d) x m1 m2:=by
 obtain⟨l1,l2,hx,⟨xs,hl1,hp1⟩,⟨ys,hl2,hp2⟩⟩:=h
 have tp:∀{b:Addr} {o:HO},H b=some o->(∀kv,o≠.dT kv)->wo H d b=some o:=λ{b o} hb hn=>by
  rw [dL (λe=>?_)]
  ·exact hb
  ·rw [e,hd] at hb
   exact hn kv (Option.some.inj hb).symm
 have kp:∀a zs,SqT K H a zs->SqT K (wo H d) a zs:=λa zs t=>gO hd (λys=>⟨λz=>(nomatch z),λob z=>(nomatch z)⟩) t
 exact⟨l1,l2,tp hx λkv z=>(nomatch z),⟨xs,tp hl1 λkv z=>(nomatch z),Paired.mapP hp1 λ_ _ ⟨p,y,e,h1,h2⟩=>⟨p,y,e,tp h1 λkv z=>(nomatch z),aC kp h2⟩⟩,⟨ys,tp hl2 λkv z=>(nomatch z),Paired.mapP hp2 λ_ _ ⟨p,y,e,h1,h2⟩=>⟨p,y,e,tp h1 λkv z=>(nomatch z),h2.keep kp⟩⟩⟩
theorem dB:aG foN foP (ae gE):=mkS
theorem su (F:Fun K "_law_formals" "_law_formals" gE f fd)
  (GC:Ca P w K mg base 1 "_law_cell" fc fdc ["_law_script","_law_k"] (ge K))
  (GW:Ca P w K mg base 41 "_law_withs" fw fdw wiP (uq K))
  (GH:Ca P w K mg base 1 "_law_hidden" fh fdh ["_law_kinds"] (ic K))
  (GP:Ca P w K mg base (20+1) "_law_put_all" fp fdp paP (ip K 20))
  (GK:Ca P w K mg base 1 "_law_know" fk fdk knP (tN K))
  (GG:Ca P w K mg base (20+1+1) "_law_hiding" fg fdg ["_law_face_here","_law_part"] (l0 K 20))
  (mt:mg "tuple"=none) (mr:mg "range"=none):cE P w K mg base CX0 42 f fd foP (oj K):=by
 refine F.k0 dB λcdv A outer s H vs Q E hr h=>?_
 obtain⟨a,wa,so,d,f0,f1,ns,wd,fl,PL0,c,c2,sh0,sh1,W0,A0,A1,B0,B1,rfl,hA,h63,hwa,hso,hf0,hf1,hNm,hI,q⟩:=h
 have hr1:bZ 1 _:=hr.mono (by decide)
 have hr21:bZ (20+1) _:=hr.mono (by decide)
 have hr22:bZ (20+1+1) _:=hr.mono (by decide)
 refine⟨_,@pss_cons _ _ _ _ _ (aU (i:=4) dB.nd (bT ad))
  (aU (i:=5) dB.nd (bT ad) <|> bY PassesOwn.never rfl (cj rfl mr (aH bv ag (aH ck (cal GC hr1 (pv 0 >> ag >> ad)) ag) >> ad)) (ar (i:=6) dB.nd rfl (Or.inr rfl))
   (aU (i:=7) dB.nd (ix0 aO (pv 2) (aH ck (pv 6) ag)) <|> jY (i0:=8) (own:=["_law_j"]) (caps:=["_law_k","_law_script"]) (κ:=[6,0]) dB.nd rfl (Or.inl rfl) rfl ⟨rfl,by decide +kernel,by decide +kernel,rfl,rfl,gN rfl rfl,gN ⟨.inl rfl,rfl,.inl rfl⟩ ⟨.inl rfl,rfl,.inl rfl⟩⟩ rfl
    (cj rfl mr (ag >> ad)) (λ_ _ _ _=>pg0 ["_law_j","_law_k","_law_script"])
    (λ_ _ _ _=>cal GC hr1 (pv 2 >> aH bv (aH bv ag (aH gL ag (pv 1))) (pv 0) >> ad)) <|> kR (cal GW hr (pv 8 >> cal GH hr1 (aN ak (pv 7) ag (λ_ _=>rfl) >> ad) >> pv 3 >> ad)) (cC rfl (ap (ar (i:=9) dB.nd rfl (Or.inl rfl)) (ap (ar (i:=10) dB.nd rfl (Or.inl rfl)) bC))) <|> aU (i:=11) dB.nd (cal GP hr21 (pv 7 >> pv 10 >> ad)) <|> bh (gX PySem.F.plainAttrs_list PySem.F.slot_list_append PySem.F.type_list_append bO (pv 4) (@az _ _ _ _ _ (aN aO (pv 1) (aH bv ag (pv 6)) (λ_ _=>rfl) >> @az _ _ _ _ _ (aN aO (bT (aN aO (pv 1) ag (λ_ _=>rfl) >> aN aO (pv 1) ag (λ_ _=>rfl) >> ad)) (aH ck (pv 6) ag) (λ_ _=>rfl) >> pv 9 >> ad) >> ad) >> ad)) <|> bh (gX PySem.F.plainAttrs_list PySem.F.slot_list_append PySem.F.type_list_append bO (pv 5) (@az _ _ _ _ _ (aN aO (pv 1) (aH bv ag (pv 6)) (λ_ _=>rfl) >> pv 11 >> ad) >> ad)) <|> @ai _ _ _ (bh (cal GK hr1 (pv 3 >> aN aO (pv 1) (aH bv ag (pv 6)) (λ_ _=>rfl) >> cal GG hr22 (pv 11 >> aN aO (pv 1) (aH bv ag (pv 6)) (λ_ _=>rfl) >> ad) >> ad)))) <|> @ai _ _ _ (@aP _ _ _ _ (@az _ _ _ _ _ (aQ bj rfl mt bF (pv 4 >> ad) >> pv 5 >> ad)))),?_⟩
 refine⟨(sz 0),λlf hlf=>?_⟩
 have s1:=ac hlf (.lst [])
 refine⟨(sz 0),λlw hlw=>?_⟩
 have s2:=ac hlw (.lst [])
 have s12:=s1.trans s2
 have hlw0:H lw=none:=s1.free hlw
 have nfw:lf≠lw:=λe=>by rw [<-e,aa] at hlw;cases hlw
 obtain⟨dkv0,hd0,hnk0⟩:=id hNm
 have ndf:d≠lf:=aw hd0 hlf
 have ndw:d≠lw:=aw hd0 hlw0
 have dS:d∈[d,lf,lw]:=by simp
 have fS:lf∈[d,lf,lw]:=by simp
 have wS:lw∈[d,lf,lw]:=by simp
 have clA:∀{H':Hp},ao (wo H d) H'->SqL K H' a (ns.map V.int):=λe=>eE e hA
 have hst:ao (wo H d) (zo (upd (upd H lf (.lst [])) lw (.lst [])) [d,lf,lw]):=uJ (aL.trans s12) λb hb=>by
  simp only [List.mem_cons,List.not_mem_nil,or_false] at hb
  rcases hb with rfl|rfl|rfl
  ·exact rN
  ·rw [dL (Ne.symm ndf)];exact hlf
  ·rw [dL (Ne.symm ndw)];exact hlw0
 obtain⟨z6,hz6⟩:∃z,wd[6]?=some z:=⟨_,List.getElem?_eq_getElem (by rw [hI.wl];decide)⟩
 obtain⟨z12,hz12⟩:∃z,wd[12]?=some z:=⟨_,List.getElem?_eq_getElem (by rw [hI.wl];decide)⟩
 have at6:atI (wd.map V.str) 6=some (.str z6):=bE (j:=6) (by rw [List.getElem?_map,hz6];rfl)
 have at12:atI (wd.map V.str) 12=some (.str z12):=bE (j:=12) (by rw [List.getElem?_map,hz12];rfl)
 refine⟨_,rfl,a,ns,6,rfl,clA (aL.trans s12),h63,by decide,by decide,λc6 _=>?_⟩
 have r0:=Int.emod_nonneg c6 (show(4:Int)≠0 by decide)
 have r1:=Int.emod_lt_of_pos c6 (show(0:Int) < 4 by decide)
 refine⟨_,_,rfl,rfl,(by show(0:Int) < 4;decide),_,_,rfl,rfl,_,rfl,by omega,by omega,?_⟩
 have hn4:(1+c6%4).toNat<=4:=by omega
 have hn1:1<=(1+c6%4).toNat:=by omega
 generalize (1+c6%4).toNat=n at hn4 hn1 ⊢
 refine eN (λi σ H3=>∃(y6 y7 y8 y9 y10 y11:Option V) (xs ys:List V) (fs:List (Str × (Str × am))) (l:aV),σ=[some (.ref a),some (.ref wa),some (.ref so),some (.ref d),some (.ref lf),some (.ref lw),y6,y7,y8,y9,y10,y11]/\ao (wo H d) (zo H3 [d,lf,lw])/\H3 lf=some (.lst xs)/\Paired (vL K (zo H3 [d,lf,lw])) xs fs/\H3 lw=some (.lst ys)/\Paired (ue K (zo H3 [d,lf,lw])) ys l/\pQ K H3 d (aD (PL0++l.map aE))/\kD fl PL0 fs l/\l.length=i/\(∀j r,l[j]?=some r->wd[1+j]?=some r.1)/\∀r∈l,BU A0 A1 B0 B1 r)
  ⟨none,none,none,none,none,none,[],[],[],[],rfl,hst,by rw [ah nfw];exact aa,.nil,aa,.nil,by rw [List.map_nil,List.append_nil];exact hNm.same s12,kD.nil hI.pl,rfl,(λj r h=>by rw [List.getElem?_nil] at h;cases h),λr hr=>nomatch hr⟩ ?_ ?_
 ·rintro i σ H3 hi ⟨y6,y7,y8,y9,y10,y11,xs,ys,fs,l,rfl,s3,hf3,hx3,hw3,hy3,⟨kv3,hd3,hn3⟩,hInv,hil,hwd,hrow⟩
  rw [Int.zero_add]
  have s3':ao (wo H d) H3:=s3.trans bo
  have nt3:NtS H3 [d,lf,lw]:=aS hd3 ky (aS hf3 cS (aS hw3 cS eX))
  have hnl:=xp hInv.pl hI.lp (by omega:l.length<=4)
  obtain⟨fx,Ax,Bx,shx,zx,hatf,hfx,hFx,hatz,hlk,hks⟩:∃(fx:Addr) (Ax:am) (Bx:aY) (shx:Int) (zx:Str),atI [V.ref f0,.ref f1] ((i:Int)%2)=some (.ref fx)/\iM K (wo H d) fx Ax Bx/\cD c c2 shx [.name W0 "k"] Ax Bx/\atI [V.str z6,.str z12] ((i:Int)%2)=some (.str zx)/\(look fl zx=some (Ax,Bx)/\smW zx)/\((Ax.map (·.1)=A0.map (·.1)/\Bx.map (·.1)=B0.map (·.1))\/(Ax.map (·.1)=A1.map (·.1)/\Bx.map (·.1)=B1.map (·.1))):=by
   have h2:(i:Int)%2=0\/(i:Int)%2=1:=by omega
   rcases h2 with e|e
   ·exact⟨f0,A0,B0,sh0,z6,by rw [e];rfl,hf0,hI.f0,by rw [e];rfl,⟨hI.z0 _ hz6,(hI.sw _ (List.mem_of_getElem? hz6)).1⟩,.inl ⟨rfl,rfl⟩⟩
   ·exact⟨f1,A1,B1,sh1,z12,by rw [e];rfl,hf1,hI.f1,by rw [e];rfl,⟨hI.z1 _ hz12,(hI.sw _ (List.mem_of_getElem? hz12)).1⟩,.inr ⟨rfl,rfl⟩⟩
  obtain⟨Wi,hWi⟩:∃z,wd[1+i]?=some z:=⟨_,List.getElem?_eq_getElem (by rw [hI.wl];omega)⟩
  have atW:atI (wd.map V.str) (1+(i:Int))=some (.str Wi):=by
   have:=bE (xs:=wd.map V.str) (j:=1+i) (v:=.str Wi) (by rw [List.getElem?_map,hWi];rfl)
   rw [show(1:Int)+(i:Int)=((1+i:Nat):Int) by omega]
   exact this
  have hWs:=hI.sw _ (List.mem_of_getElem? hWi)
  have ax:=hFx.b1 (cb hI.w0)
  have bx:=hFx.b2 (cb hI.w0)
  have lx:=hFx.l1
  have mx:=hFx.fu.2.2.1
  refine⟨_,rfl,_,rfl,_,_,rfl,rfl,(by show(0:Int) < 2;decide),so,_,_,_,rfl,rfl,SqL.of (s3' _ _ hso),hatf,?_⟩
  refine⟨_,rfl,by decide,by decide,?_⟩
  refine nZ (m:=3) (by decide) (λj zs H4=>∃cs:List Int,zs=cs.map V.int/\cs.length=j) ⟨[],rfl,rfl⟩ (λj zs _ ⟨cs,e1,e2⟩=>by rw [e1,lm0,e2];exact Nat.le_refl _) ?_ ?_
  ·rintro j zs H4 N hN hj s4 ⟨cs,rfl,hcs⟩
   refine⟨rfl,di ⟨_,rfl,_,rfl,_,_,rfl,rfl,.inl ⟨by decide,by decide⟩,_,_,rfl,rfl,_,rfl,_,_,rfl,rfl,a,ns,40+3*(i:Int)+(j:Int),rfl,clA (s3'.trans s4),h63,by omega,by omega,λcc _=>hN _ _ s4 ⟨cs++[cc],by rw [ma0];rfl,by rw [la0,hcs];rfl⟩⟩⟩
  rintro zs H4 D4 s4 ⟨cs,rfl,hcs⟩ hD4
  have t4:=ac hD4 (.lst (cs.map V.int))
  have s34:=s4.trans t4
  have hD5:upd H4 D4 (.lst (cs.map V.int)) D4=some (.lst (cs.map V.int)):=aa
  revert s34 hD5
  generalize upd H4 D4 (.lst (cs.map V.int))=H5
  intro s34 hD5
  clear t4 hD4 s4
  have s5':=s3'.trans s34
  obtain⟨l1,l2,hfx5,hR1,hR2⟩:=hfx.same s5'
  refine⟨_,rfl,_,rfl,fx,_,_,_,rfl,rfl,SqT.of hfx5,(show atI [V.ref l1,.ref l2] 0=some (.ref l1) from rfl),l1,Ax,rfl,hR1,by omega,λq hq=>⟨dz (ax q hq).1,fT (ax q hq).2.1,by have:=aR (ax q hq).2;omega⟩,λH6 hh s6 hh0 hh6=>?_⟩
  have s36:=s34.trans s6
  have hhl:(ba Ax).length<=3:=hFx.h3
  refine⟨_,rfl,D4,hh,d,cs,ba Ax,aD (PL0++l.map aE),rfl,s6 _ _ hD5,hh6,⟨kv3,s36 _ _ hd3,hn3.same s36⟩,by omega,by omega,bt hFx.nd1,by omega,iT.keys hInv.pl.nd λr hr=>(hInv.pl.row r hr).nd1,λq hq=>by have:=aR (hInv.pl.val (n:=q.1) (k:=q.2) hq).1;omega,hInv.pl.has,λH7 t tw g xw kvs ws s7 ht htw hws hg hpt hwok=>?_⟩
  have s37:=s36.trans s7
  have FS:=Ac hInv.pl hFx hI.w0 hI.ne0 hwok
  refine⟨t,_,rfl,SqT.of ht,rfl,_,_,rfl,_,_,rfl,rfl,?_⟩
  have hkn:((ws.map (aq (aD (PL0++l.map aE)))).map (·.1)).Nodup:=by
   rw [List.map_map]
   exact hwok.sub.nodup (bt hFx.nd1)
  have hGl:iR K H7 kvs (Gl (ws.map (aq (aD (PL0++l.map aE))))):=by
   rw [<-ie rfl]
   exact tY hpt rfl λq hq=>bu hkn hq
  refine⟨_,rfl,_,rfl,fx,g,Ax,Bx,kvs,_,rfl,hfx.same (s3'.trans s37),by omega,by omega,λq hq=>by have:=aR (ax q hq).2;omega,λq hq=>⟨λk hk=>by have:=aR ((bx q hq).2.2 k (List.mem_cons_of_mem _ hk));omega,by have:=aR ((bx q hq).2.2 _ (List.mem_cons_self ..));omega,by have:=(bx q hq).2.1;omega⟩,hg,hGl,λH8 x s8 hN=>?_⟩
  have s38:=s37.trans s8
  have s8':=s3'.trans s38
  have nt7:=nt3.same s37
  have hLz:=LfN.zo nt7 s8 hN
  have nkz:qh K (zo H3 [d,lf,lw]) kv3 (aD (PL0++l.map aE)):=hn3.keep λ_ _ h=>gg nt3 h
  have hxl:=Paired.length hx3
  have hyl:=Paired.length hy3
  have hfl:fs.length=l.length:=by
   have:=congrArg List.length hInv.keys
   rw [lm0,lm0] at this
   exact this
  refine⟨_,rfl,.inl ⟨rfl,_,SqL.of (s38 _ _ hf3)⟩,_,rfl,_,rfl,_,_,rfl,rfl,wa,_,_,_,rfl,rfl,SqL.of (s8' _ _ hwa),atW,_,rfl,wa,_,_,_,rfl,rfl,SqL.of (s8' _ _ hwa),at6,_,rfl,wa,_,_,_,rfl,rfl,SqL.of (s8' _ _ hwa),at12,(sz 2),λq1 hq1=>?_⟩
  have u1:=ac hq1 (.lst [.str z6,.str z12])
  refine⟨_,rfl,_,_,rfl,rfl,(by show(0:Int) < 2;decide),q1,_,_,_,rfl,rfl,SqL.of aa,hatz,_,rfl,(sz 2),λt1 ht1=>?_⟩
  have u2:=ac ht1 (.tup [.str zx,.ref tw])
  refine⟨(sz 2),λt2 ht2=>?_⟩
  have u3:=ac ht2 (.tup [.str Wi,.ref t1])
  have u13:=u1.trans (u2.trans u3)
  have ht2':upd (upd (upd H8 q1 (.lst [.str z6,.str z12])) t1 (.tup [.str zx,.ref tw])) t2 (.tup [.str Wi,.ref t1]) t2=some (.tup [.str Wi,.ref t1]):=aa
  have ht1':=u3 _ _ (show upd (upd H8 q1 (.lst [.str z6,.str z12])) t1 (.tup [.str zx,.ref tw]) t1=some (.tup [.str zx,.ref tw]) from aa)
  revert u13 ht2' ht1'
  generalize upd (upd (upd H8 q1 (.lst [.str z6,.str z12])) t1 (.tup [.str zx,.ref tw])) t2 (.tup [.str Wi,.ref t1])=Hm
  intro u13 ht2' ht1'
  clear u1 u2 u3 ht2 ht1 hq1
  have s3m:=s38.trans u13
  have ntm:=nt3.same s3m
  refine⟨lf,xs,.ref t2,rfl,rfl,s3m _ _ hf3,Nat.lt_of_lt_of_le (Nat.lt_succ_self _) (bJ (by omega)),?_⟩
  have hFs:vL K (zo Hm [d,lf,lw]) (.ref t2) (Wi,(zx,ws)):=⟨t2,.ref t1,rfl,SqT.of (ej ntm ht2'),t1,tw,xw,rfl,SqT.of (ej ntm ht1'),SqT.of (ej ntm ((s8.trans u13) _ _ htw)),cG.keep (λ_ _ h=>gg ntm ((s8.trans u13).tup h)) hws⟩
  have z9:zo (upd Hm lf (.lst (xs++[.ref t2]))) [d,lf,lw]=zo Hm [d,lf,lw]:=gm fS
  have h9f:upd Hm lf (.lst (xs++[.ref t2])) lf=some (.lst (xs++[.ref t2])):=aa
  have h9w:upd Hm lf (.lst (xs++[.ref t2])) lw=some (.lst ys):=by rw [ah (Ne.symm nfw)];exact s3m _ _ hw3
  have h9d:upd Hm lf (.lst (xs++[.ref t2])) d=some (.dT kv3):=by rw [ah ndf];exact s3m _ _ hd3
  revert z9 h9f h9w h9d
  generalize upd Hm lf (.lst (xs++[.ref t2]))=H9
  intro z9 h9f h9w h9d
  have q9:ao (zo H3 [d,lf,lw]) (zo H9 [d,lf,lw]):=by rw [z9];exact dP s3m
  have hFs9:vL K (zo H9 [d,lf,lw]) (.ref t2) (Wi,(zx,ws)):=by rw [z9];exact hFs
  have hL9:=hLz.same (dP u13)
  rw [<-z9] at hL9
  have w9:ao (wo H d) H9:=(s3.trans q9).trans bo
  refine⟨_,rfl,.inl ⟨rfl,_,SqL.of h9w⟩,_,rfl,_,rfl,_,_,rfl,rfl,wa,_,_,_,rfl,rfl,SqL.of (w9 _ _ hwa),atW,_,rfl,(sz 2),λt3 ht3=>?_⟩
  have v1:=ac ht3 (.tup [.str Wi,.ref x])
  have nt9:NtS H9 [d,lf,lw]:=aS h9d ky (aS h9f cS (aS h9w cS eX))
  have nt9':=nt9.same v1
  refine⟨lw,ys,.ref t3,rfl,rfl,v1 _ _ h9w,Nat.lt_of_lt_of_le (Nat.lt_succ_self _) (bJ (by omega)),?_⟩
  have z10:zo (upd (upd H9 t3 (.tup [.str Wi,.ref x])) lw (.lst (ys++[.ref t3]))) [d,lf,lw]=zo (upd H9 t3 (.tup [.str Wi,.ref x])) [d,lf,lw]:=gm wS
  have h10t:=ej nt9' (show upd H9 t3 (.tup [.str Wi,.ref x]) t3=some (.tup [.str Wi,.ref x]) from aa)
  have h10w:upd (upd H9 t3 (.tup [.str Wi,.ref x])) lw (.lst (ys++[.ref t3])) lw=some (.lst (ys++[.ref t3])):=aa
  have h10f:upd (upd H9 t3 (.tup [.str Wi,.ref x])) lw (.lst (ys++[.ref t3])) lf=some (.lst (xs++[.ref t2])):=by rw [ah nfw];exact v1 _ _ h9f
  have h10d:upd (upd H9 t3 (.tup [.str Wi,.ref x])) lw (.lst (ys++[.ref t3])) d=some (.dT kv3):=by rw [ah ndw];exact v1 _ _ h9d
  have q10:ao (zo H9 [d,lf,lw]) (zo (upd (upd H9 t3 (.tup [.str Wi,.ref x])) lw (.lst (ys++[.ref t3]))) [d,lf,lw]):=by rw [z10];exact dP v1
  have hW10:ue K (zo (upd (upd H9 t3 (.tup [.str Wi,.ref x])) lw (.lst (ys++[.ref t3]))) [d,lf,lw]) (.ref t3) (Wi,(Ax.map (cA (Gl (ws.map (aq (aD (PL0++l.map aE)))))),Bx.map (cq (Gl (ws.map (aq (aD (PL0++l.map aE)))))))):=⟨t3,x,rfl,by rw [z10];exact h10t,hL9.same q10⟩
  revert q10 hW10 h10w h10f h10d
  generalize upd (upd H9 t3 (.tup [.str Wi,.ref x])) lw (.lst (ys++[.ref t3]))=H10
  intro h10w h10f h10d q10 hW10
  have qA:=q9.trans q10
  have w10:ao (wo H d) H10:=(s3.trans qA).trans bo
  have hL10:=hL9.same (q10.trans bo)
  generalize hus:ws.map (aq (aD (PL0++l.map aE)))=us at *
  have RBx:=FS.rb
  refine⟨_,rfl,_,rfl,_,rfl,_,_,rfl,rfl,wa,_,_,_,rfl,rfl,SqL.of (w10 _ _ hwa),atW,_,rfl,_,rfl,_,rfl,_,_,rfl,rfl,wa,_,_,_,rfl,rfl,SqL.of (w10 _ _ hwa),atW,x,Wi,_,_,rfl,hL10,RBx.nd1,RBx.l1,RBx.l2,RBx.t1,λq hq=>by have:=aR (FS.b1 q hq).2;omega,λq hq=>⟨λk hk=>by have:=aR ((FS.b2 q hq).2.2 k (List.mem_cons_of_mem _ hk));omega,by have:=aR ((FS.b2 q hq).2.2 _ (List.mem_cons_self ..));omega,by have:=(FS.b2 q hq).2.1;omega⟩,λH11 y s11 hy=>?_⟩
  have nt10:NtS H10 [d,lf,lw]:=aS h10d ky (aS h10f cS (aS h10w cS eX))
  have h11d:=s11 _ _ h10d
  have row:=FS.row Wi hWs.1 hWs.2
  have hnew:Wi∉(PL0++l.map aE).map (·.1):=λhm=>by
   rw [ma0,List.map_map] at hm
   rcases List.mem_append.mp hm with hm|hm
   ·exact hI.new i _ hWi hm
   ·obtain⟨r,hr,e⟩:=List.mem_map.mp hm
    obtain⟨j,hj⟩:=List.getElem?_of_mem hr
    have hj2:=hwd j r hj
    have hjl:j < l.length:=(List.getElem?_eq_some_iff.mp hj).1
    have e':r.1=Wi:=e
    rw [e'] at hj2
    have:=(List.getElem?_inj (by rw [hI.wl];omega) hI.nd).mp (hj2.trans hWi.symm)
    omega
  have hInv':kD fl PL0 (fs++[(Wi,(zx,ws))]) (l++[(Wi,(Ax.map (cA (Gl us)),Bx.map (cq (Gl us))))]):=hInv.snoc (yd hlk.1 FS) ⟨dz hlk.2,FS.len,FS.sl⟩ FS.rb rfl row hnew
  have enl:aD (PL0++(l++[(Wi,(Ax.map (cA (Gl us)),Bx.map (cq (Gl us))))]).map aE)=aD (PL0++l.map aE)++bR Wi (aE (Wi,(Ax.map (cA (Gl us)),Bx.map (cq (Gl us))))).2.1:=by
   rw [ma0,<-List.append_assoc]
   exact uS _ _
  refine⟨d,y,Wi,aD (PL0++l.map aE),_,_,rfl,⟨kv3,h11d,(nkz.same qA).same (bo.trans s11)⟩,tH h11d hy,by omega,by have:=row.l1;exact Nat.le_trans this (by decide),?_,λH12 s12 hN12=>?_⟩
  ·have:=iT.keys hInv'.pl.nd λr hr=>(hInv'.pl.row r hr).nd1
   rw [enl] at this
   exact this
  have qB:ao (zo H10 [d,lf,lw]) (zo H12 [d,lf,lw]):=(dP s11).trans (BD dS s12)
  have qC:=qA.trans qB
  have toB:∀{b:Addr} {o:HO},b≠d->H10 b=some o->H12 b=some o:=λ{b o} hb h=>by
   have:=s12 b o (by rw [dL hb];exact s11 _ _ h)
   rw [dL hb] at this
   exact this
  refine⟨_,_,_,_,_,_,xs++[.ref t2],ys++[.ref t3],fs++[(Wi,(zx,ws))],l++[(Wi,(Ax.map (cA (Gl us)),Bx.map (cq (Gl us))))],rfl,s3.trans qC,toB (Ne.symm ndf) h10f,d3 (Paired.mapP hx3 λ_ _ h=>h.same qC) (.cons (hFs9.same (q10.trans qB)) .nil),toB (Ne.symm ndw) h10w,d3 (Paired.mapP hy3 λ_ _ h=>h.same qC) (.cons (hW10.same qB) .nil),by rw [enl];exact hN12,hInv',by rw [la0,hil];rfl,λj r hj=>?_,λr hr=>?_⟩
  ·by_cases hjl:j < l.length
   ·rw [List.getElem?_append_left hjl] at hj
    exact hwd j r hj
   ·have hj2:j=l.length:=by
     have:=(List.getElem?_eq_some_iff.mp hj).1
     rw [la0] at this
     have:j < l.length+1:=this
     omega
    subst hj2
    rw [List.getElem?_append_right nr0,Nat.sub_self] at hj
    cases hj
    rw [hil]
    exact hWi
  ·rcases List.mem_append.mp hr with hr|hr
   ·exact hrow r hr
   ·rw [List.mem_singleton.mp hr]
    refine⟨FS.rb,FS.b1,FS.b2,by show(Ax.map _).length<=5;rw [lm0];exact lx,by show(Bx.map _).length<=5;rw [lm0];omega,?_⟩
    show((Ax.map (cA (Gl us))).map (·.1)=_/\(Bx.map (cq (Gl us))).map (·.1)=_)\/_
    rw [d4,fQ]
    exact hks
 ·rintro σ H3 ⟨y6,y7,y8,y9,y10,y11,xs,ys,fs,l,rfl,s3,hf3,hx3,hw3,hy3,hN3,hInv,hil,hwd,hrow⟩
  refine⟨_,rfl,lf,xs,rfl,.inl ⟨SqL.of hf3,λt1 ht1=>?_⟩⟩
  have s4:=ac ht1 (.tup xs)
  refine⟨_,rfl,(sz 2),λt2 ht2=>?_⟩
  have s5:=ac ht2 (.tup [.ref t1,.ref lw])
  have s45:=s4.trans s5
  have z5:∀{H':Hp},ao (zo H3 [d,lf,lw]) (wo H' d)->True:=λ_=>trivial
  have zs:ao (zo H3 [d,lf,lw]) (wo (upd (upd H3 t1 (.tup xs)) t2 (.tup [.ref t1,.ref lw])) d):=λb u hb=>by
   have nb:b∉[d,lf,lw]:=λe=>by rw [p8 e] at hb;cases hb
   rw [dL (λe=>nb (by rw [e];exact dS))]
   exact s45 _ _ (bo _ _ hb)
  exact q _ t2 t1 lw fs l xs ys (s3.trans zs) aa (s5 _ _ aa) (Paired.mapP hx3 λ_ _ h=>h.same zs) (by rw [dL (Ne.symm ndw)];exact s45 _ _ hw3) (Paired.mapP hy3 λ_ _ h=>h.same zs) (hN3.same s45) hInv (by omega) (by omega) hwd hrow
def Cv:Stmt->List Stmt
 |.For _ _ body _ _=>body
 |_=>[]
def LfF(nl:NL)(l:Kd):Prop:=(∃n k,l=.name n.1 n.2/\(n,k)∈nl)\/BZ l
def kI(q:Str × Kd):It:=.kind q.1 q.2
def AU(it:It)(q:Str × (List Kd × Kd)):Prop:=∃ps:List (Str × Kd),it=.fn q.1 ps q.2.2/\ps.map (·.2)=q.2.1
def hdM(m1:am):am:=m1.filter hX
def tlM(m1:am):am:=m1.filter λq=>!hX q
def fP(nl:NL)(md T:am):am:=md.map (aq nl)++T.map (cA (Gl (md.map (aq nl))))
theorem xQ(m1:am):hdM m1=(ba m1).map λz=>(z,eu z):=by
 unfold hdM ba
 rw [List.map_map]
 refine((List.map_congr_left (g:=id) λq hq=>?_).trans (List.map_id _)).symm
 obtain⟨h1,h2⟩:=List.mem_filter.mp hq
 show(q.1,eu q.1)=q
 rw [<-(od0 h2:q.2=eu q.1)]
theorem iC(nl:NL)(md T:am):(fP nl md T).map (·.1)=md.map (·.1)++T.map (·.1):=by
 unfold fP
 rw [ma0,List.map_map,d4]
 rfl
theorem A8(us r:am)(n:Str × Str) (h:n.1=""->n.2∈us.map (·.1)):Gl (us++r) n=Gl us n:=by
 unfold Gl
 by_cases e:n.1=""
 ·rw [if_pos e,if_pos e]
  have hm:=h e
  have:look us n.2≠none:=λhn=>by
   obtain⟨q,hq,e2⟩:=List.mem_map.mp hm
   unfold look at hn
   rw [Option.map_eq_none_iff,List.find?_eq_none] at hn
   exact hn q hq (dt0 e2)
  unfold look at this ⊢
  rw [List.find?_append]
  cases hf:List.find? (λq:Str × Kd=>decide (q.1=n.2)) us with
  |none=>rw [hf] at this;exact absurd rfl this
  |some q=>rfl
 ·rw [if_neg e,if_neg e]
theorem oA(h:pX hs k)(hn:n∈Kd.names k) (e:n.1=""):n.2∈hs:=h _ (dZ hn) n.2 (by rw [e];rfl)
theorem pi(hu:us.map (·.1)=hs)(h:pX hs k):Kd.put (Gl (us++r)) k=Kd.put (Gl us) k:=fN λn hn=>A8 us r n λe=>by rw [hu];exact oA h hn e
theorem zb (h0:∀z,bw nl ("",z)=none) (hk:bw nl (W0,"k")=some (.name W0 "k")) (h:∀l∈k.leaves,LfS hs [.name W0 "k"] l):Kd.put (bw nl) k=k:=by
 have go:∀k:Kd,(∀l∈k.leaves,LfS hs [.name W0 "k"] l)->Kd.put (bw nl) k=k:=λk=>by
  induction k with
  |num n=>intro _;rfl
  |name q t =>
   intro h
   show(bw nl (q,t)).getD _=_
   rcases h _ (List.mem_singleton.mpr rfl) with h1|⟨n,h1,_⟩|⟨z,_,h1⟩
   ·have:=List.mem_singleton.mp h1
    injection this with e1 e2
    subst e1 e2
    rw [hk]
    rfl
   ·cases h1
   ·injection h1 with e1 e2
    subst e1 e2
    rw [h0]
    rfl
  |pair a b ha hb =>
   intro h
   show Kd.pair _ _=_
   rw [ha λl hl=>h l (List.mem_append_left _ hl),hb λl hl=>h l (List.mem_append_right _ hl)]
 exact go k h
abbrev itN:List Str:=["_law_script","_law_words","_law_result","_law_names","_law_items_here","_law_own","_law_made","_law_given","_law_order","_law_k","_law_word_here","_law_kind","_law_full","_law_funs","_law_fun","_law_row","_law_params"]
abbrev itP:List Str:=["_law_script","_law_words","_law_result","_law_names"]
theorem cW:aG itN itP (ae iq):=mkS
theorem yz
    (GP:Ca P w K mg base 20 "_law_put" fp fdp plP (jz K 20))
 (hr:bZ 41 (A.deeper (PyProof.Rows.envOfC "_law_items" (ae iq) s.heap.objs.size f cdv))) :
    ∃t,PSs (i6 CX0 P w K mg base itN "_law_items" (ae iq) f cdv A outer s H E).nox (List.drop 2 (Cv ((aj iq).getD 6 (.Pass ⟨0,0,0,0⟩)))) t /\
      ∀(D:gZ) (H3:Hp) (a wa fa d li lo dm dg od:Addr) (x9 x12 x13 x14 x15 x16:Option V) (z:Str) (v:V) (kd:Kd) (nl:NL) (xs os:List V) (gkv:List (List Key × V)) (mkv:List (Key × V)) (its:List It) (gl:am),
        pQ K H3 d nl->H3 li=some (.lst xs)->H3 lo=some (.lst os)->H3 dm=some (.dK mkv)->H3 dg=some (.dT gkv)->[li,lo,dm,dg].Nodup->Paired (oH K (zo H3 [li,lo,dm,dg])) xs its->Paired (hZ K (zo H3 [li,lo,dm,dg])) os gl->jH K (zo H3 [li,lo,dm,dg]) gkv gl->bK K (zo H3 [li,lo,dm,dg]) v kd ->
        Kd.depth kd<=20->Kd.depth (Kd.put (bw nl) kd)<=20->z∉gl.map (·.1)->(gl.map (·.1)).Nodup->xs.length<=100->gl.length<=100->d∉[li,lo,dm,dg] ->
        (∀(H':Hp) (x' y' vf:V) (gkv':List (List Key × V)),ao (zo H3 [li,lo,dm,dg]) (zo H' [li,lo,dm,dg])->H' li=some (.lst (xs++[x']))->H' lo=some (.lst (os++[y']))->H' dm=some (.dK mkv)->H' dg=some (.dT gkv')->Paired (oH K (zo H' [li,lo,dm,dg])) (xs++[x']) (its++[.kind z kd]) ->
          Paired (hZ K (zo H' [li,lo,dm,dg])) (os++[y']) (gl++[(z,Kd.put (Gl gl) (Kd.put (bw nl) kd))])->jH K (zo H' [li,lo,dm,dg]) gkv' (gl++[(z,Kd.put (Gl gl) (Kd.put (bw nl) kd))]) ->
          D.nx [some (.ref a),some (.ref wa),some (.ref fa),some (.ref d),some (.ref li),some (.ref lo),some (.ref dm),some (.ref dg),some (.ref od),x9,some (.str z),some v,some vf,x13,x14,x15,x16] H') ->
        t D [some (.ref a),some (.ref wa),some (.ref fa),some (.ref d),some (.ref li),some (.ref lo),some (.ref dm),some (.ref dg),some (.ref od),x9,some (.str z),some v,x12,x13,x14,x15,x16] H3:=by
  have hu:=dM hr
  have hr20:bZ 20 _:=hr.mono (by decide)
  refine⟨_,@pss_cons _ _ _ _ _ (aU (i:=12) cW.nd (cal GP hr20 (cal GP hr20 (pv 11 >> pv 3 >> ad) >> pv 7 >> ad)))
      (bh (gX PySem.F.plainAttrs_list PySem.F.slot_list_append PySem.F.type_list_append bO (pv 4) (@az _ _ _ _ _ (aJ >> pv 10 >> pv 11 >> ad) >> ad)) <|> bh (gX PySem.F.plainAttrs_list PySem.F.slot_list_append PySem.F.type_list_append bO (pv 5) (@az _ _ _ _ _ (pv 10 >> pv 12 >> ad) >> ad)) <|> @ai _ _ _ (dj hu (pv 7) (@az _ _ _ _ _ (aJ >> pv 10 >> ad)) (pv 12) rfl)),?_⟩
  intro D H3 a wa fa d li lo dm dg od x9 x12 x13 x14 x15 x16 z v kd nl xs os gkv mkv its gl hNm h3i h3o h3m h3g nds hit hos hpt hk dk dk2 hz nd lx lg hdS q
  obtain⟨dkv,hd,hnk⟩:=hNm
  have nt3:NtS H3 [li,lo,dm,dg]:=aS h3i cS (aS h3o cS (aS h3m gW (aS h3g ky eX)))
  have iS:li∈[li,lo,dm,dg]:=by simp
  have oS:lo∈[li,lo,dm,dg]:=by simp
  have gS:dg∈[li,lo,dm,dg]:=by simp
  simp only [List.nodup_cons,List.mem_cons,List.not_mem_nil,or_false,not_or,List.nodup_nil,and_true,not_false_eq_true] at nds
  obtain⟨⟨nio,nim,nig⟩,⟨nom,nog⟩,nmg⟩:=nds
  have hol:=Paired.length hos
  have hgl:iR K H3 gkv (Gl gl):=by
    rw [<-ie rfl]
    exact tY (hpt.same bo) rfl λq hq=>bu nd hq
  refine⟨_,rfl,_,rfl,v,d,kd,dkv,bw nl,rfl,hk.same bo,dk,hd,ut hnk,λH4 v1 s4 hv1=>?_⟩
  refine⟨_,rfl,v1,dg,_,gkv,Gl gl,rfl,hv1,dk2,s4 _ _ h3g,hgl.same s4,λH5 vf s5 hvf=>?_⟩
  have s35:=s4.trans s5
  have nt5:=nt3.same s35
  refine⟨_,rfl,.inl ⟨rfl,_,SqL.of (s35 _ _ h3i)⟩,_,rfl,_,rfl,(sz 3),λt1 ht1=>?_⟩
  have u1:=ac ht1 (.tup [.str "kind",.str z,v])
  have nt6:=nt5.same u1
  refine⟨li,xs,.ref t1,rfl,rfl,(s35.trans u1) _ _ h3i,Nat.lt_of_lt_of_le (Nat.lt_succ_self _) (bJ (by omega)),?_⟩
  have z6:zo (upd (upd H5 t1 (.tup [.str "kind",.str z,v])) li (.lst (xs++[.ref t1]))) [li,lo,dm,dg]=zo (upd H5 t1 (.tup [.str "kind",.str z,v])) [li,lo,dm,dg]:=gm iS
  have t6:=ej nt6 (show upd H5 t1 (.tup [.str "kind",.str z,v]) t1=some (.tup [.str "kind",.str z,v]) from aa)
  have q6:ao (zo H5 [li,lo,dm,dg]) (zo (upd (upd H5 t1 (.tup [.str "kind",.str z,v])) li (.lst (xs++[.ref t1]))) [li,lo,dm,dg]):=by rw [z6];exact dP u1
  rw [<-z6] at t6
  have h6i:upd (upd H5 t1 (.tup [.str "kind",.str z,v])) li (.lst (xs++[.ref t1])) li=some (.lst (xs++[.ref t1])):=aa
  have h6o:upd (upd H5 t1 (.tup [.str "kind",.str z,v])) li (.lst (xs++[.ref t1])) lo=some (.lst os):=by rw [ah (Ne.symm nio)];exact(s35.trans u1) _ _ h3o
  have h6m:upd (upd H5 t1 (.tup [.str "kind",.str z,v])) li (.lst (xs++[.ref t1])) dm=some (.dK mkv):=by rw [ah (Ne.symm nim)];exact(s35.trans u1) _ _ h3m
  have h6g:upd (upd H5 t1 (.tup [.str "kind",.str z,v])) li (.lst (xs++[.ref t1])) dg=some (.dT gkv):=by rw [ah (Ne.symm nig)];exact(s35.trans u1) _ _ h3g
  revert t6 q6 h6i h6o h6m h6g
  generalize upd (upd H5 t1 (.tup [.str "kind",.str z,v])) li (.lst (xs++[.ref t1]))=H6
  intro t6 q6 h6i h6o h6m h6g
  clear z6 u1 nt6 ht1
  have nt6:NtS H6 [li,lo,dm,dg]:=aS h6i cS (aS h6o cS (aS h6m gW (aS h6g ky eX)))
  have hvfz:bK K (zo H6 [li,lo,dm,dg]) vf (Kd.put (Gl gl) (Kd.put (bw nl) kd)):=(aC (λ_ _ h=>gg nt5 h) hvf).same q6
  have qa:=(dP (S:=[li,lo,dm,dg]) s35).trans q6
  refine⟨_,rfl,.inl ⟨rfl,_,SqL.of h6o⟩,_,rfl,_,rfl,(sz 2),λt2 ht2=>?_⟩
  have u2:=ac ht2 (.tup [.str z,vf])
  have nt7:=nt6.same u2
  refine⟨lo,os,.ref t2,rfl,rfl,u2 _ _ h6o,Nat.lt_of_lt_of_le (Nat.lt_succ_self _) (bJ (by omega)),?_⟩
  have z7:zo (upd (upd H6 t2 (.tup [.str z,vf])) lo (.lst (os++[.ref t2]))) [li,lo,dm,dg]=zo (upd H6 t2 (.tup [.str z,vf])) [li,lo,dm,dg]:=gm oS
  have t7:=ej nt7 (show upd H6 t2 (.tup [.str z,vf]) t2=some (.tup [.str z,vf]) from aa)
  have q7:ao (zo H6 [li,lo,dm,dg]) (zo (upd (upd H6 t2 (.tup [.str z,vf])) lo (.lst (os++[.ref t2]))) [li,lo,dm,dg]):=by rw [z7];exact dP u2
  rw [<-z7] at t7
  have h7o:upd (upd H6 t2 (.tup [.str z,vf])) lo (.lst (os++[.ref t2])) lo=some (.lst (os++[.ref t2])):=aa
  have h7i:upd (upd H6 t2 (.tup [.str z,vf])) lo (.lst (os++[.ref t2])) li=some (.lst (xs++[.ref t1])):=by rw [ah nio];exact u2 _ _ h6i
  have h7m:upd (upd H6 t2 (.tup [.str z,vf])) lo (.lst (os++[.ref t2])) dm=some (.dK mkv):=by rw [ah (Ne.symm nom)];exact u2 _ _ h6m
  have h7g:upd (upd H6 t2 (.tup [.str z,vf])) lo (.lst (os++[.ref t2])) dg=some (.dT gkv):=by rw [ah (Ne.symm nog)];exact u2 _ _ h6g
  revert t7 q7 h7o h7i h7m h7g
  generalize upd (upd H6 t2 (.tup [.str z,vf])) lo (.lst (os++[.ref t2]))=H7
  intro t7 q7 h7o h7i h7m h7g
  clear z7 u2 nt7 ht2
  have nt7:NtS H7 [li,lo,dm,dg]:=aS h7i cS (aS h7o cS (aS h7m gW (aS h7g ky eX)))
  have hgk:=Paired.length hpt
  refine⟨_,rfl,_,rfl,_,rfl,(sz 2),λt3 ht3=>?_⟩
  have u3:=ac ht3 (.tup [.str "",.str z])
  refine⟨dg,_,rfl,kH.t (k:=dq ("",z)) (u3 _ _ h7g) aa (Nat.lt_of_lt_of_le (Nat.lt_succ_self _) (bJ (by omega))),?_⟩
  have z8:zo (upd (upd H7 t3 (.tup [.str "",.str z])) dg (.dT (cI gkv (dq ("",z)) vf))) [li,lo,dm,dg]=zo (upd H7 t3 (.tup [.str "",.str z])) [li,lo,dm,dg]:=gm gS
  have q8:ao (zo H7 [li,lo,dm,dg]) (zo (upd (upd H7 t3 (.tup [.str "",.str z])) dg (.dT (cI gkv (dq ("",z)) vf))) [li,lo,dm,dg]):=by rw [z8];exact dP u3
  have qb:=qa.trans (q7.trans q8)
  refine q _ (.ref t1) (.ref t2) vf _ qb (by rw [ah nig];exact u3 _ _ h7i) (by rw [ah nog];exact u3 _ _ h7o) (by rw [ah nmg];exact u3 _ _ h7m) aa ?_ ?_ ?_
  · exact d3 (Paired.mapP hit λ_ _ h=>h.same qb) (.cons ⟨t1,v,rfl,SqT.of ((q7.trans q8) _ _ t6),hk.same qb⟩ .nil)
  · exact d3 (Paired.mapP hos λ_ _ h=>hZ.same qb h) (.cons ⟨t2,vf,rfl,q8 _ _ t7,hvfz.same (q7.trans q8)⟩ .nil)
  · exact lQ (hpt.same qb) hz (hvfz.same (q7.trans q8))
theorem iT.smn(h:iT PL)(hm:(n,k)∈aD PL):smW n.1/\smW n.2:=by
 obtain⟨r,hr,x,hx,e⟩:=gB.mp hm
 cases e
 exact⟨(h.row r hr).w,((h.row r hr).b1 x hx).1⟩
theorem iT.no(h:iT PL)(z:Str):bw (aD PL) ("",z)=none:=by
 rw [h.nls]
 exact if_pos rfl
theorem oN(h:iT PL)(hk:kC (LfF (aD PL)) k):Bk 2 k:=by
 refine⟨ik λl hl=>?_,hk.2.1⟩
 rcases hk.1 l hl with ⟨n,kk,e,hm⟩|⟨n,e,h0,h1⟩
 ·rw [e]
  exact⟨⟨(h.smn hm).1.1,(h.smn hm).1.2⟩,(h.smn hm).2.1,(h.smn hm).2.2⟩
 ·rw [e]
  exact⟨h0,h1⟩
theorem vm(h:iT PL)(hk:kC (LfF (aD PL)) k):Bk 8 (Kd.put (bw (aD PL)) k):=lc (n:=4) (by decide) (λm g e=>(h.val (qU e)).1) (oN h hk)
def ua(K:W.Frag):Sp:=λvs H Q _=>∃(a wa fa d:Addr) (ns:List Int) (m1:am) (m2:aY) (PL:aV) (c c2 sh:Int) (W0:Str),vs=[.ref a,.ref wa,.ref fa,.ref d]/\SqL K H a (ns.map V.int)/\ns.length<=63/\iM K H fa m1 m2/\cD c c2 sh [.name W0 "k"] m1 m2/\smW W0/\W0≠""/\pQ K H d (aD PL)/\iT PL/\(aD PL).length<=45/\bw (aD PL) (W0,"k")=some (.name W0 "k") /\
 ∀H' (t li lo lf dm:Addr) (xs:List V) (fns:List It) (mkv:List (Key × V)) (md:am),ao H H'->H' t=some (.tup [.ref li,.ref lo,.ref lf,.ref dm])->H' li=some (.lst xs)->Paired (oH K H') xs (md.map kI++(tlM m1).map kI++fns)->Paired AU fns m2->oX K H' lo (fP (aD PL) md (tlM m1))->vJ K H' lf (m2.map (cq (Gl (md.map (aq (aD PL)))))) ->
  H' dm=some (.dK mkv)->dR (bK K H') mkv md->md.map (·.1)=ba m1->(∀q∈md,kC (LfF (aD PL)) q.2)->Q (.ref t) H'
theorem jJ{m1:am}{i:Nat}{q:Str × Kd}(p:Str × Kd->Bool)(h:m1[i]?=some q):(m1.take (i+1)).filter p=(m1.take i).filter p++(if p q=true then [q] else []):=by
 rw [List.take_add_one,h,Option.toList_some,List.filter_append,List.filter_cons,List.filter_nil]
theorem xg{f fc fm fr fp fa':Addr}{fd fdc fdm fdr fdp fda:FuncData} (F:Fun K "_law_items" "_law_items" iq f fd)
  (GC:Ca P w K mg base 1 "_law_cell" fc fdc ["_law_script","_law_k"] (ge K))
  (GM:Ca P w K mg base 1 "_law_mix" fm fdm mxP (wK K))
  (GR:Ca P w K mg base 1 "_law_far" fr fdr faP (yB K))
  (GP:Ca P w K mg base 20 "_law_put" fp fdp plP (jz K 20))
  (GA:Ca P w K mg base (20+1) "_law_put_all" fa' fda paP (ip K 20))
  (mt:mg "tuple"=none) (mr:mg "range"=none) (ml:mg "len"=none):cE P w K mg base CX0 42 f fd itP (ua K):=by
 refine F.k0 cW λcdv A outer s H vs Q E hr h=>?_
 obtain⟨a,wa,fa,d,ns,m1,m2,PL,c,c2,sh,W0,rfl,hA,h63,hL,hF,hW0,ne0,hNm,hPL,hnl,hkk,q⟩:=h
 have hu:=dM hr
 have hun:=hr.units
 have hr1:bZ 1 _:=hr.mono (by decide)
 have hr21:bZ (20+1) _:=hr.mono (by decide)
 obtain⟨tt,et,kt⟩:=yz (f:=f) (H:=H) (E:=E) (outer:=outer) GP hr
 refine⟨_,@pss_cons _ _ _ _ _ (aU (i:=4) cW.nd (bT ad))
  (aU (i:=5) cW.nd (bT ad) <|> aU (i:=6) cW.nd fY <|> aU (i:=7) cW.nd eB <|> lU (i0:=8) (own:=["_law_row"]) (caps:=[]) (κ:=[]) (cl:=[]) cW.nd rfl (Or.inl rfl) rfl ⟨rfl,by decide +kernel,by decide +kernel,rfl,rfl,(λy hy=>nomatch hy),(λy hy=>nomatch hy)⟩ rfl
   (cQ (ix0 ak (pv 2) ag)) (λ_ _ _ _=>pg0 ["_law_row"])
   (λ_ _ _ _=>aW (eqK (K:=K) rfl hun) (ix0 (r:=sS K) ak (pv 0) ag) (@az _ _ _ _ _ (aJ >> aJ >> aN (r:=sS K) ak (pv 0) ag (λ_ _=>rfl) >> ad)) (bd _)) (λ_ _ _ _=>pv 0) <|> aU (i:=8) cW.nd (aH iG (pv 8) (iW (own:=["_law_row"]) (caps:=[]) (κ:=[]) (cl:=[]) rfl ⟨rfl,by decide +kernel,by decide +kernel,rfl,rfl,(λy hy=>nomatch hy),(λy hy=>nomatch hy)⟩ rfl
   (cQ (ix0 ak (pv 2) ag)) (λ_ _ _ _=>pg0 ["_law_row"])
   (λ_ _ _ _=>aW (neK (K:=K) rfl hun) (ix0 (r:=sS K) ak (pv 0) ag) (@az _ _ _ _ _ (aJ >> aJ >> aN (r:=sS K) ak (pv 0) ag (λ_ _=>rfl) >> ad)) (bd _)) (λ_ _ _ _=>pv 0))) <|> bY PassesOwn.never rfl (cj rfl mr (aT aK rfl ml boot_len (pv 8 >> ad) >> ad)) (ar (i:=9) cW.nd rfl (Or.inl rfl))
   (kR (ix0 aO (pv 8) (pv 9)) (cC rfl (ap (ar (i:=10) cW.nd rfl (Or.inl rfl)) (ap (ar (i:=11) cW.nd rfl (Or.inl rfl)) bC))) <|> ce (aW (eqK (K:=K) rfl hun) (pv 11) (@az _ _ _ _ _ (aJ >> aJ >> pv 10 >> ad)) (bd _))
    (aU (i:=11) cW.nd (cal GM hr1 (cal GC hr1 (pv 0 >> aH bv ag (pv 9) >> ad) >> cal GR hr1 (pv 3 >> ad) >> ad)) <|> @ai _ _ _ (dj hu (pv 6) (pv 10) (pv 11) rfl)) aX <|> et) <|> aU (i:=13) cW.nd (ix0 ak (cal GA hr21 (@az _ _ _ _ _ (bT ad >> aN ak (pv 2) ag (λ_ _=>rfl) >> ad) >> pv 7 >> ad)) ag) <|> bY PassesOwn.never rfl (cQ (ix0 ak (pv 2) ag)) (cC rfl (ap (ar (i:=14) cW.nd rfl (Or.inl rfl)) (ap (ar (i:=15) cW.nd rfl (Or.inr rfl)) bC)))
   (aU (i:=16) cW.nd (aQ bj rfl mt bF (fE (own:=["_law_k"]) (caps:=["_law_row"]) (κ:=[15]) rfl ⟨rfl,by decide +kernel,by decide +kernel,rfl,rfl,gM rfl,gM ⟨.inl rfl,rfl,.inl rfl⟩⟩ rfl
    (cj rfl mr (aT aK rfl ml boot_len (aN ak (pv 15) ag (λ_ _=>rfl) >> ad) >> ad)) (λ_ _ _ _=>pg0 ["_law_k","_law_row"])
    (λ_ _ _ _=>az (aN xu aJ (pv 0) (λ_ _=>rfl) >> aN (r:=sS K) ak (ix0 (r:=sS K) ak (pv 1) ag) (pv 0) (λ_ _=>rfl) >> ad)) >> ad)) <|> @ai _ _ _ (bh (gX PySem.F.plainAttrs_list PySem.F.slot_list_append PySem.F.type_list_append bO (pv 4) (@az _ _ _ _ _ (aJ >> pv 14 >> pv 16 >> aN ak (pv 15) ag (λ_ _=>rfl) >> @az _ _ _ _ _ (aJ >> aJ >> ad) >> ad) >> ad)))) <|> @ai _ _ _ (@aP _ _ _ _ (@az _ _ _ _ _ (pv 4 >> pv 5 >> pv 13 >> pv 6 >> ad)))),?_⟩
 obtain⟨l1,l2,hfa,⟨rx,hl1,hrx⟩,⟨ry,hl2,hry⟩⟩:=id hL
 have hrl:rx.length=m1.length:=Paired.length hrx
 have hryl:ry.length=m2.length:=Paired.length hry
 have lm1:=hF.l1
 have lm2:=hF.fu.2.2.1
 have hh3:=hF.h3
 have a1:=hF.b1 (cb hW0)
 have a2:=hF.b2 (cb hW0)
 have hown:=hF.own ne0
 have clA:∀{H':Hp},ao H H'->SqL K H' a (ns.map V.int):=λe=>eE e hA
 have okr:∀q∈m1,okW q.1/\Kd.ok q.2/\Kd.depth q.2<=60:=λq hq=>⟨dz (a1 q hq).1,fT (a1 q hq).2.1,by have:=aR (a1 q hq).2;omega⟩
 refine⟨(sz 0),λli hli=>?_⟩
 have u1:=ac hli (.lst [])
 refine⟨(sz 0),λlo hlo=>?_⟩
 have u2:=ac hlo (.lst [])
 intro dm hdm
 have u3:=ac hdm (.dK [])
 intro dg hdg
 have u4:=ac hdg (.dT [])
 have u14:=u1.trans (u2.trans (u3.trans u4))
 have g_lo:H lo=none:=u1.free hlo
 have g_dm:H dm=none:=(u1.trans u2).free hdm
 have g_dg:H dg=none:=(u1.trans (u2.trans u3)).free hdg
 have e_i:=(u2.trans (u3.trans u4)) _ _ (show upd H li (.lst []) li=some (.lst []) from aa)
 have e_o:=(u3.trans u4) _ _ (show upd (upd H li (.lst [])) lo (.lst []) lo=some (.lst []) from aa)
 have e_m:=u4 _ _ (show upd (upd (upd H li (.lst [])) lo (.lst [])) dm (.dK []) dm=some (.dK []) from aa)
 have e_g:upd (upd (upd (upd H li (.lst [])) lo (.lst [])) dm (.dK [])) dg (.dT []) dg=some (.dT []):=aa
 have nio:li≠lo:=λe=>by rw [<-e,aa] at hlo;cases hlo
 have nim:li≠dm:=λe=>by rw [<-e,u2 _ _ aa] at hdm;cases hdm
 have nig:li≠dg:=λe=>by rw [<-e,(u2.trans u3) _ _ aa] at hdg;cases hdg
 have nom:lo≠dm:=λe=>by rw [<-e,aa] at hdm;cases hdm
 have nog:lo≠dg:=λe=>by rw [<-e,u3 _ _ aa] at hdg;cases hdg
 have nmg:dm≠dg:=λe=>by rw [<-e,aa] at hdg;cases hdg
 have hnd:[li,lo,dm,dg].Nodup:=by simp [nio,nim,nig,nom,nog,nmg]
 have hfr:∀b∈[li,lo,dm,dg],H b=none:=λb hb=>by
  simp only [List.mem_cons,List.not_mem_nil,or_false] at hb
  rcases hb with rfl|rfl|rfl|rfl
  ·exact hli
  ·exact g_lo
  ·exact g_dm
  ·exact g_dg
 have mS:dm∈[li,lo,dm,dg]:=by simp
 revert u14 e_i e_o e_m e_g
 generalize upd (upd (upd (upd H li (.lst [])) lo (.lst [])) dm (.dK [])) dg (.dT [])=H1
 intro u14 e_i e_o e_m e_g
 clear u1 u2 u3 u4 hlo hdm hdg
 obtain⟨dkv,hd,hnk⟩:=id hNm
 have hdS:d∉[li,lo,dm,dg]:=λe=>by rw [hfr d e] at hd;cases hd
 refine⟨_,rfl,fa,_,_,_,rfl,rfl,SqT.of (u14 _ _ hfa),(show atI [V.ref l1,.ref l2] 0=some (.ref l1) from rfl),l1,rfl,⟨_,SqL.of (u14 _ _ hl1)⟩,?_⟩
 refine jt (SqL.of (u14 _ _ hl1)) (by omega) (λi ys H3=>ys.length<=i/\Paired (hZ K H3) ys ((m1.take i).filter hX)) ⟨Nat.le_refl _,.nil⟩ (λ_ _ _ h=>h.1) ?_ ?_
 ·rintro i x ys H3 N hN hx s3 ⟨hyl,hys⟩
  obtain⟨⟨z,k⟩,hq,p,y,rfl,hp,hy⟩:=aI hrx hx
  replace hp:H p=some (.tup [.str z,y]):=hp
  replace hy:bK K H y k:=hy
  have s3':=u14.trans s3
  obtain⟨oz,ok,od⟩:=okr (z,k) (List.mem_of_getElem? hq)
  have eT:=jJ hX hq
  refine⟨rfl,_,rfl,p,_,_,_,rfl,rfl,SqT.of (s3' _ _ hp),(show atI [V.str z,y] 1=some y from rfl),_,rfl,p,_,_,_,rfl,rfl,SqT.of (s3' _ _ hp),(show atI [V.str z,y] 0=some (.str z) from rfl),(sz 3),λp2 hp2=>?_⟩
  have s4:=ac hp2 (.tup [.str "name",.str "",.str z])
  refine⟨_,_,dI (hy.same (s3'.trans s4)),dI (.name (SqT.of aa)),cB ok od,cB ⟨iO,oz⟩ (by show 1<=60;decide),_,rfl,?_⟩
  have eb:PyData.eqv (Kd.dat k) (Kd.dat (eu z))=hX (z,k):=gb _ _
  refine dE (λc=>?_) (λc=>?_)
  ·have c':hX (z,k)=true:=by rw [<-eb];exact c
   rw [if_pos c'] at eT
   refine⟨_,rfl,hN _ _ (s3.trans s4) ⟨by rw [la0];show ys.length+1<=i+1;omega,?_⟩⟩
   rw [eT]
   exact d3 (Paired.mapP hys λ_ _ h=>hZ.same s4 h) (.cons ⟨p,y,rfl,(s3'.trans s4) _ _ hp,hy.same (s3'.trans s4)⟩ .nil)
  ·have c':¬hX (z,k)=true:=by rw [<-eb];exact c
   rw [if_neg c',List.append_nil] at eT
   exact hN _ _ (s3.trans s4) ⟨by omega,by rw [eT];exact Paired.mapP hys λ_ _ h=>hZ.same s4 h⟩
 rintro ya H3 Da s3 ⟨_,hya⟩ hDa
 rw [hrl,List.take_length] at hya
 have v1:=ac hDa (.lst ya)
 have s13:=s3.trans v1
 have u13:=u14.trans s13
 have hDa':upd H3 Da (.lst ya) Da=some (.lst ya):=aa
 have hya':Paired (hZ K (upd H3 Da (.lst ya))) ya (hdM m1):=Paired.mapP hya λ_ _ h=>hZ.same v1 h
 revert s13 u13 hDa' hya'
 generalize upd H3 Da (.lst ya)=H4
 intro s13 u13 hDa' hya'
 clear v1 hDa hya s3
 refine⟨_,rfl,_,rfl,fa,_,_,_,rfl,rfl,SqT.of (u13 _ _ hfa),(show atI [V.ref l1,.ref l2] 0=some (.ref l1) from rfl),l1,rfl,⟨_,SqL.of (u13 _ _ hl1)⟩,?_⟩
 refine jt (SqL.of (u13 _ _ hl1)) (by omega) (λi ys H3=>ys.length<=i/\Paired (hZ K H3) ys ((m1.take i).filter λq=>!hX q)) ⟨Nat.le_refl _,.nil⟩ (λ_ _ _ h=>h.1) ?_ ?_
 ·rintro i x ys H3 N hN hx s3 ⟨hyl,hys⟩
  obtain⟨⟨z,k⟩,hq,p,y,rfl,hp,hy⟩:=aI hrx hx
  replace hp:H p=some (.tup [.str z,y]):=hp
  replace hy:bK K H y k:=hy
  have s3':=u13.trans s3
  obtain⟨oz,ok,od⟩:=okr (z,k) (List.mem_of_getElem? hq)
  have eT:=jJ (λq=>!hX q) hq
  refine⟨rfl,_,rfl,p,_,_,_,rfl,rfl,SqT.of (s3' _ _ hp),(show atI [V.str z,y] 1=some y from rfl),_,rfl,p,_,_,_,rfl,rfl,SqT.of (s3' _ _ hp),(show atI [V.str z,y] 0=some (.str z) from rfl),(sz 3),λp2 hp2=>?_⟩
  have s4:=ac hp2 (.tup [.str "name",.str "",.str z])
  refine⟨_,_,dI (hy.same (s3'.trans s4)),dI (.name (SqT.of aa)),cB ok od,cB ⟨iO,oz⟩ (by show 1<=60;decide),_,rfl,?_⟩
  have eb:(!PyData.eqv (Kd.dat k) (Kd.dat (eu z)))=!hX (z,k):=congrArg _ (gb _ _)
  refine dE (λc=>?_) (λc=>?_)
  ·have c':(!hX (z,k))=true:=by rw [<-eb];exact c
   rw [if_pos c'] at eT
   refine⟨_,rfl,hN _ _ (s3.trans s4) ⟨by rw [la0];show ys.length+1<=i+1;omega,?_⟩⟩
   rw [eT]
   exact d3 (Paired.mapP hys λ_ _ h=>hZ.same s4 h) (.cons ⟨p,y,rfl,(s3'.trans s4) _ _ hp,hy.same (s3'.trans s4)⟩ .nil)
  ·have c':¬(!hX (z,k))=true:=by rw [<-eb];exact c
   rw [if_neg c',List.append_nil] at eT
   exact hN _ _ (s3.trans s4) ⟨by omega,by rw [eT];exact Paired.mapP hys λ_ _ h=>hZ.same s4 h⟩
 rintro yb H5 Db s5 ⟨_,hyb⟩ hDb
 rw [hrl,List.take_length] at hyb
 have v1:=ac hDb (.lst yb)
 have hhd:(hdM m1).length=(ba m1).length:=by rw [xQ,lm0]
 have htl:(tlM m1).length<=m1.length:=List.length_filter_le _ _
 have hyal:=Paired.length hya'
 have hybl:yb.length=(tlM m1).length:=Paired.length hyb
 refine⟨Da,Db,_,_,rfl,rfl,(s5.trans v1) _ _ hDa',aa,bJ (by omega),λod hod=>?_⟩
 have v2:=ac hod (.lst (ya++yb))
 have s6:=u13.trans (s5.trans (v1.trans v2))
 have w6:=s13.trans (s5.trans (v1.trans v2))
 have hod6:upd (upd H5 Db (.lst yb)) od (.lst (ya++yb)) od=some (.lst (ya++yb)):=aa
 have hor:Paired (hZ K (upd (upd H5 Db (.lst yb)) od (.lst (ya++yb)))) (ya++yb) (hdM m1++tlM m1):=d3 (Paired.mapP hya' λ_ _ h=>hZ.same (s5.trans (v1.trans v2)) h) (Paired.mapP hyb λ_ _ h=>hZ.same (v1.trans v2) h)
 have odS:od∉[li,lo,dm,dg]:=λe=>by
  have nt1:NtS H1 [li,lo,dm,dg]:=aS e_i cS (aS e_o cS (aS e_m gW (aS e_g ky eX)))
  obtain⟨o,ho,_⟩:=nt1.same (s13.trans (s5.trans v1)) od e
  rw [hod] at ho
  cases ho
 revert s6 w6 hod6 hor
 generalize upd (upd H5 Db (.lst yb)) od (.lst (ya++yb))=H6
 intro s6 w6 hod6 hor
 clear v1 v2 hod hyb hDb s5 hya' hDa' u13 s13
 have f_i:=w6 _ _ e_i
 have f_o:=w6 _ _ e_o
 have f_m:=w6 _ _ e_m
 have f_g:=w6 _ _ e_g
 have nt6:NtS H6 [li,lo,dm,dg]:=aS f_i cS (aS f_o cS (aS f_m gW (aS f_g ky eX)))
 have z6:ao H (zo H6 [li,lo,dm,dg]):=uJ s6 hfr
 have hor6:Paired (hZ K (zo H6 [li,lo,dm,dg])) (ya++yb) (hdM m1++tlM m1):=Paired.mapP hor λ_ _ ⟨p,y,e,h1,h2⟩=>⟨p,y,e,ej nt6 h1,aC (λ_ _ h=>gg nt6 h) h2⟩
 have hodz:zo H6 [li,lo,dm,dg] od=some (.lst (ya++yb)):=by rw [eI odS];exact hod6
 have hlen:(ya++yb).length=(ba m1).length+(tlM m1).length:=by rw [la0];omega
 refine⟨_,rfl,od,_,rfl,.inl (SqL.of hod6),_,rfl,by omega,by have:=cX (show(ya++yb).length<=1000 by omega);omega,?_⟩
 refine eN (λi σ H7=>∃(x9 x10 x11 x12:Option V) (xs os:List V) (mkv:List (Key × V)) (gkv:List (List Key × V)) (md:am),σ=[some (.ref a),some (.ref wa),some (.ref fa),some (.ref d),some (.ref li),some (.ref lo),some (.ref dm),some (.ref dg),some (.ref od),x9,x10,x11,x12,none,none,none,none]/\ao (zo H6 [li,lo,dm,dg]) (zo H7 [li,lo,dm,dg])/\H7 li=some (.lst xs)/\H7 lo=some (.lst os)/\H7 dm=some (.dK mkv)/\H7 dg=some (.dT gkv) /\
   Paired (oH K (zo H7 [li,lo,dm,dg])) xs (md.map kI++((tlM m1).take (i - (ba m1).length)).map kI)/\Paired (hZ K (zo H7 [li,lo,dm,dg])) os (fP (aD PL) md ((tlM m1).take (i - (ba m1).length)))/\jH K (zo H7 [li,lo,dm,dg]) gkv (fP (aD PL) md ((tlM m1).take (i - (ba m1).length)))/\dR (bK K (zo H7 [li,lo,dm,dg])) mkv md/\md.map (·.1)=(ba m1).take i/\∀q∈md,kC (LfF (aD PL)) q.2)
  ⟨none,none,none,none,[],[],[],[],[],rfl,sr0,f_i,f_o,f_m,f_g,by rw [Nat.zero_sub];exact .nil,by rw [Nat.zero_sub];exact .nil,by rw [Nat.zero_sub];exact .nil,.nil,rfl,λq hq=>nomatch hq⟩ ?_ ?_
 ·rintro i σ H7 hi ⟨x9,x10,x11,x12,xs,os,mkv,gkv,md,rfl,s7,h7i,h7o,h7m,h7g,hit,hos,hpt,hpk,hmd,hmx⟩
  rw [Int.zero_add]
  obtain⟨v,hv⟩:∃v,(ya++yb)[i]?=some v:=⟨_,List.getElem?_eq_getElem hi⟩
  have hatv:atI (ya++yb) (i:Int)=some v:=bE hv
  obtain⟨⟨z,k⟩,hq,p,y,rfl,hp,hy⟩:=aI hor6 hv
  replace hp:zo H6 [li,lo,dm,dg] p=some (.tup [.str z,y]):=hp
  replace hy:bK K (zo H6 [li,lo,dm,dg]) y k:=hy
  have s7':=s7.trans bo
  have nt7:NtS H7 [li,lo,dm,dg]:=aS h7i cS (aS h7o cS (aS h7m gW (aS h7g ky eX)))
  have gkeys:(fP (aD PL) md ((tlM m1).take (i - (ba m1).length))).map (·.1)=(ba m1).take i++((tlM m1).take (i - (ba m1).length)).map (·.1):=by rw [iC,hmd]
  have hnod:((ba m1)++(tlM m1).map (·.1)).Nodup:=by
   refine List.nodup_append.mpr ⟨bt hF.nd1,hF.nd1.sublist (List.Sublist.map _ List.filter_sublist),λx hx y' hy' e=>?_⟩
   obtain⟨q',hq',rfl⟩:=List.mem_map.mp hy'
   obtain⟨h1,h2⟩:=List.mem_filter.mp hq'
   have:=iw hF.nd1 (cO.mp hx) (show(x,q'.2)∈m1 by rw [e];exact h1)
   have h3:hX q'=true:=dt0 (by rw [<-this,e])
   rw [h3] at h2
   cases h2
  have gnd:((fP (aD PL) md ((tlM m1).take (i - (ba m1).length))).map (·.1)).Nodup:=by
   rw [gkeys,List.map_take]
   exact hnod.sublist (List.Sublist.append (List.take_sublist ..) (List.take_sublist ..))
  have glen:(fP (aD PL) md ((tlM m1).take (i - (ba m1).length))).length<=100:=by
   have:=congrArg List.length gkeys
   rw [lm0,la0,lm0,List.length_take,List.length_take] at this
   omega
  have xlen:xs.length<=100:=by
   have e1:=Paired.length hit
   have e2:=congrArg List.length hmd
   rw [la0,lm0,lm0,List.length_take] at e1
   rw [lm0,List.length_take] at e2
   omega
  refine⟨_,rfl,_,rfl,od,_,_,_,rfl,rfl,SqL.of (s7' _ _ hodz),hatv,p,_,rfl,SqT.of (s7' _ _ hp),rfl,_,_,rfl,_,_,rfl,rfl,?_⟩
  have hmem:(z,k)∈m1:=by
   rcases List.mem_append.mp (List.mem_of_getElem? hq) with h|h
   ·exact(List.mem_filter.mp h).1
   ·exact(List.mem_filter.mp h).1
  obtain⟨oz,ok,okd⟩:=okr (z,k) hmem
  refine⟨_,rfl,_,rfl,(sz 3),λp2 hp2=>?_⟩
  have s8:=ac hp2 (.tup [.str "name",.str "",.str z])
  have z8:=dP (S:=[li,lo,dm,dg]) s8
  have eb:PyData.eqv (Kd.dat k) (Kd.dat (eu z))=hX (z,k):=gb _ _
  refine⟨_,_,dI (hy.same (s7'.trans s8)),dI (.name (SqT.of aa)),cB ok okd,cB ⟨iO,oz⟩ (by show 1<=60;decide),_,rfl,?_⟩
  by_cases hi2:i < (ba m1).length
  ·-- a hidden one
   rw [List.getElem?_append_left (by rw [hhd];exact hi2),xQ,List.getElem?_map] at hq
   obtain⟨z',hz',e⟩:=Option.map_eq_some_iff.mp hq
   cases e
   have hj:i - (ba m1).length=0:=by omega
   have hj':i+1 - (ba m1).length=0:=by omega
   rw [hj] at hit hos hpt gkeys gnd glen
   have eo:fP (aD PL) md ((tlM m1).take 0)=md.map (aq (aD PL)):=by
    unfold fP
    rw [List.take_zero,List.map_nil,List.append_nil]
   rw [eo] at hos hpt gkeys gnd glen
   refine dE (λ_=>?_) (λc=>absurd (show PyData.eqv (Kd.dat (eu z)) (Kd.dat (eu z))=true by rw [eb];exact dt0 rfl) c)
   have nt8:=nt7.same s8
   have q8:ao H (upd H7 p2 (.tup [.str "name",.str "",.str z])):=(z6.trans s7).trans (bo.trans s8)
   refine⟨_,rfl,_,rfl,_,_,rfl,rfl,a,ns,26+(i:Int),rfl,clA q8,h63,by omega,by omega,λcc _=>?_⟩
   refine⟨_,rfl,d,aD PL,rfl,hNm.same q8,by omega,λH9 lf xf s9 hlf0 hlf hks=>?_⟩
   refine⟨cc,lf,xf,ux (aD PL),LfF (aD PL),rfl,hlf,hks,by rw [lm0];omega,λkk hkk=>?_,λn h0 h1=>.inr ⟨n,rfl,h0,h1⟩,λH10 vk kd s10 hkd hmk=>?_⟩
   ·obtain⟨qn,hqn,rfl⟩:=List.mem_map.mp hkk
    exact⟨rfl,.inl ⟨qn.1,qn.2,rfl,hqn⟩⟩
   have s8a:=s9.trans s10
   have s710:=s8.trans s8a
   have h10m:=s710 _ _ h7m
   have hzk:z∉md.map (·.1):=by
    rw [hmd]
    exact dU (bt hF.nd1) hz'
   have mlen:=hpk.keys
   refine⟨_,rfl,_,rfl,_,rfl,dm,_,rfl,kH.k (k:=.inr z) h10m (Nat.lt_of_lt_of_le (Nat.lt_succ_self _) (bJ (by have e1:=Paired.length hpk;have e2:=congrArg List.length hmd;rw [lm0,List.length_take] at e2;omega))),?_⟩
   have z11:zo (upd H10 dm (.dK (cI mkv (.inr z) vk))) [li,lo,dm,dg]=zo H10 [li,lo,dm,dg]:=gm mS
   have q11:ao (zo H7 [li,lo,dm,dg]) (zo (upd H10 dm (.dK (cI mkv (.inr z) vk))) [li,lo,dm,dg]):=by rw [z11];exact dP s710
   have nt10:=nt7.same s710
   have hkd11:bK K (zo (upd H10 dm (.dK (cI mkv (.inr z) vk))) [li,lo,dm,dg]) vk kd:=by rw [z11];exact aC (λ_ _ h=>gg nt10 h) hkd
   have h11i:upd H10 dm (.dK (cI mkv (.inr z) vk)) li=some (.lst xs):=by rw [ah nim];exact s710 _ _ h7i
   have h11o:upd H10 dm (.dK (cI mkv (.inr z) vk)) lo=some (.lst os):=by rw [ah nom];exact s710 _ _ h7o
   have h11g:upd H10 dm (.dK (cI mkv (.inr z) vk)) dg=some (.dT gkv):=by rw [ah (Ne.symm nmg)];exact s710 _ _ h7g
   have h11m:upd H10 dm (.dK (cI mkv (.inr z) vk)) dm=some (.dK (cI mkv (.inr z) vk)):=aa
   revert q11 hkd11 h11i h11o h11g h11m
   generalize upd H10 dm (.dK (cI mkv (.inr z) vk))=H11
   intro q11 hkd11 h11i h11o h11g h11m
   have bk:=oN hPL hmk
   have bp:=vm hPL hmk
   refine kt _ H11 a wa fa d li lo dm dg od _ _ _ _ _ _ z vk kd (aD PL) xs os gkv _ _ (md.map (aq (aD PL))) (hNm.same ((z6.trans (s7.trans q11)).trans bo)) h11i h11o h11m h11g hnd (Paired.mapP hit λ_ _ h=>h.same q11) (Paired.mapP hos λ_ _ h=>hZ.same q11 h) (hpt.same q11) hkd11 (by have:=aR bk;omega) (by have:=aR bp;omega) ?_ gnd xlen glen hdS ?_
   ·rw [List.map_map]
    exact hzk
   intro H12 x' y' vf gkv' q12 h12i h12o h12m h12g hit12 hos12 hpt12
   have clo:Clo (Kd.put (bw (aD PL)) kd):=by
    refine nu (λn g e=>(hPL.val (qU e)).2.1) (gz λl hl=>?_)
    rcases hmk.1 l hl with ⟨n,kk,e,hm⟩|⟨n,e,_⟩
    ·rw [e]
     exact(hPL.val hm).2.2.1
    ·rw [e]
     exact trivial
   have ep:Kd.put (Gl (md.map (aq (aD PL)))) (Kd.put (bw (aD PL)) kd)=Kd.put (bw (aD PL)) kd:=jZ (xG _) clo
   rw [ep] at hos12 hpt12
   have en:fP (aD PL) (md++[(z,kd)]) ((tlM m1).take (i+1 - (ba m1).length))=md.map (aq (aD PL))++[(z,Kd.put (bw (aD PL)) kd)]:=by
    unfold fP
    rw [hj',List.take_zero,List.map_nil,List.append_nil,ma0]
    rfl
   refine⟨_,_,_,_,xs++[x'],os++[y'],_,gkv',md++[(z,kd)],rfl,s7.trans (q11.trans q12),h12i,h12o,h12m,h12g,?_,by rw [en];exact hos12,by rw [en];exact hpt12,?_,?_,λq hq=>?_⟩
   ·rw [hj',List.take_zero,List.map_nil,List.append_nil,ma0]
    rw [List.take_zero,List.map_nil,List.append_nil] at hit12
    exact hit12
   ·exact dR.put (hpk.imp λ_ _ h=>h.same (q11.trans q12)) hzk (hkd11.same q12)
   ·rw [ma0,hmd,List.take_add_one,hz']
    rfl
   ·rcases List.mem_append.mp hq with hq|hq
    ·exact hmx q hq
    ·rw [List.mem_singleton.mp hq]
     exact hmk
  ·-- a told one
   rw [List.getElem?_append_right (by rw [hhd];omega),hhd] at hq
   have hb:hX (z,k)=false:=by
    have:=(List.mem_filter.mp (List.mem_of_getElem? hq)).2
    cases h:hX (z,k) with
    |false=>rfl
    |true=>rw [h] at this;cases this
   refine dE (λc=>absurd (show hX (z,k)=true by rw [<-eb];exact c) (by rw [hb];exact Bool.false_ne_true)) (λ_=>?_)
   have hmd':md.map (·.1)=ba m1:=by rw [hmd,List.take_of_length_le (by omega)]
   have hj:i+1 - (ba m1).length=(i - (ba m1).length)+1:=by omega
   have lfs:∀l∈k.leaves,LfS (ba m1) [.name W0 "k"] l:=by
    rcases hF.k1 _ hmem with e|e
    ·have:hX (z,k)=true:=dt0 e
     rw [hb] at this
     cases this
    ·exact e.1
   have fix:=zb hPL.no hkk lfs
   have dk:Kd.depth k<=20:=by have:=aR (a1 _ hmem).2;exact Nat.le_trans this (by decide)
   refine kt _ (upd H7 p2 (.tup [.str "name",.str "",.str z])) a wa fa d li lo dm dg od _ _ _ _ _ _ z y k (aD PL) xs os gkv mkv _ _ (hNm.same ((z6.trans (s7.trans z8)).trans bo)) (s8 _ _ h7i) (s8 _ _ h7o) (s8 _ _ h7m) (s8 _ _ h7g) hnd (Paired.mapP hit λ_ _ h=>h.same z8) (Paired.mapP hos λ_ _ h=>hZ.same z8 h) (hpt.same z8) (hy.same (s7.trans z8)) dk (by rw [fix];exact dk) ?_ gnd xlen glen hdS ?_
   ·rw [gkeys,<-hmd,hmd']
    have hmz:z∈((tlM m1).map (·.1)):=List.mem_map.mpr ⟨_,List.mem_of_getElem? hq,rfl⟩
    intro hm
    rcases List.mem_append.mp hm with hm|hm
    ·exact(List.nodup_append.mp hnod).2.2 _ hm _ hmz rfl
    ·rw [List.map_take] at hm
     exact dU (List.nodup_append.mp hnod).2.1 (by rw [List.getElem?_map,hq];rfl) hm
   intro H12 x' y' vf gkv' q12 h12i h12o h12m h12g hit12 hos12 hpt12
   have ek:(md.map (aq (aD PL))).map (·.1)=ba m1:=by rw [List.map_map];exact hmd'
   have ep:Kd.put (Gl (fP (aD PL) md ((tlM m1).take (i - (ba m1).length)))) (Kd.put (bw (aD PL)) k)=Kd.put (Gl (md.map (aq (aD PL)))) k:=by
    rw [fix]
    exact pi ek (hown _ hmem)
   rw [ep] at hos12 hpt12
   have en:fP (aD PL) md ((tlM m1).take (i+1 - (ba m1).length))=fP (aD PL) md ((tlM m1).take (i - (ba m1).length))++[(z,Kd.put (Gl (md.map (aq (aD PL)))) k)]:=by
    unfold fP
    rw [hj,List.take_add_one,hq,ma0,List.append_assoc]
    rfl
   refine⟨_,_,_,_,xs++[x'],os++[y'],mkv,gkv',md,rfl,s7.trans (z8.trans q12),h12i,h12o,h12m,h12g,?_,by rw [en];exact hos12,by rw [en];exact hpt12,hpk.imp λ_ _ h=>h.same (z8.trans q12),?_,hmx⟩
   ·rw [hj,List.take_add_one,hq,ma0,<-List.append_assoc]
    exact hit12
   ·rw [hmd',List.take_of_length_le (by omega)]
 rintro σ H7 ⟨x9,x10,x11,x12,xs,os,mkv,gkv,md,rfl,s7,h7i,h7o,h7m,h7g,hit,hos,hpt,hpk,hmd,hmx⟩
 rw [hlen,Int.toNat_natCast,Nat.add_sub_cancel_left,List.take_length] at hit hos hpt
 rw [hlen,Int.toNat_natCast,List.take_of_length_le (by omega)] at hmd
 have q7:ao H H7:=(z6.trans s7).trans bo
 have ek:(md.map (aq (aD PL))).map (·.1)=ba m1:=by rw [List.map_map];exact hmd
 have gkeys:(fP (aD PL) md (tlM m1)).map (·.1)=ba m1++(tlM m1).map (·.1):=by rw [iC,hmd]
 have hnod:((ba m1)++(tlM m1).map (·.1)).Nodup:=by
  refine List.nodup_append.mpr ⟨bt hF.nd1,hF.nd1.sublist (List.Sublist.map _ List.filter_sublist),λx hx y' hy' e=>?_⟩
  obtain⟨q',hq',rfl⟩:=List.mem_map.mp hy'
  obtain⟨h1,h2⟩:=List.mem_filter.mp hq'
  have:=iw hF.nd1 (cO.mp hx) (show(x,q'.2)∈m1 by rw [e];exact h1)
  have h3:hX q'=true:=dt0 (by rw [<-this,e])
  rw [h3] at h2
  cases h2
 have hgl:iR K H7 gkv (Gl (fP (aD PL) md (tlM m1))):=by
  rw [<-ie rfl]
  exact tY (hpt.same bo) rfl λq hq=>bu (by rw [gkeys];exact hnod) hq
 refine⟨(sz 0),λq0 hq0=>?_⟩
 have w1:=ac hq0 (.lst [])
 refine⟨_,rfl,fa,_,_,_,rfl,rfl,SqT.of ((q7.trans w1) _ _ hfa),(show atI [V.ref l1,.ref l2] 1=some (.ref l2) from rfl),(sz 2),λtq htq=>?_⟩
 have w2:=ac htq (.tup [.ref q0,.ref l2])
 have w12:=w1.trans w2
 refine⟨_,rfl,tq,dg,[],m2,gkv,_,rfl,⟨q0,l2,aa,⟨[],w2 _ _ aa,.nil⟩,⟨ry,(q7.trans w12) _ _ hl2,Paired.mapP hry λ_ _ h=>vI.same (q7.trans w12) h⟩⟩,Nat.zero_le _,by omega,(λq hq=>nomatch hq),λq hq=>⟨λk hk=>by have:=aR ((a2 q hq).2.2 k (List.mem_cons_of_mem _ hk));omega,by have:=aR ((a2 q hq).2.2 _ (List.mem_cons_self ..));omega,by have:=(a2 q hq).2.1;omega⟩,w12 _ _ h7g,hgl.same w12,λH9 x s9 hN=>?_⟩
 obtain⟨n1,n2,hn1,hn2,hx9,_,hRf⟩:=hN
 have s79:=w12.trans s9
 have q9:=q7.trans s79
 refine⟨x,_,_,_,rfl,rfl,SqT.of hx9,(show atI [V.ref n1,.ref n2] 1=some (.ref n2) from rfl),?_⟩
 have h9i:=s79 _ _ h7i
 have n2i:n2≠li:=λe=>by rw [e,w12 _ _ h7i] at hn2;cases hn2
 have iS:li∈[li]:=List.mem_singleton.mpr rfl
 have nt9:NtS H9 [li]:=aS h9i cS eX
 have zt:∀{Hx:Hp},ao (zo H7 [li,lo,dm,dg]) Hx->True:=λ_=>trivial
 have z79:ao (zo H7 [li,lo,dm,dg]) (zo H9 [li]):=λb u hb=>by
  have nb:b∉[li,lo,dm,dg]:=λe=>by rw [p8 e] at hb;cases hb
  rw [eI (λe=>nb (by rw [List.mem_singleton.mp e];simp))]
  exact s79 _ _ (bo _ _ hb)
 have zH:ao H (zo H9 [li]):=uJ q9 λb hb=>by rw [List.mem_singleton.mp hb];exact hli
 refine⟨_,rfl,fa,_,_,_,rfl,rfl,SqT.of (q9 _ _ hfa),(show atI [V.ref l1,.ref l2] 1=some (.ref l2) from rfl),l2,rfl,⟨_,SqL.of (q9 _ _ hl2)⟩,?_⟩
 refine eF (K:=K) (xs:=ry) (λi σ H10=>∃(y14 y15 y16:Option V) (zs:List V) (fns:List It),σ=[some (.ref a),some (.ref wa),some (.ref fa),some (.ref d),some (.ref li),some (.ref lo),some (.ref dm),some (.ref dg),some (.ref od),x9,x10,x11,x12,some (.ref n2),y14,y15,y16]/\ao (zo H9 [li]) (zo H10 [li])/\H10 li=some (.lst zs)/\Paired (oH K (zo H10 [li])) zs (md.map kI++(tlM m1).map kI++fns)/\Paired AU fns (m2.take i))
  ⟨none,none,none,xs,[],rfl,sr0,h9i,by rw [List.append_nil];exact Paired.mapP hit λ_ _ h=>h.same z79,.nil⟩ ?_ ?_ ?_
 ·rintro i σ H10 _ ⟨_,_,_,_,_,_,s10,_⟩
  exact SqL.of (((zH.trans s10).trans bo) _ _ hl2)
 ·rintro i v σ H10 hv ⟨y14,y15,y16,zs,fns,rfl,s10,h10i,hit10,hfn⟩
  obtain⟨⟨z,ks,k⟩,hq,p,y,rfl,hp,hyy⟩:=aI hry hv
  replace hp:H p=some (.tup [.str z,y]):=hp
  replace hyy:cY K H y (ks,k):=hyy
  obtain⟨pr,ta,xk,xs',rfl,hpr,hta,hks,hk⟩:=hyy
  replace hks:bU K H xs' ks:=hks
  replace hk:bK K H xk k:=hk
  have qA:ao H H10:=(zH.trans s10).trans bo
  have hb2:=a2 _ (List.mem_of_getElem? hq)
  have hk4:ks.length<=4:=hb2.2.1
  have hkl:=hks.length
  refine⟨p,_,rfl,SqT.of (qA _ _ hp),rfl,_,_,rfl,_,_,rfl,rfl,?_⟩
  refine⟨_,rfl,pr,_,_,_,rfl,rfl,qA.tup hpr,(show atI [V.ref ta,xk] 0=some (.ref ta) from rfl),ta,_,rfl,.inr (qA.tup hta),_,rfl,by omega,by have:=cX (show xs'.length<=1000 by omega);omega,?_⟩
  refine nZ (m:=xs'.length) (by omega) (λj us H11=>us.length=j/\∃ps:List (Str × Kd),cG K H11 us ps/\ps.map (·.2)=ks.take j) ⟨rfl,[],.nil,rfl⟩ (λ_ _ _ h=>Nat.le_of_eq h.1) ?_ ?_
  ·rintro j us H11 N hN hj s11 ⟨hul,ps,hps,hpk2⟩
   have qB:=qA.trans s11
   obtain⟨u,hu'⟩:∃u,xs'[j]?=some u:=⟨_,List.getElem?_eq_getElem hj⟩
   obtain⟨k',hk',hat⟩:=hks.get hu'
   obtain⟨cc,hcc⟩:∃cc,atI (Str.ofString "abcd").cps.toList (j:Int)=some cc:=wt (by omega) (by show(j:Int) < 4;omega)
   refine⟨rfl,di ⟨_,rfl,_,_,cc,rfl,rfl,(by decide +kernel),hcc,_,rfl,pr,_,_,_,rfl,rfl,qB.tup hpr,(show atI [V.ref ta,xk] 0=some (.ref ta) from rfl),_,rfl,ta,_,_,_,rfl,rfl,qB.tup hta,bE hu',(sz 2),λp2 hp2=>?_⟩⟩
   have s12:=ac hp2 (.tup [.str ⟨#[cc]⟩,u])
   refine hN _ _ (s11.trans s12) ⟨by rw [la0,hul];rfl,ps++[(⟨#[cc]⟩,k')],?_,?_⟩
   ·exact d3 (Paired.mapP hps λ_ _ h=>dH.same s12 h) (.cons ⟨p2,u,rfl,SqT.of aa,hat.same (qB.trans s12)⟩ .nil)
   ·rw [ma0,hpk2,List.take_add_one,hk']
    rfl
  rintro us H11 D2 s11 ⟨hul,ps,hps,hpk2⟩ hD2
  rw [hkl,List.take_length] at hpk2
  have t7:=ac hD2 (.lst us)
  refine⟨D2,us,rfl,.inl ⟨SqL.of aa,λt3 ht3=>?_⟩⟩
  have t8:=ac ht3 (.tup us)
  have sC:=s11.trans (t7.trans t8)
  have ht3':upd (upd H11 D2 (.lst us)) t3 (.tup us) t3=some (.tup us):=aa
  have hps':cG K (upd (upd H11 D2 (.lst us)) t3 (.tup us)) us ps:=Paired.mapP hps λ_ _ h=>dH.same (t7.trans t8) h
  revert sC ht3' hps'
  generalize upd (upd H11 D2 (.lst us)) t3 (.tup us)=H12
  intro sC ht3' hps'
  have qC:=qA.trans sC
  refine⟨_,rfl,.inl ⟨rfl,_,SqL.of (sC _ _ h10i)⟩,_,rfl,_,rfl,_,rfl,pr,_,_,_,rfl,rfl,qC.tup hpr,(show atI [V.ref ta,xk] 1=some xk from rfl),(sz 2),λt4 ht4=>?_⟩
  have v4:=ac ht4 (.tup [.str "var",.str "x"])
  refine⟨(sz 5),λt5 ht5=>?_⟩
  have v5:=ac ht5 (.tup [.str "fun",.str z,.ref t3,xk,.ref t4])
  have v45:=v4.trans v5
  have sD:=sC.trans v45
  have hzl:zs.length<=100:=by
   have e1:=Paired.length hit10
   have e2:=Paired.length hfn
   have e3:=congrArg List.length hmd
   rw [la0,la0,lm0,lm0] at e1
   rw [List.length_take] at e2
   rw [lm0] at e3
   omega
  refine⟨li,zs,.ref t5,rfl,rfl,sD _ _ h10i,Nat.lt_of_lt_of_le (Nat.lt_succ_self _) (bJ (by omega)),?_⟩
  have nt12:NtS (upd (upd H12 t4 (.tup [.str "var",.str "x"])) t5 (.tup [.str "fun",.str z,.ref t3,xk,.ref t4])) [li]:=aS (sD _ _ h10i) cS eX
  have z13:zo (upd (upd (upd H12 t4 (.tup [.str "var",.str "x"])) t5 (.tup [.str "fun",.str z,.ref t3,xk,.ref t4])) li (.lst (zs++[.ref t5]))) [li]=zo (upd (upd H12 t4 (.tup [.str "var",.str "x"])) t5 (.tup [.str "fun",.str z,.ref t3,xk,.ref t4])) [li]:=gm iS
  have q13:ao (zo H10 [li]) (zo (upd (upd (upd H12 t4 (.tup [.str "var",.str "x"])) t5 (.tup [.str "fun",.str z,.ref t3,xk,.ref t4])) li (.lst (zs++[.ref t5]))) [li]):=by rw [z13];exact dP sD
  refine⟨_,_,_,zs++[.ref t5],fns++[.fn z ps k],rfl,s10.trans q13,aa,?_,?_⟩
  ·rw [<-List.append_assoc]
   refine d3 (Paired.mapP hit10 λ_ _ h=>h.same q13) (.cons ⟨t5,t3,xk,.ref t4,us,rfl,?_,?_,?_,?_⟩ .nil)
   ·rw [z13]
    exact SqT.of (ej nt12 aa)
   ·rw [z13]
    exact SqT.of (ej nt12 (v45 _ _ ht3'))
   ·rw [z13]
    exact cG.keep (λ_ _ h=>gg nt12 (v45.tup h)) hps'
   ·rw [z13]
    exact aC (λ_ _ h=>gg nt12 h) (hk.same (qC.trans v45))
  ·rw [List.take_add_one,hq]
   exact d3 hfn (.cons ⟨ps,rfl,hpk2⟩ .nil)
 ·rintro σ H10 ⟨y14,y15,y16,zs,fns,rfl,s10,h10i,hit10,hfn⟩
  rw [hryl,List.take_length] at hfn
  have qA:ao H H10:=(zH.trans s10).trans bo
  have keep:∀{b:Addr} {o:HO},b≠li->H9 b=some o->H10 b=some o:=λ{b o} hb h=>by
   have:=s10 b o (by rw [eI (λe=>hb (List.mem_singleton.mp e))];exact h)
   exact bo _ _ this
  have hRz:vJ K (zo H9 [li]) n2 (m2.map (cq (Gl (fP (aD PL) md (tlM m1))))):=by
   obtain⟨ws,g1,g2⟩:=hRf
   exact⟨ws,by rw [eI (λe=>n2i (List.mem_singleton.mp e))];exact g1,Paired.mapP g2 λ_ _ ⟨p,y,e,h1,h2⟩=>⟨p,y,e,ej nt9 h1,h2.keep λ_ _ t=>gg nt9 t⟩⟩
  have eq2:m2.map (cq (Gl (fP (aD PL) md (tlM m1))))=m2.map (cq (Gl (md.map (aq (aD PL))))):=List.map_congr_left λq hq=>by
   have ow:∀k∈q.2.2::q.2.1,pX (ba m1) k:=λk hk l hl z e=>by
    rcases ((hF.fu.2.2.2 q hq).2.2 k hk).1 l hl with h2|⟨n,h2,_⟩|⟨hh,h3,h2⟩
    ·rw [List.mem_singleton.mp h2] at e
     injection e with e1 _
     exact absurd e1 ne0
    ·rw [h2] at e
     cases e
    ·rw [h2] at e
     rw [<-jS e]
     exact h3
   show(q.1,(q.2.1.map _,_))=(q.1,(q.2.1.map _,_))
   have e1:q.2.1.map (Kd.put (Gl (fP (aD PL) md (tlM m1))))=q.2.1.map (Kd.put (Gl (md.map (aq (aD PL))))):=List.map_congr_left λk hk=>pi ek (ow k (List.mem_cons_of_mem _ hk))
   have e2:Kd.put (Gl (fP (aD PL) md (tlM m1))) q.2.2=Kd.put (Gl (md.map (aq (aD PL)))) q.2.2:=pi ek (ow _ (List.mem_cons_self ..))
   rw [e1,e2]
  rw [eq2] at hRz
  refine⟨_,rfl,_,rfl,_,rfl,_,rfl,(sz 4),λt ht=>?_⟩
  have sT:=ac ht (.tup [.ref li,.ref lo,.ref n2,.ref dm])
  have zT:=bo.trans sT (H:=zo H10 [li])
  have z7T:=(z79.trans s10).trans zT
  refine q _ t li lo n2 dm zs fns mkv md (qA.trans sT) aa (sT _ _ h10i) (Paired.mapP hit10 λ_ _ h=>h.same zT) hfn ⟨os,sT _ _ (keep (Ne.symm nio) (s79 _ _ h7o)),Paired.mapP hos λ_ _ h=>hZ.same z7T h⟩ (hRz.same (s10.trans zT)) (sT _ _ (keep (Ne.symm nim) (s79 _ _ h7m))) (hpk.imp λ_ _ h=>h.same z7T) hmd hmx
abbrev oaP:List Str:=["_law_script","_law_wants"]
def kL(K:W.Frag):Sp:=λvs H Q _=>∃(a lw:Addr) (ns:List Int) (ys:List V),vs=[.ref a,.ref lw]/\SqL K H a (ns.map V.int)/\ns.length<=63/\H lw=some (.lst ys)/\0 < ys.length/\∀r:Int,r=-1\/(0<=r/\r < ys.length)->Q (.int r) H
abbrev opN:List Str:=["_law_script","_law_words","_law_wants","_law_got","_law_items_here","_law_own","_law_funs","_law_made","_law_word_here","_law_at","_law_seen"]
abbrev opP:List Str:=["_law_script","_law_words","_law_wants","_law_got"]
def Cd(l:aV)(wd:List Str)(wz:Str)(its its':List It)(own own':am)(funs funs':aY):Prop :=
 (∃(i:Nat) (r:Str × (am × aY)),l[i]?=some r/\its'=.opn r.1::its/\own'=(aE r).2.1++own/\funs'=(aE r).2.2++funs)\/(its'=its++[.kind wz (.num 6)]/\own'=own++[(wz,.num 6)]/\funs'=funs)
def qD(K:W.Frag):Sp:=λvs H Q _=>∃(a wa lw gt li lo lf dm:Addr) (ns:List Int) (wd:List Str) (ys xs:List V) (l:aV) (its:List It) (own:am) (funs:aY),vs=[.ref a,.ref wa,.ref lw,.ref gt]/\SqL K H a (ns.map V.int)/\ns.length<=63/\H wa=some (.lst (wd.map V.str))/\H lw=some (.lst ys)/\Paired (ue K H) ys l/\0 < l.length/\l.length<=100/\(∀i r,l[i]?=some r->wd[1+i]?=some r.1)/\(∀r∈l,RB r.2) /\
 H gt=some (.tup [.ref li,.ref lo,.ref lf,.ref dm])/\H li=some (.lst xs)/\Paired (oH K H) xs its/\oX K H lo own/\vJ K H lf funs/\its.length<=100/\own.length<=100/\funs.length<=100 /\
 ∀H' (t li' lo' lf':Addr) (xs':List V) (its':List It) (own':am) (funs':aY),ao H H'->H' t=some (.tup [.ref li',.ref lo',.ref lf',.ref dm])->H' li'=some (.lst xs')->Paired (oH K H') xs' its'->oX K H' lo' own'->vJ K H' lf' funs'->Cd l wd (bg (aB ns 1) 20) its its' own own' funs funs'->Q (.ref t) H'
theorem tj:aG oaP oaP (ae fJ):=mkS
theorem o6 (F:Fun K "_law_opened_at" "_law_opened_at" fJ f fd)
  (GC:Ca P w K mg base 1 "_law_cell" fc fdc ["_law_script","_law_k"] (ge K)) (ml:mg "len"=none) :
  cE P w K mg base CX0 2 f fd oaP (kL K):=by
 refine F.k0 tj λcdv A outer s H vs Q E hr h=>?_
 obtain⟨a,lw,ns,ys,rfl,hA,h63,hlw,hpos,q⟩:=h
 refine⟨_,@pss_cons _ _ _ _ _ (ce (aW gi (aH ck (cal GC hr (pv 0 >> ag >> ad)) ag) ag (bd _)) (@ai _ _ _ (@aP _ _ _ _ (Bo A2 ag))) aX)
  (@ai _ _ _ (@aP _ _ _ _ (aH ck (aH cT (cal GC hr (pv 0 >> ag >> ad)) ag) (aT aK rfl ml boot_len (pv 1 >> ad))))),?_⟩
 refine⟨_,rfl,a,ns,13,rfl,hA,h63,by decide,by decide,λc _=>⟨_,_,rfl,rfl,(by show(0:Int) < 2;decide),rfl,_,rfl,dE (λ_=>?_) (λ_=>?_)⟩⟩
 ·exact⟨_,rfl,q (-1) (.inl rfl)⟩
 ·have p0:(0:Int) < ((ys.length:Nat):Int):=by omega
  exact⟨_,rfl,a,ns,13,rfl,hA,h63,by decide,by decide,λc _=>⟨_,_,rfl,rfl,⟨by decide,by decide⟩,_,rfl,lw,_,rfl,.inl (SqL.of hlw),_,_,rfl,rfl,p0,q _ (.inr ⟨Int.emod_nonneg _ (by omega),Int.emod_lt_of_pos _ p0⟩)⟩⟩
theorem fB:aG opN opP (ae iY):=mkS
theorem vF (F:Fun K "_law_opened" "_law_opened" iY f fd)
  (GC:Ca P w K mg base 1 "_law_cell" fc fdc ["_law_script","_law_k"] (ge K))
  (GW:Ca P w K mg base 1 "_law_word" fw fdw ["_law_cell_here","_law_k"] jV)
  (GO:Ca P w K mg base 2 "_law_opened_at" fo fdo oaP (kL K))
  (GG:Ca P w K mg base (20+1+1) "_law_hiding" fg fdg ["_law_face_here","_law_part"] (l0 K 20)) :
  cE P w K mg base CX0 42 f fd opP (qD K):=by
 refine F.k0 fB λcdv A outer s H vs Q E hr h=>?_
 obtain⟨a,wa,lw,gt,li,lo,lf,dm,ns,wd,ys,xs,l,its,own,funs,rfl,hA,h63,hwa,hlw,hys,hl0,hl100,hwd,hrb,hgt,hli,hit,hRk,hRf,c1,c2,c3,q⟩:=h
 have hr1:bZ 1 _:=hr.mono (by decide)
 have hr2:bZ 2 _:=hr.mono (by decide)
 have hr22:bZ (20+1+1) _:=hr.mono (by decide)
 refine⟨_,@pss_cons _ _ _ _ _ (kR (pv 3) (cC rfl (ap (ar (i:=4) fB.nd rfl (Or.inl rfl)) (ap (ar (i:=5) fB.nd rfl (Or.inl rfl)) (ap (ar (i:=6) fB.nd rfl (Or.inl rfl)) (ap (ar (i:=7) fB.nd rfl (Or.inl rfl)) bC))))))
  (aU (i:=8) fB.nd (cal GW hr1 (cal GC hr1 (pv 0 >> ag >> ad) >> ag >> ad)) <|> aU (i:=9) fB.nd (cal GO hr2 (pv 0 >> pv 2 >> ad)) <|> ce (aW BM (pv 9) ag (bd _))
   (aU (i:=10) fB.nd (cal GG hr22 (aN ak (ix0 aO (pv 2) (pv 9)) ag (λ_ _=>rfl) >> aN aO (pv 1) (aH bv ag (pv 9)) (λ_ _=>rfl) >> ad)) <|> @ai _ _ _ (@aP _ _ _ _ (@az _ _ _ _ _ (aH iG (bT (@az _ _ _ _ _ (aJ >> aN aO (pv 1) (aH bv ag (pv 9)) (λ_ _=>rfl) >> ad) >> ad)) (pv 4) >> aH iG (ix0 ak (pv 10) ag) (pv 5) >> aH iG (ix0 ak (pv 10) ag) (pv 6) >> pv 7 >> ad)))) aX <|> @ai _ _ _ (@aP _ _ _ _ (@az _ _ _ _ _ (aH iG (pv 4) (bT (@az _ _ _ _ _ (aJ >> pv 8 >> @az _ _ _ _ _ (aJ >> ag >> ad) >> ad) >> ad)) >> aH iG (pv 5) (bT (@az _ _ _ _ _ (pv 8 >> @az _ _ _ _ _ (aJ >> ag >> ad) >> ad) >> ad)) >> pv 6 >> pv 7 >> ad)))) ,?_⟩
 have hyl:=Paired.length hys
 have hil:=Paired.length hit
 obtain⟨ox,hlo,hox⟩:=id hRk
 obtain⟨fx,hlf,hfx⟩:=id hRf
 have hol:=Paired.length hox
 have hfl:=Paired.length hfx
 refine⟨_,rfl,gt,_,rfl,SqT.of hgt,rfl,_,_,rfl,_,_,rfl,_,_,rfl,_,_,rfl,rfl,?_⟩
 refine⟨_,rfl,a,ns,1,rfl,hA,h63,by decide,by decide,λcc hcc=>⟨cc,20,rfl,λH1 s1=>?_⟩⟩
 subst hcc
 refine⟨_,rfl,_,rfl,a,lw,ns,ys,rfl,eE s1 hA,h63,s1 _ _ hlw,by omega,λr hr=>?_⟩
 refine⟨_,rfl,_,_,rfl,rfl,_,rfl,dE (λc=>?_) (λc=>?_)⟩
 ·have c':(0:Int)<=r:=od0 c
  obtain⟨r0,r1⟩:0<=r/\r < (ys.length:Int):=by
   rcases hr with h|h
   ·omega
   ·exact h
  obtain⟨i,rfl⟩:∃i:Nat,r=(i:Int):=⟨r.toNat,by omega⟩
  obtain⟨v,hv⟩:∃v,ys[i]?=some v:=⟨_,List.getElem?_eq_getElem (by omega)⟩
  obtain⟨rr,hrr,p,x,rfl,hp,hL⟩:=aI hys hv
  have hW:=hwd i rr hrr
  have hB:=hrb rr (List.mem_of_getElem? hrr)
  have atW:atI (wd.map V.str) (1+(i:Int))=some (.str rr.1):=by
   have:=bE (xs:=wd.map V.str) (j:=1+i) (v:=.str rr.1) (by rw [List.getElem?_map,hW];rfl)
   rw [show(1:Int)+(i:Int)=((1+i:Nat):Int) by omega]
   exact this
  refine⟨_,rfl,_,rfl,lw,_,_,_,rfl,rfl,SqL.of (s1 _ _ hlw),bE hv,p,_,_,_,rfl,rfl,SqT.of (s1 _ _ hp),(show atI [V.str rr.1,.ref x] 1=some (.ref x) from rfl),_,rfl,_,rfl,_,_,rfl,rfl,wa,_,_,_,rfl,rfl,SqL.of (s1 _ _ hwa),atW,x,rr.1,rr.2.1,rr.2.2,rfl,hL.same s1,hB.nd1,hB.l1,hB.l2,hB.t1,λq hq=>by have:=aR (hB.b1 q hq).2;omega,λq hq=>⟨λk hk=>by have:=aR ((hB.b2 q hq).2.2 k (List.mem_cons_of_mem _ hk));omega,by have:=aR ((hB.b2 q hq).2.2 _ (List.mem_cons_self ..));omega,by have:=(hB.b2 q hq).2.1;omega⟩,λH2 y s2 hy=>?_⟩
  have s12:=s1.trans s2
  obtain⟨e1,e2,hy',⟨ex,he1,hex⟩,⟨ey,he2,hey⟩⟩:=hy
  have hexl:=Paired.length hex
  have heyl:=Paired.length hey
  rw [lm0] at hexl heyl
  have b1:=hB.l1
  have b2:=hB.l2
  refine⟨_,rfl,_,rfl,_,_,rfl,rfl,wa,_,_,_,rfl,rfl,SqL.of (s12 _ _ hwa),atW,(sz 2),λt1 ht1=>?_⟩
  have u1:=ac ht1 (.tup [.str "open",.str rr.1])
  refine⟨(sz 1),λt2 ht2=>?_⟩
  have u2:=ac ht2 (.lst [.ref t1])
  have u12:=s12.trans (u1.trans u2)
  refine⟨_,rfl,t2,li,_,_,rfl,rfl,aa,u12 _ _ hli,bJ (by show 1+xs.length<=1000;omega),λt3 ht3=>?_⟩
  have u3:=ac ht3 (.lst ([.ref t1]++xs))
  have v3:=u1.trans (u2.trans u3)
  have w3:=s12.trans v3
  refine⟨_,rfl,y,_,_,_,rfl,rfl,SqT.of (v3 _ _ hy'),(show atI [V.ref e1,.ref e2] 0=some (.ref e1) from rfl),_,rfl,e1,lo,_,_,rfl,rfl,v3 _ _ he1,w3 _ _ hlo,bJ (by omega),λt4 ht4=>?_⟩
  have u4:=ac ht4 (.lst (ex++ox))
  have v4:=v3.trans u4
  have w4:=s12.trans v4
  refine⟨_,rfl,y,_,_,_,rfl,rfl,SqT.of (v4 _ _ hy'),(show atI [V.ref e1,.ref e2] 1=some (.ref e2) from rfl),_,rfl,e2,lf,_,_,rfl,rfl,v4 _ _ he2,w4 _ _ hlf,bJ (by omega),λt5 ht5=>?_⟩
  have u5:=ac ht5 (.lst (ey++fx))
  have v5:=v4.trans u5
  have w5:=s12.trans v5
  refine⟨_,rfl,(sz 4),λt6 ht6=>?_⟩
  have u6:=ac ht6 (.tup [.ref t3,.ref t4,.ref t5,.ref dm])
  have v6:=v5.trans u6
  have w6:=s12.trans v6
  refine q _ t6 t3 t4 t5 _ (.opn rr.1::its) _ _ w6 aa ((u4.trans (u5.trans u6)) _ _ aa) ?_ ⟨_,(u5.trans u6) _ _ aa,d3 (Paired.mapP hex λ_ _ h=>hZ.same v6 h) (Paired.mapP hox λ_ _ h=>hZ.same w6 h)⟩ ⟨_,u6 _ _ aa,d3 (Paired.mapP hey λ_ _ h=>vI.same v6 h) (Paired.mapP hfx λ_ _ h=>vI.same w6 h)⟩ (Or.inl ⟨i,rr,hrr,rfl,rfl,rfl⟩)
  exact .cons ⟨t1,rfl,SqT.of ((u2.trans (u3.trans (u4.trans (u5.trans u6)))) _ _ aa)⟩ (Paired.mapP hit λ_ _ h=>h.same w6)
 ·refine⟨_,rfl,_,rfl,(sz 2),λt1 ht1=>?_⟩
  have u1:=ac ht1 (.tup [.str "num",.int 6])
  refine⟨(sz 3),λt2 ht2=>?_⟩
  have u2:=ac ht2 (.tup [.str "kind",.str (bg (aB ns 1) 20),.ref t1])
  refine⟨(sz 1),λt3 ht3=>?_⟩
  have u3:=ac ht3 (.lst [.ref t2])
  have v3:=s1.trans (u1.trans (u2.trans u3))
  refine⟨li,t3,_,_,rfl,rfl,v3 _ _ hli,aa,bJ (by show xs.length+1<=1000;omega),λt4 ht4=>?_⟩
  have u4:=ac ht4 (.lst (xs++[.ref t2]))
  refine⟨_,rfl,_,rfl,(sz 2),λt5 ht5=>?_⟩
  have u5:=ac ht5 (.tup [.str "num",.int 6])
  refine⟨(sz 2),λt6 ht6=>?_⟩
  have u6:=ac ht6 (.tup [.str (bg (aB ns 1) 20),.ref t5])
  refine⟨(sz 1),λt7 ht7=>?_⟩
  have u7:=ac ht7 (.lst [.ref t6])
  have v7:=v3.trans (u4.trans (u5.trans (u6.trans u7)))
  refine⟨lo,t7,_,_,rfl,rfl,v7 _ _ hlo,aa,bJ (by show ox.length+1<=1000;omega),λt8 ht8=>?_⟩
  have u8:=ac ht8 (.lst (ox++[.ref t6]))
  refine⟨_,rfl,_,rfl,(sz 4),λt9 ht9=>?_⟩
  have u9:=ac ht9 (.tup [.ref t4,.ref t8,.ref lf,.ref dm])
  have v9:=v7.trans (u8.trans u9)
  have r9:=u8.trans u9
  refine q _ t9 t4 t8 lf _ (its++[.kind (bg (aB ns 1) 20) (.num 6)]) (own++[(bg (aB ns 1) 20,.num 6)]) funs v9 aa ((u5.trans (u6.trans (u7.trans r9))) _ _ aa) ?_ ⟨_,u9 _ _ aa,d3 (Paired.mapP hox λ_ _ h=>hZ.same v9 h) (.cons ⟨t6,.ref t5,rfl,(u7.trans r9) _ _ aa,.num (SqT.of ((u6.trans (u7.trans r9)) _ _ aa))⟩ .nil)⟩ (hRf.same v9) (Or.inr ⟨rfl,rfl,rfl⟩)
  exact d3 (Paired.mapP hit λ_ _ h=>h.same v9) (.cons ⟨t2,.ref t1,rfl,SqT.of ((u3.trans (u4.trans (u5.trans (u6.trans (u7.trans r9))))) _ _ aa),.num (SqT.of ((u2.trans (u3.trans (u4.trans (u5.trans (u6.trans (u7.trans r9)))))) _ _ aa))⟩ .nil)
abbrev slN:List Str:=["_law_script","_law_words","_law_result","_law_made","_law_names","_law_withs_here","_law_given","_law_hidden_here","_law_k","_law_word_here"]
abbrev slP:List Str:=["_law_script","_law_words","_law_result","_law_made","_law_names"]
def xr(K:W.Frag):Sp:=λvs H Q _=>∃(a wa fa dm d:Addr) (ns:List Int) (wd:List Str) (z7:Str) (m1:am) (m2:aY) (PL:aV) (c c2 sh:Int) (W0:Str) (mkv:List (Key × V)) (md:am),vs=[.ref a,.ref wa,.ref fa,.ref dm,.ref d]/\SqL K H a (ns.map V.int)/\ns.length<=63/\H wa=some (.lst (wd.map V.str))/\wd[7]?=some z7/\iM K H fa m1 m2/\cD c c2 sh [.name W0 "k"] m1 m2/\smW W0/\H dm=some (.dK mkv)/\dR (bK K H) mkv md/\md.map (·.1)=ba m1/\(∀q∈md,kC (LfF (aD PL)) q.2)/\pQ K H d (aD PL)/\iT PL /\
 (∀H' (t:Addr),ao H H'->H' t=some (.tup [.non,.non])->Q (.ref t) H') /\
 (∀H' (t ts x:Addr) (ws:am),ao H H'->H' t=some (.tup [.ref ts,.ref x])->jw K H' (.ref ts) (z7,ws)->iM K H' x (m1.map (cA (Gl (ws.map (aq (aD PL)))))) (m2.map (cq (Gl (ws.map (aq (aD PL))))))->ws.Sublist md->Q (.ref t) H')
def jc(K:W.Frag)(H:Hp)(CM CF x:Addr)(rs:aV)(r1:am)(r2:aY):Prop :=
 ∃(dx l rf:Addr) (fs:List (Str × V)) (ys:List V),H x=some (.ins CM dx fs)/\fs.lookup ("formals":Str)=some (.ref l)/\fs.lookup ("result":Str)=some (.ref rf)/\H l=some (.lst ys)/\Paired (we K H CF) ys rs/\dQ K H CF rf r1 r2
theorem jc.same(e:ao H H')(h:jc K H CM CF x rs r1 r2):jc K H' CM CF x rs r1 r2:=by
 obtain⟨dx,l,rf,fs,ys,a,b,c,d,f,g⟩:=h
 exact⟨dx,l,rf,fs,ys,e _ _ a,b,c,e _ _ d,Paired.mapP f λ_ _ h=>h.same e,g.same e⟩
theorem rg.at(h:rg K H0 H CM CF x rs r1 r2):jc K H CM CF x rs r1 r2:=by
 obtain⟨dx,l,rf,fs,ys,_,_,_,a,b,c,d,f,g⟩:=h
 exact⟨dx,l,rf,fs,ys,a,b,c,d,Paired.mapP f λ_ _ t=>t.at,g.face⟩
abbrev tlN:List Str:=["_law_maker","_law_wants","_law_due","_law_found","_law_want"]
abbrev tlP:List Str:=["_law_maker","_law_wants","_law_due"]
def mH(K:W.Frag)(CM CF:Addr):Sp:=λvs H Q _=>∃(x lw du:Addr) (l:aV) (r1:am) (r2:aY) (ys:List V),vs=[.ref x,.ref lw,.ref du]/\jc K H CM CF x l r1 r2/\H lw=some (.lst ys)/\Paired (ue K H) ys l/\iM K H du r1 r2/\AlM r1 r2/\(∀r∈l,AlM r.2.1 r.2.2)/\l.length<=100/\∀H',ao H H'->Q (.bl true) H'
theorem kW:aG slN slP (ae sj):=mkS
theorem xU (F:Fun K "_law_seal" "_law_seal" sj f fd)
  (GC:Ca P w K mg base 1 "_law_cell" fc fdc ["_law_script","_law_k"] (ge K))
  (GH:Ca P w K mg base 1 "_law_hidden" fh fdh ["_law_kinds"] (ic K))
  (GP:Ca P w K mg base 20 "_law_put" fp fdp plP (jz K 20))
  (GA:Ca P w K mg base (20+1) "_law_put_all" fa' fda paP (ip K 20))
  (mt:mg "tuple"=none) (mr:mg "range"=none) (ml:mg "len"=none):cE P w K mg base CX0 42 f fd slP (xr K):=by
 refine F.k0 kW λcdv A outer s H vs Q E hr h=>?_
 obtain⟨a,wa,fa,dm,d,ns,wd,z7,m1,m2,PL,c,c2,sh,W0,mkv,md,rfl,hA,h63,hwa,hz7,hL,hF,hW0,hdm,hpk,hmd,hmx,hNm,hPL,qn,qs⟩:=h
 have hu:=dM hr
 have hr1:bZ 1 _:=hr.mono (by decide)
 have hr20:bZ 20 _:=hr.mono (by decide)
 have hr21:bZ (20+1) _:=hr.mono (by decide)
 refine⟨_,@pss_cons _ _ _ _ _ (ce (aW gi (aH ck (cal GC hr1 (pv 0 >> ag >> ad)) ag) ag (bd _)) (@ai _ _ _ (@aP _ _ _ _ (@az _ _ _ _ _ (ju >> ju >> ad)))) aX)
  (aU (i:=5) kW.nd (bT ad) <|> aU (i:=6) kW.nd eB <|> aU (i:=7) kW.nd (cal GH hr1 (aN ak (pv 2) ag (λ_ _=>rfl) >> ad)) <|> bY PassesOwn.never rfl (cj rfl mr (aT aK rfl ml boot_len (pv 7 >> ad) >> ad)) (ar (i:=8) kW.nd rfl (Or.inl rfl))
   (aU (i:=9) kW.nd (ix0 aO (pv 7) (pv 8)) <|> @ai _ _ _ (ce (aW gi (aH ck (cal GC hr1 (pv 0 >> aH bv ag (pv 8) >> ad)) ag) ag (bd _))
    (bh (gX PySem.F.plainAttrs_list PySem.F.slot_list_append PySem.F.type_list_append bO (pv 5) (@az _ _ _ _ _ (pv 9 >> cV hu (pv 3) (pv 9) (λ_ _=>rfl) >> ad) >> ad)) <|> @ai _ _ _ (dj hu (pv 6) (@az _ _ _ _ _ (aJ >> pv 9 >> ad)) (cal GP hr20 (cV hu (pv 3) (pv 9) (λ_ _=>rfl) >> pv 4 >> ad)) rfl)) aX)) <|> @ai _ _ _ (@aP _ _ _ _ (@az _ _ _ _ _ (@az _ _ _ _ _ (aN aO (pv 1) ag (λ_ _=>rfl) >> aQ bj rfl mt bF (pv 5 >> ad) >> ad) >> cal GA hr21 (pv 2 >> pv 6 >> ad) >> ad)))),?_⟩
 have clA:∀{H':Hp},ao H H'->SqL K H' a (ns.map V.int):=λe=>eE e hA
 have at7:atI (wd.map V.str) 7=some (.str z7):=bE (j:=7) (by rw [List.getElem?_map,hz7];rfl)
 refine⟨_,rfl,a,ns,14,rfl,hA,h63,by decide,by decide,λc0 _=>⟨_,_,rfl,rfl,(by show(0:Int) < 3;decide),rfl,_,rfl,dE (λ_=>?_) (λ_=>?_)⟩⟩
 ·exact⟨(sz 2),λt ht=>qn _ t (ac ht _) aa⟩
 obtain⟨l1,l2,hfa,hR1,hR2⟩:=id hL
 have lm1:=hF.l1
 have lm2:=hF.fu.2.2.1
 have hh3:=hF.h3
 have a1:=hF.b1 (cb hW0)
 have a2:=hF.b2 (cb hW0)
 refine⟨(sz 0),λlw hlw=>?_⟩
 have s1:=ac hlw (.lst [])
 intro dg hdg
 have s2:=ac hdg (.dT [])
 have s12:=s1.trans s2
 have hdg0:H dg=none:=s1.free hdg
 have nwg:lw≠dg:=λe=>by rw [<-e,aa] at hdg;cases hdg
 have e_w:=s2 _ _ (show upd H lw (.lst []) lw=some (.lst []) from aa)
 have e_g:upd (upd H lw (.lst [])) dg (.dT []) dg=some (.dT []):=aa
 have hfr:∀b∈[lw,dg],H b=none:=gN hlw hdg0
 have wS:lw∈[lw,dg]:=by simp
 have gS:dg∈[lw,dg]:=by simp
 refine⟨_,rfl,fa,_,_,_,rfl,rfl,SqT.of (s12 _ _ hfa),(show atI [V.ref l1,.ref l2] 0=some (.ref l1) from rfl),l1,m1,rfl,hR1.same s12,by omega,λq hq=>⟨dz (a1 q hq).1,fT (a1 q hq).2.1,by have:=aR (a1 q hq).2;omega⟩,λH3 hh s3 hh0 hh3'=>?_⟩
 have s03:=s12.trans s3
 have f_w:=s3 _ _ e_w
 have f_g:=s3 _ _ e_g
 have z3:ao H (zo H3 [lw,dg]):=uJ s03 hfr
 have hhS:hh∉[lw,dg]:=λe=>by
  simp only [List.mem_cons,List.not_mem_nil,or_false] at e
  rcases e with e|e
  ·rw [e,e_w] at hh0;cases hh0
  ·rw [e,e_g] at hh0;cases hh0
 have hhz:zo H3 [lw,dg] hh=some (.lst ((ba m1).map V.str)):=by rw [eI hhS];exact hh3'
 refine⟨_,rfl,hh,_,rfl,.inl (SqL.of hh3'),_,rfl,by omega,by rw [lm0];have:=cX (show(ba m1).length<=1000 by omega);omega,?_⟩
 refine eN (λi σ H7=>∃(y8 y9:Option V) (us:List V) (kv:List (List Key × V)) (ws:am),σ=[some (.ref a),some (.ref wa),some (.ref fa),some (.ref dm),some (.ref d),some (.ref lw),some (.ref dg),some (.ref hh),y8,y9]/\ao (zo H3 [lw,dg]) (zo H7 [lw,dg])/\H7 lw=some (.lst us)/\cG K (zo H7 [lw,dg]) us ws/\H7 dg=some (.dT kv)/\jH K (zo H7 [lw,dg]) kv (ws.map (aq (aD PL)))/\ws.Sublist (md.take i))
  ⟨none,none,[],[],[],rfl,sr0,f_w,.nil,f_g,.nil,List.nil_sublist _⟩ ?_ ?_
 ·rintro i σ H7 hi ⟨y8,y9,us,kv,ws,rfl,s7,h7w,hws,h7g,hpt,hsub⟩
  rw [Int.zero_add]
  have hil:i < (ba m1).length:=by(have:=hi;rw [lm0] at this;omega)
  obtain⟨z,hz⟩:∃z,(ba m1)[i]?=some z:=⟨_,List.getElem?_eq_getElem hil⟩
  have hat:atI ((ba m1).map V.str) (i:Int)=some (.str z):=bE (by rw [List.getElem?_map,hz];rfl)
  have q7:ao H H7:=(z3.trans s7).trans bo
  have nt7:NtS H7 [lw,dg]:=aS h7w cS (aS h7g ky eX)
  obtain⟨qm,hqm,hqz⟩:∃qm,md[i]?=some qm/\qm.1=z:=by
   have:(md.map (·.1))[i]?=some z:=by rw [hmd];exact hz
   rw [List.getElem?_map] at this
   exact Option.map_eq_some_iff.mp this
  have hlook:look md z=some qm.2:=bu (by rw [hmd];exact bt hF.nd1) (by rw [<-hqz];exact List.mem_of_getElem? hqm)
  have ht1:md.take (i+1)=md.take i++[qm]:=by rw [List.take_add_one,hqm];rfl
  have hml:=congrArg List.length hmd
  rw [lm0] at hml
  have hwl:ws.length<=3:=by
   have:=hsub.length_le
   rw [List.length_take] at this
   omega
  have hul:=Paired.length hws
  have hkl:=Paired.length hpt
  rw [lm0] at hkl
  refine⟨_,rfl,_,rfl,hh,_,_,_,rfl,rfl,SqL.of ((s7.trans bo) _ _ hhz),hat,?_⟩
  refine⟨_,rfl,_,rfl,_,_,rfl,rfl,a,ns,15+(i:Int),rfl,clA q7,h63,by omega,by omega,λcc _=>⟨_,_,rfl,rfl,(by show(0:Int) < 2;decide),rfl,_,rfl,dE (λ_=>?_) (λ_=>⟨_,_,us,kv,ws,rfl,s7,h7w,hws,h7g,hpt,by rw [ht1];exact hsub.trans (List.sublist_append_left ..)⟩)⟩⟩
  have hval:∀{H':Hp},ao H H'->∃v,dC mkv (.inr z)=some v/\bK K H' v qm.2:=λe=>by
   rcases cg (hpk.imp λ_ _ h=>h.same e) z with ⟨_,h2⟩|⟨v,x,h1,h2,h3⟩
   ·rw [hlook] at h2;cases h2
   ·rw [hlook] at h2
    cases h2
    exact⟨v,h1,h3⟩
  obtain⟨v,hv1,hv2⟩:=hval q7
  refine⟨_,rfl,.inl ⟨rfl,_,SqL.of h7w⟩,_,rfl,_,rfl,_,rfl,dm,v,rfl,hv1▸gj.k (k:=.inr z) (q7 _ _ hdm),(sz 2),λt ht=>?_⟩
  have u1:=ac ht (.tup [.str z,v])
  have nt8:=nt7.same u1
  refine⟨lw,us,.ref t,rfl,rfl,u1 _ _ h7w,Nat.lt_of_lt_of_le (Nat.lt_succ_self _) (bJ (by omega)),?_⟩
  have z9:zo (upd (upd H7 t (.tup [.str z,v])) lw (.lst (us++[.ref t]))) [lw,dg]=zo (upd H7 t (.tup [.str z,v])) [lw,dg]:=gm wS
  have q9:ao (zo H7 [lw,dg]) (zo (upd (upd H7 t (.tup [.str z,v])) lw (.lst (us++[.ref t]))) [lw,dg]):=by rw [z9];exact dP u1
  have t9:=ej nt8 (show upd H7 t (.tup [.str z,v]) t=some (.tup [.str z,v]) from aa)
  rw [<-z9] at t9
  have h9w:upd (upd H7 t (.tup [.str z,v])) lw (.lst (us++[.ref t])) lw=some (.lst (us++[.ref t])):=aa
  have h9g:upd (upd H7 t (.tup [.str z,v])) lw (.lst (us++[.ref t])) dg=some (.dT kv):=by rw [ah (Ne.symm nwg)];exact u1 _ _ h7g
  revert q9 t9 h9w h9g
  generalize upd (upd H7 t (.tup [.str z,v])) lw (.lst (us++[.ref t]))=H9
  intro q9 t9 h9w h9g
  have hz9:ao H (zo H9 [lw,dg]):=z3.trans (s7.trans q9)
  have qq9:ao H H9:=hz9.trans bo
  obtain⟨v',hv1',hv2'⟩:=hval hz9
  rw [hv1] at hv1'
  cases hv1'
  obtain⟨dkv,hd,hnk⟩:=hNm.same qq9
  have bkm:=oN hPL (hmx qm (List.mem_of_getElem? hqm))
  refine⟨_,rfl,_,rfl,dm,v,rfl,hv1▸gj.k (k:=.inr z) (qq9 _ _ hdm),_,rfl,v,d,qm.2,dkv,_,rfl,hv2'.same bo,by have:=aR bkm;omega,hd,ut hnk,λH10 vp s10 hvp=>?_⟩
  refine⟨_,rfl,_,rfl,(sz 2),λt3 ht3=>?_⟩
  have u3:=ac ht3 (.tup [.str "",.str z])
  have s11:=s10.trans u3
  refine⟨dg,_,rfl,kH.t (k:=dq ("",z)) (s11 _ _ h9g) aa (Nat.lt_of_lt_of_le (Nat.lt_succ_self _) (bJ (by omega))),?_⟩
  have nt9:NtS H9 [lw,dg]:=aS h9w cS (aS h9g ky eX)
  have z12:zo (upd (upd H10 t3 (.tup [.str "",.str z])) dg (.dT (cI kv (dq ("",z)) vp))) [lw,dg]=zo (upd H10 t3 (.tup [.str "",.str z])) [lw,dg]:=gm gS
  have q12:ao (zo H9 [lw,dg]) (zo (upd (upd H10 t3 (.tup [.str "",.str z])) dg (.dT (cI kv (dq ("",z)) vp))) [lw,dg]):=by rw [z12];exact dP s11
  have hvpz:bK K (zo (upd (upd H10 t3 (.tup [.str "",.str z])) dg (.dT (cI kv (dq ("",z)) vp))) [lw,dg]) vp (Kd.put (bw (aD PL)) qm.2):=by
   rw [z12]
   exact aC (λ_ _ h=>gg (nt9.same s11) h) (hvp.same u3)
  have qa:=q9.trans q12
  refine⟨_,_,us++[.ref t],_,ws++[qm],rfl,s7.trans qa,by rw [ah nwg];exact s11 _ _ h9w,?_,aa,?_,?_⟩
  ·exact d3 (Paired.mapP hws λ_ _ h=>dH.same qa h) (.cons ⟨t,v,rfl,by rw [hqz];exact SqT.of (q12 _ _ t9),hv2'.same q12⟩ .nil)
  ·rw [ma0]
   show jH K _ _ (_++[(qm.1,Kd.put (bw (aD PL)) qm.2)])
   rw [hqz]
   refine lQ (hpt.same qa) (λhm=>?_) hvpz
   rw [List.map_map] at hm
   have hm':z∈ws.map (·.1):=hm
   have:=(hsub.map (·.1)).subset hm'
   rw [List.map_take,hmd] at this
   exact dU (bt hF.nd1) hz this
  ·rw [ht1]
   exact hsub.append (List.Sublist.refl _)
 ·rintro σ H7 ⟨y8,y9,us,kv,ws,rfl,s7,h7w,hws,h7g,hpt,hsub⟩
  have hsub':ws.Sublist md:=hsub.trans (List.take_sublist ..)
  have q7:ao H H7:=(z3.trans s7).trans bo
  refine⟨_,rfl,wa,_,_,_,rfl,rfl,SqL.of (q7 _ _ hwa),at7,_,rfl,lw,us,rfl,.inl ⟨SqL.of h7w,λt1 ht1=>?_⟩⟩
  have u1:=ac ht1 (.tup us)
  refine⟨(sz 2),λt2 ht2=>?_⟩
  have u2:=ac ht2 (.tup [.str z7,.ref t1])
  have u12:=u1.trans u2
  have hkn:((ws.map (aq (aD PL))).map (·.1)).Nodup:=by
   rw [List.map_map]
   have:(ws.map (·.1)).Nodup:=(hsub'.map (·.1)).nodup (by rw [hmd];exact bt hF.nd1)
   exact this
  have hGl:iR K (upd (upd H7 t1 (.tup us)) t2 (.tup [.str z7,.ref t1])) kv (Gl (ws.map (aq (aD PL)))):=by
   rw [<-ie rfl]
   exact tY (hpt.same (bo.trans u12)) rfl λq hq=>bu hkn hq
  refine⟨_,rfl,_,rfl,fa,dg,m1,m2,kv,_,rfl,hL.same (q7.trans u12),by omega,by omega,λq hq=>by have:=aR (a1 q hq).2;omega,λq hq=>⟨λk hk=>by have:=aR ((a2 q hq).2.2 k (List.mem_cons_of_mem _ hk));omega,by have:=aR ((a2 q hq).2.2 _ (List.mem_cons_self ..));omega,by have:=(a2 q hq).2.1;omega⟩,u12 _ _ h7g,hGl,λH8 x s8 hN=>?_⟩
  refine⟨(sz 2),λt3 ht3=>?_⟩
  have u3:=ac ht3 (.tup [.ref t2,.ref x])
  have v:=u12.trans (s8.trans u3)
  exact qs _ t3 t2 x ws (q7.trans v) aa ⟨t2,t1,us,rfl,SqT.of ((s8.trans u3) _ _ aa),SqT.of ((u2.trans (s8.trans u3)) _ _ aa),Paired.mapP hws λ_ _ h=>dH.same (bo.trans v) h⟩ (hN.at.same u3) hsub'
theorem pq:aG tlN tlP (ae lP):=mkS
theorem vR (F:Fun K "_law_told" "_law_told" lP f fd)
  (GS:Ca P w K mg base 43 "_law_same" fs' fds smP (om K CF))
  (cM:Cls K CM) (n1:aZ K CM "formals") (n2:aZ K CM "result") (mi:mg "isinstance"=none) (mli:mg "list"=none) (mt:mg "tuple"=none) (ml:mg "len"=none) (mz:mg "zip"=none) :
  cE P w K mg base CX0 44 f fd tlP (mH K CM CF):=by
 refine F.k0 pq λcdv A outer s H vs Q E hr h=>?_
 obtain⟨x,lw,du,l,r1,r2,ys,rfl,⟨dx,la,rf,fs,xs,hx,lf,lr,hla,hxs,hrf⟩,hlw,hys,hdu,hal,hall,hl100,q⟩:=h
 refine⟨_,@pss_cons _ _ _ _ _ (ce (PW.pt (sM (iJ (L2.pt_val (aT iQ rfl mi eh (bn (pv 0) rfl >> fC rfl mli nz (v:=.ty "list") rfl >> ad)))) (rD (aW vV (aT aK rfl ml boot_len (bn (pv 0) rfl >> ad)) (aT aK rfl ml boot_len (pv 1 >> ad)) (bd _))))) (@ai _ _ _ (@aP _ _ _ _ ou)) aX)
  (bY PassesOwn.never rfl (Ao rfl mz (bn (pv 0) rfl >> pv 1 >> ad)) (cC rfl (ap (ar (i:=3) pq.nd rfl (Or.inl rfl)) (ap (ar (i:=4) pq.nd rfl (Or.inl rfl)) bC)))
   (ce (PW.pt (sM (iJ (L2.pt_val (aT j4 rfl mi eh (pv 3 >> fC rfl mt bF (v:=.ty "tuple") rfl >> ad)))) (sM (aW vV (aT aK rfl ml boot_len (pv 3 >> ad)) ag (bd _)) (rD (aW vV (ix0 ak (pv 3) ag) (ix0 ak (pv 4) ag) (bd _)))))) (@ai _ _ _ (@aP _ _ _ _ ou)) aX <|> @ai _ _ _ (ce (iJ (L2.pt_val (cal GS hr (aN ak (pv 3) ag (λ_ _=>rfl) >> aN ak (ix0 ak (pv 4) ag) ag (λ_ _=>rfl) >> aN ak (ix0 ak (pv 4) ag) ag (λ_ _=>rfl) >> ad)))) (@ai _ _ _ (@aP _ _ _ _ ou)) aX)) <|> @ai _ _ _ (@aP _ _ _ _ (cal GS hr (bn (pv 0) rfl >> aN ak (pv 2) ag (λ_ _=>rfl) >> aN ak (pv 2) ag (λ_ _=>rfl) >> ad)))),?_⟩
 have hxl:=Paired.length hxs
 have hyl:=Paired.length hys
 refine⟨_,rfl,x,CM,dx,fs,_,rfl,hx,cM,n1,lf,.ref la,.ty "list",.type "list",.type "list",true,rfl,(λ_ z=>by cases z;rfl),.lst hla,Ap K,true,rfl,nA ?_⟩
 refine⟨_,rfl,x,CM,dx,fs,_,rfl,hx,cM,n1,lf,la,_,rfl,.inl (SqL.of hla),_,rfl,lw,_,rfl,.inl (SqL.of hlw),rfl,_,rfl,dE (λc=>absurd (show V.int (xs.length:Int)=V.int (ys.length:Int) by rw [hxl,hyl]) (by simpa using c)) (λ_=>?_)⟩
 refine⟨_,rfl,x,CM,dx,fs,_,rfl,hx,cM,n1,lf,_,rfl,la,lw,xs,ys,rfl,hla,hlw,?_⟩
 refine xW (xs:=xs) (ys:=ys) (λi σ H3=>∃y3 y4:Option V,σ=[some (.ref x),some (.ref lw),some (.ref du),y3,y4]/\ao H H3) ⟨none,none,rfl,sr0⟩ (by omega) ?_ ?_ ?_
 ·rintro i σ H3 _ ⟨_,_,_,s3⟩
  exact⟨s3 _ _ hla,s3 _ _ hlw⟩
 ·rintro i u v p σ H3 hu' hv' hp ⟨y3,y4,rfl,s3⟩
  obtain⟨r,hr',pa,fa,rfl,hpa,hF⟩:=aI hxs hu'
  obtain⟨r',hr'',pb,xb,rfl,hpb,hLb⟩:=aI hys hv'
  rw [hr'] at hr''
  cases hr''
  have s4:=s3.trans (ac hp (.tup [.ref pa,.ref pb]))
  obtain⟨k1,k2,hxb,hk1,hk2⟩:=id hLb
  have hp':upd H3 p (.tup [.ref pa,.ref pb]) p=some (.tup [.ref pa,.ref pb]):=aa
  revert s4 hp'
  generalize upd H3 p (.tup [.ref pa,.ref pb])=H4
  intro s4 hp'
  refine⟨p,_,rfl,SqT.of hp',rfl,_,_,rfl,_,_,rfl,rfl,?_⟩
  refine⟨_,rfl,pa,_,rfl,s4.tup hpa,true,rfl,nA ?_⟩
  refine⟨_,rfl,pa,_,rfl,.inr (s4.tup hpa),rfl,_,rfl,dE (λc=>absurd c (by show ¬(!decide (V.int 2=V.int 2))=true;decide)) (λ_=>?_)⟩
  refine⟨_,rfl,pa,_,_,_,rfl,rfl,s4.tup hpa,(show atI [V.str r.1,.ref fa] 0=some (.str r.1) from rfl),_,rfl,pb,_,_,_,rfl,rfl,SqT.of (s4 _ _ hpb),(show atI [V.str r.1,.ref xb] 0=some (.str r.1) from rfl),rfl,_,rfl,dE (λc=>absurd (rfl:V.str r.1=V.str r.1) (by simpa using c)) (λ_=>?_)⟩
  refine⟨_,rfl,pa,_,_,_,rfl,rfl,s4.tup hpa,(show atI [V.str r.1,.ref fa] 1=some (.ref fa) from rfl),_,rfl,pb,_,_,_,rfl,rfl,SqT.of (s4 _ _ hpb),(show atI [V.str r.1,.ref xb] 1=some (.ref xb) from rfl),xb,_,_,_,rfl,rfl,SqT.of (s4 _ _ hxb),(show atI [V.ref k1,.ref k2] 0=some (.ref k1) from rfl),_,rfl,pb,_,_,_,rfl,rfl,SqT.of (s4 _ _ hpb),(show atI [V.str r.1,.ref xb] 1=some (.ref xb) from rfl),xb,_,_,_,rfl,rfl,SqT.of (s4 _ _ hxb),(show atI [V.ref k1,.ref k2] 1=some (.ref k2) from rfl),fa,k1,k2,r.2.1,r.2.2,rfl,hF.same s4,hk1.same s4,hk2.same s4,hall r (List.mem_of_getElem? hr'),λH5 s5=>⟨true,rfl,nA ⟨_,_,rfl,s4.trans s5⟩⟩⟩
 ·rintro σ H3 ⟨y3,y4,rfl,s3⟩
  obtain⟨k1,k2,hdu',hk1,hk2⟩:=hdu.same s3
  exact⟨_,rfl,x,CM,dx,fs,_,rfl,s3 _ _ hx,cM,n2,lr,_,rfl,du,_,_,_,rfl,rfl,SqT.of hdu',(show atI [V.ref k1,.ref k2] 0=some (.ref k1) from rfl),_,rfl,du,_,_,_,rfl,rfl,SqT.of hdu',(show atI [V.ref k1,.ref k2] 1=some (.ref k2) from rfl),rf,k1,k2,r1,r2,rfl,hrf.same s3,hk1,hk2,hal,λH4 s4=>q _ (s3.trans s4)⟩
end
theorem pO:∀{k:Kd},(∀n∈Kd.names k,(T n).getD (.name n.1 n.2)=(G n).getD (.name n.1 n.2))->Kd.put T k=Kd.put G k
 |.num _,_=>rfl
 |.name q t,h=>h (q,t) (List.mem_singleton.mpr rfl)
 |.pair a b,h=>by
  show Kd.pair _ _=Kd.pair _ _
  rw [pO (k:=a) λn hn=>h n (List.mem_append_left _ hn),pO (k:=b) λn hn=>h n (List.mem_append_right _ hn)]
theorem pL(h:∀n∈Kd.names k,T n≠none)(e:Kd.put T k=k')(hw:k'.words<=40):gq T 40 k=.ok k':=by
 unfold gq
 rw [if_neg (fun⟨n,hn,hh⟩=>h n hn hh),e,if_neg (by omega)]
theorem i8(G:Str × Kd->Kd):∀(ks:am) (m1:am) (m2:aY),(∀i q,ks[i]?=some q->gq (tl (m1++(ks.take i).map λq=>(q.1,G q)) parts) 40 q.2=.ok (G q))->(m1.map (·.1)++ks.map (·.1)).Nodup ->
  (ks.map kI).foldl (kc parts 40) (.ok m1 m2)=.ok (m1++ks.map λq=>(q.1,G q)) m2
 |[],m1,m2,_,_=>by
  show FR.ok m1 m2=.ok (m1++[]) m2
  rw [List.append_nil]
 |q::ks,m1,m2,h,nd=>by
  have h0:=h 0 q rfl
  rw [List.take_zero,List.map_nil,List.append_nil] at h0
  have hq:q.1∉m1.map (·.1):=λhm=>(List.nodup_append.mp nd).2.2 _ hm _ (List.mem_cons_self ..) rfl
  have e1:kc parts 40 (.ok m1 m2) (kI q)=.ok (m1++[(q.1,G q)]) m2:=by
   show hU parts 40 m1 m2 (.kind q.1 q.2)=_
   unfold hU
   simp only [h0]
   rw [if_neg hq]
  show(ks.map kI).foldl (kc parts 40) (kc parts 40 (.ok m1 m2) (kI q))=_
  have ih:=i8 (parts:=parts) G ks (m1++[(q.1,G q)]) m2 (λi x hx=>by
   have:=h (i+1) x hx
   rw [List.take_succ_cons,List.map_cons] at this
   rw [List.append_assoc]
   exact this) (by
   rw [ma0,List.append_assoc]
   exact nd)
  rw [e1,ih,List.map_cons,List.append_assoc]
  rfl
theorem qY:∀{ks:List Kd},(∀k∈ks,gq T 40 k=.ok (G k))->dX T 40 ks=.ok (ks.map G)
 |[],_=>rfl
 |k::ks,h=>by
  unfold dX
  rw [h k (List.mem_cons_self ..)]
  show(match dX T 40 ks with|.no c=>Nrs.no c|.ok l=>.ok (G k::l))=_
  rw [qY λk' hk'=>h k' (List.mem_cons_of_mem _ hk')]
  rfl
theorem rG:∀{fns:List It} {rows:aY} {m2:aY},Paired AU fns rows->(∀q∈rows,∀k∈q.2.2::q.2.1,gq (tl m1 parts) 40 k=.ok (Kd.put G k))->(m2.map (·.1)++rows.map (·.1)).Nodup ->
  fns.foldl (kc parts 40) (.ok m1 m2)=.ok m1 (m2++rows.map (cq G))
 |_,_,m2,.nil,_,_=>by
  rw [List.map_nil,List.append_nil]
  rfl
 |_,_,m2,.cons (b:=q) ⟨ps,e,hps⟩ r,h,nd=>by
  have hq:q.1∉m2.map (·.1):=λhm=>(List.nodup_append.mp nd).2.2 _ hm _ (List.mem_cons_self ..) rfl
  have hk:=h q (List.mem_cons_self ..)
  have e1:kc parts 40 (.ok m1 m2) (.fn q.1 ps q.2.2)=.ok m1 (m2++[cq G q]):=by
   show(match dX (tl m1 parts) 40 (ps.map (·.2)) with
    |.no c=>FR.ref c
    |.ok ks=>match gq (tl m1 parts) 40 q.2.2 with
     |.no c=>.ref c
     |.ok k'=>if q.1∈m2.map (λx:Str × (List Kd × Kd)=>x.1) then .ref 0 else .ok m1 (m2++[(q.1,(ks,k'))]))=_
   rw [hps,qY (G:=Kd.put G) λk hk'=>hk k (List.mem_cons_of_mem _ hk'),hk _ (List.mem_cons_self ..)]
   show(if q.1∈m2.map (·.1) then FR.ref 0 else .ok m1 (m2++[(q.1,(q.2.1.map (Kd.put G),Kd.put G q.2.2))]))=_
   rw [if_neg hq]
   rfl
  rw [e,List.foldl_cons,e1,rG r (λq' hq'=>h q' (List.mem_cons_of_mem _ hq')) (by rw [ma0,List.append_assoc];exact nd),List.map_cons,List.append_assoc]
  rfl
theorem iZ{α:Type}:∀(m n:List (Str × α)),((n++m).map (·.1)).Nodup->bq n m=some (n++m)
 |[],n,_=>by rw [List.append_nil];rfl
 |q::m,n,nd=>by
  unfold bq
  rw [if_neg (λhm=>by
   rw [ma0] at nd
   exact(List.nodup_append.mp nd).2.2 _ hm _ (List.mem_cons_self ..) rfl),iZ m (n++[q]) (by rw [List.append_assoc];exact nd),List.append_assoc]
  rfl
structure MIn(PL:aV)(c c2:Int)(W0:Str)(AR:am)(BR:aY)(md:am):Prop where
 pl:iT PL
 f:cD c c2 8 [.name W0 "k"] AR BR
 w0:smW W0
 ne0:W0≠""
 k0:bw (aD PL) (W0,"k")=some (.name W0 "k")
 mk':md.map (·.1)=ba AR
 mx:∀q∈md,kC (LfF (aD PL)) q.2
section
variable{PL:aV}{c c2:Int}{W0:Str}{AR:am}{BR:aY}{md:am}
theorem MIn.us(h:MIn PL c c2 W0 AR BR md):(md.map (aq (aD PL))).map (·.1)=ba AR:=by rw [List.map_map];exact h.mk'
theorem MIn.nd(h:MIn PL c c2 W0 AR BR md):(md.map (·.1)).Nodup:=by rw [h.mk'];exact bt h.f.nd1
theorem MIn.usb(h:MIn PL c c2 W0 AR BR md):∀q∈md.map (aq (aD PL)),Bk 8 q.2/\Clo q.2:=λq hq=>by
 obtain⟨x,hx,rfl⟩:=List.mem_map.mp hq
 refine⟨vm h.pl (h.mx x hx),nu (λn g e=>(h.pl.val (qU e)).2.1) (gz λl hl=>?_)⟩
 rcases (h.mx x hx).1 l hl with ⟨n,kk,e,hm⟩|⟨n,e,_⟩
 ·rw [e]
  exact(h.pl.val hm).2.2.1
 ·rw [e]
  exact trivial
theorem rL{m1:am}{n:Str × Str}(hp:iT PL) (h:n.1≠""):tl m1 PL n=bw (aD PL) n:=by
 rw [hp.nls]
 unfold tl tz jX
 rw [if_neg h,if_neg h]
theorem xq{m1:am}{n:Str × Str} (h:n.1=""):tl m1 PL n=look m1 n.2:=by
 unfold tl jX
 rw [if_pos h]
theorem jM(h:MIn PL c c2 W0 AR BR md)(hq:q∈md)(hn:n∈Kd.names q.2):n.1≠""/\bw (aD PL) n≠none:=by
 rcases (h.mx q hq).1 _ (dZ hn) with ⟨m,kk,e,hm⟩|⟨m,e,_⟩
 ·injection e with e1 e2
  have em:n=m:=by
   obtain⟨a,b⟩:=n
   obtain⟨a',b'⟩:=m
   simp only at e1 e2
   rw [e1,e2]
  subst em
  exact⟨(h.pl.val hm).2.2.1,by rw [wA (iT.keys h.pl.nd λr hr=>(h.pl.row r hr).nd1) hm];exact λz=>nomatch z⟩
 ·cases e
theorem yG(h:MIn PL c c2 W0 AR BR md){q:Str × Kd}(hq:q∈md)(m1:am):gq (tl m1 PL) 40 q.2=.ok (aq (aD PL) q).2:=by
 refine pL (λn hn=>?_) ?_ ?_
 ·obtain⟨h1,h2⟩:=jM h hq hn
  rw [rL h.pl h1]
  exact h2
 ·exact fN λn hn=>rL h.pl (jM h hq hn).1
 ·have:=bV (h.usb _ (List.mem_map.mpr ⟨q,hq,rfl⟩)).1
  omega
theorem qI(h:MIn PL c c2 W0 AR BR md){k:Kd} (hk:∀l∈k.leaves,LfS (ba AR) [.name W0 "k"] l) (hb:Bk 2 k) {m1:am} (hm:∀z∈ba AR,look m1 z=look (md.map (aq (aD PL))) z):gq (tl m1 PL) 40 k=.ok (Kd.put (Gl (md.map (aq (aD PL)))) k):=by
 have hnm:∀n∈Kd.names k,n=((W0,"k"):Str × Str)\/(n.1=""/\n.2∈ba AR):=λn hn=>by
  rcases hk _ (dZ hn) with h1|⟨m,h1,_⟩|⟨z,hz,h1⟩
  ·have:=List.mem_singleton.mp h1
   injection this with e1 e2
   left
   obtain⟨a,b⟩:=n
   simp only at e1 e2
   rw [e1,e2]
  ·cases h1
  ·injection h1 with e1 e2
   right
   exact⟨e1,by rw [e2];exact hz⟩
 have hlk:∀z∈ba AR,look (md.map (aq (aD PL))) z≠none:=λz hz e=>by
  rw [<-h.us] at hz
  obtain⟨q,hq,e2⟩:=List.mem_map.mp hz
  unfold look at e
  rw [Option.map_eq_none_iff,List.find?_eq_none] at e
  exact e q hq (dt0 e2)
 refine pL (λn hn=>?_) (pO λn hn=>?_) ?_
 ·rcases hnm n hn with rfl|⟨e1,e2⟩
  ·rw [rL h.pl h.ne0,h.k0]
   exact λz=>nomatch z
  ·rw [xq e1,hm _ e2]
   exact hlk _ e2
 ·rcases hnm n hn with rfl|⟨e1,e2⟩
  ·rw [rL h.pl h.ne0,h.k0]
   have:Gl (md.map (aq (aD PL))) (W0,"k")=none:=if_neg h.ne0
   rw [this]
   rfl
  ·rw [xq e1,hm _ e2]
   have:Gl (md.map (aq (aD PL))) n=look (md.map (aq (aD PL))) n.2:=if_pos e1
   rw [this]
 ·have:=bV (lc (G:=Gl (md.map (aq (aD PL)))) (n:=8) (by decide) (λm g e=>(h.usb _ (hJ e)).1) hb)
  omega
theorem Ar(h:MIn PL c c2 W0 AR BR md)(hq:q∈tlM AR):∀l∈q.2.leaves,LfS (ba AR) [.name W0 "k"] l:=by
 obtain⟨h1,h2⟩:=List.mem_filter.mp hq
 rcases h.f.k1 q h1 with e|e
 ·have:hX q=true:=dt0 e
  rw [this] at h2
  cases h2
 ·exact e.1
theorem nO(h:MIn PL c c2 W0 AR BR md):(ba AR++(tlM AR).map (·.1)).Nodup:=by
 refine List.nodup_append.mpr ⟨bt h.f.nd1,h.f.nd1.sublist (List.Sublist.map _ List.filter_sublist),λx hx y' hy' e=>?_⟩
 obtain⟨q',hq',rfl⟩:=List.mem_map.mp hy'
 obtain⟨h1,h2⟩:=List.mem_filter.mp hq'
 have:=iw h.f.nd1 (cO.mp hx) (show(x,q'.2)∈AR by rw [e];exact h1)
 have h3:hX q'=true:=dt0 (by rw [<-this,e])
 rw [h3] at h2
 cases h2
theorem jN{α:Type}{a b:List (Str × α)}{z:Str}(h:z∉a.map (·.1)):look (a++b) z=look b z:=by
 have:=eR h
 unfold look at this ⊢
 rw [List.find?_append]
 cases hf:List.find? (λq:Str × α=>decide (q.1=z)) a with
 |none=>rfl
 |some q=>rw [hf] at this;cases this
theorem j6{α:Type}{a b:List (Str × α)}{z:Str}(h:z∈a.map (·.1)):look (a++b) z=look a z:=by
 unfold look
 rw [List.find?_append]
 cases hf:List.find? (λq:Str × α=>decide (q.1=z)) a with
 |some q=>rfl
 |none =>
  obtain⟨q,hq,e⟩:=List.mem_map.mp h
  exact absurd (dt0 e) (List.find?_eq_none.mp hf q hq)
theorem nL(h:MIn PL c c2 W0 AR BR md){fns:List It}(hf:Paired AU fns BR){b1:am}{b2:aY}(d1:∀z∈b1.map (·.1),z∉AR.map (·.1))(n1:(b1.map (·.1)).Nodup)(d2:(b2.map (·.1)++BR.map (·.1)).Nodup) :
  (md.map kI++(tlM AR).map kI++fns).foldl (kc PL 40) (.ok b1 b2)=.ok (b1++fP (aD PL) md (tlM AR)) (b2++BR.map (cq (Gl (md.map (aq (aD PL)))))):=by
 have own:=nO h
 have hidK:∀z∈ba AR,z∈AR.map (·.1):=λz hz=>List.mem_map.mpr ⟨_,cO.mp hz,rfl⟩
 have tlK:∀z∈(tlM AR).map (·.1),z∈AR.map (·.1):=λz hz=>by
  obtain⟨q,hq,rfl⟩:=List.mem_map.mp hz
  exact List.mem_map.mpr ⟨q,(List.mem_filter.mp hq).1,rfl⟩
 rw [List.foldl_append,List.foldl_append,i8 (λq=>(aq (aD PL) q).2) md b1 b2 (λi q hq=>yG h (List.mem_of_getElem? hq) _) ?_]
 ·have e1:(md.map λq=>(q.1,(aq (aD PL) q).2))=md.map (aq (aD PL)):=rfl
  rw [e1,i8 (λq=>Kd.put (Gl (md.map (aq (aD PL)))) q.2) (tlM AR) _ b2 (λi q hq=>?_) ?_]
  ·have hm:∀z∈ba AR,look (b1++md.map (aq (aD PL))++(tlM AR).map λq=>(q.1,Kd.put (Gl (md.map (aq (aD PL)))) q.2)) z=look (md.map (aq (aD PL))) z:=λz hz=>by
    rw [List.append_assoc,jN (λhb=>d1 z hb (hidK z hz)),j6 (by rw [h.us];exact hz)]
   rw [rG (G:=Gl (md.map (aq (aD PL)))) hf (λq hq k hk=>qI h ((h.f.fu.2.2.2 q hq).2.2 k hk).1 (va (cb h.w0) h.f.hw ((h.f.fu.2.2.2 q hq).2.2 k hk)) hm) d2]
   unfold fP
   rw [List.append_assoc]
   rfl
  ·rw [ma0,h.us,List.append_assoc]
   exact List.nodup_append.mpr ⟨n1,own,λx hx y hy e=>d1 x hx (by
    rw [e]
    rcases List.mem_append.mp hy with hy|hy
    ·exact hidK y hy
    ·exact tlK y hy)⟩
  ·have hq':=List.mem_of_getElem? hq
   refine qI h (Ar h hq') ((h.f.b1 (cb h.w0)) q (List.mem_filter.mp hq').1).2 λz hz=>?_
   rw [List.append_assoc,jN (λhb=>d1 z hb (hidK z hz)),j6 (by rw [h.us];exact hz)]
 ·rw [h.mk']
  exact List.nodup_append.mpr ⟨n1,bt h.f.nd1,λx hx y hy e=>d1 x hx (by rw [e];exact hidK y hy)⟩
structure SlS(PL:aV)(AR:am)(BR:aY)(ws:am):Prop where
 run:nB AR BR (ws.map (iK (PGo PL)))=.ok (AR.map (cA (Gl (ws.map (aq (aD PL)))))) (BR.map (cq (Gl (ws.map (aq (aD PL))))))
 told:∀q∈ws,gr (PGo PL) q
 sl:qS (PGo PL) ws
 len:ws.length<=100
theorem vv(h:MIn PL c c2 W0 AR BR md)(hw:ws.Sublist md):SlS PL AR BR ws:=by
 have a1:=h.f.b1 (cb h.w0)
 have a2:=h.f.b2 (cb h.w0)
 have e:ws.map (iK (PGo PL))=ws.map (aq (aD PL)):=List.map_congr_left λq _=>(kg h.pl q).symm
 have hal:∀q∈ws.map (aq (aD PL)),Clo q.2/\Bk 8 q.2/\q.1∈ba AR:=λq hq=>by
  obtain⟨x,hx,rfl⟩:=List.mem_map.mp hq
  have hu:=h.usb _ (List.mem_map.mpr ⟨x,hw.subset hx,rfl⟩)
  exact⟨hu.2,hu.1,by rw [<-h.mk'];exact List.mem_map.mpr ⟨x,hw.subset hx,rfl⟩⟩
 have nd:((ws.map (aq (aD PL))).map (·.1)).Nodup:=by
  rw [List.map_map]
  have:(ws.map (·.1)).Nodup:=(hw.map (·.1)).nodup h.nd
  exact this
 have run:=pR (a:=2) (n:=8) (by decide) (by decide) a1 a2 (ws:=[]) (us:=ws.map (aq (aD PL))) hal nd
 rw [oV,oo] at run
 have hl:ws.length<=5:=by
  have e1:=hw.length_le
  have e2:=congrArg List.length h.mk'
  have e3:=h.f.h3
  rw [lm0] at e2
  omega
 refine⟨by rw [e];exact run,λq hq n hn=>?_,λq hq=>?_,by omega⟩
 ·rw [<-h.pl.nls]
  exact(jM h (hw.subset hq) hn).2
 ·have hb:=oN h.pl (h.mx q (hw.subset hq))
  have hu:=h.usb _ (List.mem_map.mpr ⟨q,hw.subset hq,rfl⟩)
  have hq1:q.1∈ba AR:=by rw [<-h.mk'];exact List.mem_map.mpr ⟨q,hw.subset hq,rfl⟩
  refine⟨dz (h.f.hw _ hq1),fT hb.1,by have:=bV hb;omega,λ_=>?_⟩
  rw [show Kd.put (tz (PGo PL)) q.2=(iK (PGo PL) q).2 from rfl,<-kg h.pl q]
  exact⟨fT hu.1.1,by have:=bV hu.1;omega⟩
theorem wQ{a b:am}(nd:(b.map (·.1)).Nodup)(h:a.Sublist b){z:Str}(hz:z∈a.map (·.1)):look a z=look b z:=by
 obtain⟨q,hq,rfl⟩:=List.mem_map.mp hz
 rw [bu (nd.sublist (h.map (·.1))) (show(q.1,q.2)∈a from hq),bu nd (show(q.1,q.2)∈b from h.subset hq)]
theorem uY(h:MIn PL c c2 W0 AR BR md){ws:am}(hw:ws.Sublist md){f1:am}{f2:aY}(n1:(f1.map (·.1)).Nodup)(n2:(f2.map (·.1)).Nodup)(s1:∀q∈fP (aD PL) md (tlM AR),q∈f1)(s2:∀q∈BR.map (cq (Gl (md.map (aq (aD PL))))),q∈f2)(b1:BK 18 f1)(b2:BF 18 f2) :
  tE f1 (AR.map (cA (Gl (ws.map (aq (aD PL)))))) f2 (BR.map (cq (Gl (ws.map (aq (aD PL))))))=none/\Two f1 (AR.map (cA (Gl (ws.map (aq (aD PL)))))) f2 (BR.map (cq (Gl (ws.map (aq (aD PL)))))) 40 /\
   BK 18 (AR.map (cA (Gl (ws.map (aq (aD PL))))))/\BF 18 (BR.map (cq (Gl (ws.map (aq (aD PL)))))):=by
 have a1:=h.f.b1 (cb h.w0)
 have a2:=h.f.b2 (cb h.w0)
 have hsub:(ws.map (aq (aD PL))).Sublist (md.map (aq (aD PL))):=hw.map _
 have und:((md.map (aq (aD PL))).map (·.1)).Nodup:=by rw [h.us];exact bt h.f.nd1
 have wk:(ws.map (aq (aD PL))).map (·.1)=ws.map (·.1):=by rw [List.map_map];rfl
 have cw:∀q∈ws.map (aq (aD PL)),Clo q.2:=λq hq=>(h.usb q (hsub.subset hq)).2
 generalize hG:(ba (AR.map (cA (Gl (ws.map (aq (aD PL))))))).map (λz=>(z,(look (md.map (aq (aD PL))) z).getD (eu z)))=gl
 have hgk:gl.map (·.1)=ba (AR.map (cA (Gl (ws.map (aq (aD PL)))))):=by
  rw [<-hG,List.map_map]
  exact List.map_id _
 have key:∀z∈ba AR,look (ws.map (aq (aD PL))++gl) z=look (md.map (aq (aD PL))) z:=λz hz=>by
  by_cases hzw:z∈(ws.map (aq (aD PL))).map (·.1)
  ·rw [j6 hzw,wQ und hsub hzw]
  ·rw [jN hzw]
   have hza:z∈ba (AR.map (cA (Gl (ws.map (aq (aD PL)))))):=by
    refine cO.mpr (List.mem_map.mpr ⟨(z,eu z),cO.mp hz,?_⟩)
    show(z,(Gl (ws.map (aq (aD PL))) ("",z)).getD (eu z))=_
    have:Gl (ws.map (aq (aD PL))) ("",z)=none:=eR hzw
    rw [this]
    rfl
   have hlk:look (md.map (aq (aD PL))) z≠none:=λe=>by
    rw [<-h.us] at hz
    obtain⟨q,hq,e2⟩:=List.mem_map.mp hz
    unfold look at e
    rw [Option.map_eq_none_iff,List.find?_eq_none] at e
    exact e q hq (dt0 e2)
   have hm:(z,(look (md.map (aq (aD PL))) z).getD (eu z))∈gl:=by
    rw [<-hG]
    exact List.mem_map.mpr ⟨z,hza,rfl⟩
   have ng:(gl.map (·.1)).Nodup:=by
    rw [hgk]
    exact bt (by rw [d4];exact h.f.nd1)
   rw [bu ng hm]
   cases hl:look (md.map (aq (aD PL))) z with
   |none=>exact absurd hl hlk
   |some k=>rfl
 have pe:∀{k:Kd},pX (ba AR) k->Kd.put (Gl (ws.map (aq (aD PL))++gl)) k=Kd.put (Gl (md.map (aq (aD PL)))) k:=λ{k} hk=>fN λn hn=>by
  unfold Gl
  by_cases e:n.1=""
  ·rw [if_pos e,if_pos e]
   exact key _ (oA hk hn e)
  ·rw [if_neg e,if_neg e]
 have hown:=h.f.own h.ne0
 have ownF:∀q∈BR,∀k∈q.2.2::q.2.1,pX (ba AR) k:=λq hq k hk l hl z e=>by
  rcases ((h.f.fu.2.2.2 q hq).2.2 k hk).1 l hl with h2|⟨n,h2,_⟩|⟨hh,h3,h2⟩
  ·rw [List.mem_singleton.mp h2] at e
   injection e with e1 _
   exact absurd e1 h.ne0
  ·rw [h2] at e
   cases e
  ·rw [h2] at e
   rw [<-jS e]
   exact h3
 have e1:(AR.map (cA (Gl (ws.map (aq (aD PL)))))).map (cA (Gl gl))=AR.map (cA (Gl (md.map (aq (aD PL))))):=by
  rw [rA cw]
  exact List.map_congr_left λq hq=>by
   show(q.1,_)=(q.1,_)
   rw [pe (hown q hq)]
 have e2:(BR.map (cq (Gl (ws.map (aq (aD PL)))))).map (cq (Gl gl))=BR.map (cq (Gl (md.map (aq (aD PL))))):=by
  rw [rj cw]
  refine List.map_congr_left λq hq=>?_
  have g1:q.2.1.map (Kd.put (Gl (ws.map (aq (aD PL))++gl)))=q.2.1.map (Kd.put (Gl (md.map (aq (aD PL))))):=List.map_congr_left λk hk=>pe (ownF q hq k (List.mem_cons_of_mem _ hk))
  show(q.1,(q.2.1.map _,_))=(q.1,(q.2.1.map _,_))
  rw [g1,pe (ownF q hq _ (List.mem_cons_self ..))]
 have m1:∀q∈(AR.map (cA (Gl (ws.map (aq (aD PL)))))).map (cA (Gl gl)),q∈f1:=λq hq=>by
  rw [e1] at hq
  obtain⟨x,hx,rfl⟩:=List.mem_map.mp hq
  refine s1 _ ?_
  unfold fP
  by_cases hb:hX x=true
  ·have hxe:x.2=eu x.1:=od0 hb
   have hxh:x.1∈ba AR:=cO.mpr (by rw [<-hxe];exact hx)
   rw [<-h.us] at hxh
   obtain⟨y,hy,e⟩:=List.mem_map.mp hxh
   refine List.mem_append_left _ ?_
   have hl:look (md.map (aq (aD PL))) x.1=some y.2:=bu und (by rw [<-e];exact hy)
   have:cA (Gl (md.map (aq (aD PL)))) x=y:=by
    show(x.1,Kd.put (Gl (md.map (aq (aD PL)))) x.2)=y
    rw [hxe]
    show(x.1,(Gl (md.map (aq (aD PL))) ("",x.1)).getD (eu x.1))=y
    rw [show Gl (md.map (aq (aD PL))) ("",x.1)=look (md.map (aq (aD PL))) x.1 from if_pos rfl,hl,<-e]
    rfl
   rw [this]
   exact hy
  ·refine List.mem_append_right _ (List.mem_map.mpr ⟨x,List.mem_filter.mpr ⟨hx,?_⟩,rfl⟩)
   cases hh:hX x with
   |true=>exact absurd hh hb
   |false=>rfl
 have m2:∀q∈(BR.map (cq (Gl (ws.map (aq (aD PL)))))).map (cq (Gl gl)),q∈f2:=λq hq=>by
  rw [e2] at hq
  exact s2 q hq
 obtain⟨fit,gf⟩:=zi n1 n2 m1 m2 (AO hgk)
 have bG:∀n g,Gl (md.map (aq (aD PL))) n=some g->Bk 8 g:=λn g e=>(h.usb _ (hJ e)).1
 have bW:∀n g,Gl (ws.map (aq (aD PL))) n=some g->Bk 8 g:=λn g e=>(h.usb _ (hsub.subset (hJ e))).1
 have p1:BK 18 (AR.map (cA (Gl (ws.map (aq (aD PL)))))):=(oR (n:=8) (by decide) bW a1).mono (by decide)
 have p2:BF 18 (BR.map (cq (Gl (ws.map (aq (aD PL)))))):=(ll (n:=8) (by decide) bW a2).mono (by decide)
 have lA:=h.f.l1
 have lB:=h.f.fu.2.2.1
 refine⟨fit,wu (by rw [d4];exact h.f.nd1) (by rw [lm0];omega) (by rw [lm0];omega) b1 b2 p1 p2 ?_ ?_,p1,p2⟩
 ·rw [gf,e1]
  exact(oR (n:=8) (by decide) bG a1).mono (by decide)
 ·rw [gf,e2]
  exact(ll (n:=8) (by decide) bG a2).mono (by decide)
theorem ub(h:MIn PL c c2 W0 AR BR md):BK 18 (fP (aD PL) md (tlM AR)):=λq hq=>by
 have a1:=h.f.b1 (cb h.w0)
 unfold fP at hq
 rcases List.mem_append.mp hq with hq|hq
 ·have hk:q.1∈ba AR:=by rw [<-h.us];exact List.mem_map.mpr ⟨q,hq,rfl⟩
  exact⟨h.f.hw _ hk,(h.usb q hq).1.mono (by decide)⟩
 ·obtain⟨x,hx,rfl⟩:=List.mem_map.mp hq
  have:=a1 x (List.mem_filter.mp hx).1
  exact⟨this.1,(lc (G:=Gl (md.map (aq (aD PL)))) (n:=8) (by decide) (λm g e=>(h.usb _ (hJ e)).1) this.2).mono (by decide)⟩
theorem vb(h:MIn PL c c2 W0 AR BR md):BF 18 (BR.map (cq (Gl (md.map (aq (aD PL)))))):=(ll (n:=8) (by decide) (λn g e=>(h.usb _ (hJ e)).1) (h.f.b2 (cb h.w0))).mono (by decide)
end
theorem xL(h:cD c c2 sh ks A B)(hs:sh=0\/sh=14)(h':cD c c3 8 ks' AR BR):∀z∈A.map (·.1),z∉AR.map (·.1):=λz hz hz'=>by
 obtain⟨q,hq,rfl⟩:=List.mem_map.mp hz
 obtain⟨q',hq',e⟩:=List.mem_map.mp hz'
 obtain⟨j,hj,e1⟩:=h.w1 q hq
 obtain⟨j',hj',e2⟩:=h'.w1 q' hq'
 have:=fM (c:=c) (k:=8+(j':Int)) (k':=sh+(j:Int)) (by rw [<-e1,<-e2];exact e)
 rcases hs with rfl|rfl<;>omega
theorem xz(h:cD c c2 sh ks A B)(hs:sh=0\/sh=14)(h':cD c3 c2 8 ks' AR BR):∀z∈B.map (·.1),z∉BR.map (·.1):=λz hz hz'=>by
 obtain⟨n,hn,e⟩:=h.fu.1
 obtain⟨n',hn',e'⟩:=h'.fu.1
 rw [e] at hz
 rw [e'] at hz'
 obtain⟨j,hj,e1⟩:=fZ.mp hz
 obtain⟨j',hj',e2⟩:=fZ.mp hz'
 have:=fM (c:=c2) (k:=8+(j':Int)) (k':=sh+(j:Int)) (by rw [<-e1,<-e2])
 rcases hs with rfl|rfl<;>omega
theorem zj(h':cD c c3 8 ks' AR BR):bg c 20∉AR.map (·.1):=λhz'=>by
 obtain⟨q',hq',e⟩:=List.mem_map.mp hz'
 obtain⟨j',hj',e2⟩:=h'.w1 q' hq'
 have:=fM (c:=c) (k:=8+(j':Int)) (k':=20) (by rw [<-e2];exact e)
 omega
theorem zm(h:md.map (·.1)=ba AR):∀z∈(fP nl md (tlM AR)).map (·.1),z∈AR.map (·.1):=λz hz=>by
 rw [iC,h] at hz
 rcases List.mem_append.mp hz with hz|hz
 ·exact List.mem_map.mpr ⟨_,cO.mp hz,rfl⟩
 ·obtain⟨q,hq,rfl⟩:=List.mem_map.mp hz
  exact List.mem_map.mpr ⟨q,(List.mem_filter.mp hq).1,rfl⟩
structure tQ(fl PL0:aV)(c c2 sh0 sh1:Int)(W0:Str)(wd:List Str)(A0 A1 AR:am)(B0 B1 BR:aY)(fs:List (Str × (Str × am)))(l:aV)(md:am)(fns its':List It)(own':am)(funs':aY)(z5 z7:Str)(sl:Option am):Prop where
 fo:Bt fl PL0 c c2 sh0 sh1 W0 wd A0 A1 B0 B1
 s0:sh0=0\/sh0=14
 s1:sh1=0\/sh1=14
 inv:kD fl PL0 fs l
 l4:l.length<=4
 row:∀r∈l,BU A0 A1 B0 B1 r
 m:MIn (PL0++l.map aE) c c2 W0 AR BR md
 fn:Paired AU fns BR
 op:Cd l wd (bg c 20) (md.map kI++(tlM AR).map kI++fns) its' (fP (aD (PL0++l.map aE)) md (tlM AR)) own' (BR.map (cq (Gl (md.map (aq (aD (PL0++l.map aE))))))) funs'
 w5:smW z5
 w7:smW z7
 l7:look fl z7=some (AR,BR)
 good:∀r∈fl,uP r.2.1 r.2.2
 sub:∀ws,sl=some ws->ws.Sublist md
def yc(PL:aV)(AR own':am)(BR funs':aY):Option am->am × aY
 |none=>(own',funs')
 |some ws=>(AR.map (cA (Gl (ws.map (aq (aD PL))))),BR.map (cq (Gl (ws.map (aq (aD PL))))))
section
variable{fl PL0:aV}{c c2 sh0 sh1:Int}{W0:Str}{wd:List Str}{A0 A1 AR:am}{B0 B1 BR:aY}{fs:List (Str × (Str × am))}{l:aV}{md:am}{fns its':List It}{own':am}{funs':aY}{z5 z7:Str}{sl:Option am}
structure BX(PL:aV)(AR:am)(BR:aY)(md:am)(its':List It)(own':am)(funs':aY):Prop where
 run:nE PL 40 its'=.ok own' funs'
 n1:(own'.map (·.1)).Nodup
 n2:(funs'.map (·.1)).Nodup
 b1:BK 18 own'
 b2:BF 18 funs'
 s1:∀q∈fP (aD PL) md (tlM AR),q∈own'
 s2:∀q∈BR.map (cq (Gl (md.map (aq (aD PL))))),q∈funs'
 l1:own'.length<=20
 l2:funs'.length<=20
 li:its'.length<=20
 it:∀it∈its',zy it
theorem qH(h:Bk 2 k):ItK k:=⟨fT h.1,by have:=h.2;omega,.inl (by have:=h.2;omega)⟩
theorem A6(h:tQ fl PL0 c c2 sh0 sh1 W0 wd A0 A1 AR B0 B1 BR fs l md fns its' own' funs' z5 z7 sl):BX (PL0++l.map aE) AR BR md its' own' funs':=by
 have hM:=h.m
 have oin:=zm (nl:=aD (PL0++l.map aE)) hM.mk'
 have ond:((fP (aD (PL0++l.map aE)) md (tlM AR)).map (·.1)).Nodup:=by rw [iC,hM.mk'];exact nO hM
 have fk:(BR.map (cq (Gl (md.map (aq (aD (PL0++l.map aE))))))).map (·.1)=BR.map (·.1):=fQ _ _
 have lA:=hM.f.l1
 have lB:=hM.f.fu.2.2.1
 have lh:=hM.f.h3
 have a1:=hM.f.b1 (cb hM.w0)
 have a2:=hM.f.b2 (cb hM.w0)
 have lmd:=congrArg List.length hM.mk'
 rw [lm0] at lmd
 have ltl:(tlM AR).length<=AR.length:=List.length_filter_le _ _
 have lfn:=Paired.length h.fn
 have lown:(fP (aD (PL0++l.map aE)) md (tlM AR)).length<=8:=by
  unfold fP
  rw [la0,lm0,lm0]
  omega
 have it0:∀it∈md.map kI++(tlM AR).map kI++fns,zy it:=λit hit=>by
  rcases List.mem_append.mp hit with hit|hit
  ·rcases List.mem_append.mp hit with hit|hit
   ·obtain⟨q,hq,rfl⟩:=List.mem_map.mp hit
    have hk:q.1∈ba AR:=by rw [<-hM.mk'];exact List.mem_map.mpr ⟨q,hq,rfl⟩
    exact⟨dz (hM.f.hw _ hk),qH (oN hM.pl (hM.mx q hq))⟩
   ·obtain⟨q,hq,rfl⟩:=List.mem_map.mp hit
    have:=a1 q (List.mem_filter.mp hq).1
    exact⟨dz this.1,qH this.2⟩
  ·obtain⟨i,hi⟩:=List.getElem?_of_mem hit
   obtain⟨q,hq,ps,rfl,hps⟩:=aI h.fn hi
   obtain⟨g1,g2,g3⟩:=a2 q (List.mem_of_getElem? hq)
   refine⟨dz g1,?_,λp hp=>qH (g3 p.2 (List.mem_cons_of_mem _ (by rw [<-hps];exact List.mem_map.mpr ⟨p,hp,rfl⟩))),qH (g3 _ (List.mem_cons_self ..))⟩
   have:=congrArg List.length hps
   rw [lm0] at this
   omega
 rcases h.op with ⟨i,r,hr,e1,e2,e3⟩|⟨e1,e2,e3⟩
 ·-- one is opened
  have hrl:=List.mem_of_getElem? hr
  have hrow:=h.row r hrl
  have P:=hM.pl.row (aE r) (List.mem_append_right _ (List.mem_map.mpr ⟨r,hrl,rfl⟩))
  have k1:(aE r).2.1.map (·.1)=r.2.1.map (·.1):=d4 _ _
  have k2:(aE r).2.2.map (·.1)=r.2.2.map (·.1):=fQ _ _
  have d1:∀z∈(aE r).2.1.map (·.1),z∉AR.map (·.1):=λz hz=>by
   rw [k1] at hz
   rcases hrow.ks with ⟨g,_⟩|⟨g,_⟩
   ·rw [g] at hz
    exact xL h.fo.f0 h.s0 hM.f z hz
   ·rw [g] at hz
    exact xL h.fo.f1 h.s1 hM.f z hz
  have d2:((aE r).2.2.map (·.1)++BR.map (·.1)).Nodup:=by
   refine List.nodup_append.mpr ⟨P.nd2,hM.f.fu.2.1,λz hz y hy e=>?_⟩
   rw [k2] at hz
   rw [<-e] at hy
   rcases hrow.ks with ⟨_,g⟩|⟨_,g⟩
   ·rw [g] at hz
    exact xz h.fo.f0 h.s0 hM.f z hz hy
   ·rw [g] at hz
    exact xz h.fo.f1 h.s1 hM.f z hz hy
  have hl:look (PL0++l.map aE) r.1=some (aE r).2:=bu hM.pl.nd (List.mem_append_right _ (List.mem_map.mpr ⟨r,hrl,rfl⟩))
  have st:kc (PL0++l.map aE) 40 (.ok [] []) (.opn r.1)=.ok (aE r).2.1 (aE r).2.2:=by
   show(match look (PL0++l.map aE) r.1 with
    |none=>FR.ref 1
    |some r=>match bq [] r.1 with
     |none=>.ref 0
     |some n1=>match bq [] r.2 with
      |none=>.ref 0
      |some n2=>.ok n1 n2)=_
   rw [hl]
   show(match bq [] (aE r).2.1 with
     |none=>FR.ref 0
     |some n1=>match bq [] (aE r).2.2 with
      |none=>.ref 0
      |some n2=>.ok n1 n2)=_
   rw [iZ (aE r).2.1 [] (by rw [List.nil_append];exact P.nd1),iZ (aE r).2.2 [] (by rw [List.nil_append];exact P.nd2)]
   rfl
  have lr1:=P.l1
  have lr2:=P.l2
  refine⟨?_,?_,?_,λq hq=>?_,λq hq=>?_,λq hq=>by rw [e2];exact List.mem_append_right _ hq,λq hq=>by rw [e3];exact List.mem_append_right _ hq,by rw [e2,la0];omega,by rw [e3,la0,lm0];omega,?_,λit hit=>?_⟩
  ·rw [e1,e2,e3]
   unfold nE
   rw [List.foldl_cons,st]
   exact nL hM h.fn d1 P.nd1 d2
  ·rw [e2,ma0]
   exact List.nodup_append.mpr ⟨P.nd1,ond,λz hz y hy e=>d1 z hz (by rw [e];exact oin y hy)⟩
  ·rw [e3,ma0,fk]
   exact d2
  ·rw [e2] at hq
   rcases List.mem_append.mp hq with hq|hq
   ·exact⟨(P.b1 q hq).1,(P.b1 q hq).2.mono (by decide)⟩
   ·exact ub hM q hq
  ·rw [e3] at hq
   rcases List.mem_append.mp hq with hq|hq
   ·exact(P.b2.mono (by decide)) q hq
   ·exact vb hM q hq
  ·rw [e1,lc0,la0,la0,lm0,lm0]
   omega
  ·rw [e1] at hit
   rcases mc0 hit with rfl|hit
   ·exact dz P.w
   ·exact it0 it hit
 ·-- one kind more
  have w20:bg c 20∉(fP (aD (PL0++l.map aE)) md (tlM AR)).map (·.1):=λhz=>zj hM.f (oin _ hz)
  have run:=nL hM h.fn (b1:=[]) (b2:=[]) (λz hz=>absurd hz List.not_mem_nil) .nil (by rw [List.map_nil,List.nil_append];exact hM.f.fu.2.1)
  rw [List.nil_append,List.nil_append] at run
  refine⟨?_,?_,by rw [e3,fk];exact hM.f.fu.2.1,λq hq=>?_,by rw [e3];exact vb hM,λq hq=>by rw [e2];exact List.mem_append_left _ hq,λq hq=>by rw [e3];exact hq,by rw [e2,la0];show _+1<=20;omega,by rw [e3,lm0];omega,?_,λit hit=>?_⟩
  ·rw [e1,e2,e3,mv]
   unfold nE
   rw [run]
   show hU (PL0++l.map aE) 40 _ _ (.kind (bg c 20) (.num 6))=_
   show(match gq (tl (fP (aD (PL0++l.map aE)) md (tlM AR)) (PL0++l.map aE)) 40 (.num 6) with
    |.no c=>FR.ref c
    |.ok k'=>if bg c 20∈(fP (aD (PL0++l.map aE)) md (tlM AR)).map (λx:Str × Kd=>x.1) then .ref 0 else .ok (fP (aD (PL0++l.map aE)) md (tlM AR)++[(bg c 20,k')]) _)=_
   rw [pL (k':=.num 6) (λn hn=>absurd hn List.not_mem_nil) rfl (by show 1<=40;decide)]
   show(if bg c 20∈(fP (aD (PL0++l.map aE)) md (tlM AR)).map (λx:Str × Kd=>x.1) then FR.ref 0 else .ok (fP (aD (PL0++l.map aE)) md (tlM AR)++[(bg c 20,.num 6)]) _)=_
   rw [if_neg w20]
  ·rw [e2,ma0]
   exact List.nodup_append.mpr ⟨ond,List.nodup_cons.mpr ⟨List.not_mem_nil,.nil⟩,λz hz y hy e=>w20 (by rw [<-(List.mem_singleton.mp hy:y=bg c 20),<-e];exact hz)⟩
  ·rw [e2] at hq
   rcases List.mem_append.mp hq with hq|hq
   ·exact ub hM q hq
   ·rw [List.mem_singleton.mp hq]
    exact⟨oq _ _,⟨by decide,by decide⟩,by show 1<=18;decide⟩
  ·rw [e1,la0,la0,la0,lm0,lm0]
   show _+1<=20
   omega
  ·rw [e1] at hit
   rcases List.mem_append.mp hit with hit|hit
   ·exact it0 it hit
   ·rw [List.mem_singleton.mp hit]
    exact⟨dz (oq _ _),trivial,by show 1<=21;decide,.inr rfl⟩
abbrev Aq(z5 z7:Str)(fs:List (Str × (Str × am)))(sl:Option am)(its':List It):Dcl:=⟨z5,fs,sl.map λws=>(z7,ws),its'⟩
theorem vi(h:tQ fl PL0 c c2 sh0 sh1 W0 wd A0 A1 AR B0 B1 BR fs l md fns its' own' funs' z5 z7 sl)(hw:ws.Sublist md):dF fl (PL0++l.map aE) (z7,ws)=.ok (AR.map (cA (Gl (ws.map (aq (aD (PL0++l.map aE))))))) (BR.map (cq (Gl (ws.map (aq (aD (PL0++l.map aE))))))):=by
 have S:=vv h.m hw
 unfold dF
 rw [h.l7]
 refine(if_pos S.told).trans ?_
 rw [S.run]
theorem zk(h:tQ fl PL0 c c2 sh0 sh1 W0 wd A0 A1 AR B0 B1 BR fs l md fns its' own' funs' z5 z7 sl):DOk fl PL0 (Aq z5 z7 fs sl its')/\sU fl PL0 (Aq z5 z7 fs sl its')=.ok l (yc (PL0++l.map aE) AR own' BR funs' sl)/\AlM (yc (PL0++l.map aE) AR own' BR funs' sl).1 (yc (PL0++l.map aE) AR own' BR funs' sl).2:=by
 have hM:=h.m
 have FM:=A6 h
 have lA:=hM.f.l1
 have lB:=hM.f.fu.2.2.1
 have hfl:fs.length=l.length:=by
  have:=congrArg List.length h.inv.keys
  rw [lm0,lm0] at this
  exact this
 have h1:=FM.l1
 have h2:=FM.l2
 have hl4:=h.l4
 have hlp:=h.fo.lp
 have hnd:(PL0.map (·.1)++fs.map (·.1)).Nodup:=by
  have:=hM.pl.nd
  rw [ma0,List.map_map] at this
  rw [h.inv.keys]
  exact this
 have hpa:yx (PL0++l.map aE):=λr hr=>by
  have R:=hM.pl.row r hr
  refine⟨λq hq=>⟨dz (R.b1 q hq).1,fT (R.b1 q hq).2.1,by have:=bV (R.b1 q hq).2;omega⟩,λq hq=>⟨dz (R.b2 q hq).1,(R.b2 q hq).2.1,λk hk=>⟨fT ((R.b2 q hq).2.2 k hk).1,by have:=bV ((R.b2 q hq).2.2 k hk);omega⟩⟩,R.l1,R.l2,R.nd1,R.nd2,dz R.w⟩
 have rl:∀l',lR fl PL0 fs=.ok l'->l'=l:=λl' e=>by
  rw [h.inv.run] at e
  cases e
  rfl
 refine⟨⟨h.good,h.inv.sl,h.inv.rb,hnd,by omega,by show fs.length<=100;omega,FM.li,FM.it,λl' e=>by rw [rl l' e];exact hpa,λl' s e es=>?_,λl' s f1 f2 a1 a2 e ef es ew=>?_,h.w5⟩,?_,?_⟩
 ·rw [rl l' e]
  cases sl with
  |none=>cases es
  |some ws =>
   cases es
   have S:=vv hM (h.sub ws rfl)
   exact⟨dz h.w7,S.len,S.sl⟩
 ·rw [rl l' e] at ef ew
  cases sl with
  |none=>cases es
  |some ws =>
   cases es
   rw [vi h (h.sub ws rfl)] at ew
   have ef':FR.ok own' funs'=.ok f1 f2:=FM.run.symm.trans ef
   cases ew
   cases ef'
   exact(uY hM (h.sub ws rfl) FM.n1 FM.n2 FM.s1 FM.s2 FM.b1 FM.b2).2.1
 ·unfold sU
  show(match lR fl PL0 fs with
   |.ref c=>MR.ref c
   |.ok l=>match nE (PL0++l.map aE) 40 its' with
    |.ref c=>.ref c
    |.ok f1 f2=>mX fl (PL0++l.map aE) l f1 f2 (sl.map λws=>(z7,ws)))=_
  rw [h.inv.run]
  show(match nE (PL0++l.map aE) 40 its' with
    |.ref c=>MR.ref c
    |.ok f1 f2=>mX fl (PL0++l.map aE) l f1 f2 (sl.map λws=>(z7,ws)))=_
  rw [FM.run]
  show mX fl (PL0++l.map aE) l own' funs' (sl.map λws=>(z7,ws))=_
  cases hs:sl with
  |none=>rfl
  |some ws =>
   show(match dF fl (PL0++l.map aE) (z7,ws) with
    |.ref c=>MR.ref c
    |.ok a1 a2=>match tE own' a1 funs' a2 with
     |some r=>.unfit r
     |none=>.ok l (a1,a2))=_
   rw [vi h (h.sub ws hs)]
   show(match tE own' (AR.map (cA (Gl (ws.map (aq (aD (PL0++l.map aE))))))) funs' (BR.map (cq (Gl (ws.map (aq (aD (PL0++l.map aE))))))) with
     |some r=>MR.unfit r
     |none=>.ok l (_,_))=_
   rw [(uY hM (h.sub ws hs) FM.n1 FM.n2 FM.s1 FM.s2 FM.b1 FM.b2).1]
   rfl
 ·cases hs:sl with
  |none=>exact kz (by show own'.length<=100;omega) (by show funs'.length<=100;omega) FM.b1 FM.b2
  |some ws =>
   have F:=uY hM (h.sub ws hs) FM.n1 FM.n2 FM.s1 FM.s2 FM.b1 FM.b2
   exact kz (by show(AR.map _).length<=100;rw [lm0];omega) (by show(BR.map _).length<=100;rw [lm0];omega) F.2.2.1 F.2.2.2
end
abbrev lwN:List Str:=["_law_script","_law_words","_law_known","_law_names","_law_face_here","_law_second","_law_result","_law_formals_here","_law_wants","_law_got","_law_seal_here","_law_due","_law_declaration","_law_faces","_law_parts","_law_handed","_law_maker","_law_good"]
structure LSt(K:W.Frag)(H:Hp)(CF:Addr)(wa kn lw du dc ff pa fh sc re:Addr)(wd:List Str)(ys:List V)(l:aV)(D:Dcl)(fl PL0:aV)(K0 A0 A1 AR r1:am)(B0 B1 BR r2:aY):Prop where
 hwa:H wa=some (.lst (wd.map V.str))
 hkn:oX K H kn K0
 hlw:H lw=some (.lst ys)
 hys:Paired (ue K H) ys l
 hdu:iM K H du r1 r2
 hdc:sZ K H dc D
 hff:fL K H CF ff fl
 hpa:fL K H CF pa PL0
 hfh:iM K H fh A0 B0
 hsc:iM K H sc A1 B1
 hre:iM K H re AR BR
theorem sZ.same(e:ao H H')(h:sZ K H a D):sZ K H' a D:=by
 obtain⟨ta,ia,sv,xs,ys,h1,h2,h3,h4,h5,h6⟩:=h
 refine⟨ta,ia,sv,xs,ys,e.tup h1,e.tup h2,Paired.mapP h3 λ_ _ t=>t.same e,?_,e.tup h5,Paired.mapP h6 λ_ _ t=>t.same e⟩
 cases hs:D.sl with
 |none=>rw [hs] at h4;exact h4
 |some s=>rw [hs] at h4;exact jw.same e h4
section
variable{K:W.Frag}{H H':Hp}{CF wa kn lw du dc ff pa fh sc re:Addr}{wd:List Str}{ys:List V}{l:aV}{D:Dcl}{fl PL0:aV}{K0 A0 A1 AR r1:am}{B0 B1 BR r2:aY}
theorem LSt.same(e:ao H H')(h:LSt K H CF wa kn lw du dc ff pa fh sc re wd ys l D fl PL0 K0 A0 A1 AR r1 B0 B1 BR r2):LSt K H' CF wa kn lw du dc ff pa fh sc re wd ys l D fl PL0 K0 A0 A1 AR r1 B0 B1 BR r2 :=
 ⟨e _ _ h.hwa,h.hkn.same e,e _ _ h.hlw,Paired.mapP h.hys λ_ _ t=>t.same e,h.hdu.same e,h.hdc.same e,h.hff.same e,h.hpa.same e,h.hfh.same e,h.hsc.same e,h.hre.same e⟩
end
theorem eC.zo(h0:NtS H0 S)(s:ao H0 H)(hx:H0 x=none)(h:eC K H0 H CF x m1 m2):dQ K (zo H S) CF x m1 m2:=by
 obtain⟨dx,d1,d2,fs,kv1,kv2,n1,n2,_,hx',f1,f2,h1,h2,p1,p2,f3,f4⟩:=h
 have ne:∀b,H0 b=none->b∉S:=λb hb e=>by
  obtain⟨o,ho,_⟩:=h0 b e
  rw [hb] at ho
  cases ho
 have kp:∀a xs,SqT K H a xs->SqT K (K44.zo H S) a xs:=λa xs t=>gg (h0.same s) t
 exact⟨dx,d1,d2,fs,kv1,kv2,by rw [eI (ne x hx)];exact hx',f1,f2,by rw [eI (ne d1 n1)];exact h1,by rw [eI (ne d2 n2)];exact h2,p1.imp λ_ _ t=>aC kp t,p2.imp λ_ _ t=>t.keep kp,f3,f4⟩
theorem mQ(h:fL K H CF pa L)(hl:look L z=some r):∃pkv fa,H pa=some (.dK pkv)/\dC pkv (.inr z)=some (.ref fa)/\dQ K H CF fa r.1 r.2:=by
 obtain⟨pkv,h1,h2⟩:=h
 rcases cg h2 z with ⟨_,g2⟩|⟨v,x,g1,g2,fa,rfl,g3⟩
 ·rw [hl] at g2;cases g2
 ·rw [hl] at g2
  cases g2
  exact⟨pkv,fa,h1,g1,g3⟩
theorem pF(h:PyData.strOk z=true):SeqAt.shaped (.list [.str z])=true:=by
 unfold SeqAt.shaped
 have e1:PyData.canLay0 (.list [.str z])=true:=by simp only [PyData.canLay0,PyData.canLayAll0,h,Bool.and_self]
 have e2:PyData.depth (.list [.str z])<=64:=by
  simp only [PyData.depth,PyData.depthAll]
  omega
 rw [e1,dt0 e2]
 rfl
section
variable{P:Program}{w:World}{K:W.Frag}{mg:Str->Option Value}{base:Heap}
theorem fD:aG lwN ["_law_script"] (ae pS):=mkS
theorem Cp
    (GM:Ca P w K mg base 43 "_law_same" fm fdm smP (om K CF))
    (GT:Ca P w K mg base 44 "_law_told" ft fdt tlP (mH K CM CF))
    (GK:Ca P w K mg base 47 "maker_of" fk fdk mkP (iI K CF CM CN cl)) (mli:mg "list"=none) (md:mg "dict"=none)
    (cF:Cls K CF) (nK:aZ K CF "kinds") (cM:Cls K CM) (n1:aZ K CM "formals") (n2:aZ K CM "result")
 (hr:bZ 47 (A.deeper (PyProof.Rows.envOfC "law" (ae pS) s.heap.objs.size f cdv))) :
    ∃t,PSs (i6 CX0 P w K mg base lwN "law" (ae pS) f cdv A outer s H E).nox (List.drop 15 (aj pS)) t /\
      ∀(Q:VK) (H1:Hp) (a kv0 fo sl go:V) (wa kn lw du dc ff pa fh sc re:Addr) (wd:List Str) (ys:List V) (l:aV) (D:Dcl) (fl:aV) (K0 A0 A1 AR r1:am) (B0 B1 BR r2:aY) (W0 z6 z7 z12:Str) (x15 x16 x17:Option V),
        LSt K H1 CF wa kn lw du dc ff pa fh sc re wd ys l D fl [(W0,(K0,[]))] K0 A0 A1 AR r1 B0 B1 BR r2->wd[0]?=some W0->wd[6]?=some z6->wd[7]?=some z7->wd[12]?=some z12->look fl z6=some (A0,B0)->look fl z7=some (AR,BR)->look fl z12=some (A1,B1) ->
        DOk fl [(W0,(K0,[]))] D->sU fl [(W0,(K0,[]))] D=.ok l (r1,r2)->AlM r1 r2->(∀r∈l,AlM r.2.1 r.2.2)->l.length<=100->AlM K0 []->AlM A0 B0->AlM A1 B1->AlM AR BR->PyData.strOk W0=true->(∀H',Q (.bl true) H') ->
        t { nx:=λ_ H'=>Q .non H',rt:=Q } [some a,some (.ref wa),some (.ref kn),some kv0,some (.ref fh),some (.ref sc),some (.ref re),some fo,some (.ref lw),some go,some sl,some (.ref du),some (.ref dc),some (.ref ff),some (.ref pa),x15,x16,x17] H1:=by
  have hrM:bZ (42+1) _:=hr.mono (show 42+1<=47 by decide)
  have hrT:bZ 44 _:=hr.mono (show 44<=47 by decide)
  have hu:=hr.units
  have hu1:=dM hr
  refine⟨_,@pss_cons _ _ _ _ _ (aU (i:=15) fD.nd (bT (aQ d5 rfl md cJ (pv 13 >> ad) >> aQ d5 rfl md cJ (pv 14 >> ad) >> ad)))
    (aU (i:=16) fD.nd (cal GK hr (pv 12 >> aN aO (pv 15) ag (λ_ _=>rfl) >> aN aO (pv 15) ag (λ_ _=>rfl) >> ad)) <|> bh (jr PySem.F.plainAttrs_dict PySem.F.slot_dict_clear PySem.F.type_dict_clear jW (ix0 aO (pv 15) ag)) <|> bh (jr PySem.F.plainAttrs_dict PySem.F.slot_dict_clear PySem.F.type_dict_clear jW (ix0 aO (pv 15) ag)) <|> ce (iJ (L2.pt_val (cal GT hrT (pv 16 >> pv 8 >> pv 11 >> ad)))) (@ai _ _ _ (@aP _ _ _ _ ou)) aX <|> bh (jr PySem.F.plainAttrs_list PySem.F.slot_list_clear PySem.F.type_list_clear wN (bn (pv 16) rfl)) <|> bh (jr PySem.F.plainAttrs_dict PySem.F.slot_dict_clear PySem.F.type_dict_clear jW (bn (bn (pv 16) rfl) rfl)) <|> aU (i:=17) fD.nd (cal GT hrT (cal GK hr (pv 12 >> pv 13 >> pv 14 >> ad) >> pv 8 >> pv 11 >> ad)) <|> aU (i:=17) fD.nd (jy (pv 17) (jy (cal GM hrM (cV hu1 (pv 14) (ix0 aO (pv 1) ag) (λ_ _=>rfl) >> pv 2 >> bT ad >> ad)) (nW (jg (xS hu) (aQ (nV rfl) rfl mli nz (pv 14 >> ad)) (bT (aN aO (pv 1) ag (λ_ _=>rfl) >> ad)) (bd _))))) <|> aU (i:=17) fD.nd (jy (pv 17) (nW (cal GM hrM (cV hu1 (pv 13) (ix0 aO (pv 1) ag) (λ_ _=>rfl) >> aN ak (pv 5) ag (λ_ _=>rfl) >> aN ak (pv 5) ag (λ_ _=>rfl) >> ad)))) <|> @ai _ _ _ (@aP _ _ _ _ (jy (pv 17) (jy (cal GM hrM (cV hu1 (pv 13) (ix0 aO (pv 1) ag) (λ_ _=>rfl) >> aN ak (pv 4) ag (λ_ _=>rfl) >> aN ak (pv 4) ag (λ_ _=>rfl) >> ad)) (nW (cal GM hrM (cV hu1 (pv 13) (ix0 aO (pv 1) ag) (λ_ _=>rfl) >> aN ak (pv 6) ag (λ_ _=>rfl) >> aN ak (pv 6) ag (λ_ _=>rfl) >> ad))))))),?_⟩
  intro Q H1 a kv0 fo sl go wa kn lw du dc ff pa fh sc re wd ys l D fl K0 A0 A1 AR r1 B0 B1 BR r2 W0 z6 z7 z12 x15 x16 x17 hL hw0 hw6 hw7 hw12 lk6 lk7 lk12 hD hmk ha hal hl100 haK haA haB haR sW0 q
  have at0:atI (wd.map V.str) 0=some (.str W0):=bE (j:=0) (by rw [List.getElem?_map,hw0];rfl)
  have at6:atI (wd.map V.str) 6=some (.str z6):=bE (j:=6) (by rw [List.getElem?_map,hw6];rfl)
  have at7:atI (wd.map V.str) 7=some (.str z7):=bE (j:=7) (by rw [List.getElem?_map,hw7];rfl)
  have at12:atI (wd.map V.str) 12=some (.str z12):=bE (j:=12) (by rw [List.getElem?_map,hw12];rfl)
  obtain⟨fkv,hff,hfp⟩:=id hL.hff
  obtain⟨pkv,hpa,hpp⟩:=id hL.hpa
  refine⟨_,rfl,ff,fkv,rfl,hff,λh1 hh1=>?_⟩
  have u1:=ac hh1 (.dK fkv)
  refine⟨_,rfl,pa,pkv,rfl,u1 _ _ hpa,λh2 hh2=>?_⟩
  have u2:=ac hh2 (.dK pkv)
  refine⟨(sz 2),λhd hhd=>?_⟩
  have u3:=ac hhd (.lst [.ref h1,.ref h2])
  have u23:=u2.trans u3
  have s3:=u1.trans u23
  have hh20:H1 h2=none:=u1.free hh2
  have n12:h1≠h2:=λe=>by rw [<-e,aa] at hh2;cases hh2
  have e1:=u23 _ _ (show upd H1 h1 (.dK fkv) h1=some (.dK fkv) from aa)
  have e2:=u3 _ _ (show upd (upd H1 h1 (.dK fkv)) h2 (.dK pkv) h2=some (.dK pkv) from aa)
  have e3:upd (upd (upd H1 h1 (.dK fkv)) h2 (.dK pkv)) hd (.lst [.ref h1,.ref h2]) hd=some (.lst [.ref h1,.ref h2]):=aa
  revert s3 e1 e2 e3
  generalize upd (upd (upd H1 h1 (.dK fkv)) h2 (.dK pkv)) hd (.lst [.ref h1,.ref h2])=H2
  intro s3 e1 e2 e3
  clear u1 u2 u3 u23 hh2 hhd
  have nt2:NtS H2 [h1,h2]:=aS e1 gW (aS e2 gW eX)
  have P1:fL K H2 CF h1 fl:=⟨fkv,e1,hfp.imp λv r ⟨fa,e,t⟩=>⟨fa,e,t.same s3⟩⟩
  have P2:fL K H2 CF h2 [(W0,(K0,[]))]:=⟨pkv,e2,hpp.imp λv r ⟨fa,e,t⟩=>⟨fa,e,t.same s3⟩⟩
  refine⟨_,rfl,_,rfl,hd,_,_,_,rfl,rfl,SqL.of e3,(show atI [V.ref h1,.ref h2] 0=some (.ref h1) from rfl),_,rfl,hd,_,_,_,rfl,rfl,SqL.of e3,(show atI [V.ref h1,.ref h2] 1=some (.ref h2) from rfl),dc,h1,h2,D,fl,[(W0,(K0,[]))],rfl,hL.hdc.same s3,P1,P2,hD,?_⟩
  rw [hmk]
  intro H4 x s4 hx0 hMk
  obtain⟨dx,la,rf,fs,zs,nla,nrf,nlr,hx,lf,lr,hla,hzs,hRf⟩:=hMk
  refine⟨_,rfl,hd,_,_,_,rfl,rfl,SqL.of (s4 _ _ e3),(show atI [V.ref h1,.ref h2] 0=some (.ref h1) from rfl),.inr (.inr (.inl ⟨rfl,.inl ⟨_,s4 _ _ e1⟩⟩)),h1,fkv,rfl,rfl,s4 _ _ e1,?_⟩
  have hd5:upd H4 h1 (.dK []) hd=some (.lst [.ref h1,.ref h2]):=by rw [ah (λe=>by rw [e,e1] at e3;cases e3)];exact s4 _ _ e3
  have h25:upd H4 h1 (.dK []) h2=some (.dK pkv):=by rw [ah (Ne.symm n12)];exact s4 _ _ e2
  refine⟨_,rfl,hd,_,_,_,rfl,rfl,SqL.of hd5,(show atI [V.ref h1,.ref h2] 1=some (.ref h2) from rfl),.inr (.inr (.inl ⟨rfl,.inl ⟨_,h25⟩⟩)),h2,pkv,rfl,rfl,h25,?_⟩
  have z6':zo (upd (upd H4 h1 (.dK [])) h2 (.dK [])) [h1,h2]=zo H4 [h1,h2]:=(gm (by simp)).trans (gm (by simp))
  have nS:∀b,H2 b=none->b∉[h1,h2]:=λb hb e=>by
    obtain⟨o,ho,_⟩:=nt2 b e
    rw [hb] at ho
    cases ho
  have nt4:=nt2.same s4
  have mz:jc K (zo H4 [h1,h2]) CM CF x l r1 r2:=⟨dx,la,rf,fs,zs,by rw [eI (nS x hx0)];exact hx,lf,lr,by rw [eI (nS la nla)];exact hla,Paired.mapP hzs λ_ _ ⟨p,fa,e,g1,g2,g3⟩=>⟨p,fa,e,SqT.of (ej nt4 g1),g3.zo nt2 s4 g2⟩,hRf.zo nt2 s4 nrf⟩
  have z1:ao H1 (zo H4 [h1,h2]):=uJ (s3.trans s4) (gN hh1 hh20)
  obtain⟨dxr,d1,d2,fsr,kv1,kv2,nd1,nd2,_,hrf,lk,_,hd1,_⟩:=hRf
  have frf:zo H4 [h1,h2] rf=some (.ins CF dxr fsr):=by rw [eI (nS rf nrf)];exact hrf
  have fd1:zo H4 [h1,h2] d1=some (.dK kv1):=by rw [eI (nS d1 nd1)];exact hd1
  have fx:zo H4 [h1,h2] x=some (.ins CM dx fs):=by rw [eI (nS x hx0)];exact hx
  have fla:zo H4 [h1,h2] la=some (.lst zs):=by rw [eI (nS la nla)];exact hla
  have z46:ao (zo H4 [h1,h2]) (upd (upd H4 h1 (.dK [])) h2 (.dK [])):=by rw [<-z6'];exact bo
  revert z46
  generalize upd (upd H4 h1 (.dK [])) h2 (.dK [])=H6
  intro z46
  have L6:=hL.same (z1.trans z46)
  refine⟨_,rfl,_,rfl,_,rfl,x,lw,du,l,r1,r2,ys,rfl,mz.same z46,L6.hlw,L6.hys,L6.hdu,ha,hal,hl100,λH7 s7=>⟨true,rfl,nA ?_⟩⟩
  have z7':=z46.trans s7
  refine⟨_,rfl,x,CM,dx,fs,_,rfl,z7' _ _ fx,cM,n1,lf,.inl ⟨rfl,_,SqL.of (z7' _ _ fla)⟩,la,zs,rfl,rfl,z7' _ _ fla,?_⟩
  have ul:∀{b:Addr} {o:HO},H7 b=some o->b≠la->upd H7 la (.lst []) b=some o:=λh ne=>by rw [ah ne];exact h
  have x8:=ul (z7' _ _ fx) (λe=>by rw [e,fla] at fx;cases fx)
  have rf8:=ul (z7' _ _ frf) (λe=>by rw [e,fla] at frf;cases frf)
  have d8:=ul (z7' _ _ fd1) (λe=>by rw [e,fla] at fd1;cases fd1)
  refine⟨_,rfl,x,CM,dx,fs,_,rfl,x8,cM,n2,lr,rf,CF,dxr,fsr,_,rfl,rf8,cF,nK,lk,.inr (.inr (.inl ⟨rfl,.inl ⟨_,d8⟩⟩)),d1,kv1,rfl,rfl,d8,?_⟩
  have la1:H1 la=none:=s3.free nla
  have d11:H1 d1=none:=s3.free nd1
  have s9:ao H1 (upd (upd H7 la (.lst [])) d1 (.dK [])):=kE (kE (z1.trans z7') la1) d11
  revert s9
  generalize upd (upd H7 la (.lst [])) d1 (.dK [])=H9
  intro s9
  clear d8 rf8 x8 ul
  have L9:=hL.same s9
  refine⟨_,rfl,_,rfl,_,rfl,dc,ff,pa,D,fl,[(W0,(K0,[]))],rfl,L9.hdc,L9.hff,L9.hpa,hD,?_⟩
  rw [hmk]
  intro H10 y s10 hy0 hMk2
  have s110:=s9.trans s10
  have L10:=hL.same s110
  refine⟨_,rfl,_,rfl,y,lw,du,l,r1,r2,ys,rfl,hMk2.at,L10.hlw,L10.hys,L10.hdu,ha,hal,hl100,λH11 s11=>?_⟩
  have s111:=s110.trans s11
  have L11:=hL.same s111
  obtain⟨pk,pf,gp1,gp2,gp3⟩:=mQ (z:=W0) L11.hpa (by rw [cL,if_pos rfl])
  refine⟨_,rfl,true,rfl,oZ ?_⟩
  refine⟨_,rfl,_,rfl,wa,_,_,_,rfl,rfl,SqL.of L11.hwa,at0,pa,.ref pf,rfl,gp2▸gj.k (k:=.inr W0) gp1,_,rfl,(sz 0),λq0 hq0=>?_⟩
  have v1:=ac hq0 (.lst [])
  refine⟨pf,kn,q0,K0,[],rfl,gp3.same v1,L11.hkn.same v1,⟨[],aa,.nil⟩,haK,λH12 s12=>⟨true,rfl,oZ ?_⟩⟩
  have s112:=s111.trans (v1.trans s12)
  have L12:=hL.same s112
  have hpk:pkv.map (λp=>kV p.1)=[.str W0]:=by
    cases hpp with
    | cons h1 t =>
      cases t
      rw [List.map_cons,List.map_nil,h1.1]
      rfl
  refine⟨_,rfl,pa,pkv,rfl,s112 _ _ hpa,λl6 hl6=>?_⟩
  rw [hpk]
  have u9:=ac hl6 (.lst [.str W0])
  refine⟨_,rfl,wa,_,_,_,rfl,rfl,SqL.of (u9 _ _ L12.hwa),at0,(sz 1),λl7 hl7=>?_⟩
  have u10:=ac hl7 (.lst [.str W0])
  have shp:SeqAt.shaped (.list [.str W0])=true:=pF sW0
  refine⟨.list [.str W0],.list [.str W0],.lst (SqL.of (u10 _ _ aa)) (.cons (.str _) .nil),.lst (SqL.of aa) (.cons (.str _) .nil),shp,shp,?_⟩
  have ee:PyData.eqv (.list [.str W0]) (.list [.str W0])=true:=by rw [yj,br,ed,iH,dt0 rfl];rfl
  have ee':(if false=true then !PyData.eqv (.list [.str W0]) (.list [.str W0]) else PyData.eqv (.list [.str W0]) (.list [.str W0]))=true:=ee
  rw [ee']
  have s113:=s112.trans (u9.trans u10)
  have L13:=hL.same s113
  revert s113 L13
  generalize upd (upd H12 l6 (.lst [.str W0])) l7 (.lst [.str W0])=H13
  intro s113 L13
  obtain⟨fk1,ff1,gf1,gf2,gf3⟩:=mQ (z:=z12) L13.hff lk12
  obtain⟨c1,c2,hc,hc1,hc2⟩:=id L13.hsc
  refine⟨_,rfl,true,rfl,oZ ?_⟩
  refine⟨_,rfl,_,rfl,wa,_,_,_,rfl,rfl,SqL.of L13.hwa,at12,ff,.ref ff1,rfl,gf2▸gj.k (k:=.inr z12) gf1,_,rfl,sc,_,_,_,rfl,rfl,SqT.of hc,(show atI [V.ref c1,.ref c2] 0=some (.ref c1) from rfl),_,rfl,sc,_,_,_,rfl,rfl,SqT.of hc,(show atI [V.ref c1,.ref c2] 1=some (.ref c2) from rfl),ff1,c1,c2,A1,B1,rfl,gf3,hc1,hc2,haB,λH14 s14=>?_⟩
  have L14:=L13.same s14
  obtain⟨fk2,ff2,gg1,gg2,gg3⟩:=mQ (z:=z6) L14.hff lk6
  obtain⟨e1',e2',he,he1,he2⟩:=id L14.hfh
  refine⟨_,rfl,true,rfl,oZ ?_⟩
  refine⟨_,rfl,_,rfl,wa,_,_,_,rfl,rfl,SqL.of L14.hwa,at6,ff,.ref ff2,rfl,gg2▸gj.k (k:=.inr z6) gg1,_,rfl,fh,_,_,_,rfl,rfl,SqT.of he,(show atI [V.ref e1',.ref e2'] 0=some (.ref e1') from rfl),_,rfl,fh,_,_,_,rfl,rfl,SqT.of he,(show atI [V.ref e1',.ref e2'] 1=some (.ref e2') from rfl),ff2,e1',e2',A0,B0,rfl,gg3,he1,he2,haA,λH15 s15=>⟨true,rfl,oZ ?_⟩⟩
  have L15:=L14.same s15
  obtain⟨fk3,ff3,gh1,gh2,gh3⟩:=mQ (z:=z7) L15.hff lk7
  obtain⟨i1,i2,hi,hi1,hi2⟩:=id L15.hre
  exact⟨_,rfl,_,rfl,wa,_,_,_,rfl,rfl,SqL.of L15.hwa,at7,ff,.ref ff3,rfl,gh2▸gj.k (k:=.inr z7) gh1,_,rfl,re,_,_,_,rfl,rfl,SqT.of hi,(show atI [V.ref i1,.ref i2] 0=some (.ref i1) from rfl),_,rfl,re,_,_,_,rfl,rfl,SqT.of hi,(show atI [V.ref i1,.ref i2] 1=some (.ref i2) from rfl),ff3,i1,i2,AR,BR,rfl,gh3,hi1,hi2,haR,λH16 s16=>q _⟩
theorem Au(h1:b≠a):gp [] [(a,x),(b,y)]=[(a,x),(b,y)]:=by
 show cI (cI [] a x) b y=_
 have v1:∀{j:Key},dC (cI [] a x) j=if j=a then some x else none:=λ{j}=>(gC [] a j x).trans rfl
 have e1:cI [] a x=[(a,x)]:=iL x rfl
 rw [iL y (by rw [v1,if_neg h1]),e1]
 rfl
theorem CV
    (GM:Ca P w K mg base 43 "_law_same" fm fdm smP (om K CF))
    (GT:Ca P w K mg base 44 "_law_told" ft fdt tlP (mH K CM CF))
    (GK:Ca P w K mg base 47 "maker_of" fk fdk mkP (iI K CF CM CN cl)) (mli:mg "list"=none) (md:mg "dict"=none) (mt:mg "tuple"=none)
    (cF:Cls K CF) (nK:aZ K CF "kinds") (cM:Cls K CM) (n1:aZ K CM "formals") (n2:aZ K CM "result")
    (GI:cE P w K mg base CX0 1 fi fdi ["self","kinds","funs"] (gY CF)) (bI:cU K fdi ["self","kinds","funs"] []) (MF:Mk K CF fi) (mCF:mg "Face"=some (.ref CF))
 (hr:bZ 47 (A.deeper (PyProof.Rows.envOfC "law" (ae pS) s.heap.objs.size f cdv))) :
    ∃t,PSs (i6 CX0 P w K mg base lwN "law" (ae pS) f cdv A outer s H E).nox (List.drop 11 (aj pS)) t /\
      ∀(Q:VK) (H1:Hp) (a kv0 sv:V) (wa kn lw du tf gt li lo lf dm fh sc re:Addr) (wd:List Str) (ys xs xs':List V) (l PL0:aV) (fl:aV) (c c2 sh0 sh1:Int) (K0 A0 A1 AR own':am) (B0 B1 BR funs':aY) (fs:List (Str × (Str × am))) (mdr:am) (fns its':List It) (sl:Option am) (W0 z5 z6 z7 z12:Str) (x12 x13 x14 x15 x16 x17:Option V),
        tQ fl PL0 c c2 sh0 sh1 W0 wd A0 A1 AR B0 B1 BR fs l mdr fns its' own' funs' z5 z7 sl->fl=[(z6,(A0,B0)),(z7,(AR,BR)),(z12,(A1,B1))]->PL0=[(W0,(K0,[]))] ->
        wd[0]?=some W0->wd[5]?=some z5->wd[6]?=some z6->wd[7]?=some z7->wd[12]?=some z12->z7≠z6->z12≠z6->z12≠z7 ->
        H1 wa=some (.lst (wd.map V.str))->oX K H1 kn K0->H1 lw=some (.lst ys)->Paired (ue K H1) ys l->iM K H1 du (yc (PL0++l.map aE) AR own' BR funs' sl).1 (yc (PL0++l.map aE) AR own' BR funs' sl).2->H1 tf=some (.tup xs)->Paired (vL K H1) xs fs ->
        H1 gt=some (.tup [.ref li,.ref lo,.ref lf,.ref dm])->H1 li=some (.lst xs')->Paired (oH K H1) xs' its'->B7 K H1 sv (sl.map λws=>(z7,ws))->iM K H1 fh A0 B0->iM K H1 sc A1 B1->iM K H1 re AR BR->(K0.map (·.1)).Nodup->K0.length<=2->AlM K0 []->(∀H',Q (.bl true) H') ->
        t { nx:=λ_ H'=>Q .non H',rt:=Q } [some a,some (.ref wa),some (.ref kn),some kv0,some (.ref fh),some (.ref sc),some (.ref re),some (.ref tf),some (.ref lw),some (.ref gt),some sv,some (.ref du),x12,x13,x14,x15,x16,x17] H1:=by
  have hr2:bZ (1+1) _:=hr.mono (show 1+1<=47 by decide)
  have hu64:=hr.units
  have hu1:=dM hr
  obtain⟨t15,d15,k15⟩:=Cp (outer:=outer) (H:=H) (E:=E) GM GT GK mli md cF nK cM n1 n2 hr
  refine⟨_,@pss_cons _ _ _ _ _ (aU (i:=12) fD.nd (@az _ _ _ _ _ (aJ >> aN aO (pv 1) ag (λ_ _=>rfl) >> pv 7 >> pv 10 >> aQ bj rfl mt bF (aN ak (pv 9) ag (λ_ _=>rfl) >> ad) >> ad)))
    (aU (i:=13) fD.nd (uh (nw (ix0 aO (pv 1) ag) (eO MF GI hr2 (by rfl) mCF bI .nil d9 (aQ (bD rfl (Nat.lt_of_le_of_lt (Nat.add_le_add_left (by decide) _) hu64)) rfl md cJ (aN ak (pv 4) ag (λ_ _=>rfl) >> ad) >> aQ (bD rfl (Nat.lt_of_le_of_lt (Nat.add_le_add_left (by decide) _) hu64)) rfl md cJ (aN ak (pv 4) ag (λ_ _=>rfl) >> ad) >> ad)) (nw (ix0 aO (pv 1) ag) (eO MF GI hr2 (by rfl) mCF bI .nil d9 (aQ (bD rfl (Nat.lt_of_le_of_lt (Nat.add_le_add_left (by decide) _) hu64)) rfl md cJ (aN ak (pv 6) ag (λ_ _=>rfl) >> ad) >> aQ (bD rfl (Nat.lt_of_le_of_lt (Nat.add_le_add_left (by decide) _) hu64)) rfl md cJ (aN ak (pv 6) ag (λ_ _=>rfl) >> ad) >> ad)) uc)) rfl rfl (by intro e;cases e) (by decide)) <|> dj hu1 (pv 13) (ix0 aO (pv 1) ag) (eO MF GI hr2 (by rfl) mCF bI .nil d9 (aQ (bD rfl (Nat.lt_of_le_of_lt (Nat.add_le_add_left (by decide) _) hu64)) rfl md cJ (aN ak (pv 5) ag (λ_ _=>rfl) >> ad) >> aQ (bD rfl (Nat.lt_of_le_of_lt (Nat.add_le_add_left (by decide) _) hu64)) rfl md cJ (aN ak (pv 5) ag (λ_ _=>rfl) >> ad) >> ad)) rfl <|> aU (i:=14) fD.nd (uh (nw (ix0 aO (pv 1) ag) (eO MF GI hr2 (by rfl) mCF bI .nil d9 (aQ (bD rfl (Nat.lt_of_le_of_lt (Nat.add_le_add_left (by decide) _) hu64)) rfl md cJ (pv 2 >> ad) >> fY >> ad)) uc) rfl rfl (by intro e;cases e) (by decide)) <|> d15),?_⟩
  intro Q H1 a kv0 sv wa kn lw du tf gt li lo lf dm fh sc re wd ys xs xs' l PL0 fl c c2 sh0 sh1 K0 A0 A1 AR own' B0 B1 BR funs' fs mdr fns its' sl W0 z5 z6 z7 z12 x12 x13 x14 x15 x16 x17 hAll hfl hPL hw0 hw5 hw6 hw7 hw12 n76 n126 n127 hwa hkn hlw hys hdu htf hxs hgt hli hit hsv hfh hsc hre ndK lK haK q
  have at0:atI (wd.map V.str) 0=some (.str W0):=bE (j:=0) (by rw [List.getElem?_map,hw0];rfl)
  have at5:atI (wd.map V.str) 5=some (.str z5):=bE (j:=5) (by rw [List.getElem?_map,hw5];rfl)
  have at6:atI (wd.map V.str) 6=some (.str z6):=bE (j:=6) (by rw [List.getElem?_map,hw6];rfl)
  have at7:atI (wd.map V.str) 7=some (.str z7):=bE (j:=7) (by rw [List.getElem?_map,hw7];rfl)
  have at12:atI (wd.map V.str) 12=some (.str z12):=bE (j:=12) (by rw [List.getElem?_map,hw12];rfl)
  have f0:=hAll.fo.f0
  have f1:=hAll.fo.f1
  have fR:=hAll.m.f
  have l01:=f0.l1
  have l02:=f0.fu.2.2.1
  have l11:=f1.l1
  have l12:=f1.fu.2.2.1
  have lR1:=fR.l1
  have lR2:=fR.fu.2.2.1
  refine⟨_,rfl,wa,_,_,_,rfl,rfl,SqL.of hwa,at5,_,rfl,_,rfl,_,rfl,gt,_,_,_,rfl,rfl,SqT.of hgt,(show atI [V.ref li,.ref lo,.ref lf,.ref dm] 0=some (.ref li) from rfl),li,xs',rfl,.inl ⟨SqL.of hli,λti hti=>?_⟩⟩
  have u1:=ac hti (.tup xs')
  refine⟨(sz 5),λdc hdc=>?_⟩
  have u2:=ac hdc (.tup [.str "maker",.str z5,.ref tf,sv,.ref ti])
  have s2:=u1.trans u2
  have hDc:sZ K (upd (upd H1 ti (.tup xs')) dc (.tup [.str "maker",.str z5,.ref tf,sv,.ref ti])) dc (Aq z5 z7 fs sl its'):=by
    refine⟨tf,ti,sv,xs,xs',SqT.of aa,SqT.of (s2 _ _ htf),Paired.mapP hxs λ_ _ t=>t.same s2,?_,SqT.of (u2 _ _ aa),Paired.mapP hit λ_ _ t=>t.same s2⟩
    cases hs:sl with
    | none=>rw [hs] at hsv;exact hsv
    | some ws=>rw [hs] at hsv;exact jw.same s2 hsv
  revert s2 hDc
  generalize upd (upd H1 ti (.tup xs')) dc (.tup [.str "maker",.str z5,.ref tf,sv,.ref ti])=H2
  intro s2 hDc
  clear u1 u2 hti hdc
  intro pp hpp
  have w1:=ac hpp (.dK [])
  have p1:upd H2 pp (.dK []) pp=some (.dK []):=aa
  have z0:ao H2 (wo (upd H2 pp (.dK [])) pp):=by rw [dY,jf hpp];exact ao.refl _
  revert w1 p1 z0
  generalize upd H2 pp (.dK [])=B1'
  intro w1 p1 z0
  have s21:=s2.trans w1
  refine⟨_,rfl,wa,_,_,_,rfl,rfl,SqL.of (s21 _ _ hwa),at6,?_⟩
  obtain⟨a_k1,a_k2,a_hk,a_R1,a_R2⟩:=hfh.same s21
  obtain⟨a_as1,a_ps1,a_hl1,a_hp1,a_hn1,a_hk1⟩:=me a_R1 f0.nd1
  refine⟨_,rfl,fh,_,_,_,rfl,rfl,SqT.of a_hk,(show atI [V.ref a_k1,.ref a_k2] 0=some (.ref a_k1) from rfl),a_k1,a_as1,a_ps1,rfl,a_hl1,a_hp1,Nat.lt_of_lt_of_le (Nat.lt_succ_self _) (bJ (by omega)),λa_d1 a_hd1=>?_⟩
  have a_w2:=ac a_hd1 (.dK (cH [] a_ps1))
  obtain⟨a_as2,a_ps2,a_hl2,a_hp2,a_hn2,a_hk2⟩:=pY (a_R2.same a_w2) f0.fu.2.1
  refine⟨_,rfl,fh,_,_,_,rfl,rfl,SqT.of (a_w2 _ _ a_hk),(show atI [V.ref a_k1,.ref a_k2] 1=some (.ref a_k2) from rfl),a_k2,a_as2,a_ps2,rfl,a_hl2,a_hp2,Nat.lt_of_lt_of_le (Nat.lt_succ_self _) (bJ (by omega)),λa_d2 a_hd2=>?_⟩
  have a_w3:=ac a_hd2 (.dK (cH [] a_ps2))
  have a_w23:=a_w2.trans a_w3
  have a_e1:=a_w3 _ _ (show upd B1' a_d1 (.dK (cH [] a_ps1)) a_d1=some (.dK (cH [] a_ps1)) from aa)
  have a_e2:upd (upd B1' a_d1 (.dK (cH [] a_ps1))) a_d2 (.dK (cH [] a_ps2)) a_d2=some (.dK (cH [] a_ps2)):=aa
  have a_hpp:=a_w23 _ _ p1
  have a_q1:=a_hk1.imp λv y h=>bK.same a_w23 h
  have a_q2:=a_hk2.imp λv y h=>cY.keep (λ_ _ t=>a_w3.tup t) h
  revert a_w23 a_e1 a_e2 a_hpp a_q1 a_q2
  generalize upd (upd B1' a_d1 (.dK (cH [] a_ps1))) a_d2 (.dK (cH [] a_ps2))=a_C
  intro a_w23 a_e1 a_e2 a_hpp a_q1 a_q2
  clear a_w2 a_w3 a_hk1 a_hk2 a_hd1 a_hd2
  intro xa a_dx a_nx a_ndx a_nex
  have a_nx':upd a_C a_dx (.own xa) xa=none:=by rw [ah (Ne.symm a_nex)];exact a_nx
  have a_eab:=(ac a_ndx (.own xa)).trans (ac a_nx' (.ins CF a_dx []))
  refine⟨xa,a_dx,a_d1,a_d2,_,_,rfl,aa,a_eab _ _ a_e1,a_eab _ _ a_e2,λa_d a_e a_fs B2 a_hd a_he a_nde a_hx a_lk a_lf a_lh a_lp a_hd7 a_he7 a_keep=>⟨rfl,?_⟩⟩
  obtain⟨a_s7,a_hN⟩:=gA (p:=pp) (λb hb e=>(by rw [<-e,hb] at a_hpp;cases a_hpp)) a_nx a_ndx a_nex (a_q1.imp λ_ _ h=>aC (λ_ _ t=>gO a_hpp gW t) h) (a_q2.imp λ_ _ h=>h.keep λ_ _ t=>gO a_hpp gW t) a_hd a_he a_nde a_hx a_lk a_lf a_lh a_lp a_hd7 a_he7 a_keep
  have a_F:=a_hN.face
  have a_s:=a_w23.trans a_s7
  have a_p7:=a_s7 _ _ a_hpp
  clear a_hN a_hd a_he a_nde a_hx a_lk a_lf a_lh a_lp a_hd7 a_he7 a_keep a_eab a_nx' a_nx a_ndx a_nex a_q1 a_q2 a_e1 a_e2
  have s22:=s21.trans a_s
  refine⟨_,rfl,wa,_,_,_,rfl,rfl,SqL.of (s22 _ _ hwa),at7,?_⟩
  obtain⟨b_k1,b_k2,b_hk,b_R1,b_R2⟩:=hre.same s22
  obtain⟨b_as1,b_ps1,b_hl1,b_hp1,b_hn1,b_hk1⟩:=me b_R1 fR.nd1
  refine⟨_,rfl,re,_,_,_,rfl,rfl,SqT.of b_hk,(show atI [V.ref b_k1,.ref b_k2] 0=some (.ref b_k1) from rfl),b_k1,b_as1,b_ps1,rfl,b_hl1,b_hp1,Nat.lt_of_lt_of_le (Nat.lt_succ_self _) (bJ (by omega)),λb_d1 b_hd1=>?_⟩
  have b_w2:=ac b_hd1 (.dK (cH [] b_ps1))
  obtain⟨b_as2,b_ps2,b_hl2,b_hp2,b_hn2,b_hk2⟩:=pY (b_R2.same b_w2) fR.fu.2.1
  refine⟨_,rfl,re,_,_,_,rfl,rfl,SqT.of (b_w2 _ _ b_hk),(show atI [V.ref b_k1,.ref b_k2] 1=some (.ref b_k2) from rfl),b_k2,b_as2,b_ps2,rfl,b_hl2,b_hp2,Nat.lt_of_lt_of_le (Nat.lt_succ_self _) (bJ (by omega)),λb_d2 b_hd2=>?_⟩
  have b_w3:=ac b_hd2 (.dK (cH [] b_ps2))
  have b_w23:=b_w2.trans b_w3
  have b_e1:=b_w3 _ _ (show upd B2 b_d1 (.dK (cH [] b_ps1)) b_d1=some (.dK (cH [] b_ps1)) from aa)
  have b_e2:upd (upd B2 b_d1 (.dK (cH [] b_ps1))) b_d2 (.dK (cH [] b_ps2)) b_d2=some (.dK (cH [] b_ps2)):=aa
  have b_hpp:=b_w23 _ _ a_p7
  have b_q1:=b_hk1.imp λv y h=>bK.same b_w23 h
  have b_q2:=b_hk2.imp λv y h=>cY.keep (λ_ _ t=>b_w3.tup t) h
  revert b_w23 b_e1 b_e2 b_hpp b_q1 b_q2
  generalize upd (upd B2 b_d1 (.dK (cH [] b_ps1))) b_d2 (.dK (cH [] b_ps2))=b_C
  intro b_w23 b_e1 b_e2 b_hpp b_q1 b_q2
  clear b_w2 b_w3 b_hk1 b_hk2 b_hd1 b_hd2
  intro xb b_dx b_nx b_ndx b_nex
  have b_nx':upd b_C b_dx (.own xb) xb=none:=by rw [ah (Ne.symm b_nex)];exact b_nx
  have b_eab:=(ac b_ndx (.own xb)).trans (ac b_nx' (.ins CF b_dx []))
  refine⟨xb,b_dx,b_d1,b_d2,_,_,rfl,aa,b_eab _ _ b_e1,b_eab _ _ b_e2,λb_d b_e b_fs B3 b_hd b_he b_nde b_hx b_lk b_lf b_lh b_lp b_hd7 b_he7 b_keep=>⟨rfl,?_⟩⟩
  obtain⟨b_s7,b_hN⟩:=gA (p:=pp) (λb hb e=>(by rw [<-e,hb] at b_hpp;cases b_hpp)) b_nx b_ndx b_nex (b_q1.imp λ_ _ h=>aC (λ_ _ t=>gO b_hpp gW t) h) (b_q2.imp λ_ _ h=>h.keep λ_ _ t=>gO b_hpp gW t) b_hd b_he b_nde b_hx b_lk b_lf b_lh b_lp b_hd7 b_he7 b_keep
  have b_F:=b_hN.face
  have b_s:=b_w23.trans b_s7
  have b_p7:=b_s7 _ _ b_hpp
  clear b_hN b_hd b_he b_nde b_hx b_lk b_lf b_lh b_lp b_hd7 b_he7 b_keep b_eab b_nx' b_nx b_ndx b_nex b_q1 b_q2 b_e1 b_e2
  have s23:=s22.trans b_s
  refine⟨b_p7,[(.inr z6,.ref xa),(.inr z7,.ref xb)],rfl,by show 2<=15;decide,?_⟩
  rw [Au (λe=>n76 (Sum.inr.inj e))]
  have zA:dQ K (wo B3 pp) CF xa A0 B0:=a_F.same (bc b_s)
  have y3:wo (upd B3 pp (.dK [(.inr z6,.ref xa),(.inr z7,.ref xb)])) pp=wo B3 pp:=dY
  have z3:ao H2 (wo (upd B3 pp (.dK [(.inr z6,.ref xa),(.inr z7,.ref xb)])) pp):=by rw [y3];exact z0.trans ((bc a_s).trans (bc b_s))
  have FA:dQ K (wo (upd B3 pp (.dK [(.inr z6,.ref xa),(.inr z7,.ref xb)])) pp) CF xa A0 B0:=by rw [y3];exact zA
  have FB:dQ K (wo (upd B3 pp (.dK [(.inr z6,.ref xa),(.inr z7,.ref xb)])) pp) CF xb AR BR:=by rw [y3];exact b_F
  have p3:upd B3 pp (.dK [(.inr z6,.ref xa),(.inr z7,.ref xb)]) pp=some (.dK [(.inr z6,.ref xa),(.inr z7,.ref xb)]):=aa
  revert z3 FA FB p3
  generalize upd B3 pp (.dK [(.inr z6,.ref xa),(.inr z7,.ref xb)])=H3
  intro z3 FA FB p3
  clear y3 zA a_F b_F a_s b_s s21 s22 s23 a_p7 b_p7 a_hk b_hk a_R1 a_R2 b_R1 b_R2 a_w23 b_w23 a_s7 b_s7 a_hpp b_hpp w1 p1 z0
  have s3:=s2.trans (z3.trans aL)
  obtain⟨c_k1,c_k2,c_hk,c_R1,c_R2⟩:=hsc.same s3
  obtain⟨c_as1,c_ps1,c_hl1,c_hp1,c_hn1,c_hk1⟩:=me c_R1 f1.nd1
  refine⟨_,rfl,sc,_,_,_,rfl,rfl,SqT.of c_hk,(show atI [V.ref c_k1,.ref c_k2] 0=some (.ref c_k1) from rfl),c_k1,c_as1,c_ps1,rfl,c_hl1,c_hp1,Nat.lt_of_lt_of_le (Nat.lt_succ_self _) (bJ (by omega)),λc_d1 c_hd1=>?_⟩
  have c_w2:=ac c_hd1 (.dK (cH [] c_ps1))
  obtain⟨c_as2,c_ps2,c_hl2,c_hp2,c_hn2,c_hk2⟩:=pY (c_R2.same c_w2) f1.fu.2.1
  refine⟨_,rfl,sc,_,_,_,rfl,rfl,SqT.of (c_w2 _ _ c_hk),(show atI [V.ref c_k1,.ref c_k2] 1=some (.ref c_k2) from rfl),c_k2,c_as2,c_ps2,rfl,c_hl2,c_hp2,Nat.lt_of_lt_of_le (Nat.lt_succ_self _) (bJ (by omega)),λc_d2 c_hd2=>?_⟩
  have c_w3:=ac c_hd2 (.dK (cH [] c_ps2))
  have c_w23:=c_w2.trans c_w3
  have c_e1:=c_w3 _ _ (show upd H3 c_d1 (.dK (cH [] c_ps1)) c_d1=some (.dK (cH [] c_ps1)) from aa)
  have c_e2:upd (upd H3 c_d1 (.dK (cH [] c_ps1))) c_d2 (.dK (cH [] c_ps2)) c_d2=some (.dK (cH [] c_ps2)):=aa
  have c_hpp:=c_w23 _ _ p3
  have c_q1:=c_hk1.imp λv y h=>bK.same c_w23 h
  have c_q2:=c_hk2.imp λv y h=>cY.keep (λ_ _ t=>c_w3.tup t) h
  revert c_w23 c_e1 c_e2 c_hpp c_q1 c_q2
  generalize upd (upd H3 c_d1 (.dK (cH [] c_ps1))) c_d2 (.dK (cH [] c_ps2))=c_C
  intro c_w23 c_e1 c_e2 c_hpp c_q1 c_q2
  clear c_w2 c_w3 c_hk1 c_hk2 c_hd1 c_hd2
  intro xc c_dx c_nx c_ndx c_nex
  have c_nx':upd c_C c_dx (.own xc) xc=none:=by rw [ah (Ne.symm c_nex)];exact c_nx
  have c_eab:=(ac c_ndx (.own xc)).trans (ac c_nx' (.ins CF c_dx []))
  refine⟨xc,c_dx,c_d1,c_d2,_,_,rfl,aa,c_eab _ _ c_e1,c_eab _ _ c_e2,λc_d c_e c_fs B4 c_hd c_he c_nde c_hx c_lk c_lf c_lh c_lp c_hd7 c_he7 c_keep=>⟨rfl,?_⟩⟩
  obtain⟨c_s7,c_hN⟩:=gA (p:=pp) (λb hb e=>(by rw [<-e,hb] at c_hpp;cases c_hpp)) c_nx c_ndx c_nex (c_q1.imp λ_ _ h=>aC (λ_ _ t=>gO c_hpp gW t) h) (c_q2.imp λ_ _ h=>h.keep λ_ _ t=>gO c_hpp gW t) c_hd c_he c_nde c_hx c_lk c_lf c_lh c_lp c_hd7 c_he7 c_keep
  have c_F:=c_hN.face
  have c_s:=c_w23.trans c_s7
  have c_p7:=c_s7 _ _ c_hpp
  clear c_hN c_hd c_he c_nde c_hx c_lk c_lf c_lh c_lp c_hd7 c_he7 c_keep c_eab c_nx' c_nx c_ndx c_nex c_q1 c_q2 c_e1 c_e2
  have s4:=s3.trans c_s
  refine⟨_,rfl,_,rfl,wa,_,_,_,rfl,rfl,SqL.of (s4 _ _ hwa),at12,pp,_,rfl,kH.k (k:=.inr z12) c_p7 (by show 2 < sizeLine;decide),?_⟩
  have ek:cI [(Sum.inr z6,V.ref xa),(.inr z7,.ref xb)] (.inr z12) (.ref xc)=[((.inr z6:Key),V.ref xa),(.inr z7,.ref xb),(.inr z12,.ref xc)]:=by
    refine(iL _ ?_).trans rfl
    unfold dC
    rw [List.find?_cons,df0 (λe=>n126 (Sum.inr.inj e).symm),List.find?_cons,df0 (λe=>n127 (Sum.inr.inj e).symm)]
    rfl
  rw [ek]
  have y5:wo (upd B4 pp (.dK [(.inr z6,.ref xa),(.inr z7,.ref xb),(.inr z12,.ref xc)])) pp=wo B4 pp:=dY
  have z5':ao H2 (wo (upd B4 pp (.dK [(.inr z6,.ref xa),(.inr z7,.ref xb),(.inr z12,.ref xc)])) pp):=by rw [y5];exact z3.trans (bc c_s)
  have PF:fL K (upd B4 pp (.dK [(.inr z6,.ref xa),(.inr z7,.ref xb),(.inr z12,.ref xc)])) CF pp fl:=by
    rw [hfl]
    refine⟨_,aa,.cons ⟨rfl,xa,rfl,?_⟩ (.cons ⟨rfl,xb,rfl,?_⟩ (.cons ⟨rfl,xc,rfl,?_⟩ .nil))⟩
    · exact((FA.same (bc c_s)).same (by rw [<-y5];exact aL))
    · exact((FB.same (bc c_s)).same (by rw [<-y5];exact aL))
    · exact c_F.same (by rw [<-y5];exact aL)
  revert z5' PF
  generalize upd B4 pp (.dK [(.inr z6,.ref xa),(.inr z7,.ref xb),(.inr z12,.ref xc)])=H5
  intro z5' PF
  have s5:=s2.trans (z5'.trans aL)
  intro pa hpa
  have w1:=ac hpa (.dK [])
  have p1:upd H5 pa (.dK []) pa=some (.dK []):=aa
  have z0:ao H5 (wo (upd H5 pa (.dK [])) pa):=by rw [dY,jf hpa];exact ao.refl _
  revert w1 p1 z0
  generalize upd H5 pa (.dK [])=B5
  intro w1 p1 z0
  have s51:=s5.trans w1
  refine⟨_,rfl,wa,_,_,_,rfl,rfl,SqL.of (s51 _ _ hwa),at0,?_⟩
  obtain⟨as1,ps1,hl1,hp1,hn1,hk1⟩:=me (hkn.same s51) ndK
  refine⟨_,rfl,kn,as1,ps1,rfl,hl1,hp1,Nat.lt_of_lt_of_le (Nat.lt_succ_self _) (bJ (by omega)),λd1 hd1=>?_⟩
  have w2:=ac hd1 (.dK (cH [] ps1))
  intro d2 hd2
  have w3:=ac hd2 (.dK [])
  have w23:=w2.trans w3
  have e1:=w3 _ _ (show upd B5 d1 (.dK (cH [] ps1)) d1=some (.dK (cH [] ps1)) from aa)
  have e2:upd (upd B5 d1 (.dK (cH [] ps1))) d2 (.dK []) d2=some (.dK []):=aa
  have hpp2:=w23 _ _ p1
  have q1:=hk1.imp λv y h=>bK.same w23 h
  revert w23 e1 e2 hpp2 q1
  generalize upd (upd B5 d1 (.dK (cH [] ps1))) d2 (.dK [])=C5
  intro w23 e1 e2 hpp2 q1
  intro xd dx nx ndx nex
  have nx':upd C5 dx (.own xd) xd=none:=by rw [ah (Ne.symm nex)];exact nx
  have eab:=(ac ndx (.own xd)).trans (ac nx' (.ins CF dx []))
  refine⟨xd,dx,d1,d2,_,_,rfl,aa,eab _ _ e1,eab _ _ e2,λd e fs' B6 hd he nde hx lk lf' lh lp hd7 he7 keep=>⟨rfl,?_⟩⟩
  obtain⟨s7,hN⟩:=gA (p:=pa) (m2:=[]) (λb hb e=>(by rw [<-e,hb] at hpp2;cases hpp2)) nx ndx nex (q1.imp λ_ _ h=>aC (λ_ _ t=>gO hpp2 gW t) h) .nil hd he nde hx lk lf' lh lp hd7 he7 keep
  refine⟨s7 _ _ hpp2,[(.inr W0,.ref xd)],rfl,by show 1<=15;decide,?_⟩
  have y7:wo (upd B6 pa (.dK (gp [] [(.inr W0,.ref xd)]))) pa=wo B6 pa:=dY
  have z7':ao H5 (upd B6 pa (.dK (gp [] [(.inr W0,.ref xd)]))):=kE (w1.trans (w23.trans s7)) hpa
  have PP:fL K (upd B6 pa (.dK (gp [] [(.inr W0,.ref xd)]))) CF pa PL0:=by
    rw [hPL]
    refine⟨_,aa,?_⟩
    have em:gp [] [((.inr W0:Key),V.ref xd)]=[(.inr W0,.ref xd)]:=(iL _ rfl:cI [] (.inr W0:Key) (V.ref xd)=_)
    rw [em]
    refine .cons ⟨rfl,xd,rfl,hN.face.same ?_⟩ .nil
    rw [em] at y7
    rw [<-y7]
    exact aL
  revert z7' PP
  generalize upd B6 pa (.dK (gp [] [(.inr W0,.ref xd)]))=H7
  intro z7' PP
  have s8:=s5.trans z7'
  have s28:=(z5'.trans aL).trans z7'
  obtain⟨hD,hmk,hal⟩:=zk hAll
  have L:LSt K H7 CF wa kn lw du dc pp pa fh sc re wd ys l (Aq z5 z7 fs sl its') fl [(W0,(K0,[]))] K0 A0 A1 AR (yc (PL0++l.map aE) AR own' BR funs' sl).1 B0 B1 BR (yc (PL0++l.map aE) AR own' BR funs' sl).2 :=
    ⟨s8 _ _ hwa,hkn.same s8,s8 _ _ hlw,Paired.mapP hys λ_ _ t=>t.same s8,hdu.same s8,hDc.same s28,PF.same z7',by rw [<-hPL];exact PP,hfh.same s8,hsc.same s8,hre.same s8⟩
  have nm:=cb hAll.fo.w0
  refine k15 Q H7 a kv0 (.ref tf) sv (.ref gt) wa kn lw du dc pp pa fh sc re wd ys l (Aq z5 z7 fs sl its') fl K0 A0 A1 AR _ B0 B1 BR _ W0 z6 z7 z12 _ _ _ L hw0 hw6 hw7 hw12 (by rw [hfl,cL,if_pos rfl]) hAll.l7 (hAll.fo.z1 _ hw12) (by rw [<-hPL];exact hD) (by rw [<-hPL];exact hmk) hal (λr hr=>?_) (by have:=hAll.l4;omega) haK ?_ ?_ ?_ hAll.fo.w0.1 q
  · have R:=hAll.row r hr
    exact kz R.rb.l1 R.rb.l2 R.rb.b1 R.rb.b2
  · exact kz (by omega) (by omega) ((f0.b1 nm).mono (by decide)) ((f0.b2 nm).mono (by decide))
  · exact kz (by omega) (by omega) ((f1.b1 nm).mono (by decide)) ((f1.b2 nm).mono (by decide))
  · exact kz (by omega) (by omega) ((fR.b1 nm).mono (by decide)) ((fR.b2 nm).mono (by decide))
def wV(K:W.Frag):Sp:=λvs H Q _=>∃(a:Addr) (ns:List Int),vs=[.ref a]/\SqL K H a (ns.map V.int)/\ns.length<=63/\∀H',Q (.bl true) H'
theorem qT(c k:Int):bg c k≠"":=λe=>by
 have h1:=qw c
 have h2:(bg c k).length=(wsz c).toNat:=by unfold bg;rw [jG]
 rw [e] at h2
 have h3:(("":Str)).length=0:=by decide +kernel
 omega
theorem yq(h:i < n):(wds c 0 n)[i]?=some (bg c (i:Int)):=by
 unfold wds
 rw [List.getElem?_map,List.getElem?_range h]
 show some (bg c (0+(i:Int)))=_
 rw [Int.zero_add]
theorem yn{c:Int}{i j:Nat}(hi:i < 26)(hj:j < 26)(h:i≠j):bg c (i:Int)≠bg c (j:Int):=λe=>by
 have:=fM e
 omega
abbrev PLz(W0:Str)(n:Int):aV:=[(W0,([("k",.name W0 "k"),("size",.num n)],[]))]
theorem Bj(hs:smW W0) (hne:W0≠"") (h0:0<=n) (h1:n<=10 ^ 18):iT [(W0,([("k",.name W0 "k"),("size",.num n)],[]))]:=by
 have b:BK 4 [(("k":Str),Kd.name W0 "k"),("size",.num n)]:=λq hq=>by
  simp only [List.mem_cons,List.not_mem_nil,or_false] at hq
  rcases hq with rfl|rfl
  ·exact⟨(show smW "k" from⟨by decide +kernel,by decide +kernel⟩),⟨⟨hs.1,hs.2⟩,by decide +kernel,by decide +kernel⟩,by show 1<=4;decide⟩
  ·exact⟨(show smW "size" from⟨by decide +kernel,by decide +kernel⟩),⟨h0,h1⟩,by show 1<=4;decide⟩
 refine⟨List.nodup_cons.mpr ⟨List.not_mem_nil,.nil⟩,λr hr=>?_,⟨((W0,"k"),.name W0 "k"),gB.mpr ⟨_,List.mem_singleton.mpr rfl,_,List.mem_cons_self ..,rfl⟩,by show 1 < 4;decide⟩⟩
 rw [List.mem_singleton.mp hr]
 refine⟨hs,hne,(by decide +kernel:(["k","size"]:List Str).Nodup),.nil,(by show 2<=5;decide),Nat.zero_le _,b,(λq hq=>nomatch hq),λq hq=>?_⟩
 simp only [List.mem_cons,List.not_mem_nil,or_false] at hq
 rcases hq with rfl|rfl
 ·exact hne
 ·exact trivial
theorem zS (F:Fun K "law" "law" pS f fd)
  (GM:Ca P w K mg base 43 "_law_same" fm fdm smP (om K CF))
  (GT:Ca P w K mg base 44 "_law_told" ft fdt tlP (mH K CM CF))
  (GK:Ca P w K mg base 47 "maker_of" fk fdk mkP (iI K CF CM CN cl)) (mli:mg "list"=none) (md:mg "dict"=none) (mt:mg "tuple"=none) (mr:mg "range"=none)
  (cF:Cls K CF) (nK:aZ K CF "kinds") (cM:Cls K CM) (n1:aZ K CM "formals") (n2:aZ K CM "result")
  (GI:cE P w K mg base CX0 1 fi fdi ["self","kinds","funs"] (gY CF)) (bI:cU K fdi ["self","kinds","funs"] []) (MF:Mk K CF fi) (mCF:mg "Face"=some (.ref CF))
  (GC:Ca P w K mg base 1 "_law_cell" fc fdc ["_law_script","_law_k"] (ge K))
  (GW:Ca P w K mg base 1 "_law_word" fw fdw wlP jV)
  (GN:Ca P w K mg base 1 "_law_know" fn fdn knP (tN K))
  (GFc:Ca P w K mg base 2 "_law_face" ff' fdf fcP (xn K))
  (GFo:Ca P w K mg base 42 "_law_formals" fo fdo foP (oj K))
  (GOp:Ca P w K mg base 42 "_law_opened" fp' fdp opP (qD K))
  (GIt:Ca P w K mg base 42 "_law_items" fe fde itP (ua K))
  (GSl:Ca P w K mg base 42 "_law_seal" fs' fds slP (xr K)) :
  cE P w K mg base CX0 48 f fd ["_law_script"] (wV K):=by
 refine F.k0 fD λcdv A outer s H vs Q E hr h=>?_
 obtain⟨a,ns,rfl,hA,h63,q⟩:=h
 have hr1:bZ 1 _:=hr.mono (by decide)
 have hr2:bZ 2 _:=hr.mono (by decide)
 have hr42:bZ 42 _:=hr.mono (by decide)
 obtain⟨t11,d11,k11⟩:=CV (outer:=outer) (H:=H) (E:=E) GM GT GK mli md mt cF nK cM n1 n2 GI bI MF mCF hr
 refine⟨_,@pss_cons _ _ _ _ _ (jY (i0:=1) (own:=["_law_k"]) (caps:=["_law_script"]) (κ:=[0]) fD.nd rfl (Or.inl rfl) rfl ⟨rfl,by decide +kernel,by decide +kernel,rfl,rfl,gM rfl,gM ⟨.inl rfl,rfl,.inl rfl⟩⟩ rfl
   (cj rfl mr (ag >> ad)) (λ_ _ _ _=>pg0 ["_law_k","_law_script"])
   (λ_ _ _ _=>cal GW hr1 (cal GC hr1 (pv 1 >> ag >> ad) >> pv 0 >> ad)))
  (aU (i:=2) fD.nd (bT (@az _ _ _ _ _ (aJ >> @az _ _ _ _ _ (aJ >> aN aO (pv 1) ag (λ_ _=>rfl) >> aJ >> ad) >> ad) >> @az _ _ _ _ _ (aJ >> @az _ _ _ _ _ (aJ >> aH bv ag (aH ck (cal GC hr1 (pv 0 >> ag >> ad)) (aH xR ag ag)) >> ad) >> ad) >> ad)) <|> aU (i:=3) fD.nd eB <|> bh (cal GN hr1 (pv 3 >> aN aO (pv 1) ag (λ_ _=>rfl) >> @az _ _ _ _ _ (pv 2 >> bT ad >> ad) >> ad)) <|> aU (i:=4) fD.nd (cal GFc hr2 (pv 0 >> ag >> ag >> bT (@az _ _ _ _ _ (aJ >> aN aO (pv 1) ag (λ_ _=>rfl) >> aJ >> ad) >> ad) >> ad)) <|> aU (i:=5) fD.nd (cal GFc hr2 (pv 0 >> ag >> aN aO (bT (ag >> ag >> ad)) (aH ck (cal GC hr1 (pv 0 >> ag >> ad)) ag) (λ_ _=>rfl) >> bT (@az _ _ _ _ _ (aJ >> aN aO (pv 1) ag (λ_ _=>rfl) >> aJ >> ad) >> ad) >> ad)) <|> aU (i:=6) fD.nd (cal GFc hr2 (pv 0 >> ag >> ag >> bT (@az _ _ _ _ _ (aJ >> aN aO (pv 1) ag (λ_ _=>rfl) >> aJ >> ad) >> ad) >> ad)) <|> kR (cal GFo hr42 (pv 0 >> pv 1 >> bT (pv 4 >> pv 5 >> ad) >> pv 3 >> ad)) (cC rfl (ap (ar (i:=7) fD.nd rfl (Or.inl rfl)) (ap (ar (i:=8) fD.nd rfl (Or.inl rfl)) bC))) <|> aU (i:=9) fD.nd (cal GOp hr42 (pv 0 >> pv 1 >> pv 8 >> cal GIt hr42 (pv 0 >> pv 1 >> pv 6 >> pv 3 >> ad) >> ad)) <|> kR (cal GSl hr42 (pv 0 >> pv 1 >> pv 6 >> aN ak (pv 9) ag (λ_ _=>rfl) >> pv 3 >> ad)) (cC rfl (ap (ar (i:=10) fD.nd rfl (Or.inl rfl)) (ap (ar (i:=11) fD.nd rfl (Or.inl rfl)) bC))) <|> ce (aW oW (pv 11) ju (bd _)) (@ai _ _ _ (aU (i:=11) fD.nd (@az _ _ _ _ _ (aN ak (pv 9) ag (λ_ _=>rfl) >> aN ak (pv 9) ag (λ_ _=>rfl) >> ad)))) aX <|> d11),?_⟩
 have clA:∀{H':Hp},ao H H'->SqL K H' a (ns.map V.int):=λe=>eE e hA
 refine⟨_,rfl,by decide,by decide,?_⟩
 refine nZ (m:=13) (by decide) (λi ys H2=>ys=(wds (aB ns 18) 0 i).map V.str) rfl (λi ys _ h=>by rw [h,lm0,eJ];exact Nat.le_refl _) ?_ ?_
 ·rintro i ys H2 N hN hi s2 rfl
  refine⟨rfl,di ⟨_,rfl,a,ns,18,rfl,clA s2,h63,by decide,by decide,λc hc=>⟨_,rfl,c,(i:Int),rfl,λH3 s3=>hN _ _ (s2.trans s3) ?_⟩⟩⟩
  rw [ig,ma0,hc,Int.zero_add]
  rfl
 rintro ys H1 wa s1 rfl hwa0
 have v1:=ac hwa0 (.lst ((wds (aB ns 18) 0 13).map V.str))
 have s01:=s1.trans v1
 have hwa:upd H1 wa (.lst ((wds (aB ns 18) 0 13).map V.str)) wa=some (.lst ((wds (aB ns 18) 0 13).map V.str)):=aa
 revert s01 hwa
 generalize upd H1 wa (.lst ((wds (aB ns 18) 0 13).map V.str))=H2
 intro s01 hwa
 clear v1 hwa0 s1
 have wl:(wds (aB ns 18) 0 13).length=13:=eJ _ _ _
 have wg:∀i:Nat,i < 13->(wds (aB ns 18) 0 13)[i]?=some (bg (aB ns 18) (i:Int)):=λi hi=>yq hi
 have wnd:(wds (aB ns 18) 0 13).Nodup:=eU _ _ (by decide)
 have wsm:∀z∈wds (aB ns 18) 0 13,smW z/\z≠"":=λz hz=>by
  obtain⟨j,_,rfl⟩:=fZ.mp hz
  exact⟨oq _ _,qT _ _⟩
 have at0:atI ((wds (aB ns 18) 0 13).map V.str) 0=some (.str (bg (aB ns 18) 0)):=bE (j:=0) (by rw [List.getElem?_map,wg 0 (by decide)];rfl)
 have hd0:=wg 0 (by decide)
 have g5:=wg 5 (by decide)
 have g6:=wg 6 (by decide)
 have g7:=wg 7 (by decide)
 have g12:=wg 12 (by decide)
 have hs0:smW (bg (aB ns 18) 0):=oq _ _
 have hne0:bg (aB ns 18) 0≠"":=qT _ _
 have n76:bg (aB ns 18) ((7:Nat):Int)≠bg (aB ns 18) ((6:Nat):Int):=yn (by decide) (by decide) (by decide)
 have n126:bg (aB ns 18) ((12:Nat):Int)≠bg (aB ns 18) ((6:Nat):Int):=yn (by decide) (by decide) (by decide)
 have n127:bg (aB ns 18) ((12:Nat):Int)≠bg (aB ns 18) ((7:Nat):Int):=yn (by decide) (by decide) (by decide)
 have new0:∀(i:Nat) z,(wds (aB ns 18) 0 13)[1+i]?=some z->z≠bg (aB ns 18) 0:=λi z hz e=>by
  have hlt:=(List.getElem?_eq_some_iff.mp hz).1
  rw [e] at hz
  have:=(List.getElem?_inj hlt wnd).mp (hz.trans hd0.symm)
  omega
 have w5:smW (bg (aB ns 18) ((5:Nat):Int)):=oq _ _
 have w7:smW (bg (aB ns 18) ((7:Nat):Int)):=oq _ _
 replace hd0:(wds (aB ns 18) 0 13)[0]?=some (bg (aB ns 18) 0):=hd0
 revert hwa wl wnd wsm at0 hd0 g5 g6 g7 g12 hs0 hne0 n76 n126 n127 new0 w5 w7
 clear wg
 generalize bg (aB ns 18) 0=W0
 generalize bg (aB ns 18) ((5:Nat):Int)=z5
 generalize bg (aB ns 18) ((6:Nat):Int)=z6
 generalize bg (aB ns 18) ((7:Nat):Int)=z7
 generalize bg (aB ns 18) ((12:Nat):Int)=z12
 generalize wds (aB ns 18) 0 13=wd
 intro hwa wl wnd wsm at0 g5 g6 g7 g12 hs0 hne0 n76 n126 n127 new0 w5 w7 hd0
 refine⟨_,rfl,wa,_,_,_,rfl,rfl,SqL.of hwa,at0,(sz 3),λp1 hp1=>?_⟩
 have u1:=ac hp1 (.tup [.str "name",.str W0,.str "k"])
 refine⟨(sz 2),λp2 hp2=>?_⟩
 have u2:=ac hp2 (.tup [.str "k",.ref p1])
 have s12:=s01.trans (u1.trans u2)
 refine⟨_,rfl,a,ns,19,rfl,clA s12,h63,by decide,by decide,λc19 _=>?_⟩
 refine⟨_,_,rfl,rfl,⟨by decide,by decide,by decide⟩,_,_,rfl,rfl,e18,_,_,rfl,rfl,(sz 2),λp3 hp3=>?_⟩
 have nb:0<=1+c19%(10:Int) ^ (18:Int).toNat/\1+c19%(10:Int) ^ (18:Int).toNat<=10 ^ 18:=by
  have b0:=Int.emod_nonneg c19 (Int.ne_of_gt e18)
  have b1:=Int.emod_lt_of_pos c19 e18
  have e:(10:Int) ^ (18:Int).toNat=1000000000000000000:=by decide
  have e':(10:Int) ^ 18=1000000000000000000:=by decide
  rw [e'] ;rw [e] at b0 b1 ⊢
  omega
 have u3:=ac hp3 (.tup [.str "num",.int (1+c19%(10:Int) ^ (18:Int).toNat)])
 refine⟨(sz 2),λp4 hp4=>?_⟩
 have u4:=ac hp4 (.tup [.str "size",.ref p3])
 refine⟨(sz 2),λkn hkn0=>?_⟩
 have u5:=ac hkn0 (.lst [.ref p2,.ref p4])
 have u35:=u3.trans (u4.trans u5)
 have s03:=s12.trans u35
 have r02:=(u1.trans u2).trans u35
 have hkn:oX K (upd (upd (upd (upd (upd H2 p1 (.tup [.str "name",.str W0,.str "k"])) p2 (.tup [.str "k",.ref p1])) p3 (.tup [.str "num",.int (1+c19%(10:Int) ^ (18:Int).toNat)])) p4 (.tup [.str "size",.ref p3])) kn (.lst [.ref p2,.ref p4])) kn [("k",.name W0 "k"),("size",.num (1+c19%(10:Int) ^ (18:Int).toNat))] :=
  ⟨_,aa,.cons ⟨p2,.ref p1,rfl,u35 _ _ aa,.name (SqT.of ((u2.trans u35) _ _ aa))⟩ (.cons ⟨p4,.ref p3,rfl,u5 _ _ aa,.num (SqT.of ((u4.trans u5) _ _ aa))⟩ .nil)⟩
 have hwa3:=r02 _ _ hwa
 revert s03 hkn hwa3
 generalize upd (upd (upd (upd (upd H2 p1 (.tup [.str "name",.str W0,.str "k"])) p2 (.tup [.str "k",.ref p1])) p3 (.tup [.str "num",.int (1+c19%(10:Int) ^ (18:Int).toNat)])) p4 (.tup [.str "size",.ref p3])) kn (.lst [.ref p2,.ref p4])=H3
 intro s03 hkn hwa3
 revert hkn nb
 generalize 1+c19%(10:Int) ^ (18:Int).toNat=n
 intro nb hkn
 clear u1 u2 u3 u4 u5 u35 r02 s12 hp1 hp2 hp3 hp4 hkn0 hwa s01
 have PL0:=Bj hs0 hne0 nb.1 nb.2
 intro d hd0'
 have u1:=ac hd0' (.dT [])
 have z3:wo (upd H3 d (.dT [])) d=H3:=by rw [dY,jf hd0']
 have hd3:upd H3 d (.dT []) d=some (.dT []):=aa
 refine⟨_,rfl,_,rfl,wa,_,_,_,rfl,rfl,SqL.of (u1 _ _ hwa3),at0,_,rfl,(sz 0),λq0 hq0=>?_⟩
 have u2:=ac hq0 (.lst [])
 refine⟨(sz 2),λt0 ht0=>?_⟩
 have u3:=ac ht0 (.tup [.ref kn,.ref q0])
 have u23:=u2.trans u3
 have hd4:=u23 _ _ hd3
 refine⟨d,t0,W0,[],[("k",.name W0 "k"),("size",.num n)],[],rfl,⟨[],hd4,.nil⟩,tH hd4 ⟨kn,q0,aa,hkn.same (u1.trans u23),⟨[],u3 _ _ aa,.nil⟩⟩,Nat.zero_le _,(by show 2<=100;decide),?_,λH4 s4 hN4=>?_⟩
 ·show([((W0,"k"):Str × Str),(W0,"size")]).Nodup
  refine List.nodup_cons.mpr ⟨λh=>?_,List.nodup_cons.mpr ⟨List.not_mem_nil,.nil⟩⟩
  have:=congrArg Prod.snd (List.mem_singleton.mp h)
  have this':("k":Str)="size":=this
  exact absurd this' (by decide +kernel)
 have enl:aD [(W0,([(("k":Str),Kd.name W0 "k"),("size",.num n)],([]:aY)))]=[]++bR W0 [("k",.name W0 "k"),("size",.num n)]:=by
  unfold aD
  simp
 rw [<-enl] at hN4
 have y4:ao H3 (wo H4 d):=by
  have:=bc (d:=d) u23
  rw [z3] at this
  exact this.trans s4
 clear u1 u2 u3 u23 hd3 hd4 z3 s4 hq0 ht0
 obtain⟨kv4,hd4,_⟩:=id hN4
 have ks:∀z,eu z∉[Kd.name W0 "k"]:=λz hz=>by
  have e:=List.mem_singleton.mp hz
  unfold eu at e
  injection e with e1 e2
  exact absurd e1.symm hne0
 have kl:∀k∈[Kd.name W0 "k"],k.leaf=true:=λk hk=>by rw [List.mem_singleton.mp hk];rfl
 refine⟨_,rfl,_,rfl,wa,_,_,_,rfl,rfl,SqL.of (aL _ _ (y4 _ _ hwa3)),at0,(sz 3),λp1 hp1=>?_⟩
 have u1:=ac hp1 (.tup [.str "name",.str W0,.str "k"])
 refine⟨(sz 1),λp2 hp2=>?_⟩
 have u2:=ac hp2 (.lst [.ref p1])
 have u12:=u1.trans u2
 refine⟨a,ns,0,0,p2,[.ref p1],[.name W0 "k"],rfl,clA (((s03.trans y4).trans aL).trans u12),h63,by decide,by decide,aa,.cons (.name (SqT.of (u2 _ _ aa))) .nil,(by show 1<=10;decide),kl,ks,λH5 fh A0 B0 s5 hfh F0=>?_⟩
 have s45:=u12.trans s5
 have y5:=y4.trans (bc s45)
 have hd5:=s45 _ _ hd4
 have fz5:=tH hd5 hfh
 clear u1 u2 u12 hp1 hp2 s5 hfh
 refine⟨_,rfl,(sz 2),λq1 hq1=>?_⟩
 have u0:=ac hq1 (.lst [.int 0,.int 14])
 refine⟨_,rfl,a,ns,37,rfl,clA (((s03.trans y5).trans aL).trans u0),h63,by decide,by decide,λc37 _=>?_⟩
 obtain⟨sh1,hsh1,hsh⟩:∃sh1:Int,atI [V.int 0,.int 14] (c37%2)=some (.int sh1)/\(sh1=0\/sh1=14):=by
  have h2:c37%2=0\/c37%2=1:=by omega
  rcases h2 with e|e
  ·exact⟨0,by rw [e];rfl,.inl rfl⟩
  ·exact⟨14,by rw [e];rfl,.inr rfl⟩
 refine⟨_,_,rfl,rfl,(by show(0:Int) < 2;decide),q1,_,_,_,rfl,rfl,SqL.of aa,hsh1,_,rfl,wa,_,_,_,rfl,rfl,SqL.of (u0 _ _ (aL _ _ (y5 _ _ hwa3))),at0,(sz 3),λp1 hp1=>?_⟩
 have u1:=ac hp1 (.tup [.str "name",.str W0,.str "k"])
 refine⟨(sz 1),λp2 hp2=>?_⟩
 have u2:=ac hp2 (.lst [.ref p1])
 have u12:=u0.trans (u1.trans u2)
 refine⟨a,ns,31,sh1,p2,[.ref p1],[.name W0 "k"],rfl,clA (((s03.trans y5).trans aL).trans u12),h63,by decide,by decide,aa,.cons (.name (SqT.of (u2 _ _ aa))) .nil,(by show 1<=10;decide),kl,ks,λH6 sc A1 B1 s6 hsc F1=>?_⟩
 have s56:=u12.trans s6
 have y6:=y5.trans (bc s56)
 have hd6:=s56 _ _ hd5
 have fz6:=fz5.same (bc s56)
 have sz6:=tH hd6 hsc
 clear u0 u1 u2 u12 hp1 hp2 s6 hsc hq1
 refine⟨_,rfl,_,rfl,wa,_,_,_,rfl,rfl,SqL.of (aL _ _ (y6 _ _ hwa3)),at0,(sz 3),λp1 hp1=>?_⟩
 have u1:=ac hp1 (.tup [.str "name",.str W0,.str "k"])
 refine⟨(sz 1),λp2 hp2=>?_⟩
 have u2:=ac hp2 (.lst [.ref p1])
 have u12:=u1.trans u2
 refine⟨a,ns,20,8,p2,[.ref p1],[.name W0 "k"],rfl,clA (((s03.trans y6).trans aL).trans u12),h63,by decide,by decide,aa,.cons (.name (SqT.of (u2 _ _ aa))) .nil,(by show 1<=10;decide),kl,ks,λH7 re AR BR s7 hre FR=>?_⟩
 have s67:=u12.trans s7
 have y7:=y6.trans (bc s67)
 have hd7:=s67 _ _ hd6
 have fz7:=fz6.same (bc s67)
 have sz7:=sz6.same (bc s67)
 have rz7:=tH hd7 hre
 have nm7:pQ K H7 d (aD [(W0,([("k",.name W0 "k"),("size",.num n)],[]))]):=hN4.same (s45.trans (s56.trans s67))
 clear u1 u2 u12 hp1 hp2 s7 hre fz5 fz6 sz6
 refine⟨_,rfl,_,rfl,_,rfl,_,rfl,(sz 2),λso hso=>?_⟩
 have u1:=ac hso (.lst [.ref fh,.ref sc])
 have hd8:=u1 _ _ hd7
 have nds:so≠d:=λe=>by rw [e,hd7] at hso;cases hso
 have y8:=y7.trans (bc u1)
 generalize hfl:[(z6,(A0,B0)),(z7,(AR,BR)),(z12,(A1,B1))]=fl
 have lk6:look fl z6=some (A0,B0):=by rw [<-hfl,cL,if_pos rfl]
 have lk7:look fl z7=some (AR,BR):=by rw [<-hfl,cL,if_neg (Ne.symm n76),cL,if_pos rfl]
 have lk12:look fl z12=some (A1,B1):=by rw [<-hfl,cL,if_neg (Ne.symm n126),cL,if_neg (Ne.symm n127),cL,if_pos rfl]
 have FO:Bt fl [(W0,([("k",.name W0 "k"),("size",.num n)],[]))] (aB ns 1) (aB ns 2) 0 sh1 W0 wd A0 A1 B0 B1 :=
  ⟨F0,F1,hs0,hne0,PL0,Nat.le_refl _,wl,wnd,wsm,λi z hz hm=>new0 i z hz (List.mem_singleton.mp hm),λz hz=>by rw [g6] at hz;cases hz;exact lk6,λz hz=>by rw [g12] at hz;cases hz;exact lk12⟩
 refine⟨_,rfl,a,wa,so,d,fh,sc,ns,wd,fl,_,aB ns 1,aB ns 2,0,sh1,W0,A0,A1,B0,B1,rfl,clA (s03.trans y8),h63,y8 _ _ hwa3,by rw [dL nds];exact aa,fz7.same (bc u1),sz7.same (bc u1),nm7.same u1,FO,λH9 tt tf lw fs l xs ys s9 htt htf hxs hlw hys hN9 hInv hl1 hl4 hlw1 hrow=>?_⟩
 have y9:=(y8.trans s9).trans aL
 have w9:=((bc (d:=d) u1).trans s9).trans aL
 have FA9:=fz7.same w9
 have FS9:=sz7.same w9
 have FR9:=rz7.same w9
 have hlw9:=aL _ _ hlw
 have hys9:=Paired.mapP hys λ_ _ h=>ue.same (aL (H:=H9) (d:=d)) h
 have hxs9:=Paired.mapP hxs λ_ _ h=>vL.same (aL (H:=H9) (d:=d)) h
 clear u1 hso y4 y5 y6 y7 y8 s9 hys hxs hlw fz7 sz7 rz7 nm7
 refine⟨tt,_,rfl,SqT.of htt,rfl,_,_,rfl,_,_,rfl,rfl,?_⟩
 have hnl:=xp hInv.pl nr0 hl4
 have k0:bw (aD (PLz W0 n++l.map aE)) (W0,"k")=some (.name W0 "k"):=by
  rw [mR hInv.pl.nd]
  show(look ((W0,(([("k",Kd.name W0 "k"),("size",.num n)]:am),([]:aY)))::l.map aE) W0).bind _=_
  rw [cL,if_pos rfl]
  show look ([("k",Kd.name W0 "k"),("size",.num n)]:am) "k"=_
  rw [cL,if_pos rfl]
 refine⟨_,rfl,_,rfl,_,rfl,_,rfl,_,rfl,_,rfl,_,rfl,a,wa,re,d,ns,AR,BR,_,aB ns 1,aB ns 2,8,W0,rfl,clA (s03.trans y9),h63,FR9,FR,hs0,hne0,hN9,hInv.pl,by omega,k0,λH10 g0 li lo lf dm xi fns mkv mdr s10 hg0 hli hit hfn hRk hRf hdm hpk hmd hmx=>?_⟩
 have y10:=y9.trans s10
 have lA:=FR.l1
 have lB:=FR.fu.2.2.1
 have lh:=FR.h3
 have lmd:=congrArg List.length hmd
 rw [lm0] at lmd
 have ltl:(tlM AR).length<=AR.length:=List.length_filter_le _ _
 have lfn:=Paired.length hfn
 refine⟨a,wa,lw,g0,li,lo,lf,dm,ns,wd,ys,xi,l,_,_,_,rfl,clA (s03.trans y10),h63,y10 _ _ hwa3,s10 _ _ hlw9,Paired.mapP hys9 λ_ _ h=>h.same s10,by omega,by omega,hlw1,λr hr=>(hrow r hr).rb,hg0,hli,hit,hRk,hRf,?_,?_,?_,λH11 gt li' lo' lf' xs' its' own' funs' s11 hgt hli' hit' hRk' hRf' hOp=>?_⟩
 ·rw [la0,la0,lm0,lm0]
  omega
 ·unfold fP
  rw [la0,lm0,lm0]
  omega
 ·rw [lm0]
  omega
 have y11:=y10.trans s11
 have s911:=s10.trans s11
 have hM:MIn (PLz W0 n++l.map aE) (aB ns 1) (aB ns 2) W0 AR BR mdr:=⟨hInv.pl,FR,hs0,hne0,k0,hmd,hmx⟩
 have good:∀r∈fl,uP r.2.1 r.2.2:=λr hr=>by
  have gd:∀{sh:Int} {A:am} {B:aY},cD (aB ns 1) (aB ns 2) sh [.name W0 "k"] A B->uP A B:=λF=>yo F.nd1 F.fu.2.1 (by have:=F.l1;omega) (by have:=F.fu.2.2.1;omega) ((F.b1 (cb hs0)).mono (by decide)) ((F.b2 (cb hs0)).mono (by decide))
  rw [<-hfl] at hr
  simp only [List.mem_cons,List.not_mem_nil,or_false] at hr
  rcases hr with rfl|rfl|rfl
  ·exact gd F0
  ·exact gd FR
  ·exact gd F1
 have mkAll:∀sl:Option am,(∀ws,sl=some ws->ws.Sublist mdr)->tQ fl [(W0,([("k",Kd.name W0 "k"),("size",.num n)],[]))] (aB ns 1) (aB ns 2) 0 sh1 W0 wd A0 A1 AR B0 B1 BR fs l mdr fns its' own' funs' z5 z7 sl:=λsl hsub =>
  ⟨FO,.inl rfl,hsh,hInv,hl4,hrow,hM,hfn,hOp,w5,w7,lk7,good,hsub⟩
 have haK:AlM [("k",Kd.name W0 "k"),("size",.num n)] []:=kz (by show 2<=100;decide) (Nat.zero_le _) ((PL0.row _ (List.mem_singleton.mpr rfl)).b1.mono (by decide)) (λq hq=>nomatch hq)
 have ndK:(([("k",Kd.name W0 "k"),("size",.num n)]:am).map (·.1)).Nodup:=(by decide +kernel:(["k","size"]:List Str).Nodup)
 refine⟨_,rfl,_,rfl,_,rfl,_,rfl,gt,_,_,_,rfl,rfl,SqT.of hgt,(show atI [V.ref li',.ref lo',.ref lf',.ref dm] 3=some (.ref dm) from rfl),_,rfl,a,wa,re,dm,d,ns,wd,z7,AR,BR,_,aB ns 1,aB ns 2,8,W0,mkv,mdr,rfl,clA (s03.trans y11),h63,y11 _ _ hwa3,g7,FR9.same s911,FR,hs0,s11 _ _ hdm,hpk.imp λ_ _ h=>h.same s11,hmd,hmx,hN9.same s911,hInv.pl,λH12 t s12 ht=>?_,λH12 t ts x ws s12 ht hsl hdu hsub=>?_⟩
 ·refine⟨t,_,rfl,SqT.of ht,rfl,_,_,rfl,_,_,rfl,rfl,?_⟩
  refine⟨_,rfl,rfl,_,rfl,oZ ⟨_,rfl,gt,_,_,_,rfl,rfl,SqT.of (s12 _ _ hgt),(show atI [V.ref li',.ref lo',.ref lf',.ref dm] 1=some (.ref lo') from rfl),_,rfl,gt,_,_,_,rfl,rfl,SqT.of (s12 _ _ hgt),(show atI [V.ref li',.ref lo',.ref lf',.ref dm] 2=some (.ref lf') from rfl),(sz 2),λdu hdu=>?_⟩⟩
  have u:=ac hdu (.tup [.ref lo',.ref lf'])
  have v:=s12.trans u
  have v9:=s911.trans v
  have v3:=y9.trans v9
  exact k11 Q _ (.ref a) (.ref d) .non wa kn lw du tf gt li' lo' lf' dm fh sc re wd ys xs xs' l _ fl _ _ _ _ _ A0 A1 AR own' B0 B1 BR funs' fs mdr fns its' none W0 z5 z6 z7 z12 _ _ _ _ _ _ (mkAll none (λws h=>nomatch h)) hfl.symm rfl hd0 g5 g6 g7 g12 n76 n126 n127 (v3 _ _ hwa3) (hkn.same v3) (v9 _ _ hlw9) (Paired.mapP hys9 λ_ _ h=>h.same v9) ⟨lo',lf',aa,hRk'.same v,hRf'.same v⟩ (v9 _ _ htf) (Paired.mapP hxs9 λ_ _ h=>h.same v9) (v _ _ hgt) (v _ _ hli') (Paired.mapP hit' λ_ _ h=>h.same v) rfl (FA9.same v9) (FS9.same v9) (FR9.same v9) ndK (by show 2<=2;decide) haK q
 ·refine⟨t,_,rfl,SqT.of ht,rfl,_,_,rfl,_,_,rfl,rfl,?_⟩
  refine⟨_,rfl,rfl,_,rfl,dE (λc=>absurd (od0 c) (by intro h;cases h)) (λ_=>?_)⟩
  have v9:=s911.trans s12
  have v3:=y9.trans v9
  exact k11 Q _ (.ref a) (.ref d) (.ref ts) wa kn lw x tf gt li' lo' lf' dm fh sc re wd ys xs xs' l _ fl _ _ _ _ _ A0 A1 AR own' B0 B1 BR funs' fs mdr fns its' (some ws) W0 z5 z6 z7 z12 _ _ _ _ _ _ (mkAll (some ws) (λws' h=>by cases h;exact hsub)) hfl.symm rfl hd0 g5 g6 g7 g12 n76 n126 n127 (v3 _ _ hwa3) (hkn.same v3) (v9 _ _ hlw9) (Paired.mapP hys9 λ_ _ h=>h.same v9) hdu (v9 _ _ htf) (Paired.mapP hxs9 λ_ _ h=>h.same v9) (s12 _ _ hgt) (s12 _ _ hli') (Paired.mapP hit' λ_ _ h=>h.same s12) hsl (FA9.same v9) (FS9.same v9) (FR9.same v9) ndK (by show 2<=2;decide) haK q
end
section
variable{K:W.Frag}{f T:Addr}{fd:FuncData}{oT:Value}{dT:Option Addr}{nT:Nat}{sT:Array (Option Value)}{tk:Tok}
theorem AA (F:jU K "normal" "normal" ei (.ref T) f fd) (lT:K.lookup T=some ⟨oT,dT,.seq #[.int 40 tk] nT,sT⟩):cU K fd ["kind","own","parts","most"] [] :=
 F.binds lT λ_ _ _ _ _ _ us hl=>by
  have hl':us.length=4:=by simpa using hl
  repeat(obtain⟨_,_,rfl,z⟩:=lo hl';clear hl';have hl':=z;clear z)
  cases List.length_eq_zero_iff.mp hl'
  exact⟨_,rfl,rfl⟩
theorem zI (F:jU K "take_item" "take_item" cZ (.ref T) f fd) (lT:K.lookup T=some ⟨oT,dT,.seq #[.int 40 tk] nT,sT⟩):cU K fd tiP [] :=
 F.binds lT λ_ _ _ _ _ _ us hl=>by
  have hl':us.length=4:=by simpa using hl
  repeat(obtain⟨_,_,rfl,z⟩:=lo hl';clear hl';have hl':=z;clear z)
  cases List.length_eq_zero_iff.mp hl'
  exact⟨_,rfl,rfl⟩
end
end K44
namespace L2
open PySem PyProof.Rows
theorem Fun.bb{K:W.Frag}{x qual:Str}{st:Stmt}{f:Addr}{fd:FuncData}{ps:List Str}(F:Fun K x qual st f fd)
  (h:∀kV doc pm an cdv ct (us:List Value),us.length=ps.length->bindArgs (W.fnOf x qual (aA st) (aj st) (ae st) .none kV doc pm an cdv ct) ⟨us,[]⟩=pure (ps.zip us):=by intro _ _ _ _ _ _ us hl;(repeat(obtain⟨_,_,rfl,z⟩:=lo hl;clear hl;have hl:=z;clear z));cases List.length_eq_zero_iff.mp hl;rfl):cU K fd ps []:=F.binds h
end L2
namespace PySem.W.Fast
def tw15462684343471950658:=()
def tw3017104817017723411:=()
def tw5739229334131392929:=()
def tw8718114177752101310:=()
def tw12289859606853463506:=()
def tw15959522841722778025:=()
def tw12502101564617567498:=()
def tw4121044514871578580:=()
def tw8980959695814236157:=()
def tw15381315227099557550:=()
def tw17800994501651266394:=()
def tw7995137831378192754:=()
def tw15217091355522198332:=()
def tw15397739481641368512:=()
def tw14678134376281313736:=()
def tw10080794269005288458:=()
def tw114347726533315555:=()
def tw13167876273617803959:=()
def tw12516966053287760335:=()
def tw17953550975647195156:=()
def tw18105427647042014302:=()
def tw11902759978862543601:=()
def tw15334624662794607965:=()
def tw8491803792694328884:=()
def tw2957359193918072090:=()
def tw5752009503433885335:=()
def tw1235504459153765928:=()
def tw11247321561558388127:=()
def tw14413169822329606257:=()
def tw12824160971705109514:=()
def tw7722093052394073170:=()
def tw3379592240314265511:=()
def tw11790537396533105731:=()
def tw15292116373303956469:=()
def tw6125747954312201121:=()
def tw4513058383961756064:=()
def tw7308071384968543591:=()
def tw9253910578499787054:=()
def tw1148965020890306464:=()
def tw11536004355655028047:=()
def tw15886194586165442241:=()
def tw8585767804357064628:=()
def tw10245363770150600:=()
def tw7255798188943916153:=()
def tw16289039012982722937:=()
def tw1454447427544101138:=()
def tw18183866225624255040:=()
def tw8712851506066351307:=()
def tw1130142695877645976:=()
def tw17885948159466029422:=()
def tw4219602956615484810:=()
def tw4553162236281916988:=()
def tw12010970054234975075:=()
def tw13371994713654177571:=()
def tw900471134702338729:=()
def tw5275351181967365757:=()
def tw7334130084189243585:=()
def tw17954342303415997837:=()
def tw14160024343881244505:=()
def tw130215686572670589:=()
def tw11917672676235963848:=()
def tw4301768270521807763:=()
def tw10720236899228346904:=()
def tw8977053092024009405:=()
def tw5924776589589786324:=()
def tw7751461872798745269:=()
def tw11121214007288991651:=()
def tw14684490670953009278:=()
def tw5605167107223151475:=()
def tw4015599542626485204:=()
def tw2532260205508544185:=()
def tw18376312911550583908:=()
def tw10041180789449115724:=()
def tw3614007938091643819:=()
def tw12161339580528540:=()
def tw14903215359371081246:=()
def tw3538113064549321510:=()
def tw7541319348842595932:=()
def tw9746314859615091876:=()
def tw15694207078879257717:=()
def tw3860614126247502268:=()
def tw3033663201135304176:=()
def tw14968407041908832845:=()
def tw16503724155366833172:=()
def tw10153747648904043173:=()
def tw1646421972918532415:=()
def tw16901448249343788864:=()
def tw7770347168557507221:=()
def tw8030291503934334561:=()
def tw17706964578822378869:=()
def tw1278439907426914191:=()
def tw12042282008181100734:=()
def tw5587881845831537587:=()
def tw10165234510825694809:=()
def tw16553631246424949386:=()
def tw16843994638490838684:=()
def tw15808446213859415047:=()
def tw4476771888497772844:=()
def tw971861108800163764:=()
def tw10233940772420865359:=()
def tw13368347890786907977:=()
def tw10967761491736328358:=()
def tw9638154700458142662:=()
def tw5872201413020402965:=()
def tw3629273016806734882:=()
def tw12358896275943754785:=()
def tw12700321400072432119:=()
def tw16212378579648193923:=()
def tw106249801635615916:=()
def tw10910398918825983893:=()
def tw8789849174222251421:=()
def tw11886414205754987740:=()
def tw1800376515086697002:=()
def tw11644451793543619409:=()
def tw12570711163230354685:=()
def tw10544017496777476326:=()
def tw15417462496353429197:=()
def tw9853027414370003610:=()
def tw4721080209114859212:=()
def tw17025196552801707202:=()
def tw4550065939559630321:=()
def tw8800262596209564450:=()
def tw13999765604628385647:=()
def tw3084549791837916805:=()
def tw10224122412287764239:=()
def tw368447861647178787:=()
def tw7136847179317994562:=()
def tw10887884045738291604:=()
def tw12804226209218023621:=()
def tw635601677788991799:=()
def tw8406960006573957362:=()
def tw1923726094776037400:=()
def tw2379515689685732518:=()
def tw2247493047456119106:=()
def tw13564033518292068779:=()
def tw14084054388304168014:=()
def tw15978893925112070085:=()
def tw555816993020221362:=()
def tw11477305570288438171:=()
def tw10388318881725970740:=()
def tw17741411467574190509:=()
def tw2145444691950667560:=()
def tw8627464677429940452:=()
def tw3771107052539452681:=()
def tw15731819468435028168:=()
def tw16218296697978502576:=()
def tw12594919584562141036:=()
def tw13388384248004259398:=()
def tw10120276888222128945:=()
def tw17768046263529840954:=()
def tw12925166200074596395:=()
def tw9413867065919273259:=()
def tw13564344801616968612:=()
def tw8461482954911020778:=()
def tw2702571650407462219:=()
def tw15508733976268800643:=()
def tw14491814937674208042:=()
def tw11248098592536445558:=()
def tw11456503433867053914:=()
def tw1258033636865491261:=()
def tw12819824313419680328:=()
def tw15573620422206734575:=()
def tw6459118231515059406:=()
def tw10126418209503903589:=()
def tw6634360196141628793:=()
def tw9743860467793846949:=()
def tw5835803694079545828:=()
def tw4791483120622564249:=()
def tw16179586674506084210:=()
def tw3953906811150947685:=()
def tw18074179059933921486:=()
def tw17968386798703277316:=()
def tw13195643620322908629:=()
def tw13863332532133335492:=()
def tw13585743082233913630:=()
def tw2939383210791160576:=()
def tw6638773556530845748:=()
def tw18032749931839970023:=()
def tw2767882768351086617:=()
def tw10643021511488756291:=()
def tw11869243244198449521:=()
def tw17023226209398462509:=()
def tw7356769767942913573:=()
def tw6535445712450845751:=()
def tw17546779110514927122:=()
def tw10028925118484590312:=()
def tw2258683455672788562:=()
def tw7820494712333631237:=()
def tw2303845769330583613:=()
def tw11105277073283556866:=()
def tw5554321496138514972:=()
def tw8042117447414468377:=()
def tw14456922876526361749:=()
def tw11904233767398797342:=()
def tw11108484901858982787:=()
def tw17332575097085744305:=()
def tw1121325652304338378:=()
def tw7962683707130079562:=()
def tw9769972247836519546:=()
def tw14755073464648750508:=()
def tw1805542577359061411:=()
def tw6376462678172892614:=()
def tw4139008118466850949:=()
def tw953414189086587207:=()
def tw2581804564075597459:=()
def tw12087977837157052800:=()
def tw13656812446886968507:=()
def tw4770643609733789922:=()
def tw11001328858844019065:=()
def tw11251751055643432201:=()
def tw11043975907058285908:=()
def tw2986806658102238403:=()
def tw3295056119932404:=()
def tw9508696350021780978:=()
def tw5638730388042420923:=()
def tw10446941726949500420:=()
def tw1188464376988680440:=()
def tw12773782551203921007:=()
def tw11204057250796586676:=()
def tw1760732172605538077:=()
def tw16028231650596683854:=()
def tw12240846417571002710:=()
def tw13268163978788553961:=()
def tw6418179919822343564:=()
def tw2476325743673212386:=()
def tw15530793470865639132:=()
def tw9733958298759800228:=()
def tw7385981772298847219:=()
def tw11614998621303676059:=()
def tw5860706055690941894:=()
def tw7336512830559903411:=()
def tw4172160919242142357:=()
def tw3514066323236213289:=()
def tw2063030456359986332:=()
def tw10349916147477393972:=()
def tw9883586285696570127:=()
def tw17682532298515327808:=()
def tw12672434161026138910:=()
def tw3946612363241964495:=()
def tw16551747720683260786:=()
def tw1520354225863167108:=()
def tw13382008088508634855:=()
def tw8035659083744368037:=()
def tw3175004212729827889:=()
def tw7265709571449099488:=()
def tw3554684505646556902:=()
def tw1546016158500966707:=()
def tw13582816846017095958:=()
def tw14242703800486534796:=()
def tw1995098325376167056:=()
def tw4029799826910433963:=()
def tw6818856480217767302:=()
def tw15027169988397174702:=()
def tw1551468664885183022:=()
def tw7996285741476215395:=()
def tw1435354608884060883:=()
def tw16086134912603211763:=()
def tw3425250092845030208:=()
def tw1732206134479090185:=()
def tw9015106684560068817:=()
def tw12249535214016951142:=()
def tw18380339076113599965:=()
def tw18050043485161461077:=()
def tw14979149067477047303:=()
def tw5128883063692778541:=()
def tw11940684093026177560:=()
def tw4107289235761936202:=()
def tw5179440621709901237:=()
def tw2243002668332498654:=()
def tw15923098945533901740:=()
def tw11787772094772338106:=()
def tw17628525542485425413:=()
def tw14610010820363827740:=()
def tw13097266781392371274:=()
def tw16600210781958142894:=()
def tw15211123931579122236:=()
def tw16464521454813815593:=()
def tw2247386491089901386:=()
def tw3154119353466910760:=()
def tw7247072042526065774:=()
def tw11059364859870014543:=()
def tw10289523777544713529:=()
def tw18254092765503107985:=()
def tw12547941113784327830:=()
def tw5957131863090370821:=()
def tw783388618590367572:=()
def tw2941401470091131201:=()
def tw17400526598638782309:=()
def tw1900521820675944589:=()
def tw3765406272757801618:=()
def tw10216639008020902578:=()
def tw17985697516599126584:=()
def tw17838429746364140703:=()
def tw10642977949732566080:=()
def tw12101465635785963738:=()
def tw197091405468820779:=()
def tw15853889239372921378:=()
def tw958177153373494446:=()
def tw17452657683871471331:=()
def tw12910730600177040714:=()
def tw14028858278727624800:=()
def tw137342773461208499:=()
def tw14439031381778555121:=()
def tw13774671336487801555:=()
def tw18179105409002869901:=()
def tw2649880105545186461:=()
def tw15609067869352192399:=()
def tw13771196130266852214:=()
def tw17723513683154026305:=()
def tw9957139161451547564:=()
def tw10414752781016522347:=()
def tw12856105679209321527:=()
def tw1414006952955134009:=()
def tw16050960908923735525:=()
def tw14255733328919875183:=()
def tw1268162430481027442:=()
def tw16275030927655558655:=()
def tw14619429612192375884:=()
def tw10045937544922376714:=()
def tw5943767011483396152:=()
def tw16375250432049150605:=()
def tw16880401306095642937:=()
def tw10092665239722571887:=()
def tw11893985024648703086:=()
def tw524890833765363714:=()
def tw11023092366871903888:=()
def tw15501862451228449992:=()
def tw6947648614818492677:=()
def tw10552098354297171974:=()
def tw6732546111789223689:=()
def tw17582992491008622467:=()
def tw12855435928902245864:=()
def tw6347163833045816825:=()
def tw5815951061198205962:=()
def tw16371220256946972835:=()
def tw18312076892834298665:=()
def tw6743882571648322757:=()
def tw11311704476538786382:=()
def tw14022786773136434984:=()
def tw16908931847953800221:=()
def tw15430909106004661530:=()
def tw2798510536138194850:=()
def tw14872971751603068672:=()
def tw14190653715207033160:=()
def tw11313525500514831839:=()
def tw17641338278527993494:=()
def tw17054291221586920974:=()
def tw2176731413998854526:=()
def tw2588806591925894081:=()
def tw5598778617263839831:=()
def tw5437110710239753191:=()
def tw8613878068449088024:=()
def tw13590536959519667106:=()
def tw10229224022403311922:=()
def tw11517693668380871098:=()
def tw15251182122594837515:=()
def tw11001361235862139031:=()
def tw3792872959239759287:=()
def tw7177542370490230414:=()
def tw3044537126913251903:=()
def tw1258858074853728719:=()
def tw14646088949549702283:=()
def tw1934325566560432090:=()
def tw14080625566304954134:=()
def tw2644381113565183451:=()
def tw3580227232843990636:=()
def tw8053286417640658409:=()
def tw2686586968266167894:=()
def tw7987480856135968069:=()
def tw10241009075092307813:=()
def tw17944634907573345496:=()
def tw17836122030864572118:=()
def tw5122185889464092915:=()
def tw3737157145770656525:=()
def tw1925100167631653724:=()
def tw14397465767050229134:=()
def tw6424268853276923238:=()
def tw8717037975580789698:=()
def tw1780074237214274345:=()
def tw12270623175466313881:=()
def tw8931219232343909527:=()
def tw14464571103544180843:=()
def tw5938670526066836624:=()
def tw8603181518556973625:=()
def tw7184735333778599969:=()
def tw5856717058963250099:=()
def tw6910467515571927213:=()
def tw17535962373378235499:=()
def tw14469867084884229359:=()
def tw17274573287282154325:=()
def tw14420065732574999319:=()
def tw11739016091537266317:=()
def tw11428383670473342291:=()
def tw12882792820945448860:=()
end PySem.W.Fast
namespace L2
open PySem
theorem qu{α β:Type}[BEq α][LawfulBEq α]{a:α}{b:β}:∀{l:List (α × β)},l.lookup a=some b->(a,b)∈l
 |[],h=>by cases h
 |p::r,h=>by
  obtain⟨c,d⟩:=p
  rw [List.lookup_cons] at h
  by_cases e:(a==c)=true
  ·rw [e] at h
   have h':d=b:=Option.some.inj h
   rw [eq_of_beq e,h']
   exact .head _
  ·rw [Bool.not_eq_true] at e
   rw [e] at h
   exact .tail _ (qu h)
theorem walk_z{q:Program}{loose:List Str}{XP:(Str->Option Value)->Heap->Prop}{r:W.RowW}{d:DefRec}{kwd:List (Str × Expr)}{run:Value->List Value->Sem Value}{K:Params->W.Frag}{as:List Addr}{n t:Nat}
  (hl:∀p:Params,as=(K p).map (·.1)) (h:W.WalkO q loose XP (λw h=>(K w.params).In h) r d kwd run):W.WalkX q loose XP (W.X.obsZ as) (W.X.valZ K n t) r d kwd run:=by
 intro w s₀ s₁ mg mb G y a o pm cd doc dV kV ho hd hcd hD hmg hg args vals as' L hpre hlay hrd hwl hlo
 refine h w s₀ s₁ mg mb G (λb ob hb=>?_) a o pm cd doc dV kV ho hd hcd hD hmg hg args vals as' hpre hlay hrd hwl hlo
 have e1:as.map s₀.heap.get?=(K w.params).map λp=>some p.2:=congrArg Prod.fst y
 rw [hl w.params,List.map_map] at e1
 have e2:s₀.heap.get? b=some ob:=List.map_inj_left.mp e1 (b,ob) (qu hb)
 exact L.keeps b ob e2
end L2
namespace K44
open PySem L2 Kk
set_option autoImplicit true in
set_option relaxedAutoImplicit true in
theorem all_mk{l:W.OpenLaw}{w:World}{K:W.Frag}{h:Heap}{mg:Str->Option Value}{fa f1 f2 f3 f4 f5 f6 f7 f8 f9 f10 f11 f12 f13 f14 f15 f16 f17 f18 f19 f20 f21 f22 f23 f24 f25 f26 f27 f28 f29 f30 f31 f32 f33 f34 f35 f36 f37:Addr}(X:K.In h)(G:h.Ns mainGlobals mg) (hfa:mg "law"=some (.ref fa))
  {CF CM T T1 T3 T4 T5 ff fn fm fi fh fu fv fx:Addr} {odf anf odn ann odm anm odi ani odh anh dT dT1 dT3 odu anu odv anv odx anx dT4 dT5:Option Addr} {slf sln slm sli slh sT sT1 sT3 slu slv slx sT4 sT5:Array (Option Value)} {ocf kVf dcf pmf cdf ctf ocn kVn dcn pmn cdn ctn ocm kVm dcm pmm cdm ctm oci kVi dci pmi cdi cti och kVh dch pmh cdh cth oT oT1 oT3 ocu kVu dcu pmu cdu ctu ocv kVv dcv pmv cdv' ctv ocx kVx dcx pmx cdx ctx oT4 oT5:Value} {nT nT1 nT3 nT4 nT5:Nat} {tk tk1' tk3 tk4 tk5:Tok}
  (a1:W.nsIn K mainGlobals "words_in"=some (some (.ref f1))) (l1:K.lookup f1=some ⟨oc1,od1,.func (W.fnOf "words_in" "words_in" (aA lC) (aj lC) (ae lC) .none kV1 dc1 pm1 an1 cd1 ct1),sl1⟩) (c1:W.codeIn K cd1 "words_in"=true) (k1:W.keepIn K (.ref f1)=true)
  (a2:W.nsIn K mainGlobals "names_in"=some (some (.ref f2))) (l2:K.lookup f2=some ⟨oc2,od2,.func (W.fnOf "names_in" "names_in" (aA kY) (aj kY) (ae kY) .none kV2 dc2 pm2 an2 cd2 ct2),sl2⟩) (c2:W.codeIn K cd2 "names_in"=true) (k2:W.keepIn K (.ref f2)=true)
  (a3:W.nsIn K mainGlobals "put"=some (some (.ref f3))) (l3:K.lookup f3=some ⟨oc3,od3,.func (W.fnOf "put" "put" (aA zB) (aj zB) (ae zB) .none kV3 dc3 pm3 an3 cd3 ct3),sl3⟩) (c3:W.codeIn K cd3 "put"=true) (k3:W.keepIn K (.ref f3)=true)
  (a4:W.nsIn K mainGlobals "bounded"=some (some (.ref f4))) (l4:K.lookup f4=some ⟨oc4,od4,.func (W.fnOf "bounded" "bounded" (aA gu) (aj gu) (ae gu) .none kV4 dc4 pm4 an4 cd4 ct4),sl4⟩) (c4:W.codeIn K cd4 "bounded"=true) (k4:W.keepIn K (.ref f4)=true)
  (a5:W.nsIn K mainGlobals "told_kind"=some (some (.ref f5))) (l5:K.lookup f5=some ⟨oc5,od5,.func (W.fnOf "told_kind" "told_kind" (aA dW) (aj dW) (ae dW) .none kV5 dc5 pm5 an5 cd5 ct5),sl5⟩) (c5:W.codeIn K cd5 "told_kind"=true) (k5:W.keepIn K (.ref f5)=true)
  (a6:W.nsIn K mainGlobals "own_name"=some (some (.ref f6))) (l6:K.lookup f6=some ⟨oc6,od6,.func (W.fnOf "own_name" "own_name" (aA zr) (aj zr) (ae zr) .none kV6 dc6 pm6 an6 cd6 ct6),sl6⟩) (c6:W.codeIn K cd6 "own_name"=true) (k6:W.keepIn K (.ref f6)=true)
  (a7:W.nsIn K mainGlobals "put_in_face"=some (some (.ref f7))) (l7:K.lookup f7=some ⟨oc7,od7,.func (W.fnOf "put_in_face" "put_in_face" (aA cK) (aj cK) (ae cK) .none kV7 dc7 pm7 an7 cd7 ct7),sl7⟩) (c7:W.codeIn K cd7 "put_in_face"=true) (k7:W.keepIn K (.ref f7)=true)
  (a8:W.nsIn K mainGlobals "put_in_fun"=some (some (.ref f8))) (l8:K.lookup f8=some ⟨oc8,od8,.func (W.fnOf "put_in_fun" "put_in_fun" (aA jk) (aj jk) (ae jk) .none kV8 dc8 pm8 an8 cd8 ct8),sl8⟩) (c8:W.codeIn K cd8 "put_in_fun"=true) (k8:W.keepIn K (.ref f8)=true)
  (a9:W.nsIn K mainGlobals "refined"=some (some (.ref f9))) (l9:K.lookup f9=some ⟨oc9,od9,.func (W.fnOf "refined" "refined" (aA gF) (aj gF) (ae gF) .none kV9 dc9 pm9 an9 cd9 ct9),sl9⟩) (c9:W.codeIn K cd9 "refined"=true) (k9:W.keepIn K (.ref f9)=true)
  (a10:W.nsIn K mainGlobals "take_opened"=some (some (.ref f10))) (l10:K.lookup f10=some ⟨oc10,od10,.func (W.fnOf "take_opened" "take_opened" (aA bB) (aj bB) (ae bB) .none kV10 dc10 pm10 an10 cd10 ct10),sl10⟩) (c10:W.codeIn K cd10 "take_opened"=true) (k10:W.keepIn K (.ref f10)=true)
  (a11:W.nsIn K mainGlobals "add_once"=some (some (.ref f11))) (l11:K.lookup f11=some ⟨oc11,od11,.func (W.fnOf "add_once" "add_once" (aA gw) (aj gw) (ae gw) .none kV11 dc11 pm11 an11 cd11 ct11),sl11⟩) (c11:W.codeIn K cd11 "add_once"=true) (k11:W.keepIn K (.ref f11)=true)
  (a12:W.nsIn K mainGlobals "wanted"=some (some (.ref f12))) (l12:K.lookup f12=some ⟨oc12,od12,.func (W.fnOf "wanted" "wanted" (aA i7) (aj i7) (ae i7) .none kV12 dc12 pm12 an12 cd12 ct12),sl12⟩) (c12:W.codeIn K cd12 "wanted"=true) (k12:W.keepIn K (.ref f12)=true)
  (a13:W.nsIn K mainGlobals "told_with"=some (some (.ref f13))) (l13:K.lookup f13=some ⟨oc13,od13,.func (W.fnOf "told_with" "told_with" (aA fU) (aj fU) (ae fU) .none kV13 dc13 pm13 an13 cd13 ct13),sl13⟩) (c13:W.codeIn K cd13 "told_with"=true) (k13:W.keepIn K (.ref f13)=true)
  (a14:W.nsIn K mainGlobals "hidden_by"=some (some (.ref f14))) (l14:K.lookup f14=some ⟨oc14,od14,.func (W.fnOf "hidden_by" "hidden_by" (aA fV) (aj fV) (ae fV) .none kV14 dc14 pm14 an14 cd14 ct14),sl14⟩) (c14:W.codeIn K cd14 "hidden_by"=true) (k14:W.keepIn K (.ref f14)=true)
  (a15:W.nsIn K mainGlobals "maker_of"=some (some (.ref f15))) (l15:K.lookup f15=some ⟨oc15,od15,.func (W.fnOf "maker_of" "maker_of" (aA gD) (aj gD) (ae gD) .none kV15 dc15 pm15 an15 cd15 ct15),sl15⟩) (c15:W.codeIn K cd15 "maker_of"=true) (k15:W.keepIn K (.ref f15)=true)
  (a16:W.nsIn K mainGlobals "known_within"=some (some (.ref f16))) (l16:K.lookup f16=some ⟨oc16,od16,.func (W.fnOf "known_within" "known_within" (aA i9) (aj i9) (ae i9) .none kV16 dc16 pm16 an16 cd16 ct16),sl16⟩) (c16:W.codeIn K cd16 "known_within"=true) (k16:W.keepIn K (.ref f16)=true)
  (a17:W.nsIn K mainGlobals "_law_cell"=some (some (.ref f17))) (l17:K.lookup f17=some ⟨oc17,od17,.func (W.fnOf "_law_cell" "_law_cell" (aA rS) (aj rS) (ae rS) .none kV17 dc17 pm17 an17 cd17 ct17),sl17⟩) (c17:W.codeIn K cd17 "_law_cell"=true) (k17:W.keepIn K (.ref f17)=true)
  (a18:W.nsIn K mainGlobals "_law_word"=some (some (.ref f18))) (l18:K.lookup f18=some ⟨oc18,od18,.func (W.fnOf "_law_word" "_law_word" (aA lO) (aj lO) (ae lO) .none kV18 dc18 pm18 an18 cd18 ct18),sl18⟩) (c18:W.codeIn K cd18 "_law_word"=true) (k18:W.keepIn K (.ref f18)=true)
  (a19:W.nsIn K mainGlobals "_law_mix"=some (some (.ref f19))) (l19:K.lookup f19=some ⟨oc19,od19,.func (W.fnOf "_law_mix" "_law_mix" (aA zp) (aj zp) (ae zp) .none kV19 dc19 pm19 an19 cd19 ct19),sl19⟩) (c19:W.codeIn K cd19 "_law_mix"=true) (k19:W.keepIn K (.ref f19)=true)
  (a20:W.nsIn K mainGlobals "_law_put"=some (some (.ref f20))) (l20:K.lookup f20=some ⟨oc20,od20,.func (W.fnOf "_law_put" "_law_put" (aA r6) (aj r6) (ae r6) .none kV20 dc20 pm20 an20 cd20 ct20),sl20⟩) (c20:W.codeIn K cd20 "_law_put"=true) (k20:W.keepIn K (.ref f20)=true)
  (a21:W.nsIn K mainGlobals "_law_alike"=some (some (.ref f21))) (l21:K.lookup f21=some ⟨oc21,od21,.func (W.fnOf "_law_alike" "_law_alike" (aA lN) (aj lN) (ae lN) .none kV21 dc21 pm21 an21 cd21 ct21),sl21⟩) (c21:W.codeIn K cd21 "_law_alike"=true) (k21:W.keepIn K (.ref f21)=true)
  (a22:W.nsIn K mainGlobals "_law_same"=some (some (.ref f22))) (l22:K.lookup f22=some ⟨oc22,od22,.func (W.fnOf "_law_same" "_law_same" (aA sJ) (aj sJ) (ae sJ) .none kV22 dc22 pm22 an22 cd22 ct22),sl22⟩) (c22:W.codeIn K cd22 "_law_same"=true) (k22:W.keepIn K (.ref f22)=true)
  (a23:W.nsIn K mainGlobals "_law_face"=some (some (.ref f23))) (l23:K.lookup f23=some ⟨oc23,od23,.func (W.fnOf "_law_face" "_law_face" (aA lZ) (aj lZ) (ae lZ) .none kV23 dc23 pm23 an23 cd23 ct23),sl23⟩) (c23:W.codeIn K cd23 "_law_face"=true) (k23:W.keepIn K (.ref f23)=true)
  (a24:W.nsIn K mainGlobals "_law_hidden"=some (some (.ref f24))) (l24:K.lookup f24=some ⟨oc24,od24,.func (W.fnOf "_law_hidden" "_law_hidden" (aA gH) (aj gH) (ae gH) .none kV24 dc24 pm24 an24 cd24 ct24),sl24⟩) (c24:W.codeIn K cd24 "_law_hidden"=true) (k24:W.keepIn K (.ref f24)=true)
  (a25:W.nsIn K mainGlobals "_law_put_all"=some (some (.ref f25))) (l25:K.lookup f25=some ⟨oc25,od25,.func (W.fnOf "_law_put_all" "_law_put_all" (aA iU) (aj iU) (ae iU) .none kV25 dc25 pm25 an25 cd25 ct25),sl25⟩) (c25:W.codeIn K cd25 "_law_put_all"=true) (k25:W.keepIn K (.ref f25)=true)
  (a26:W.nsIn K mainGlobals "_law_hiding"=some (some (.ref f26))) (l26:K.lookup f26=some ⟨oc26,od26,.func (W.fnOf "_law_hiding" "_law_hiding" (aA jd) (aj jd) (ae jd) .none kV26 dc26 pm26 an26 cd26 ct26),sl26⟩) (c26:W.codeIn K cd26 "_law_hiding"=true) (k26:W.keepIn K (.ref f26)=true)
  (a27:W.nsIn K mainGlobals "_law_know"=some (some (.ref f27))) (l27:K.lookup f27=some ⟨oc27,od27,.func (W.fnOf "_law_know" "_law_know" (aA se) (aj se) (ae se) .none kV27 dc27 pm27 an27 cd27 ct27),sl27⟩) (c27:W.codeIn K cd27 "_law_know"=true) (k27:W.keepIn K (.ref f27)=true)
  (a28:W.nsIn K mainGlobals "_law_size"=some (some (.ref f28))) (l28:K.lookup f28=some ⟨oc28,od28,.func (W.fnOf "_law_size" "_law_size" (aA rT) (aj rT) (ae rT) .none kV28 dc28 pm28 an28 cd28 ct28),sl28⟩) (c28:W.codeIn K cd28 "_law_size"=true) (k28:W.keepIn K (.ref f28)=true)
  (a29:W.nsIn K mainGlobals "_law_far"=some (some (.ref f29))) (l29:K.lookup f29=some ⟨oc29,od29,.func (W.fnOf "_law_far" "_law_far" (aA zw) (aj zw) (ae zw) .none kV29 dc29 pm29 an29 cd29 ct29),sl29⟩) (c29:W.codeIn K cd29 "_law_far"=true) (k29:W.keepIn K (.ref f29)=true)
  (a30:W.nsIn K mainGlobals "_law_withs"=some (some (.ref f30))) (l30:K.lookup f30=some ⟨oc30,od30,.func (W.fnOf "_law_withs" "_law_withs" (aA ly) (aj ly) (ae ly) .none kV30 dc30 pm30 an30 cd30 ct30),sl30⟩) (c30:W.codeIn K cd30 "_law_withs"=true) (k30:W.keepIn K (.ref f30)=true)
  (a31:W.nsIn K mainGlobals "_law_formals"=some (some (.ref f31))) (l31:K.lookup f31=some ⟨oc31,od31,.func (W.fnOf "_law_formals" "_law_formals" (aA gE) (aj gE) (ae gE) .none kV31 dc31 pm31 an31 cd31 ct31),sl31⟩) (c31:W.codeIn K cd31 "_law_formals"=true) (k31:W.keepIn K (.ref f31)=true)
  (a32:W.nsIn K mainGlobals "_law_items"=some (some (.ref f32))) (l32:K.lookup f32=some ⟨oc32,od32,.func (W.fnOf "_law_items" "_law_items" (aA iq) (aj iq) (ae iq) .none kV32 dc32 pm32 an32 cd32 ct32),sl32⟩) (c32:W.codeIn K cd32 "_law_items"=true) (k32:W.keepIn K (.ref f32)=true)
  (a33:W.nsIn K mainGlobals "_law_opened_at"=some (some (.ref f33))) (l33:K.lookup f33=some ⟨oc33,od33,.func (W.fnOf "_law_opened_at" "_law_opened_at" (aA fJ) (aj fJ) (ae fJ) .none kV33 dc33 pm33 an33 cd33 ct33),sl33⟩) (c33:W.codeIn K cd33 "_law_opened_at"=true) (k33:W.keepIn K (.ref f33)=true)
  (a34:W.nsIn K mainGlobals "_law_opened"=some (some (.ref f34))) (l34:K.lookup f34=some ⟨oc34,od34,.func (W.fnOf "_law_opened" "_law_opened" (aA iY) (aj iY) (ae iY) .none kV34 dc34 pm34 an34 cd34 ct34),sl34⟩) (c34:W.codeIn K cd34 "_law_opened"=true) (k34:W.keepIn K (.ref f34)=true)
  (a35:W.nsIn K mainGlobals "_law_seal"=some (some (.ref f35))) (l35:K.lookup f35=some ⟨oc35,od35,.func (W.fnOf "_law_seal" "_law_seal" (aA sj) (aj sj) (ae sj) .none kV35 dc35 pm35 an35 cd35 ct35),sl35⟩) (c35:W.codeIn K cd35 "_law_seal"=true) (k35:W.keepIn K (.ref f35)=true)
  (a36:W.nsIn K mainGlobals "_law_told"=some (some (.ref f36))) (l36:K.lookup f36=some ⟨oc36,od36,.func (W.fnOf "_law_told" "_law_told" (aA lP) (aj lP) (ae lP) .none kV36 dc36 pm36 an36 cd36 ct36),sl36⟩) (c36:W.codeIn K cd36 "_law_told"=true) (k36:W.keepIn K (.ref f36)=true)
  (a37:W.nsIn K mainGlobals "law"=some (some (.ref f37))) (l37:K.lookup f37=some ⟨oc37,od37,.func (W.fnOf "law" "law" (aA pS) (aj pS) (ae pS) .none kV37 dc37 pm37 an37 cd37 ct37),sl37⟩) (c37:W.codeIn K cd37 "law"=true) (k37:W.keepIn K (.ref f37)=true)
  (aF:W.nsIn K mainGlobals "Face"=some (some (.ref CF)))
  (af:W.nsIn K mainGlobals "fitted"=some (some (.ref ff)))
  (lf:K.lookup ff=some ⟨ocf,odf,.func (W.fnOf "fitted" "fitted" (aA bL) (aj bL) (ae bL) (.ref T) kVf dcf pmf anf cdf ctf),slf⟩)
  (cf:W.codeIn K cdf "fitted"=true)
  (kf:W.keepIn K (.ref ff)=true)
  (lT:K.lookup T=some ⟨oT,dT,.seq #[.str "" tk] nT,sT⟩)
  (an:W.nsIn K mainGlobals "normal"=some (some (.ref fn)))
  (ln:K.lookup fn=some ⟨ocn,odn,.func (W.fnOf "normal" "normal" (aA ei) (aj ei) (ae ei) (.ref T1) kVn dcn pmn ann cdn ctn),sln⟩)
  (cn:W.codeIn K cdn "normal"=true)
  (kn:W.keepIn K (.ref fn)=true)
  (lT1:K.lookup T1=some ⟨oT1,dT1,.seq #[.int 40 tk1'] nT1,sT1⟩)
  (im:W.findIn K (.ref CF) "put"=some (some (.ref fm)))
  (lm:K.lookup fm=some ⟨ocm,odm,.func (W.fnOf "put" "Face.put" (aA fW) (aj fW) (ae fW) (.ref T3) kVm dcm pmm anm cdm ctm),slm⟩)
  (cm:W.codeIn K cdm "Face.put"=true)
  (km:W.keepIn K (.ref fm)=true)
  (tm:W.isFn K (.ref fm)=true)
  (lT3:K.lookup T3=some ⟨oT3,dT3,.seq #[.int 40 tk3] nT3,sT3⟩)
  (ih:W.findIn K (.ref CF) "hidden"=some (some (.ref fh)))
  (lh:K.lookup fh=some ⟨och,odh,.func (W.fnOf "hidden" "Face.hidden" (aA jp) (aj jp) (ae jp) .none kVh dch pmh anh cdh cth),slh⟩)
  (ch:W.codeIn K cdh "Face.hidden"=true)
  (kh:W.keepIn K (.ref fh)=true)
  (th:W.isFn K (.ref fh)=true)
  (iF:W.findIn K (.ref CF) "__init__"=some (some (.ref fi)))
  (li:K.lookup fi=some ⟨oci,odi,.func (W.fnOf "__init__" "Face.__init__" (aA rO) (aj rO) (ae rO) .none kVi dci pmi ani cdi cti),sli⟩)
  (ci:W.codeIn K cdi "Face.__init__"=true)
  (ki:W.keepIn K (.ref fi)=true)
  (tF:W.isFn K (.ref fi)=true)
  (mk:W.makesIn K CF=true)
  (kF:W.keepIn K (.ref CF)=true)
  (pg:W.plainGet K CF Str.empty=true)
  (hd:W.hasDictIn K CF=true)
  (po:W.plainOver K CF=true)
  (sa:W.findIn K (.ref CF) "__setattr__"=some (some (.builtin "object.__setattr__")))
  (nK:W.findIn K (.ref CF) "kinds"=some none)
  (nF:W.findIn K (.ref CF) "funs"=some none)
  (sp:W.specialIn K (.builtin "object.__class__") "__get__"=some (some (.builtin "getset_descriptor.__get__")))
  (clF:W.findIn K (.ref CF) "__class__"=some (some (.builtin "object.__class__")))
  (obF:W.mroIn K CF (.type "object")=some true)
  (j5:W.kitOne K (.ref CF) (.ref CF)=some true)
  (tk1:W.takesIn K (.builtin "object.__class__")=some true)
  (aM:W.nsIn K mainGlobals "Maker"=some (some (.ref CM)))
  (au:W.nsIn K mainGlobals "full_face"=some (some (.ref fu)))
  (lu:K.lookup fu=some ⟨ocu,odu,.func (W.fnOf "full_face" "full_face" (aA cP) (aj cP) (ae cP) (.ref T4) kVu dcu pmu anu cdu ctu),slu⟩)
  (cu:W.codeIn K cdu "full_face"=true)
  (ku:W.keepIn K (.ref fu)=true)
  (lT4:K.lookup T4=some ⟨oT4,dT4,.seq #[.int 40 tk4] nT4,sT4⟩)
  (av:W.nsIn K mainGlobals "take_item"=some (some (.ref fv)))
  (lv:K.lookup fv=some ⟨ocv,odv,.func (W.fnOf "take_item" "take_item" (aA cZ) (aj cZ) (ae cZ) (.ref T5) kVv dcv pmv anv cdv' ctv),slv⟩)
  (cv:W.codeIn K cdv' "take_item"=true)
  (kv:W.keepIn K (.ref fv)=true)
  (lT5:K.lookup T5=some ⟨oT5,dT5,.seq #[.int 40 tk5] nT5,sT5⟩)
  (iX:W.findIn K (.ref CM) "__init__"=some (some (.ref fx)))
  (lx:K.lookup fx=some ⟨ocx,odx,.func (W.fnOf "__init__" "Maker.__init__" (aA lH) (aj lH) (ae lH) .none kVx dcx pmx anx cdx ctx),slx⟩)
  (cx:W.codeIn K cdx "Maker.__init__"=true)
  (kx:W.keepIn K (.ref fx)=true)
  (tX:W.isFn K (.ref fx)=true)
  (mkX:W.makesIn K CM=true)
  (kM:W.keepIn K (.ref CM)=true)
  (pgM:W.plainGet K CM Str.empty=true)
  (hdM':W.hasDictIn K CM=true)
  (poM:W.plainOver K CM=true)
  (saM:W.findIn K (.ref CM) "__setattr__"=some (some (.builtin "object.__setattr__")))
  (nfM:W.findIn K (.ref CM) "formals"=some none)
  (nrM:W.findIn K (.ref CM) "result"=some none)
  (z1:W.nsIn K mainGlobals "len"=some none)
  (z2:W.nsIn K mainGlobals "list"=some none)
  (z3:W.nsIn K mainGlobals "range"=some none)
  (z4:W.nsIn K mainGlobals "dict"=some none)
  (z5:W.nsIn K mainGlobals "tuple"=some none)
  (z6:W.nsIn K mainGlobals "int"=some none)
  (z7:W.nsIn K mainGlobals "isinstance"=some none)
  (z8:W.nsIn K mainGlobals "str"=some none)
  (z9:W.nsIn K mainGlobals "bool"=some none)
  (z10:W.nsIn K mainGlobals "all"=some none)
  (z11:W.nsIn K mainGlobals "zip"=some none) :
  ∃fd:FuncData,(∀(s:Shared) (v:Value),BindsTo s fd ⟨[v],[]⟩ [("_law_script",v)])/\∀base:Heap,K.In base->base.Ns mainGlobals mg->cE l.prog w K mg base CX0 48 fa fd ["_law_script"] (wV K):=by
 have e:=hfa.symm.trans (W.mg_of X G a37)
 cases e
 have n1:=W.mg_none_of X G z1
 have n2:=W.mg_none_of X G z2
 have n3:=W.mg_none_of X G z3
 have n4:=W.mg_none_of X G z4
 have n5:=W.mg_none_of X G z5
 have n6:=W.mg_none_of X G z6
 have n7:=W.mg_none_of X G z7
 have n8:=W.mg_none_of X G z8
 have n9:=W.mg_none_of X G z9
 have n10:=W.mg_none_of X G z10
 have n11:=W.mg_none_of X G z11
 have m1:=W.mg_of X G a1
 have m2:=W.mg_of X G a2
 have m3:=W.mg_of X G a3
 have m4:=W.mg_of X G a4
 have m5:=W.mg_of X G a5
 have m6:=W.mg_of X G a6
 have m7:=W.mg_of X G a7
 have m8:=W.mg_of X G a8
 have m9:=W.mg_of X G a9
 have m10:=W.mg_of X G a10
 have m11:=W.mg_of X G a11
 have m12:=W.mg_of X G a12
 have m13:=W.mg_of X G a13
 have m14:=W.mg_of X G a14
 have m15:=W.mg_of X G a15
 have m16:=W.mg_of X G a16
 have m17:=W.mg_of X G a17
 have m18:=W.mg_of X G a18
 have m19:=W.mg_of X G a19
 have m20:=W.mg_of X G a20
 have m21:=W.mg_of X G a21
 have m22:=W.mg_of X G a22
 have m23:=W.mg_of X G a23
 have m24:=W.mg_of X G a24
 have m25:=W.mg_of X G a25
 have m26:=W.mg_of X G a26
 have m27:=W.mg_of X G a27
 have m28:=W.mg_of X G a28
 have m29:=W.mg_of X G a29
 have m30:=W.mg_of X G a30
 have m31:=W.mg_of X G a31
 have m32:=W.mg_of X G a32
 have m33:=W.mg_of X G a33
 have m34:=W.mg_of X G a34
 have m35:=W.mg_of X G a35
 have m36:=W.mg_of X G a36
 have m37:=W.mg_of X G a37
 have F1:=bi (st:=lC) l1 c1 k1
 have F2:=bi (st:=kY) l2 c2 k2
 have F3:=bi (st:=zB) l3 c3 k3
 have F4:=bi (st:=gu) l4 c4 k4
 have F5:=bi (st:=dW) l5 c5 k5
 have F6:=bi (st:=zr) l6 c6 k6
 have F7:=bi (st:=cK) l7 c7 k7
 have F8:=bi (st:=jk) l8 c8 k8
 have F9:=bi (st:=gF) l9 c9 k9
 have F10:=bi (st:=bB) l10 c10 k10
 have F11:=bi (st:=gw) l11 c11 k11
 have F12:=bi (st:=i7) l12 c12 k12
 have F13:=bi (st:=fU) l13 c13 k13
 have F14:=bi (st:=fV) l14 c14 k14
 have F15:=bi (st:=gD) l15 c15 k15
 have F16:=bi (st:=i9) l16 c16 k16
 have F17:=bi (st:=rS) l17 c17 k17
 have F18:=bi (st:=lO) l18 c18 k18
 have F19:=bi (st:=zp) l19 c19 k19
 have F20:=bi (st:=r6) l20 c20 k20
 have F21:=bi (st:=lN) l21 c21 k21
 have F22:=bi (st:=sJ) l22 c22 k22
 have F23:=bi (st:=lZ) l23 c23 k23
 have F24:=bi (st:=gH) l24 c24 k24
 have F25:=bi (st:=iU) l25 c25 k25
 have F26:=bi (st:=jd) l26 c26 k26
 have F27:=bi (st:=se) l27 c27 k27
 have F28:=bi (st:=rT) l28 c28 k28
 have F29:=bi (st:=zw) l29 c29 k29
 have F30:=bi (st:=ly) l30 c30 k30
 have F31:=bi (st:=gE) l31 c31 k31
 have F32:=bi (st:=iq) l32 c32 k32
 have F33:=bi (st:=fJ) l33 c33 k33
 have F34:=bi (st:=iY) l34 c34 k34
 have F35:=bi (st:=sj) l35 c35 k35
 have F36:=bi (st:=lP) l36 c36 k36
 have F37:=bi (st:=pS) l37 c37 k37
 have b1:=F1.bb (ps:=["kind"])
 have b2:=F2.bb (ps:=["kind"])
 have b3:=F3.bb (ps:=["kind","given"])
 have b4:=F4.bb (ps:=["kind","most"])
 have b5:=F5.bb (ps:=["part","word","own","parts"])
 have b6:=F6.bb (ps:=["word"])
 have b7:=F7.bb (ps:=["face","given"])
 have b8:=F8.bb (ps:=["fun","given"])
 have b9:=F9.bb (ps:=["face","withs"])
 have b10:=F10.bb (ps:=["full","part","parts"])
 have b11:=F11.bb (ps:=["told","word","what"])
 have b12:=F12.bb (ps:=["seal","faces","parts"])
 have b13:=F13.bb (ps:=["want","part"])
 have b14:=F14.bb (ps:=["want","part"])
 have b15:=F15.bb (ps:=["declaration","faces","parts"])
 have b16:=F16.bb (ps:=["formals","parts"])
 have b17:=F17.bb (ps:=["_law_script","_law_k"])
 have b18:=F18.bb (ps:=["_law_cell_here","_law_k"])
 have b19:=F19.bb (ps:=["_law_cell_here","_law_leaves"])
 have b20:=F20.bb (ps:=["_law_kind","_law_given"])
 have b21:=F21.bb (ps:=["_law_found","_law_due"])
 have b22:=F22.bb (ps:=["_law_face_here","_law_kinds","_law_funs"])
 have b23:=F23.bb (ps:=["_law_script","_law_at","_law_shift","_law_leaves"])
 have b24:=F24.bb (ps:=["_law_kinds"])
 have b25:=F25.bb (ps:=["_law_face_here","_law_given"])
 have b26:=F26.bb (ps:=["_law_face_here","_law_part"])
 have b27:=F27.bb (ps:=["_law_names","_law_part","_law_face_here"])
 have b28:=F28.bb (ps:=["_law_kind"])
 have b29:=F29.bb (ps:=["_law_names"])
 have b30:=F30.bb (ps:=["_law_cells","_law_hidden_here","_law_names"])
 have b31:=F31.bb (ps:=["_law_script","_law_words","_law_some","_law_names"])
 have b32:=F32.bb (ps:=["_law_script","_law_words","_law_result","_law_names"])
 have b33:=F33.bb (ps:=["_law_script","_law_wants"])
 have b34:=F34.bb (ps:=["_law_script","_law_words","_law_wants","_law_got"])
 have b35:=F35.bb (ps:=["_law_script","_law_words","_law_result","_law_made","_law_names"])
 have b36:=F36.bb (ps:=["_law_maker","_law_wants","_law_due"])
 refine⟨W.fnOf "law" "law" (aA pS) (aj pS) (ae pS) .none kV37 dc37 pm37 an37 cd37 ct37,λs v=>.of_eq rfl,λbase _ _=>?_⟩
 have FF:jU K "fitted" "fitted" bL (.ref T) ff (W.fnOf "fitted" "fitted" (aA bL) (aj bL) (ae bL) (.ref T) kVf dcf pmf anf cdf ctf):=⟨⟨ocf,odf,kVf,dcf,pmf,anf,cdf,ctf,slf,rfl,lf,cf⟩,kf⟩
 have FNo:jU K "normal" "normal" ei (.ref T1) fn (W.fnOf "normal" "normal" (aA ei) (aj ei) (ae ei) (.ref T1) kVn dcn pmn ann cdn ctn):=⟨⟨ocn,odn,kVn,dcn,pmn,ann,cdn,ctn,sln,rfl,ln,cn⟩,kn⟩
 have FM:jU K "put" "Face.put" fW (.ref T3) fm (W.fnOf "put" "Face.put" (aA fW) (aj fW) (ae fW) (.ref T3) kVm dcm pmm anm cdm ctm):=⟨⟨ocm,odm,kVm,dcm,pmm,anm,cdm,ctm,slm,rfl,lm,cm⟩,km⟩
 have Fi:=bi (st:=rO) li ci ki
 have bI:=Fi.binds (ps:=["self","kinds","funs"]) (by intro _ _ _ _ _ _ us hl;(repeat(obtain⟨_,_,rfl,z⟩:=lo hl;clear hl;have hl:=z;clear z));cases List.length_eq_zero_iff.mp hl;rfl)
 have Fh:=bi (st:=jp) lh ch kh
 have bH:=Fh.binds (ps:=["self"]) (by intro _ _ _ _ _ _ us hl;(repeat(obtain⟨_,_,rfl,z⟩:=lo hl;clear hl;have hl:=z;clear z));cases List.length_eq_zero_iff.mp hl;rfl)
 have MF:Mk K CF fi:=⟨mk,iF,tF,kF⟩
 have MH:vK K CF "hidden" fh:=⟨ih,th,kh⟩
 have MM:vK K CF "put" fm:=⟨im,tm,km⟩
 have cF:Cls K CF:=⟨pg,hd,po,sa⟩
 have FU:jU K "full_face" "full_face" cP (.ref T4) fu (W.fnOf "full_face" "full_face" (aA cP) (aj cP) (ae cP) (.ref T4) kVu dcu pmu anu cdu ctu):=⟨⟨ocu,odu,kVu,dcu,pmu,anu,cdu,ctu,slu,rfl,lu,cu⟩,ku⟩
 have FV:jU K "take_item" "take_item" cZ (.ref T5) fv (W.fnOf "take_item" "take_item" (aA cZ) (aj cZ) (ae cZ) (.ref T5) kVv dcv pmv anv cdv' ctv):=⟨⟨ocv,odv,kVv,dcv,pmv,anv,cdv',ctv,slv,rfl,lv,cv⟩,kv⟩
 have Fx:=bi (st:=lH) lx cx kx
 have bX:=Fx.binds (ps:=["self","formals","result"]) (by intro _ _ _ _ _ _ us hl;(repeat(obtain⟨_,_,rfl,z⟩:=lo hl;clear hl;have hl:=z;clear z));cases List.length_eq_zero_iff.mp hl;rfl)
 have MMk:Mk K CM fx:=⟨mkX,iX,tX,kM⟩
 have cM':Cls K CM:=⟨pgM,hdM',poM,saM⟩
 have GWi:=wJ (P:=l.prog) (w:=w) (base:=base) (mg:=mg) F1 n1
 have GNa:=wI (P:=l.prog) (w:=w) (base:=base) (mg:=mg) F2 n1 n2
 have GP:=xv (P:=l.prog) (w:=w) (base:=base) (mg:=mg) F3 b3 k3 m3 40
 have GB:=sV (CT:=CF) F4 ⟨GWi,b1,k1,m1⟩
 have GTK:=o5 (P:=l.prog) (w:=w) (base:=base) (mg:=mg) (CN:=CF) F5 cF nK
 have GNo:=uV FNo ⟨GNa,b2,k2,m2⟩ ⟨GP,b3,k3,m3⟩ ⟨GB,b4,k4,m4⟩ ⟨GTK,b5,k5,m5⟩
 have GO:=Ah (P:=l.prog) (w:=w) (base:=base) (mg:=mg) F6
 have GPF:=tM F8 ⟨GP,b3,k3,m3⟩ n5
 have GI:=wB (P:=l.prog) (w:=w) (base:=base) (mg:=mg) Fi cF nK nF n4
 have GFa:=rQ F7 ⟨GP,b3,k3,m3⟩ ⟨GPF,b8,k8,m8⟩ GI bI MF (W.mg_of X G aF) cF nK nF
 have GH:=vD Fh ⟨GO,b6,k6,m6⟩ cF nK
 have GFi:=tV (CN:=CF) FF ⟨GP,b3,k3,m3⟩ ⟨GPF,b8,k8,m8⟩ MH GH bH cF nK nF
 have GM:=yD FM ⟨GFa,b7,k7,m7⟩ ⟨GB,b4,k4,m4⟩ cF nK nF
 have GR:=rZ (CN:=CF) F9 GI bI MF (W.mg_of X G aF) cF nK nF GH bH MH FM lT3 GM MM
 have GWn:=vn (CA:=CF) F12 ⟨GR,b9,k9,m9⟩ FNo lT1 GNo kn (W.mg_of X G an)
 have GHB:=qc F14 MH GH bH cF
 have GTW:=ph F13 ⟨GFa,b7,k7,m7⟩ ⟨GHB,b14,k14,m14⟩
 have GAo:=Az (P:=l.prog) (w:=w) (base:=base) (mg:=mg) (CW:=CF) F11
 have GTo:=mL (cl:=λ_=>CF) F10 ⟨GAo,b11,k11,m11⟩ cF nK nF
 have GTi:=o9 (cl:=λ_=>CF) FV ⟨GAo,b11,k11,m11⟩ ⟨GNo,(AA FNo lT1),kn,(W.mg_of X G an)⟩ ⟨GTo,b10,k10,m10⟩ cF nK nF n5
 have GFu:=za FU ⟨GTi,(zI FV lT5),kv,(W.mg_of X G av)⟩ GI bI MF (W.mg_of X G aF)
 have GKW:=vj F16 ⟨GTW,b13,k13,m13⟩ n4
 have GMi:=wf Fx GI bI MF (W.mg_of X G aF) cF nK nF cM' nfM nrM
 have GMo:=sR (T2:=T) (oT2:=oT) (dT2:=dT) (nT2:=nT) (sT2:=sT) (tk2:=tk) (CN:=CF) (cl:=λ_=>CF) F15 ⟨GWn,b12,k12,m12⟩ ⟨GKW,b16,k16,m16⟩ FU lT4 GFu ku (W.mg_of X G au) ⟨GFi,(Af FF lT),kf,(W.mg_of X G af)⟩ GMi bX MMk (W.mg_of X G aM)
 have GC:=wn (P:=l.prog) (w:=w) (base:=base) (mg:=mg) F17 n1
 have GW:=wR (P:=l.prog) (w:=w) (base:=base) (mg:=mg) F18 n6 n3
 have GMx:=zU (P:=l.prog) (w:=w) (base:=base) (mg:=mg) F19 n1
 have GPL:=uZ (P:=l.prog) (w:=w) (base:=base) (mg:=mg) F20 b20 k20 m20 20
 have GAl:=rF (P:=l.prog) (w:=w) (base:=base) (mg:=mg) F21 b21 k21 m21 n7 n8 n5 n6 n9 n1 n3 n10 42
 have GSm:=yp F22 ⟨GAl,b21,k21,m21⟩ (W.mg_of X G aF) n7 n4 n5 cF nK nF clF sp tk1 obF j5
 have GFc:=zd F23 ⟨GC,b17,k17,m17⟩ ⟨GW,b18,k18,m18⟩ ⟨GMx,b19,k19,m19⟩ n5 n3 n1
 have GHl:=rP (P:=l.prog) (w:=w) (base:=base) (mg:=mg) F24
 have GPA:=tS F25 ⟨GPL,b20,k20,m20⟩ n5
 have GHd:=uo F26 ⟨GHl,b24,k24,m24⟩ ⟨GPA,b25,k25,m25⟩
 have GKn:=yJ (P:=l.prog) (w:=w) (base:=base) (mg:=mg) F27
 have GSz:=uL (P:=l.prog) (w:=w) (base:=base) (mg:=mg) F28 b28 k28 m28 40
 have GFr:=zJ (P:=l.prog) (w:=w) (base:=base) (mg:=mg) F29
 have GWs:=wy F30 ⟨GFr,b29,k29,m29⟩ ⟨GSz,b28,k28,m28⟩ n5 n3 n1
 have GFo:=su F31 ⟨GC,b17,k17,m17⟩ ⟨GWs,b30,k30,m30⟩ ⟨GHl,b24,k24,m24⟩ ⟨GPA,b25,k25,m25⟩ ⟨GKn,b27,k27,m27⟩ ⟨GHd,b26,k26,m26⟩ n5 n3
 have GIt:=xg F32 ⟨GC,b17,k17,m17⟩ ⟨GMx,b19,k19,m19⟩ ⟨GFr,b29,k29,m29⟩ ⟨GPL,b20,k20,m20⟩ ⟨GPA,b25,k25,m25⟩ n5 n3 n1
 have GOa:=o6 F33 ⟨GC,b17,k17,m17⟩ n1
 have GOp:=vF F34 ⟨GC,b17,k17,m17⟩ ⟨GW,b18,k18,m18⟩ ⟨GOa,b33,k33,m33⟩ ⟨GHd,b26,k26,m26⟩
 have GSl:=xU F35 ⟨GC,b17,k17,m17⟩ ⟨GHl,b24,k24,m24⟩ ⟨GPL,b20,k20,m20⟩ ⟨GPA,b25,k25,m25⟩ n5 n3 n1
 have GTl:=vR F36 ⟨GSm,b22,k22,m22⟩ cM' nfM nrM n7 n2 n5 n1 n11
 exact zS F37 ⟨GSm,b22,k22,m22⟩ ⟨GTl,b36,k36,m36⟩ ⟨GMo,b15,k15,m15⟩ n2 n4 n5 n3 cF nK cM' nfM nrM GI bI MF (W.mg_of X G aF) ⟨GC,b17,k17,m17⟩ ⟨GW,b18,k18,m18⟩ ⟨GKn,b27,k27,m27⟩ ⟨GFc,b23,k23,m23⟩ ⟨GFo,b31,k31,m31⟩ ⟨GOp,b34,k34,m34⟩ ⟨GIt,b32,k32,m32⟩ ⟨GSl,b35,k35,m35⟩
theorem walk{l:W.OpenLaw}{q:Program}{loose:List Str}{XP:(Str->Option Value)->Heap->Prop}{YP:World->Heap->Prop}{d:DefRec}{K:Params->W.Frag}(hn:l.most=some 63)(hdf:d.params.defaults=[])
  (hY:∀(w:World) (h:Heap),YP w h->(K w.params).In h)
  (F:∀(w:World) (mg:Str->Option Value) (fa:Addr) (h:Heap),(K w.params).In h->h.Ns mainGlobals mg->mg d.name=some (.ref fa) ->
   ∃fd:FuncData,(∀(s:Shared) (u:Value),BindsTo s fd ⟨[u],[]⟩ [("_law_script",u)])/\∀base:Heap,(K w.params).In base->base.Ns mainGlobals mg->cE l.prog w (K w.params) mg base CX0 48 fa fd ["_law_script"] (wV (K w.params))) :
  W.WalkO q loose XP YP l.row.toRowW d [] (λf vs=>PySem.call f vs) :=
 L2.walk_of (n:=63) (k:=48) (x:="_law_script") (CX:=λ_=>CX0) (sp:=λw=>wV (K w.params)) hn (by decide) hdf ⟨rfl,by decide,by decide,rfl⟩ hY F (λ_ _ a ns hl _ hS=>⟨a,ns,rfl,hS,hl,λ_=>rfl⟩) λ_ _ _ _ _ z=>z
end K44
open PySem PySem.W PyProof.Rows
set_option maxRecDepth 100000 in
theorem PySem.Challenge.cw_sealhouse_k44_makers_holds : PySem.Challenge.rw_sealhouse_k44_makers.Holds := by
 w_on;o_law;z_head;(case hw=>w_witness2)
 k_fill
 refine L2.walk_z (λ_=>rfl) ?_
 refine K44.walk (l:=PySem.Challenge.rw_sealhouse_k44_makers) rfl rfl (λw h Y=>Y) ?F
 case F =>
  intro w mg fa h KX G hmg
  refine' K44.all_mk KX G hmg ?a1 ?l1 ?c1 ?k1 ?a2 ?l2 ?c2 ?k2 ?a3 ?l3 ?c3 ?k3 ?a4 ?l4 ?c4 ?k4 ?a5 ?l5 ?c5 ?k5 ?a6 ?l6 ?c6 ?k6 ?a7 ?l7 ?c7 ?k7 ?a8 ?l8 ?c8 ?k8 ?a9 ?l9 ?c9 ?k9 ?a10 ?l10 ?c10 ?k10 ?a11 ?l11 ?c11 ?k11 ?a12 ?l12 ?c12 ?k12 ?a13 ?l13 ?c13 ?k13 ?a14 ?l14 ?c14 ?k14 ?a15 ?l15 ?c15 ?k15 ?a16 ?l16 ?c16 ?k16 ?a17 ?l17 ?c17 ?k17 ?a18 ?l18 ?c18 ?k18 ?a19 ?l19 ?c19 ?k19 ?a20 ?l20 ?c20 ?k20 ?a21 ?l21 ?c21 ?k21 ?a22 ?l22 ?c22 ?k22 ?a23 ?l23 ?c23 ?k23 ?a24 ?l24 ?c24 ?k24 ?a25 ?l25 ?c25 ?k25 ?a26 ?l26 ?c26 ?k26 ?a27 ?l27 ?c27 ?k27 ?a28 ?l28 ?c28 ?k28 ?a29 ?l29 ?c29 ?k29 ?a30 ?l30 ?c30 ?k30 ?a31 ?l31 ?c31 ?k31 ?a32 ?l32 ?c32 ?k32 ?a33 ?l33 ?c33 ?k33 ?a34 ?l34 ?c34 ?k34 ?a35 ?l35 ?c35 ?k35 ?a36 ?l36 ?c36 ?k36 ?a37 ?l37 ?c37 ?k37 ?aF ?af ?lf ?cf ?kf ?lT ?an ?ln ?cn ?kn ?lT1 ?im ?lm ?cm ?km ?tm ?lT3 ?ih ?lh ?ch ?kh ?th ?iF ?li ?ci ?ki ?tF ?mk ?kF ?pg ?hd ?po ?sa ?nK ?nF ?sp ?clF ?obF ?j5 ?tk1 ?aM ?au ?lu ?cu ?ku ?lT4 ?av ?lv ?cv ?kv ?lT5 ?iX ?lx ?cx ?kx ?tX ?mkX ?kM ?pgM ?hdM' ?poM ?saM ?nfM ?nrM ?z1 ?z2 ?z3 ?z4 ?z5 ?z6 ?z7 ?z8 ?z9 ?z10 ?z11
  (case a1|l1|c1|k1|a2|l2|c2|k2|a3|l3|c3|k3|a4|l4|c4|k4|a5|l5|c5|k5|a6|l6|c6|k6|a7|l7|c7|k7|a8|l8|c8|k8|a9|l9|c9|k9|a10|l10|c10|k10|a11|l11|c11|k11|a12|l12|c12|k12|a13|l13|c13|k13|a14|l14|c14|k14|a15|l15|c15|k15|a16|l16|c16|k16|a17|l17|c17|k17|a18|l18|c18|k18|a19|l19|c19|k19|a20|l20|c20|k20|a21|l21|c21|k21|a22|l22|c22|k22|a23|l23|c23|k23|a24|l24|c24|k24|a25|l25|c25|k25|a26|l26|c26|k26|a27|l27|c27|k27|a28|l28|c28|k28|a29|l29|c29|k29|a30|l30|c30|k30|a31|l31|c31|k31|a32|l32|c32|k32|a33|l33|c33|k33|a34|l34|c34|k34|a35|l35|c35|k35|a36|l36|c36|k36|a37|l37|c37|k37|aF|af|lf|cf|kf|lT|an|ln|cn|kn|lT1|im|lm|cm|km|tm|lT3|ih|lh|ch|kh|th|iF|li|ci|ki|tF|mk|kF|pg|hd|po|sa|nK|nF|sp|clF|obF=>k_is)
  (case j5=>exact rfl)
  (case tk1|aM|au|lu|cu|ku|lT4|av|lv|cv|kv|lT5|iX|lx|cx|kx|tX|mkX|kM|pgM=>k_is)
  (case hdM'=>k_is)
  (case poM|saM|nfM|nrM|z1|z2|z3|z4|z5|z6|z7|z8|z9|z10|z11=>k_is)
#print axioms PySem.Challenge.cw_sealhouse_k44_makers_holds
